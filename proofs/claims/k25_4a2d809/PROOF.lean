import PyProof.Rows.All
import Wide.All
import OpenK.AllK
import Wide.FinOn
import Lean
import PyProof.EqAt
import PyProof.EqKinds
import PyProof.TupleCall
import KE.KRevIter
import PyProof.JoinWalk
import PyProof.CollectIter
import KE.KDictSum
import KE.KSortTup
import OpenK.KRaise
import PyProof.StationsW
import OpenK.KOwn
import KE.KTryMore
import KE.KIsNot
import PyProof.NsDelKeeps
import KE.KIsAll
import PyProof.ExcArgs
import PyProof.ListMulRoad
import PyProof.Rows.SeqMore
import PyProof.FactsAll.tuple_2
import PyProof.ExcInit
import OpenK.KCls
import PyProof.WalkInts
import PyProof.SeqI3
import KE.KIntText
import KE.KEqDict
import KE.KDictOf
import PySem.Challenge.RW_letterrack_k25_whole_the_first_rule
set_option Elab.async false
set_option linter.all false
set_option maxRecDepth 100000
set_option maxHeartbeats 4000000

set_option bootstrap.genMatcherCode false
theorem zsz (n:Nat)(h:n<=1000:=by decide):n<=PySem.sizeLine:=Nat.le_trans h (by decide)
abbrev aa:=@List.length_map
abbrev ac:=@List.getElem?_eq_getElem
abbrev ad:=@PySem.wpAny_bind
abbrev ae:=@decide_eq_false
abbrev af:=@List.getElem?_eq_some_iff
abbrev ag:=@PySem.Heap.get?_push_of_some
abbrev ah:=@decide_eq_true
abbrev ai:=@List.getElem_mem
abbrev al:=@Nat.le_refl
abbrev am:=@PySem.wpAny_pure
abbrev ap:=@Option.some.inj
abbrev av:=@PySem.Heap.lt_size
abbrev aw:=@List.mem_singleton
abbrev ax:=@List.getD_eq_getElem?_getD
abbrev ay:=@List.length_take
abbrev aE:=@Nat.le_of_lt
abbrev aI:=@PySem.boot_len
abbrev aS:=@List.getElem?_map
abbrev aT:=@PySem.Heap.get?_push_size
abbrev a7:=@List.mem_append
abbrev a8:=@Nat.ne_of_lt
abbrev a9:=@List.size_toArray
abbrev a_:=@List.length_append
abbrev ba:=@Bool.false_ne_true
abbrev bb:=@List.mem_cons_of_mem
abbrev bc:=@List.mem_of_getElem?
abbrev be:=@List.take_of_length_le
abbrev bg:=@PySem.F.plainAttrs_str
abbrev bn:=@PyProof.Rows.boot_isinstance
abbrev bo:=@List.take_add_one
abbrev bp:=@List.mem_map
abbrev bq:=@List.mem_cons
abbrev bt:=@List.length_drop
abbrev bu:=@PySem.PassesOwn.never
abbrev bv:=@List.map_cons
abbrev bz:=@List.take_length
abbrev bE:=@List.mem_cons_self
abbrev bP:=@List.mem_append_right
abbrev bS:=@List.map_append
abbrev bX:=@PySem.F.plainAttrs_list
abbrev b5:=@Nat.lt_of_lt_of_le
abbrev b6:=@PySem.W.mg_of
abbrev b7:=@List.length_replicate
abbrev b8:=@Nat.zero_le
abbrev b9:=@Nat.le_trans
abbrev ce:=@Bool.and_eq_true
abbrev ck:=@List.getElem?_append_right
abbrev cn:=@Bool.false_eq_true
abbrev cq:=@of_decide_eq_true
abbrev cv:=@PyProof.Rows.boot_tuple
abbrev cw:=@PySem.W.mg_none_of
abbrev cy:=@List.getElem?_append_left
abbrev cz:=@List.all_eq_true
abbrev cE:=@List.mem_of_mem_take
abbrev cK:=@PySem.wpAny_holding
abbrev cS:=@PySem.Heap.size_push
abbrev c6:=@Int.toNat_natCast
abbrev c8:=@PySem.F.slot_str_lower
abbrev c_:=@PySem.F.type_str_lower
abbrev de:=@PySem.F.slot_list_append
abbrev df:=@PySem.F.type_list_append
abbrev di:=@List.length_cons
abbrev dl:=@PySem.wpAny_mono
abbrev dm:=@List.mem_iff_getElem
abbrev dn:=@List.pairwise_iff_getElem
abbrev dq:=@Option.map_eq_some_iff
abbrev dr:=@Array.length_toList
abbrev du:=@Nat.lt_irrefl
abbrev dv:=@List.mem_or_eq_of_mem_set
abbrev dA:=@PySem.wpAny_truthy_bool
abbrev dC:=@PySem.F.slot_str_join
abbrev dE:=@PySem.F.type_str_join
abbrev dL:=@PySem.W.kia_one
abbrev dP:=@List.length_set
abbrev dS:=@List.filter_append
abbrev d6:=@PySem.Heap.get?_update_other
abbrev d9:=@Nat.lt_succ_of_lt
abbrev eh:=@Nat.le_of_eq
abbrev eB:=@PySem.wpAny_call_entry
abbrev eD:=@List.map_map
abbrev eI:=@List.getElem?_drop
abbrev eJ:=@List.getElem?_set_ne
abbrev eK:=@Nat.mul_le_mul
abbrev eL:=@PySem.F.slot_dict_keyiterator_next
abbrev eP:=@PySem.wpAny_pyIter_list
abbrev eQ:=@List.append_nil
abbrev eR:=@List.nodup_cons
abbrev e6:=@Array.getD_eq_getD_getElem?
abbrev e7:=@List.map_congr_left
abbrev e8:=@List.getElem?_set_self
abbrev e9:=@PySem.wpAny_field
abbrev e_:=@PyProof.Rows.boot_list
abbrev fb:=@Array.getElem?_eq_some_iff
abbrev fe:=@PySem.F.excBase_ValueError
abbrev fg:=@List.lookup_cons
abbrev fh:=@List.getElem_map
abbrev fi:=@List.mem_range
abbrev fk:=@PySem.Heap.get?_update_self
abbrev fm:=@PySem.SeqAt.EqAt.int_int
abbrev fq:=@List.getElem?_eq_none
abbrev ft:=@List.length_filter_le
abbrev fv:=@List.drop_eq_getElem_cons
abbrev fw:=@List.forIn_cons
abbrev fz:=@Ne.symm
abbrev fA:=@PySem.wpAny_newObj_type
abbrev fE:=@PySem.wpAny_typeNameOfWhole_keyiter
abbrev fF:=@Nat.lt_succ_self
abbrev fN:=@List.drop_of_length_le
abbrev fR:=@PyProof.Rows.callWith_type1
abbrev fS:=@PySem.wpAny_Call_Name_kw
abbrev fT:=@List.mem_filter
abbrev f6:=@PySem.wpAny_passesOwn
abbrev f7:=@Bool.eq_iff_iff
abbrev f8:=@List.mem_iff_getElem?
abbrev f_:=@PySem.Obj.isFreed_of_fields
abbrev gc:=@PyProof.Rows.boot_int
abbrev gd:=@PySem.F.excAttr_ValueError
abbrev gf:=@PySem.StrLaws.subAt_one
abbrev gg:=@PySem.wpAny_loadPart_at
abbrev gh:=@PySem.wpAny_call
abbrev gm:=@Array.getElem?_eq_getElem
abbrev gp:=@List.mem_of_mem_drop
abbrev gt:=@List.nodup_nil
abbrev gu:=@List.drop_zero
abbrev gy:=@Option.isSome_iff_exists
abbrev gE:=@PySem.wpAny_typeNameOf_keyiter
abbrev gI:=@List.not_mem_nil
abbrev gL:=@Int.zero_add
abbrev gN:=@PySem.mem_of_lookup
abbrev gS:=@List.replicate_succ
abbrev gT:=@PySem.Heap.get?_update_ne
abbrev gX:=@Array.getElem?_setIfInBounds_ne
abbrev g6:=@Nat.add_sub_cancel_left
abbrev g9:=@PySem.wpAny_callSpecial?_slot
abbrev hJ:=@List.any_cons
abbrev hV:=@PySem.wpAny_attempt
abbrev hX:=@PySem.W.callWith_K
abbrev h8:=@List.find?_cons
abbrev ia:=@Nat.min_eq_left
abbrev ib:=@PySem.Obj.data_mapFields
abbrev ic:=@PySem.wpAny_setField_rec
abbrev ie:=@List.eq_nil_of_length_eq_zero
abbrev ik:=@List.flatten_cons
abbrev im:=@PySem.PassesOwn.leaving
abbrev io:=@PySem.wpAny_setField
abbrev ip:=@PySem.wpAny_seqItems
abbrev iq:=@List.cons_lt_cons_iff
abbrev ir:=@PySem.codeAny_call_builtin
abbrev iA:=@PySem.wpAny_standAt
abbrev iE:=@Bool.not_true
abbrev iF:=@List.filterMap_cons
abbrev iL:=@List.length_reverse
abbrev iN:=@PySem.codeAny_mono
abbrev iO:=@List.getElem?_take_of_lt
abbrev iP:=@PySem.wpAny_comprehension_free
abbrev iS:=@PySem.wpAny_tupleItemsOf
abbrev iX:=@List.map_singleton
abbrev i5:=@List.getElem?_take
abbrev i6:=@PyProof.Rows.boot_sorted
abbrev i7:=@PySem.Heap.IsList.at
abbrev i8:=@List.getElem?_replicate
abbrev i9:=@List.eraseIdx_cons_succ
abbrev ja:=@Nat.lt_trichotomy
abbrev jb:=@PySem.Heap.get?_push_ne
abbrev jn:=@Nat.le_succ
abbrev jp:=@PySem.codeAny_compStart_list
abbrev js:=@PySem.wpAny_nextOf_list_item
abbrev jv:=@List.head?_eq_getElem?
abbrev jI:=@List.filter_eq_nil_iff
abbrev jS:=@Int.ofNat.inj
abbrev j3:=@Array.toList_inj
abbrev ka:=@PySem.wpAny_isInstance
abbrev kd:=@List.any_eq_true
abbrev ke:=@List.mem_flatten
abbrev kf:=@Array.getElem?_toList
abbrev kl:=@List.eq_replicate_iff
abbrev km:=@List.take_append_drop
abbrev ko:=@List.mem_append_left
abbrev kq:=@PySem.wpAny_execs_nil
abbrev kr:=@Nat.ne_of_gt
abbrev ku:=@PyProof.Rows.callWith_builtin1
abbrev kx:=@List.map_nil
abbrev ky:=@PySem.wpAny_newFunctionEnv
abbrev kz:=@PySem.F.slot_tuple_lt
abbrev kA:=@PySem.wpAny_updateSeq_pair
abbrev kC:=@PySem.F.slot_zip_next
abbrev kD:=@Nat.div_lt_of_lt_mul
abbrev kG:=@Nat.lt_or_ge
abbrev kH:=@PySem.W.plainGet_of
abbrev kK:=@List.length_pos_iff
abbrev kL:=@List.map_eq_nil_iff
abbrev kN:=@PySem.wpAny_loadPart
abbrev kP:=@List.mem_filterMap
abbrev kQ:=@Nat.lt_of_le_of_lt
abbrev kR:=@List.takeWhile_cons_of_pos
abbrev kS:=@Array.perm_iff_toList_perm
abbrev kU:=@PySem.wpAny_onRaise
abbrev kX:=@PySem.wpAny_assign_Name
abbrev lh:=@List.any_eq_false
abbrev lj:=@PySem.Within.cons
abbrev lm:=@Nat.le_succ_of_le
abbrev lp:=@PySem.wpAny_dictEntries
abbrev lv:=@PySem.Obj.cls_mapFields
abbrev lx:=@List.getLast?_eq_getElem?
abbrev ly:=@List.getElem?_zip_eq_some
abbrev lI:=@List.getElem_inj
abbrev lL:=@Nat.min_le_right
abbrev lP:=@Nat.succ_le_succ
abbrev lS:=@Nat.mul_comm
abbrev lT:=@Nat.min_eq_right
abbrev l_:=@List.map_set
abbrev ma:=@List.mem_reverse
abbrev me:=@List.of_mem_zip
abbrev mf:=@Bool.or_eq_true
abbrev mh:=@List.map_id
abbrev mi:=@Bool.not_false
abbrev ml:=@List.forIn_nil
abbrev AA:=List (List Nat)
abbrev AB:=PySem.Value->PySem.Shared->Prop
abbrev AC:=List (PySem.Addr × PySem.Obj)
section
namespace L2
open PySem PySem.Spec PyProof.Rows
abbrev Key:=Sum Int Str
def xU:Key->Value->Bool
 | .inl k,v=>Value.isInt k v
 | .inr x,v=>Value.isStrOf x v
def ag7 (w:World):Key->Int
 | .inl k=>hashInt k
 | .inr x=>hashStr w x
theorem gj:∀{k:Key} {v:Value},xU k v=true->(∃i t,k=Sum.inl i/\v=Value.int i t)\/(∃x t,k=Sum.inr x/\v=Value.str x t)
 | .inl i,v,h=>by
  obtain⟨t,e⟩:=Value.isInt_shape (k:=i) (v:=v) h;exact .inl ⟨i,t,rfl,e⟩
 | .inr x,v,h=>by
  obtain⟨t,e⟩:=Value.isStrOf_shape (x:=x) (v:=v) h;exact .inr ⟨x,t,rfl,e⟩
theorem VR (i:Int)(t:Tok):xU (.inl i) (.int i t)=true:=by simp[xU,Value.isInt]
theorem V0 (x:Str)(t:Tok):xU (.inr x) (.str x t)=true:=by simp[xU,Value.isStrOf]
theorem aeb (a b:Int):decide ((Sum.inl a:Key)=Sum.inl b)=(a==b):=by
 by_cases e:a=b
 ·subst e;simp
 ·have h:¬(Sum.inl a:Key)=Sum.inl b:=λq=>e (Sum.inl.inj q)
  rw[ae h];exact(beq_eq_false_iff_ne.mpr e).symm
theorem aec (a b:Str):decide ((Sum.inr a:Key)=Sum.inr b)=decide (a=b):=by
 by_cases e:a=b
 ·subst e;simp
 ·have h:¬(Sum.inr a:Key)=Sum.inr b:=λq=>e (Sum.inr.inj q)
  rw[ae h,ae e]
theorem aed (a:Int)(b:Str):decide ((Sum.inl a:Key)=Sum.inr b)=false:=ae (λq=>nomatch q)
theorem aee (a:Str)(b:Int):decide ((Sum.inr a:Key)=Sum.inl b)=false:=ae (λq=>nomatch q)
def gQ (prog:Program)(w:World):PySem.KeyKind prog w Key where
 is:=xU
 hash:=ag7 w
 inj:=λv a b ha hb=>by
  rcases gj ha with⟨i,t,rfl,rfl⟩ | ⟨x,t,rfl,rfl⟩
  ·rcases gj hb with⟨j,u,rfl,e⟩ | ⟨y,u,rfl,e⟩
   ·injection e with e1 _;rw[e1]
   ·exact nomatch e
  ·rcases gj hb with⟨j,u,rfl,e⟩ | ⟨y,u,rfl,e⟩
   ·exact nomatch e
   ·injection e with e1 _;rw[e1]
 byValue:=λk v h=>by
  rcases gj h with⟨i,t,rfl,rfl⟩ | ⟨x,t,rfl,rfl⟩ <;> rfl
 pyHash:=λhv h=>by
  rcases gj hv with⟨i,t,rfl,rfl⟩ | ⟨x,t,rfl,rfl⟩
  ·exact wpAny_pyHash_int h
  ·exact wpAny_pyHash_str h
 eqBool:=λhu hv h=>by
  rcases gj hu with⟨i,t,rfl,rfl⟩ | ⟨x,t,rfl,rfl⟩
  ·rcases gj hv with⟨j,u,rfl,rfl⟩ | ⟨y,u,rfl,rfl⟩
   ·rw[aeb]at h;exact wpAny_eqBool_int h
   ·rw[aed]at h;exact SeqAt.EqAt.int_str i t y u _ _ _ _ h
  ·rcases gj hv with⟨j,u,rfl,rfl⟩ | ⟨y,u,rfl,rfl⟩
   ·rw[aee]at h;exact SeqAt.EqAt.str_int x t j u _ _ _ _ h
   ·rw[aec]at h;exact wpAny_eqBool_str h
 «strs»:=λk x t v h=>by
  rcases gj h with⟨i,u,rfl,e⟩ | ⟨y,u,rfl,e⟩
  ·exact nomatch e
  ·injection e with e1 _
   subst e1;cases v <;> rfl
theorem QH (prog:Program)(w:World)(i:Int)(t:Tok):(gQ prog w).is (.inl i) (.int i t)=true:=VR i t
theorem QJ (prog:Program)(w:World)(x:Str)(t:Tok):(gQ prog w).is (.inr x) (.str x t)=true:=V0 x t
inductive V where
 | non | bl (b:Bool) | int (i:Int) | str (x:Str) | zV (b:Array UInt8) | flt (b:UInt64) | ref (a:Addr) | ty (n:String)
 deriving DecidableEq
def cu:V->Value->Prop
 | .non,u=>u=Value.none
 | .bl b,u=>u=Value.bool b
 | .int i,u=>∃t,u=Value.int i t
 | .str x,u=>∃t,u=Value.str x t
 | .zV b,u=>∃t,u=Value.bytes b t
 | .flt b,u=>∃t,u=Value.float b t
 | .ref a,u=>u=Value.ref a
 | .ty n,u=>u=Value.type n
abbrev Vals:List V->List Value->Prop:=Paired cu
theorem Vals.length {xs:List V}{us:List Value}(r:Vals xs us):xs.length=us.length:=Paired.length r
theorem Vals.get:∀{xs:List V} {us:List Value} {i:Nat} {x:V},Vals xs us->xs[i]?=some x->∃u,us[i]?=some u/\cu x u
 | _,_,_,_,.nil,e=>by simp at e
 | _,_,0,_,.cons r _,e=>by simp at e;subst e;exact⟨_,rfl,r⟩
 | _,_,i+1,x,.cons _ t,e=>by
  obtain⟨u,h1,h2⟩:=Vals.get (i:=i) (x:=x) t (by simpa using e);exact⟨u,by simpa using h1,h2⟩
theorem Vals.set {x:V}{u:Value}(r:cu x u):∀{xs:List V} {us:List Value} (i:Nat),Vals xs us->Vals (xs.set i x) (us.set i u)
 | _,_,_,.nil=>.nil
 | _,_,0,.cons _ t=>.cons r t
 | _,_,i+1,.cons q t=>.cons q (Vals.set r i t)
theorem Vals.append:∀{xs ys:List V} {us ws:List Value},Vals xs us->Vals ys ws->Vals (xs++ys) (us++ws)
 | _,_,_,_,.nil,s=>s
 | _,_,_,_,.cons r t,s=>.cons r (Vals.append t s)
theorem Vals.take:∀{xs:List V} {us:List Value} (n:Nat),Vals xs us->Vals (xs.take n) (us.take n)
 | _,_,0,_=>.nil
 | _,_,_+1,.nil=>.nil
 | _,_,n+1,.cons r t=>.cons r (Vals.take n t)
theorem Vals.drop:∀{xs:List V} {us:List Value} (n:Nat),Vals xs us->Vals (xs.drop n) (us.drop n)
 | _,_,0,r=>r
 | _,_,_+1,.nil=>.nil
 | _,_,n+1,.cons _ t=>Vals.drop n t
def jM:Option V->Option Value->Prop
 | some v,some u=>cu v u
 | none,none=>True
 | _,_=>False
def KV {κ:Type}:List (κ × V)->List (κ × Value)->Prop:=Paired λ(p:κ × V) (q:κ × Value)=>p.1=q.1/\cu p.2 q.2
def kV:Key->V
 | .inl i=>.int i
 | .inr x=>.str x
inductive HO where
 | lst (xs:List V)
 | tup (xs:List V)
 | dK (kvs:List (Key × V)) | dT (kvs:List (List Key × V))
 | set (S:Int->Bool) (n:Nat)
 | ins (C dx:Addr) (fs:List (Str × V))
 | own (x:Addr)
 | xd (fs:List (Str × V))
 | met (f x:Addr)
 | rng (lo hi:Int)
 | nj (o:Obj) (u:HO)
 | JW (ps:Array Value)
 | ext (φ:Heap->Prop)
abbrev Hp:=Addr->Option HO
def upd (H:Hp)(a:Addr)(o:HO):Hp:=λb=>if b=a then some o else H b
theorem au {H:Hp}{a:Addr}{o:HO}:upd H a o a=some o:=by unfold upd;rw[if_pos rfl]
theorem aN {H:Hp}{a b:Addr}{o:HO}(h:b≠a):upd H a o b=H b:=by unfold upd;rw[if_neg h]
theorem agz {H:Hp}{a b:Addr}{o u:HO}(h:H a=some o)(h':H b=some u)(d:o≠u):a≠b:=by
 intro e;subst e;rw[h]at h';exact d (ap h')
theorem bU {H:Hp}{a b:Addr}{o:HO}(h:H a=some o)(h':H b=none):a≠b:=by
 intro e;subst e;rw[h]at h';cases h'
section
variable (P:Program)(w:World)
def dH (H:Hp)(h:Heap)(a:Addr):HO->Prop
 | .lst xs=>xs.length<=sizeLine/\∃(its:List Value) (n:Nat),Vals xs its/\h.get? a=some { cls:=.type "list",data:=.seq its.toArray n }
 | .tup xs=>xs.length<=sizeLine/\∃its:List Value,Vals xs its/\IsTup h a its.toArray
 | .dK kvs=>kvs.length<=sizeLine/\(a==sysModules)=false/\∃vs,KV kvs vs/\h.DictOf (gQ P w) a vs
 | .dT kvs=>kvs.length<=sizeLine/\(a==sysModules)=false/\∃xs:List (List Key × Addr × Value),
   Paired (λ(p:List Key × V) (q:List Key × Addr × Value)=>p.1=q.1/\H q.2.1=some (.tup (p.1.map kV))/\cu p.2 q.2.2) kvs xs/\
   ∃o es ep,h.get? a=some o/\o.ExactDict/\o.data=.dict es ep/\es.toList=xs.map (entryOfKey (tupleKind (gQ P w)))/\(xs.map (·.1)).Nodup
 | .set S n=>h.SetOf (intKind P w) a S n
 | .ins C dx fs=>H dx=some (.own a)/\fs.length<=1000/\dx≠a/\h.get? a=some (W.instObj C dx)/\
   ∃mA,h.Ns1 dx mA/\(∀f,jM (fs.lookup f) (mA f))/\PySem.Within mA (fs.map (·.1))
 | .own _=>∃o,h.get? a=some o
 | .xd fs=>∃mA,h.Ns1 a mA/\∀f,jM (fs.lookup f) (mA f)
 | .rng lo hi=>∃t u v,h.get? a=some { cls:=.type "range",data:=.fields #[.int lo t,.int hi u,.int 1 v] }
 | .nj o u=>h.get? a=some o/\dH H h a u
 | .JW ps=>h.get? a=some { cls:=.none,data:=.fields ps }
 | .met f x=>h.get? a=some (W.methodObj (.ref f) (.ref x))
 | .ext φ=>φ h/\(∃o,h.get? a=some o)/\∀h1 h2:Heap,φ h1->(∀o,h1.get? a=some o->h2.get? a=some o)->φ h2
def iV (H:Hp)(h:Heap):Prop:=∀a o,H a=some o->dH P w H h a o
end
section
variable {P:Program}{w:World}{H H':Hp}{h h':Heap}{a:Addr}{o:HO}
theorem dH.lt (x:dH P w H h a o):a < h.objs.size:=by
 cases o with
 | lst xs=>obtain⟨_,_,_,_,e⟩:=x;exact av e
 | tup xs=>obtain⟨_,_,_,p⟩:=x;exact p.lt
 | dK kvs=>obtain⟨_,_,_,_,o,_,_,e,_⟩:=x;exact av e
 | dT kvs=>obtain⟨_,_,_,_,o,_,_,e,_⟩:=x;exact av e
 | set S n=>obtain⟨o,_,_,_,e,_⟩:=x;exact av e
 | ins C dx fs=>obtain⟨_,_,_,e,_⟩:=x;exact av e
 | own y=>obtain⟨_,e⟩:=x;exact av e
 | xd fs=>obtain⟨_,⟨_,_,_,e,_⟩,_⟩:=x;exact av e
 | rng lo hi=>obtain⟨_,_,_,e⟩:=x;exact av e
 | nj ob u=>obtain⟨e,_⟩:=x;exact av e
 | JW ps=>exact av (show h.get? a=some _ from x)
 | met f y=>exact av (show h.get? a=some _ from x)
 | ext φ=>obtain⟨_,⟨_,e⟩,_⟩:=x;exact av e
theorem Paired.Zq {α β:Type}{F G:α->β->Prop}:∀{l₁:List α} {l₂:List β},Paired F l₁ l₂->(∀a b,F a b->G a b)->Paired G l₁ l₂
 | _,_,.nil,_=>.nil
 | _,_,.cons r t,f=>.cons (f _ _ r) (Paired.Zq t f)
theorem dH.stay (x:dH P w H h a o)(k:∀b u,(b=a\/H b=some (.own a))->h.get? b=some u->h'.get? b=some u)
  (ho:∀b,H b=some (.own a)->H' b=some (.own a)) (ht:∀b xs,H b=some (.tup xs)->H' b=some (.tup xs)):dH P w H' h' a o:=by
 induction o with
 | lst xs=>obtain⟨z,its,n,r,e⟩:=x;exact⟨z,its,n,r,k _ _ (.inl rfl) e⟩
 | tup xs=>obtain⟨z,its,r,ob,e,c⟩:=x;exact⟨z,its,r,ob,k _ _ (.inl rfl) e,c⟩
 | dK kvs=>obtain⟨z,y,vs,r,ob,es,ep,e,c⟩:=x;exact⟨z,y,vs,r,ob,es,ep,k _ _ (.inl rfl) e,c⟩
 | dT kvs=>
  obtain⟨z,y,xs,r,ob,es,ep,e,c⟩:=x;exact⟨z,y,xs,Paired.Zq r λp q z=>⟨z.1,ht _ _ z.2.1,z.2.2⟩,ob,es,ep,k _ _ (.inl rfl) e,c⟩
 | set S n=>obtain⟨ob,es,ep,t,e,c⟩:=x;exact⟨ob,es,ep,t,k _ _ (.inl rfl) e,c⟩
 | ins C dx fs=>
  obtain⟨d,z,ne,e,mA,⟨od,es,ep,e2,c⟩,r⟩:=x;exact⟨ho _ d,z,ne,k _ _ (.inl rfl) e,mA,⟨od,es,ep,k _ _ (.inr d) e2,c⟩,r⟩
 | own y=>obtain⟨ob,e⟩:=x;exact⟨ob,k _ _ (.inl rfl) e⟩
 | xd fs=>obtain⟨mA,⟨od,es,ep,e,c⟩,r⟩:=x;exact⟨mA,⟨od,es,ep,k _ _ (.inl rfl) e,c⟩,r⟩
 | rng lo hi=>obtain⟨t,u,v,e⟩:=x;exact⟨t,u,v,k _ _ (.inl rfl) e⟩
 | nj ob u ih=>obtain⟨e,q⟩:=x;exact⟨k _ _ (.inl rfl) e,ih q⟩
 | JW ps=>
  have e:h.get? a=some { cls:=.none,data:=.fields ps }:=x;show h'.get? a=some { cls:=.none,data:=.fields ps };exact k a _ (.inl rfl) e
 | met f y=>
  have e:h.get? a=some (W.methodObj (.ref f) (.ref y)):=x;show h'.get? a=some (W.methodObj (.ref f) (.ref y));exact k a _ (.inl rfl) e
 | ext φ=>obtain⟨p,⟨o,e⟩,st⟩:=x;exact⟨st _ _ p λo q=>k _ _ (.inl rfl) q,⟨o,k _ _ (.inl rfl) e⟩,st⟩
theorem iV.lt (x:iV P w H h)(e:H a=some o):a < h.objs.size:=(x a o e).lt
theorem iV.fresh (x:iV P w H h)(e:h.objs.size<=a):H a=none:=by
 cases q:H a with
 | none=>rfl
 | some u=>exact absurd (b5 (x.lt q) e) (du _)
theorem iV.kept (x:iV P w H h)(k:∀b u,h.get? b=some u->h'.get? b=some u):iV P w H h':=λa o e=>
 (x a o e).stay (λb u _ q=>k b u q) (λ_ q=>q) λ_ _ q=>q
theorem iV.laid (x:iV P w H h)(k:∀b u,h.get? b=some u->h'.get? b=some u)(hp:h.objs.size<=a)(new:dH P w (upd H a o) h' a o):iV P w (upd H a o) h':=λb u e=>by
 have hn:=x.fresh hp;by_cases hb:b=a
 ·subst hb;rw[au]at e;cases e;exact new
 ·rw[aN hb]at e
  exact(x b u e).stay (λc v _ q=>k c v q) (λc q=>by rw[aN (bU q hn)];exact q) λc xs q=>by rw[aN (bU q hn)];exact q
end
def Rd (H:Hp)(a:Addr)(u:HO):Prop:=H a=some u\/∃o,H a=some (.nj o u)
theorem Rd.ok {P:Program}{w:World}{H:Hp}{h:Heap}{a:Addr}{u:HO}(r:Rd H a u)(x:iV P w H h):dH P w H h a u:=by
 rcases r with r | ⟨o,r⟩
 ·exact x a u r
 ·obtain⟨_,q⟩:=x a _ r
  exact q
def V1:Option HO->Prop
 | some (.lst _)=>True
 | some (.dK _)=>True
 | some (.dT _)=>True
 | some (.set _ _)=>True
 | some (.ins _ _ _)=>True
 | some (.ext _)=>True
 | _=>False
section
variable {P:Program}{w:World}{H:Hp}{h h':Heap}{x e:Addr}{o':HO}
theorem iV.write (ok:iV P w H h)(mu:V1 (H x))(he:e=x\/H e=some (.own x))(k:∀b u,b≠e->h.get? b=some u->h'.get? b=some u)(heo:∃u,h'.get? e=some u)
  (new:dH P w (upd H x o') h' x o'):iV P w (upd H x o') h':=λb u q=>by
 have aef:∀c y,H c=some (.own y)->c≠x:=λc y r z=>by subst z;rw[r]at mu;exact mu
 have ag8:∀c xs,H c=some (.tup xs)->c≠x:=λc xs r z=>by subst z;rw[r]at mu;exact mu
 by_cases hb:b=x
 ·subst hb;rw[au]at q;cases q;exact new
 ·rw[aN hb]at q
  by_cases hbe:b=e
  ·have q':H b=some (.own x):=by
    rcases he with z | z
    ·exact absurd (hbe.trans z) hb
    ·rw[hbe];exact z
   rw[q]at q';cases q';obtain⟨v,hv⟩:=heo;exact⟨v,by rw[hbe];exact hv⟩
  ·refine(ok b u q).stay (λc v hc r=>k c v ?_ r) (λc r=>by rw[aN (aef c b r)];exact r) λc xs r=>by rw[aN (ag8 c xs r)];exact r
   rcases hc with rfl | hc
   ·exact hbe
   ·rintro rfl
    rcases he with z | z
    ·exact aef c b hc z
    ·rw[hc]at z;cases z;exact hb rfl
end
structure Un (fs ex:List Addr)(H H':Hp)(h h':Heap):Prop where
 keep:∀b o,h.get? b=some o->H b=none->b∉fs->b∉ex->h'.get? b=some o
 slot:∀b o,h.get? b=some o->H b=none->b∈fs->b∉ex->∃sl,h'.get? b=some { o with slots:=sl }
 free:∀b o,h.get? b=some o->H b=none->b∉ex->H' b=none
 there:∀b o,h.get? b=some o->b∉ex->∃o',h'.get? b=some o'
 tups:∀b xs,H b=some (.tup xs)->H' b=some (.tup xs)
 lG:∀b o u,H b=some (.nj o u)->H' b=some (.nj o u)
 lR:∀b ps,H b=some (.JW ps)->∃more,H' b=some (.JW (ps++more))
section
variable {fs ex:List Addr}{H H1:Hp}{h h1 h':Heap}{a x e:Addr}{o:HO}
theorem Un.any (u:Un fs ex H H1 h h1){b:Addr}{ob:Obj}(q:h.get? b=some ob)(n:H b=none)(hx:b∉ex):∃sl,h1.get? b=some { ob with slots:=sl }:=by
 by_cases hb:b∈fs
 ·exact u.slot b ob q n hb hx
 ·exact⟨ob.slots,u.keep b ob q n hb hx⟩
theorem Un.kept (k:∀b u,h.get? b=some u->h'.get? b=some u):Un fs ex H H h h':=
 ⟨λb ob q _ _ _=>k b ob q,λb ob q _ _ _=>⟨ob.slots,k b ob q⟩,λ_ _ _ n _=>n,λb ob q _=>⟨ob,k b ob q⟩,λ_ _ q=>q,λ_ _ _ q=>q,λ_ ps q=>⟨#[],by rw[q];simp⟩⟩
theorem Un.refl:Un fs ex H H h h:=Un.kept λ_ _ q=>q
theorem Un.laid (k:∀b u,h.get? b=some u->h'.get? b=some u)(hp:h.objs.size<=a)(hn:H a=none):Un fs ex H (upd H a o) h h' where
 keep:=λb u q _ _ _=>k b u q
 slot:=λb u q _ _ _=>⟨u.slots,k b u q⟩
 free:=λb u q n _=>by rw[aN (a8 (b5 (av q) hp))];exact n
 there:=λb u q _=>⟨u,k b u q⟩
 tups:=λb xs q=>by rw[aN (bU q hn)];exact q
 lG:=λb u xs q=>by rw[aN (bU q hn)];exact q
 lR:=λb ps q=>⟨#[],by rw[aN (bU q hn),q];simp⟩
theorem Un.write (mu:V1 (H x))(he:e=x\/H e=some (.own x))(k:∀b u,b≠e->h.get? b=some u->h'.get? b=some u)(heo:∃u,h'.get? e=some u):Un fs ex H (upd H x o) h h':=by
 have hx:∀b,H b=none->b≠x:=λb n z=>by subst z;rw[n]at mu;exact mu
 have hb:∀b,H b=none->b≠e:=λb n z=>by
  subst z;rcases he with r | r
  ·exact hx b n r
  ·rw[n]at r;cases r
 have hm:∀b u,H b=some u->¬V1 (some u)->b≠x:=λb u q nm z=>by subst z;rw[q]at mu;exact nm mu
 refine⟨λb u q n _ _=>k b u (hb b n) q,λb u q n _ _=>⟨u.slots,k b u (hb b n) q⟩,λb u q n _=>by rw[aN (hx b n)];exact n,λb u q _=>?_,
  λb xs q=>by rw[aN (hm b _ q λz=>z)];exact q,λb u xs q=>by rw[aN (hm b _ q λz=>z)];exact q,λb ps q=>⟨#[],by rw[aN (hm b _ q λz=>z),q];simp⟩⟩
 by_cases hbe:b=e
 ·subst hbe;exact heo
 ·exact⟨u,k b u hbe q⟩
end
def JX (h:Heap)(H:Hp):List Addr:=(List.range h.objs.size).filter λa=>(H a).isSome
def xV (h:Heap)(H:Hp):Heap:=W.hideAll h (JX h H)
theorem V2 (h:Heap)(H:Hp):(xV h H).objs.size=h.objs.size:=W.hideAll_size _ _
theorem Zr {h:Heap}{H:Hp}{b:Addr}{o:Obj}(e:h.get? b=some o)(n:H b=none):(xV h H).get? b=some o:=
 W.hideAll_get _ e λhm=>by
  have q:(H b).isSome=true:=(fT.mp hm).2;rw[n]at q;simp at q
theorem acr {h:Heap}{H:Hp}{b:Addr}{o:Obj}(e:(xV h H).get? b=some o):h.get? b=some o/\H b=none:=by
 have e':h.get? b=some o:=W.of_hideAll (JX h H) e;refine⟨e',?_⟩;cases q:H b with
 | none=>rfl
 | some x=>
  have hm:b∈JX h H:=fT.mpr ⟨fi.mpr (av e'),by simp[q]⟩;have z:(xV h H).get? b=none:=W.hideAll_none (JX h H) hm;rw[z]at e;cases e
structure Mod (K:W.Frag)(mg:Str->Option Value)(base:Heap):Prop where
 Gm:K.In base
 glob:base.Ns mainGlobals mg
 blt:∃mb,base.Ns builtinsNs mb/\∀x:Str,x≠"__name__"->mb x=bootBuiltins x
 nolimit:base.NoLimit
structure Cx where
 prog:Program
 w:World
 K:W.Frag
 mg:Str->Option Value
 base:Heap
 A:Around
 N:List Str
 s₀:Shared
 H₀:Hp
 env:Env
 outer:List Env
 stack:List Env
 ex:List Addr
 fn:Str->Bool
 calm:Bool
 pn:List (Addr × Obj)
 xe:Value->Shared->Prop
def frs (l:List Env):List Addr:=l.filterMap (·.frame)
abbrev Cx.fs (X:Cx):List Addr:=frs X.outer
def Vis (sc:Scope)(x:Str):Prop:=sc.names.lookup x=some .local\/sc.names.lookup x=some .cell\/sc.names.lookup x=some .free
def Loc (sc:Scope)(x:Str):Prop:=sc.names.lookup x=some .local\/sc.names.lookup x=some .cell
def Look (env:Env)(h:Heap)(m:Str->Option Value)(x:Str)(u:Value):Prop:=
 (env.kindOf x=some .local/\m x=some u)\/((env.kindOf x=some .cell\/env.kindOf x=some .free)/\∃c,env.cells.lookup x=some c/\h.IsCell c (some u))
structure Cx.Ok (X:Cx):Prop where
 mod:Mod X.K X.mg X.base
 kind:X.env.scope.kind=.function
 glob:X.env.globals=mainGlobals
 blt:X.env.builtins=builtinsNs
 above:X.s₀.heap.objs.size<=X.env.locals
 inj:∀x y c,X.env.cells.lookup x=some c->X.env.cells.lookup y=some c->x=y
 has:∀x,(X.env.kindOf x=some .cell\/X.env.kindOf x=some .free)->∃c,X.env.cells.lookup x=some c
 cab:∀x c,X.fn x=true->X.env.cells.lookup x=some c->X.s₀.heap.objs.size<=c
 hd:X.calm=true->X.A.handled=none
 frames:X.A.frames=some X.stack
 stk:X.stack=X.outer\/(X.stack=X.env::X.outer/\X.env.frame=some X.env.locals)
 V3:∀b∈X.ex,b≠X.env.locals/\∀x c,X.env.cells.lookup x=some c->c≠b
 bs:∀b o,X.base.get? b=some o->X.s₀.heap.get? b=some o/\X.H₀ b=none
 rY:X.base.objs.size<=X.s₀.heap.objs.size
 wg:∀b o,X.base.get? b=some o->b∉X.ex
 Ej:∀b∈X.ex,b∉X.fs
 mZ:X.s₀.heap.FunFrames X.base X.outer
 z_:∀b∈X.fs,X.H₀ b=none
structure aL (X:Cx)(ao:AC)(σ:List (Option V))(H:Hp)(s:Shared):Prop where
 ok:X.Ok
 os:s.os=X.s₀.os
 bare:AllBare s.gens
 base:Un X.fs X.ex X.H₀ H X.s₀.heap s.heap
 loc:∃m,s.heap.Ns X.env.locals m/\∀(i:Nat) (x:Str) (v:V),X.N[i]?=some x->σ[i]?=some (some v)->Vis X.env.scope x->∃u,cu v u/\Look X.env s.heap m x u
 cell:∀x c,X.env.cells.lookup x=some c->∃v,s.heap.IsCell c v
 free:H X.env.locals=none
 ji:∀x c,X.env.cells.lookup x=some c->H c=none
 pin:∀p∈X.pn++ao,s.heap.get? p.1=some p.2/\H p.1=none/\p.1≠X.env.locals/\p.1∉X.fs/\∀v,p.2.data≠.cell v
 hok:iV X.prog X.w H s.heap
 len:σ.length=X.N.length
section
variable {X:Cx}{ao:AC}{σ:List (Option V)}{H H':Hp}{s:Shared}{h':Heap}
theorem Cx.Ok.ag9 (ok:X.Ok){b:Addr}{o:Obj}(e:X.base.get? b=some o):b∉X.fs:=λhb=>by
 have:=(ok.mZ.mem hb).1;rw[e]at this;cases this
theorem aL.bs (I:aL X ao σ H s):∀b o,X.base.get? b=some o->s.heap.get? b=some o/\H b=none:=λb o e=>
 ⟨I.base.keep b o (I.ok.bs b o e).1 (I.ok.bs b o e).2 (I.ok.ag9 e) (I.ok.wg b o e),I.base.free b o (I.ok.bs b o e).1 (I.ok.bs b o e).2 (I.ok.wg b o e)⟩
theorem aL.bk (I:aL X ao σ H s):∀b o,X.base.get? b=some o->s.heap.get? b=some o:=λb o e=>(I.bs b o e).1
theorem aL.mod (I:aL X ao σ H s):Mod X.K X.mg X.base:=I.ok.mod
theorem aL.gk (I:aL X ao σ H s):X.K.In s.heap:=I.ok.mod.Gm.keeps I.bk
theorem aL.lt (I:aL X ao σ H s):X.env.locals < s.heap.objs.size:=let ⟨_,hn,_⟩:=I.loc;hn.lt
theorem aL.sz (I:aL X ao σ H s):X.s₀.heap.objs.size<=s.heap.objs.size:=b9 I.ok.above (aE I.lt)
theorem aL.aha (I:aL X ao σ H s){a:Addr}(h:s.heap.objs.size<=a):a∉X.fs:=λhb=>by
 obtain⟨_,o,ho,_⟩:=I.ok.mZ.mem hb;exact absurd (b5 (av ho) (b9 I.sz h)) (du _)
theorem aL.Gn (I:aL X ao σ H s):∀x c,X.env.cells.lookup x=some c->c≠X.env.locals:=λx c e z=>by
 obtain⟨v,o,ho,hd⟩:=I.cell x c e;obtain⟨m,⟨o',es,ep,ho',hd',_⟩,_⟩:=I.loc;rw[z,ho']at ho;cases ho;rw[hd']at hd;cases hd
theorem aL.mZ (I:aL X ao σ H s):s.heap.FunFrames X.base X.outer:=by
 have all:∀(l:List Env),(∀b∈frs l,b∈X.fs)->X.s₀.heap.FunFrames X.base l->s.heap.FunFrames X.base l:=by
  intro l
  induction l with
  | nil=>intro _ _;trivial
  | cons env r ih=>
   intro hs hl;obtain⟨hk,⟨L,o,hf,hn,ho,hd⟩,hr⟩:=hl;have hL:L∈X.fs:=hs L (by unfold frs;rw[iF,hf];exact bE);obtain⟨sl,e⟩:=I.base.slot L o ho (I.ok.z_ L hL) hL λz=>I.ok.Ej L z hL;exact⟨hk,⟨L,_,hf,hn,e,hd⟩,ih (λb hb=>hs b (by unfold frs;rw[iF,hf];exact bb _ hb)) hr⟩
 exact all X.outer (λ_ hb=>hb) I.ok.mZ
theorem aL.stack (I:aL X ao σ H s):s.heap.FunFrames X.base X.stack:=by
 rcases I.ok.stk with e | ⟨e,hf⟩
 ·rw[e];exact I.mZ
 ·rw[e]
  obtain⟨m,hn,_⟩:=I.loc;refine .cons (by rw[I.ok.kind];decide) hf hn ?_ I.mZ;exact Heap.get?_none_of_le (b9 I.ok.rY I.ok.above)
theorem aL.wY (I:aL X ao σ H s):∀b∈frs X.stack,b∈X.env.locals::X.fs:=λb hb=>by
 rcases I.ok.stk with e | ⟨e,hf⟩
 ·rw[e]at hb;exact bb _ hb
 ·rw[e]at hb
  unfold frs at hb;rw[iF,hf]at hb;exact hb
theorem aL.pW (I:aL X ao σ H s):∀b∈frs X.stack,H b=none:=λb hb=>by
 rcases bq.mp (I.wY b hb) with e | hb
 ·rw[e];exact I.free
 ·obtain⟨_,o,ho,_⟩:=I.ok.mZ.mem hb
  exact I.base.free b o ho (I.ok.z_ b hb) λz=>I.ok.Ej b z hb
theorem aL.step {g':Array GenState}{t':Nat}{d':Drawn}{ch:List Addr}(I:aL X ao σ H s)
  (hch:∀b∈ch,(b∈X.ex\/X.s₀.heap.objs.size<=b)/\b≠X.env.locals/\(∀x c,X.env.cells.lookup x=some c->c≠b)/\∀p∈X.pn++ao,p.1≠b)
  (keep:∀b o,b≠X.env.locals->b∉X.fs->b∉ch->s.heap.get? b=some o->H b=none->h'.get? b=some o)
  (slot:∀b o,b≠X.env.locals->b∈X.fs->b∉ch->s.heap.get? b=some o->H b=none->∃sl,h'.get? b=some { o with slots:=sl }) (free:∀b o,b∉ch->s.heap.get? b=some o->H b=none->H' b=none)
  (there:∀b o,b∉ch->s.heap.get? b=some o->∃o',h'.get? b=some o')
  (tups:∀b xs,H b=some (.tup xs)->H' b=some (.tup xs)) (lG:∀b o u,H b=some (.nj o u)->H' b=some (.nj o u)) (lR:∀b ps,H b=some (.JW ps)->∃more,H' b=some (.JW (ps++more)))
  (ns:∀m,s.heap.Ns X.env.locals m->h'.Ns X.env.locals m) (hok:iV X.prog X.w H' h') (hg:AllBare g') :
  aL X ao σ H' { s with heap:=h',gens:=g',drawn:=d',toks:=t' }:=by
 have neL:∀b o,X.s₀.heap.get? b=some o->b≠X.env.locals:=λb o e=>a8 (b5 (av e) I.ok.above);have rZ:∀b o,X.s₀.heap.get? b=some o->b∉X.ex->b∉ch:=λb o e hx hb=>by
  rcases(hch b hb).1 with z | z
  ·exact hx z
  ·exact absurd (b5 (av e) z) (du _)
 have cellK:∀x c,X.env.cells.lookup x=some c->∀v,s.heap.IsCell c v->h'.IsCell c v:=λx c e v ⟨o,ho,hd⟩=>by
  have V4:c∉ch:=λz=>(hch c z).2.2.1 x c e rfl;by_cases hc:c∈X.fs
  ·obtain⟨sl,q⟩:=slot c o (I.Gn x c e) hc V4 ho (I.ji x c e)
   exact⟨_,q,hd⟩
  ·exact⟨o,keep c o (I.Gn x c e) hc V4 ho (I.ji x c e),hd⟩
 refine⟨I.ok,I.os,hg,⟨λb o e n hb hx=>?_,λb o e n hb hx=>?_,λb o e n hx=>?_,λb o e hx=>?_,λb xs e=>tups b xs (I.base.tups b xs e),λb o xs e=>lG b o xs (I.base.lG b o xs e),λb ps e=>?_⟩,?_,λx c e=>?_,?_,λx c e=>?_,λp hp=>?_,hok,I.len⟩
 ·exact keep b o (neL b o e) hb (rZ b o e hx) (I.base.keep b o e n hb hx) (I.base.free b o e n hx)
 ·obtain⟨sl,e1⟩:=I.base.slot b o e n hb hx
  obtain⟨sl',e2⟩:=slot b _ (neL b o e) hb (rZ b o e hx) e1 (I.base.free b o e n hx);exact⟨sl',e2⟩
 ·obtain⟨o',e1⟩:=I.base.there b o e hx
  exact free b o' (rZ b o e hx) e1 (I.base.free b o e n hx)
 ·obtain⟨o',e1⟩:=I.base.there b o e hx
  exact there b o' (rZ b o e hx) e1
 ·obtain⟨m1,e1⟩:=I.base.lR b ps e
  obtain⟨m2,e2⟩:=lR b _ e1;exact⟨m1++m2,by rw[e2,Array.append_assoc]⟩
 ·obtain⟨m,hn,hl⟩:=I.loc
  refine⟨m,ns m hn,λi x v e1 e2 e3=>?_⟩;obtain⟨u,r,l⟩:=hl i x v e1 e2 e3;refine⟨u,r,?_⟩;rcases l with l | ⟨k,c,e,z⟩
  ·exact .inl l
  ·exact .inr ⟨k,c,e,cellK x c e _ z⟩
 ·obtain⟨v,z⟩:=I.cell x c e
  exact⟨v,cellK x c e v z⟩
 ·obtain⟨m,⟨o,_,_,ho,_⟩,_⟩:=I.loc
  exact free _ o (λz=>(hch _ z).2.1 rfl) ho I.free
 ·obtain⟨v,o,ho,hd⟩:=I.cell x c e
  exact free c o (λz=>(hch c z).2.2.1 x c e rfl) ho (I.ji x c e)
 ·obtain⟨e,n,ne,nf,d⟩:=I.pin p hp
  have V4:p.1∉ch:=λz=>(hch p.1 z).2.2.2 p hp rfl;exact⟨keep p.1 p.2 ne nf V4 e n,free p.1 p.2 V4 e n,ne,nf,d⟩
theorem aL.un {t':Nat}(I:aL X ao σ H s)(u:Un X.fs [] H H' s.heap h')(hok:iV X.prog X.w H' h'):aL X ao σ H' { s with heap:=h',toks:=t' }:=by
 obtain⟨m,⟨o,es,ep,ho,r⟩,_⟩:=id I.loc;obtain⟨sl,hL⟩:=u.any ho I.free (by simp);exact I.step (g':=s.gens) (d':=s.drawn) (ch:=[]) (λ_ z=>nomatch z) (λb o _ hb _ e n=>u.keep b o e n hb (by simp)) (λb o _ hb _ e n=>u.slot b o e n hb (by simp)) (λb o _ e n=>u.free b o e n (by simp)) (λb o _ e=>u.there b o e (by simp)) u.tups u.lG u.lR (λm' hm=>by
  obtain⟨o',es',ep',ho',r'⟩:=hm;rw[ho]at ho';cases ho';exact⟨_,es',ep',hL,r'⟩) hok I.bare
theorem aL.call {g':Array GenState}{t':Nat}{d':Drawn}{ch:List Addr}(I:aL X ao σ H s)(u:Un (frs X.stack) ch H H' s.heap h')(hok:iV X.prog X.w H' h')(hg:AllBare g')
  (hch:∀b∈ch,(b∈X.ex\/X.s₀.heap.objs.size<=b)/\b≠X.env.locals/\(∀x c,X.env.cells.lookup x=some c->c≠b)/\∀p∈X.pn++ao,p.1≠b) :
  aL X ao σ H' { s with heap:=h',gens:=g',drawn:=d',toks:=t' }:=by
 obtain⟨m,⟨o,es,ep,ho,r⟩,_⟩:=id I.loc;obtain⟨sl,hL⟩:=u.any ho I.free λz=>(hch _ z).2.1 rfl;exact I.step (ch:=ch) hch (λb o hL hb hc e n=>u.keep b o e n (λz=>(bq.mp (I.wY b z)).elim hL hb) hc) (λb o _ _ hc e n=>u.any e n hc) (λb o hc e n=>u.free b o e n hc) (λb o hc e=>u.there b o e hc) u.tups u.lG u.lR (λm' hm=>by
  obtain⟨o',es',ep',ho',r'⟩:=hm;rw[ho]at ho';cases ho';exact⟨_,es',ep',hL,r'⟩) hok hg
theorem aL.turned {t':Nat}{it:Addr}(I:aL X ao σ H s)(k:∀b o,b≠it->s.heap.get? b=some o->h'.get? b=some o)(hn:H it=none)(hL:it≠X.env.locals)
  (h1:it∈X.ex\/X.s₀.heap.objs.size<=it) (h2:∀x c,X.env.cells.lookup x=some c->c≠it) (h3:∀p∈X.pn++ao,p.1≠it):aL X ao σ H { s with heap:=h',toks:=t' }:=by
 have V5:∀b u,H b=some u->b≠it:=λb u e z=>by rw[z,hn]at e;cases e
 refine I.step (g':=s.gens) (d':=s.drawn) (ch:=[it]) (λb hb=>?_) (λb o _ _ hc e _=>k b o (λz=>hc (by simp[z])) e) (λb o _ _ hc e _=>⟨o.slots,k b o (λz=>hc (by simp[z])) e⟩) (λ_ _ _ _ n=>n)
  (λb o hc e=>⟨o,k b o (λz=>hc (by simp[z])) e⟩) (λ_ _ e=>e) (λ_ _ _ e=>e) (λb ps e=>⟨#[],by rw[e];simp⟩) (λm hm=>?_) (λb u e=>?_) I.bare
 ·have e:b=it:=by simpa using hb
  subst e;exact⟨h1,hL,h2,h3⟩
 ·obtain⟨o,es,ep,ho,r⟩:=hm
  exact⟨o,es,ep,k _ o (fz hL) ho,r⟩
 ·refine(I.hok b u e).stay (λc v hc q=>k c v ?_ q) (λ_ q=>q) λ_ _ q=>q
  rcases hc with z | z
  ·rw[z];exact V5 b u e
  ·exact V5 c _ z
theorem aL.tok (I:aL X ao σ H s)(t:Nat):aL X ao σ H { s with toks:=t }:=I.un (h':=s.heap) (t':=t) Un.refl I.hok
theorem aL.kept {t':Nat}(I:aL X ao σ H s)(k:∀b u,s.heap.get? b=some u->h'.get? b=some u):aL X ao σ H { s with heap:=h',toks:=t' }:=I.un (Un.kept k) (I.hok.kept k)
theorem aL.laid {a:Addr}{o:HO}{t':Nat}(I:aL X ao σ H s)(k:∀b u,s.heap.get? b=some u->h'.get? b=some u)(hp:s.heap.objs.size<=a)(new:dH X.prog X.w (upd H a o) h' a o) :
  aL X ao σ (upd H a o) { s with heap:=h',toks:=t' }:=I.un (Un.laid k hp (I.hok.fresh hp)) (I.hok.laid k hp new)
theorem aL.write {x e:Addr}{o:HO}{t':Nat}(I:aL X ao σ H s)(mu:V1 (H x))(he:e=x\/H e=some (.own x))(k:∀b u,b≠e->s.heap.get? b=some u->h'.get? b=some u)(heo:∃u,h'.get? e=some u)
  (new:dH X.prog X.w (upd H x o) h' x o):aL X ao σ (upd H x o) { s with heap:=h',toks:=t' }:=I.un (Un.write mu he k heo) (I.hok.write mu he k heo new)
theorem aL.Rp {Dc:AC}(I:aL X ao σ H s)(h:∀p∈Dc,s.heap.get? p.1=some p.2/\H p.1=none/\p.1≠X.env.locals/\p.1∉X.fs/\∀v,p.2.data≠.cell v):aL X Dc σ H s:=
 ⟨I.ok,I.os,I.bare,I.base,I.loc,I.cell,I.free,I.ji,λp hp=>(a7.mp hp).elim (λz=>I.pin p (ko _ z)) (h p),I.hok,I.len⟩
theorem Ek {N:List Str}(hN:N.Nodup){i j:Nat}{x:Str}(a:N[i]?=some x)(b:N[j]?=some x):i=j:=by
 obtain⟨h1,e1⟩:=af.mp a;obtain⟨h2,e2⟩:=af.mp b;exact(lI hN).mp (e1.trans e2.symm)
theorem JZ {M:Model}{A:Around}{E:AB}{i:Nat}{x:Str}{v:V}{u:Value}{Q:Unit->Shared->Prop}(I:aL X ao σ H s)(hN:X.N.Nodup)(hi:X.N[i]?=some x)(hx:Loc X.env.scope x)(r:cu v u)
  (h:∀s',aL X ao (σ.set i (some v)) H s'->(∃a,Heap.SameBut a s.heap s'.heap/\(a=X.env.locals\/X.env.cells.lookup x=some a))->Q () s') (hf:X.fn x=true\/X.env.scope.names.lookup x=some .local:=by first | exact .inl rfl | exact .inr rfl | assumption):wpAny M A (storeName X.env x u) Q E s:=by
 obtain⟨m,hn,hl⟩:=id I.loc;have hcls:(X.env.scope.kind == .class||(X.env.scope.kind == .module&&X.env.locals != X.env.globals))=false:=by rw[I.ok.kind];rfl
 have hiσ:i < σ.length:=by rw[I.len];exact(af.mp hi).1
 have Gn:=I.Gn;have tracked:∀{a:Addr} {h':Heap},(∃o,s.heap.get? a=some o/\H a=none)->Heap.SameBut a s.heap h'->iV X.prog X.w H h':=λ{a h'} ha hs b ob e=>by
  obtain⟨_,_,hfree⟩:=ha;refine(I.hok b ob e).stay (λc w' hc q=>(hs.2 c ?_).trans q) (λ_ q=>q) λ_ _ q=>q;rintro rfl;rcases hc with rfl | hc
  ·rw[hfree]at e;cases e
  ·rw[hfree]at hc;cases hc
 rcases hx with hk | hk
 ·refine wpAny_storeName_local hk hn (λh' hn' hs=>?_) hcls
  obtain⟨oL,_,_,hoL,_⟩:=id hn;refine h _ ⟨I.ok,I.os,I.bare,⟨λb o e n hb hx=>?_,λb o e n hb hx=>?_,I.base.free,λb o e hx=>?_,I.base.tups,I.base.lG,I.base.lR⟩,⟨_,hn',λj y v' e1 e2 e3=>?_⟩,λy c e=>?_,I.free,I.ji,λp hp=>?_,tracked ⟨oL,hoL,I.free⟩ hs,by simpa using I.len⟩ ⟨_,hs,.inl rfl⟩
  ·exact(hs.2 b (a8 (b5 (av e) I.ok.above))).trans (I.base.keep b o e n hb hx)
  ·obtain⟨sl,e1⟩:=I.base.slot b o e n hb hx
   exact⟨sl,(hs.2 b (a8 (b5 (av e) I.ok.above))).trans e1⟩
  ·obtain⟨o',e1⟩:=I.base.there b o e hx
   exact⟨o',(hs.2 b (a8 (b5 (av e) I.ok.above))).trans e1⟩
  ·by_cases hj:j=i
   ·subst hj
    rw[hi]at e1;cases e1;rw[e8 hiσ]at e2;cases e2;exact⟨u,r,.inl ⟨hk,by simp⟩⟩
   ·rw[eJ (fz hj)]at e2
    obtain⟨u',r',q⟩:=hl j y v' e1 e2 e3;refine⟨u',r',?_⟩;rcases q with⟨k,e⟩ | ⟨k,c,e,z⟩
    ·refine .inl ⟨k,?_⟩
     have:y≠x:=λe=>hj (Ek hN e1 (e ▸ hi));simp[this,e]
    ·exact .inr ⟨k,c,e,z.sameBut hs (Gn y c e)⟩
  ·obtain⟨w',z⟩:=I.cell y c e
   exact⟨w',z.sameBut hs (Gn y c e)⟩
  ·obtain⟨e,n,ne,nf,d⟩:=I.pin p hp
   exact⟨(hs.2 p.1 ne).trans e,n,ne,nf,d⟩
 ·have hfn:X.fn x=true:=by
   rcases hf with z | z
   ·exact z
   ·rw[z]at hk;cases hk
  obtain⟨c,hc⟩:=I.ok.has x (.inl hk);obtain⟨w',z⟩:=I.cell x c hc;refine wpAny_storeName_cell I.ok.kind hk hc z (λh' hc' hs=>?_);obtain⟨oc,hoc,ahb⟩:=id z;refine h { s with heap:=h' } ⟨I.ok,I.os,I.bare,⟨λb o e n hb hx=>?_,λb o e n hb hx=>?_,I.base.free,λb o e hx=>?_,I.base.tups,I.base.lG,I.base.lR⟩,⟨m,hn.sameBut hs (fz (Gn x c hc)),λj y v' e1 e2 e3=>?_⟩,λy c' e=>?_,I.free,I.ji,λp hp=>?_,tracked ⟨oc,hoc,I.ji x c hc⟩ hs,by simpa using I.len⟩ ⟨c,hs,.inr hc⟩
  ·exact(hs.2 b (a8 (b5 (av e) (I.ok.cab x c hfn hc)))).trans (I.base.keep b o e n hb hx)
  ·obtain⟨sl,e1⟩:=I.base.slot b o e n hb hx
   exact⟨sl,(hs.2 b (a8 (b5 (av e) (I.ok.cab x c hfn hc)))).trans e1⟩
  ·obtain⟨o',e1⟩:=I.base.there b o e hx
   exact⟨o',(hs.2 b (a8 (b5 (av e) (I.ok.cab x c hfn hc)))).trans e1⟩
  ·by_cases hj:j=i
   ·subst hj
    rw[hi]at e1;cases e1;rw[e8 hiσ]at e2;cases e2;exact⟨u,r,.inr ⟨.inl hk,c,hc,hc'⟩⟩
   ·rw[eJ (fz hj)]at e2
    obtain⟨u',r',q⟩:=hl j y v' e1 e2 e3;refine⟨u',r',?_⟩;rcases q with q | ⟨k,c',e,z'⟩
    ·exact .inl q
    ·refine .inr ⟨k,c',e,z'.sameBut hs ?_⟩
     rintro rfl;exact hj (Ek hN e1 (I.ok.inj _ _ _ e hc ▸ hi))
  ·by_cases hcc:c'=c
   ·subst hcc;exact⟨_,hc'⟩
   ·obtain⟨w2,z2⟩:=I.cell y c' e
    exact⟨w2,z2.sameBut hs hcc⟩
  ·obtain⟨e,n,ne,nf,d⟩:=I.pin p hp
   refine⟨(hs.2 p.1 ?_).trans e,n,ne,nf,d⟩;intro q;rw[q,hoc]at e;have q':oc=p.2:=ap e;exact d w' (by rw[<- q'];exact ahb)
theorem xW {M:Model}{A:Around}{E:AB}{i:Nat}{x:Str}{v:V}{u:Value}{Q:Unit->Shared->Prop}(I:aL X ao σ H s)(hN:X.N.Nodup)(hi:X.N[i]?=some x)(hx:Loc X.env.scope x)(r:cu v u)
  (h:∀s',aL X ao (σ.set i (some v)) H s'->Q () s') (hf:X.fn x=true\/X.env.scope.names.lookup x=some .local:=by first | exact .inl rfl | exact .inr rfl | assumption):wpAny M A (storeName X.env x u) Q E s:=
 JZ I hN hi hx r (λs' I' _=>h s' I') hf
theorem aL.call' {s':Shared}{ch:List Addr}(I:aL X ao σ H s)(ho:s'.os=s.os)(u:Un (frs X.stack) ch H H' s.heap s'.heap)(hok:iV X.prog X.w H' s'.heap)(hg:AllBare s'.gens)
  (hch:∀b∈ch,(b∈X.ex\/X.s₀.heap.objs.size<=b)/\b≠X.env.locals/\(∀x c,X.env.cells.lookup x=some c->c≠b)/\∀p∈X.pn++ao,p.1≠b):aL X ao σ H' s':=by
 obtain⟨h',g',d',t',o'⟩:=s';have e:o'=s.os:=ho;subst e;exact I.call (g':=g') (t':=t') (d':=d') u hok hg hch
end
abbrev XK:=Value->Option Addr->Hp->Prop
abbrev St:=List (Option V)
abbrev VK:=V->Hp->Prop
abbrev TE:=St->Hp->VK->Prop
abbrev TT:=St->Hp->(Bool->Hp->Prop)->Prop
abbrev TA:=St->Hp->(List V->Hp->Prop)->Prop
structure Ends where
 nx:St->Hp->Prop
 rt:VK
 bk:St->Hp->Prop:=λ_ _=>False
 ct:St->Hp->Prop:=λ_ _=>False
abbrev TS:=Ends->St->Hp->Prop
def EP (X:Cx)(ao:AC)(σ:St)(Q:VK)(u:Value)(s':Shared):Prop:=∃v H',aL X ao σ H' s'/\cu v u/\Q v H'
def TP (X:Cx)(ao:AC)(σ:St)(Q:Bool->Hp->Prop)(b:Bool)(s':Shared):Prop:=∃H',aL X ao σ H' s'/\Q b H'
def AP (X:Cx)(ao:AC)(σ:St)(Q:List V->Hp->Prop)(us:List Value)(s':Shared):Prop:=∃vs H',aL X ao σ H' s'/\Vals vs us/\Q vs H'
def SP (X:Cx)(ao:AC)(D:Ends)(f:Flow)(s':Shared):Prop:=
 match f with
 | .next=>∃σ' H',aL X ao σ' H' s'/\D.nx σ' H'
 | .brk=>∃σ' H',aL X ao σ' H' s'/\D.bk σ' H'
 | .cont=>∃σ' H',aL X ao σ' H' s'/\D.ct σ' H'
 | .ret u=>∃v σ' H',aL X ao σ' H' s'/\cu v u/\D.rt v H'
def PE (X:Cx)(e:Expr)(t:TE):Prop:=
 ∀(ao:AC) (s:Shared) (σ:St) (H:Hp) (Q:VK),aL X ao σ H s->t σ H Q->wpAny (model X.prog X.w) X.A (eval e X.env) (EP X ao σ Q) X.xe s
def PT (X:Cx)(e:Expr)(t:TT):Prop:=
 ∀(ao:AC) (s:Shared) (σ:St) (H:Hp) (Q:Bool->Hp->Prop),aL X ao σ H s->t σ H Q->wpAny (model X.prog X.w) X.A (isTrue e X.env (eval e X.env)) (TP X ao σ Q) X.xe s
def PW (X:Cx)(e:Expr)(t:TT):Prop:=
 ∀(whole:Sem Value) (ao:AC) (s:Shared) (σ:St) (H:Hp) (Q:Bool->Hp->Prop),aL X ao σ H s->t σ H Q->wpAny (model X.prog X.w) X.A (isTrue e X.env whole) (TP X ao σ Q) X.xe s
theorem PW.pt {X:Cx}{e:Expr}{t:TT}(h:PW X e t):PT X e t:=h _
def PA (X:Cx)(es:List Expr)(t:TA):Prop:=
 ∀(pos:Pos) (ao:AC) (s:Shared) (σ:St) (H:Hp) (Q:List V->Hp->Prop),aL X ao σ H s->t σ H Q->wpAny (model X.prog X.w) X.A (spliced (backTo pos (starEach es X.env))) (AP X ao σ Q) X.xe s
def PS (X:Cx)(st:Stmt)(t:TS):Prop:=
 ∀(ao:AC) (s:Shared) (σ:St) (H:Hp) (D:Ends),aL X ao σ H s->t D σ H->wpAny (model X.prog X.w) X.A (exec st X.env) (SP X ao D) X.xe s
def su (X:Cx)(st:List Stmt)(t:TS):Prop:=
 ∀(ao:AC) (s:Shared) (σ:St) (H:Hp) (D:Ends),aL X ao σ H s->t D σ H->wpAny (model X.prog X.w) X.A (execs st X.env) (SP X ao D) X.xe s
theorem bN {α:Type}{t:Sem α}{Q Q':α->Shared->Prop}{M:Model}{A:Around}{E:AB}{s:Shared}(h:wpAny M A t Q E s)(hQ:∀a s,Q a s->Q' a s):wpAny M A t Q' E s:=dl h hQ λ_ _ x=>x
section
variable {X:Cx}
def gY (i:Nat):TE:=λσ H Q=>∃v,σ[i]?=some (some v)/\Q v H
def tC (v:V):TE:=λ_ H Q=>Q v H
theorem aeg {i:Nat}{x:Str}{pos:Pos}(hN:X.N[i]?=some x)(hv:Vis X.env.scope x)(hd:(x==("__debug__":Str))=false:=by decide)(hcd:(x==("__classdict__":Str))=false:=by decide):PE X (.Name x pos) (gY i):=by
 intro ao s σ H Q I h;obtain⟨v,e,h⟩:=h;obtain⟨m,hn,hl⟩:=I.loc;obtain⟨u,r,l⟩:=hl i x v hN e hv;have fin:EP X ao σ Q u s:=⟨v,H,I,r,h⟩
 rcases l with⟨hk,hm⟩ | ⟨hk,c,hc,hcell⟩
 ·exact wpAny_Name (wpAny_loadName_local I.ok.kind hk hn hm fin) hd
 ·rcases hk with hk | hk
  ·exact wpAny_Name (wpAny_loadName_cell I.ok.kind hk hc hcell fin) hd
  ·exact wpAny_Name (wpAny_loadName_free I.ok.kind hk hc hcell fin hcd) hd
theorem aeh {i j pos}:PE X (.Constant (.int i) j pos) (tC (.int i)):=λ_ _ _ H _ I h=>wpAny_Constant_int ⟨.int i,H,I.tok _,⟨_,rfl⟩,h⟩
theorem agA {b j pos}:PE X (.Constant (.bool b) j pos) (tC (.bl b)):=λ_ _ _ H _ I h=>Constant_bool ⟨.bl b,H,I,rfl,h⟩
theorem aei {j pos}:PE X (.Constant .none j pos) (tC .non):=λ_ _ _ H _ I h=>Constant_none ⟨.non,H,I,rfl,h⟩
theorem aej {x j pos}:PE X (.Constant (.str x) j pos) (tC (.str x)):=λ_ _ _ H _ I h=>Calls.Constant_str ⟨.str x,H,I.tok _,⟨_,rfl⟩,h⟩
def Gl (X:Cx)(x:Str):Prop:=X.env.kindOf x=some .globalImplicit
theorem oA {E:AB}{ao:AC}{s:Shared}{σ:St}{H:Hp}{x:Str}{u:Value}{pos:Pos}{Q:AB}(I:aL X ao σ H s)(hg:Gl X x)(hm:X.mg x=some u)(h:Q u s)
  (hd:(x==("__debug__":Str))=false:=by decide):wpAny (model X.prog X.w) X.A (eval (.Name x pos) X.env) Q E s:=
 Calls.Name_function_global I.ok.kind hg (Calls.loadGlobal_global (by rw[I.ok.glob];exact I.mod.glob.keeps I.bk) hm h) hd
theorem wZ {E:AB}{ao:AC}{s:Shared}{σ:St}{H:Hp}{x:Str}{u:Value}{pos:Pos}{Q:AB}(I:aL X ao σ H s)(hg:Gl X x)(hm:X.mg x=none)(hv:bootBuiltins x=some u)(h:Q u s)
  (hn:x≠"__name__":=by decide) (hd:(x==("__debug__":Str))=false:=by decide):wpAny (model X.prog X.w) X.A (eval (.Name x pos) X.env) Q E s:=by
 obtain⟨mb,h1,h2⟩:=I.mod.blt;exact Calls.Name_function_global I.ok.kind hg (Calls.loadGlobal_builtin (by rw[I.ok.glob];exact I.mod.glob.keeps I.bk) hm (by rw[I.ok.blt];exact h1.keeps I.bk) ((h2 x hn).trans hv) h) hd
theorem acs {x:Str}{v:V}{u:Value}{pos:Pos}(hg:Gl X x)(hm:X.mg x=some u)(r:cu v u)(hd:(x==("__debug__":Str))=false:=by decide):PE X (.Name x pos) (tC v):=
 λ_ _ _ H _ I h=>oA I hg hm ⟨v,H,I,r,h⟩ hd
theorem acu {x:Str}{v:V}{u:Value}{pos:Pos}(hg:Gl X x)(hm:X.mg x=none)(hv:bootBuiltins x=some u)(r:cu v u)(hn:x≠"__name__":=by decide)(hd:(x==("__debug__":Str))=false:=by decide):PE X (.Name x pos) (tC v):=
 λ_ _ _ H _ I h=>wZ I hg hm hv ⟨v,H,I,r,h⟩ hn hd
variable {a b:Expr}{ta tb:TE}{pos:Pos}
def PC (X:Cx)(op:CmpOp)(a b:Expr)(t:TE):Prop:=
 ∀(ao:AC) (s:Shared) (σ:St) (H:Hp) (Q:VK),aL X ao σ H s->t σ H Q->
  wpAny (model X.prog X.w) X.A (eval a X.env) (λv s₁=>wpAny (model X.prog X.w) X.A (eval b X.env) (λu s₂=>wpAny (model X.prog X.w) X.A (compareOp op v u) (EP X ao σ Q) X.xe s₂) X.xe s₁) X.xe s
def tB (t:TE):TT:=λσ H Q=>t σ H λx H1=>∃c,x=.bl c/\Q c H1
theorem aek {op:CmpOp}{t:TE}(h:PC X op a b t)(h1:behindInMarks op b=false:=by first | exact Zt _ (by decide) (by decide) | rfl):PE X (.Compare a [op] [b] pos) t:=λao s σ H Q I hw=>wpAny_Compare1 (h ao s σ H Q I hw) h1
theorem ael {e:Expr}{t:TE}(h:PE X e t)(he:∀whole,isTrue e X.env whole=(do let v <- whole;standAt e.pos;holding [v] (truthy v)):=by intro _;rfl):PT X e (tB t):=by
 intro ao s σ H Q I hw;refine isTrue_plain (bN (h ao s σ H _ I hw) λv s1 zz=>?_) (he _);obtain⟨x,H1,I1,r1,q1⟩:=zz;obtain⟨d,rfl,q⟩:=q1;cases r1;exact dA ⟨H1,I1,q⟩
variable {tA nq:TT}{rest:List Expr}
def aem (t u:TT):TT:=λσ H Q=>t σ H λc H1=>if c=true then u σ H1 Q else Q false H1
def tOr (t u:TT):TT:=λσ H Q=>t σ H λc H1=>if c=true then Q true H1 else u σ H1 Q
def aen (t:TT):TT:=λσ H Q=>t σ H λc H1=>Q (!c) H1
theorem acv (ha:PT X a tA):PW X (.BoolOp .And [a] pos) tA:=by
 intro wh ao s σ H Q I h;refine isTrue_and (bN (ha ao s σ H Q I h) λc s1 e=>?_);cases c with
 | true=>exact isTrue_and_nil e
 | false=>exact e
theorem aeo (ha:PT X a tA):PW X (.BoolOp .Or [a] pos) tA:=by
 intro wh ao s σ H Q I h;refine isTrue_or (bN (ha ao s σ H Q I h) λc s1 e=>?_);cases c with
 | false=>exact isTrue_or_nil e
 | true=>exact e
theorem aep (ha:PT X a tA)(hb:PW X (.BoolOp .And (b::rest) pos) nq):PW X (.BoolOp .And (a::b::rest) pos) (aem tA nq):=by
 intro wh ao s σ H Q I h;refine isTrue_and (bN (ha ao s σ H _ I h) λc s1 zz=>?_);obtain⟨H1,I1,q1⟩:=zz;cases c with
 | true=>exact hb wh ao s1 σ H1 Q I1 q1
 | false=>exact⟨H1,I1,q1⟩
theorem agB (ha:PT X a tA)(hb:PW X (.BoolOp .Or (b::rest) pos) nq):PW X (.BoolOp .Or (a::b::rest) pos) (tOr tA nq):=by
 intro wh ao s σ H Q I h;refine isTrue_or (bN (ha ao s σ H _ I h) λc s1 zz=>?_);obtain⟨H1,I1,q1⟩:=zz;cases c with
 | true=>exact⟨H1,I1,q1⟩
 | false=>exact hb wh ao s1 σ H1 Q I1 q1
theorem aer (ha:PT X a tA):PT X (.UnaryOp .Not a pos) (aen tA):=by
 intro ao s σ H Q I h;exact isTrue_not (ha ao s σ H (λc H1=>Q (!c) H1) I h)
def abJ (ta tb:TE):TE:=λσ H Q=>ta σ H λx H1=>∃c,x=.bl c/\if c=true then tb σ H1 Q else Q (.bl false) H1
def aes (ta tb:TE):TE:=λσ H Q=>ta σ H λx H1=>∃c,x=.bl c/\if c=true then Q (.bl true) H1 else tb σ H1 Q
def abK (ta:TE):TE:=λσ H Q=>ta σ H λx H1=>∃c,x=.bl c/\Q (.bl (!c)) H1
theorem aeu {op}{t:TE}(h:PE X a t):PE X (.BoolOp op [a] pos) t:=λao s σ H Q I hw=>BoolOp_one (h ao s σ H Q I hw)
theorem aev (ha:PE X a ta)(hb:PE X (.BoolOp .And (b::rest) pos) tb):PE X (.BoolOp .And (a::b::rest) pos) (abJ ta tb):=by
 intro ao s σ H Q I h;refine BoolOp_and (bN (ha ao s σ H _ I h) λv s1 zz=>?_);obtain⟨x,H1,I1,r1,q1⟩:=zz;obtain⟨c,rfl,q1⟩:=q1;cases r1;refine dA ?_;cases c with
 | true=>exact hb ao s1 σ H1 Q I1 q1
 | false=>exact⟨.bl false,H1,I1,rfl,q1⟩
theorem agC (ha:PE X a ta)(hb:PE X (.BoolOp .Or (b::rest) pos) tb):PE X (.BoolOp .Or (a::b::rest) pos) (aes ta tb):=by
 intro ao s σ H Q I h;refine BoolOp_or (bN (ha ao s σ H _ I h) λv s1 zz=>?_);obtain⟨x,H1,I1,r1,q1⟩:=zz;obtain⟨c,rfl,q1⟩:=q1;cases r1;refine dA ?_;cases c with
 | false=>exact hb ao s1 σ H1 Q I1 q1
 | true=>exact⟨.bl true,H1,I1,rfl,q1⟩
theorem aew (ha:PE X a ta):PE X (.UnaryOp .Not a pos) (abK ta):=by
 intro ao s σ H Q I h;refine UnaryOp_ (bN (ha ao s σ H _ I h) λv s1 zz=>?_);obtain⟨x,H1,I1,r1,q1⟩:=zz;obtain⟨c,rfl,q1⟩:=q1;cases r1;exact not_of (dA ⟨.bl (!c),H1,I1,rfl,q1⟩)
def tIf (t:TT)(ta tb:TE):TE:=λσ H Q=>t σ H λc H1=>if c=true then ta σ H1 Q else tb σ H1 Q
theorem Zu {c:Expr}(hc:PT X c tA)(ha:PE X a ta)(hb:PE X b tb):PE X (.IfExp c a b pos) (tIf tA ta tb):=by
 intro ao s σ H Q I h;refine wpAny_IfExp (bN (hc ao s σ H _ I h) λd s1 zz=>?_);obtain⟨H1,I1,q1⟩:=zz;cases d with
 | true=>exact ha ao s1 σ H1 Q I1 q1
 | false=>exact hb ao s1 σ H1 Q I1 q1
end
def aU (K:W.Frag)(H:Hp)(a:Addr)(xs:List V):Prop:=
 Rd H a (.lst xs)\/
  ∃(o:Obj) (its:Array Value) (n:Nat),K.lookup a=some o/\o.cls=.type "list"/\o.dict=none/\o.data=.seq its n/\its.size<=sizeLine/\Vals xs its.toList
def aM (K:W.Frag)(H:Hp)(a:Addr)(xs:List V):Prop:=
 Rd H a (.tup xs)\/
  ∃(o:Obj) (its:Array Value) (n:Nat),K.lookup a=some o/\o.cls=.type "tuple"/\o.data=.seq its n/\its.size<=sizeLine/\Vals xs its.toList
def ahc:Value->Option V
 | .none=>some .non
 | .bool b=>some (.bl b)
 | .int i _=>some (.int i)
 | .str x _=>some (.str x)
 | .bytes b _=>some (.zV b)
 | .float b _=>some (.flt b)
 | .ref a=>some (.ref a)
 | .type n=>some (.ty n)
 | _=>none
theorem cu.abs {x:V}{u:Value}(r:cu x u):ahc u=some x:=by
 cases x with
 | non=>cases r;rfl
 | bl _=>cases r;rfl
 | int _=>obtain⟨t,rfl⟩:=r;rfl
 | str _=>obtain⟨t,rfl⟩:=r;rfl
 | zV _=>obtain⟨t,rfl⟩:=r;rfl
 | flt _=>obtain⟨t,rfl⟩:=r;rfl
 | ref _=>cases r;rfl
 | ty _=>cases r;rfl
theorem cu.inj {x y:V}{u:Value}(r:cu x u)(q:cu y u):x=y:=ap (r.abs.symm.trans q.abs)
theorem Vals.inj:∀{xs ys:List V} {us:List Value},Vals xs us->Vals ys us->xs=ys
 | _,_,_,.nil,.nil=>rfl
 | _,_,_,.cons r t,.cons r' t'=>by rw[r.inj r',Vals.inj t t']
section
variable {X:Cx}{ao:AC}{σ:St}{H:Hp}{s:Shared}{a:Addr}{xs ys:List V}
theorem aU.of {K:W.Frag}(h:H a=some (.lst xs)):aU K H a xs:=.inl (.inl h)
theorem aM.of {K:W.Frag}(h:H a=some (.tup xs)):aM K H a xs:=.inl (.inl h)
theorem aL.list (I:aL X ao σ H s)(h:aU X.K H a xs):∃its:List Value,Vals xs its/\PlainL s.heap a its.toArray/\xs.length<=sizeLine:=by
 rcases h with h | ⟨o,its,n,hk,hc,hd,hs,hz,r⟩
 ·obtain⟨z,its,n,r,e⟩:=h.ok I.hok
  exact⟨its,r,⟨_,n,e,rfl,rfl,rfl⟩,z⟩
 ·refine⟨its.toList,r,⟨o,n,I.gk a o hk,hc,hd,by simpa using hs⟩,?_⟩
  have e:=r.length;simp only[dr]at e;lia
theorem aL.tuple (I:aL X ao σ H s)(h:aM X.K H a xs):∃its:List Value,Vals xs its/\IsTup s.heap a its.toArray/\xs.length<=sizeLine:=by
 rcases h with h | ⟨o,its,n,hk,hc,hs,hz,r⟩
 ·obtain⟨z,its,r,p⟩:=h.ok I.hok
  exact⟨its,r,p,z⟩
 ·refine⟨its.toList,r,⟨o,I.gk a o hk,hc,n,by simpa using hs⟩,?_⟩
  have e:=r.length;simp only[dr]at e;lia
theorem aL.El (I:aL X ao σ H s)(h:aU X.K H a xs)(h':aU X.K H a ys):xs=ys:=by
 obtain⟨its,r,⟨o,n,e,_,_,d⟩,_⟩:=I.list h;obtain⟨its',r',⟨o',n',e',_,_,d'⟩,_⟩:=I.list h';rw[e]at e';cases e';rw[d]at d';injection d' with d1 _;have:its=its':=by simpa using congrArg Array.toList d1
 subst this;exact r.inj r'
theorem aL.V6 (I:aL X ao σ H s)(h:aM X.K H a xs)(h':aM X.K H a ys):xs=ys:=by
 obtain⟨its,r,⟨o,e,_,n,d⟩,_⟩:=I.tuple h;obtain⟨its',r',⟨o',e',_,n',d'⟩,_⟩:=I.tuple h';rw[e]at e';cases e';rw[d]at d';injection d' with d1 _;have:its=its':=by simpa using congrArg Array.toList d1
 subst this;exact r.inj r'
end
abbrev Cx.wish (X:Cx)(E:AB):Cx:={ X with xe:=E }
abbrev Cx.MF (X:Cx):Cx:=X.wish λ_ _=>False
theorem Cx.Ok.wish {X:Cx}(ok:X.Ok)(E:AB):(X.wish E).Ok:=
 ⟨ok.mod,ok.kind,ok.glob,ok.blt,ok.above,ok.inj,ok.has,ok.cab,ok.hd,ok.frames,ok.stk,ok.V3,ok.bs,ok.rY,ok.wg,ok.Ej,ok.mZ,ok.z_⟩
theorem Cx.Ok.qX {X:Cx}{E:AB}(ok:(X.wish E).Ok):X.Ok:=
 ⟨ok.mod,ok.kind,ok.glob,ok.blt,ok.above,ok.inj,ok.has,ok.cab,ok.hd,ok.frames,ok.stk,ok.V3,ok.bs,ok.rY,ok.wg,ok.Ej,ok.mZ,ok.z_⟩
section
variable {X:Cx}{ao:AC}{σ:St}{H:Hp}{s:Shared}{E:AB}
variable {st:Stmt}{rest:List Stmt}{t u:TS}{e:Expr}{te:TE}{pos:Pos}
theorem aL.wish (I:aL X ao σ H s)(E:AB):aL (X.wish E) ao σ H s:=⟨I.ok.wish E,I.os,I.bare,I.base,I.loc,I.cell,I.free,I.ji,I.pin,I.hok,I.len⟩
theorem aL.qX (I:aL (X.wish E) ao σ H s):aL X ao σ H s:=⟨I.ok.qX,I.os,I.bare,I.base,I.loc,I.cell,I.free,I.ji,I.pin,I.hok,I.len⟩
theorem SP.qX {D:Ends}{f:Flow}{s':Shared}(h:SP (X.wish E) ao D f s'):SP X ao D f s':=by
 cases f with
 | next=>obtain⟨σ',H',I,q⟩:=h;exact⟨σ',H',I.qX,q⟩
 | brk=>obtain⟨σ',H',I,q⟩:=h;exact⟨σ',H',I.qX,q⟩
 | cont=>obtain⟨σ',H',I,q⟩:=h;exact⟨σ',H',I.qX,q⟩
 | ret u=>obtain⟨v,σ',H',I,r,q⟩:=h;exact⟨v,σ',H',I.qX,r,q⟩
theorem su.MF {st:List Stmt}{t:TS}(h:su X.MF st t):su X st t:=λao s σ H D I hw=>
 dl (h ao s σ H D (I.wish _) hw) (λ_ _ q=>q.qX) λ_ _ z=>False.elim z
def abL:TS:=λD σ H=>D.nx σ H
def aex (t u:TS):TS:=λD σ H=>t { D with nx:=u D } σ H
theorem acw:su X [] abL:=λ_ _ σ H _ I h=>kq ⟨σ,H,I,h⟩
theorem Zv (h1:PS X st t)(h2:su X rest u):su X (st::rest) (aex t u):=by
 intro ao s σ H D I h;refine wpAny_execs_cons (bN (h1 ao s σ H { D with nx:=u D } I h) λf s1 q=>?_);cases f with
 | next=>
  obtain⟨σ',H',I',q⟩:=q;exact h2 ao s1 σ' H' D I' q
 | ret v=>exact q
 | brk=>exact q
 | cont=>exact q
theorem acy (h1:PS X st t):su X [st] t:=by
 intro ao s σ H D I h;refine wpAny_execs_cons (bN (h1 ao s σ H D I h) λf s1 q=>?_);cases f with
 | next=>exact kq q
 | ret v=>exact q
 | brk=>exact q
 | cont=>exact q
theorem aL.quiet {ao:AC}{σ:St}{H:Hp}{s:Shared}(I:aL X ao σ H s):interactive X.env=false:=by simp[interactive,I.ok.kind]
def abM (te:TE):TS:=λD σ H=>te σ H λ_ H1=>D.nx σ H1
theorem acz (he:PE X e te)(hs:swapsWith e none pos.line X.env=pure false:=by rfl):PS X (.Expr e pos) (abM te):=by
 intro ao s σ H D I h;exact wpAny_Expr_any (bN (he ao s σ H _ I h) λv s1 ⟨x,H1,I1,r1,q1⟩=>⟨σ,H1,I1,q1⟩) I.quiet hs
def Zw (te:TE):TS:=λD σ H=>te σ H D.rt
theorem aey (he:PE X e te):PS X (.Return (some e) pos) (Zw te):=by
 intro ao s σ H D I h;exact wpAny_Return_some (bN (he ao s σ H _ I h) λv s1 ⟨x,H1,I1,r1,q1⟩=>⟨x,σ,H1,I1,r1,q1⟩)
def aez (c:TT)(t u:TS):TS:=λD σ H=>c σ H λb H1=>if b=true then t D σ H1 else u D σ H1
theorem agD {c:Expr}{a b:List Stmt}{tc:TT}(hc:PT X c tc)(ha:su X a t)(hb:su X b u):PS X (.If c a b pos) (aez tc t u):=by
 intro ao s σ H D I h;refine wpAny_If (bN (hc ao s σ H _ I h) λd s1 zz=>?_);obtain⟨H1,I1,q1⟩:=zz;cases d with
 | true=>exact ha ao s1 σ H1 D I1 q1
 | false=>exact hb ao s1 σ H1 D I1 q1
def V7:TS:=λ_ _ _=>False
theorem V8 {sts:List Stmt}:su X sts V7:=λ_ _ _ _ _ _ h=>h.elim
end
abbrev TG:=V->St->Hp->(St->Hp->Prop)->Prop
abbrev zW:=List V->St->Hp->(St->Hp->Prop)->Prop
def PG (X:Cx)(target:Expr)(t:TG):Prop:=
 ∀(ao:AC) (s:Shared) (σ:St) (H:Hp) (v:V) (u:Value) (Q:St->Hp->Prop),aL X ao σ H s->cu v u->t v σ H Q->
  wpAny (model X.prog X.w) X.A (assign target X.env u) (λ_ s'=>∃σ' H',aL X ao σ' H' s'/\Q σ' H') X.xe s
def V9 (X:Cx)(ts:List Expr)(t:zW):Prop:=
 ∀(ao:AC) (s:Shared) (σ:St) (H:Hp) (vs:List V) (us:List Value) (Q:St->Hp->Prop),aL X ao σ H s->Vals vs us->t vs σ H Q->
  wpAny (model X.prog X.w) X.A (assignInOrder ((assignEach ts X.env).map (·.2)) us) (λ_ s'=>∃σ' H',aL X ao σ' H' s'/\Q σ' H') X.xe s
abbrev Tr:=V->V->V->Hp->(Hp->Prop)->Prop
def Zx (X:Cx)(t:Tr):Prop:=
 ∀(ao:AC) (s:Shared) (σ:St) (H:Hp) (o i v:V) (ov iv u:Value) (Q:Hp->Prop),aL X ao σ H s->cu o ov->cu i iv->cu v u->t o i v H Q->
  wpAny (model X.prog X.w) X.A (setItem ov iv u) (λ_ s'=>∃H',aL X ao σ H' s'/\Q H') X.xe s
section
variable {X:Cx}{pos:Pos}
def mH (i:Nat):TG:=λv σ H Q=>Q (σ.set i (some v)) H
theorem pX {i:Nat}{x:Str}(hN:X.N.Nodup)(hi:X.N[i]?=some x)(hx:Loc X.env.scope x)(hf:X.fn x=true\/X.env.scope.names.lookup x=some .local:=by first | exact .inl rfl | exact .inr rfl | assumption):PG X (.Name x pos) (mH i):=by
 intro ao s σ H v u Q I r h;exact kX (xW I hN hi hx r (λs' I'=>⟨_,H,I',h⟩) hf)
def Tt:zW:=λvs σ H Q=>vs=[]/\Q σ H
def xX (t:TG)(u:zW):zW:=λvs σ H Q=>∃v r,vs=v::r/\t v σ H λσ' H'=>u r σ' H' Q
theorem Ih:V9 X [] Tt:=by
 intro ao s σ H vs us Q I r h;obtain⟨e,h⟩:=h;subst e;cases r;exact assignInOrder_nil ⟨σ,H,I,h⟩
theorem pY {e:Expr}{es:List Expr}{t:TG}{u:zW}(h1:PG X e t)(h2:V9 X es u)
  (hs:(assignEach (e::es) X.env).map (·.2)=assign e X.env::(assignEach es X.env).map (·.2):=by rfl):V9 X (e::es) (xX t u):=by
 intro ao s σ H vs us Q I r h;obtain⟨v,vr,e1,h⟩:=h;subst e1;cases r with
 | cons r rr=>
  rw[hs];refine assignInOrder_cons (bN (h1 ao s σ H _ _ _ I r h) λ_ s1 zz=>?_);obtain⟨σ1,H1,I1,q1⟩:=zz;exact h2 ao s1 σ1 H1 _ _ Q I1 rr q1
def Tv (K:W.Frag)(n:Nat)(t:zW):TG:=λv σ H Q=>∃a xs,v=.ref a/\aM K H a xs/\xs.length=n/\t xs σ H Q
theorem MJ {es:List Expr}{k:Nat}{t:zW}{n:Nat}(hc:X.calm=true)(h:V9 X es t)
  (hn:(assignEach es X.env).length=n:=by rfl) (hst:(assignEach es X.env).findIdx? (·.1)=none:=by rfl):PG X (.Tuple es k pos) (Tv X.K n t):=by
 intro ao s σ H v u Q I r hw;obtain⟨a,xs,e1,hq,hl,hw⟩:=hw;subst e1;cases r;obtain⟨its,rv,ht,hz⟩:=I.tuple hq;refine assign_Tuple_tuple (I.ok.hd hc) ht (by simp[hn,<- hl,rv.length]) hst λh' hx=>?_;have I1:aL X ao σ H { s with heap:=h' }:=I.kept (t':=s.toks) λb o e=>hx b o (a8 (av e)) e;exact h ao _ σ H xs _ Q I1 (by simpa using rv) hw
def aeA (to ti:TE)(t:Tr):TG:=λv σ H Q=>to σ H λo H1=>ti σ H1 λi H2=>t o i v H2 λH3=>Q σ H3
theorem aeB {o i:Expr}{to ti:TE}{t:Tr}(ho:PE X o to)(hi:PE X i ti)(hs:Zx X t)
  (ha:∀v,assign (.Subscript o i pos) X.env v=(do
   let ov <- holding [v] (eval o X.env)
   let iv <- holding [v,ov] (eval i X.env)
   standAt pos
   holding [v,ov,iv] (setItem ov iv v)
   release [v,ov,iv] []):=by intro _;rfl):PG X (.Subscript o i pos) (aeA to ti t):=by
 intro ao s σ H v u Q I r h;rw[ha];refine ad (cK (bN (ho ao s σ H _ I h) λov s1 zz=>?_));obtain⟨x,H1,I1,r1,q1⟩:=zz;refine ad (cK (bN (hi ao s1 σ H1 _ I1 q1) λiv s2 zz=>?_));obtain⟨y,H2,I2,r2,q2⟩:=zz;refine ad (iA (ad (cK (bN (hs ao s2 σ H2 x y v ov iv u _ I2 r1 r2 r q2) λ_ s3 zz=>?_))));obtain⟨H3,I3,q3⟩:=zz;exact wpAny_release ⟨σ,H3,I3,q3⟩
def Ii (te:TE)(g:TG):TS:=λD σ H=>te σ H λx H1=>g x σ H1 D.nx
theorem aeC {tg e:Expr}{te:TE}{g:TG}(he:PE X e te)(hg:PG X tg g)(hs:swapsWithSole [tg] e pos.line X.env=pure false:=by rfl)(hw:swappedStores [tg] e X.env=pure none:=by rfl)
  (h1:(assignEach [tg] X.env).map (·.2)=[assign tg X.env]:=by rfl):PS X (.Assign [tg] e pos) (Ii te g):=by
 intro ao s σ H D I h;refine wpAny_Assign_stores (bN (he ao s σ H _ I h) λv s1 zz=>?_) hs hw;obtain⟨x,H1,I1,r1,q1⟩:=zz;rw[h1];exact bN (hg ao s1 σ H1 x v _ I1 r1 q1) λ_ s2 q=>q
theorem aeD {i:Nat}{x:Str}{e:Expr}{te:TE}{pos':Pos}(hN:X.N.Nodup)(hi:X.N[i]?=some x)(hx:Loc X.env.scope x)(he:PE X e te)(hs:swapsWith e (some (.Name x pos')) pos.line X.env=pure false:=by rfl)(hf:X.fn x=true\/X.env.scope.names.lookup x=some .local:=by first | exact .inl rfl | exact .inr rfl | assumption) :
  PS X (.Assign [.Name x pos'] e pos) (Ii te (mH i)):=by
 intro ao s σ H D I h;refine wpAny_Assign_Name (bN (he ao s σ H _ I h) λv s1 zz=>?_) hs;obtain⟨y,H1,I1,r1,q1⟩:=zz;exact xW I1 hN hi hx r1 (λs2 I2=>⟨_,H1,I2,q1⟩) hf
def V_ (c:TT)(tb:TS):TS:=λD σ H=>∃W:Nat->St->Hp->Prop,(∃m,W m σ H)/\∀m σ H,W m σ H->
 c σ H λb H1=>if b=true then ∃N:St->Hp->Prop,(∀σ' H',N σ' H'->∃m',m' < m/\W m' σ' H')/\tb { D with nx:=N,ct:=N,bk:=D.nx } σ H1 else D.nx σ H1
theorem Zy {c:Expr}{body:List Stmt}{tc:TT}{tb:TS}(hp:PassesOwn (model X.prog X.w) X.A X.env X.xe)(hc:PT X c tc)(hb:su X body tb):PS X (.While c body [] pos) (V_ tc tb):=by
 intro ao s σ H D I h;obtain⟨W,⟨m0,w0⟩,turn⟩:=h;refine wpAny_While (codeAny_whileLoop (λn s'=>∃σ' H',aL X ao σ' H' s'/\W n σ' H') ?_ m0 ⟨σ,H,I,w0⟩);rintro n s1 ⟨σ1,H1,I1,w1⟩;refine f6 hp (bN (hc ao s1 σ1 H1 _ I1 (turn n σ1 H1 w1)) λb s2 zz=>?_);obtain⟨H2,I2,q2⟩:=zz;cases b with
 | true=>
  obtain⟨N,hN,q2⟩:=q2;rw[if_pos rfl];refine f6 hp (bN (hb ao s2 σ1 H2 _ I2 q2) λf s3 q3=>?_);cases f with
  | next=>
   obtain⟨σ3,H3,I3,n3⟩:=q3;obtain⟨m',hm,w3⟩:=hN σ3 H3 n3;exact⟨m',hm,σ3,H3,I3,w3⟩
  | cont=>
   obtain⟨σ3,H3,I3,n3⟩:=q3;obtain⟨m',hm,w3⟩:=hN σ3 H3 n3;exact⟨m',hm,σ3,H3,I3,w3⟩
  | brk=>exact q3
  | ret v=>exact q3
 | false=>
  rw[if_neg ba];exact kq ⟨σ1,H2,I2,q2⟩
end
structure It where
 go:Nat->Hp->Prop
 pO:Nat->Hp->V->Hp->Prop
 stop:Nat->Hp->Prop
def nY (X:Cx)(ao:AC)(H:Hp)(b:Addr):Prop:=
 H b=none/\b≠X.env.locals/\b∉X.fs/\(b∈X.ex\/X.s₀.heap.objs.size<=b)/\(∀x c,X.env.cells.lookup x=some c->c≠b)/\∀p∈X.pn++ao,p.1≠b
theorem aL.Ij {X:Cx}{ao:AC}{σ:St}{H H':Hp}{s:Shared}{b:Addr}(I:aL X ao σ H s)(hb:s.heap.objs.size<=b)(hn:H' b=none):nY X ao H' b:=by
 refine⟨hn,kr (b5 I.lt hb),I.aha hb,.inr (b9 I.sz hb),λx c e z=>?_,λp hp z=>?_⟩
 ·obtain⟨v,q⟩:=I.cell x c e
  exact absurd (b5 q.lt (by rw[z];exact hb)) (du _)
 ·exact absurd (b5 (av (I.pin p hp).1) (by rw[z];exact hb)) (du _)
structure Turn (P:Program)(w:World)(K:W.Frag)(tg:Expr)(J:It)(fp:List Addr)(it:Addr)(tn:Nat->Heap->Prop):Prop where
 mem:it∈fp
 obj:∀i h,tn i h->∀b∈fp,∃o,h.get? b=some o/\∀v,o.data≠.cell v
 keep:∀i h h',tn i h->(∀b∈fp,∀o,h.get? b=some o->h'.get? b=some o)->tn i h'
 item:∀(X:Cx),X.prog=P->X.w=w->X.K=K->X.calm=true->∀(i:Nat) (ao:AC) (s:Shared) (σ:St) (H:Hp) (E:AB),aL X ao σ H s->(∀b∈fp,nY X ao H b)->tn i s.heap->J.go i H->
  wpAny (model P w) X.A (pyNext (.ref it)) (λr s1=>∃u,r=some u/\
   wpAny (model P w) X.A (letOwnedTupleGo tg (.ref it) u) (λ_ s2=>∃x H',aL X ao σ H' s2/\cu x u/\J.pO i H x H'/\tn (i+1) s2.heap/\∀b∈fp,H' b=none) E s1) E s
 done:∀(X:Cx),X.prog=P->X.w=w->X.K=K->X.calm=true->∀(i:Nat) (ao:AC) (s:Shared) (σ:St) (H:Hp) (E:AB),aL X ao σ H s->(∀b∈fp,nY X ao H b)->tn i s.heap->J.stop i H->
  wpAny (model P w) X.A (pyNext (.ref it)) (λr s1=>r=none/\aL X ao σ H s1) E s
 self:∀(A:Around) (i:Nat) (s:Shared) (Q:AB) (E:AB),tn i s.heap->Q (.ref it) s->wpAny (model P w) A (pyIter (.ref it)) Q E s
abbrev TI:=St->Hp->(It->Hp->Prop)->Prop
def PIE (X:Cx)(ao:AC)(σ:St)(tg:Expr)(R:It->Hp->Prop)(itv:Value)(s2:Shared):Prop:=
 ∃(it:Addr) (fp:List Addr) (tn:Nat->Heap->Prop) (J:It) (H':Hp),itv=.ref it/\aL X ao σ H' s2/\Turn X.prog X.w X.K tg J fp it tn/\tn 0 s2.heap/\(∀b∈fp,nY X ao H' b)/\R J H'
def PI (X:Cx)(tg iter:Expr)(wi:TI):Prop:=
 ∀(ao:AC) (s:Shared) (σ:St) (H:Hp) (R:It->Hp->Prop),aL X ao σ H s->wi σ H R->
  wpAny (model X.prog X.w) X.A (eval iter X.env) (λv s1=>wpAny (model X.prog X.w) X.A (pyIter v) (PIE X ao σ tg R) X.xe s1) X.xe s
theorem Mh {M : Model}{A : Around}{E : Value -> Shared -> Prop}{s : Shared}{tg : Expr}{it : Addr}{u : Value}{o : Obj}{n : String}{vs : Array Value}{Q : Unit -> Shared -> Prop}(ho : s.heap.get? it = some o)(hc : o.cls = .type n)(hd : o.data = .fields vs)
    (hn : ["enumerate", "zip", "dict_itemiterator", "dict_reverseitemiterator", "odict_iterator", "itertools.zip_longest", "itertools.pairwise"].contains n = false) (hQ : Q () s) : wpAny M A (letOwnedTupleGo tg (.ref it) u) Q E s := by
  unfold letOwnedTupleGo;cases tg <;> first
    | exact am hQ
    | (cases u <;> first
        | exact am hQ
        | (refine ad (wpAny_load ho ?_)
           rw[hc, hd];show wpAny M A (if (["enumerate", "zip", "dict_itemiterator", "dict_reverseitemiterator", "odict_iterator", "itertools.zip_longest", "itertools.pairwise"].contains n&&vs[0]? == some (rawInt _)) = true then _ else _) Q E s;rw[if_neg (by intro h; rw[hn, Bool.false_and]at h; cases h)];exact am hQ))
def uX (K:W.Frag)(a:Addr):It:=
 ⟨λi H=>∃xs x,aU K H a xs/\xs[i]?=some x,λi H x H'=>H'=H/\∀xs,aU K H a xs->xs[i]?=some x,λi H=>∃xs,aU K H a xs/\xs.length<=i⟩
def uY (K:W.Frag)(a:Addr):It:=
 ⟨λi H=>∃xs x,aM K H a xs/\xs[i]?=some x,λi H x H'=>H'=H/\∀xs,aM K H a xs->xs[i]?=some x,λi H=>∃xs,aM K H a xs/\xs.length<=i⟩
def MN (lo:Int)(n:Nat):It:=⟨λi _=>i < n,λi H x H'=>H'=H/\x=.int (lo+i),λi _=>n<=i⟩
theorem Wa {P:Program}{w:World}{K:W.Frag}{tg:Expr}(a it:Addr):Turn P w K tg (uX K a) [it] it (λi h=>h.IsListIter it a i) where
 mem:=by simp
 obj:=λi h st b hb=>by
  have e:b=it:=by simpa using hb
  subst e;obtain⟨o,e,c,d⟩:=st;exact⟨o,e,λv z=>by rw[d]at z;cases z⟩
 keep:=λi h h' st k=>st.at λo e=>k it (by simp) o e
 item:=by
  intro X hP hw hK hc i ao s σ H E I hf st hg;subst hP hw hK;obtain⟨xs,x,hq,hx⟩:=hg;obtain⟨its,rv,p,hz⟩:=I.list hq;obtain⟨u,hu,ru⟩:=rv.get hx;obtain⟨f0,f1,f2,f3,f4,f5⟩:=hf it (by simp);refine wpAny_pyNext_list_item st p.isList (x:=u) (by simpa using hu) λh' st' sb=>?_;have I1:aL X ao σ H { s with heap:=h' }:=I.turned (t':=s.toks) (λb o hb e=>(sb.2 b hb).trans e) f0 f1 f3 f4 f5;obtain⟨o,e,c,d⟩:=id st';exact⟨u,rfl,Mh (s:={ s with heap:=h' }) e c d (by decide) ⟨x,H,I1,ru,⟨rfl,λys hy=>by rw[I.El hy hq];exact hx⟩,st',λb hb=>(hf b hb).1⟩⟩
 done:=by
  intro X hP hw hK hc i ao s σ H E I hf st hg;subst hP hw hK;obtain⟨xs,hq,hx⟩:=hg;obtain⟨its,rv,p,hz⟩:=I.list hq;obtain⟨f0,f1,f2,f3,f4,f5⟩:=hf it (by simp);have hl:=rv.length;exact wpAny_pyNext_list_end (I.ok.hd hc) st p.isList (by simp;lia) λh' eb=>⟨rfl,I.turned (t':=s.toks) (λb o hb e=>eb b o hb e) f0 f1 f3 f4 f5⟩
 self:=λ_ _ _ _ _ st h=>wpAny_pyIter_listiter st h
theorem Tw {P:Program}{w:World}{K:W.Frag}{tg:Expr}(a it:Addr):Turn P w K tg (uY K a) [it] it (λi h=>h.IsTupleIter it a i) where
 mem:=by simp
 obj:=λi h st b hb=>by
  have e:b=it:=by simpa using hb
  subst e;obtain⟨o,e,c,d⟩:=st;exact⟨o,e,λv z=>by rw[d]at z;cases z⟩
 keep:=λi h h' st k=>st.at λo e=>k it (by simp) o e
 item:=by
  intro X hP hw hK hc i ao s σ H E I hf st hg;subst hP hw hK;obtain⟨xs,x,hq,hx⟩:=hg;obtain⟨its,rv,p,hz⟩:=I.tuple hq;obtain⟨u,hu,ru⟩:=rv.get hx;obtain⟨f0,f1,f2,f3,f4,f5⟩:=hf it (by simp);refine wpAny_pyNext_tuple_item st (show s.heap.IsTuple a its.toArray from p) (x:=u) (by simpa using hu) λh' st' sb=>?_;have I1:aL X ao σ H { s with heap:=h' }:=I.turned (t':=s.toks) (λb o hb e=>(sb.2 b hb).trans e) f0 f1 f3 f4 f5;obtain⟨o,e,c,d⟩:=id st';exact⟨u,rfl,Mh (s:={ s with heap:=h' }) e c d (by decide) ⟨x,H,I1,ru,⟨rfl,λys hy=>by rw[I.V6 hy hq];exact hx⟩,st',λb hb=>(hf b hb).1⟩⟩
 done:=by
  intro X hP hw hK hc i ao s σ H E I hf st hg;subst hP hw hK;obtain⟨xs,hq,hx⟩:=hg;obtain⟨its,rv,p,hz⟩:=I.tuple hq;obtain⟨f0,f1,f2,f3,f4,f5⟩:=hf it (by simp);have hl:=rv.length;exact wpAny_pyNext_tuple_end (I.ok.hd hc) st (show s.heap.IsTuple a its.toArray from p) (by simp;lia) λh' eb=>⟨rfl,I.turned (t':=s.toks) (λb o hb e=>eb b o hb e) f0 f1 f3 f4 f5⟩
 self:=λ_ _ _ _ _ st h=>wpAny_pyIter_tupleiter st h
theorem Tz {P:Program}{w:World}{K:W.Frag}{tg:Expr}(it:Addr)(lo:Int)(n:Nat):Turn P w K tg (MN lo n) [it] it (λi h=>IsRangeIter h it (lo+(i:Nat)*1) ((n:Int)-(i:Nat)) 1) where
 mem:=by simp
 obj:=λi h st b hb=>by
  have e:b=it:=by simpa using hb
  subst e;exact⟨_,st,λv z=>by
   have z':Data.fields _=Data.cell v:=z;cases z'⟩
 keep:=λi h h' st k=>k it (by simp) _ st
 item:=by
  intro X hP hw hK hc i ao s σ H E I hf st hg;subst hP hw hK;obtain⟨f0,f1,f2,f3,f4,f5⟩:=hf it (by simp);have W:=Walks.range (prog:=X.prog) (w:=X.w) (I.ok.hd hc) it lo 1 n;refine W.item i s _ _ hg st λv h' tk hv st' kk=>?_;obtain⟨t,rfl⟩:=hv;have I1:aL X ao σ H { s with heap:=h',toks:=tk }:=I.turned (λb o hb e=>kk b o (by simpa using hb) e) f0 f1 f3 f4 f5;refine⟨_,rfl,Mh (s:={ s with heap:=h',toks:=tk }) (n:="range_iterator") st' rfl rfl (by decide) ⟨.int (lo+i),H,I1,⟨t,?_⟩,⟨rfl,rfl⟩,st',λb hb=>(hf b hb).1⟩⟩;rw[Int.mul_one]
 done:=by
  intro X hP hw hK hc i ao s σ H E I hf st hg;subst hP hw hK;obtain⟨f0,f1,f2,f3,f4,f5⟩:=hf it (by simp);exact wpAny_pyNext_range_end (I.ok.hd hc) st (by have:n<=i:=hg;lia) λh' eb=>⟨rfl,I.turned (t':=s.toks) (λb o hb e=>eb b o hb e) f0 f1 f3 f4 f5⟩
 self:=λ_ _ _ _ _ st h=>wpAny_pyIter_rangeiter st h
section
variable {X:Cx}{tg:Expr}
def abN (K:W.Frag)(tl:TE):TI:=λσ H R=>tl σ H λx H1=>∃a,x=.ref a/\(∃xs,aU K H1 a xs)/\R (uX K a) H1
def aeE (K:W.Frag)(tl:TE):TI:=λσ H R=>tl σ H λx H1=>∃a,x=.ref a/\(∃xs,aM K H1 a xs)/\R (uY K a) H1
theorem acA {l:Expr}{tl:TE}(hl:PE X l tl):PI X tg l (abN X.K tl):=by
 intro ao s σ H R I h;refine bN (hl ao s σ H _ I h) λv s1 zz=>?_;obtain⟨x,H1,I1,r1,q1⟩:=zz;obtain⟨a,e,⟨xs,hq⟩,q⟩:=q1;subst e;cases r1;obtain⟨its,rv,p,hz⟩:=I1.list hq;refine eP p.isList ?_;refine⟨s1.heap.objs.size,[s1.heap.objs.size],_,_,H1,rfl,I1.kept (t':=s1.toks) λb o e=>ag _ e,Wa a _,⟨_,aT _ rfl,rfl,rfl⟩,λb hb=>?_,q⟩;have e:b=s1.heap.objs.size:=by simpa using hb
 subst e;exact I1.Ij (al _) (I1.hok.fresh (al _))
theorem aeF {l:Expr}{tl:TE}(hl:PE X l tl):PI X tg l (aeE X.K tl):=by
 intro ao s σ H R I h;refine bN (hl ao s σ H _ I h) λv s1 zz=>?_;obtain⟨x,H1,I1,r1,q1⟩:=zz;obtain⟨a,e,⟨xs,hq⟩,q⟩:=q1;subst e;cases r1;obtain⟨its,rv,p,hz⟩:=I1.tuple hq;refine wpAny_pyIter_tuple (show s1.heap.IsTuple a its.toArray from p) ?_;refine⟨s1.heap.objs.size,[s1.heap.objs.size],_,_,H1,rfl,I1.kept (t':=s1.toks) λb o e=>ag _ e,Tw a _,⟨_,aT _ rfl,rfl,rfl⟩,λb hb=>?_,q⟩;have e:b=s1.heap.objs.size:=by simpa using hb
 subst e;exact I1.Ij (al _) (I1.hok.fresh (al _))
theorem MP {ao:AC}{σ:St}{H:Hp}{s:Shared}{R:It->Hp->Prop}{E:AB}{lo hi:Int}{t u v:Tok}{tk:Nat}(I:aL X ao σ H s)(h1:-(2^62)<=lo)(h2:lo < 2^62)(h3:-(2^62)<=hi)(h4:hi < 2^62)
  (q:R (MN lo (hi-lo).toNat) H):wpAny (model X.prog X.w) X.A (pyIter (.ref s.heap.objs.size)) (PIE X ao σ tg R) E { s with heap:=s.heap.push { cls:=.type "range",data:=.fields #[.int lo t,.int hi u,.int 1 v] },toks:=tk }:=by
 refine wpAny_pyIter_range (IsRange.new ..) (small_one h1 h2 h3 h4) ?_;have I1:aL X ao σ H { s with heap:=s.heap.push { cls:=.type "range",data:=.fields #[.int lo t,.int hi u,.int 1 v] },toks:=tk }:=I.kept λb o e=>ag _ e;refine⟨(s.heap.push { cls:=.type "range",data:=.fields #[.int lo t,.int hi u,.int 1 v] }).objs.size,[(s.heap.push { cls:=.type "range",data:=.fields #[.int lo t,.int hi u,.int 1 v] }).objs.size],_,_,H,rfl,
  I1.kept (t':=tk) λb o e=>ag _ e,Tz _ lo (hi-lo).toNat,?_,λb hb=>?_,q⟩
 ·have e1:lo+((0:Nat):Int)*1=lo:=by simp
  have e2:(((hi-lo).toNat:Nat):Int)-((0:Nat):Int)=Builtin.Range.rangeSize lo hi 1:=by rw[rangeSize_one];split <;> lia
  show IsRangeIter _ _ (lo+((0:Nat):Int)*1) ((((hi-lo).toNat:Nat):Int)-((0:Nat):Int)) 1;rw[e1,e2];exact aT _ rfl
 ·have e:b=(s.heap.push { cls:=.type "range",data:=.fields #[.int lo t,.int hi u,.int 1 v] }).objs.size:=by simpa using hb
  subst e;exact I1.Ij (al _) (I1.hok.fresh (al _))
def abO (ta:TA):TI:=λσ H R=>ta σ H λvs H1=>∃j:Int,vs=[.int j]/\-(2^62)<=j/\j < 2^62/\R (MN 0 j.toNat) H1
def abP (ta:TA):TI:=λσ H R=>ta σ H λvs H1=>∃i j:Int,vs=[.int i,.int j]/\(-(2^62)<=i/\i < 2^62/\-(2^62)<=j/\j < 2^62)/\R (MN i (j-i).toNat) H1
theorem Wb {a:Expr}{ta:TA}{p pos:Pos}(hg:Gl X "range")(hm:X.mg "range"=none)(ha:PA X [a] ta)(hs:starEach [a] X.env=[(false,eval a X.env)]:=by rfl):PI X tg (.Call (.Name "range" p) [a] [] pos) (abO ta):=by
 intro ao s σ H R I h;refine Call_ (wZ I hg hm boot_range (fR (bN (ha pos ao s σ H _ I h) λus s1 zz=>?_) hs rfl));obtain⟨vs,H1,I1,r1,q1⟩:=zz;obtain⟨j,e,q1,q2,q⟩:=q1;subst e;cases r1 with
 | cons r rr=>
  cases rr;obtain⟨t,rfl⟩:=r;exact call_range_1 (MP I1 (by lia) (by lia) q1 q2 (by simpa using q))
theorem Wc {a b:Expr}{ta:TA}{p pos:Pos}(hg:Gl X "range")(hm:X.mg "range"=none)(ha:PA X [a,b] ta)(hs:starEach [a,b] X.env=[(false,eval a X.env),(false,eval b X.env)]:=by rfl)(hs2:starEach [b] X.env=[(false,eval b X.env)]:=by rfl) :
  PI X tg (.Call (.Name "range" p) [a,b] [] pos) (abP ta):=by
 intro ao s σ H R I h;refine Call_ (wZ I hg hm boot_range (fR (bN (ha pos ao s σ H _ I h) λus s1 zz=>?_) (by rw[hs,hs2]) (by rw[hs2];rfl)));obtain⟨vs,H1,I1,r1,q1⟩:=zz;obtain⟨i,j,e,⟨q1,q2,q3,q4⟩,q⟩:=q1;subst e;cases r1 with
 | cons r rr=>
  cases rr with
  | cons r' rr=>
   cases rr;obtain⟨t,rfl⟩:=r;obtain⟨t',rfl⟩:=r';exact call_range_2 (MP I1 q1 q2 q3 q4 q)
def aeG (wi:TI)(g:TG)(tb:TS):TS:=λD σ H=>wi σ H λJ H1=>∃W:Nat->Nat->St->Hp->Prop,(∃m,W 0 m σ H1)/\∀i m σ H,W i m σ H->
 (J.stop i H/\D.nx σ H)\/(J.go i H/\∃N:St->Hp->Prop,(∀σ' H',N σ' H'->∃m',m' < m/\W (i+1) m' σ' H')/\∀x H',J.pO i H x H'->g x σ H' λσ2 H2=>tb { D with nx:=N,ct:=N,bk:=D.nx } σ2 H2)
def uf (fp:List Addr)(h:Heap):List (Addr × Obj):=fp.filterMap λb=>(h.get? b).map λo=>(b,o)
theorem jm {fp:List Addr}{h:Heap}{b:Addr}{o:Obj}(hb:b∈fp)(e:h.get? b=some o):(b,o)∈uf fp h:=kP.mpr ⟨b,hb,by rw[e];rfl⟩
theorem Wd {fp:List Addr}{h:Heap}{p:Addr × Obj}(hp:p∈uf fp h):p.1∈fp/\h.get? p.1=some p.2:=by
 obtain⟨b,hb,e⟩:=kP.mp hp;cases q:h.get? b with
 | none=>rw[q]at e;cases e
 | some o=>
  rw[q]at e;have e':(b,o)=p:=ap e;subst e';exact⟨hb,q⟩
theorem aL.pinned {ao:AC}{σ:St}{H:Hp}{s:Shared}{fp:List Addr}(I:aL X ao σ H s)(hf:∀b∈fp,nY X ao H b)(ho:∀b∈fp,∃o,s.heap.get? b=some o/\∀v,o.data≠.cell v):aL X (ao++uf fp s.heap) σ H s:=
 I.Rp λp hp=>(a7.mp hp).elim (λz=>I.pin p (bP _ z)) λz=>by
  obtain⟨hb,e⟩:=Wd z;obtain⟨f0,f1,f2,_⟩:=hf p.1 hb;obtain⟨o,e',d⟩:=ho p.1 hb;rw[e]at e';cases e';exact⟨e,f0,f1,f2,d⟩
theorem aL.jZ {ao pl:AC}{σ:St}{H:Hp}{s:Shared}(I:aL X (ao++pl) σ H s):aL X ao σ H s:=I.Rp λp hp=>I.pin p (bP _ (ko _ hp))
theorem aeH {iter:Expr}{body:List Stmt}{wi:TI}{g:TG}{tb:TS}{pos:Pos}(hp:PassesOwn (model X.prog X.w) X.A X.env X.xe)(hc:X.calm=true)(hi:PI X tg iter wi)(hg:PG X tg g)(hb:su X body tb)
  (hs:∀x,foldedSetIterable iter X.env x=pure x:=by intro _;rfl):PS X (.For tg iter body [] pos) (aeG wi g tb):=by
 intro ao s σ H D I h;refine wpAny_For (bN (hi ao s σ H _ I h) λv s1 h1=>bN h1 λitv s2 h2=>?_) hs;obtain⟨it,fp,tn,J,H2,e,I2,T,st2,f2,W,⟨m0,w0⟩,turn⟩:=h2;subst e;have stat:∀{H':Hp},(∀b∈fp,H' b=none)->∀b∈fp,nY X ao H' b:=λhn b hb=>⟨hn b hb,(f2 b hb).2⟩
 refine codeAny_forLoop_any (λn s'=>∃i σ' H',aL X ao σ' H' s'/\tn i s'.heap/\(∀b∈fp,H' b=none)/\W i n σ' H') ?_ m0 ⟨0,σ,H2,I2,st2,λb hb=>(f2 b hb).1,w0⟩;rintro n s3 ⟨i,σ3,H3,I3,st3,fr3,w3⟩;rcases turn i n σ3 H3 w3 with⟨stop,qn⟩ | ⟨go,N,hN,step⟩
 ·refine f6 hp (bN (T.done X rfl rfl rfl hc i ao s3 σ3 H3 X.xe I3 (stat fr3) st3 stop) λr s4 ⟨hr,I4⟩=>?_)
  subst hr;exact kq ⟨σ3,H3,I4,qn⟩
 ·refine f6 hp (bN (T.item X rfl rfl rfl hc i ao s3 σ3 H3 X.xe I3 (stat fr3) st3 go) λr s4 zz=>?_);obtain⟨u,hr,h4⟩:=zz
  subst hr;refine f6 hp (bN h4 λ_ s5 zz=>?_);obtain⟨x,H5,I5,r5,y5,st5,fr5⟩:=zz;have Rq:=I5.pinned (stat fr5) (T.obj _ _ st5);refine f6 hp (bN (hg _ s5 σ3 H5 x u _ Rq r5 (step x H5 y5)) λ_ s6 zz=>?_);obtain⟨σ6,H6,I6,q6⟩:=zz;refine f6 hp (bN (hb _ s6 σ6 H6 _ I6 q6) λf s7 q7=>?_);have again:∀{σ7:St} {H7:Hp},aL X (ao++uf fp s5.heap) σ7 H7 s7->N σ7 H7->∃m,m < n/\∃i σ' H',aL X ao σ' H' s7/\tn i s7.heap/\(∀b∈fp,H' b=none)/\W i m σ' H':=λ{σ7 H7} I7 n7=>by
   obtain⟨m',hm,w7⟩:=hN σ7 H7 n7;refine⟨m',hm,i+1,σ7,H7,I7.jZ,T.keep _ _ _ st5 λb hb o e=>(I7.pin (b,o) (bP _ (bP _ (jm hb e)))).1,λb hb=>?_,w7⟩;obtain⟨o,e,d⟩:=T.obj _ _ st5 b hb;exact(I7.pin (b,o) (bP _ (bP _ (jm hb e)))).2.1
  cases f with
  | next=>obtain⟨σ7,H7,I7,n7⟩:=q7;exact again I7 n7
  | cont=>obtain⟨σ7,H7,I7,n7⟩:=q7;exact again I7 n7
  | brk=>obtain⟨σ7,H7,I7,q7⟩:=q7;exact⟨σ7,H7,I7.jZ,q7⟩
  | ret v=>obtain⟨x7,σ7,H7,I7,r7,q7⟩:=q7;exact⟨x7,σ7,H7,I7.jZ,r7,q7⟩
end
theorem nZ {K:W.Frag}{a:Addr}{xs:List V}{g:TG}{tb:TS}{D:Ends}{σ:St}{H:Hp}(Pv:Nat->St->Hp->Prop)(h0:Pv 0 σ H)(hl:∀i σ H,i<=xs.length->Pv i σ H->aU K H a xs)
  (hs:∀i x σ H,xs[i]?=some x->Pv i σ H->g x σ H λσ2 H2=>tb { D with nx:=Pv (i+1),ct:=Pv (i+1),bk:=D.nx } σ2 H2) (hd:∀σ H,Pv xs.length σ H->D.nx σ H) :
  ∃W:Nat->Nat->St->Hp->Prop,(∃m,W 0 m σ H)/\∀i m σ H,W i m σ H->
   ((uX K a).stop i H/\D.nx σ H)\/((uX K a).go i H/\∃N:St->Hp->Prop,(∀σ' H',N σ' H'->∃m',m' < m/\W (i+1) m' σ' H')/\∀x H',(uX K a).pO i H x H'->g x σ H' λσ2 H2=>tb { D with nx:=N,ct:=N,bk:=D.nx } σ2 H2):=by
 refine⟨λi m σ H=>m=xs.length-i/\i<=xs.length/\Pv i σ H,⟨xs.length,by simp,b8 _,h0⟩,?_⟩;rintro i m σ H ⟨rfl,hi,p⟩;have q:=hl i σ H hi p;by_cases hlt:i < xs.length
 ·refine .inr ⟨⟨xs,xs[i],q,by simp[hlt]⟩,Pv (i+1),λσ' H' p'=>⟨xs.length-(i+1),by lia,rfl,hlt,p'⟩,λx H' y=>?_⟩
  obtain⟨e,y⟩:=y;subst e;exact hs i x σ _ (y xs q) p
 ·have e:i=xs.length:=by lia
  subst e;exact .inl ⟨⟨xs,q,al _⟩,hd σ H p⟩
theorem jN {K:W.Frag}{a:Addr}{xs:List V}{g:TG}{tb:TS}{D:Ends}{σ:St}{H:Hp}(Pv:Nat->St->Hp->Prop)(h0:Pv 0 σ H)(hl:∀i σ H,i<=xs.length->Pv i σ H->aM K H a xs)
  (hs:∀i x σ H,xs[i]?=some x->Pv i σ H->g x σ H λσ2 H2=>tb { D with nx:=Pv (i+1),ct:=Pv (i+1),bk:=D.nx } σ2 H2) (hd:∀σ H,Pv xs.length σ H->D.nx σ H) :
  ∃W:Nat->Nat->St->Hp->Prop,(∃m,W 0 m σ H)/\∀i m σ H,W i m σ H->
   ((uY K a).stop i H/\D.nx σ H)\/((uY K a).go i H/\∃N:St->Hp->Prop,(∀σ' H',N σ' H'->∃m',m' < m/\W (i+1) m' σ' H')/\∀x H',(uY K a).pO i H x H'->g x σ H' λσ2 H2=>tb { D with nx:=N,ct:=N,bk:=D.nx } σ2 H2):=by
 refine⟨λi m σ H=>m=xs.length-i/\i<=xs.length/\Pv i σ H,⟨xs.length,by simp,b8 _,h0⟩,?_⟩;rintro i m σ H ⟨rfl,hi,p⟩;have q:=hl i σ H hi p;by_cases hlt:i < xs.length
 ·refine .inr ⟨⟨xs,xs[i],q,by simp[hlt]⟩,Pv (i+1),λσ' H' p'=>⟨xs.length-(i+1),by lia,rfl,hlt,p'⟩,λx H' y=>?_⟩
  obtain⟨e,y⟩:=y;subst e;exact hs i x σ _ (y xs q) p
 ·have e:i=xs.length:=by lia
  subst e;exact .inl ⟨⟨xs,q,al _⟩,hd σ H p⟩
theorem gH {lo:Int}{n:Nat}{g:TG}{tb:TS}{D:Ends}{σ:St}{H:Hp}(Pv:Nat->St->Hp->Prop)(h0:Pv 0 σ H)
  (hs:∀i σ H,i < n->Pv i σ H->g (.int (lo+i)) σ H λσ2 H2=>tb { D with nx:=Pv (i+1),ct:=Pv (i+1),bk:=D.nx } σ2 H2) (hd:∀σ H,Pv n σ H->D.nx σ H) :
  ∃W:Nat->Nat->St->Hp->Prop,(∃m,W 0 m σ H)/\∀i m σ H,W i m σ H->
   ((MN lo n).stop i H/\D.nx σ H)\/((MN lo n).go i H/\∃N:St->Hp->Prop,(∀σ' H',N σ' H'->∃m',m' < m/\W (i+1) m' σ' H')/\∀x H',(MN lo n).pO i H x H'->g x σ H' λσ2 H2=>tb { D with nx:=N,ct:=N,bk:=D.nx } σ2 H2):=by
 refine⟨λi m σ H=>m=n-i/\i<=n/\Pv i σ H,⟨n,by simp,b8 _,h0⟩,?_⟩;rintro i m σ H ⟨rfl,hi,p⟩;by_cases hlt:i < n
 ·refine .inr ⟨hlt,Pv (i+1),λσ' H' p'=>⟨n-(i+1),by lia,rfl,hlt,p'⟩,λx H' y=>?_⟩
  obtain⟨e,y⟩:=y;subst e y;exact hs i σ _ hlt p
 ·have e:i=n:=by lia
  subst e;exact .inl ⟨al _,hd σ H p⟩
abbrev R2:=V->V->Hp->VK->Prop
def fj (X:Cx)(f:Value->Value->Sem Value)(r:R2):Prop:=
 ∀(ao:AC) (s:Shared) (σ:St) (H:Hp) (x y:V) (v u:Value) (Q:VK),aL X ao σ H s->cu x v->cu y u->r x y H Q->
  wpAny (model X.prog X.w) X.A (f v u) (EP X ao σ Q) X.xe s
def UnR (X:Cx)(f:Value->Sem Value)(r:V->Hp->VK->Prop):Prop:=
 ∀(ao:AC) (s:Shared) (σ:St) (H:Hp) (x:V) (v:Value) (Q:VK),aL X ao σ H s->cu x v->r x H Q->
  wpAny (model X.prog X.w) X.A (f v) (EP X ao σ Q) X.xe s
def gb (X:Cx)(f:Value)(r:List V->Hp->VK->Prop):Prop:=
 ∀(ao:AC) (s:Shared) (σ:St) (H:Hp) (xs:List V) (us:List Value) (Q:VK),aL X ao σ H s->Vals xs us->r xs H Q->
  wpAny (model X.prog X.w) X.A (call f us) (EP X ao σ Q) X.xe s
def sy (r:R2)(ta tb:TE):TE:=λσ H Q=>ta σ H λx H1=>tb σ H1 λy H2=>r x y H2 Q
def tUn (r:V->Hp->VK->Prop)(ta:TE):TE:=λσ H Q=>ta σ H λx H1=>r x H1 Q
def rI (C:Int->Int->Prop)(g:Int->Int->V):R2:=λx y H Q=>∃i j,x=.int i/\y=.int j/\C i j/\Q (g i j) H
def Gp (g:Int->Int->V):R2:=λx y H Q=>∃i j,x=.int i/\y=.int j/\Q (g i j) H
def rU (g:Int->V):V->Hp->VK->Prop:=λx H Q=>∃i,x=.int i/\Q (g i) H
section
variable {X:Cx}{a b:Expr}{ta tb:TE}{pos:Pos}
theorem Zz (ha:PE X a ta)(hb:PE X b tb){ao:AC}{s:Shared}{σ:St}{H:Hp}{R:V->V->Hp->Prop}(I:aL X ao σ H s)
  (h:ta σ H λx H1=>tb σ H1 λy H2=>R x y H2) {Q:AB} {f:Value->Value->Sem Value}
  (hf:∀v u s2 x y H2,aL X ao σ H2 s2->cu x v->cu y u->R x y H2->wpAny (model X.prog X.w) X.A (f v u) Q X.xe s2) :
  wpAny (model X.prog X.w) X.A (eval a X.env) (λv s₁=>wpAny (model X.prog X.w) X.A (eval b X.env) (λu s₂=>wpAny (model X.prog X.w) X.A (f v u) Q X.xe s₂) X.xe s₁) X.xe s:=by
 refine bN (ha ao s σ H _ I h) λv s1 zz=>?_;obtain⟨x,H1,I1,r1,q1⟩:=zz;refine bN (hb ao s1 σ H1 _ I1 q1) λu s2 zz=>?_;obtain⟨y,H2,I2,r2,q2⟩:=zz;exact hf v u s2 x y H2 I2 r1 r2 q2
theorem agE {op:Operator}{r:R2}(ho:fj X (binaryOp op) r)(ha:PE X a ta)(hb:PE X b tb):PE X (.BinOp a op b pos) (sy r ta tb):=by
 intro ao s σ H Q I h;exact wpAny_BinOp (Zz ha hb I h λv u s2 x y H2 I2 rx ry q=>ho ao s2 σ H2 x y v u Q I2 rx ry q)
theorem agF {op:UnaryOp}{r:V->Hp->VK->Prop}(ho:UnR X (unaryOp op) r)(ha:PE X a ta):PE X (.UnaryOp op a pos) (tUn r ta):=by
 intro ao s σ H Q I h;exact UnaryOp_ (bN (ha ao s σ H _ I h) λv s1 ⟨x,H1,I1,r1,q1⟩=>ho ao s1 σ H1 x v Q I1 r1 q1)
theorem opI {f:Value->Value->Sem Value}{C:Int->Int->Prop}{g:Int->Int->Int}
  (rule:∀(i j:Int) (t u:Tok) (s:Shared) (Q:AB) (E:AB),C i j->Q (.int (g i j) s.toks) { s with toks:=s.toks+1 }->wpAny (model X.prog X.w) X.A (f (.int i t) (.int j u)) Q E s) :
  fj X f (rI C λi j=>.int (g i j)):=by
 intro ao s σ H x y v u Q I rx ry h;obtain⟨i,j,rfl,rfl,hc,q⟩:=h;obtain⟨t,rfl⟩:=rx;obtain⟨t',rfl⟩:=ry;exact rule i j t t' s _ _ hc ⟨.int (g i j),H,I.tok _,⟨_,rfl⟩,q⟩
theorem aeI {f:Value->Value->Sem Value}{g:Int->Int->Int}
  (rule:∀(i j:Int) (t u:Tok) (s:Shared) (Q:AB) (E:AB),Q (.int (g i j) s.toks) { s with toks:=s.toks+1 }->wpAny (model X.prog X.w) X.A (f (.int i t) (.int j u)) Q E s) :
  fj X f (Gp λi j=>.int (g i j)):=by
 intro ao s σ H x y v u Q I rx ry h;obtain⟨i,j,rfl,rfl,q⟩:=h;obtain⟨t,rfl⟩:=rx;obtain⟨t',rfl⟩:=ry;exact rule i j t t' s _ _ ⟨.int (g i j),H,I.tok _,⟨_,rfl⟩,q⟩
theorem TF {f:Value->Value->Sem Value}{g:Int->Int->Bool}
  (rule:∀(i j:Int) (t u:Tok) (s:Shared) (Q:AB) (E:AB),Q (.bool (g i j)) s->wpAny (model X.prog X.w) X.A (f (.int i t) (.int j u)) Q E s) :
  fj X f (Gp λi j=>.bl (g i j)):=by
 intro ao s σ H x y v u Q I rx ry h;obtain⟨i,j,rfl,rfl,q⟩:=h;obtain⟨t,rfl⟩:=rx;obtain⟨t',rfl⟩:=ry;exact rule i j t t' s _ _ ⟨.bl (g i j),H,I,rfl,q⟩
def ahd (i j:Int):Prop:=0 < j/\j < 1073741824
def ZC (i j:Int):Prop:=(-(2^64) < i/\i < 2^64)\/(-(2^64) < j/\j < 2^64)
theorem ZC.ok {i j:Int}(h:ZC i j):IntMulOk i j:=by
 rcases h with⟨h1,h2⟩ | ⟨h1,h2⟩
 ·exact .of_left (intBits_le_64 h1 h2)
 ·exact .of_right (intBits_le_64 h1 h2)
theorem dN:fj X (binaryOp .Add) (Gp λi j=>.int (i+j)):=aeI λ_ _ _ _ _ _ _ q=>add_int q
theorem iD:fj X (binaryOp .Sub) (Gp λi j=>.int (i-j)):=aeI λ_ _ _ _ _ _ _ q=>sub_int q
theorem qY:fj X (binaryOp .Mult) (rI ZC λi j=>.int (i*j)):=opI λ_ _ _ _ _ _ _ hc q=>mul_int q hc.ok
theorem pZ:fj X (binaryOp .FloorDiv) (rI ahd λi j=>.int (i/j)):=opI λi j _ _ _ _ _ hc q=>by
 have h1:(0:Int) < j:=hc.1;have h2:j < 1073741824:=hc.2;exact floordiv_int (by lia) (by rw[Int.fdiv_eq_ediv_of_nonneg i (by lia)];exact q) (.inl (PyProof.noPylong_small (by lia)))
theorem oU:fj X (binaryOp .Mod) (rI (λ_ j=>0 < j) λi j=>.int (i%j)):=opI λi j _ _ _ _ _ hc q=>by
 have h1:(0:Int) < j:=hc;exact mod_int' (by lia) (by rw[Int.fmod_eq_emod_of_nonneg i (by lia)];exact q)
theorem unI {f:Value->Sem Value}{g:Int->Int}
  (rule:∀(i:Int) (t:Tok) (s:Shared) (Q:AB) (E:AB),Q (.int (g i) s.toks) { s with toks:=s.toks+1 }->wpAny (model X.prog X.w) X.A (f (.int i t)) Q E s) :
  UnR X f (rU λi=>.int (g i)):=by
 intro ao s σ H x v Q I rx h;obtain⟨i,rfl,q⟩:=h;obtain⟨t,rfl⟩:=rx;exact rule i t s _ _ ⟨.int (g i),H,I.tok _,⟨_,rfl⟩,q⟩
theorem ug:UnR X (unaryOp .USub) (rU λi=>.int (-i)):=unI λ_ _ _ _ _ q=>neg_int q
end
def aeJ:V->V->Bool
 | .non,.non=>true | .non,.int _=>true | .int _,.non=>true | .non,.bl _=>true | .bl _,.non=>true | .non,.str _=>true | .str _,.non=>true
 | .int _,.int _=>true | .bl _,.bl _=>true | .str _,.str _=>true | .zV _,.zV _=>true
 | .int _,.str _=>true | .str _,.int _=>true | .bl _,.str _=>true | .str _,.bl _=>true
 | _,_=>false
def rEq:R2:=λx y H Q=>aeJ x y=true/\Q (.bl (decide (x=y))) H
def rNe:R2:=λx y H Q=>aeJ x y=true/\Q (.bl (!decide (x=y))) H
theorem Rr {i j:Int}:decide (V.int i=V.int j)=(i==j):=by
 rw[f7];simp
theorem Wf {i j:Bool}:decide (V.bl i=V.bl j)=(i==j):=by
 rw[f7];simp
theorem Rt {i j:Str}:decide (V.str i=V.str j)=(i==j):=by
 rw[f7];simp
theorem Ru {i j:Array UInt8}:decide (V.zV i=V.zV j)=(i.toList==j.toList):=by
 rw[f7];cases i;cases j;simp
section
variable {X:Cx}{a b c:Expr}{ta tb tc:TE}{pos:Pos}
theorem cY {ao:AC}{σ:St}{H:Hp}{s:Shared}{Q:VK}{k k':Bool}(I:aL X ao σ H s)(q:Q (.bl k) H)(e:k=k'):EP X ao σ Q (.bool k') s:=by
 subst e;exact⟨.bl k,H,I,rfl,q⟩
theorem fW:fj X (compareOp .Eq) rEq:=by
 intro ao s σ H x y v u Q I rx ry h;obtain⟨hs,q⟩:=h;cases x with
 | non=>
  cases rx;cases y with
  | non=>cases ry;exact PySem.EqNone.eq_none_none (cY I q (by simp))
  | bl j=>cases ry;exact PySem.EqNone.eq_none_bool (cY I q (by simp))
  | int j=>obtain⟨t',rfl⟩:=ry;exact PySem.EqNone.eq_none_int (cY I q (by simp))
  | str j=>obtain⟨t',rfl⟩:=ry;exact PySem.EqNone.eq_none_str (cY I q (by simp))
  | _=>exact absurd (show false=true from hs) ba
 | bl i=>
  cases rx;cases y with
  | non=>cases ry;exact PySem.EqNone.eq_bool_none (cY I q (by simp))
  | bl j=>cases ry;exact eq_bool (cY I q Wf)
  | str j=>obtain⟨t',rfl⟩:=ry;exact PySem.EqMixed.eq_bool_str (cY I q (by simp))
  | _=>exact absurd (show false=true from hs) ba
 | int i=>
  obtain⟨t,rfl⟩:=rx;cases y with
  | non=>cases ry;exact PySem.EqNone.eq_int_none (cY I q (by simp))
  | int j=>obtain⟨t',rfl⟩:=ry;exact eq_int (cY I q Rr)
  | str j=>obtain⟨t',rfl⟩:=ry;exact PySem.EqMixed.eq_int_str (cY I q (by simp))
  | _=>exact absurd (show false=true from hs) ba
 | str i=>
  obtain⟨t,rfl⟩:=rx;cases y with
  | non=>cases ry;exact PySem.EqNone.eq_str_none (cY I q (by simp))
  | bl j=>cases ry;exact PySem.EqMixed.eq_str_bool (cY I q (by simp))
  | int j=>obtain⟨t',rfl⟩:=ry;exact PySem.EqMixed.eq_str_int (cY I q (by simp))
  | str j=>obtain⟨t',rfl⟩:=ry;exact eq_str (cY I q Rt)
  | _=>exact absurd (show false=true from hs) ba
 | zV i=>
  obtain⟨t,rfl⟩:=rx;cases y with
  | zV j=>obtain⟨t',rfl⟩:=ry;exact W.eq_bytes (cY I q Ru)
  | _=>exact absurd (show false=true from hs) ba
 | _=>cases y <;> exact absurd (show false=true from hs) ba
theorem oV:fj X (compareOp .NotEq) rNe:=by
 intro ao s σ H x y v u Q I rx ry h;obtain⟨hs,q⟩:=h;cases x with
 | non=>
  cases rx;cases y with
  | non=>cases ry;exact PySem.EqNone.ne_none_none (cY I q (by simp))
  | bl j=>cases ry;exact PySem.EqNone.ne_none_bool (cY I q (by simp))
  | int j=>obtain⟨t',rfl⟩:=ry;exact PySem.EqNone.ne_none_int (cY I q (by simp))
  | str j=>obtain⟨t',rfl⟩:=ry;exact PySem.EqNone.ne_none_str (cY I q (by simp))
  | _=>exact absurd (show false=true from hs) ba
 | bl i=>
  cases rx;cases y with
  | non=>cases ry;exact PySem.EqNone.ne_bool_none (cY I q (by simp))
  | bl j=>cases ry;exact ne_bool (cY I q (congrArg not Wf))
  | str j=>obtain⟨t',rfl⟩:=ry;exact PySem.EqMixed.ne_bool_str (cY I q (by simp))
  | _=>exact absurd (show false=true from hs) ba
 | int i=>
  obtain⟨t,rfl⟩:=rx;cases y with
  | non=>cases ry;exact PySem.EqNone.ne_int_none (cY I q (by simp))
  | int j=>obtain⟨t',rfl⟩:=ry;exact ne_int (cY I q (congrArg not Rr))
  | str j=>obtain⟨t',rfl⟩:=ry;exact PySem.EqMixed.ne_int_str (cY I q (by simp))
  | _=>exact absurd (show false=true from hs) ba
 | str i=>
  obtain⟨t,rfl⟩:=rx;cases y with
  | non=>cases ry;exact PySem.EqNone.ne_str_none (cY I q (by simp))
  | bl j=>cases ry;exact PySem.EqMixed.ne_str_bool (cY I q (by simp))
  | int j=>obtain⟨t',rfl⟩:=ry;exact PySem.EqMixed.ne_str_int (cY I q (by simp))
  | str j=>obtain⟨t',rfl⟩:=ry;exact ne_str (cY I q (congrArg not Rt))
  | _=>exact absurd (show false=true from hs) ba
 | zV i=>
  obtain⟨t,rfl⟩:=rx;cases y with
  | zV j=>obtain⟨t',rfl⟩:=ry;exact W.ne_bytes (cY I q (congrArg not Ru))
  | _=>exact absurd (show false=true from hs) ba
 | _=>cases y <;> exact absurd (show false=true from hs) ba
theorem jo:fj X (compareOp .Lt) (Gp λi j=>.bl (decide (i < j))):=TF λ_ _ _ _ _ _ _ q=>lt_int q
theorem lJ:fj X (compareOp .LtE) (Gp λi j=>.bl (decide (i<=j))):=TF λ_ _ _ _ _ _ _ q=>le_int q
theorem Gq:fj X (compareOp .Gt) (Gp λi j=>.bl (decide (j < i))):=TF λ_ _ _ _ _ _ _ q=>gt_int q
theorem TJ:fj X (compareOp .GtE) (Gp λi j=>.bl (decide (j<=i))):=TF λ_ _ _ _ _ _ _ q=>ge_int q
theorem Wg:fj X (compareOp .In) (λx y H Q=>∃i j,x=.str i/\y=.str j/\Q (.bl (!(Builtin.Str.occurrences j i 0 j.length 1).isEmpty)) H):=by
 intro ao s σ H x y v u Q I rx ry h;obtain⟨i,j,rfl,rfl,q⟩:=h;obtain⟨t,rfl⟩:=rx;obtain⟨t',rfl⟩:=ry;exact in_str (cY I q rfl)
theorem Wh:fj X (compareOp .Is) (λx y H Q=>y=.non/\Q (.bl (decide (x=.non))) H):=by
 intro ao s σ H x y v u Q I rx ry h;obtain⟨rfl,q⟩:=h;cases ry;refine is_none_gen (cY I q ?_);cases x <;> first
  | (cases rx;rfl)
  | (obtain⟨t,rfl⟩:=rx;rfl)
theorem Rv:fj X (compareOp .IsNot) (λx y H Q=>y=.non/\Q (.bl (!decide (x=.non))) H):=by
 intro ao s σ H x y v u Q I rx ry h;obtain⟨rfl,q⟩:=h;cases ry;refine isnot_none_gen (cY I q ?_);cases x <;> first
  | (cases rx;rfl)
  | (obtain⟨t,rfl⟩:=rx;rfl)
theorem aZ (b:Expr){op:CmpOp}(h:op≠.In:=by decide)(h2:op≠.NotIn:=by decide):behindInMarks op b=false:=by
 have e1:(op==CmpOp.In)=false:=by cases op <;> first | rfl | exact absurd rfl h
 have e2:(op==CmpOp.NotIn)=false:=by cases op <;> first | rfl | exact absurd rfl h2
 cases b <;> simp[behindInMarks,e1,e2]
theorem acB {op:CmpOp}{r:R2}(ho:fj X (compareOp op) r)(ha:PE X a ta)(hb:PE X b tb)(hm:behindInMarks op b=false):PE X (.Compare a [op] [b] pos) (sy r ta tb):=by
 intro ao s σ H Q I h;exact wpAny_Compare1 (Zz ha hb I h λv u s2 x y H2 I2 rx ry q=>ho ao s2 σ H2 x y v u Q I2 rx ry q) hm
def xY (t:TE):TT:=λσ H Q=>t σ H λx H'=>∃k,x=.bl k/\Q k H'
theorem acC {op:CmpOp}{r:R2}(ho:fj X (compareOp op) r)(ha:PE X a ta)(hb:PE X b tb)(hm:behindInMarks op b=false):PT X (.Compare a [op] [b] pos) (xY (sy r ta tb)):=by
 intro ao s σ H Q I h;refine wpAny_isTrue_Compare1 (bN (ha ao s σ H _ I h) λv s1 ⟨x,H1,I1,r1,q1⟩=>bN (hb ao s1 σ H1 _ I1 q1) λu s2 ⟨y,H2,I2,r2,q2⟩=>
  bN (ho ao s2 σ H2 x y v u _ I2 r1 r2 q2) λc s3 ⟨z,H3,I3,r3,k,e,q3⟩=>?_) hm
 subst e;cases r3;exact dA ⟨H3,I3,q3⟩
def Aa (r r':R2)(ta tb tc:TE):TE:=λσ H Q=>ta σ H λx H1=>tb σ H1 λy H2=>r x y H2 λz H3=>∃k,z=.bl k/\
 (if k=true then tc σ H3 λw' H4=>r' y w' H4 Q else Q (.bl false) H3)
theorem ZD {op op':CmpOp}{r r':R2}(ho:fj X (compareOp op) r)(ho':fj X (compareOp op') r')(ha:PE X a ta)(hb:PE X b tb)(hc:PE X c tc)
  (hm:lastMarks [op,op'] [b,c]=false:=by with_unfolding_all rfl):PE X (.Compare a [op,op'] [b,c] pos) (Aa r r' ta tb tc):=by
 intro ao s σ H Q I h;refine Compare_chain (bN (ha ao s σ H _ I h) λv s1 ⟨x,H1,I1,r1,q1⟩=>chain_link (bN (hb ao s1 σ H1 _ I1 q1) λu s2 ⟨y,H2,I2,r2,q2⟩=>
  bN (ho ao s2 σ H2 x y v u _ I2 r1 r2 q2) λd s3 ⟨z,H3,I3,r3,k,e,q3⟩=>?_)) hm
 subst e;cases r3;refine dA ?_;cases k with
 | false=>exact ite_ff ⟨.bl false,H3,I3,rfl,q3⟩
 | true=>exact ite_tt (chain_last (bN (hc ao s3 σ H3 _ I3 q3) λw' s4 ⟨z',H4,I4,r4,q4⟩=>ho' ao s4 σ H4 y z' u w' Q I4 r2 r4 q4))
theorem ZF {op op':CmpOp}{r r':R2}(ho:fj X (compareOp op) r)(ho':fj X (compareOp op') r')(ha:PE X a ta)(hb:PE X b tb)(hc:PE X c tc)
  (hm:lastMarks [op,op'] [b,c]=false:=by with_unfolding_all rfl):PT X (.Compare a [op,op'] [b,c] pos) (xY (Aa r r' ta tb tc)):=by
 intro ao s σ H Q I h;refine isTrue_chain (bN (ha ao s σ H _ I h) λv s1 ⟨x,H1,I1,r1,q1⟩=>test_link (bN (hb ao s1 σ H1 _ I1 q1) λu s2 ⟨y,H2,I2,r2,q2⟩=>
  bN (ho ao s2 σ H2 x y v u _ I2 r1 r2 q2) λd s3 ⟨z,H3,I3,r3,k,e,q3⟩=>?_)) hm
 subst e;cases r3;refine dA ?_;cases k with
 | false=>
  obtain⟨k',e',q'⟩:=q3;cases e';exact ite_ff ⟨H3,I3,q'⟩
 | true=>
  refine ite_tt (test_last (bN (hc ao s3 σ H3 _ I3 q3) λw' s4 zz=>?_));obtain⟨z',H4,I4,r4,q4⟩:=zz;refine bN (ho' ao s4 σ H4 y z' u w' _ I4 r2 r4 q4) λd' s5 zz=>?_;obtain⟨z2,H5,I5,r5,k2,e2,q5⟩:=zz;subst e2;cases r5;exact dA ⟨H5,I5,q5⟩
theorem w5:(sizeLine:Nat) < 2^63:=by rw[sizeLine_eq];decide
theorem TQ:fj X (binaryOp .Add) (λx y H Q=>∃i j,x=.str i/\y=.str j/\i.length+j.length<=sizeLine/\Q (.str (i++j)) H):=by
 intro ao s σ H x y v u Q I rx ry h;obtain⟨i,j,rfl,rfl,hz,q⟩:=h;obtain⟨t,rfl⟩:=rx;obtain⟨t',rfl⟩:=ry;exact add_str (λt' tk=>⟨.str (i++j),H,I.tok _,⟨_,rfl⟩,q⟩) hz
theorem vals1 {x:V}{us:List Value}(r:Vals [x] us):∃u,us=[u]/\cu x u:=by
 cases r with
 | cons r1 r2=>cases r2;exact⟨_,rfl,r1⟩
theorem vals2 {x y:V}{us:List Value}(r:Vals [x,y] us):∃u w',us=[u,w']/\cu x u/\cu y w':=by
 cases r with
 | cons r1 r2=>
  cases r2 with
  | cons r3 r4=>cases r4;exact⟨_,_,rfl,r1,r3⟩
theorem uZ:gb X (.type "int") (λxs H Q=>(∃i,xs=[.int i]/\Q (.int i) H)\/∃k,xs=[.bl k]/\Q (.int (if k then 1 else 0)) H):=by
 intro ao s σ H xs us Q I r h;rcases h with⟨i,rfl,q⟩ | ⟨k,rfl,q⟩
 ·obtain⟨u,rfl,t,rfl⟩:=vals1 r
  exact call_int_int ⟨.int i,H,I,⟨_,rfl⟩,q⟩
 ·obtain⟨u,rfl,r1⟩:=vals1 r
  cases r1;exact call_int_bool ⟨.int (if k then 1 else 0),H,I.tok _,⟨_,rfl⟩,q⟩
end
structure Em (h:Heap)(x dx C:Addr)(mA:Str->Option Value):Prop where
 obj:h.get? x=some (W.instObj C dx)
 ns:h.Ns1 dx mA
 ne:dx≠x
theorem J0 {h:Heap}{dx:Addr}{mA:Str->Option Value}(n:h.Ns1 dx mA):∃od,h.get? dx=some od/\∀name,W.lookIn name od=some (mA name):=by
 obtain⟨o,es,ep,ho,hd,hk,_,hm⟩:=n;refine⟨o,ho,λname=>?_⟩;have e:=hm name;unfold nsFind findBy at e;rw[<- Array.find?_toList]at e;unfold W.lookIn;rw[hd];dsimp only
 split
 ·rename_i y q
  rw[q]at e;exact congrArg some e
 ·rename_i q
  rw[q]at e;have a:es.toList.any (·.refKey)=false:=by
   rw[lh];intro y hy;obtain⟨z,t,hkey⟩:=hk y (Array.mem_toList_iff.mp hy);simp[DictEntry.refKey,hkey]
  have a':¬es.toList.any (·.refKey)=true:=by rw[a];exact ba
  rw[if_neg a'];exact congrArg some e
theorem Em.look {h:Heap}{x dx C:Addr}{mA:Str->Option Value}(I:Em h x dx C mA):∃od,W.InstAt h x (W.instObj C dx) C (some od)/\∀name,W.lookIn name od=some (mA name):=
 let ⟨od,ho,hl⟩:=J0 I.ns
 ⟨od,⟨I.obj,rfl,rfl,ho⟩,hl⟩
section
variable {prog:Program}{w:World}{A:Around}{E:AB}{s:Shared}{K:W.Frag}{x dx C f:Addr}{mA:Str->Option Value}{name:Str}{v:Value}
theorem get_map {expr:Bool}{Q:AB}(X:K.In s.heap)(I:Em s.heap x dx C mA)(hg:W.plainGet K C name=true)(hh:W.hasDictIn K C=true)
  (ha:W.findIn K (.ref C) name=some none) (hv:mA name=some v) (hv':W.handedIn v=true) (h:Q v { s with toks:=s.toks+1 }) :
  wpAny (model prog w) A (getAttr (.ref x) name expr) Q E s:=by
 obtain⟨od,J,hl⟩:=I.look;exact W.get_value X J (kH hg).1 (W.findObj_own hh ha rfl (by rw[hl,hv])) hv' h
theorem ZG {pl:Sem Bool}{Q:Value × List Value->Shared->Prop}(X:K.In s.heap)(I:Em s.heap x dx C mA)(hg:W.plainGet K C name=true)
  (hf:W.findIn K (.ref C) name=some (some (.ref f))) (ht:W.isFn K (.ref f)=true) (hv:mA name=none) (h:Q (.ref f,[.ref x]) s) :
  wpAny (model prog w) A (getMethod (.ref x) name pl) Q E s:=by
 obtain⟨od,J,hl⟩:=I.look;exact W.method_fn X J (kH hg).1 (kH hg).2 hf (beq_iff_eq.mp ht) (by show (W.lookIn name od).map (·.isSome)=some false;rw[hl,hv];rfl) h
theorem acD {ns:List Str}{Q:Unit->Shared->Prop}(X:K.In s.heap)(I:Em s.heap x dx C mA)
  (hs:W.findIn K (.ref C) "__setattr__"=some (some (.builtin "object.__setattr__"))) (hp:W.plainOver K C=true) (ht:W.takerIn K C name=some none) (hh:W.hasDictIn K C=true)
  (hw:PySem.Within mA ns) (hsz:ns.length<=sizeLine)
  (h:∀h',Em h' x dx C (λy=>if y=name then some v else mA y)->Heap.SameBut dx s.heap h'->Q () { s with heap:=h',toks:=s.toks+2 }) :
  wpAny (model prog w) A (setAttr (.ref x) name v) Q E s:=by
 obtain⟨od,J,hl⟩:=I.look;refine W.set_plain X J hs (W.osa_open (s:={ s with toks:=s.toks+1 }) (r:=none) X J hp ht λb=>?_);obtain⟨cd,hc,hd'⟩:=W.any_some hh;have hx:s.heap.get? x=some ⟨.ref C,some dx,.plain,#[]⟩:=I.obj;refine ad (am (ad (ad (kN hx (ad (W.Looks.here (s:={ s with toks:=s.toks+1 }) (W.looks_clsIn X hc) ?_))))));rw[hd'];refine am (a:=some dx) (ad (am (ad ?_)));refine wpAny_nsSet1 (s:={ s with toks:=s.toks+1 }) I.ns λh' hn2 hs2=>?_;obtain⟨oD,esD,epD,hoD,hdD,hcD⟩:=hn2.count (lj name v hw);refine ad (wpAny_lookBehind hoD (by rw[hdD];exact pastItsLine_dict (b9 hcD (by rw[di];lia))) ?_);exact am (h _ ⟨(hs2.2 _ (fz I.ne)).trans I.obj,hn2,I.ne⟩ hs2)
theorem ZJ {R:Result->Shared->Prop}{vs:List Value}{kw:List (Str × Value)}(X:K.In s.heap)(hm:W.makesIn K C=true)
  (hi:W.findIn K (.ref C) "__init__"=some (some (.ref f))) (hf:W.typeIn K (.ref f)=some (.type "function"))
  (h:codeAny (model prog w) (A.under (.builtin "type.__call__" ⟨.ref C::vs,kw⟩)) (.call (.ref f) ⟨.ref (s.heap.objs.size+1)::vs,kw⟩) (W.InitBack (s.heap.objs.size+1) R)
   { s with heap:=(s.heap.push W.emptyDict).push (W.instObj C s.heap.objs.size) }) :
  codeAny (model prog w) A (.call (.ref C) ⟨vs,kw⟩) R s:=by
 obtain⟨hh,g,d,t,os⟩:=s;exact W.make_core (W.makes_of X hm) (W.looks_findIn X hi) (λself=>W.bind_fn X self hf) (.inl rfl) h
end
def iz (f:Str)(v:V):List (Str × V)->List (Str × V)
 | []=>[(f,v)]
 | (g,x)::r=>if g=f then (g,v)::r else (g,x)::iz f v r
theorem nu (f g:Str)(v:V):∀fs:List (Str × V),(iz f v fs).lookup g=if g=f then some v else fs.lookup g
 | []=>by
  show List.lookup g [(f,v)]=_;by_cases h:g=f
  ·have hb:(g==f)=true:=beq_iff_eq.mpr h
   simp only[List.lookup,hb,if_pos h]
  ·have hb:(g==f)=false:=beq_eq_false_iff_ne.mpr h
   simp only[List.lookup,hb,if_neg h]
 | (k,x)::r=>by
  have ih:=nu f g v r;rw[show iz f v ((k,x)::r)=(if k=f then (k,v)::r else (k,x)::iz f v r) from rfl];by_cases hk:k=f
  ·rw[if_pos hk]
   by_cases h:g=k
   ·have hb:(g==k)=true:=beq_iff_eq.mpr h
    simp only[List.lookup,hb,if_pos (h.trans hk)]
   ·have hb:(g==k)=false:=beq_eq_false_iff_ne.mpr h
    simp only[List.lookup,hb,if_neg (λe:g=f=>h (e.trans hk.symm))]
  ·rw[if_neg hk]
   by_cases h:g=k
   ·have hb:(g==k)=true:=beq_iff_eq.mpr h
    simp only[List.lookup,hb,if_neg (λe:g=f=>hk (h.symm.trans e))]
   ·have hb:(g==k)=false:=beq_eq_false_iff_ne.mpr h
    simp only[List.lookup,hb];exact ih
theorem qZ (f:Str)(v:V):∀fs:List (Str × V),f∈(iz f v fs).map (·.1)/\∀g,g∈fs.map (·.1)->g∈(iz f v fs).map (·.1)
 | []=>⟨by simp[iz],λg h=>by simp at h⟩
 | (k,x)::r=>by
  obtain⟨i1,i2⟩:=qZ f v r;rw[show iz f v ((k,x)::r)=(if k=f then (k,v)::r else (k,x)::iz f v r) from rfl];by_cases hk:k=f
  ·rw[if_pos hk]
   subst hk;exact⟨by simp,λg h=>by simpa using h⟩
  ·rw[if_neg hk]
   refine⟨?_,λg h=>?_⟩
   ·rw[bv]
    exact bb _ i1
   ·rw[bv]at h ⊢
    rcases bq.mp h with e | e
    ·exact bq.mpr (.inl e)
    ·exact bb _ (i2 g e)
theorem wj (f:Str)(v:V):∀fs:List (Str × V),(iz f v fs).length<=fs.length+1
 | []=>by simp[iz]
 | (k,x)::r=>by
  have ih:=wj f v r;rw[show iz f v ((k,x)::r)=(if k=f then (k,v)::r else (k,x)::iz f v r) from rfl];by_cases hk:k=f
  ·rw[if_pos hk,di,di];lia
  ·rw[if_neg hk,di,di];lia
theorem jM.some_of {v:V}{o:Option Value}(r:jM (some v) o):∃u,o=some u/\cu v u:=by
 cases o with
 | none=>exact(show False from r).elim
 | some u=>exact⟨u,rfl,r⟩
theorem jM.none_of {o:Option Value}(r:jM none o):o=none:=by
 cases o with
 | none=>rfl
 | some u=>exact(show False from r).elim
theorem J1 {v:V}{u:Value}(r:cu v u):W.handedIn u=true:=by
 cases v with
 | non=>cases(show u=Value.none from r);rfl
 | bl b=>cases(show u=Value.bool b from r);rfl
 | int i=>obtain⟨t,e⟩:=(show ∃t,u=Value.int i t from r);cases e;rfl
 | str x=>obtain⟨t,e⟩:=(show ∃t,u=Value.str x t from r);cases e;rfl
 | zV b=>obtain⟨t,e⟩:=(show ∃t,u=Value.bytes b t from r);cases e;rfl
 | flt b=>obtain⟨t,e⟩:=(show ∃t,u=Value.float b t from r);cases e;rfl
 | ref a=>cases(show u=Value.ref a from r);rfl
 | ty n=>cases(show u=Value.type n from r);rfl
section
variable {P:Program}{w:World}{H:Hp}{h:Heap}{a C dx:Addr}{fs:List (Str × V)}
theorem Dd (hok:iV P w H h)(e:H a=some (.ins C dx fs)):∃mA,Em h a dx C mA/\(∀f,jM (fs.lookup f) (mA f))/\PySem.Within mA (fs.map (·.1))/\fs.length<=1000/\H dx=some (.own a):=by
 obtain⟨d,z,ne,ob,mA,n,r,q⟩:=(show dH P w H h a (.ins C dx fs) from hok a _ e)
 exact⟨mA,⟨ob,n,ne⟩,r,q,z,d⟩
end
structure Cls (K:W.Frag)(C:Addr):Prop where
 pg:W.plainGet K C Str.empty=true
 hd:W.hasDictIn K C=true
 po:W.plainOver K C=true
 sa:W.findIn K (.ref C) "__setattr__"=some (some (.builtin "object.__setattr__"))
theorem Cls.get {K:W.Frag}{C:Addr}(c:Cls K C)(f:Str):W.plainGet K C f=true:=c.pg
def nC (K:W.Frag)(C:Addr)(f:Str):Prop:=W.findIn K (.ref C) f=some none
theorem nC.taker {K:W.Frag}{C:Addr}{f:Str}(n:nC K C f):W.takerIn K C f=some none:=by
 unfold W.takerIn;rw[show W.findIn K (.ref C) f=some none from n];rfl
structure Con (K:W.Frag)(C:Addr)(f:Str)(v:V)(u:Value):Prop where
 at_:W.findIn K (.ref C) f=some (some u)
 rel:cu v u
 get:W.specialIn K u "__get__"=some none
 cp:W.copiedNames.contains f=false
structure Meth (K:W.Frag)(C:Addr)(m:Str)(f:Addr):Prop where
 at_:W.findIn K (.ref C) m=some (some (.ref f))
 fn:W.isFn K (.ref f)=true
 kp:W.keepIn K (.ref f)=true
section
variable {X:Cx}{ao:AC}{σ:St}{H:Hp}{s:Shared}{a C dx:Addr}{fs:List (Str × V)}{f:Str}{v:V}{A:Around}{E:AB}
theorem TV {b:Bool}{Q:AB}(I:aL X ao σ H s)(e:H a=some (.ins C dx fs))(c:Cls X.K C)(n:nC X.K C f)(l:fs.lookup f=some v)
  (h:∀u s',aL X ao σ H s'->cu v u->Q u s'):wpAny (model X.prog X.w) A (getAttr (.ref a) f b) Q E s:=by
 obtain⟨mA,O,r,_,_,_⟩:=Dd I.hok e;obtain⟨u,hu,ru⟩:=jM.some_of (v:=v) (o:=mA f) (by rw[<- l];exact r f);exact get_map I.gk O (c.get f) c.hd n hu (J1 ru) (h u _ (I.tok _) ru)
theorem Gr {m:Str}{g:Addr}{pl:Sem Bool}{Q:Value × List Value->Shared->Prop}(I:aL X ao σ H s)(e:H a=some (.ins C dx fs))(c:Cls X.K C)(k:Meth X.K C m g)(l:fs.lookup m=none)
  (h:Q (.ref g,[.ref a]) s):wpAny (model X.prog X.w) A (getMethod (.ref a) m pl) Q E s:=by
 obtain⟨mA,O,r,_,_,_⟩:=Dd I.hok e;have hn:mA m=none:=jM.none_of (by rw[<- l];exact r m);exact ZG I.gk O (c.get m) k.at_ k.fn hn h
theorem TX {y:V}{u:Value}{Q:Unit->Shared->Prop}(I:aL X ao σ H s)(e:H a=some (.ins C dx fs))(c:Cls X.K C)(n:nC X.K C f)(hl:fs.length < 1000)(ry:cu y u)
  (h:∀s',aL X ao σ (upd H a (.ins C dx (iz f y fs))) s'->Q () s'):wpAny (model X.prog X.w) A (setAttr (.ref a) f u) Q E s:=by
 obtain⟨mA,O,r,wi,_,ho⟩:=Dd I.hok e;have hz:(fs.map (·.1)).length<=sizeLine:=by rw[aa,sizeLine_eq];lia
 refine acD I.gk O c.sa c.po n.taker c.hd wi hz λh' O' sb=>h _ ?_;have hd:∃o,h'.get? dx=some o:=let ⟨o,_,_,e',_⟩:=O'.ns;⟨o,e'⟩
 refine I.write (x:=a) (e:=dx) (by rw[e];exact True.intro) (.inr ho) (λb q hb z=>(sb.2 b hb).trans z) hd ?_;refine⟨by rw[aN O.ne];exact ho,?_,O.ne,O'.obj,_,O'.ns,λg=>?_,λg hg=>?_⟩
 ·have:=wj f y fs;lia
 ·show jM ((iz f y fs).lookup g) (if g=f then some u else mA g)
  rw[nu];by_cases q:g=f
  ·rw[if_pos q,if_pos q];exact ry
  ·rw[if_neg q,if_neg q];exact r g
 ·by_cases q:g=f
  ·rw[q];exact(qZ f y fs).1
  ·refine(qZ f y fs).2 g (wi g λz=>hg ?_)
   show (if g=f then some u else mA g)=none;rw[if_neg q];exact z
theorem aL.made (I:aL X ao σ H s):aL X ao σ (upd (upd H s.heap.objs.size (.own (s.heap.objs.size+1))) (s.heap.objs.size+1) (.ins C s.heap.objs.size []))
  { s with heap:=(s.heap.push W.emptyDict).push (W.instObj C s.heap.objs.size) }:=by
 have e1:(s.heap.push W.emptyDict).get? s.heap.objs.size=some W.emptyDict:=aT s.heap rfl;have e2:((s.heap.push W.emptyDict).push (W.instObj C s.heap.objs.size)).get? (s.heap.objs.size+1)=some (W.instObj C s.heap.objs.size):=by
  have:=aT (s.heap.push W.emptyDict) (o:=W.instObj C s.heap.objs.size) rfl
  rwa [cS]at this
 have e3:(s.heap.push W.emptyDict).Ns s.heap.objs.size (λ_=>none):=⟨W.emptyDict,#[],_,e1,rfl,(λe he=>absurd he (by simp)),λ_=>rfl⟩
 have I1:=I.laid (a:=s.heap.objs.size) (o:=.own (s.heap.objs.size+1)) (h':=s.heap.push W.emptyDict) (t':=s.toks) (λb u q=>ag _ q) (al _) ⟨_,e1⟩;refine I1.laid (a:=s.heap.objs.size+1) (o:=.ins C s.heap.objs.size []) (t':=s.toks) (λb u q=>ag _ q) (eh (cS _ _)) ?_;have ne:s.heap.objs.size≠s.heap.objs.size+1:=a8 (fF _);refine⟨by rw[aN ne,au],b8 _,ne,e2,λ_=>none,(Heap.Ns1.of_empty e3).at λo q=>ag _ q,λ_=>True.intro,λy hy=>absurd rfl hy⟩
theorem Rw {prog:Program}{w:World}{env:Env}{e:Expr}{f:Str}{pos:Pos}{s:Shared}{Q:AB}(hb:attributeBase e f env (eval e env)=eval e env)
  (h:wpAny (model prog w) A (eval e env) (λo s₁=>wpAny (model prog w) A (getAttr o f true) Q E s₁) E s):wpAny (model prog w) A (eval (.Attribute e f pos) env) Q E s:=
 Attribute_any_ h (by rw[arm_eval_Attribute,hb])
end
def aeK (K:W.Frag)(ta:TE)(f:Str):TE:=λσ H Q=>ta σ H λx H1=>∃a C dx fs v,x=.ref a/\H1 a=some (.ins C dx fs)/\Cls K C/\nC K C f/\fs.lookup f=some v/\Q v H1
def aeL (K:W.Frag)(ta tv:TE)(f:Str):TS:=λD σ H=>tv σ H λy H1=>ta σ H1 λx H2=>∃a C dx fs,x=.ref a/\H2 a=some (.ins C dx fs)/\Cls K C/\nC K C f/\fs.length < 1000/\
 D.nx σ (upd H2 a (.ins C dx (iz f y fs)))
section
variable {X:Cx}{o e value:Expr}{f:Str}{pos pos':Pos}{ta tv:TE}
variable {ao:AC}{σ:St}{H:Hp}{s:Shared}{A:Around}{E Q:AB}{c:Value}{b:Bool}
theorem aeM (he:PE X e ta)(hb:attributeBase e f X.env (eval e X.env)=eval e X.env):PE X (.Attribute e f pos) (aeK X.K ta f):=by
 intro ao s σ H Q I h;refine Rw hb (bN (he ao s σ H _ I h) λu s1 zz=>?_);obtain⟨x,H1,I1,rx,a,C,dx,fs,v,ex,ea,c,n,l,q⟩:=zz;subst ex;obtain rfl:u=Value.ref a:=rx;exact TV I1 ea c n l λu' s2 I2 ru=>⟨v,H1,I2,ru,q⟩
theorem aeN (ha:PE X o ta)(hv:PE X value tv)(hs:swapsWith value (some (.Attribute o f pos')) pos.line X.env=pure false):PS X (.Assign [.Attribute o f pos'] value pos) (aeL X.K ta tv f):=by
 intro ao s σ H D I h;refine plainObj_wpAny_Assign_Attribute (bN (hv ao s σ H _ I h) λu s1 zz=>?_) hs;obtain⟨y,H1,I1,ry,q⟩:=zz;refine bN (ha ao s1 σ H1 _ I1 q) λov s2 zz=>?_;obtain⟨x,H2,I2,rx,a,C,dx,fs,ex,ea,c,n,l,q2⟩:=zz;subst ex;obtain rfl:ov=Value.ref a:=rx;exact TX I2 ea c n l ry λs3 I3=>⟨σ,_,I3,q2⟩
inductive jO (K:W.Frag) (H:Hp):V->Value->Prop where
 | non:jO K H .non (.type "NoneType")
 | bl (x:Bool):jO K H (.bl x) (.type "bool")
 | int (i:Int):jO K H (.int i) (.type "int")
 | str (x:Str):jO K H (.str x) (.type "str")
 | flt (x:UInt64):jO K H (.flt x) (.type "float")
 | lst {a:Addr} {xs:List V} (e:H a=some (.lst xs)):jO K H (.ref a) (.type "list")
 | nj {a:Addr} {o:Obj} {xs:List V} (e:H a=some (.nj o (.lst xs))):jO K H (.ref a) (.type "list")
 | tup {a:Addr} {xs:List V} (e:H a=some (.tup xs)):jO K H (.ref a) (.type "tuple")
 | dK {a:Addr} {kvs:List (Key × V)} (e:H a=some (.dK kvs)):jO K H (.ref a) (.type "dict")
 | dT {a:Addr} {kvs:List (List Key × V)} (e:H a=some (.dT kvs)):jO K H (.ref a) (.type "dict")
 | ins {a C dx:Addr} {fs:List (Str × V)} (e:H a=some (.ins C dx fs)) (cl:Cls K C) (ha:W.findIn K (.ref C) "__class__"=some (some (.builtin "object.__class__")))
   (hn:W.specialIn K (.builtin "object.__class__") "__get__"=some (some (.builtin "getset_descriptor.__get__"))) (htk:W.takesIn K (.builtin "object.__class__")=some true)
   (hm:W.mroIn K C (.type "object")=some true):jO K H (.ref a) (.ref C)
theorem Wi {x:V}{u t:Value}(I:aL X ao σ H s)(rx:cu x u)(ty:jO X.K H x t)(e:W.kitOne X.K t c=some b)(h:∀tk,Q (.bool b) { s with toks:=tk }) :
  wpAny (model X.prog X.w) A (call (.builtin "isinstance") [u,c]) Q E s:=by
 cases ty with
 | non=>cases(show u=Value.none from rx);exact dL W.kitx_none I.gk True.intro e (λz=>nomatch z) h
 | bl y=>cases(show u=Value.bool y from rx);exact dL W.kitx_bool I.gk True.intro e (λz=>nomatch z) h
 | int i=>obtain⟨t,q⟩:=(show ∃t,u=Value.int i t from rx);cases q;exact dL W.kitx_int I.gk True.intro e (λz=>nomatch z) h
 | str y=>obtain⟨t,q⟩:=(show ∃t,u=Value.str y t from rx);cases q;exact dL W.kitx_str I.gk True.intro e (λz=>nomatch z) h
 | flt y=>obtain⟨t,q⟩:=(show ∃t,u=Value.float y t from rx);cases q;exact dL W.kitx_float I.gk True.intro e (λz=>nomatch z) h
 | @lst a xs ea=>
  cases(show u=Value.ref a from rx);obtain⟨_,_,n,_,h1⟩:=(show dH X.prog X.w H s.heap a (.lst xs) from I.hok a _ ea)
  exact dL W.kitx_list I.gk ⟨_,h1,rfl⟩ e (λz=>nomatch z) h
 | @nj a ob xs ea=>
  cases(show u=Value.ref a from rx);obtain⟨_,_,_,n,_,h1⟩:=(show dH X.prog X.w H s.heap a (.nj ob (.lst xs)) from I.hok a _ ea)
  exact dL W.kitx_list I.gk ⟨_,h1,rfl⟩ e (λz=>nomatch z) h
 | @tup a xs ea=>
  cases(show u=Value.ref a from rx);obtain⟨_,_,_,p⟩:=(show dH X.prog X.w H s.heap a (.tup xs) from I.hok a _ ea)
  obtain⟨o,h1,h2,_⟩:=p;exact dL W.kitx_tuple I.gk ⟨o,h1,h2⟩ e (λz=>nomatch z) h
 | @dK a kvs ea=>
  cases(show u=Value.ref a from rx);obtain⟨_,_,vs,_,p⟩:=(show dH X.prog X.w H s.heap a (.dK kvs) from I.hok a _ ea)
  obtain⟨o,es,ep,h1,h2,_⟩:=p;exact dL W.kitx_dict I.gk ⟨o,h1,h2.1⟩ e (λz=>nomatch z) h
 | @dT a kvs ea=>
  cases(show u=Value.ref a from rx);obtain⟨_,_,xs,_,o,es,ep,h1,h2,_⟩:=(show dH X.prog X.w H s.heap a (.dT kvs) from I.hok a _ ea)
  exact dL W.kitx_dict I.gk ⟨o,h1,h2.1⟩ e (λz=>nomatch z) h
 | @ins a C dx fs ea cl ha hn htk hm=>
  cases(show u=Value.ref a from rx);obtain⟨mA,O,_⟩:=Dd I.hok ea;obtain⟨od,J,_⟩:=O.look;exact dL (W.kitx_own (cl.get _) cl.hd ha hn htk hm) I.gk J e (λz=>nomatch z) h
end
structure dX (k:Nat)(A:Around):Prop where
 hd:A.handled=none
 dp:A.depth+3*k+5 < recursionLimit
 un:A.units+16*k+200 < cLine
theorem dX.mono {j k:Nat}{A:Around}(r:dX k A)(h:j<=k:=by decide):dX j A:=⟨r.hd,by have:=r.dp;lia,by have:=r.un;lia⟩
theorem dX.deeper {k:Nat}{A:Around}(r:dX (k+1) A)(env:Env):dX k (A.deeper env):=
 ⟨r.hd,by have:=r.dp;show A.depth+1+3*k+5 < _;lia,by have:=r.un;show A.units+3+16*k+200 < _;lia⟩
theorem TY {A:Around}{C:Addr}{us:List Value}{kw:List (Str × Value)}:(A.under (.builtin "type.__call__" ⟨.ref C::us,kw⟩)).depth=A.depth+1:=by
 first | rfl | simp[Around.under,Code.weight,Code.isCreation,Code.isGuard,Code.isCaller,Code.frames,Code.isFrame,guardIds]
theorem T3 {A:Around}{C:Addr}{us:List Value}{kw:List (Str × Value)}:(A.under (.builtin "type.__call__" ⟨.ref C::us,kw⟩)).units=A.units+1:=by
 first | rfl | simp[Around.under,Code.cUnits,Code.frames,Code.isFrame]
theorem dX.make {k:Nat}{A:Around}(r:dX (k+1) A)(C:Addr)(us:List Value)(kw:List (Str × Value)):dX k (A.under (.builtin "type.__call__" ⟨.ref C::us,kw⟩)):=
 ⟨r.hd,by have:=r.dp;rw[TY];lia,by have:=r.un;rw[T3];lia⟩
theorem dX.depth {k:Nat}{A:Around}(r:dX k A):A.depth < recursionLimit:=by have:=r.dp;lia
theorem dX.units {k:Nat}{A:Around}(r:dX k A):A.units+64 < cLine:=by have:=r.un;lia
theorem dX.aeO {k:Nat}{A:Around}(r:dX k A):A.units < cLine:=by have:=r.un;lia
def oW:TA:=λ_ H Q=>Q [] H
def j4 (ta:TE)(tr:TA):TA:=λσ H Q=>ta σ H λx H1=>tr σ H1 λxs H2=>Q (x::xs) H2
section
variable {X:Cx}{e:Expr}{es:List Expr}{te:TE}{t:TA}{pos:Pos}
theorem aeP:PA X [] oW:=λ_ _ _ _ H Q I h=>Calls.spliced_nil ⟨[],H,I,.nil,h⟩
theorem acE (ha:PE X e te)(hr:PA X es t)(hs:starEach (e::es) X.env=(false,eval e X.env)::starEach es X.env:=by rfl):PA X (e::es) (j4 te t):=by
 intro pos ao s σ H Q I h;rw[hs];show wpAny _ _ (spliced ((false,eval e X.env)::backTo pos (starEach es X.env))) _ _ s;refine Calls.spliced_cons (bN (ha ao s σ H _ I h) λu s1 zz=>?_);obtain⟨x,H1,I1,r1,q1⟩:=zz;exact bN (hr pos ao s1 σ H1 _ I1 q1) λus s2 ⟨xs,H2,I2,r2,q2⟩=>⟨x::xs,H2,I2,.cons r1 r2,q2⟩
def aeQ (t:TA):TE:=λσ H Q=>t σ H λxs H1=>xs.length<=sizeLine/\∀p,H1 p=none->Q (.ref p) (upd H1 p (.tup xs))
def aeR (t:TA):TE:=λσ H Q=>t σ H λxs H1=>xs.length<=sizeLine/\∀p,H1 p=none->Q (.ref p) (upd H1 p (.lst xs))
theorem aeS {x1}(h:PA X es t):PE X (.Tuple es x1 pos) (aeQ t):=by
 intro ao s σ H Q I hq;refine wpAny_Tuple_spliced (bN (h pos ao s σ H _ I hq) λus s1 ⟨xs,H1,I1,r,z,q⟩=>⟨by rw[<- r.length];exact z,?_⟩);have hf:H1 s1.heap.objs.size=none:=I1.hok.fresh (al _);refine⟨.ref s1.heap.objs.size,upd H1 s1.heap.objs.size (.tup xs),I1.laid (t':=s1.toks) (λb u e=>ag _ e) (al _) ?_,rfl,q _ hf⟩;exact⟨z,us,r,⟨_,aT _ rfl,rfl,_,rfl⟩⟩
theorem aeT (h:PA X es t):PE X (.List es pos) (aeR t):=by
 intro ao s σ H Q I hq;refine wpAny_List_spliced (bN (h pos ao s σ H _ I hq) λus s1 ⟨xs,H1,I1,r,z,q⟩=>⟨by rw[<- r.length];exact z,?_⟩);have hf:H1 s1.heap.objs.size=none:=I1.hok.fresh (al _);refine⟨.ref s1.heap.objs.size,upd H1 s1.heap.objs.size (.lst xs),I1.laid (t':=s1.toks) (λb u e=>ag _ e) (al _) ?_,rfl,q _ hf⟩;exact⟨z,us,0,r,aT _ rfl⟩
end
abbrev Sp:=List V->Hp->VK->XK->Prop
abbrev nD:=List Env->Hp->Shared->XK->Value->Shared->Prop
structure En (P:Program)(w:World)(K:W.Frag)(mg:Str->Option Value)(base:Heap)(A:Around)(outer:List Env)(s:Shared)(H:Hp):Prop where
 frames:A.frames=some outer
 mod:Mod K mg base
 bs:∀b o,base.get? b=some o->s.heap.get? b=some o/\H b=none
 rY:base.objs.size<=s.heap.objs.size
 mZ:s.heap.FunFrames base outer
 z_:∀b∈frs outer,H b=none
 hok:iV P w H s.heap
 bare:AllBare s.gens
def CE (outer:List Env)(P:Program)(w:World)(H:Hp)(s:Shared)(Q:VK)(u:Value)(s':Shared):Prop:=
 ∃v H',s'.os=s.os/\AllBare s'.gens/\Un (frs outer) [] H H' s.heap s'.heap/\iV P w H' s'.heap/\cu v u/\Q v H'
def CR (CX:nD)(outer:List Env)(P:Program)(w:World)(H:Hp)(s:Shared)(Q:VK)(E:XK)(r:Result)(s':Shared):Prop:=
 match r with
 | .ok (.ret u)=>CE outer P w H s Q u s'
 | .ok _=>False
 | .error e=>CX outer H s E e s'
structure cP (P:Program)(w:World)(K:W.Frag)(mg:Str->Option Value)(base:Heap)(CX:nD)(k:Nat)(f:Addr)(fd:FuncData)(ps:List Str)(sp:Sp):Prop where
 len:∀vs H Q E,sp vs H Q E->vs.length=ps.length
 run:∀(A:Around) (outer:List Env) (s:Shared) (H:Hp) (args:Args) (us:List Value) (vs:List V) (Q:VK) (E:XK),dX k A->En P w K mg base A outer s H->BindsTo s fd args (ps.zip us)->Vals vs us->sp vs H Q E->
  codeAny (model P w) A (.call (.ref f) args) (CR CX outer P w H s Q E) s
theorem cP.mono {P:Program}{w:World}{K:W.Frag}{mg:Str->Option Value}{base:Heap}{CX:nD}{j k:Nat}{f:Addr}{fd:FuncData}{ps:List Str}{sp:Sp}(F:cP P w K mg base CX j f fd ps sp)(h:j<=k) :
  cP P w K mg base CX k f fd ps sp:=⟨F.len,λA outer s H args us vs Q E hr=>F.run A outer s H args us vs Q E (hr.mono h)⟩
theorem cP.imp {P:Program}{w:World}{K:W.Frag}{mg:Str->Option Value}{base:Heap}{CX:nD}{k:Nat}{f:Addr}{fd:FuncData}{ps:List Str}{sp M4:Sp}(F:cP P w K mg base CX k f fd ps sp)
  (h:∀vs H Q E,M4 vs H Q E->sp vs H Q E):cP P w K mg base CX k f fd ps M4:=
 ⟨λvs H Q E q=>F.len vs H Q E (h _ _ _ _ q),λA outer s H args us vs Q E hr he hb hv hs=>F.run A outer s H args us vs Q E hr he hb hv (h _ _ _ _ hs)⟩
theorem En.make {P:Program}{w:World}{K:W.Frag}{mg:Str->Option Value}{base:Heap}{A:Around}{outer:List Env}{s:Shared}{H:Hp}(e:En P w K mg base A outer s H)(C:Addr)(us:List Value)(kw:List (Str × Value)) :
  En P w K mg base (A.under (.builtin "type.__call__" ⟨.ref C::us,kw⟩)) outer s H:=⟨by first | exact e.frames | (simpa [Around.under,Code.envs,Code.isFrame,pushEnvs] using e.frames),e.mod,e.bs,e.rY,e.mZ,e.z_,e.hok,e.bare⟩
section
variable {X:Cx}{ao:AC}{σ:St}{H:Hp}{s s':Shared}
theorem aL.env0 (I:aL X ao σ H s):En X.prog X.w X.K X.mg X.base X.A X.stack s H:=
 ⟨I.ok.frames,I.ok.mod,I.bs,b9 I.ok.rY I.sz,I.stack,I.pW,I.hok,I.bare⟩
theorem aL.after {Q:VK}{u:Value}(I:aL X ao σ H s)(h:CE X.stack X.prog X.w H s Q u s'):EP X ao σ Q u s':=by
 obtain⟨v,H',os,bare,un,hok,r,q⟩:=h;obtain⟨hh,g,d,t,os'⟩:=s';obtain rfl:os'=s.os:=os;exact⟨v,H',I.call (h':=hh) (g':=g) (d':=d) (t':=t) (ch:=[]) un hok bare (λb z=>absurd z (by simp)),r,q⟩
end
def Gs (sp:Sp)(iW:List V)(E:XK)(t:TA):TE:=λσ H Q=>t σ H λvs H1=>sp (vs++iW) H1 Q E
def Mi (C:Addr)(m:Str)(sp:Sp)(iW:List V)(E:XK)(ta:TE)(t:TA):TE:=λσ H Q=>ta σ H λx H1=>∃a dx fs,x=.ref a/\H1 a=some (.ins C dx fs)/\fs.lookup m=none/\
 t σ H1 λvs H2=>sp (x::(vs++iW)) H2 Q E
def abQ (C:Addr)(sp:Sp)(iW:List V)(E:XK)(t:TA):TE:=λσ H Q=>t σ H λvs H1=>∀x dx,H1 x=none->H1 dx=none->dx≠x->
 sp (.ref x::(vs++iW)) (upd (upd H1 dx (.own x)) x (.ins C dx [])) (λv H2=>v=.non/\Q (.ref x) H2) E
def cO (K:W.Frag)(fd:FuncData)(ps:List Str)(ds:List Value):Prop:=
 ∀(s:Shared) (us:List Value),K.In s.heap->(us++ds).length=ps.length->BindsTo s fd ⟨us,[]⟩ (ps.zip (us++ds))
theorem cO.all {K:W.Frag}{fd:FuncData}{ps:List Str}(h:∀us:List Value,us.length=ps.length->bindArgs fd ⟨us,[]⟩=pure (ps.zip us)):cO K fd ps []:=λs us _ hl=>by
 rw[eQ]at hl ⊢;exact .of_eq (h us hl)
def Passes (CX:nD)(X:Cx)(E:XK):Prop:=∀(ao:AC) (σ:St) (H:Hp) (s:Shared) (e:Value) (s':Shared),aL X ao σ H s->CX X.stack H s E e s'->X.xe e s'
section
variable {X:Cx}{CX:nD}{k:Nat}{f C:Addr}{fd:FuncData}{ps:List Str}{sp:Sp}{iW:List V}{ds:List Value}{E:XK}{x m:Str}{p pos apos:Pos}{e o:Expr}{es:List Expr}{ta:TE}{t:TA}
variable {ks:List Str}
theorem M5 {ao:AC}{σ:St}{H:Hp}{s:Shared}{Q:VK}{us:List Value}{vs:List V}(F:cP X.prog X.w X.K X.mg X.base CX k f fd ps sp)(hr:dX k X.A)(hb:cO X.K fd ps ds)(hd:Vals iW ds)(hx:Passes CX X E)
  (I:aL X ao σ H s) (r:Vals vs us) (h:sp (vs++iW) H Q E):wpAny (model X.prog X.w) X.A (call (.ref f) us) (EP X ao σ Q) X.xe s:=by
 have r2:Vals (vs++iW) (us++ds):=r.append hd;have hl:(us++ds).length=ps.length:=by rw[<- r2.length];exact F.len _ _ _ _ h
 refine gh (iN (F.run X.A X.stack s H ⟨us,[]⟩ (us++ds) (vs++iW) Q E hr I.env0 (hb s us I.gk hl) r2 h) λr s' hq=>?_);cases r with
 | error e=>exact hx ao σ H s e s' I hq
 | ok fl=>
  cases fl with
  | ret u=>exact I.after hq
  | next=>exact False.elim hq
  | brk=>exact False.elim hq
  | cont=>exact False.elim hq
theorem acF (F:cP X.prog X.w X.K X.mg X.base CX k f fd ps sp)(hr:dX k X.A)(hg:Gl X x)(hm:X.mg x=some (.ref f))(hk:W.keepIn X.K (.ref f)=true)(hb:cO X.K fd ps ds)(hd:Vals iW ds)(hx:Passes CX X E)
  (ha:PA X (e::es) t) (hdb:(x==("__debug__":Str))=false:=by decide) (he:starEach (e::es) X.env=(false,eval e X.env)::starEach es X.env:=by rfl) (hpl:(backTo pos (starEach es X.env)).any (·.1)=false:=by rfl) :
  PE X (.Call (.Name x p) (e::es) [] pos) (Gs sp iW E t):=by
 intro ao s σ H Q I h;refine fS (oA I hg hm ?_ hdb);refine hX (h₀:=X.base) I.ok.mod.Gm hk (bN (ha pos ao s σ H _ I h) λus s1 ⟨vs,H1,I1,r,q⟩=>⟨I1.gk,?_⟩) he hpl;exact M5 F hr hb hd hx I1 r q
theorem acG {pl:Sem Bool}(he:PE X o ta)(c:Cls X.K C)(hm:Meth X.K C m f)(F:cP X.prog X.w X.K X.mg X.base CX k f fd ps sp)(hr:dX k X.A)(hb:cO X.K fd ps ds)(hd:Vals iW ds)(hx:Passes CX X E)(ha:PA X (e::es) t)
  (hst:starEach (e::es) X.env=(false,eval e X.env)::starEach es X.env:=by rfl) (hpl:(backTo pos (starEach es X.env)).any (·.1)=false:=by rfl)
  (ht:eval (.Call (.Attribute o m apos) (e::es) [] pos) X.env=(do
   let ov <- eval o X.env
   standAt apos.atName
   let (f,first) <- holding [ov] (getMethod ov m pl)
   callWith pos f first (backTo pos (starEach (e::es) X.env)) (backToKw pos (keywordEach [] X.env))):=by rfl) :
  PE X (.Call (.Attribute o m apos) (e::es) [] pos) (Mi C m sp iW E ta t):=by
 intro ao s σ H Q I h;refine W.methodCall_KW (pl:=pl) (bN (he ao s σ H _ I h) λu s1 zz=>?_) ht;obtain⟨x,H1,I1,rx,a,dx,fs,ex,ea,l,q⟩:=zz;subst ex;obtain rfl:u=Value.ref a:=rx;refine Gr I1 ea c hm l ?_;refine hX (first:=[.ref a]) (h₀:=X.base) I.ok.mod.Gm hm.kp (bN (ha pos ao s1 σ H1 _ I1 q) λus s2 ⟨vs,H2,I2,r,q2⟩=>⟨I2.gk,?_⟩) hst hpl;exact M5 (us:=.ref a::us) (vs:=.ref a::vs) F hr hb hd hx I2 (.cons rfl r) q2
theorem ZK {pl:Sem Bool}(he:PE X o ta)(c:Cls X.K C)(hm:Meth X.K C m f)(F:cP X.prog X.w X.K X.mg X.base CX k f fd ps sp)(hr:dX k X.A)(hb:cO X.K fd ps ds)(hd:Vals iW ds)(hx:Passes CX X E)
  (ht:eval (.Call (.Attribute o m apos) [] [] pos) X.env=(do
   let ov <- eval o X.env
   standAt apos.atName
   let (f,first) <- holding [ov] (getMethod ov m pl)
   callWith pos f first (backTo pos (starEach [] X.env)) (backToKw pos (keywordEach [] X.env))):=by rfl) :
  PE X (.Call (.Attribute o m apos) [] [] pos) (Mi C m sp iW E ta oW):=by
 intro ao s σ H Q I h;refine W.methodCall_KW (pl:=pl) (bN (he ao s σ H _ I h) λu s1 zz=>?_) ht;obtain⟨x,H1,I1,rx,a,dx,fs,ex,ea,l,q⟩:=zz;subst ex;obtain rfl:u=Value.ref a:=rx;refine Gr I1 ea c hm l ?_;exact W.callWith_K0 (first:=[.ref a]) I1.gk hm.kp (M5 (us:=[.ref a]) (vs:=[.ref a]) F hr hb hd hx I1 (.cons rfl .nil) q)
structure Mk (K:W.Frag)(C f:Addr):Prop where
 makes:W.makesIn K C=true
 init:W.findIn K (.ref C) "__init__"=some (some (.ref f))
 fn:W.isFn K (.ref f)=true
 kp:W.keepIn K (.ref C)=true
theorem ZL {ao:AC}{σ:St}{H:Hp}{s:Shared}{Q:VK}{us:List Value}{vs:List V}(M:Mk X.K C f)(F:cP X.prog X.w X.K X.mg X.base CX k f fd ps sp)(hr:dX (k+1) X.A)(hb:cO X.K fd ps ds)(hd:Vals iW ds)
  (hx:Passes CX X E) (I:aL X ao σ H s) (r:Vals vs us)
  (h:∀x dx,H x=none->H dx=none->dx≠x->sp (.ref x::(vs++iW)) (upd (upd H dx (.own x)) x (.ins C dx [])) (λv H2=>v=.non/\Q (.ref x) H2) E) :
  wpAny (model X.prog X.w) X.A (call (.ref C) us) (EP X ao σ Q) X.xe s:=by
 have hq:=h (s.heap.objs.size+1) s.heap.objs.size (I.hok.fresh (jn _)) (I.hok.fresh (al _)) (a8 (fF _));have I2:=aL.made (C:=C) I;have r2:Vals (V.ref (s.heap.objs.size+1)::(vs++iW)) (Value.ref (s.heap.objs.size+1)::(us++ds)):=.cons rfl (r.append hd);have hl:(Value.ref (s.heap.objs.size+1)::us++ds).length=ps.length:=by
  have e:=r2.length;rw[F.len _ _ _ _ hq]at e;exact e.symm
 refine gh (ZJ (f:=f) I.gk M.makes M.init (beq_iff_eq.mp M.fn) (iN (F.run _ X.stack _ _ ⟨Value.ref (s.heap.objs.size+1)::us,[]⟩ (Value.ref (s.heap.objs.size+1)::(us++ds)) _ _ E (hr.make C us [])
  (I2.env0.make C us []) (hb _ (Value.ref (s.heap.objs.size+1)::us) I2.gk hl) r2 hq) λr s' hq'=>?_))
 cases r with
 | error e=>exact hx ao σ _ _ e s' I2 hq'
 | ok fl=>
  cases fl with
  | ret u=>
   obtain⟨v,H',I3,rv,ev,q3⟩:=I2.after hq';subst ev;exact⟨rv,⟨V.ref (s.heap.objs.size+1),H',I3,rfl,q3⟩⟩
  | next=>exact False.elim hq'
  | brk=>exact False.elim hq'
  | cont=>exact False.elim hq'
theorem acH (M:Mk X.K C f)(F:cP X.prog X.w X.K X.mg X.base CX k f fd ps sp)(hr:dX (k+1) X.A)(hg:Gl X x)(hm:X.mg x=some (.ref C))(hb:cO X.K fd ps ds)(hd:Vals iW ds)(hx:Passes CX X E)
  (ha:PA X (e::es) t) (hdb:(x==("__debug__":Str))=false:=by decide) (he:starEach (e::es) X.env=(false,eval e X.env)::starEach es X.env:=by rfl) (hpl:(backTo pos (starEach es X.env)).any (·.1)=false:=by rfl) :
  PE X (.Call (.Name x p) (e::es) [] pos) (abQ C sp iW E t):=by
 intro ao s σ H Q I h;refine fS (oA I hg hm ?_ hdb);refine hX (h₀:=X.base) I.ok.mod.Gm M.kp (bN (ha pos ao s σ H _ I h) λus s1 ⟨vs,H1,I1,r,q⟩=>⟨I1.gk,?_⟩) he hpl;exact ZL M F hr hb hd hx I1 r q
structure ah4 (K:W.Frag)(fd:FuncData)(ps ks:List Str)(g:List Value->List Value->List Value)(gV:List V->List V->List V):Prop where
 to:∀(s:Shared) (us ws:List Value),K.In s.heap->(g us ws).length=ps.length->BindsTo s fd ⟨us,ks.zip ws⟩ (ps.zip (g us ws))
 rel:∀{vs:List V} {us:List Value} {zs:List V} {ws:List Value},Vals vs us->Vals zs ws->Vals (gV vs zs) (g us ws)
end
structure bh (N P:List Str)(sc:Scope):Prop where
 kind:sc.kind=.function:=by rfl
 co:sc.isCoroutine=false:=by rfl
 gen:sc.isGenerator=false:=by rfl
 nd:N.Nodup:=by decide +kernel
 pre:N.take P.length=P:=by rfl
 par:∀x∈P,sc.names.lookup x=some .local\/sc.names.lookup x=some .cell:=by decide +kernel
 aeU:∀y∈sc.names,y.2≠.free:=by decide +kernel
theorem J2 {kindOf:Str->Option NameKind}{x:Str}:∀{binds:List (Str × Value)} {m:Str->Option Value},(∀v,(x,v)∉binds)->bindL kindOf binds m x=m x
 | [],_,_=>rfl
 | (n,v)::r,m,h=>by
  unfold bindL;rw[J2 λw hw=>h w (bb _ hw)]
  split
  ·have:x≠n:=by rintro rfl;exact h v bE
   simp[this]
  ·rfl
theorem J3 {kindOf:Str->Option NameKind}{x:Str}:∀{binds:List (Str × Value)} {m:Str->Option Value},(∀v,(x,v)∉binds)->bindC kindOf binds m x=m x
 | [],_,_=>rfl
 | (n,v)::r,m,h=>by
  unfold bindC;rw[J3 λw hw=>h w (bb _ hw)]
  split
  ·rfl
  ·have:x≠n:=by rintro rfl;exact h v bE
   simp[this]
theorem J4 {kindOf:Str->Option NameKind}{x:Str}{v:Value}:∀{P:List Str} {vs:List Value} {i:Nat} {m:Str->Option Value},P.Nodup->P[i]?=some x->vs[i]?=some v->kindOf x=some .local->
  bindL kindOf (P.zip vs) m x=some v
 | [],_,_,_,_,h,_,_=>by simp at h
 | _::_,[],_,_,_,_,h,_=>by simp at h
 | p::P,w::vs,0,m,nd,h1,h2,hk=>by
  simp at h1 h2;subst h1;subst h2;show bindL kindOf ((p,w)::P.zip vs) m p=_;unfold bindL;rw[J2 λv hv=>(eR.mp nd).1 (me hv).1,if_pos hk];simp
 | p::P,w::vs,i+1,m,nd,h1,h2,hk=>by
  show bindL kindOf ((p,w)::P.zip vs) m x=_;unfold bindL;exact J4 (i:=i) (eR.mp nd).2 (by simpa using h1) (by simpa using h2) hk
theorem J5 {kindOf:Str->Option NameKind}{x:Str}{v:Value}:∀{P:List Str} {vs:List Value} {i:Nat} {m:Str->Option Value},P.Nodup->P[i]?=some x->vs[i]?=some v->kindOf x≠some .local->
  bindC kindOf (P.zip vs) m x=some v
 | [],_,_,_,_,h,_,_=>by simp at h
 | _::_,[],_,_,_,_,h,_=>by simp at h
 | p::P,w::vs,0,m,nd,h1,h2,hk=>by
  simp at h1 h2;subst h1;subst h2;show bindC kindOf ((p,w)::P.zip vs) m p=_;unfold bindC;rw[J3 λv hv=>(eR.mp nd).1 (me hv).1,if_neg hk];simp
 | p::P,w::vs,i+1,m,nd,h1,h2,hk=>by
  show bindC kindOf ((p,w)::P.zip vs) m x=_;unfold bindC;exact J5 (i:=i) (eR.mp nd).2 (by simpa using h1) (by simpa using h2) hk
def start (N:List Str)(vs:List V):St:=vs.map some++List.replicate (N.length-vs.length) none
def qb (CX:nD)(P:Program)(w:World)(K:W.Frag)(mg:Str->Option Value)(base:Heap)(N:List Str)(qual:Str)(scope:Scope)(f:Addr)(cd:Value)(A:Around)(outer:List Env)(s:Shared)(H:Hp)(E:XK):Cx where
 prog:=P
 w:=w
 K:=K
 mg:=mg
 base:=base
 A:=A.deeper (envOfC qual scope s.heap.objs.size f cd)
 N:=N
 s₀:=s
 H₀:=H
 env:=envOfC qual scope s.heap.objs.size f cd
 outer:=outer
 stack:=envOfC qual scope s.heap.objs.size f cd::outer
 ex:=[]
 calm:=true
 fn:=λ_=>true
 pn:=[]
 xe:=λe s'=>wpAny (model P w) (A.deeper (envOfC qual scope s.heap.objs.size f cd)) (leaving (envOfC qual scope s.heap.objs.size f cd) e) (λ_ s''=>CX outer H s E e s'') (λe' s''=>CX outer H s E e' s'') s'
theorem M6 {sc:Scope}{n:Nat}{x:Str}(h:sc.names.lookup x=some .cell):∃c,(cellsFrom n sc.names []).lookup x=some c:=by
 have q:=W.cellsFrom_some sc.names n [] (.inl h);exact gy.mp q
theorem Wj {CX:nD}{P:Program}{w:World}{K:W.Frag}{mg:Str->Option Value}{base:Heap}{N ps:List Str}{qual:Str}{scope:Scope}{f:Addr}{cd:Value}{A:Around}{outer:List Env}{s s1:Shared}{H:Hp}{E:XK}{us:List Value}{vs:List V}
  (S:bh N ps scope) (hd:A.handled=none) (e0:En P w K mg base A outer s H) (hl:vs.length=ps.length) (r:Vals vs us)
  (x:InCallC s s.heap.objs.size (bindL (envOfC qual scope s.heap.objs.size f cd).kindOf (ps.zip us) λ_=>none) (cellsFrom (s.heap.objs.size+1) scope.names []) (bindC (envOfC qual scope s.heap.objs.size f cd).kindOf (ps.zip us) λ_=>none) s1) :
  aL (qb CX P w K mg base N qual scope f cd A outer s H E) [] (start N vs) H s1:=by
 have hpl:ps.length<=N.length:=by have:=congrArg List.length S.pre;rw[ay]at this;lia
 obtain⟨h1,tk,rfl,hk⟩:=x.done;have Wk:∀b:Addr,b∉(qb CX P w K mg base N qual scope f cd A outer s H E).ex:=λb z=>absurd (show b∈([]:List Addr) from z) (by simp);refine⟨⟨e0.mod,S.kind,rfl,rfl,al _,λy z c h1 h2=>?_,λy hy=>?_,λy c _ h=>?_,λ_=>hd,Around.frames_deeper e0.frames,.inr ⟨rfl,rfl⟩,λb z=>absurd z (Wk b),e0.bs,e0.rY,λb _ _=>Wk b,λb z=>absurd z (Wk b),e0.mZ,e0.z_⟩,
  rfl,e0.bare,Un.kept hk,⟨_,x.toInCall.ns,λi y v h1 h2 h3=>?_⟩,λy c h=>⟨_,x.cell y c h⟩,e0.hok.fresh (al _),λy c h=>?_,λp hp=>absurd (show p∈([]:AC) from hp) (by simp),e0.hok.kept hk,?_⟩
 ·exact name_of_addr x.apart (gN h1) (gN h2)
 ·have hy:scope.names.lookup y=some .cell\/scope.names.lookup y=some .free:=hy
  rcases hy with hy | hy
  ·exact M6 hy
  ·exact absurd rfl (S.aeU _ (gN hy))
 ·exact aE (x.above y c (gN h))
 ·have hi:i < vs.length:=by
   unfold start at h2;by_cases hi:i < vs.length
   ·exact hi
   ·rw[ck (by simpa using hi)]at h2
    rw[i8]at h2
    split at h2 <;> cases h2
  have ha:vs[i]?=some v:=by
   unfold start at h2;rw[cy (by simpa using hi),aS]at h2;cases e:vs[i]? with
   | none=>rw[e]at h2;cases h2
   | some a=>rw[e]at h2;cases h2;rfl
  obtain⟨u,hu,rv⟩:=r.get ha;have hp:ps[i]?=some y:=by
   rw[<- S.pre,iO (by lia)];exact h1
  have ndP:ps.Nodup:=by rw[<- S.pre];exact S.nd.sublist (List.take_sublist _ _)
  refine⟨u,rv,?_⟩;rcases S.par y (bc hp) with k | k
  ·exact .inl ⟨k,J4 ndP hp hu k⟩
  ·obtain⟨c,e⟩:=M6 (n:=s.heap.objs.size+1) k
   refine .inr ⟨.inl k,c,e,?_⟩;have q:=x.cell y c e;rw[J5 ndP hp hu (by show scope.names.lookup y≠_;rw[k];decide)]at q;exact q
 ·exact e0.hok.fresh (aE (x.above y c (gN h)))
 ·unfold start
  show _=N.length;rw[a_,aa,b7];lia
theorem abR {CX:nD}{P:Program}{w:World}{K:W.Frag}{mg:Str->Option Value}{base:Heap}{k:Nat}{f:Addr}{name qual:Str}{params:Arguments}{body:List Stmt}{scope:Scope}{dV kV doc pm bL ct oc:Value}{an od:Option Addr}
  {osl:Array (Option Value)} {N ps:List Str} {sp:Sp} (lk:K.lookup f=some ⟨oc,od,.func (W.fnOf name qual params body scope dV kV doc pm an bL ct),osl⟩) (hcd:W.codeIn K bL qual=true) (S:bh N ps scope)
  (len:∀vs H Q E,sp vs H Q E->vs.length=ps.length)
  (hbody:∀(A:Around) (outer:List Env) (s:Shared) (H:Hp) (vs:List V) (Q:VK) (E:XK),dX k (A.deeper (envOfC qual scope s.heap.objs.size f bL))->sp vs H Q E->
   ∃t,su (qb CX P w K mg base N qual scope f bL A outer s H E) body t/\t { nx:=λ_ H'=>Q .non H',rt:=Q } (start N vs) H) :
  cP P w K mg base CX (k+1) f (W.fnOf name qual params body scope dV kV doc pm an bL ct) ps sp:=by
 refine⟨len,λA outer s H args us vs Q E hr e0 hb r hsp=>?_⟩;have hl:=len _ _ _ _ hsp;have KX:K.In s.heap:=e0.mod.Gm.keeps λb o e=>(e0.bs b o e).1;have lim:s.heap.NoLimit:=e0.mod.nolimit.keeps λb o e=>(e0.bs b o e).1;have hkind:∀y∈ps.zip us,scope.names.lookup y.1=some .local\/(scope.names.lookup y.1=some .cell/\((cellsFrom (s.heap.objs.size+1) scope.names []).lookup y.1).isSome=true):=λ⟨n,v⟩ hy=>by
  rcases S.par n (me hy).1 with q | q
  ·exact .inl q
  ·exact .inr ⟨q,W.cellsFrom_some _ _ _ (.inl q)⟩
 refine codeAny_call_function hr.depth (KX _ _ lk) rfl S.co S.gen rfl (W.codeRec_of KX hcd) (hb _ _ _ _ ?_);refine wpAny_newFunctionEnv_cells S.kind hkind λenv he s1 x=>?_;subst he;refine⟨lim.keeps x.toInCall.keep,codeAny_func ?_⟩;obtain⟨t,ht,hq⟩:=hbody A outer s H vs Q E (hr.deeper _) hsp;have I:aL (qb CX P w K mg base N qual scope f bL A outer s H E) [] (start N vs) H s1:=Wj S hr.hd e0 hl r x;refine dl (ht [] s1 (start N vs) H _ I hq) (λfl s' hs=>?_) λe s' hs=>hs;have fin:∀{σ':St} {H':Hp} {v:V} {u:Value},aL (qb CX P w K mg base N qual scope f bL A outer s H E) [] σ' H' s'->cu v u->Q v H'->CE outer P w H s Q u s':=
  λ{σ' H' v u} J rv q=>⟨v,H',J.os,J.bare,J.base,J.hok,rv,q⟩
 cases fl with
 | ret u=>
  obtain⟨v,σ',H',J,rv,q⟩:=hs;exact fin J rv q
 | next=>
  obtain⟨σ',H',J,q⟩:=hs;exact fin (v:=V.non) (u:=Value.none) J rfl q
 | brk=>
  obtain⟨_,_,_,q⟩:=hs;exact False.elim q
 | cont=>
  obtain⟨_,_,_,q⟩:=hs;exact False.elim q
section
variable {X:Cx}{x:Str}{p pos:Pos}{e:Expr}{es:List Expr}{t:TA}{id T:String}{r:List V->Hp->VK->Prop}
def M7 (r:List V->Hp->VK->Prop)(t:TA):TE:=λσ H Q=>t σ H λvs H1=>r vs H1 Q
theorem ZM (hc:gb X (.builtin id) r)(hg:Gl X x)(hm:X.mg x=none)(hv:bootBuiltins x=some (.builtin id))(ha:PA X (e::es) t)(hn:x≠"__name__":=by decide)(hdb:(x==("__debug__":Str))=false:=by decide)
  (he:starEach (e::es) X.env=(false,eval e X.env)::starEach es X.env:=by rfl) (hpl:(backTo pos (starEach es X.env)).any (·.1)=false:=by rfl):PE X (.Call (.Name x p) (e::es) [] pos) (M7 r t):=by
 intro ao s σ H Q I h;refine fS (wZ I hg hm hv ?_ hn hdb);exact ku (bN (ha pos ao s σ H _ I h) λus s1 ⟨vs,H1,I1,r1,q1⟩=>hc ao s1 σ H1 vs us Q I1 r1 q1) he hpl
theorem Wm (hc:gb X (.type T) r)(hg:Gl X x)(hm:X.mg x=none)(hv:bootBuiltins x=some (.type T))(ha:PA X (e::es) t)(hn:x≠"__name__":=by decide)(hdb:(x==("__debug__":Str))=false:=by decide)
  (he:starEach (e::es) X.env=(false,eval e X.env)::starEach es X.env:=by rfl) (hpl:(backTo pos (starEach es X.env)).any (·.1)=false:=by rfl):PE X (.Call (.Name x p) (e::es) [] pos) (M7 r t):=by
 intro ao s σ H Q I h;refine fS (wZ I hg hm hv ?_ hn hdb);exact fR (bN (ha pos ao s σ H _ I h) λus s1 ⟨vs,H1,I1,r1,q1⟩=>hc ao s1 σ H1 vs us Q I1 r1 q1) he hpl
end
end L2
namespace HT
open PySem PyProof.Rows
section
def gO (n d:Nat):Option Int->Nat
 | none=>d
 | some v=>if v < 0 then (v+(n:Int)).toNat else min v.toNat n
theorem uh (n d:Nat):gO n d none=d:=rfl
theorem qe (n d k:Nat):gO n d (some (k:Int))=min k n:=by
 show (if (k:Int) < 0 then ((k:Int)+(n:Int)).toNat else min (k:Int).toNat n)=min k n;rw[if_neg (by lia),c6]
theorem aeV (n d:Nat)(hd:d<=n)(o:Option Int):gO n d o<=n:=by
 cases o with
 | none=>exact hd
 | some v=>
  show (if v < 0 then (v+(n:Int)).toNat else min v.toNat n)<=n;by_cases hv:v < 0
  ·rw[if_pos hv];lia
  ·rw[if_neg hv];exact lL _ _
theorem acI (v:Int)(n d:Nat):(if v < 0 then max (v+(n:Int)) 0 else min v (n:Int))=((gO n d (some v):Nat):Int):=by
 show (if v < 0 then max (v+(n:Int)) 0 else min v (n:Int))=(((if v < 0 then (v+(n:Int)).toNat else min v.toNat n):Nat):Int)
 by_cases hv:v < 0
 ·simp only[if_pos hv];lia
 ·simp only[if_neg hv];lia
end
end HT
namespace L2
open PySem PySem.Spec PyProof.Rows
abbrev TO:=St->Hp->(Option Int->Hp->Prop)->Prop
def PO (X:Cx)(e:Option Expr)(t:TO):Prop:=
 ∀(ao:AC) (s:Shared) (σ:St) (H:Hp) (Q:Option Int->Hp->Prop),aL X ao σ H s->t σ H Q->
  wpAny (model X.prog X.w) X.A (evalPart e X.env) (λu s'=>∃o H',aL X ao σ H' s'/\IsPart u o/\Q o H') X.xe s
def Rx:TO:=λ_ H Q=>Q none H
def abS (t:TE):TO:=λσ H Q=>t σ H λx H1=>∃i,x=.int i/\Q (some i) H1
section
variable {X:Cx}{e:Expr}{te:TE}{lo hi:Option Expr}{tl th:TO}{pos p2:Pos}
theorem acJ:PO X none Rx:=by
 intro ao s σ H Q I h;rw[evalPart_none];exact am ⟨none,H,I,.none,h⟩
theorem acK (h:PE X e te):PO X (some e) (abS te):=by
 intro ao s σ H Q I hw;rw[evalPart_some];refine bN (h ao s σ H _ I hw) λu s1 zz=>?_;obtain⟨x,H1,I1,r1,q1⟩:=zz;obtain⟨i,rfl,q⟩:=q1;obtain⟨t,rfl⟩:=r1;exact⟨some i,H1,I1,.int i t,q⟩
def SlR (X:Cx)(r:V->Option Int->Option Int->Hp->VK->Prop):Prop:=
 ∀(ao:AC) (s:Shared) (σ:St) (H:Hp) (x:V) (v vl vu:Value) (lo hi:Option Int) (sl:Addr) (Q:VK),aL X ao σ H s->cu x v->s.heap.IsSliceOf sl vl vu .none->IsPart vl lo->IsPart vu hi->r x lo hi H Q->
  ∃T id,typeLookup (.type T) "__getitem__"=pure (some (.builtin id))/\s.TypeIs v T/\wpAny (model X.prog X.w) X.A (getItem v (.ref sl)) (EP X ao σ Q) X.xe s
def tSl (r:V->Option Int->Option Int->Hp->VK->Prop)(te:TE)(tl th:TO):TE:=λσ H Q=>te σ H λx H1=>tl σ H1 λl H2=>th σ H2 λu H3=>r x l u H3 Q
theorem ZP {r:V->Option Int->Option Int->Hp->VK->Prop}(hr:SlR X r)(he:PE X e te)(hl:PO X lo tl)(hu:PO X hi th):PE X (.Subscript e (.Slice lo hi none p2) pos) (tSl r te tl th):=by
 intro ao s σ H Q I h;refine Subscript_ (bN (he ao s σ H _ I h) λv s1 zz=>?_);obtain⟨x,H1,I1,r1,q1⟩:=zz;refine wpAny_Slice (bN (hl ao s1 σ H1 _ I1 q1) λvl s2 zz=>?_);obtain⟨l,H2,I2,pl,q2⟩:=zz;refine bN (hu ao s2 σ H2 _ I2 q2) λvu s3 zz=>?_;obtain⟨u,H3,I3,pu,q3⟩:=zz;rw[evalPart_none];refine am ?_;have I4:aL X ao σ H3 { s3 with heap:=s3.heap.push { cls:=.type "slice",data:=.fields #[vl,vu,.none] } }:=I3.kept (t':=s3.toks) λb ob q=>ag _ q;obtain⟨T,id,hT,ht,hg⟩:=hr ao { s3 with heap:=s3.heap.push { cls:=.type "slice",data:=.fields #[vl,vu,.none] } } σ H3 x v vl vu l u s3.heap.objs.size Q I4 r1 (Heap.IsSliceOf.new ..) pl pu q3;show wpAny (model X.prog X.w) X.A (subscriptTail e (.Slice lo hi none p2) v (.ref s3.heap.objs.size)) (EP X ao σ Q) X.xe { s3 with heap:=s3.heap.push { cls:=.type "slice",data:=.fields #[vl,vu,.none] } };exact tail_any (ops:=[.ref s3.heap.objs.size,v]) ht hT hg (by with_unfolding_all rfl)
def n6 (xs:List V)(lo hi:Option Int):List V:=(xs.drop (HT.gO xs.length 0 lo)).take (HT.gO xs.length xs.length hi-HT.gO xs.length 0 lo)
theorem QK (xs:List V)(lo hi:Option Int):(n6 xs lo hi).length<=xs.length:=by
 unfold n6;rw[ay,bt];lia
end
def u0 (n:Nat)(i:Int):Option Nat:=if 0<=i then (if i < n then some i.toNat else none) else if -(n:Int)<=i then some (i+n).toNat else none
def oE {α:Type}(xs:List α)(i:Int):Option α:=(u0 xs.length i).bind λj=>xs[j]?
theorem Ry {n:Nat}{i:Int}{j:Nat}(h:u0 n i=some j):seqIndex? i n=some j/\j < n/\-(n:Int)<=i/\i < n:=by
 unfold u0 at h;by_cases h0:0<=i
 ·rw[if_pos h0]at h
  by_cases h1:i < n
  ·rw[if_pos h1]at h
   have e:i.toNat=j:=ap h;exact⟨by rw[seqIndex_of h0 h1,e],by lia,by lia,h1⟩
  ·rw[if_neg h1]at h;cases h
 ·rw[if_neg h0]at h
  by_cases h1:-(n:Int)<=i
  ·rw[if_pos h1]at h
   have e:(i+n).toNat=j:=ap h;exact⟨by rw[seqIndex_neg (by lia) h1,e],by lia,h1,by lia⟩
  ·rw[if_neg h1]at h;cases h
theorem Ik {α:Type}{xs:List α}{i:Int}{v:α}(h:oE xs i=some v):∃j,seqIndex? i xs.length=some j/\xs[j]?=some v/\j < xs.length/\-(xs.length:Int)<=i/\i < xs.length:=by
 unfold oE at h;cases e:u0 xs.length i with
 | none=>rw[e]at h;cases h
 | some j=>
  rw[e]at h;obtain⟨h1,h2,h3,h4⟩:=Ry e;exact⟨j,h1,h,h2,h3,h4⟩
theorem aG {α:Type}{xs:List α}{j:Nat}{v:α}(h:xs[j]?=some v):oE xs (j:Int)=some v:=by
 have hj:j < xs.length:=(af.mp h).1;have e:u0 xs.length (j:Int)=some j:=by
  unfold u0;rw[if_pos (by lia),if_pos (by lia)];simp
 unfold oE;rw[e];exact h
theorem ZQ {α:Type}(xs:List α)(v:α):oE (xs++[v]) (-1)=some v:=by
 have hl:(xs++[v]).length=xs.length+1:=by simp
 have e:u0 (xs++[v]).length (-1)=some xs.length:=by
  unfold u0;rw[hl,if_neg (by decide),if_pos (by lia)];congr 1;lia
 unfold oE;rw[e];show (xs++[v])[xs.length]?=some v;simp
def Rz (b:Expr):Prop:=∀o i,subscripted b false o i=operate [o,i] (getItem o i)
def M8 (X:Cx)(r:R2):Prop:=
 ∀(value slice:Expr) (ao:AC) (s:Shared) (σ:St) (H:Hp) (x y:V) (v u:Value) (Q:VK),aL X ao σ H s->cu x v->cu y u->r x y H Q->
  subscripted slice false v u=operate [v,u] (getItem v u)->wpAny (model X.prog X.w) X.A (subscriptTail value slice v u) (EP X ao σ Q) X.xe s
def w6 (X:Cx)(id:String)(r:V->List V->Hp->VK->Prop):Prop:=
 ∀(ao:AC) (s:Shared) (σ:St) (H:Hp) (x:V) (xs:List V) (v:Value) (us:List Value) (Q:VK),aL X ao σ H s->cu x v->Vals xs us->r x xs H Q->
  wpAny (model X.prog X.w) X.A (call (.builtin id) (v::us)) (EP X ao σ Q) X.xe s
section
variable {X:Cx}{a b:Expr}{ta tb:TE}{pos:Pos}
theorem agG {r:R2}(hr:M8 X r)(ha:PE X a ta)(hb:PE X b tb)(hs:Rz b):PE X (.Subscript a b pos) (sy r ta tb):=by
 intro ao s σ H Q I h;exact Subscript_ (Zz ha hb I h λv u s2 x y H2 I2 rx ry q=>hr a b ao s2 σ H2 x y v u Q I2 rx ry q (hs _ _))
def aeW (K:W.Frag):R2:=λx y H Q=>∃p xs i v,x=.ref p/\y=.int i/\aU K H p xs/\oE xs i=some v/\Q v H
def M9 (K:W.Frag):R2:=λx y H Q=>∃p xs i v,x=.ref p/\y=.int i/\aM K H p xs/\oE xs i=some v/\Q v H
def ahe:R2:=λx y H Q=>∃z i c,x=.str z/\y=.int i/\z.length<=sizeLine/\oE z.cps.toList i=some c/\Q (.str ⟨#[c]⟩) H
theorem dB:M8 X (aeW X.K):=by
 intro value slice ao s σ H x y v u Q I rx ry h hs;obtain⟨p,xs,i,z,rfl,rfl,hq,he,q⟩:=h;cases rx;obtain⟨t,rfl⟩:=ry;obtain⟨its,r,pl,hz⟩:=I.list hq;obtain⟨j,h1,h2,h3,h4,h5⟩:=Ik he;obtain⟨w,ew,Ab⟩:=r.get h2;have hl:=r.length;have hn:=w5;have fin:EP X ao σ Q w s:=⟨z,H,I,Ab,q⟩
 by_cases h0:0<=i
 ·have hj:i.toNat=j:=by
   rw[seqIndex_of h0 h5]at h1;exact ap h1
  exact item_listR pl.isList h0 (by lia) (by rw[hj];simpa using ew) fin hs
 ·have hj:(i+(its.toArray.size:Int)).toNat=j:=by
   rw[seqIndex_neg (by lia) h4]at h1;rw[a9,<- hl];exact ap h1
  exact subscriptTail_builtinR (x:=w) pl.isList.typeIs slot_list_getitem.lookup
   (wpAny_getItem_list_neg (Q:=λr s'=>r=w/\EP X ao σ Q r s') pl.isList (by lia) (by rw[a9] <;> lia) (by lia) (by rw[hj];simpa using ew) ⟨rfl,fin⟩) hs
theorem bf:M8 X (M9 X.K):=by
 intro value slice ao s σ H x y v u Q I rx ry h hs;obtain⟨p,xs,i,z,rfl,rfl,hq,he,q⟩:=h;cases rx;obtain⟨t,rfl⟩:=ry;obtain⟨its,r,pl,hz⟩:=I.tuple hq;obtain⟨j,h1,h2,h3,h4,h5⟩:=Ik he;obtain⟨w,ew,Ab⟩:=r.get h2;have hl:=r.length;have hn:=w5;have fin:EP X ao σ Q w s:=⟨z,H,I,Ab,q⟩
 exact subscriptTail_builtinR (x:=w) pl.typeIs slot_tuple_getitem.lookup
  (getItem_tuple (j:=j) (Q:=λr s'=>r=w/\EP X ao σ Q r s') pl (by lia) (by lia) (by rw[a9,<- hl];exact h1) (by simpa using ew) ⟨rfl,fin⟩) hs
theorem aeX:M8 X ahe:=by
 intro value slice ao s σ H x y v u Q I rx ry h hs;obtain⟨z,i,c,rfl,rfl,hz,he,q⟩:=h;obtain⟨t,rfl⟩:=rx;obtain⟨t',rfl⟩:=ry;obtain⟨j,h1,h2,h3,h4,h5⟩:=Ik he;have hl:z.cps.toList.length=z.length:=by simp[Str.length]
 rw[hl]at h1 h4 h5;have hn:=w5;exact tail_any (typeIs_str s z t) slot_str_getitem.lookup (getItem_str (c:=c) (by
  have e1:decide (i < -(2^63:Int))=false:=ae (by lia);have e2:decide (i>=2^63)=false:=ae (by lia);rw[e1,e2,Bool.or_false]) (by rw[h1];simpa using h2) ⟨.str ⟨#[c]⟩,H,I.tok _,⟨_,rfl⟩,q⟩) hs
theorem T4 (its:List Value)(n j:Nat)(u:Value):Obj.mapSeq (·.setIfInBounds j u) { cls:=.type "list",data:=.seq its.toArray n }={ cls:=.type "list",data:=.seq (its.set j u).toArray n }:=by
 simp[Obj.mapSeq]
theorem aL.lst {ao:AC}{σ:St}{H:Hp}{s:Shared}{p:Addr}{xs:List V}(I:aL X ao σ H s)(h:H p=some (.lst xs)) :
  ∃(its:List Value) (n:Nat),Vals xs its/\s.heap.get? p=some { cls:=.type "list",data:=.seq its.toArray n }/\xs.length<=sizeLine:=by
 obtain⟨z,its,n,r,e⟩:=I.hok p _ h;exact⟨its,n,r,e,z⟩
theorem aL.aeY {ao:AC}{σ:St}{H:Hp}{s:Shared}{p:Addr}{xs ys:List V}{its its':List Value}{n n':Nat}{f:Obj->Obj}(I:aL X ao σ H s)(h:H p=some (.lst xs))
  (ho:s.heap.get? p=some { cls:=.type "list",data:=.seq its.toArray n }) (hf:f { cls:=.type "list",data:=.seq its.toArray n }={ cls:=.type "list",data:=.seq its'.toArray n' }) (r:Vals ys its') (hz:ys.length<=sizeLine) (t:Nat) :
  aL X ao σ (upd H p (.lst ys)) { s with heap:=s.heap.update p f,toks:=t }:=by
 have e:(s.heap.update p f).get? p=some { cls:=.type "list",data:=.seq its'.toArray n' }:=by
  rw[fk f ho (by rw[hf] <;> rfl),hf]
 refine I.write (x:=p) (e:=p) (by rw[h];trivial) (.inl rfl) (λb u hb q=>(d6 _ _ (fz hb)).trans q) ⟨_,e⟩ ?_;exact⟨hz,its',n',r,e⟩
def agH:V->V->V->Hp->(Hp->Prop)->Prop:=λo i v H Q=>∃p xs k j,o=.ref p/\i=.int k/\H p=some (.lst xs)/\u0 xs.length k=some j/\Q (upd H p (.lst (xs.set j v)))
theorem set_list:Zx X agH:=by
 intro ao s σ H o i v ov iv u Q I ro ri rv h;obtain⟨p,xs,k,j,rfl,rfl,hp,hj,q⟩:=h;cases ro;obtain⟨t,rfl⟩:=ri;obtain⟨its,n,r,ho,hz⟩:=I.lst hp;obtain⟨h1,h2,h3,h4⟩:=Ry hj;have hl:=r.length;have hn:=w5;have I':aL X ao σ (upd H p (.lst (xs.set j v))) { s with heap:=s.heap.update p (Obj.mapSeq (·.setIfInBounds j u)) }:=
  I.aeY hp ho (T4 its n j u) (r.set rv j) (by rw[dP];exact hz) s.toks
 by_cases h0:0<=k
 ·have hk:k.toNat=j:=by
   rw[seqIndex_of h0 h4]at h1;exact ap h1
  exact W.ki_setAt ho h0 (by lia) (by rw[a9,<- hl];exact h4) (by rw[hk];exact⟨_,I',q⟩)
 ·have hk:(k+(its.toArray.size:Int)).toNat=j:=by
   rw[seqIndex_neg (by lia) h3]at h1;rw[a9,<- hl];exact ap h1
  exact W.ki_setBack ho (by lia) (by rw[a9,<- hl];exact h3) (by lia) (by rw[hk];exact⟨_,I',q⟩)
theorem M_ (lo hi:Option Int)(n:Nat):(sliceBounds lo hi none n).1=((HT.gO n 0 lo:Nat):Int)/\(sliceBounds lo hi none n).2.1=((HT.gO n n hi:Nat):Int)/\(sliceBounds lo hi none n).2.2=1:=by
 refine⟨?_,?_,rfl⟩
 ·cases lo with
  | none=>simp[sliceBounds,HT.gO]
  | some i=>
   simp only[sliceBounds,HT.gO,Option.getD_none,show (1:Int) > 0 by decide,if_true];by_cases h:i < 0
   ·simp only[h,if_true] <;> lia
   ·simp only[h,if_false] <;> lia
 ·cases hi with
  | none=>simp[sliceBounds,HT.gO]
  | some i=>
   simp only[sliceBounds,HT.gO,Option.getD_none,show (1:Int) > 0 by decide,if_true];by_cases h:i < 0
   ·simp only[h,if_true] <;> lia
   ·simp only[h,if_false] <;> lia
theorem Lh (its:List Value)(lo hi:Option Int):slicePick its.toArray lo hi none=((its.drop (HT.gO its.length 0 lo)).take (HT.gO its.length its.length hi-HT.gO its.length 0 lo)).toArray:=by
 obtain⟨h1,h2,h3⟩:=M_ lo hi its.toArray.size;unfold slicePick;rw[h1,h2,h3];simp only[sliceRange_one,pick_run,a9] <;> rfl
def ahf (K:W.Frag):V->Option Int->Option Int->Hp->VK->Prop:=λx lo hi H Q=>∃a xs,x=.ref a/\aU K H a xs/\∀p,H p=none->Q (.ref p) (upd H p (.lst (n6 xs lo hi)))
theorem xg:SlR X (ahf X.K):=by
 intro ao s σ H x v vl vu lo hi sl Q I rx hs pl pu h;obtain⟨a,xs,rfl,hx,q⟩:=h;cases rx;obtain⟨its,r,ht,hz⟩:=I.list hx;have cA:=r.length;refine⟨"list",_,slot_list_getitem.lookup,ht.isList.typeIs,?_⟩;refine wpAny_getItem_list_slice ht.isList hs pl pu .none (by simp) ?_ (by rw[a9] <;> lia);rw[Lh,<- cA];refine⟨.ref s.heap.objs.size,_,I.laid (t':=s.toks) (o:=.lst (n6 xs lo hi)) (λb ob q=>ag _ q) (al _) ?_,rfl,q _ (I.hok.fresh (al _))⟩;exact⟨b9 (QK xs lo hi) hz,_,0,(r.drop (HT.gO xs.length 0 lo)).take (HT.gO xs.length xs.length hi-HT.gO xs.length 0 lo),aT _ rfl⟩
def sS:V->Bool
 | .non=>true
 | .bl _=>true
 | .int _=>true
 | .str _=>true
 | _=>false
def DW:V->V->Bool
 | .non,.non=>true
 | .bl a,.bl b=>a==b
 | .bl a,.int b=>(if a then 1 else 0)==b
 | .int a,.bl b=>a==(if b then 1 else 0)
 | .int a,.int b=>a==b
 | .str a,.str b=>a==b
 | _,_=>false
theorem aeZ {A:Around}{s:Shared}{y x:V}{u v:Value}(ry:cu y u)(rx:cu x v)(fy:sS y=true)(fx:sS x=true):SeqAt.EqAt A s u v (DW y x):=by
 cases y with
 | non=>
  cases ry;cases x with
  | non=>cases rx;exact SeqAt.EqAt.same _
  | bl b=>cases rx;exact SeqAt.EqAt.none_bool b
  | int b=>obtain⟨t,rfl⟩:=rx;exact SeqAt.EqAt.none_int b t
  | str b=>obtain⟨t,rfl⟩:=rx;exact SeqAt.EqAt.none_str b t
  | _=>exact absurd (show false=true from fx) ba
 | bl a=>
  cases ry;cases x with
  | non=>cases rx;exact SeqAt.EqAt.bool_none a
  | bl b=>cases rx;exact SeqAt.EqAt.bool_bool a b
  | int b=>obtain⟨t,rfl⟩:=rx;exact SeqAt.EqAt.bool_int a b t
  | str b=>obtain⟨t,rfl⟩:=rx;exact SeqAt.EqAt.bool_str a b t
  | _=>exact absurd (show false=true from fx) ba
 | int a=>
  obtain⟨t',rfl⟩:=ry;cases x with
  | non=>cases rx;exact SeqAt.EqAt.int_none a t'
  | bl b=>cases rx;exact SeqAt.EqAt.int_bool a t' b
  | int b=>obtain⟨t,rfl⟩:=rx;exact fm a t' b t
  | str b=>obtain⟨t,rfl⟩:=rx;exact SeqAt.EqAt.int_str a t' b t
  | _=>exact absurd (show false=true from fx) ba
 | str a=>
  obtain⟨t',rfl⟩:=ry;cases x with
  | non=>cases rx;exact SeqAt.EqAt.str_none a t'
  | bl b=>cases rx;exact SeqAt.EqAt.str_bool a t' b
  | int b=>obtain⟨t,rfl⟩:=rx;exact SeqAt.EqAt.str_int a t' b t
  | str b=>obtain⟨t,rfl⟩:=rx;exact SeqAt.EqAt.str_str a t' b t
  | _=>exact absurd (show false=true from fx) ba
 | _=>exact absurd (show false=true from fy) ba
def Gu (x:V)(u:Value):Bool:=match u with
 | .none=>DW .non x
 | .bool b=>DW (.bl b) x
 | .int i _=>DW (.int i) x
 | .str z _=>DW (.str z) x
 | _=>false
theorem Wn {x y:V}{u:Value}(r:cu y u)(f:sS y=true):Gu x u=DW y x:=by
 cases y with
 | non=>cases r;rfl
 | bl b=>cases r;rfl
 | int i=>obtain⟨t,rfl⟩:=r;rfl
 | str z=>obtain⟨t,rfl⟩:=r;rfl
 | _=>exact absurd (show false=true from f) ba
theorem Il {x:V}:∀{xs:List V} {us:List Value},Vals xs us->xs.all sS=true->us.any (Gu x)=xs.any λy=>DW y x
 | _,_,.nil,_=>rfl
 | y::xs,u::us,.cons r t,f=>by
  rw[List.all_cons,ce]at f;rw[hJ,hJ,Wn r f.1,Il t f.2]
theorem Eo {A:Around}{s:Shared}{x:V}{v:Value}(rx:cu x v)(fx:sS x=true):∀{xs:List V} {us:List Value},Vals xs us->xs.all sS=true->∀u∈us,SeqAt.EqAt A s u v (Gu x u)
 | _,_,.nil,_=>λu hu=>by cases hu
 | y::xs,u::us,.cons r t,f=>λu' hu=>by
  rw[List.all_cons,ce]at f;rcases bq.mp hu with rfl | hu
  ·rw[Wn r f.1];exact aeZ r rx f.1 fx
  ·exact Eo rx fx t f.2 u' hu
def inV (x:V)(xs:List V):Bool:=xs.any λy=>DW y x
def rIn (K:W.Frag)(neg:Bool):R2:=λx y H Q=>∃p xs,y=.ref p/\(aU K H p xs\/aM K H p xs)/\sS x=true/\xs.all sS=true/\Q (.bl (if neg then !inV x xs else inV x xs)) H
theorem oX:fj X (compareOp .NotIn) (rIn X.K true):=by
 intro ao s σ H x y v u Q I rx ry h;obtain⟨p,xs,rfl,hq,fx,fs,q⟩:=h;cases ry;rcases hq with hq | hq
 ·obtain⟨its,r,pl,hz⟩:=I.list hq
  refine SeqAt.notIn_listAt (Gu x) pl.isList (λw hw=>Eo rx fx r fs w (by simpa using hw)) ⟨.bl _,H,I,rfl,?_⟩;rw[show its.toArray.any (Gu x)=its.any (Gu x) by simp,Il r fs];exact q
 ·obtain⟨its,r,pl,hz⟩:=I.tuple hq
  refine SeqAt.notIn_tupleAt (Gu x) pl (λw hw=>Eo rx fx r fs w (by simpa using hw)) ⟨.bl _,H,I,rfl,?_⟩;rw[show its.toArray.any (Gu x)=its.any (Gu x) by simp,Il r fs];exact q
theorem Nb:fj X (compareOp .NotIn) (λx y H Q=>∃i j,x=.str i/\y=.str j/\Q (.bl (!(!(Builtin.Str.occurrences j i 0 j.length 1).isEmpty))) H):=by
 intro ao s σ H x y v u Q I rx ry h;obtain⟨i,j,rfl,rfl,q⟩:=h;obtain⟨t,rfl⟩:=rx;obtain⟨t',rfl⟩:=ry;exact notIn_str ⟨.bl _,H,I,rfl,q⟩
theorem bQ:gb X (.builtin "len") (λxs H Q=>∃p ys,xs=[.ref p]/\(aU X.K H p ys\/aM X.K H p ys)/\Q (.int ys.length) H):=by
 intro ao s σ H xs us Q I r h;obtain⟨p,ys,rfl,hq,q⟩:=h;obtain⟨u,rfl,rx⟩:=vals1 r;cases rx;have hn:=w5;rcases hq with hq | hq
 ·obtain⟨its,r',pl,hz⟩:=I.list hq
  have cA:=r'.length;exact Calls.call_len_list pl.isList (by simp only[a9] <;> lia) ⟨.int ys.length,H,I.tok _,⟨s.toks+1,by rw[a9,cA]⟩,q⟩
 ·obtain⟨its,r',pl,hz⟩:=I.tuple hq
  have cA:=r'.length;exact len_tuple pl (by simp only[a9] <;> lia) ⟨.int ys.length,H,I.tok _,⟨s.toks+1,by rw[a9,cA]⟩,q⟩
theorem Nf:gb X (.builtin "len") (λxs H Q=>∃z,xs=[.str z]/\z.length<=sizeLine/\Q (.int z.length) H):=by
 intro ao s σ H xs us Q I r h;obtain⟨z,rfl,hz,q⟩:=h;obtain⟨u,rfl,t,rfl⟩:=vals1 r;have hn:=w5;exact len_str (by lia) ⟨.int z.length,H,I.tok _,⟨_,rfl⟩,q⟩
theorem Ng:gb X (.type "list") (λxs H Q=>∃p ys,xs=[.ref p]/\(aU X.K H p ys\/aM X.K H p ys)/\∀l,H l=none->Q (.ref l) (upd H l (.lst ys))):=by
 intro ao s σ H xs us Q I r h;obtain⟨p,ys,rfl,hq,q⟩:=h;obtain⟨u,rfl,rx⟩:=vals1 r;cases rx;have fin:∀(its:List Value),Vals ys its->ys.length<=sizeLine->∀(h':Heap) (c':Nat),(∀b o',s.heap.get? b=some o'->h'.get? b=some o')->
   h'.get? s.heap.objs.size=some { cls:=.type "list",dict:=none,data:=.seq its.toArray c',slots:=#[] }->EP X ao σ Q (.ref s.heap.objs.size) { s with heap:=h' }:=λits r' hz h' c' kp e=>
  ⟨.ref s.heap.objs.size,_,I.laid (t':=s.toks) kp (al _) (show dH X.prog X.w _ h' _ (.lst ys) from ⟨hz,its,c',r',e⟩),rfl,q _ (I.hok.fresh (al _))⟩
 rcases hq with hq | hq
 ·obtain⟨its,r',pl,hz⟩:=I.list hq
  have cA:=r'.length;obtain⟨o,ho,hc,n,hd⟩:=pl.isList;exact call_list_seq p (.inl rfl) ho hc hd (λh' c' kp e=>fin its r' hz h' c' kp e) (by simp only[a9] <;> lia)
 ·obtain⟨its,r',pl,hz⟩:=I.tuple hq
  have cA:=r'.length;obtain⟨o,ho,hc,n,hd⟩:=pl;exact call_list_seq p (.inr rfl) ho hc hd (λh' c' kp e=>fin its r' hz h' c' kp e) (by simp only[a9] <;> lia)
theorem gJ:gb X (.type "tuple") (λxs H Q=>∃p ys,xs=[.ref p]/\((aU X.K H p ys/\∀l,H l=none->Q (.ref l) (upd H l (.tup ys)))\/(aM X.K H p ys/\Q (.ref p) H))):=by
 intro ao s σ H xs us Q I r h;obtain⟨p,ys,rfl,h⟩:=h;obtain⟨u,rfl,rx⟩:=vals1 r;cases rx;rcases h with⟨hq,q⟩ | ⟨hq,q⟩
 ·obtain⟨its,r',pl,hz⟩:=I.list hq
  have cA:=r'.length;refine call_tuple_list pl.isList (λh' kp=>?_) (by simp only[a9] <;> lia);have I1:aL X ao σ H { s with heap:=h' }:=I.kept (t':=s.toks) kp;have I2:aL X ao σ (upd H h'.objs.size (.tup ys)) { s with heap:=h'.push { cls:=.type "tuple",data:=.seq its.toArray } }:=
   I1.laid (t':=s.toks) (λb o e=>ag _ e) (al _) (show dH X.prog X.w _ _ _ (.tup ys) from ⟨hz,its,r',IsTup.new _ _⟩)
  exact⟨.ref h'.objs.size,_,I2,rfl,q _ (I1.hok.fresh (al _))⟩
 ·obtain⟨its,r',pl,hz⟩:=I.tuple hq
  exact call_tuple_same pl ⟨.ref p,H,I,rfl,q⟩
def tyV (K:W.Frag)(T:String)(x:V)(H:Hp):Prop:=match x with
 | .str _=>T="str"
 | .int _=>T="int"
 | .ref p=>(T="list"/\∃xs,aU K H p xs)\/(T="tuple"/\∃o,K.lookup p=some o/\o.cls=.type "tuple"/\o.dict=none)\/
   (T="dict"/\((∃kvs,H p=some (.dK kvs))\/∃kvs,H p=some (.dT kvs)))\/(T="set"/\∃S n,H p=some (.set S n))
 | _=>False
theorem Wo {ao:AC}{σ:St}{H:Hp}{s:Shared}{T:String}{x:V}{v:Value}(I:aL X ao σ H s)(r:cu x v)(ty:tyV X.K T x H) :
  s.TypeIs v T/\∀a,v=.ref a->∃ob,s.heap.get? a=some ob/\ob.dict=none:=by
 cases x with
 | str z=>
  obtain⟨t,rfl⟩:=r;cases(show T="str" from ty);exact⟨typeIs_str s z t,λ_ e=>nomatch e⟩
 | int i=>
  obtain⟨t,rfl⟩:=r;cases(show T="int" from ty);exact⟨typeIs_int s i t,λ_ e=>nomatch e⟩
 | ref p=>
  cases r;rcases ty with⟨rfl,xs,hq⟩ | ⟨rfl,o,hk,hc,hd⟩ | ⟨rfl,hk⟩ | ⟨rfl,S,n,hk⟩
  ·obtain⟨its,_,pl,_⟩:=I.list hq
   refine⟨pl.isList.typeIs,λa e=>?_⟩;cases e;obtain⟨o,n,e,c,hd,_⟩:=pl;exact⟨o,e,hd⟩
  ·refine⟨⟨o,I.gk p o hk,hc⟩,λa e=>?_⟩
   cases e;exact⟨o,I.gk _ o hk,hd⟩
  ·have z:∃o,s.heap.get? p=some o/\o.ExactDict:=by
    rcases hk with⟨kvs,hk⟩ | ⟨kvs,hk⟩
    ·obtain⟨_,_,_,_,o,_,_,e,ex,_⟩:=I.hok p _ hk
     exact⟨o,e,ex⟩
    ·obtain⟨_,_,_,_,o,_,_,e,ex,_⟩:=I.hok p _ hk
     exact⟨o,e,ex⟩
   obtain⟨o,e,ex⟩:=z;refine⟨⟨o,e,ex.1⟩,λa e2=>?_⟩;cases e2;exact⟨o,e,ex.2.1⟩
  ·obtain⟨o,_,_,_,e,ex,_⟩:=I.hok p _ hk
   refine⟨⟨o,e,ex.1⟩,λa e2=>?_⟩;cases e2;exact⟨o,e,ex.2.1⟩
 | _=>exact False.elim ty
def ae0 (K:W.Frag)(T:String)(r:V->List V->Hp->VK->Prop)(to:TE):TE:=λσ H Q=>to σ H λx H1=>tyV K T x H1/\r x [] H1 Q
def tBM (K:W.Frag)(T:String)(r:V->List V->Hp->VK->Prop)(to:TE)(t:TA):TE:=λσ H Q=>to σ H λx H1=>tyV K T x H1/\t σ H1 λxs H2=>r x xs H2 Q
variable {o e:Expr}{es:List Expr}{to:TE}{t:TA}{name:Str}{apos cpos:Pos}{T id:String}{r:V->List V->Hp->VK->Prop}
theorem ae1 (pa:PlainAttrs T)(slot:Slot T name id)(hty:typeOf (.builtin id)=pure (.type "method_descriptor"))(hm:w6 X id r)(ho:PE X o to)
  (hbase:attributeBase o name X.env (eval o X.env)=eval o X.env:=by rfl) (hline:(apos.endLine==cpos.line)=true:=by rfl):PE X (.Call (.Attribute o name apos) [] [] cpos) (ae0 X.K T r to):=by
 intro ao s σ H Q I h;refine wpAny_Call_method0_late hbase hline (bN (ho ao s σ H _ I h) λv s1 zz=>?_);obtain⟨x,H1,I1,r1,ty,q1⟩:=zz;obtain⟨h1,h2⟩:=Wo I1 r1 ty;exact⟨T,id,pa,slot,hty,h1,h2,Calls.callWith_builtin rfl (PySem.evalArgs_none (hm ao s1 σ H1 x [] v [] Q I1 r1 .nil q1))⟩
theorem agI (pa:PlainAttrs T)(slot:Slot T name id)(hty:typeOf (.builtin id)=pure (.type "method_descriptor"))(hm:w6 X id r)(ho:PE X o to)(ha:PA X (e::es) t)
  (hbase:attributeBase o name X.env (eval o X.env)=eval o X.env:=by rfl)
  (hfew:((backTo cpos (starEach (e::es) X.env)).all (λx=>!x.1)&&(backToKw cpos (keywordEach [] X.env)).all (λx=>x.1.isSome)
   && decide ((e::es).length+([]:List Keyword).length+(if ([]:List Keyword).isEmpty then 0 else 1) < 30))=true:=by rfl)
  (hline:(apos.endLine==cpos.line)=true:=by rfl) (hs:starEach (e::es) X.env=(false,eval e X.env)::starEach es X.env:=by rfl) (hplain:(backTo cpos (starEach es X.env)).any (·.1)=false:=by rfl) :
  PE X (.Call (.Attribute o name apos) (e::es) [] cpos) (tBM X.K T r to t):=by
 intro ao s σ H Q I h;refine wpAny_Call_method_late hbase hfew hline rfl (bN (ho ao s σ H _ I h) λv s1 zz=>?_);obtain⟨x,H1,I1,r1,ty,q1⟩:=zz;obtain⟨h1,h2⟩:=Wo I1 r1 ty;refine⟨T,id,pa,slot,hty,h1,h2,?_⟩;have hA:=ha cpos ao s1 σ H1 _ I1 q1;rw[hs]at hA ⊢;refine Calls.callWith_builtin (by show (false||(backTo cpos (starEach es X.env)).any (·.1))=false;rw[hplain] <;> rfl) (Calls.evalArgs_plain ?_);exact bN hA λus s2 ⟨vs,H2,I2,r2,q2⟩=>hm ao s2 σ H2 x vs v us Q I2 r1 r2 q2
end
def RB (X:Cx)(id:String)(r:V->List V->Hp->VK->Prop):Prop:=
 ∀(ao:AC) (s:Shared) (σ:St) (H:Hp) (x:V) (xs:List V) (v:Value) (us:List Value) (Q:VK),aL X ao σ H s->cu x v->Vals xs us->r x xs H Q->
  wpAny (model X.prog X.w) X.A (call (.builtin id) (v::us)) (EP X ao σ Q) X.xe s
theorem Vals.one:∀{x:V} {us:List Value},Vals [x] us->∃u,us=[u]/\cu x u
 | _,_,.cons r .nil=>⟨_,rfl,r⟩
theorem Vals.zero:∀{us:List Value},Vals [] us->us=[]
 | _,.nil=>rfl
theorem Vals.eraseIdx:∀{xs:List V} {us:List Value} (i:Nat),Vals xs us->Vals (xs.eraseIdx i) (us.eraseIdx i)
 | _,_,_,.nil=>.nil
 | _,_,0,.cons _ t=>t
 | _,_,i+1,.cons r t=>.cons r (Vals.eraseIdx i t)
theorem Vals.reverse {xs:List V}{us:List Value}(h:Vals xs us):Vals xs.reverse us.reverse:=by
 induction h with
 | nil=>exact .nil
 | cons r t ih=>rw[List.reverse_cons,List.reverse_cons];exact Vals.append ih (.cons r .nil)
theorem J6 {α:Type}:∀(l:List α) (i:Nat),(l.eraseIdx i).length<=l.length
 | [],_=>al _
 | _::_,0=>jn _
 | _::r,i+1=>lP (J6 r i)
section
variable {X:Cx}{ao:AC}{σ:St}{H:Hp}{s:Shared}{l:Addr}{xs ys:List V}
theorem aL.Nh {its its':List Value}{n:Nat}{f:Array Value->Array Value}{t':Nat}(I:aL X ao σ H s)(hH:H l=some (.lst xs))
  (e:s.heap.get? l=some { cls:=.type "list",data:=.seq its.toArray n }) (hf:f its.toArray=its'.toArray) (hv:Vals ys its') (hz:ys.length<=sizeLine) :
  aL X ao σ (upd H l (.lst ys)) { s with heap:=s.heap.update l (Obj.mapSeq f),toks:=t' }:=by
 have q:=PySem.IsL.update e f;rw[hf]at q;refine I.write (x:=l) (e:=l) (by rw[hH];exact trivial) (.inl rfl) (λb' u hb hu=>(d6 s.heap (Obj.mapSeq f) (fz hb)).trans hu) ⟨_,q⟩ ?_;exact⟨hz,its',_,hv,q⟩
theorem aL.T5 {its:List Value}{t':Nat}(I:aL X ao σ H s)(hv:Vals ys its)(hz:ys.length<=sizeLine) :
  aL X ao σ (upd H s.heap.objs.size (.lst ys)) { s with heap:=s.heap.push { cls:=.type "list",data:=.seq its.toArray },toks:=t' }:=
 I.laid (λ_ _ q=>ag _ q) (al _) ⟨hz,its,0,hv,aT _ rfl⟩
theorem aL.fresh (I:aL X ao σ H s):H s.heap.objs.size=none:=I.hok.fresh (al _)
theorem aL.xZ (I:aL X ao σ H s)(hH:H l=some (.lst xs)):xs.length<=sizeLine/\∃(its:List Value) (n:Nat),Vals xs its/\xs.length=its.length/\s.heap.get? l=some { cls:=.type "list",data:=.seq its.toArray n }:=by
 obtain⟨z,its,n,r,e⟩:=I.hok l _ hH;exact⟨z,its,n,r,r.length,e⟩
theorem ZR {n:Nat}(h:n<=sizeLine):Builtin.List.listTooLong n=false:=by
 unfold Builtin.List.listTooLong;exact ae (by lia)
def acL:V->List V->Hp->VK->Prop:=λx vs H Q=>∃l xs y,x=.ref l/\vs=[y]/\H l=some (.lst xs)/\xs.length < sizeLine/\Q .non (upd H l (.lst (xs++[y])))
theorem gK:RB X "list.append" acL:=by
 intro ao s σ H x vs v us Q I rx rv h;obtain⟨l,xs,y,rfl,rfl,hH,hz,q⟩:=h;cases rx;obtain⟨u,rfl,ru⟩:=rv.one;obtain⟨z,its,n,r,hl,e⟩:=I.xZ hH;refine call_meets F.slot_list_append ⟨_,e,rfl⟩ F.entry_list_append (F.args_list_append_2 _ _) (PySem.list_append l its.toArray n u (by rw[a9];lia)) ⟨e,?_⟩;refine⟨.non,_,I.Nh (its':=its++[u]) hH e (by simp) (r.append (.cons ru .nil)) ?_,rfl,q⟩;rw[a_,List.length_singleton];lia
def acM:V->List V->Hp->VK->Prop:=λx vs H Q=>∃l b xs zs,x=.ref l/\vs=[.ref b]/\H l=some (.lst xs)/\H b=some (.lst zs)/\xs.length+zs.length<=sizeLine/\Q .non (upd H l (.lst (xs++zs)))
theorem Wq:RB X "list.extend" acM:=by
 intro ao s σ H x vs v us Q I rx rv h;obtain⟨l,b,xs,zs,rfl,rfl,hH,hB,hz,q⟩:=h;cases rx;obtain⟨u,rfl,ru⟩:=rv.one;cases ru;obtain⟨z,its,n,r,hl,e⟩:=I.xZ hH;obtain⟨z2,its2,n2,r2,hl2,e2⟩:=I.xZ hB;have hsz:its.toArray.size+its2.toArray.size<=sizeLine:=by rw[a9,a9];lia
 have agJ:¬(!its.toArray.isEmpty&&Builtin.List.listTooLong (its.toArray.size+its2.toArray.size))=true:=by
  rw[ZR hsz,Bool.and_false];exact ba
 refine call_meets F.slot_list_extend ⟨_,e,rfl⟩ F.entry_list_extend (F.args_list_extend_2 _ _)
  (AutoSeq1.list_extend_list_list_0 l its.toArray n b its2.toArray n2 agJ (by rw[a9];lia) (by lia)) ⟨e,e2,?_⟩
 refine⟨.non,_,I.Nh (its':=its++its2) hH e (by simp) (r.append r2) ?_,rfl,q⟩;rw[a_];lia
def ae2:V->List V->Hp->VK->Prop:=λx vs H Q=>∃l xs i k y,x=.ref l/\vs=[.int i]/\H l=some (.lst xs)/\-(2^63)<=i/\i < 2^63/\seqIndex? i xs.length=some k/\xs[k]?=some y/\Q y (upd H l (.lst (xs.eraseIdx k)))
theorem ZS:RB X "list.pop" ae2:=by
 intro ao s σ H x vs v us Q I rx rv h;obtain⟨l,xs,i,k,y,rfl,rfl,hH,h1,h2,hk,hy,q⟩:=h;cases rx;obtain⟨u,rfl,ru⟩:=rv.one;obtain⟨t,rfl⟩:=ru;obtain⟨z,its,n,r,hl,e⟩:=I.xZ hH;obtain⟨w,hw,Ab⟩:=r.get hy;refine call_meets F.slot_list_pop ⟨_,e,rfl⟩ F.entry_list_pop (F.args_list_pop_2 _ _)
  (MeetsSeq.list_pop_at l its.toArray n i t k w (fitsIndex_both h1 h2) (by rw[a9,<- hl];exact hk) (by rw[<- kf];exact hw) (by rw[a9];lia)) ⟨e,?_⟩
 refine⟨y,_,I.Nh (its':=its.eraseIdx k) hH e ?_ (r.eraseIdx k) ?_,Ab,q⟩
 ·show its.toArray.eraseIdxIfInBounds k=(its.eraseIdx k).toArray
  rw[List.eraseIdxIfInBounds_toArray]
 ·have:=J6 xs k
  lia
def ZV:V->List V->Hp->VK->Prop:=λx vs H Q=>∃l xs,x=.ref l/\vs=[]/\H l=some (.lst xs)/\Q .non (upd H l (.lst xs.reverse))
theorem T6:RB X "list.reverse" ZV:=by
 intro ao s σ H x vs v us Q I rx rv h;obtain⟨l,xs,rfl,rfl,hH,q⟩:=h;cases rx;have hus:=rv.zero;subst hus;obtain⟨z,its,n,r,hl,e⟩:=I.xZ hH;refine call_meets F.slot_list_reverse ⟨_,e,rfl⟩ F.entry_list_reverse (F.args_list_reverse_1 _) (AutoSeq1.list_reverse_list_0 l its.toArray n (by rw[a9];lia)) ⟨e,?_⟩;refine⟨.non,_,I.Nh (its':=its.reverse) hH e (by simp) r.reverse ?_,rfl,q⟩;rw[iL];lia
def ahg:R2:=λx y H Q=>∃l b xs zs,x=.ref l/\y=.ref b/\H l=some (.lst xs)/\H b=some (.lst zs)/\xs.length+zs.length<=sizeLine/\∀p,H p=none->Q (.ref p) (upd H p (.lst (xs++zs)))
theorem Gv:fj X (binaryOp .Add) ahg:=by
 intro ao s σ H x y v u Q I rx ry h;obtain⟨l,b,xs,zs,rfl,rfl,hH,hB,hz,q⟩:=h;cases rx;cases ry;obtain⟨z,its,n,r,hl,e⟩:=I.xZ hH;obtain⟨z2,its2,n2,r2,hl2,e2⟩:=I.xZ hB;refine PySem.P.add_list e e2 ?_ (by rw[a9,a9];lia);have ea:its.toArray++its2.toArray=(its++its2).toArray:=by simp
 rw[ea];exact⟨.ref _,_,I.T5 (t':=s.toks) (r.append r2) (by rw[a_];lia),rfl,q _ I.fresh⟩
theorem len_rep {α:Type}(xs:List α)(k:Nat):(List.replicate k xs).flatten.length=k*xs.length:=by
 induction k with
 | zero=>simp
 | succ k ih=>rw[gS,ik,a_,ih,Nat.succ_mul,Nat.add_comm]
end
section
variable {κ:Type}[DecidableEq κ]
def j5 (kvs:List (κ × V))(k:κ):Option V:=(kvs.find? λkv=>decide (kv.1=k)).map (·.2)
def putK (kvs:List (κ × V))(k:κ)(v:V):List (κ × V):=
 if (kvs.any λkv=>decide (kv.1=k))=true then kvs.map (λkv=>if kv.1=k then (kv.1,v) else kv) else kvs++[(k,v)]
theorem um {p:κ × V}{r:List (κ × V)}{k:κ}(e:p.1=k):j5 (p::r) k=some p.2:=by simp[j5,h8,e]
theorem uo {p:κ × V}{r:List (κ × V)}{k:κ}(e:¬p.1=k):j5 (p::r) k=j5 r k:=by simp[j5,h8,e]
theorem yc (k:κ):∀kvs:List (κ × V),(kvs.any λkv=>decide (kv.1=k))=(j5 kvs k).isSome
 | []=>rfl
 | p::r=>by
  rw[hJ];by_cases e:p.1=k
  ·simp only[um e,ah e,Bool.true_or,Option.isSome_some]
  ·rw[uo e,ae e,Bool.false_or];exact yc k r
theorem wk (kvs:List (κ × V))(k:κ)(v:V):(putK kvs k v).length<=kvs.length+1:=by
 unfold putK
 split
 ·rw[aa];lia
 ·rw[a_,di,List.length_nil];lia
theorem ZW {kvs:List (κ × V)}{k:κ}(v:V)(h:j5 kvs k=none):putK kvs k v=kvs++[(k,v)]:=by
 unfold putK;rw[yc,h];exact if_neg (by decide)
theorem jM.Ac {o:Option V}{u:Option Value}(r:jM o u):o.isSome=u.isSome:=by
 cases o with
 | none=>cases u with
  | none=>rfl
  | some _=>exact(show False from r).elim
 | some _=>cases u with
  | none=>exact(show False from r).elim
  | some _=>rfl
theorem KV.val {kvs:List (κ × V)}{vs:List (κ × Value)}(r:KV kvs vs)(k:κ):jM (j5 kvs k) (valueAt vs k):=by
 unfold KV at r
 induction r with
 | nil=>exact True.intro
 | @cons p q ps qs h t ih=>
  obtain⟨h1,h2⟩:=h;by_cases e:p.1=k
  ·have e':q.1=k:=h1.symm.trans e
   have b:valueAt (q::qs) k=some q.2:=by simp[valueAt,h8,e']
   rw[um e,b];exact h2
  ·have e':¬q.1=k:=λz=>e (h1.trans z)
   have b:valueAt (q::qs) k=valueAt qs k:=by simp[valueAt,h8,e']
   rw[uo e,b];exact ih
theorem KV.any {kvs:List (κ × V)}{vs:List (κ × Value)}(r:KV kvs vs)(k:κ):(kvs.any λkv=>decide (kv.1=k))=vs.any λkv=>decide (kv.1=k):=by
 unfold KV at r
 induction r with
 | nil=>rfl
 | cons h t ih=>rw[hJ,hJ,ih,h.1]
theorem KV.repl {kvs:List (κ × V)}{vs:List (κ × Value)}(r:KV kvs vs)(k:κ){y:V}{u:Value}(ry:cu y u) :
  KV (kvs.map λkv=>if kv.1=k then (kv.1,y) else kv) (vs.map λkv=>if kv.1=k then (kv.1,u) else kv):=by
 unfold KV at r ⊢
 induction r with
 | nil=>exact .nil
 | @cons p q ps qs h t ih=>
  rw[bv,bv];refine .cons ?_ ih;obtain⟨h1,h2⟩:=h;by_cases e:p.1=k
  ·rw[if_pos e,if_pos (h1.symm.trans e)];exact⟨h1,ry⟩
  ·rw[if_neg e,if_neg (λz=>e (h1.trans z))];exact⟨h1,h2⟩
theorem KV.put {kvs:List (κ × V)}{vs:List (κ × Value)}(r:KV kvs vs)(k:κ){y:V}{u:Value}(ry:cu y u):KV (putK kvs k y) (stored vs k u):=by
 unfold putK stored;rw[r.any k];by_cases e:(vs.any λkv=>decide (kv.1=k))=true
 ·rw[if_pos e,if_pos e];exact r.repl k ry
 ·rw[if_neg e,if_neg e];exact Paired.snoc r ⟨rfl,ry⟩
theorem KV.keys {kvs:List (κ × V)}{vs:List (κ × Value)}(r:KV kvs vs):kvs.map (·.1)=vs.map (·.1):=by
 unfold KV at r
 induction r with
 | nil=>rfl
 | cons h t ih=>rw[bv,bv,ih,h.1]
theorem KV.length {kvs:List (κ × V)}{vs:List (κ × Value)}(r:KV kvs vs):kvs.length=vs.length:=Paired.length r
end
theorem Mj {P:Program}{w:World}{k:Key}{u:Value}(r:cu (kV k) u):(gQ P w).is k u=true:=by
 cases k with
 | inl i=>obtain⟨t,e⟩:=(show ∃t,u=Value.int i t from r);subst e;exact QH P w i t
 | inr x=>obtain⟨t,e⟩:=(show ∃t,u=Value.str x t from r);subst e;exact QJ P w x t
theorem J7 {P:Program}{w:World}:∀{ks:List Key} {us:List Value},Vals (ks.map kV) us->ItemsAre (gQ P w) ks us
 | [],_,r=>by rw[kx]at r;cases r;exact .nil
 | k::ks,_,r=>by
  rw[bv]at r;cases r with
  | cons h t=>exact .cons (Mj h) (J7 t)
abbrev KT (H:Hp):List (List Key × V)->List (List Key × Addr × Value)->Prop:=Paired λp q=>p.1=q.1/\H q.2.1=some (.tup (p.1.map kV))/\cu p.2 q.2.2
theorem KT.val {H:Hp}{kvs:List (List Key × V)}{xs:List (List Key × Addr × Value)}(r:KT H kvs xs)(k:List Key):jM (j5 kvs k) ((atKey xs k).map (·.2)):=by
 induction r with
 | nil=>exact True.intro
 | @cons p q ps qs h t ih=>
  obtain⟨h1,_,h2⟩:=h;by_cases e:p.1=k
  ·have e':q.1=k:=h1.symm.trans e
   have b:atKey (q::qs) k=some q.2:=by simp[atKey,h8,e']
   rw[um e,b];exact h2
  ·have e':¬q.1=k:=λz=>e (h1.trans z)
   have b:atKey (q::qs) k=atKey qs k:=by simp[atKey,h8,e']
   rw[uo e,b];exact ih
theorem KT.repl {H:Hp}{kvs:List (List Key × V)}{xs:List (List Key × Addr × Value)}(r:KT H kvs xs)(k:List Key){y:V}{u:Value}(ry:cu y u) :
  KT H (kvs.map λkv=>if kv.1=k then (kv.1,y) else kv) (xs.map (putAt k u)):=by
 induction r with
 | nil=>exact .nil
 | @cons p q ps qs h t ih=>
  rw[bv,bv];refine .cons ?_ ih;obtain⟨h1,h2,h3⟩:=h;unfold putAt;by_cases e:p.1=k
  ·rw[if_pos e,if_pos (h1.symm.trans e)];exact⟨h1,h2,ry⟩
  ·rw[if_neg e,if_neg (λz=>e (h1.trans z))];exact⟨h1,h2,h3⟩
theorem KT.put {H:Hp}{kvs:List (List Key × V)}{xs:List (List Key × Addr × Value)}(r:KT H kvs xs)(k:List Key){b:Addr}{y:V}{u:Value}(hb:H b=some (.tup (k.map kV)))(ry:cu y u) :
  KT H (putK kvs k y) (storedH xs k b u):=by
 have e:(kvs.any λkv=>decide (kv.1=k))=(atKey xs k).isSome:=by
  rw[yc,(r.val k).Ac,Option.isSome_map]
 unfold putK storedH;rw[e];by_cases q:(atKey xs k).isSome=true
 ·rw[if_pos q,if_pos q];exact r.repl k ry
 ·rw[if_neg q,if_neg q];exact Paired.snoc r ⟨rfl,hb,ry⟩
theorem KT.keeps {H H':Hp}{kvs:List (List Key × V)}{xs:List (List Key × Addr × Value)}(r:KT H kvs xs)(ht:∀b ys,H b=some (.tup ys)->H' b=some (.tup ys)):KT H' kvs xs:=
 Paired.Zq r λ_ _ z=>⟨z.1,ht _ _ z.2.1,z.2.2⟩
section
variable {P:Program}{w:World}{H:Hp}{h:Heap}{a:Addr}
theorem abT {u:HO}(ok:iV P w H h)(e:Rd H a u):dH P w H h a u:=e.ok ok
theorem Ml {kvs:List (Key × V)}(ok:iV P w H h)(e:Rd H a (.dK kvs)):kvs.length<=sizeLine/\(a==sysModules)=false/\∃vs,KV kvs vs/\h.DictOf (gQ P w) a vs:=
 show dH P w H h a (.dK kvs) from abT ok e
theorem abU {kvs:List (Key × V)}(ok:iV P w H h)(e:H a=some (.dK kvs)):kvs.length<=sizeLine/\(a==sysModules)=false/\∃vs,KV kvs vs/\h.DictOf (gQ P w) a vs:=Ml ok (.inl e)
theorem Gw {ks:List Key}(ok:iV P w H h)(e:H a=some (.tup (ks.map kV))):(tupleKind (gQ P w)).is h ks a:=by
 obtain⟨_,its,r,o,h1,h2,n,h3⟩:=(show dH P w H h a (.tup (ks.map kV)) from ok a _ e)
 exact⟨o,its.toArray,n,h1,h2,h3,by simpa using J7 r⟩
theorem Mp {kvs:List (List Key × V)}(ok:iV P w H h)(e:Rd H a (.dT kvs)):kvs.length<=sizeLine/\(a==sysModules)=false/\
  ∃xs,KT H kvs xs/\h.DictOfH (tupleKind (gQ P w)) a xs:=by
 obtain⟨z,y,xs,r,o,es,ep,h1,h2,h3,h4,h5⟩:=(show dH P w H h a (.dT kvs) from abT ok e)
 refine⟨z,y,xs,r,o,es,ep,h1,h2,h3,h4,λx hx=>?_,h5⟩;have all:∀{l:List (List Key × V)} {m:List (List Key × Addr × Value)},KT H l m->∀x∈m,(tupleKind (gQ P w)).is h x.1 x.2.1:=by
  intro l m q
  induction q with
  | nil=>intro x hx;exact nomatch hx
  | @cons p q ps qs hq t ih=>
   intro x hx;rcases bq.mp hx with e | hx
   ·subst e
    exact Gw ok (by rw[<- hq.1];exact hq.2.1)
   ·exact ih x hx
 exact all r x hx
theorem agK {kvs:List (List Key × V)}(ok:iV P w H h)(e:H a=some (.dT kvs)):kvs.length<=sizeLine/\(a==sysModules)=false/\
  ∃xs,KT H kvs xs/\h.DictOfH (tupleKind (gQ P w)) a xs:=Mp ok (.inl e)
end
def uq (H:Hp)(a:Addr)(y:V)(r:Option V):Prop:=
 (∃kvs k,Rd H a (.dK kvs)/\y=kV k/\r=j5 kvs k)\/∃kvs k b,Rd H a (.dT kvs)/\y=.ref b/\H b=some (.tup (k.map kV))/\r=j5 kvs k
def yd (H:Hp)(a:Addr)(y v:V)(H':Hp):Prop:=
 (∃kvs k,H a=some (.dK kvs)/\y=kV k/\kvs.length < sizeLine/\H'=upd H a (.dK (putK kvs k v)))\/
 ∃kvs k b,H a=some (.dT kvs)/\y=.ref b/\H b=some (.tup (k.map kV))/\kvs.length < sizeLine/\H'=upd H a (.dT (putK kvs k v))
theorem uq.k {H:Hp}{a:Addr}{kvs:List (Key × V)}{k:Key}(e:H a=some (.dK kvs)):uq H a (kV k) (j5 kvs k):=.inl ⟨kvs,k,.inl e,rfl,rfl⟩
theorem uq.t {H:Hp}{a b:Addr}{kvs:List (List Key × V)}{k:List Key}(e:H a=some (.dT kvs))(eb:H b=some (.tup (k.map kV))):uq H a (.ref b) (j5 kvs k):=.inr ⟨kvs,k,b,.inl e,rfl,eb,rfl⟩
theorem yd.k {H:Hp}{a:Addr}{kvs:List (Key × V)}{k:Key}{v:V}(e:H a=some (.dK kvs))(hl:kvs.length < sizeLine):yd H a (kV k) v (upd H a (.dK (putK kvs k v))):=.inl ⟨kvs,k,e,rfl,hl,rfl⟩
theorem yd.t {H:Hp}{a b:Addr}{kvs:List (List Key × V)}{k:List Key}{v:V}(e:H a=some (.dT kvs))(eb:H b=some (.tup (k.map kV)))(hl:kvs.length < sizeLine) :
  yd H a (.ref b) v (upd H a (.dT (putK kvs k v))):=.inr ⟨kvs,k,b,e,rfl,eb,hl,rfl⟩
section
variable {X:Cx}{ao:AC}{σ:St}{H:Hp}{s:Shared}{a:Addr}{y v:V}{u r:Value}{o:Option V}{A:Around}{E:AB}
theorem aL.big (I:aL X ao σ H s):sysModules < s.heap.objs.size:=by
 have h:mainGlobals < s.heap.objs.size:=(I.mod.glob.keeps I.bk).lt;exact Nat.lt_trans (by decide) h
theorem Ws {Q:AB}(hu:A.units+1 < cLine)(I:aL X ao σ H s)(g:uq H a y (some v))(ry:cu y u)(h:∀w' s',aL X ao σ H s'->cu v w'->Q w' s') :
  wpAny (model X.prog X.w) A (getItem (.ref a) u) Q E s:=by
 rcases g with⟨kvs,k,e,ey,l⟩ | ⟨kvs,k,b,e,ey,eb,l⟩
 ·subst ey
  obtain⟨z,hd,vs,rel,dd⟩:=Ml I.hok e;obtain⟨w',hw,Ab⟩:=jM.some_of (v:=v) (o:=valueAt vs k) (by rw[l];exact rel.val k);exact wpAny_getItem_of (Mj ry) dd.mapOf hw (h w' _ (I.tok _) Ab)
 ·subst ey
  cases(show u=Value.ref b from ry);obtain⟨z,hd,xs,rel,dd⟩:=Mp I.hok e;obtain⟨w',hw,Ab⟩:=jM.some_of (v:=v) (o:=(atKey xs k).map (·.2)) (by rw[l];exact rel.val k);obtain⟨p,hp,hp2⟩:=dq.mp hw;refine wpAny_getItem_heap (tupleKind_room_in1 hu) (Gw I.hok eb) dd hp ?_;rw[hp2];exact h w' _ (I.tok _) Ab
theorem ahh {Q:AB}(hu:A.units+1 < cLine)(I:aL X ao σ H s)(g:uq H a y o)(ry:cu y u)(h:∀s',aL X ao σ H s'->Q (.bool o.isSome) s') :
  wpAny (model X.prog X.w) A (compareOp .In u (.ref a)) Q E s:=by
 rcases g with⟨kvs,k,e,ey,l⟩ | ⟨kvs,k,b,e,ey,eb,l⟩
 ·subst ey
  obtain⟨z,hd,vs,rel,dd⟩:=Ml I.hok e;refine wpAny_in_of (Mj ry) hd dd.mapOf ?_;rw[<- (rel.val k).Ac,<- l];exact h _ (I.tok _)
 ·subst ey
  cases(show u=Value.ref b from ry);obtain⟨z,hd,xs,rel,dd⟩:=Mp I.hok e;refine wpAny_in_heap (tupleKind_room_in1 hu) (Gw I.hok eb) hd dd ?_;have q:=(rel.val k).Ac;rw[Option.isSome_map]at q;rw[<- q,<- l];exact h _ (I.tok _)
theorem RD {h':Heap}{t':Nat}{ob:HO}(I:aL X ao σ H s)(mu:V1 (H a))(hs:Heap.SameBut a s.heap h')(he:∃q,h'.get? a=some q)(new:dH X.prog X.w (upd H a ob) h' a ob) :
  aL X ao σ (upd H a ob) { s with heap:=h',toks:=t' }:=
 I.write (x:=a) (e:=a) mu (.inl rfl) (λb q hb z=>(hs.2 b hb).trans z) he new
theorem ae3 {P:Program}{w:World}{H':Hp}{h':Heap}{kvs:List (Key × V)}{vs:List (Key × Value)}(z:kvs.length<=sizeLine)(hd:(a==sysModules)=false)(rel:KV kvs vs)(dd:h'.DictOf (gQ P w) a vs) :
  dH P w H' h' a (.dK kvs):=⟨z,hd,vs,rel,dd⟩
theorem Wt {H':Hp}{Q:Unit->Shared->Prop}(hu:A.units+1 < cLine)(I:aL X ao σ H s)(g:yd H a y v H')(ry:cu y u)(rv:cu v r)(h:∀s',aL X ao σ H' s'->Q () s') :
  wpAny (model X.prog X.w) A (setItem (.ref a) u r) Q E s:=by
 rcases g with⟨kvs,k,e,ey,l,eH⟩ | ⟨kvs,k,b,e,ey,eb,l,eH⟩
 ·subst ey eH
  obtain⟨z,hd,vs,rel,dd⟩:=abU I.hok e;have hz:vs.length<=sizeLine:=by rw[<- rel.length];exact z
  have hl:(putK kvs k v).length<=sizeLine:=by have:=wk kvs k v;lia
  refine wpAny_setItem_pairs (hsz:=hz) (Mj ry) dd λh' Wu hs=>h _ ?_;have he:∃q,h'.get? a=some q:=let ⟨q,_,_,hq,_⟩:=Wu;⟨q,hq⟩
  exact RD I (by rw[e];exact True.intro) hs he (ae3 hl hd (rel.put k rv) Wu)
 ·subst ey eH
  cases(show u=Value.ref b from ry);obtain⟨z,hd,xs,rel,dd⟩:=agK I.hok e;have hz:xs.length<=sizeLine:=by rw[<- Paired.length rel];exact z
  have hl:(putK kvs k v).length<=sizeLine:=by have:=wk kvs k v;lia
  refine wpAny_setItem_heap (hsz:=hz) (tupleKind_room_in1 hu) (Gw I.hok eb) dd λh' Wu hs=>h _ ?_;obtain⟨q,es,ep,hq,h2,h3,h4,_,h5⟩:=Wu;refine RD I (by rw[e];exact True.intro) hs ⟨q,hq⟩ ⟨hl,hd,_,(rel.put k eb rv).keeps λc ys ec=>?_,q,es,ep,hq,h2,h3,h4,h5⟩;rw[aN (agz ec e (λz=>nomatch z))];exact ec
end
def ZX (i:Expr):Prop:=∀ov iv,subscripted i false ov iv=operate [ov,iv] (getItem ov iv)
theorem acN {prog:Program}{w:World}{A:Around}{E:AB}{s:Shared}{env:Env}{value slice:Expr}{pos:Pos}{T id:String}{Q:AB}
  (hl:typeLookup (.type T) "__getitem__"=pure (some (.builtin id))) (hs:ZX slice)
  (h:wpAny (model prog w) A (eval value env) (λo s₁=>wpAny (model prog w) A (eval slice env) (λi s₂=>s₂.TypeIs o T/\wpAny (model prog w) A (getItem o i) Q E s₂) E s₁) E s) :
  wpAny (model prog w) A (eval (.Subscript value slice pos) env) Q E s:=by
 refine Subscript_ (dl h (λo s₁ h₁=>dl h₁ (λi s₂ h₂=>?_) λ_ _ x=>x) λ_ _ x=>x);obtain⟨hT,h₂⟩:=h₂;unfold subscriptTail;refine ad ?_;rw[getitemInPython_of_ne hT.not_modules];refine ad (wpAny_specialOf hT hl ?_);have fin:wpAny (model prog w) A (subscripted slice false o i) (λr s₃=>wpAny (model prog w) A (letTemporaryGo value o r >>= λ_=>pure r) Q E s₃) E s₂:=by
  rw[hs o i];exact wpAny_operating (dl h₂ (λr s₃ h₃=>ad (wpAny_letTemporaryGo (am h₃))) λ_ _ x=>x)
 first
  | exact am (ad fin)
  | exact ad (am (ad fin))
  | exact ad fin
theorem QM {X:Cx}{ao:AC}{σ:St}{H:Hp}{s:Shared}{a:Addr}{y:V}{o:Option V}(I:aL X ao σ H s)(g:uq H a y o):s.TypeIs (.ref a) "dict":=by
 rcases g with⟨kvs,k,e,_,_⟩ | ⟨kvs,k,b,e,_,_,_⟩
 ·obtain⟨_,_,vs,_,dd⟩:=Ml I.hok e
  exact dd.typeIs
 ·obtain⟨_,_,xs,_,dd⟩:=Mp I.hok e
  exact dd.typeIs
def abV (td ty:TE):TE:=λσ H Q=>td σ H λx H1=>ty σ H1 λy H2=>∃a v,x=.ref a/\uq H2 a y (some v)/\Q v H2
def ae4 (ty td:TE):TE:=λσ H Q=>ty σ H λy H1=>td σ H1 λx H2=>∃a o,x=.ref a/\uq H2 a y o/\Q (.bl o.isSome) H2
def abW (td ty tv:TE):TS:=λD σ H=>tv σ H λv H1=>td σ H1 λx H2=>ty σ H2 λy H3=>∃a H4,x=.ref a/\yd H3 a y v H4/\D.nx σ H4
section
variable {X:Cx}{o i value:Expr}{pos pos':Pos}{td ty tv:TE}
theorem acO (hu:X.A.units+1 < cLine)(ho:PE X o td)(hi:PE X i ty)(hs:ZX i):PE X (.Subscript o i pos) (abV td ty):=by
 intro ao s σ H Q I h;refine acN PySem.F.slot_dict_getitem.lookup hs (bN (ho ao s σ H _ I h) λu s1 zz=>?_);obtain⟨x,H1,I1,rx,q1⟩:=zz;refine bN (hi ao s1 σ H1 _ I1 q1) λiv s2 zz=>?_;obtain⟨y,H2,I2,ry,a,v,ex,g,q2⟩:=zz;subst ex;obtain rfl:u=Value.ref a:=rx;exact⟨QM I2 g,Ws hu I2 g ry λw' s3 I3 Ab=>⟨v,H2,I3,Ab,q2⟩⟩
theorem ae5 (hu:X.A.units+1 < cLine)(hi:PE X i ty)(ho:PE X o td):PC X .In i o (ae4 ty td):=by
 intro ao s σ H Q I h;refine bN (hi ao s σ H _ I h) λiv s1 zz=>?_;obtain⟨y,H1,I1,ry,q1⟩:=zz;refine bN (ho ao s1 σ H1 _ I1 q1) λu s2 zz=>?_;obtain⟨x,H2,I2,rx,a,ov,ex,g,q2⟩:=zz;subst ex;obtain rfl:u=Value.ref a:=rx;exact ahh hu I2 g ry λs3 I3=>⟨.bl ov.isSome,H2,I3,rfl,q2⟩
theorem acP (hu:X.A.units+1 < cLine)(ho:PE X o td)(hi:PE X i ty)(hv:PE X value tv)(hs:swapsWith value (some (.Subscript o i pos')) pos.line X.env=pure false) :
  PS X (.Assign [.Subscript o i pos'] value pos) (abW td ty tv):=by
 intro ao s σ H D I h;refine wpAny_Assign_Subscript (bN (hv ao s σ H _ I h) λr s1 zz=>?_) hs;obtain⟨v,H1,I1,rv,q1⟩:=zz;refine bN (ho ao s1 σ H1 _ I1 q1) λu s2 zz=>?_;obtain⟨x,H2,I2,rx,q2⟩:=zz;refine bN (hi ao s2 σ H2 _ I2 q2) λiv s3 zz=>?_;obtain⟨y,H3,I3,ry,a,H4,ex,g,q3⟩:=zz;subst ex;obtain rfl:u=Value.ref a:=rx;exact Wt hu I3 g ry rv λs4 I4=>⟨σ,H4,I4,q3⟩
end
theorem Z0 {P:Program}{w:World}{H:Hp}(h:Heap)(hb:sysModules < h.objs.size):dH P w H (h.push { cls:=.type "dict",data:=.dict #[] }) h.objs.size (.dK []):=
 ⟨b8 _,beq_eq_false_iff_ne.mpr (fz (a8 hb)),[],.nil,Heap.DictOf.new h⟩
theorem Z1 {P:Program}{w:World}{H:Hp}(h:Heap)(hb:sysModules < h.objs.size):dH P w H (h.push { cls:=.type "dict",data:=.dict #[] }) h.objs.size (.dT []):=
 ⟨b8 _,beq_eq_false_iff_ne.mpr (fz (a8 hb)),[],.nil,_,#[],0,aT _ rfl,⟨rfl,rfl,rfl⟩,rfl,rfl,gt⟩
def Wv:TE:=λ_ H Q=>∀p,H p=none->Q (.ref p) (upd H p (.dK []))
def Ww:TE:=λ_ H Q=>∀p,H p=none->Q (.ref p) (upd H p (.dT []))
section
variable {X:Cx}{pos:Pos}
theorem Z4:PE X (.Dict [] [] pos) Wv:=λao s σ H Q I h=>
 wpAny_Dict_empty ⟨.ref s.heap.objs.size,_,I.laid (a:=s.heap.objs.size) (o:=.dK []) (t':=s.toks) (λ_ _ q=>ag _ q) (al _) (Z0 s.heap I.big),rfl,h _ (I.hok.fresh (al _))⟩
theorem Z5:PE X (.Dict [] [] pos) Ww:=λao s σ H Q I h=>
 wpAny_Dict_empty ⟨.ref s.heap.objs.size,_,I.laid (a:=s.heap.objs.size) (o:=.dT []) (t':=s.toks) (λ_ _ q=>ag _ q) (al _) (Z1 s.heap I.big),rfl,h _ (I.hok.fresh (al _))⟩
end
structure M1 (X:Cx)(o:Expr)(m:Str)(apos:Pos)(e:Expr)(cpos:Pos):Prop where
 base:attributeBase o m X.env (eval o X.env)=eval o X.env
 few:((backTo cpos (starEach [e] X.env)).all (λx=>!x.1)&&(backToKw cpos (keywordEach [] X.env)).all (λx=>x.1.isSome)
  && decide (([e]:List Expr).length+([]:List Keyword).length+(if ([]:List Keyword).isEmpty then 0 else 1) < 30))=true
 line:(apos.endLine==cpos.line)=true
 trees:backTo cpos (starEach [e] X.env)=[(false,eval e X.env)]
structure M2 (X:Cx)(o:Expr)(m:Str)(apos:Pos)(e f:Expr)(cpos:Pos):Prop where
 base:attributeBase o m X.env (eval o X.env)=eval o X.env
 few:((backTo cpos (starEach [e,f] X.env)).all (λx=>!x.1)&&(backToKw cpos (keywordEach [] X.env)).all (λx=>x.1.isSome)
  && decide (([e,f]:List Expr).length+([]:List Keyword).length+(if ([]:List Keyword).isEmpty then 0 else 1) < 30))=true
 line:(apos.endLine==cpos.line)=true
 trees:backTo cpos (starEach [e,f] X.env)=[(false,eval e X.env),(false,eval f X.env)]
end L2
namespace Att
open PySem PySem.W PySem.Calls PyProof.Rows
theorem Gx {P:Params}{h:Heap}:∀(ns:List Int) (vs:List Value),WellAll P h vs (ns.map WData.int)->IntsAre vs ns:=by
 intro ns
 induction ns with
 | nil=>
  intro vs w;rw[kx]at w;cases w;exact .nil
 | cons n ns ih=>
  intro vs w;rw[bv]at w;cases w with
  | cons a b=>
   cases a;exact .cons _ _ (ih _ b)
theorem Wx {l:OpenLaw}{n:Nat}(hn:l.most=some n){P:Params}{h:Heap}{args:List WData}{vals:List Value}
  (hpre:l.row.toRowW.claim.pre args=true) (hwl:WellAll P h vals args) :
  ∃a vs ns,vals=[Value.ref a]/\args=[WData.list (ns.map WData.int)]/\h.get? a=some { cls:=.type "list",data:=.seq vs.toArray }/\IntsAre vs ns/\ns.length<=n:=by
 have hsh:WShape.hasAll [] args [.list .int]=true:=(pre_splitW hpre).1;have hc:l.pre.holds [] { args:=args }=true:=(pre_splitW hpre).2;obtain⟨d,r,rfl,h1,h2⟩:=hasAllW_cons hsh;obtain rfl:=hasAllW_nil h2;obtain⟨xs,rfl,h3⟩:=hasW_list h1;obtain⟨ns,rfl⟩:=items_int h3;have cA:ns.length<=n:=by
  unfold OpenLaw.pre at hc;have h4:(WTm.not (.lt (.lit (.int (n:Int))) (.len (.arg 0)))).holds [] { args:=[.list (ns.map .int)] }=true:=by
   have h4:=(holds_andW hc).1;rw[hn]at h4;exact h4
  have h5:=condW_of h4 (w_not (w_lt w_lit (w_len_list (w_arg rfl))));rw[aa]at h5;refine Nat.le_of_not_lt λq=>?_;have q':(n:Int) < ((ns.length:Nat):Int):=by lia
  first
   | (rw[ah q']at h5;exact absurd h5 (by decide))
   | (simp at h5;lia)
 cases hwl with
 | cons w1 w2=>
  cases w2;cases w1 with
  | list ho hall=>exact⟨_,_,ns,rfl,rfl,ho,Gx ns _ hall,cA⟩
theorem Wy (l:OpenLaw)(args:List WData):l.row.toRowW.claim.post args (.bool true) args=true:=
 postW_of (r:=l.row.toRowW) (X:=(true==true))
  (show WShape.has [] (.bool true) .bool=true by first | rfl | decide | simp[WShape.has,WShape.arms,WShape.armsAll])
  (show (WTm.eq .res (.lit (.bool true))).value [] { args:=args,res:=some (.bool true),after:=args }=some (.bool (true==true)) from w_eq_bool (w_res rfl) w_lit) rfl
theorem QV {l:OpenLaw}{n:Nat}{q:Program}{loose:List Str}{XP:(Str->Option Value)->Heap->Prop}{YP:World->Heap->Prop}{d:DefRec}
  (hn:l.most=some n) (hdf:d.params.defaults=[])
  (call:∀(w:World) (s₀ s₁:Shared) (mg mb:Str->Option Value) (fa:Addr) (o:Obj) (pm cd doc:Value) (a:Addr) (vs:List Value) (ns:List Int),
   Ground q loose [] XP w s₀ mg mb s₁.heap->YP w s₁.heap->
   s₁.heap.get? fa=some o->o.data=.func (docDef d.name d.params d.body d.scope pm cd doc)->s₁.heap.CodeRec cd d.name->mg d.name=some (.ref fa)->
   s₁.heap.get? a=some { cls:=.type "list",data:=.seq vs.toArray }->IntsAre vs ns->ns.length<=n->s₁.gens=#[]->
   codeAny (model l.prog w) callerA (.call (.ref fa) ⟨[.ref a],[]⟩) (λr s'=>r=.ok (.ret (.bool true))/\OldK s₁.heap s'.heap/\s'.os=s₁.os/\AllBare s'.gens) s₁) :
  WalkO q loose XP YP l.row.toRowW d [] (λf vs=>PySem.call f vs):=by
 intro w s₀ s₁ mg mb G Y fa o pm cd doc dV kV ho hd hcd hD hmg hg args vals as hpre hlay hrd hwl hlo;obtain rfl:dV=.none:=Dflts.none hD hdf;obtain rfl:kV=.none:=Dflts.noKw hD;obtain⟨a,vs,ns,rfl,rfl,hobj,hints,cA⟩:=Wx hn hpre hwl;refine enter_call (iN (call w s₀ s₁ mg mb fa o pm cd doc a vs ns G Y ho (fd_plain hd) hcd hmg hobj hints cA hg) λr s' hq=>?_);obtain⟨rfl,h2,h3,h4⟩:=hq;exact⟨.inl ⟨.bool true,.bool true,[],rfl,λ_=>rfl,.bool true,Wy l _,λ_=>⟨List.Pairwise.nil,λ_ hm=>(nomatch hm)⟩⟩,h2,h3,h4⟩
end Att
namespace L2
open PySem PySem.Spec PyProof.Rows
theorem J8:∀{vs:List Value} {ns:List Int},IntsAre vs ns->Vals (ns.map V.int) vs
 | _,_,.nil=>.nil
 | _,_,.cons n t h=>.cons ⟨t,rfl⟩ (J8 h)
def Only (H:Hp):Prop:=∀b,H b=none\/∃o xs,H b=some (.nj o (.lst xs))
theorem Z6 {P:Program}{w:World}{K:W.Frag}{mg mb:Str->Option Value}{CX:nD}{k:Nat}{fa a:Addr}{fd:FuncData}{x:Str}{sp:Sp}{s₁:Shared}{vs:List Value}{ns:List Int}
  (KX:K.In s₁.heap) (hns:s₁.heap.Ns mainGlobals mg) (hb:s₁.heap.Ns builtinsNs mb) (hbb:∀x:Str,x≠"__name__"->mb x=bootBuiltins x) (hlim:s₁.heap.NoLimit) (hg:s₁.gens=#[])
  (ha:s₁.heap.get? a=some { cls:=.type "list",data:=.seq vs.toArray }) (hi:IntsAre vs ns) (hl:ns.length<=sizeLine) (hr:dX k callerA)
  (F:∀base:Heap,K.In base->base.Ns mainGlobals mg->cP P w K mg base CX k fa fd [x] sp) (hbind:∀(s:Shared) (u:Value),BindsTo s fd ⟨[u],[]⟩ [(x,u)])
  (hsp:∀H:Hp,Only H->aU K H a (ns.map V.int)->sp [.ref a] H (λv _=>v=.bl true) λ_ _ _=>False)
  (hCX:∀H e s',CX [] H s₁ (λ_ _ _=>False) e s'->False) :
  codeAny (model P w) callerA (.call (.ref fa) ⟨[.ref a],[]⟩) (λr s'=>r=.ok (.ret (.bool true))/\OldK s₁.heap s'.heap/\s'.os=s₁.os/\AllBare s'.gens) s₁:=by
 have rv:=J8 hi;have lenV:=hi.length;have core:∀H:Hp,Only H->aU K H a (ns.map V.int)->iV P w H s₁.heap->(∀b,H b≠none->b=a)->(H a≠none->K.lookup a=none)->
   codeAny (model P w) callerA (.call (.ref fa) ⟨[.ref a],[]⟩) (λr s'=>r=.ok (.ret (.bool true))/\OldK s₁.heap s'.heap/\s'.os=s₁.os/\AllBare s'.gens) s₁:=by
  intro H hO hS hok hA hK;have RG:∀{b:Addr} {o:Obj},s₁.heap.get? b=some o->H b=none->(xV s₁.heap H).get? b=some o:=λe n=>Zr e n;have Wk:∀{b:Addr} {o:Obj} {es:Array DictEntry} {ep:Nat},s₁.heap.get? b=some o->o.data=.dict es ep->H b=none:=λ{b o es ep} e d=>by
   cases q:H b with
   | none=>rfl
   | some u=>
    have e':b=a:=hA b (by rw[q];simp);subst e';rw[ha]at e;cases e;have d':Data.seq vs.toArray _=Data.dict es ep:=d;cases d'
  have nsK:∀{b:Addr} {m:Str->Option Value},s₁.heap.Ns b m->(xV s₁.heap H).Ns b m:=λ{b m} ⟨o,es,ep,e,d,r⟩=>⟨o,es,ep,RG e (Wk e d),d,r⟩
  have hKb:K.In (xV s₁.heap H):=λb o e=>RG (KX b o e) (by
   cases q:H b with
   | none=>rfl
   | some u=>
    have e':b=a:=hA b (by rw[q];simp);subst e';rw[hK (by rw[q];simp)]at e;cases e)
  have hM:Mod K mg (xV s₁.heap H):=⟨hKb,nsK hns,⟨mb,nsK hb,hbb⟩,let ⟨mc,h1,h2⟩:=hlim;⟨mc,nsK h1,h2⟩⟩
  have e0:En P w K mg (xV s₁.heap H) callerA [] s₁ H:=⟨rfl,hM,λb o e=>acr e,eh (V2 _ _),trivial,λb hb=>absurd (show b∈([]:List Addr) from hb) (by simp),hok,.of_eq hg⟩
  refine iN ((F _ hKb (nsK hns)).run callerA [] s₁ H ⟨[.ref a],[]⟩ [.ref a] [.ref a] _ _ hr e0 (hbind s₁ (.ref a)) (.cons rfl .nil) (hsp H hO hS)) λr s' h=>?_;cases r with
  | error e=>exact(hCX H e s' h).elim
  | ok fl=>
   cases fl with
   | next=>exact False.elim h
   | brk=>exact False.elim h
   | cont=>exact False.elim h
   | ret u=>
    obtain⟨v,H',os,bare,un,hok',r',q⟩:=h;have q':v=.bl true:=q;subst q';obtain rfl:u=Value.bool true:=r';refine⟨rfl,OldK.of_keep λb o e=>?_,os,bare⟩;cases q:H b with
    | none=>exact un.keep b o e q (by intro z;exact absurd (show b∈([]:List Addr) from z) (by simp)) (by simp)
    | some u=>
     rcases hO b with z | ⟨ob,xs,z⟩
     ·rw[q]at z;cases z
     ·have z2:=un.lG b ob _ z
      obtain⟨e1,_⟩:=hok b _ z;obtain⟨e2,_⟩:=hok' b _ z2;rw[e]at e1;cases e1;exact e2
 cases hk:K.lookup a with
 | some o=>
  have e:=KX a o hk;rw[ha]at e;cases e;refine core (λ_=>none) (λ_=>.inl rfl) (.inr ⟨_,vs.toArray,_,hk,rfl,rfl,rfl,by rw[a9,lenV];exact hl,by simpa using rv⟩) (λb u z=>by have z':(none:Option HO)=some u:=z;cases z') (λb z=>absurd rfl z) λz=>absurd rfl z
 | none=>
  refine core (λb=>if b=a then some (.nj { cls:=.type "list",data:=.seq vs.toArray } (.lst (ns.map V.int))) else none) (λb=>?_) (.inl (.inr ⟨{ cls:=.type "list",data:=.seq vs.toArray },if_pos rfl⟩)) (λb u z=>?_) (λb z=>?_) λ_=>hk
  ·by_cases hb:b=a
   ·exact .inr ⟨_,_,if_pos hb⟩
   ·exact .inl (if_neg hb)
  ·by_cases hb:b=a
   ·have z':=(if_pos hb).symm.trans z
    cases z';subst hb;exact⟨ha,by rw[aa];exact hl,vs,_,rv,ha⟩
   ·have z':=(if_neg hb).symm.trans z
    cases z'
  ·by_cases hb:b=a
   ·exact hb
   ·exact absurd (if_neg hb) z
abbrev KOf {K:W.Frag}{h:Heap}(_:K.In h):W.Frag:=K
theorem acQ {l:W.OpenLaw}{n k:Nat}{q:Program}{loose:List Str}{XP:(Str->Option Value)->Heap->Prop}{YP:World->Heap->Prop}{d:DefRec}{K:Params->W.Frag}{CX:World->nD}{sp:World->Sp}{x:Str}
  (hn:l.most=some n) (hn2:n<=sizeLine) (hdf:d.params.defaults=[]) (hr:dX k callerA)
  (hY:∀(w:World) (h:Heap),YP w h->(K w.params).In h)
  (F:∀(w:World) (mg:Str->Option Value) (fa:Addr) (h:Heap),(K w.params).In h->h.Ns mainGlobals mg->mg d.name=some (.ref fa)->
   ∃fd:FuncData,(∀(s:Shared) (u:Value),BindsTo s fd ⟨[u],[]⟩ [(x,u)])/\
    ∀base:Heap,(K w.params).In base->base.Ns mainGlobals mg->cP l.prog w (K w.params) mg base (CX w) k fa fd [x] (sp w))
  (hsp:∀(w:World) (H:Hp) (a:Addr) (ns:List Int),ns.length<=n->Only H->aU (K w.params) H a (ns.map V.int)->sp w [.ref a] H (λv _=>v=.bl true) λ_ _ _=>False)
  (hCX:∀(w:World) (H:Hp) (s:Shared) (e:Value) (s':Shared),CX w [] H s (λ_ _ _=>False) e s'->False) :
  W.WalkO q loose XP YP l.row.toRowW d [] (λf vs=>PySem.call f vs):=by
 refine Att.QV hn hdf λw s₀ s₁ mg mb fa o pm cd doc a vs ns G Y ho hd hcd hmg hobj hints cA hg=>?_;have KX:=hY w _ Y;obtain⟨fd,hb,hF⟩:=F w mg fa _ KX G.T.g hmg;exact Z6 KX G.T.g G.T.b G.T.builtins G.T.nolimit hg hobj hints (b9 cA hn2) hr hF hb (λH hO hS=>hsp w H a ns cA hO hS) λH e s'=>hCX w H s₁ e s'
def inClass (s:Stmt)(j:Nat):Stmt:=match s with
 | .ClassDef _ _ _ body _ _ _ _ _ _ _=>body.getD j (.Pass ⟨0,0,0,0⟩)
 | _=>.Pass ⟨0,0,0,0⟩
def fB (s:Stmt):Arguments:=match s with
 | .FunctionDef _ a _ _ _ _ _ _ _ _=>a
 | _=>{ posonlyargs:=[],args:=[],vararg:=none,kwonlyargs:=[],kw_defaults:=[],kwarg:=none,defaults:=[] }
def dg (s:Stmt):List Stmt:=match s with
 | .FunctionDef _ _ b _ _ _ _ _ _ _=>b
 | _=>[]
def aJ (s:Stmt):Scope:=match s with
 | .FunctionDef _ _ _ _ _ _ sc _ _ _=>sc
 | _=>{ kind:=.function,names:=[],isGenerator:=false,isCoroutine:=false }
abbrev fZ:nD:=λ_ _ _ _ _ _=>False
abbrev E0:XK:=λ_ _ _=>False
theorem lK {X:Cx}:Passes fZ X E0:=λ_ _ _ _ _ _ _ h=>h.elim
structure gM (K:W.Frag)(x qual:Str)(st:Stmt)(f:Addr)(fd:FuncData):Prop where
 ex:∃(oc:Value) (od:Option Addr) (kV doc pm:Value) (an:Option Addr) (bL ct:Value) (osl:Array (Option Value)),
  fd=W.fnOf x qual (fB st) (dg st) (aJ st) .none kV doc pm an bL ct/\K.lookup f=some ⟨oc,od,.func fd,osl⟩/\W.codeIn K bL qual=true
 kp:W.keepIn K (.ref f)=true
section
variable {P:Program}{w:World}{K:W.Frag}{mg:Str->Option Value}{base:Heap}
theorem gM.ok {x qual:Str}{st:Stmt}{f:Addr}{fd:FuncData}{N ps:List Str}{k:Nat}{sp:Sp}(F:gM K x qual st f fd)(S:bh N ps (aJ st))(len:∀vs H Q E,sp vs H Q E->vs.length=ps.length)
  (hbody:∀(bL:Value) (A:Around) (outer:List Env) (s:Shared) (H:Hp) (vs:List V) (Q:VK) (E:XK),dX k (A.deeper (envOfC qual (aJ st) s.heap.objs.size f bL))->sp vs H Q E->
   ∃t,su (qb fZ P w K mg base N qual (aJ st) f bL A outer s H E).MF (dg st) t/\t { nx:=λ_ H'=>Q .non H',rt:=Q } (start N vs) H):cP P w K mg base fZ (k+1) f fd ps sp:=by
 obtain⟨oc,od,kV,doc,pm,an,bL,ct,osl,rfl,lk,hcd⟩:=F.ex;refine abR lk hcd S len λA outer s H vs Q E hr hsp=>?_;obtain⟨t,h,q⟩:=hbody bL A outer s H vs Q E hr hsp;exact⟨t,h.MF,q⟩
theorem gM.binds {x qual:Str}{st:Stmt}{f:Addr}{fd:FuncData}{ps:List Str}(F:gM K x qual st f fd)
  (h:∀(kV doc pm:Value) (an:Option Addr) (bL ct:Value) (us:List Value),us.length=ps.length->bindArgs (W.fnOf x qual (fB st) (dg st) (aJ st) .none kV doc pm an bL ct) ⟨us,[]⟩=pure (ps.zip us)):cO K fd ps []:=by
 obtain⟨oc,od,kV,doc,pm,an,bL,ct,osl,rfl,lk,hcd⟩:=F.ex;exact .all (h kV doc pm an bL ct)
theorem iY {x qual:Str}{st:Stmt}{f:Addr}{oc:Value}{od an:Option Addr}{osl:Array (Option Value)}{kV doc pm bL ct:Value}(l:K.lookup f=some ⟨oc,od,.func (W.fnOf x qual (fB st) (dg st) (aJ st) .none kV doc pm an bL ct),osl⟩)
  (c:W.codeIn K bL qual=true) (k:W.keepIn K (.ref f)=true):gM K x qual st f (W.fnOf x qual (fB st) (dg st) (aJ st) .none kV doc pm an bL ct):=⟨⟨oc,od,kV,doc,pm,an,bL,ct,osl,rfl,l,c⟩,k⟩
end
theorem T7 {A:Around}{k:Nat}(hr:dX k A):A.units+1 < cLine:=kQ (Nat.add_le_add_left (by decide:1<=64) _) hr.units
theorem aH {n:Nat}(h:n<=1000):n < sizeLine:=kQ h (by decide)
section
variable {X:Cx}
theorem pv (i:Nat){x:Str}{pos:Pos}(hN:X.N[i]?=some x:=by rfl)(hv:Vis X.env.scope x:=by first | exact Or.inl rfl | exact Or.inr (Or.inl rfl) | exact Or.inr (Or.inr rfl))(hd:(x==("__debug__":Str))=false:=by decide)
  (hcd:(x==("__classdict__":Str))=false:=by decide):PE X (.Name x pos) (gY i):=aeg hN hv hd hcd
end
theorem aX {A B:Prop}(h:B):if false=true then A else B:=by
 rw[if_neg ba];exact h
theorem bI {A B:Prop}(h:A):if true=true then A else B:=by
 rw[if_pos rfl];exact h
theorem iZ {c A B:Prop} [Decidable c] (h1:c->A)(h2:¬c->B):if c then A else B:=by
 by_cases h:c
 ·rw[if_pos h]
  exact h1 h
 ·rw[if_neg h]
  exact h2 h
theorem oY {c A B:Prop} [Decidable c] (hc:c)(h:B):if (!decide c)=true then A else B:=by
 rw[ah hc];exact aX h
def aA (H H':Hp):Prop:=∀b o,H b=some o->H' b=some o
theorem aA.refl (H:Hp):aA H H:=λ_ _ h=>h
theorem aA.trans {H H1 H2:Hp}(a:aA H H1)(b:aA H1 H2):aA H H2:=λc o h=>b c o (a c o h)
theorem aA.free {H H':Hp}(e:aA H H'){l:Addr}(h:H' l=Option.none):H l=Option.none:=by
 cases q:H l with
 | none=>rfl
 | some o=>
  rw[e l o q]at h;cases h
theorem aA.seq {K:W.Frag}{H H':Hp}{a:Addr}{xs:List V}(e:aA H H')(h:aU K H a xs):aU K H' a xs:=by
 rcases h with(h | ⟨o,h⟩) | h
 ·exact .inl (.inl (e _ _ h))
 ·exact .inl (.inr ⟨o,e _ _ h⟩)
 ·exact .inr h
section
variable {κ:Type}[DecidableEq κ]
theorem RJ:∀{l:List κ} {k:κ},l.Nodup->¬k∈l->(l++[k]).Nodup
 | [],k,_,_=>by simp
 | a::r,k,h,hk=>by
  obtain⟨h1,h2⟩:=eR.mp h;show (a::(r++[k])).Nodup;refine eR.mpr ⟨λm=>?_,RJ h2 λm=>hk (bq.mpr (Or.inr m))⟩;rcases a7.mp m with q | q
  ·exact h1 q
  ·exact hk (bq.mpr (Or.inl (aw.mp q).symm))
end
def blk (X:Cx)(scope:Scope)(cl:List (Str × Addr))(C:Addr)(x:Str)(s₀:Shared)(H₀:Hp)(fp:List Addr):Cx:=
 { X with N:=x::X.N,s₀:=s₀,H₀:=H₀,env:=compEnvC scope cl C X.env,outer:=X.stack,ex:=fp,fn:=λ_=>false,pn:=[],xe:=λ_ _=>False }
structure i_ (X:Cx)(scope:Scope)(x:Str):Prop where
 kind:scope.kind=.function
 qI:∀y∈scope.names,y.2≠.cell
 names:∀y∈scope.names,y.2=.local->scope.names.lookup y.1=some .local
 hx:scope.names.lookup x=some .local
 free:∀y∈scope.names,y.2=.free->X.env.kindOf y.1=some .cell\/X.env.kindOf y.1=some .free
 out:∀y∈X.N,scope.names.lookup y≠some .local
 nd:X.N.Nodup
def RK (sc:Scope)(N:List Str)(scope:Scope)(x:Str):Bool:=
 scope.kind == .function&&scope.names.all (λy=>y.2 != .cell)&&scope.names.all (λy=>y.2 != .local||scope.names.lookup y.1==some .local)&&scope.names.lookup x==some .local &&
 scope.names.all (λy=>y.2 != .free||sc.names.lookup y.1==some .cell||sc.names.lookup y.1==some .free)&&N.all (λy=>scope.names.lookup y != some .local)
theorem i_.of {X:Cx}{scope:Scope}{x:Str}(hN:X.N.Nodup)(h:RK X.env.scope X.N scope x=true):i_ X scope x:=by
 unfold RK at h;simp only[ce,cz,mf,bne_iff_ne,beq_iff_eq,ne_eq]at h;obtain⟨⟨⟨⟨⟨h1,h2⟩,h3⟩,h4⟩,h5⟩,h6⟩:=h;refine⟨h1,λy hy=>h2 y hy,λy hy e=>(h3 y hy).resolve_left λz=>z e,h4,λy hy e=>?_,λy hy=>h6 y hy,hN⟩;rcases h5 y hy with(z | z) | z
 ·exact absurd e z
 ·exact .inl z
 ·exact .inr z
theorem cQ {α:Type}:∀{l:List (Str × α)} {x:Str} {a:α},l.lookup x=some a->(x,a)∈l
 | [],_,_,h=>by simp at h
 | (y,b)::r,x,a,h=>by
  rw[fg]at h
  split at h
  ·rename_i e
   have e':x=y:=by simpa using e
   cases h;subst e';exact bE
  ·exact bb _ (cQ h)
theorem oZ {env:Env}:∀(names:List (Str × NameKind)),(∀y∈names,y.2=.free->∃c,env.cells.lookup y.1=some c)->∀acc:List (Str × Addr),(∀n c,acc.lookup n=some c->env.cells.lookup n=some c)->
  ∃cl,(forIn names acc (λ(p:Str × NameKind) (cs:List (Str × Addr))=>if (p.2==NameKind.free)=true then (do let a <- cellOf env p.1;pure (ForInStep.yield ((p.1,a)::cs))) else (pure (ForInStep.yield cs):Sem _)):Sem (List (Str × Addr)))=pure cl/\
   (∀n c,cl.lookup n=some c->env.cells.lookup n=some c)/\(∀n,(∃c,acc.lookup n=some c)->∃c,cl.lookup n=some c)/\∀n,(n,NameKind.free)∈names->∃c,cl.lookup n=some c
 | [],_,acc,ha=>⟨acc,by simp,ha,λ_ h=>h,λ_ h=>by simp at h⟩
 | (n,k)::r,hf,acc,ha=>by
  have hr:∀y∈r,y.2=.free->∃c,env.cells.lookup y.1=some c:=λy hy=>hf y (bb _ hy);by_cases hk:k=.free
  ·subst hk
   obtain⟨c,hc⟩:=hf (n,.free) bE rfl;obtain⟨cl,e,h1,h2,h3⟩:=oZ r hr ((n,c)::acc) (λn' c' h=>by
    rw[fg]at h
    split at h
    ·rename_i q
     have q':n'=n:=by simpa using q
     cases h;subst q';exact hc
    ·exact ha n' c' h)
   refine⟨cl,?_,h1,λn' h=>h2 n' ?_,λn' h=>?_⟩
   ·rw[fw]
    simp only[beq_self_eq_true,if_true];have e2:cellOf env n=pure c:=by unfold cellOf;rw[hc]
    rw[e2];simp only[pure_bind];exact e
   ·obtain⟨c',hc'⟩:=h
    rw[fg]
    split
    ·exact⟨c,rfl⟩
    ·exact⟨c',hc'⟩
   ·rcases bq.mp h with q | q
    ·refine h2 n' ⟨c,?_⟩
     cases q;rw[fg,beq_self_eq_true]
    ·exact h3 n' q
  ·have hb:(k==NameKind.free)=false:=by simpa using hk
   obtain⟨cl,e,h1,h2,h3⟩:=oZ r hr acc ha;refine⟨cl,?_,h1,h2,λn' h=>?_⟩
   ·rw[fw]
    simp only[hb,cn,if_false,pure_bind];exact e
   ·rcases bq.mp h with q | q
    ·cases q;exact absurd rfl hk
    ·exact h3 n' q
theorem cI {env:Env}:∀{names:List (Str × NameKind)} {x:Str} {k:NameKind},
  (names.map λ(n,k)=>if (k==NameKind.free&&env.scope.kind == .function&&env.kindOf n==some .cell) then (n,NameKind.cell) else (n,k)).lookup x=some k->names.lookup x=some k\/(k=.cell/\names.lookup x=some .free)
 | [],_,_,h=>by simp at h
 | (n,j)::r,x,k,h=>by
  have ih:=@cI env r x k;have h':List.lookup x ((if (j==NameKind.free&&env.scope.kind == .function&&env.kindOf n==some .cell)=true then (n,NameKind.cell) else (n,j))::_)=some k:=h;by_cases hc:(j==NameKind.free&&env.scope.kind == .function&&env.kindOf n==some .cell)=true
  ·rw[if_pos hc]at h'
   cases hx:x==n with
   | true=>
    simp only[fg,hx]at h' ⊢;cases h';have:j=.free:=by simp at hc;exact hc.1.1
    exact .inr ⟨rfl,by rw[this]⟩
   | false=>simp only[fg,hx]at h' ⊢;exact ih h'
  ·rw[if_neg hc]at h'
   cases hx:x==n with
   | true=>simp only[fg,hx]at h' ⊢;exact .inl h'
   | false=>simp only[fg,hx]at h' ⊢;exact ih h'
theorem yg {prog:Program}{w:World}{A:Around}{R:Result->Shared->Prop}{s:Shared}{elt target iter:Expr}{ifs:List Expr}{scope:Scope}{pos:Pos}{it acc:Value}{env:Env}(I:Nat->Shared->Prop)
  (turn:∀n s,I n s->wpAny (model prog w) A (pyNext it) (λr s₁=>match r with
   | none=>R (.ok .next) s₁
   | some v=>wpAny (model prog w) A (letOwnedTupleGo target it v) (λ_ s₀=>wpAny (model prog w) A (assign target env v) (λ_ s₂=>
     wpAny (model prog w) A (forIn ifs true λc r=>if r=true then do let ok <- isTrue c env (eval c env);pure (ForInStep.yield ok) else pure (ForInStep.yield r)) (λok s₃=>
      if ok=true then wpAny (model prog w) A (eval elt env) (λx s₄=>
       wpAny (model prog w) A (call (.builtin "list.append") [acc,x]) (λ_ s₅=>∃m,m < n/\I m s₅) (λ_ _=>False) s₄) (λ_ _=>False) s₃
      else ∃m,m < n/\I m s₃) (λ_ _=>False) s₂) (λ_ _=>False) s₀) (λ_ _=>False) s₁) (λ_ _=>False) s)
  (n:Nat) (h:I n s) :
  codeAny (model prog w) A (.compLoop (.ListComp elt [⟨target,iter,ifs,0⟩] scope pos) 0 it acc env) R s:=by
 refine codeAny_loop rfl I (λn s hI=>?_) n h;show wpAny _ A ((compTurn (.ListComp elt [⟨target,iter,ifs,0⟩] scope pos) 0 it acc env).onRaise (λx=>do noteFrame x env;theTreesLotGoes x)) _ _ s;refine wpAny_noted ?_;rw[compTurn_list];refine ad (iA (ad (dl (turn n s hI) (λr s₁ h₁=>?_) λ_ _ h'=>h'.elim)));cases r with
 | none=>exact am h₁
 | some v=>
  refine ad (dl h₁ (λ_ s₀ h₀=>?_) λ_ _ h'=>h'.elim);refine ad (dl h₀ (λ_ s₂ h₂=>ad (dl h₂ (λok s₃ h₃=>?_) λ_ _ h'=>h'.elim)) λ_ _ h'=>h'.elim);cases ok with
  | false=>exact am ⟨rfl,h₃⟩
  | true=>
   exact ad (ad (dl h₃ (λx s₄ h₄=>ad (dl h₄ (λ_ s₅ h₅=>am (am ⟨rfl,h₅⟩)) λ_ _ h'=>h'.elim)) λ_ _ h'=>h'.elim))
def RL (X:Cx)(ifs:List Expr)(t:TT):Prop:=
 ∀(ao:AC) (s:Shared) (σ:St) (H:Hp) (Q:Bool->Hp->Prop),aL X ao σ H s->t σ H Q->
  wpAny (model X.prog X.w) X.A (forIn ifs true λc r=>if r=true then do let ok <- isTrue c X.env (eval c X.env);pure (ForInStep.yield ok) else pure (ForInStep.yield r)) (TP X ao σ Q) X.xe s
def iB:TT:=λ_ H Q=>Q true H
theorem acR {X:Cx}:RL X [] iB:=λ_ _ _ H _ I h=>wpAny_tests_nil ⟨H,I,h⟩
theorem acS {X:Cx}{c:Expr}{t:TT}(h:PT X c t):RL X [c] t:=λao s σ H Q I q=>wpAny_tests_one (h ao s σ H Q I q)
def abX (wi:TI)(tt:TT)(te:TE):TE:=λσ H Q=>wi σ H λJ H1=>∀D,H1 D=none->∃W:Nat->Nat->List V->Hp->Prop,(∃m,W 0 m [] (upd H1 D (.lst [])))/\
 ∀i m ys H,W i m ys H->(J.stop i H/\Q (.ref D) H)\/(J.go i H/\∀x H',J.pO i H x H'->tt (some x::σ) H' λb H2=>
  if b=true then te (some x::σ) H2 λy H3=>H3 D=some (.lst ys)/\ys.length < sizeLine/\∃m',m' < m/\W (i+1) m' (ys++[y]) (upd H3 D (.lst (ys++[y])))
  else ∃m',m' < m/\W (i+1) m' ys H2)
theorem acT {X:Cx}{elt iter:Expr}{x:Str}{px:Pos}{ifs:List Expr}{scope:Scope}{pos:Pos}{wi:TI}{tt:TT}{te:TE}(hc:X.calm=true)(ok:i_ X scope x)(hi:PI X (.Name x px) iter wi)
  (ht:∀cl C s₀ H₀ fp,RL (blk X scope cl C x s₀ H₀ fp) ifs tt) (he:∀cl C s₀ H₀ fp,PE (blk X scope cl C x s₀ H₀ fp) elt te)
  (hs:∀x,foldedSetIterable iter X.env x=pure x:=by intro _;rfl):PE X (.ListComp elt [⟨.Name x px,iter,ifs,0⟩] scope pos) (abX wi tt te):=by
 intro ao s σ H Q I h;obtain⟨cl,hcl,hsub,_,hall⟩:=oZ (env:=X.env) scope.names (λy hy e=>I.ok.has y.1 (ok.free y hy e)) [] (λ_ _ z=>by simp at z);have hclos:closureFor scope X.env=pure cl:=by
  unfold closureFor;simp only[bind_pure];exact hcl
 rw[eval_ListComp];refine iP (use:=none) (E:=X.xe) (cl:=cl) rfl hs hclos ok.kind ok.names (bN (hi ao s σ H _ I h) λv s1 h1=>bN h1 λitv s2 h2=>?_);obtain⟨it,fp,tn,J,H2,e,I2,T,st2,f2,R⟩:=h2;subst e;obtain⟨W,⟨m0,w0⟩,turn⟩:=R s2.heap.objs.size I2.fresh;refine fA (ky ok.qI (by intro y hy;simp at hy) (λh₁ hns₁ hsb₁=>?_) ok.kind);dsimp only at hns₁ hsb₁ ⊢;have I3:aL X ao σ (upd H2 s2.heap.objs.size (.lst [])) { s2 with heap:=s2.heap.push { cls:=.type "list",data:=.seq ([]:List Value).toArray } }:=I2.T5 (t':=s2.toks) (ys:=[]) (its:=[]) .nil (b8 _);generalize Wz:upd H2 s2.heap.objs.size (HO.lst [])=H3 at *
 generalize hs3:s2.heap.push { cls:=.type "list",data:=.seq ([]:List Value).toArray }=hp3 at *
 generalize hD:s2.heap.objs.size=D at *
 generalize hC:hp3.objs.size=C at *
 have hDC:D < C:=by rw[<- hC,<- hs3,cS,hD];exact fF _
 have old:∀b o,hp3.get? b=some o->h₁.get? b=some o:=λb o e=>(hsb₁.2 b (by rw[<- hC];exact a8 (av e))).trans (ag _ e);have J9:∀b∈fp,b < C:=λb hb=>by
  obtain⟨o,e,_⟩:=T.obj _ _ st2 b hb;rw[<- hC,<- hs3,cS];exact d9 (av e)
 have f3:∀b∈fp,nY X ao H3 b:=λb hb=>by
  obtain⟨o,e,_⟩:=T.obj _ _ st2 b hb;refine⟨?_,(f2 b hb).2⟩;rw[<- Wz,aN (by rw[<- hD];exact a8 (av e))];exact(f2 b hb).1
 have Ad:∀b∈fp,b∉frs X.stack:=λb hb z=>by
  obtain⟨_,g1,g2,_⟩:=f3 b hb;rcases bq.mp (I3.wY b z) with q | q
  ·exact g1 q
  ·exact g2 q
 have WD:(blk X scope cl C x { s2 with heap:=hp3 } H3 fp).Ok:=by
  refine⟨I.ok.mod,?_,I.ok.glob,I.ok.blt,eh hC,?_,?_,?_,I.ok.hd,I.ok.frames,.inl rfl,?_,?_,?_,?_,?_,?_,?_⟩
  ·exact ok.kind
  ·exact λa b c h1 h2=>I.ok.inj a b c (hsub a c h1) (hsub b c h2)
  ·intro a ha
   refine hall a ?_;rcases ha with z | z
   ·rcases cI (env:=X.env) z with q | ⟨_,q⟩
    ·exact absurd rfl (ok.qI _ (cQ q))
    ·exact cQ q
   ·rcases cI (env:=X.env) z with q | ⟨q,_⟩
    ·exact cQ q
    ·cases q
  ·intro a c hf;cases hf
  ·intro b hb
   refine⟨a8 (J9 b hb),λa c h1=>(f3 b hb).2.2.2.2.1 a c (hsub a c h1)⟩
  ·exact I3.bs
  ·exact b9 I.ok.rY I3.sz
  ·intro b o e hb
   rcases(f3 b hb).2.2.2.1 with z | z
   ·exact I.ok.wg b o e z
   ·exact absurd (b5 (av e) (b9 I.ok.rY z)) (du _)
  ·exact Ad
  ·exact I3.stack
  ·exact I3.pW
 have Y0:aL (blk X scope cl C x { s2 with heap:=hp3 } H3 fp) [] (none::σ) H3 { s2 with heap:=h₁,toks:=s2.toks+([]:List (Str × Value)).length }:=by
  refine⟨WD,rfl,I3.bare,Un.kept old,⟨_,hns₁,?_⟩,?_,?_,?_,λp hp=>by simp[blk]at hp,I3.hok.kept old,?_⟩
  ·intro i y v e1 e2 e3
   cases i with
   | zero=>simp at e2
   | succ i=>
    have e1':X.N[i]?=some y:=by simpa [blk] using e1
    have e2':σ[i]?=some (some v):=by simpa using e2
    have hy:y∈X.N:=bc e1';have hfree:(y,NameKind.free)∈scope.names:=by
     have key:∀k,(relabel scope X.env).names.lookup y=some k->k≠.local->k=.cell\/k=.free->(y,NameKind.free)∈scope.names:=λk q n hk=>by
      rcases cI (env:=X.env) q with z | ⟨_,z⟩
      ·rcases hk with rfl | rfl
       ·exact absurd rfl (ok.qI _ (cQ z))
       ·exact cQ z
      ·exact cQ z
     rcases e3 with z | z | z
     ·rcases cI (env:=X.env) z with q | ⟨q,_⟩
      ·exact absurd q (ok.out y hy)
      ·cases q
     ·exact key _ z (by decide) (.inl rfl)
     ·exact key _ z (by decide) (.inr rfl)
    have hk:=ok.free _ hfree rfl;obtain⟨m,hn,hl⟩:=I3.loc;obtain⟨u,r,q⟩:=hl i y v e1' e2' (by rcases hk with z | z;exact .inr (.inl z);exact .inr (.inr z));refine⟨u,r,.inr ⟨?_,?_⟩⟩
    ·rcases e3 with z | z | z
     ·rcases cI (env:=X.env) z with q | ⟨q,_⟩
      ·exact absurd q (ok.out y hy)
      ·cases q
     ·exact .inl z
     ·exact .inr z
    ·rcases q with⟨z,_⟩ | ⟨_,c,hc',hcell⟩
     ·rcases hk with q | q <;> (rw[z]at q;cases q)
     ·obtain⟨c',hc2⟩:=hall y hfree
      have:c'=c:=by have:=hsub y c' hc2;rw[hc']at this;exact(ap this).symm
      subst this;obtain⟨o,ho,hd⟩:=hcell;exact⟨c',hc2,o,old _ _ ho,hd⟩
  ·intro a c h1
   obtain⟨v,o,ho,hd⟩:=I3.cell a c (hsub a c h1);exact⟨v,o,old _ _ ho,hd⟩
  ·show H3 C=none
   exact I3.hok.fresh (eh hC)
  ·exact λa c h1=>I3.ji a c (hsub a c h1)
  ·show (none::σ).length=(x::X.N).length
   rw[di,di,I.len]
 have back:∀(s':Shared) (v:Option V) (H':Hp) (h':Heap),aL (blk X scope cl C x { s2 with heap:=hp3 } H3 fp) [] (v::σ) H' s'->Heap.SameBut C s'.heap h'->(∀b∈fp,H' b=none)->aL X ao σ H' { s' with heap:=h' }:=by
  intro s' v H' h' I' sb fr;have rZ:∀b o,hp3.get? b=some o->b≠C:=λb o e=>by rw[<- hC];exact a8 (av e)
  have U:Un (frs X.stack) fp H3 H' hp3 s'.heap:=I'.base;refine I3.call' (ch:=fp) (H':=H') (s':={ s' with heap:=h' }) I'.os ⟨λb o e n h1 h2=>(sb.2 b (rZ b o e)).trans (U.keep b o e n h1 h2),λb o e n h1 h2=>?_,U.free,λb o e h2=>?_,U.tups,U.lG,U.lR⟩ (λb ob e=>?_) I'.bare λb hb=>?_
  ·obtain⟨sl,q⟩:=U.slot b o e n h1 h2
   exact⟨sl,(sb.2 b (rZ b o e)).trans q⟩
  ·obtain⟨o',q⟩:=U.there b o e h2
   exact⟨o',(sb.2 b (rZ b o e)).trans q⟩
  ·have fC:H' C=none:=I'.free
   refine(I'.hok b ob e).stay (λc w' hc q=>(sb.2 c ?_).trans q) (λ_ q=>q) λ_ _ q=>q;rintro rfl;rcases hc with rfl | hc
   ·rw[fC]at e;cases e
   ·rw[fC]at hc;cases hc
  ·obtain⟨_,g1,_,g3,g4,g5⟩:=f3 b hb
   exact⟨g3,g1,g4,g5⟩
 have stat:∀{H':Hp},(∀b∈fp,H' b=none)->∀b∈fp,nY (blk X scope cl C x { s2 with heap:=hp3 } H3 fp) [] H' b:=λhn b hb=>
  ⟨hn b hb,a8 (J9 b hb),Ad b hb,.inl hb,λa c h1=>(f3 b hb).2.2.2.2.1 a c (hsub a c h1),λp hp=>by simp[blk]at hp⟩
 have st₁:tn 0 h₁:=T.keep _ _ _ st2 λb _ o e=>old b o (by rw[<- hs3];exact ag _ e);have loop:codeAny (model X.prog X.w) X.A (.compLoop (.ListComp elt [⟨.Name x px,iter,ifs,0⟩] scope pos) 0 (.ref it) (.ref D) (compEnvC scope cl C X.env)) (compPost (model X.prog X.w) X.A X.xe none (EP X ao σ Q) (.ref D) C)
   { s2 with heap:=h₁,toks:=s2.toks+([]:List (Str × Value)).length }:=by
  refine yg (λn s'=>∃i v ys H',aL (blk X scope cl C x { s2 with heap:=hp3 } H3 fp) [] (v::σ) H' s'/\tn i s'.heap/\(∀b∈fp,H' b=none)/\W i n ys H') ?_ m0 ⟨0,none,[],H3,Y0,st₁,λb hb=>(f3 b hb).1,w0⟩;rintro n s4 ⟨i,v,ys,H4,I4,J_,Ae,w4⟩;rcases turn i n ys H4 w4 with⟨stop,qn⟩ | ⟨go,step⟩
  ·refine bN (T.done (blk X scope cl C x { s2 with heap:=hp3 } H3 fp) rfl rfl rfl hc i [] s4 (v::σ) H4 _ I4 (stat Ae) J_ stop) λr s5 ⟨hr,I5⟩=>?_
   subst hr;obtain⟨m,hn,_⟩:=id I5.loc;exact⟨m,hn,λh' sb=>⟨.ref D,H4,back s5 v H4 h' I5 sb Ae,rfl,qn⟩⟩
  ·refine bN (T.item (blk X scope cl C x { s2 with heap:=hp3 } H3 fp) rfl rfl rfl hc i [] s4 (v::σ) H4 _ I4 (stat Ae) J_ go) λr s5 zz=>?_;obtain⟨u,hr,h5⟩:=zz
   subst hr;refine bN h5 λ_ s6 zz=>?_;obtain⟨y,H6,I6,r6,y6,Af,WK⟩:=zz;have WL:=I6.pinned (stat WK) (T.obj _ _ Af);refine kX (xW (X:=blk X scope cl C x { s2 with heap:=hp3 } H3 fp) (i:=0) WL ?_ rfl (.inl (lookup_relabel_local ok.hx)) r6 (λs7 I7=>?_) (.inr (lookup_relabel_local ok.hx)))
   ·show (x::X.N).Nodup
    exact eR.mpr ⟨λz=>ok.out x z ok.hx,ok.nd⟩
   have WM:aL (blk X scope cl C x { s2 with heap:=hp3 } H3 fp) _ (some y::σ) H6 s7:=I7;refine bN (ht cl C { s2 with heap:=hp3 } H3 fp _ s7 _ H6 _ WM (step y H6 y6)) λb s8 zz=>?_;obtain⟨H8,I8,q8⟩:=zz;have q_:∀{σ':St} {H':Hp} {s':Shared},aL (blk X scope cl C x { s2 with heap:=hp3 } H3 fp) ([]++uf fp s6.heap) σ' H' s'->tn (i+1) s'.heap/\∀b∈fp,H' b=none:=λ{σ' H' s'} I9=>by
    refine⟨T.keep _ _ _ Af λb hb o e=>(I9.pin (b,o) (bP _ (bP _ (jm hb e)))).1,λb hb=>?_⟩;obtain⟨o,e,d⟩:=T.obj _ _ Af b hb;exact(I9.pin (b,o) (bP _ (bP _ (jm hb e)))).2.1
   cases b with
   | false=>
    obtain⟨m',hm,w'⟩:=q8;obtain⟨k1,k2⟩:=q_ I8;exact⟨m',hm,i+1,some y,ys,H8,I8.jZ,k1,k2,w'⟩
   | true=>
    have WQ:te (some y::σ) H8 _:=q8;show wpAny _ _ (eval elt _) _ _ _;refine bN (he cl C { s2 with heap:=hp3 } H3 fp _ s8 _ H8 _ I8 WQ) λz s9 zz=>?_;obtain⟨zv,H9,I9,r9,WR,WT,m',hm,w'⟩:=zz;refine bN (gK (X:=blk X scope cl C x { s2 with heap:=hp3 } H3 fp) _ s9 _ H9 (.ref D) [zv] (.ref D) [z] (λ_ H'=>H'=upd H9 D (.lst (ys++[zv]))) I9 rfl (.cons r9 .nil) ⟨D,ys,zv,rfl,rfl,WR,WT,rfl⟩) λ_ s10 zz=>?_;obtain⟨_,H10,Ka,_,e10⟩:=zz;subst e10;obtain⟨k1,k2⟩:=q_ Ka;exact⟨m',hm,i+1,some y,ys++[zv],_,Ka.jZ,k1,k2,w'⟩
 exact jp loop (T.self X.A 0 _ _ _ st₁ loop)
def dZ (n i:Nat)(P:Prop):Prop:=∃m',m' < n-i/\m'=n-(i+1)/\i+1<=n/\P
theorem dZ.mk {n i:Nat}{P:Prop}(h:i < n)(p:P):dZ n i P:=⟨_,by lia,rfl,h,p⟩
theorem WW {K:W.Frag}{a D:Addr}{xs:List V}{te:TE}{σ:St}{H:Hp}{R:Hp->Prop}(Pv:Nat->List V->Hp->Prop)(h0:Pv 0 [] (upd H D (.lst [])))(hl:∀i ys H,i<=xs.length->Pv i ys H->aU K H a xs)
  (hs:∀i x ys H,xs[i]?=some x->Pv i ys H->te (some x::σ) H λy H3=>H3 D=some (.lst ys)/\ys.length < sizeLine/\dZ xs.length i (Pv (i+1) (ys++[y]) (upd H3 D (.lst (ys++[y])))))
  (hd:∀ys H,Pv xs.length ys H->R H) :
  ∃W:Nat->Nat->List V->Hp->Prop,(∃m,W 0 m [] (upd H D (.lst [])))/\
   ∀i m ys H,W i m ys H->((uX K a).stop i H/\R H)\/((uX K a).go i H/\∀x H',(uX K a).pO i H x H'->iB (some x::σ) H' λb H2=>
    if b=true then te (some x::σ) H2 λy H3=>H3 D=some (.lst ys)/\ys.length < sizeLine/\∃m',m' < m/\W (i+1) m' (ys++[y]) (upd H3 D (.lst (ys++[y])))
    else ∃m',m' < m/\W (i+1) m' ys H2):=by
 refine⟨λi m ys H=>m=xs.length-i/\i<=xs.length/\Pv i ys H,⟨xs.length,by simp,b8 _,h0⟩,?_⟩;rintro i m ys H ⟨rfl,hi,p⟩;have q:=hl i ys H hi p;by_cases hlt:i < xs.length
 ·refine .inr ⟨⟨xs,xs[i],q,by simp[hlt]⟩,λx H' y=>?_⟩
  obtain⟨e,y⟩:=y;subst e;exact hs i x ys H' (y xs q) p
 ·have e:i=xs.length:=by lia
  subst e;exact .inl ⟨⟨xs,q,al _⟩,hd ys H p⟩
def S (l:List Nat):Str:=⟨l.toArray⟩
theorem abY (l:List Nat):(S l).cps.toList=l:=rfl
theorem qJ (l:List Nat):(S l).length=l.length:=rfl
theorem Mq {a b:List Nat}(h:S a=S b):a=b:=congrArg (λs:Str=>s.cps.toList) h
theorem ae6 (z:Str):S z.cps.toList=z:=by cases z;rfl
theorem agL (a b:List Nat):S a++S b=S (a++b):=by
 show (⟨a.toArray++b.toArray⟩:Str)=⟨(a++b).toArray⟩
 simp
theorem abZ (a b:List Nat):decide (V.str (S a)=V.str (S b))=decide (a=b):=by
 by_cases e:a=b
 ·subst e;simp
 ·rw[ae e,ae]
  intro z;injection z with z;exact e (Mq z)
section
variable {X:Cx}{a b c e o:Expr}{pos:Pos}
theorem acU (l:List Nat){x:Str}{j pos}(h:x=S l):PE X (.Constant (.str x) j pos) (tC (.str (S l))):=by rw[h];exact aej
def agM:R2:=λx y H Q=>∃i j,x=.str (S i)/\y=.str (S j)/\i.length+j.length<=sizeLine/\Q (.str (S (i++j))) H
theorem iT:fj X (binaryOp .Add) agM:=by
 intro ao s σ H x y v u Q I rx ry h;obtain⟨i,j,rfl,rfl,hz,q⟩:=h;exact TQ ao s σ H _ _ v u Q I rx ry ⟨S i,S j,rfl,rfl,hz,by rw[agL];exact q⟩
def agN:R2:=λx y H Q=>∃l i c,x=.str (S l)/\y=.int i/\l.length<=sizeLine/\oE l i=some c/\Q (.str (S [c])) H
theorem m5:M8 X agN:=by
 intro value slice ao s σ H x y v u Q I rx ry h hs;obtain⟨l,i,c,rfl,rfl,hz,hc,q⟩:=h;exact aeX value slice ao s σ H _ _ v u Q I rx ry ⟨S l,i,c,rfl,rfl,hz,hc,q⟩ hs
def T8:List V->Hp->VK->Prop:=λxs H Q=>∃l,xs=[.str (S l)]/\l.length<=sizeLine/\Q (.int l.length) H
theorem cJ:gb X (.builtin "len") T8:=by
 intro ao s σ H xs us Q I r h;obtain⟨l,rfl,hz,q⟩:=h;exact Nf ao s σ H _ us Q I r ⟨S l,rfl,hz,q⟩
def ahi:R2:=λx y H Q=>∃i j,x=.str (S i)/\y=.str (S j)/\Q (.bl (decide (i=j))) H
theorem rm:fj X (compareOp .Eq) ahi:=by
 intro ao s σ H x y v u Q I rx ry h;obtain⟨i,j,rfl,rfl,q⟩:=h;exact fW ao s σ H _ _ v u Q I rx ry ⟨rfl,by rw[abZ];exact q⟩
def ae7:R2:=λx y H Q=>∃i j,x=.str (S i)/\y=.str (S j)/\Q (.bl (!decide (i=j))) H
theorem lU:fj X (compareOp .NotEq) ae7:=by
 intro ao s σ H x y v u Q I rx ry h;obtain⟨i,j,rfl,rfl,q⟩:=h;exact oV ao s σ H _ _ v u Q I rx ry ⟨rfl,by rw[abZ];exact q⟩
def ahj:R2:=λx y H Q=>∃c l,x=.str (S [c])/\y=.str (S l)/\Q (.bl (decide (c∈l))) H
theorem ae8:fj X (compareOp .In) ahj:=by
 intro ao s σ H x y v u Q I rx ry h;obtain⟨c,l,rfl,rfl,q⟩:=h;exact Wg ao s σ H _ _ v u Q I rx ry ⟨S [c],S l,rfl,rfl,by
  have e:=StrLaws.found_one (S l) c;rw[abY]at e;rw[show (S [c])=(⟨#[c]⟩:Str) from rfl,e];exact q⟩
def m6 (l:List Nat)(lo hi:Option Int):List Nat:=(l.drop (HT.gO l.length 0 lo)).take (HT.gO l.length l.length hi-HT.gO l.length 0 lo)
theorem RM (lo hi:Option Int)(n:Nat):Builtin.Str.strSliceIndices lo hi 1 n=(List.range (HT.gO n n hi-HT.gO n 0 lo)).map (λk=>HT.gO n 0 lo+k):=by
 have clip:∀(v:Int) (d:Nat),max (0:Int) (min (if v < 0 then v+(n:Int) else v) (n:Int))=((HT.gO n d (some v):Nat):Int):=λv d=>by
  rw[<- HT.acI];split <;> lia
 have key:∀a b:Nat,sliceRange (a:Int) (b:Int) 1=(List.range (b-a)).map (λk=>a+k):=λa b=>by
  simp only[sliceRange,show ((1:Int) > 0)=True from by simp,if_true];by_cases hlt:(a:Int) < b
  ·have e3:(((b:Int)-a+1-1)/1).toNat=b-a:=by first | lia | (simp;done) | (simp;lia)
   simp only[hlt,if_true,e3];refine e7 λk _=>?_;lia
  ·have:b-a=0:=by lia
   simp[hlt,this]
 unfold Builtin.Str.strSliceIndices;simp only[show ((1:Int) > 0)=True from by simp,if_true];cases lo with
 | none=>
  cases hi with
  | none=>exact key 0 n
  | some j=>dsimp only;rw[clip j n];exact key 0 _
 | some i=>
  cases hi with
  | none=>dsimp only;rw[clip i 0];exact key _ n
  | some j=>dsimp only;rw[clip i 0,clip j n];exact key _ _
theorem WX (l:List Nat)(lo hi:Option Int):Txt.slice (S l) lo hi=S (m6 l lo hi):=by
 have hle:HT.gO l.length l.length hi<=l.length:=HT.aeV _ _ (al _) _;have key:((Builtin.Str.strSliceIndices lo hi 1 (S l).length).filterMap ((S l).cps[·]?))=m6 l lo hi:=by
  rw[RM];have h:=StrLaws.picks l (HT.gO l.length l.length hi-HT.gO l.length 0 lo) (HT.gO l.length 0 lo);unfold m6;by_cases hc:HT.gO l.length 0 lo<=HT.gO l.length l.length hi
  ·have h2:=h (by lia)
   rw[qJ];simpa [S] using h2
  ·have e:HT.gO l.length l.length hi-HT.gO l.length 0 lo=0:=by lia
   rw[qJ,e];simp
 unfold Txt.slice
 split
 ·rename_i hc
  have cA:(Builtin.Str.strSliceIndices lo hi 1 (S l).length).length=l.length:=by
   simp at hc;simpa [qJ] using hc
  have hl2:HT.gO l.length l.length hi-HT.gO l.length 0 lo=l.length:=by rw[RM,qJ]at cA;simpa using cA
  have h0:HT.gO l.length 0 lo=0\/l.length=0:=by lia
  have e:m6 l lo hi=l:=by
   unfold m6;rw[hl2];rcases h0 with z | z
   ·rw[z];simp
   ·have:l=[]:=List.length_eq_zero_iff.mp z
    subst this;simp
  rw[e]
 ·rw[key];rfl
def ahk:V->Option Int->Option Int->Hp->VK->Prop:=λx lo hi H Q=>∃l,x=.str (S l)/\l.length<=sizeLine/\Q (.str (S (m6 l lo hi))) H
theorem part_of {v:Value}{o:Option Int}(p:IsPart v o):∃l:Option (Int × Tok),v=partValue l/\l.map (·.1)=o:=by
 cases p with
 | none=>exact⟨none,rfl,rfl⟩
 | int i t=>exact⟨some (i,t),rfl,rfl⟩
theorem T9:SlR X ahk:=by
 intro ao s σ H x v vl vu lo hi sl Q I rx hs pl pu h;obtain⟨l,rfl,hz,q⟩:=h;obtain⟨t,rfl⟩:=rx;obtain⟨p1,rfl,rfl⟩:=part_of pl;obtain⟨p2,rfl,rfl⟩:=part_of pu;refine⟨"str",_,F.slot_str_getitem.lookup,typeIs_str _ _ _,?_⟩;refine wpAny_getItem_str_slice (l:=p1) (u:=p2) (st:=none) hs rfl ?_;have e:=WX l (p1.map (·.1)) (p2.map (·.1));have hle:(Txt.slice (S l) (p1.map (·.1)) (p2.map (·.1))).length<=sizeLine:=b9 (Txt.slice_le _ _ _) hz;refine post_val_or_str ⟨hle,λt' k=>?_⟩;have e':(if ((Option.map (λx:Int × Tok=>x.1) none).getD 1==1&&(slicePicked (S l) p1 p2 none).length==(S l).length)=true then S l else ⟨((slicePicked (S l) p1 p2 none).filterMap ((S l).cps[·]?)).toArray⟩)=S (m6 l (p1.map (·.1)) (p2.map (·.1))):=e;exact⟨.str (S (m6 l (p1.map (·.1)) (p2.map (·.1)))),H,I.tok _,⟨t',congrArg (λz=>Value.str z t') e'⟩,q⟩
abbrev Ts (ls:AA):List V:=ls.map λl=>V.str (S l)
def ab0 (K:W.Frag):List V->Hp->VK->Prop:=λxs H Q=>∃x n t b,xs=[x,.ty n]/\jO K H x t/\W.kitOne K t (.type n)=some b/\Q (.bl b) H
theorem iM:gb X (.builtin "isinstance") (ab0 X.K):=by
 intro ao s σ H xs us Q I r h;obtain⟨x,n,t,b,rfl,ty,k,q⟩:=h;obtain⟨u,w',rfl,r1,r2⟩:=vals2 r;cases r2;exact Wi I r1 ty k λtk=>⟨.bl b,H,I.tok tk,rfl,q⟩
def ab1:R2:=λx y H Q=>∃l n,x=.str (S l)/\y=.int (n:Nat)/\1<=n/\n < 1000/\l.length < 1000/\Q (.str (S (List.replicate n l).flatten)) H
theorem Ni (l:List Nat):∀(n:Nat) (acc:Array Nat),((List.replicate n l.toArray).foldl (· ++ ·) acc).toList=acc.toList++(List.replicate n l).flatten
 | 0,acc=>by simp
 | n+1,acc=>by
  rw[gS,List.foldl_cons,Ni l n,gS];simp
theorem Im:fj X (binaryOp .Mult) ab1:=by
 intro ao s σ H x y v u Q I rx ry h;obtain⟨l,n,rfl,rfl,h1,h2,h3,q⟩:=h;obtain⟨t,rfl⟩:=rx;obtain⟨t',rfl⟩:=ry;have hsmall:l.length*n<=1000*1000:=eK (aE h3) (aE h2);have hbig:(1000*1000:Nat)<=sizeLine:=by decide
 refine PySem.P.mul_str ?_ ?_ ?_ ?_
 ·rw[ae (by lia),ae (by lia)];rfl
 ·intro _ _
  have e:(2^63-1:Int)/(n:Int)>=1000:=by
   refine Int.le_ediv_of_mul_le (by lia) ?_;have:(1000:Int)*(n:Int)<=1000*1000:=by lia
   lia
  rw[qJ];lia
 ·intro _ _
  show decide (_ > _)=false;rw[ae];rw[qJ,c6];lia
 ·rw[if_neg (by lia)]
  have hres:(⟨(List.replicate (n:Int).toNat (S l).cps).foldl (· ++ ·) #[]⟩:Str)=S (List.replicate n l).flatten:=by
   have e:=Ni l n #[];rw[c6];unfold S;congr 1;apply j3.mp;simpa using e
  rw[hres]
  split
  ·rename_i hc
   have e:(List.replicate n l).flatten=l:=by
    simp at hc;rcases hc with z | z
    ·have:n=1:=by lia
     subst this;simp
    ·have:l=[]:=by simpa [S,Str.length] using z
     subst this;simp
   rw[e]at q;exact⟨.str (S l),H,I,⟨t,rfl⟩,q⟩
  ·refine⟨?_,.str (S (List.replicate n l).flatten),H,I.tok _,⟨_,rfl⟩,q⟩
   rw[qJ,len_rep,lS];lia
theorem RN (ls:AA):Txt.join (S []) (ls.map S)=S ls.flatten:=by
 unfold Txt.join Builtin.Str.glued;have key:∀(ls:AA) (acc:Array Nat),((ls.map S).foldl (λacc p=>acc++(S []).cps++p.cps) acc).toList=acc.toList++ls.flatten:=by
  intro ls
  induction ls with
  | nil=>intro acc;simp
  | cons l r ih=>intro acc;rw[bv,List.foldl_cons,ih];simp[S]
 unfold S;congr 1;apply j3.mp;cases ls with
 | nil=>rfl
 | cons l r=>
  have:=key r (S l).cps;have e:(List.map S (l::r)).drop 1=List.map S r:=rfl;show (((List.map S (l::r)).drop 1).foldl _ (S l).cps).toList=_;rw[e];exact this.trans (by simp[S])
def rJoin (K:W.Frag):V->List V->Hp->VK->Prop:=λx vs H Q=>∃p ls,x=.str (S [])/\vs=[.ref p]/\aU K H p (Ts ls)/\ls.flatten.length<=1000/\Q (.str (S ls.flatten)) H
theorem Df:∀{ls:AA} {us:List Value},Vals (Ts ls) us->StrsAre us (ls.map S)
 | [],_,.nil=>.nil
 | l::r,_,.cons q t=>by
  obtain⟨t',rfl⟩:=q;exact .cons (S l) t' (Df t)
theorem RP (ls:AA):((ls.map S).map (·.length)).sum=ls.flatten.length:=by
 induction ls with
 | nil=>rfl
 | cons l r ih=>rw[bv,bv,List.sum_cons,ih,ik,a_,qJ]
theorem xq:w6 X "str.join" (rJoin X.K):=by
 intro ao s σ H x vs v us Q I rx rv h;obtain⟨p,ls,rfl,rfl,hq,hz,q⟩:=h;obtain⟨t,rfl⟩:=rx;obtain⟨u,rfl,ru⟩:=vals1 rv;cases ru;obtain⟨its,r,pl,_⟩:=I.list hq;refine join_list pl.isList (ys:=ls.map S) (by simpa using Df r) ?_ λt' k=>?_
 ·rw[RP];show _+_*0<=_;lia
 ·exact⟨.str (S ls.flatten),H,I.tok k,⟨t',congrArg (λz=>Value.str z t') (RN ls)⟩,q⟩
end
structure aK (K:W.Frag)(mg:Str->Option Value)(name:Str)(st:Stmt)(ps:List Str):Prop where
 ex:∃f fd,gM K name name st f fd/\cO K fd ps []/\mg name=some (.ref f)
structure bO (P:Program)(w:World)(K:W.Frag)(mg:Str->Option Value)(base:Heap)(name:Str)(k:Nat)(ps:List Str)(sp:Sp):Prop where
 ex:∃f fd,cP P w K mg base fZ k f fd ps sp/\cO K fd ps []/\mg name=some (.ref f)/\W.keepIn K (.ref f)=true
theorem aK.ok {P:Program}{w:World}{K:W.Frag}{mg:Str->Option Value}{base:Heap}{name:Str}{st:Stmt}{N ps:List Str}{k:Nat}{sp:Sp}(D:aK K mg name st ps)(S:bh N ps (aJ st))(len:∀vs H Q E,sp vs H Q E->vs.length=ps.length)
  (hbody:∀(f:Addr) (bL:Value) (A:Around) (outer:List Env) (s:Shared) (H:Hp) (vs:List V) (Q:VK) (E:XK),dX k (A.deeper (envOfC name (aJ st) s.heap.objs.size f bL))->sp vs H Q E->
   ∃t,su (qb fZ P w K mg base N name (aJ st) f bL A outer s H E).MF (dg st) t/\t { nx:=λ_ H'=>Q .non H',rt:=Q } (start N vs) H):bO P w K mg base name (k+1) ps sp:=by
 obtain⟨f,fd,F,b,g⟩:=D.ex;exact⟨f,fd,F.ok S len (hbody f),b,g,F.kp⟩
section
variable {X:Cx}{x:Str}{p pos:Pos}{e:Expr}{es:List Expr}{t:TA}
theorem ae9 {k:Nat}{ps:List Str}{sp:Sp}(D:bO X.prog X.w X.K X.mg X.base x k ps sp)(hr:dX k X.A)(hg:Gl X x)(ha:PA X (e::es) t)(hdb:(x==("__debug__":Str))=false:=by decide)
  (hs:starEach (e::es) X.env=(false,eval e X.env)::starEach es X.env:=by rfl) (hpl:(backTo pos (starEach es X.env)).any (·.1)=false:=by rfl) :
  PE X (.Call (.Name x p) (e::es) [] pos) (Gs sp [] E0 t):=by
 obtain⟨f,fd,G,b,g,kp⟩:=D.ex;exact acF G hr hg g kp b .nil lK ha hdb hs hpl
end
theorem aA.upd {H:Hp}{p:Addr}{o:HO}(h:H p=none):aA H (upd H p o):=λb o' e=>by rw[aN (bU e h)];exact e
theorem aA.cD {H H':Hp}{p:Addr}{o:HO}(s:aA H H')(h:H p=none):aA H (L2.upd H' p o):=λb o' e=>by rw[aN (bU e h)];exact s b o' e
theorem bF {K:W.Frag}{h:Heap}{mg:Str->Option Value}{name:Str}{st:Stmt}{ps:List Str}{f:Addr}{oc:Value}{od an:Option Addr}{osl:Array (Option Value)}{kV doc pm bL ct:Value}(X:K.In h)(G:h.Ns mainGlobals mg)
  (a:W.nsIn K mainGlobals name=some (some (.ref f))) (l:K.lookup f=some ⟨oc,od,.func (W.fnOf name name (fB st) (dg st) (aJ st) .none kV doc pm an bL ct),osl⟩)
  (c:W.codeIn K bL name=true) (k:W.keepIn K (.ref f)=true)
  (hb:∀(kV doc pm:Value) (an:Option Addr) (bL ct:Value) (us:List Value),us.length=ps.length->bindArgs (W.fnOf name name (fB st) (dg st) (aJ st) .none kV doc pm an bL ct) ⟨us,[]⟩=pure (ps.zip us)):aK K mg name st ps:=
 ⟨f,_,iY l c k,(iY l c k).binds hb,b6 X G a⟩
theorem ae_ {K:W.Frag}{h:Heap}{mg:Str->Option Value}{st:Stmt}{x:Str}{f fa:Addr}{oc:Value}{od an:Option Addr}{osl:Array (Option Value)}{kV doc pm bL ct:Value}(X:K.In h)(G:h.Ns mainGlobals mg)(hfa:mg "law"=some (.ref fa))
  (a:W.nsIn K mainGlobals "law"=some (some (.ref f))) (l:K.lookup f=some ⟨oc,od,.func (W.fnOf "law" "law" (fB st) (dg st) (aJ st) .none kV doc pm an bL ct),osl⟩)
  (c:W.codeIn K bL "law"=true) (k:W.keepIn K (.ref f)=true)
  (hb:∀(kV doc pm:Value) (an:Option Addr) (bL ct v:Value),bindArgs (W.fnOf "law" "law" (fB st) (dg st) (aJ st) .none kV doc pm an bL ct) ⟨[v],[]⟩=pure [(x,v)]) :
  ∃fd:FuncData,gM K "law" "law" st fa fd/\∀(s:Shared) (v:Value),BindsTo s fd ⟨[v],[]⟩ [(x,v)]:=by
 have e:=hfa.symm.trans (b6 X G a);cases e;exact⟨_,iY l c k,λs v=>.of_eq (hb kV doc pm an bL ct v)⟩
def Mr (K:W.Frag):Sp:=λvs H Q _=>∃(a:Addr) (ns:List Int),vs=[.ref a]/\aU K H a (ns.map V.int)/\ns.length<=63/\∀H',Q (.bl true) H'
theorem acV {x:Str}{l:W.OpenLaw}{q:Program}{loose:List Str}{XP:(Str->Option Value)->Heap->Prop}{YP:World->Heap->Prop}{d:DefRec}{K:Params->W.Frag}(hn:l.most=some 63)(hdf:d.params.defaults=[])
  (hY:∀(w:World) (h:Heap),YP w h->(K w.params).In h)
  (F:∀(w:World) (mg:Str->Option Value) (fa:Addr) (h:Heap),(K w.params).In h->h.Ns mainGlobals mg->mg d.name=some (.ref fa)->
   ∃fd:FuncData,(∀(s:Shared) (u:Value),BindsTo s fd ⟨[u],[]⟩ [(x,u)])/\∀base:Heap,(K w.params).In base->base.Ns mainGlobals mg->cP l.prog w (K w.params) mg base fZ 20 fa fd [x] (Mr (K w.params))) :
  W.WalkO q loose XP YP l.row.toRowW d [] (λf vs=>PySem.call f vs):=
 L2.acQ (n:=63) (k:=20) (x:=x) (CX:=λ_=>fZ) (sp:=λw=>Mr (K w.params)) hn (by decide) hdf ⟨rfl,by decide,by decide⟩ hY F (λ_ _ a ns hl _ hS=>⟨a,ns,rfl,hS,hl,λ_=>rfl⟩) λ_ _ _ _ _ z=>z
namespace RV
end RV
structure QE (X:Cx)(e:Expr)(t:TE):Prop where
 out:PE X e t
structure QT (X:Cx)(e:Expr)(t:TT):Prop where
 out:PT X e t
structure QW (X:Cx)(e:Expr)(t:TT):Prop where
 out:PW X e t
structure QA (X:Cx)(es:List Expr)(t:TA):Prop where
 out:PA X es t
structure QS (X:Cx)(st:Stmt)(t:TS):Prop where
 out:PS X st t
structure rz (X:Cx)(st:List Stmt)(t:TS):Prop where
 out:su X st t
structure QG (X:Cx)(e:Expr)(t:TG):Prop where
 out:PG X e t
structure WY (X:Cx)(es:List Expr)(t:zW):Prop where
 out:V9 X es t
structure QI (X:Cx)(tg iter:Expr)(wi:TI):Prop where
 out:PI X tg iter wi
structure QO (X:Cx)(e:Option Expr)(t:TO):Prop where
 out:PO X e t
structure QC (X:Cx)(op:CmpOp)(a b:Expr)(t:TE):Prop where
 out:PC X op a b t
structure W0 (X:Cx)(ifs:List Expr)(t:TT):Prop where
 out:RL X ifs t
theorem QW.qt {X:Cx}{e:Expr}{t:TT}(h:QW X e t):QT X e t:=⟨h.out.pt⟩
section
variable {X:Cx}{st:Stmt}{rest:List Stmt}{t u:TS}
variable {pos:Pos}
variable {e:Expr}{te:TE}
variable {tg:Expr}
variable {o value:Expr}{f:Str}{pos':Pos}{ta tv:TE}
variable {a b:Expr}{tb:TE}
variable {c:Expr}{tc:TE}
variable {tA:TT}
theorem bC  : rz X [] abL:=
 ⟨acw⟩
theorem aD (h1:QS X st t)(h2:rz X rest u):rz X (st::rest) (aex t u):=
 ⟨Zv h1.out h2.out⟩
theorem aF (h1:QS X st t):rz X [st] t:=
 ⟨acy h1.out⟩
theorem bW {c:Expr}{a b:List Stmt}{tc:TT}(hc:QT X c tc)(ha:rz X a t)(hb:rz X b u):QS X (.If c a b pos) (aez tc t u):=
 ⟨agD hc.out ha.out hb.out⟩
theorem aY (he:QE X e te):QS X (.Return (some e) pos) (Zw te):=
 ⟨aey he.out⟩
theorem dD (he:QE X e te)(hs:swapsWith e none pos.line X.env=pure false:=by rfl):QS X (.Expr e pos) (abM te):=
 ⟨acz he.out hs⟩
theorem dh {iter:Expr}{body:List Stmt}{wi:TI}{g:TG}{tb:TS}{pos:Pos}(hp:PassesOwn (model X.prog X.w) X.A X.env X.xe)(hc:X.calm=true)(hi:QI X tg iter wi)(hg:QG X tg g)(hb:rz X body tb)(hs:∀x,foldedSetIterable iter X.env x=pure x:=by intro _;rfl):QS X (.For tg iter body [] pos) (aeG wi g tb):=
 ⟨aeH hp hc hi.out hg.out hb.out hs⟩
theorem yh {c:Expr}{body:List Stmt}{tc:TT}{tb:TS}(hp:PassesOwn (model X.prog X.w) X.A X.env X.xe)(hc:QT X c tc)(hb:rz X body tb):QS X (.While c body [] pos) (V_ tc tb):=
 ⟨Zy hp hc.out hb.out⟩
theorem aQ {i:Nat}{x:Str}{e:Expr}{te:TE}{pos':Pos}(hN:X.N.Nodup)(hi:X.N[i]?=some x)(hx:Loc X.env.scope x)(he:QE X e te)(hs:swapsWith e (some (.Name x pos')) pos.line X.env=pure false:=by rfl)(hf:X.fn x=true\/X.env.scope.names.lookup x=some .local:=by first | exact .inl rfl | exact .inr rfl | assumption):QS X (.Assign [.Name x pos'] e pos) (Ii te (mH i)):=
 ⟨aeD hN hi hx he.out hs hf⟩
theorem Kc {sts:List Stmt}:rz X sts V7:=
 ⟨V8⟩
theorem Gy (ha:QE X o ta)(hv:QE X value tv)(hs:swapsWith value (some (.Attribute o f pos')) pos.line X.env=pure false):QS X (.Assign [.Attribute o f pos'] value pos) (aeL X.K ta tv f):=
 ⟨aeN ha.out hv.out hs⟩
theorem rB {tg e:Expr}{te:TE}{g:TG}(he:QE X e te)(hg:QG X tg g)(hs:swapsWithSole [tg] e pos.line X.env=pure false:=by rfl)(hw:swappedStores [tg] e X.env=pure none:=by rfl)(h1:(assignEach [tg] X.env).map (·.2)=[assign tg X.env]:=by rfl):QS X (.Assign [tg] e pos) (Ii te g):=
 ⟨aeC he.out hg.out hs hw h1⟩
theorem bH {i:Nat}{x:Str}(hN:X.N.Nodup)(hi:X.N[i]?=some x)(hx:Loc X.env.scope x)(hf:X.fn x=true\/X.env.scope.names.lookup x=some .local:=by first | exact .inl rfl | exact .inr rfl | assumption):QG X (.Name x pos) (mH i):=
 ⟨pX hN hi hx hf⟩
theorem lu {es:List Expr}{k:Nat}{t:zW}{n:Nat}(hc:X.calm=true)(h:WY X es t)(hn:(assignEach es X.env).length=n:=by rfl)(hst:(assignEach es X.env).findIdx? (·.1)=none:=by rfl):QG X (.Tuple es k pos) (Tv X.K n t):=
 ⟨MJ hc h.out hn hst⟩
theorem iU  : WY X [] Tt:=
 ⟨Ih⟩
theorem bV {e:Expr}{es:List Expr}{t:TG}{u:zW}(h1:QG X e t)(h2:WY X es u)(hs:(assignEach (e::es) X.env).map (·.2)=assign e X.env::(assignEach es X.env).map (·.2):=by rfl):WY X (e::es) (xX t u):=
 ⟨pY h1.out h2.out hs⟩
theorem aB {i j pos}:QE X (.Constant (.int i) j pos) (tC (.int i)):=
 ⟨aeh⟩
theorem iI {b j pos}:QE X (.Constant (.bool b) j pos) (tC (.bl b)):=
 ⟨agA⟩
theorem ur {j pos}:QE X (.Constant .none j pos) (tC .non):=
 ⟨aei⟩
theorem bB {op:Operator}{r:R2}(ho:fj X (binaryOp op) r)(ha:QE X a ta)(hb:QE X b tb):QE X (.BinOp a op b pos) (sy r ta tb):=
 ⟨agE ho ha.out hb.out⟩
theorem yj {op:UnaryOp}{r:V->Hp->VK->Prop}(ho:UnR X (unaryOp op) r)(ha:QE X a ta):QE X (.UnaryOp op a pos) (tUn r ta):=
 ⟨agF ho ha.out⟩
theorem dU {op:CmpOp}{r:R2}(ho:fj X (compareOp op) r)(ha:QE X a ta)(hb:QE X b tb)(hm:behindInMarks op b=false):QE X (.Compare a [op] [b] pos) (sy r ta tb):=
 ⟨acB ho ha.out hb.out hm⟩
theorem bw {op:CmpOp}{r:R2}(ho:fj X (compareOp op) r)(ha:QE X a ta)(hb:QE X b tb)(hm:behindInMarks op b=false):QT X (.Compare a [op] [b] pos) (xY (sy r ta tb)):=
 ⟨acC ho ha.out hb.out hm⟩
theorem j6 {op op':CmpOp}{r r':R2}(ho:fj X (compareOp op) r)(ho':fj X (compareOp op') r')(ha:QE X a ta)(hb:QE X b tb)(hc:QE X c tc)(hm:lastMarks [op,op'] [b,c]=false:=by with_unfolding_all rfl):QE X (.Compare a [op,op'] [b,c] pos) (Aa r r' ta tb tc):=
 ⟨ZD ho ho' ha.out hb.out hc.out hm⟩
theorem ux {op op':CmpOp}{r r':R2}(ho:fj X (compareOp op) r)(ho':fj X (compareOp op') r')(ha:QE X a ta)(hb:QE X b tb)(hc:QE X c tc)(hm:lastMarks [op,op'] [b,c]=false:=by with_unfolding_all rfl):QT X (.Compare a [op,op'] [b,c] pos) (xY (Aa r r' ta tb tc)):=
 ⟨ZF ho ho' ha.out hb.out hc.out hm⟩
theorem dj {e:Expr}{t:TE}(h:QE X e t)(he:∀whole,isTrue e X.env whole=(do let v <- whole;standAt e.pos;holding [v] (truthy v)):=by intro _;rfl):QT X e (tB t):=
 ⟨ael h.out he⟩
theorem eO (ha:QT X a tA):QT X (.UnaryOp .Not a pos) (aen tA):=
 ⟨aer ha.out⟩
end
section
variable {X:Cx}{a b:Expr}{pos:Pos}{tA nq:TT}{rest:List Expr}
variable {ta tb:TE}
variable {e:Expr}{te:TE}{lo hi:Option Expr}{tl th:TO}{p2:Pos}
variable {es:List Expr}{t:TA}
variable {x:Str}{p:Pos}{id:String}{r:List V->Hp->VK->Prop}
variable {T:String}
theorem jq (ha:QT X a tA)(hb:QW X (.BoolOp .And (b::rest) pos) nq):QW X (.BoolOp .And (a::b::rest) pos) (aem tA nq):=
 ⟨aep ha.out hb.out⟩
theorem lD (ha:QT X a tA):QW X (.BoolOp .And [a] pos) tA:=
 ⟨acv ha.out⟩
theorem j7 (ha:QT X a tA)(hb:QW X (.BoolOp .Or (b::rest) pos) nq):QW X (.BoolOp .Or (a::b::rest) pos) (tOr tA nq):=
 ⟨agB ha.out hb.out⟩
theorem jc (ha:QT X a tA):QW X (.BoolOp .Or [a] pos) tA:=
 ⟨aeo ha.out⟩
theorem lV (ha:QE X a ta)(hb:QE X (.BoolOp .And (b::rest) pos) tb):QE X (.BoolOp .And (a::b::rest) pos) (abJ ta tb):=
 ⟨aev ha.out hb.out⟩
theorem T_ (ha:QE X a ta)(hb:QE X (.BoolOp .Or (b::rest) pos) tb):QE X (.BoolOp .Or (a::b::rest) pos) (aes ta tb):=
 ⟨agC ha.out hb.out⟩
theorem jP {op}{t:TE}(h:QE X a t):QE X (.BoolOp op [a] pos) t:=
 ⟨aeu h.out⟩
theorem afa (ha:QE X a ta):QE X (.UnaryOp .Not a pos) (abK ta):=
 ⟨aew ha.out⟩
theorem qg {c:Expr}(hc:QT X c tA)(ha:QE X a ta)(hb:QE X b tb):QE X (.IfExp c a b pos) (tIf tA ta tb):=
 ⟨Zu hc.out ha.out hb.out⟩
theorem aP {r:R2}(hr:M8 X r)(ha:QE X a ta)(hb:QE X b tb)(hs:Rz b):QE X (.Subscript a b pos) (sy r ta tb):=
 ⟨agG hr ha.out hb.out hs⟩
theorem j8 {r:V->Option Int->Option Int->Hp->VK->Prop}(hr:SlR X r)(he:QE X e te)(hl:QO X lo tl)(hu:QO X hi th):QE X (.Subscript e (.Slice lo hi none p2) pos) (tSl r te tl th):=
 ⟨ZP hr he.out hl.out hu.out⟩
theorem oF  : QO X none Rx:=
 ⟨acJ⟩
theorem lE (h:QE X e te):QO X (some e) (abS te):=
 ⟨acK h.out⟩
theorem d7 (h:QA X es t):QE X (.List es pos) (aeR t):=
 ⟨aeT h.out⟩
theorem cH {x1}(h:QA X es t):QE X (.Tuple es x1 pos) (aeQ t):=
 ⟨aeS h.out⟩
theorem aq  : QA X [] oW:=
 ⟨aeP⟩
theorem aj (ha:QE X e te)(hr:QA X es t)(hs:starEach (e::es) X.env=(false,eval e X.env)::starEach es X.env:=by rfl):QA X (e::es) (j4 te t):=
 ⟨acE ha.out hr.out hs⟩
theorem aO (hc:gb X (.builtin id) r)(hg:Gl X x)(hm:X.mg x=none)(hv:bootBuiltins x=some (.builtin id))(ha:QA X (e::es) t)(hn:x≠"__name__":=by decide)(hdb:(x==("__debug__":Str))=false:=by decide)(he:starEach (e::es) X.env=(false,eval e X.env)::starEach es X.env:=by rfl)(hpl:(backTo pos (starEach es X.env)).any (·.1)=false:=by rfl):QE X (.Call (.Name x p) (e::es) [] pos) (M7 r t):=
 ⟨ZM hc hg hm hv ha.out hn hdb he hpl⟩
theorem dR (hc:gb X (.type T) r)(hg:Gl X x)(hm:X.mg x=none)(hv:bootBuiltins x=some (.type T))(ha:QA X (e::es) t)(hn:x≠"__name__":=by decide)(hdb:(x==("__debug__":Str))=false:=by decide)(he:starEach (e::es) X.env=(false,eval e X.env)::starEach es X.env:=by rfl)(hpl:(backTo pos (starEach es X.env)).any (·.1)=false:=by rfl):QE X (.Call (.Name x p) (e::es) [] pos) (M7 r t):=
 ⟨Wm hc hg hm hv ha.out hn hdb he hpl⟩
end
section
variable {X:Cx}{o e:Expr}{es:List Expr}{to:TE}{t:TA}{name:Str}{apos cpos:Pos}{T id:String}{r:V->List V->Hp->VK->Prop}
variable {tg:Expr}
variable {f:Str}{pos:Pos}{ta:TE}
theorem fX (pa:PlainAttrs T)(slot:Slot T name id)(hty:typeOf (.builtin id)=pure (.type "method_descriptor"))(hm:w6 X id r)(ho:QE X o to)(ha:QA X (e::es) t)(hbase:attributeBase o name X.env (eval o X.env)=eval o X.env:=by rfl)(hfew:((backTo cpos (starEach (e::es) X.env)).all (λx=>!x.1)&&(backToKw cpos (keywordEach [] X.env)).all (λx=>x.1.isSome)
   && decide ((e::es).length+([]:List Keyword).length+(if ([]:List Keyword).isEmpty then 0 else 1) < 30))=true:=by rfl) (hline:(apos.endLine==cpos.line)=true:=by rfl) (hs:starEach (e::es) X.env=(false,eval e X.env)::starEach es X.env:=by rfl) (hplain:(backTo cpos (starEach es X.env)).any (·.1)=false:=by rfl):QE X (.Call (.Attribute o name apos) (e::es) [] cpos) (tBM X.K T r to t):=
 ⟨agI pa slot hty hm ho.out ha.out hbase hfew hline hs hplain⟩
theorem lB (pa:PlainAttrs T)(slot:Slot T name id)(hty:typeOf (.builtin id)=pure (.type "method_descriptor"))(hm:w6 X id r)(ho:QE X o to)(hbase:attributeBase o name X.env (eval o X.env)=eval o X.env:=by rfl)(hline:(apos.endLine==cpos.line)=true:=by rfl):QE X (.Call (.Attribute o name apos) [] [] cpos) (ae0 X.K T r to):=
 ⟨ae1 pa slot hty hm ho.out hbase hline⟩
theorem mJ {x:Str}{v:V}{u:Value}{pos:Pos}(hg:Gl X x)(hm:X.mg x=none)(hv:bootBuiltins x=some u)(r:cu v u)(hn:x≠"__name__":=by decide)(hd:(x==("__debug__":Str))=false:=by decide):QE X (.Name x pos) (tC v):=
 ⟨acu hg hm hv r hn hd⟩
theorem f9 {x:Str}{v:V}{u:Value}{pos:Pos}(hg:Gl X x)(hm:X.mg x=some u)(r:cu v u)(hd:(x==("__debug__":Str))=false:=by decide):QE X (.Name x pos) (tC v):=
 ⟨acs hg hm r hd⟩
theorem gF {l:Expr}{tl:TE}(hl:QE X l tl):QI X tg l (abN X.K tl):=
 ⟨acA hl.out⟩
theorem dW {l:Expr}{tl:TE}(hl:QE X l tl):QI X tg l (aeE X.K tl):=
 ⟨aeF hl.out⟩
theorem jW {a:Expr}{ta:TA}{p pos:Pos}(hg:Gl X "range")(hm:X.mg "range"=none)(ha:QA X [a] ta)(hs:starEach [a] X.env=[(false,eval a X.env)]:=by rfl):QI X tg (.Call (.Name "range" p) [a] [] pos) (abO ta):=
 ⟨Wb hg hm ha.out hs⟩
theorem u6 {a b:Expr}{ta:TA}{p pos:Pos}(hg:Gl X "range")(hm:X.mg "range"=none)(ha:QA X [a,b] ta)(hs:starEach [a,b] X.env=[(false,eval a X.env),(false,eval b X.env)]:=by rfl)(hs2:starEach [b] X.env=[(false,eval b X.env)]:=by rfl):QI X tg (.Call (.Name "range" p) [a,b] [] pos) (abP ta):=
 ⟨Wc hg hm ha.out hs hs2⟩
theorem jr (he:QE X e ta)(hb:attributeBase e f X.env (eval e X.env)=eval e X.env):QE X (.Attribute e f pos) (aeK X.K ta f):=
 ⟨aeM he.out hb⟩
end
section
variable {X:Cx}{CX:nD}{k:Nat}{f C:Addr}{fd:FuncData}{ps:List Str}{sp:Sp}{iW:List V}{ds:List Value}{E:XK}{m:Str}{pos apos:Pos}{e o:Expr}{es:List Expr}{ta:TE}{t:TA}
variable {x:Str}{p:Pos}
variable {i:Expr}{td ty:TE}
variable {value:Expr}{tv:TE}{pos':Pos}
variable {a b:Expr}
theorem qj {pl:Sem Bool}(he:QE X o ta)(c:Cls X.K C)(hm:Meth X.K C m f)(F:cP X.prog X.w X.K X.mg X.base CX k f fd ps sp)(hr:dX k X.A)(hb:cO X.K fd ps ds)(hd:Vals iW ds)(hx:Passes CX X E)(ha:QA X (e::es) t)(hst:starEach (e::es) X.env=(false,eval e X.env)::starEach es X.env:=by rfl)(hpl:(backTo pos (starEach es X.env)).any (·.1)=false:=by rfl)(ht:eval (.Call (.Attribute o m apos) (e::es) [] pos) X.env=(do
   let ov <- eval o X.env
   standAt apos.atName
   let (f,first) <- holding [ov] (getMethod ov m pl)
   callWith pos f first (backTo pos (starEach (e::es) X.env)) (backToKw pos (keywordEach [] X.env))):=by rfl):QE X (.Call (.Attribute o m apos) (e::es) [] pos) (Mi C m sp iW E ta t):=
 ⟨acG he.out c hm F hr hb hd hx ha.out hst hpl ht⟩
theorem Ep {pl:Sem Bool}(he:QE X o ta)(c:Cls X.K C)(hm:Meth X.K C m f)(F:cP X.prog X.w X.K X.mg X.base CX k f fd ps sp)(hr:dX k X.A)(hb:cO X.K fd ps ds)(hd:Vals iW ds)(hx:Passes CX X E)(ht:eval (.Call (.Attribute o m apos) [] [] pos) X.env=(do
   let ov <- eval o X.env
   standAt apos.atName
   let (f,first) <- holding [ov] (getMethod ov m pl)
   callWith pos f first (backTo pos (starEach [] X.env)) (backToKw pos (keywordEach [] X.env))):=by rfl):QE X (.Call (.Attribute o m apos) [] [] pos) (Mi C m sp iW E ta oW):=
 ⟨ZK he.out c hm F hr hb hd hx ht⟩
theorem Io (M:Mk X.K C f)(F:cP X.prog X.w X.K X.mg X.base CX k f fd ps sp)(hr:dX (k+1) X.A)(hg:Gl X x)(hm:X.mg x=some (.ref C))(hb:cO X.K fd ps ds)(hd:Vals iW ds)(hx:Passes CX X E)(ha:QA X (e::es) t)(hdb:(x==("__debug__":Str))=false:=by decide)(he:starEach (e::es) X.env=(false,eval e X.env)::starEach es X.env:=by rfl)(hpl:(backTo pos (starEach es X.env)).any (·.1)=false:=by rfl):QE X (.Call (.Name x p) (e::es) [] pos) (abQ C sp iW E t):=
 ⟨acH M F hr hg hm hb hd hx ha.out hdb he hpl⟩
theorem Z7  : QE X (.Dict [] [] pos) Wv:=
 ⟨Z4⟩
theorem afb (hu:X.A.units+1 < cLine)(hi:QE X i ty)(ho:QE X o td):QC X .In i o (ae4 ty td):=
 ⟨ae5 hu hi.out ho.out⟩
theorem RQ (hu:X.A.units+1 < cLine)(ho:QE X o td)(hi:QE X i ty)(hv:QE X value tv)(hs:swapsWith value (some (.Subscript o i pos')) pos.line X.env=pure false):QS X (.Assign [.Subscript o i pos'] value pos) (abW td ty tv):=
 ⟨acP hu ho.out hi.out hv.out hs⟩
theorem afc {op:CmpOp}{t:TE}(h:QC X op a b t)(h1:behindInMarks op b=false:=by first | exact Zt _ (by decide) (by decide) | rfl):QE X (.Compare a [op] [b] pos) t:=
 ⟨aek h.out h1⟩
theorem qv (i:Nat){x:Str}{pos:Pos}(hN:X.N[i]?=some x:=by rfl)(hv:Vis X.env.scope x:=by first | exact Or.inl rfl | exact Or.inr (Or.inl rfl) | exact Or.inr (Or.inr rfl))(hd:(x==("__debug__":Str))=false:=by decide)(hcd:(x==("__classdict__":Str))=false:=by decide):QE X (.Name x pos) (gY i):=
 ⟨pv i hN hv hd hcd⟩
theorem cZ {X:Cx}:W0 X [] iB:=
 ⟨acR⟩
theorem xr {X:Cx}{c:Expr}{t:TT}(h:QT X c t):W0 X [c] t:=
 ⟨acS h.out⟩
theorem bZ (l:List Nat){x:Str}{j pos}(h:x=S l):QE X (.Constant (.str x) j pos) (tC (.str (S l))):=
 ⟨acU l h⟩
theorem aV {k:Nat}{ps:List Str}{sp:Sp}(D:bO X.prog X.w X.K X.mg X.base x k ps sp)(hr:dX k X.A)(hg:Gl X x)(ha:QA X (e::es) t)(hdb:(x==("__debug__":Str))=false:=by decide)(hs:starEach (e::es) X.env=(false,eval e X.env)::starEach es X.env:=by rfl)(hpl:(backTo pos (starEach es X.env)).any (·.1)=false:=by rfl):QE X (.Call (.Name x p) (e::es) [] pos) (Gs sp [] E0 t):=
 ⟨ae9 D hr hg ha.out hdb hs hpl⟩
end
theorem jQ {X:Cx}{elt iter:Expr}{x:Str}{px:Pos}{ifs:List Expr}{scope:Scope}{pos:Pos}{wi:TI}{tt:TT}{te:TE}(hc:X.calm=true)(ok:i_ X scope x)(hi:QI X (.Name x px) iter wi)
  (ht:∀cl C s₀ H₀ fp,W0 (blk X scope cl C x s₀ H₀ fp) ifs tt) (he:∀cl C s₀ H₀ fp,QE (blk X scope cl C x s₀ H₀ fp) elt te)
  (hs:∀x,foldedSetIterable iter X.env x=pure x:=by intro _;rfl):QE X (.ListComp elt [⟨.Name x px,iter,ifs,0⟩] scope pos) (abX wi tt te):=
 ⟨acT hc ok hi.out (λcl C s₀ H₀ fp=>(ht cl C s₀ H₀ fp).out) (λcl C s₀ H₀ fp=>(he cl C s₀ H₀ fp).out) hs⟩
theorem aK.dz {P:Program}{w:World}{K:W.Frag}{mg:Str->Option Value}{base:Heap}{name:Str}{st:Stmt}{N ps:List Str}{k:Nat}{sp:Sp}(D:aK K mg name st ps)(S:bh N ps (aJ st))(len:∀vs H Q E,sp vs H Q E->vs.length=ps.length)
  (hbody:∀(f:Addr) (bL:Value) (A:Around) (outer:List Env) (s:Shared) (H:Hp) (vs:List V) (Q:VK) (E:XK),dX k (A.deeper (envOfC name (aJ st) s.heap.objs.size f bL))->sp vs H Q E->
   ∃t,rz (qb fZ P w K mg base N name (aJ st) f bL A outer s H E).MF (dg st) t/\t { nx:=λ_ H'=>Q .non H',rt:=Q } (start N vs) H):bO P w K mg base name (k+1) ps sp:=
 D.ok S len λf bL A outer s H vs Q E hr h=>let ⟨t,a,b⟩:=hbody f bL A outer s H vs Q E hr h;⟨t,a.out,b⟩
theorem gM.dz {P:Program}{w:World}{K:W.Frag}{mg:Str->Option Value}{base:Heap}{x qual:Str}{st:Stmt}{f:Addr}{fd:FuncData}{N ps:List Str}{k:Nat}{sp:Sp}(F:gM K x qual st f fd)(S:bh N ps (aJ st))(len:∀vs H Q E,sp vs H Q E->vs.length=ps.length)
  (hbody:∀(bL:Value) (A:Around) (outer:List Env) (s:Shared) (H:Hp) (vs:List V) (Q:VK) (E:XK),dX k (A.deeper (envOfC qual (aJ st) s.heap.objs.size f bL))->sp vs H Q E->
   ∃t,rz (qb fZ P w K mg base N qual (aJ st) f bL A outer s H E).MF (dg st) t/\t { nx:=λ_ H'=>Q .non H',rt:=Q } (start N vs) H):cP P w K mg base fZ (k+1) f fd ps sp:=
 F.ok S len λbL A outer s H vs Q E hr h=>let ⟨t,a,b⟩:=hbody bL A outer s H vs Q E hr h;⟨t,a.out,b⟩
section
variable {prog:Program}{w:World}{A:Around}{E:AB}{s:Shared}
theorem Ua {v:Value}{Q:AB}(ahl:wpAny (model prog w) A.in1 (collect v) (λvs s1=>∃ss,StrsAre vs ss/\vs.length < 64/\
   ∀(h':Heap) (vs':List Value) (ss':List Str) (e:Nat),(∀b o,s1.heap.get? b=some o->h'.get? b=some o)->h'.get? s1.heap.objs.size=some (seqObj "list" vs'.toArray e)->StrsAre vs' ss'->ss'.Perm ss->sortedS ss'=true->
    Q (.ref s1.heap.objs.size) { s1 with heap:=h' }) E s):wpAny (model prog w) A (call (.builtin "sorted") [v]) Q E s:=by
 refine Calls.call_function_entry kind_sorted plain_sorted entry_sorted (args_sorted1 _) ?_;unfold Builtin.«sorted»;refine ad (m:=checkCount "sorted" 1 1 _) (am ?_);refine ad (bN ahl λvs s1 ⟨ss,hS,h64,h⟩=>?_);refine ad (wpAny_newList ?_);have hoL:(s1.heap.push (seqObj "list" vs.toArray 0)).get? s1.heap.objs.size=some (seqObj "list" vs.toArray 0):=aT _ rfl;refine ad (cK (eB slot_list_sort (s:={ s1 with heap:=s1.heap.push (seqObj "list" vs.toArray 0) }) ⟨_,hoL,rfl⟩ entry_list_sort
  (list_sort_treeK (s:={ s1 with heap:=s1.heap.push (seqObj "list" vs.toArray 0) }) strKind_oneLt hoL hS.keysOf (λv₁ v₂ rest e=>keyKind_strs (by rw[<- e];exact hS)) h64 λst' hp hs=>⟨_,rfl,?_⟩) (args_list_sort _)))
 obtain⟨ss',h1,h2,h3⟩:=sorted_out_str hS hp hs;obtain⟨e,he⟩:=sortedHeap_at (vs:=vs) (out:=(arrOf st').map (·.2)) hoL;refine am ⟨_,rfl,h _ ((arrOf st').map (·.2)).toList ss' e (λb o z=>?_) (by rw[Array.toArray_toList];exact he) h1 h2 h3⟩;have hb:b < s1.heap.objs.size:=av z;rw[sortedHeap_old (a8 hb) (by rw[cS];exact d9 hb)];exact ag _ z
theorem uy:∀{ss:List Str} {us:List Value},StrsAre us ss->Vals (ss.map V.str) us
 | _,_,.nil=>.nil
 | _,_,.cons x t r=>.cons ⟨t,rfl⟩ (uy r)
end
def Its (l:List Nat):It:=⟨λi _=>i < l.length,λi H x H'=>H'=H/\∃c,l[i]?=some c/\x=.str (S [c]),λi _=>l.length<=i⟩
theorem Z8 {P:Program}{w:World}{K:W.Frag}{tg:Expr}{ty:String}(hty:ty="str_ascii_iterator"\/ty="str_iterator")(l:List Nat)(t:Tok)(it:Addr) :
  Turn P w K tg (Its l) [it] it (λi h=>i<=l.length/\h.IsStrIter it ty (S l) t i) where
 mem:=by simp
 obj:=λi h st b hb=>by
  have e:b=it:=by simpa using hb
  subst e;obtain⟨_,o,e,c,d⟩:=st;exact⟨o,e,λv z=>by rw[d]at z;cases z⟩
 keep:=λi h h' st k=>⟨st.1,let ⟨o,ho,r⟩:=st.2;⟨o,k it (by simp) o ho,r⟩⟩
 item:=by
  intro X hP hw hK hc i ao s σ H E I hf st hg;subst hP hw hK;obtain⟨f0,f1,f2,f3,f4,f5⟩:=hf it (by simp);have hg':i < (S l).cps.size:=hg;have fin:∀(v:Value) (h':Heap) (tk:Nat),SignAt (S l) i v->h'.IsStrIter it ty (S l) t (i+1)->(∀b o,b∉[it]->s.heap.get? b=some o->h'.get? b=some o)->
    ∃u,some v=some u/\wpAny (model X.prog X.w) X.A (letOwnedTupleGo tg (.ref it) u) (λ_ s2=>∃x H',aL X ao σ H' s2/\cu x u/\(Its l).pO i H x H'/\(i+1<=l.length/\s2.heap.IsStrIter it ty (S l) t (i+1))/\∀b∈[it],H' b=none) E { s with heap:=h',toks:=tk }:=by
   intro v h' tk hv st' kk;obtain⟨c,u,hc',rfl⟩:=hv;have I1:aL X ao σ H { s with heap:=h',toks:=tk }:=I.turned (λb o hb e=>kk b o (by simpa using hb) e) f0 f1 f3 f4 f5;obtain⟨o,e,c2,d2⟩:=id st';refine⟨_,rfl,Mh (s:={ s with heap:=h',toks:=tk }) e c2 d2 (by rcases hty with rfl | rfl <;> decide) ⟨.str (S [c]),H,I1,⟨u,rfl⟩,⟨rfl,c,by simpa [S] using hc',rfl⟩,⟨hg,st'⟩,λb hb=>(hf b hb).1⟩⟩
  rcases hty with rfl | rfl
  ·exact(Walks.strAscii (prog:=X.prog) (w:=X.w) (I.ok.hd hc) it (S l) t).item i s _ _ hg' st.2 λv h' tk hv st' kk=>fin v h' tk hv st' kk
  ·exact(Walks.strWide (prog:=X.prog) (w:=X.w) (I.ok.hd hc) it (S l) t).item i s _ _ hg' st.2 λv h' tk hv st' kk=>fin v h' tk hv st' kk
 done:=by
  intro X hP hw hK hc i ao s σ H E I hf st hg;subst hP hw hK;obtain⟨f0,f1,f2,f3,f4,f5⟩:=hf it (by simp);have hi:i=(S l).cps.size:=Nat.le_antisymm st.1 hg;have st':=st.2;rw[hi]at st';rcases hty with rfl | rfl
  ·exact(Walks.strAscii (prog:=X.prog) (w:=X.w) (I.ok.hd hc) it (S l) t).done s _ _ st' λh' tk kk=>⟨rfl,I.turned (λb o hb e=>kk b o (by simpa using hb) e) f0 f1 f3 f4 f5⟩
  ·exact(Walks.strWide (prog:=X.prog) (w:=X.w) (I.ok.hd hc) it (S l) t).done s _ _ st' λh' tk kk=>⟨rfl,I.turned (λb o hb e=>kk b o (by simpa using hb) e) f0 f1 f3 f4 f5⟩
 self:=λA i s Q E st h=>by
  rcases hty with rfl | rfl
  ·exact wpAny_pyIter_striter_ascii st.2 h
  ·exact wpAny_pyIter_striter_wide st.2 h
theorem W2 {a b c:List Nat}(h1:¬b < a)(h2:¬c < b):¬c < a:=by
 have h1':a<=b:=h1;have h2':b<=c:=h2;exact List.le_trans h1' h2'
theorem Kd:∀(r:List Str) (p:Str),risingS p r=true->(∀x∈r,¬x.cps.toList < p.cps.toList)/\(r.map λy=>y.cps.toList).Pairwise (λa b=>decide (b < a)=false)
 | [],_,_=>⟨λ_ h=>by simp at h,List.Pairwise.nil⟩
 | y::r,p,h=>by
  rw[risingS,ce]at h;have h0:¬y.cps.toList < p.cps.toList:=by
   have:=h.1;simpa [ltCps_eq] using this
  obtain⟨h1,h2⟩:=Kd r y h.2;refine⟨λx hx=>?_,?_⟩
  ·rcases bq.mp hx with e | e
   ·rw[e];exact h0
   ·exact W2 h0 (h1 x e)
  ·rw[bv]
   refine List.Pairwise.cons (λb hb=>?_) h2;obtain⟨x,hx,rfl⟩:=bp.mp hb;exact ae (h1 x hx)
theorem Ke (ss:List Str)(h:sortedS ss=true):(ss.map λy=>y.cps.toList).Pairwise (λa b=>decide (b < a)=false):=by
 cases ss with
 | nil=>exact List.Pairwise.nil
 | cons x r=>
  obtain⟨h1,h2⟩:=Kd r x h;rw[bv];refine List.Pairwise.cons (λb hb=>?_) h2;obtain⟨y,hy,rfl⟩:=bp.mp hb;exact ae (h1 y hy)
section
variable {X:Cx}{tg:Expr}
def ahm (tl:TE):TI:=λσ H R=>tl σ H λx H1=>∃l,x=.str (S l)/\R (Its l) H1
theorem uz {l:Expr}{tl:TE}(hl:QE X l tl):QI X tg l (ahm tl):=⟨by
 intro ao s σ H R I h;refine bN (hl.out ao s σ H _ I h) λv s1 zz=>?_;obtain⟨x,H1,I1,r1,q1⟩:=zz;obtain⟨l,e,q⟩:=q1;subst e;obtain⟨t,rfl⟩:=r1;refine wpAny_pyIter_strU ?_;have hty:strIterType (S l)="str_ascii_iterator"\/strIterType (S l)="str_iterator":=by unfold strIterType;split <;> simp
 refine⟨s1.heap.objs.size,[s1.heap.objs.size],_,_,H1,rfl,I1.kept (t':=s1.toks) λb o e=>ag _ e,Z8 hty l t _,⟨b8 _,_,aT _ rfl,rfl,rfl⟩,λb hb=>?_,q⟩;have e:b=s1.heap.objs.size:=by simpa using hb
 subst e;exact I1.Ij (al _) (I1.hok.fresh (al _))⟩
theorem uD {l:List Nat}{D:Addr}{te:TE}{σ:St}{H:Hp}{R:Hp->Prop}(Pv:Nat->List V->Hp->Prop)(h0:Pv 0 [] (upd H D (.lst [])))
  (hs:∀i c ys H,l[i]?=some c->Pv i ys H->te (some (.str (S [c]))::σ) H λy H3=>H3 D=some (.lst ys)/\ys.length < sizeLine/\dZ l.length i (Pv (i+1) (ys++[y]) (upd H3 D (.lst (ys++[y])))))
  (hd:∀ys H,Pv l.length ys H->R H) :
  ∃W:Nat->Nat->List V->Hp->Prop,(∃m,W 0 m [] (upd H D (.lst [])))/\
   ∀i m ys H,W i m ys H->((Its l).stop i H/\R H)\/((Its l).go i H/\∀x H',(Its l).pO i H x H'->iB (some x::σ) H' λb H2=>
    if b=true then te (some x::σ) H2 λy H3=>H3 D=some (.lst ys)/\ys.length < sizeLine/\∃m',m' < m/\W (i+1) m' (ys++[y]) (upd H3 D (.lst (ys++[y])))
    else ∃m',m' < m/\W (i+1) m' ys H2):=by
 refine⟨λi m ys H=>m=l.length-i/\i<=l.length/\Pv i ys H,⟨l.length,by simp,b8 _,h0⟩,?_⟩;rintro i m ys H ⟨rfl,hi,p⟩;by_cases hlt:i < l.length
 ·refine .inr ⟨hlt,λx H' y=>?_⟩
  obtain⟨e,c,hc,e2⟩:=y;subst e e2;exact hs i c ys H' hc p
 ·have e:i=l.length:=by lia
  subst e;exact .inl ⟨al _,hd ys H p⟩
theorem jA (hc:X.calm=true):gb X (.builtin "all") (λxs H Q=>∃(p:Addr) (bs:List Bool),xs=[.ref p]/\aU X.K H p (bs.map V.bl)/\Q (.bl (bs.all id)) H):=by
 intro ao s σ H xs us Q I r h;obtain⟨p,bs,rfl,hq,q⟩:=h;obtain⟨u,rfl,ru⟩:=vals1 r;cases ru;obtain⟨its,rv,pl,hz⟩:=I.list hq;have hne:p≠s.heap.objs.size:=by
  obtain⟨o,ho,_⟩:=pl.isList;exact a8 (av ho)
 have hb:∀(i:Nat) (v:Value),its[i]?=some v->v=.bool (bs.getD i true):=λi v hv=>by
  have cA:=rv.length;have hi:i < bs.length:=by have:=(af.mp hv).1;simp at cA;lia
  obtain⟨u,hu,ru⟩:=rv.get (i:=i) (x:=.bl bs[i]) (by simp[hi]);rw[hv]at hu;cases hu;cases ru;simp[List.getD,hi]
 refine call_all_walk (eP pl.isList ?_);refine⟨s.heap.objs.size,_,_,_,_,_,λi=>bs.getD i true,rfl,Walks.list (A:=X.A.in1) (I.ok.hd hc) s.heap.objs.size p hne its.toArray,⟨⟨_,aT _ rfl,rfl,rfl⟩,pl.isList.at λo e=>ag _ e⟩,?_,λh' tk kk=>?_⟩
 ·intro i v s' Q' E' hv hq'
  have e:=hb i v (by simpa using hv);subst e;exact dA hq'
 ·have I1:aL X ao σ H { s with heap:=h',toks:=tk }:=I.kept λb o e=>kk b o (by
   intro hm;have:b=s.heap.objs.size:=by simpa using hm
   subst this;exact absurd (av e) (du _)) (ag _ e)
  refine⟨.bl (bs.all id),H,I1,?_,q⟩;show Value.bool _=Value.bool _;have cA:its.toArray.size=bs.length:=by have:=rv.length;simp at this;simp[this]
  rw[cA];congr 1;have key:∀bs:List Bool,(List.range bs.length).all (λi=>bs.getD i true)=bs.all id:=λbs=>by
   rw[f7,cz,cz];constructor
   ·intro h x hx
    obtain⟨i,hi,rfl⟩:=dm.mp hx;have:=h i (fi.mpr hi);simpa [List.getD,hi] using this
   ·intro h i hi
    have hi':=fi.mp hi;have:=h bs[i] (ai _);simpa [List.getD,hi'] using this
  exact key bs
def Z9:R2:=λx y H Q=>∃i j,x=.str (S i)/\y=.str (S j)/\Q (.bl (!decide (j < i))) H
theorem rC:fj X (compareOp .LtE) Z9:=by
 intro ao s σ H x y v u Q I rx ry h;obtain⟨i,j,rfl,rfl,q⟩:=h;obtain⟨t,rfl⟩:=rx;obtain⟨t',rfl⟩:=ry;exact PySem.P.le_str ⟨.bl _,H,I,rfl,q⟩
abbrev jk (l:List Nat):Key:=Sum.inr (S l)
theorem Nj (hc:X.calm=true):gb X (.builtin "sorted") (λxs H Q=>∃(d:Addr) (kvs:List (Key × V)) (ws:AA),xs=[.ref d]/\H d=some (.dK kvs)/\kvs.map (·.1)=ws.map jk/\ws.length < 64/\
  ∀(p:Addr) (ws':AA),H p=none->ws'.Perm ws->ws'.Pairwise (λa b=>decide (b < a)=false)->Q (.ref p) (upd H p (.lst (Ts ws')))):=by
 intro ao s σ H xs us Q I r h;obtain⟨d,kvs,ws,rfl,hd,hk,h64,q⟩:=h;obtain⟨u,rfl,ru⟩:=vals1 r;cases ru;obtain⟨hz,lo,vs,rel,dd⟩:=abU I.hok hd;obtain⟨ep,hat⟩:=dd.dictAt;have hkv:=KV.keys rel;have hlv:vs.length=ws.length:=by
  have h1:=KV.length rel;have h2:=congrArg List.length hk;simp at h2;lia
 refine Ua (W.kdu_collect (A:=X.A.in1) (W.kdl_dict (knd:=gQ X.prog X.w) (kvs:=vs) (ep:=ep) lo) (I.ok.hd hc) hat (by rw[hlv];exact aE (aH (by lia))) λh' tk acc kk hacc=>?_);have hS:StrsAre acc.toList (ws.map S):=by
  have key:∀(l:List Value) (m:AA),l.length=m.length->(∀(j:Nat) v,l[j]?=some v->∃c,m[j]?=some c/\∃u,v=.str (S c) u)->StrsAre l (m.map S):=by
   intro l
   induction l with
   | nil=>intro m hl _;cases m with | nil=>exact .nil | cons c r=>simp at hl
   | cons a r ih=>
    intro m hl hv;cases m with
    | nil=>simp at hl
    | cons c m=>
     obtain⟨c',e,u,rfl⟩:=hv 0 a rfl;have e':c=c':=by simpa using e
     subst e';exact .cons _ u (ih m (by simpa using hl) λj v hj=>hv (j+1) v hj)
  refine key _ _ (by rw[dr,hacc.1,hlv]) λj v hj=>?_;obtain⟨k,x,hx,hi⟩:=hacc.2 j v (by simpa using hj);have hkj:(ws.map jk)[j]?=some k:=by
   rw[<- hk,hkv,aS,hx];rfl
  rw[aS]at hkj;cases hw:ws[j]? with
  | none=>rw[hw]at hkj;cases hkj
  | some c=>
   rw[hw]at hkj;have e:jk c=k:=by simpa using hkj
   subst e;refine⟨c,rfl,?_⟩;rcases gj (show xU (Sum.inr (S c)) v=true from hi) with⟨i,t,e1,_⟩ | ⟨y,t,e1,e2⟩
   ·cases e1
   ·cases e1;exact⟨t,e2⟩
 have I1:aL X ao σ H { s with heap:=h',toks:=tk }:=I.kept kk;refine⟨_,hS,by rw[dr,hacc.1,hlv];exact h64,λh2 vs' ss' e k2 he hS' pm so=>?_⟩;have es:ss'=(ss'.map λy=>y.cps.toList).map S:=by
  rw[eD];refine(mh _).symm.trans (e7 λy _=>?_);exact(ae6 y).symm
 have W3:(ss'.map λy=>y.cps.toList).Perm ws:=by
  have:=pm.map λy:Str=>y.cps.toList;rw[eD]at this;have e:((λy:Str=>y.cps.toList) ∘ S)=id:=rfl;rw[e,mh]at this;exact this
 have hv:Vals (Ts (ss'.map λy=>y.cps.toList)) vs':=by
  have:=uy hS';rw[es]at this;simpa [Ts,Function.comp_def] using this
 have hl:(Ts (ss'.map λy=>y.cps.toList)).length<=sizeLine:=by
  rw[aa,W3.length_eq];exact aE (aH (by lia))
 refine⟨.ref h'.objs.size,_,I1.laid (o:=.lst _) (t':=tk) k2 (al _) ⟨hl,vs',e,hv,he⟩,rfl,q _ _ I1.fresh W3 (Ke ss' so)⟩
theorem QI.or {iter:Expr}{w1 w2:TI}(h1:QI X tg iter w1)(h2:QI X tg iter w2):QI X tg iter (λσ H R=>w1 σ H R\/w2 σ H R):=⟨λao s σ H R I h=>by
 rcases h with h | h
 ·exact h1.out ao s σ H R I h
 ·exact h2.out ao s σ H R I h⟩
end
theorem aU.keep {K:W.Frag}{H H':Hp}{a p:Addr}{xs:List V}(k:∀b o,H b=some o->b≠p->H' b=some o)(hp:∀o,H p=some o->(∀ys,o≠.lst ys)/\∀u ys,o≠.nj u (.lst ys))(h:aU K H a xs):aU K H' a xs:=by
 rcases h with(h | ⟨o,h⟩) | h
 ·exact .inl (.inl (k _ _ h λe=>(hp _ (e ▸ h)).1 _ rfl))
 ·exact .inl (.inr ⟨o,k _ _ h λe=>(hp _ (e ▸ h)).2 _ _ rfl⟩)
 ·exact .inr h
theorem aM.keep {K:W.Frag}{H H':Hp}{a p:Addr}{xs:List V}(k:∀b o,H b=some o->b≠p->H' b=some o)(hp:∀o,H p=some o->(∀ys,o≠.tup ys)/\∀u ys,o≠.nj u (.tup ys))(h:aM K H a xs):aM K H' a xs:=by
 rcases h with(h | ⟨o,h⟩) | h
 ·exact .inl (.inl (k _ _ h λe=>(hp _ (e ▸ h)).1 _ rfl))
 ·exact .inl (.inr ⟨o,k _ _ h λe=>(hp _ (e ▸ h)).2 _ _ rfl⟩)
 ·exact .inr h
section
variable {X:Cx}
def ahn:V->List V->Hp->VK->Prop:=λx vs H Q=>∃l,x=.str (S l)/\vs=[]/\l.length<=1000/\(∀c∈l,c < 128)/\Q (.str (S (l.map up1))) H
theorem afd:w6 X "str.upper" ahn:=by
 intro ao s σ H x vs v us Q I rx rv h;obtain⟨l,rfl,rfl,hz,ha,q⟩:=h;obtain⟨t,rfl⟩:=rx;have hus:=rv.zero;subst hus;have hfit:Builtin.Str.tooLong (Txt.upper (S l)).length=false:=fit_upper (by rw[qJ];lia);refine call_gives F.slot_str_upper (typeIs_str s _ t) F.entry_str_upper (F.args_str_upper_1 _) (gives_str_upper (S l) t hfit) ⟨fit_le hfit,?_⟩;have e:Txt.upper (S l)=S (l.map up1):=by rw[upper_ascii (x:=S l) ha];simp[S]
 exact⟨.str (S (l.map up1)),H,I.tok _,⟨s.toks,congrArg (λz=>Value.str z s.toks) e⟩,q⟩
def aho:V->List V->Hp->VK->Prop:=λx vs H Q=>∃l,x=.str (S l)/\vs=[]/\l.length<=1000/\(∀c∈l,c < 128)/\Q (.str (S (l.map lo1))) H
theorem nG:w6 X "str.lower" aho:=by
 intro ao s σ H x vs v us Q I rx rv h;obtain⟨l,rfl,rfl,hz,ha,q⟩:=h;obtain⟨t,rfl⟩:=rx;have hus:=rv.zero;subst hus;have hfit:Builtin.Str.tooLong (Txt.lower (S l)).length=false:=fit_lower (by rw[qJ];lia);refine call_gives F.slot_str_lower (typeIs_str s _ t) F.entry_str_lower (F.args_str_lower_1 _) (gives_str_lower (S l) t hfit) ⟨fit_le hfit,?_⟩;have e:Txt.lower (S l)=S (l.map lo1):=by rw[lower_ascii (x:=S l) ha];simp[S]
 exact⟨.str (S (l.map lo1)),H,I.tok _,⟨s.toks,congrArg (λz=>Value.str z s.toks) e⟩,q⟩
end
theorem acW {l:List Nat}{g:TG}{tb:TS}{D:Ends}{σ:St}{H:Hp}(Pv:Nat->St->Hp->Prop)(h0:Pv 0 σ H)
  (hs:∀i c σ H,l[i]?=some c->Pv i σ H->g (.str (S [c])) σ H λσ2 H2=>tb { D with nx:=Pv (i+1),ct:=Pv (i+1),bk:=D.nx } σ2 H2) (hd:∀σ H,Pv l.length σ H->D.nx σ H) :
  ∃W:Nat->Nat->St->Hp->Prop,(∃m,W 0 m σ H)/\∀i m σ H,W i m σ H->
   ((Its l).stop i H/\D.nx σ H)\/((Its l).go i H/\∃N:St->Hp->Prop,(∀σ' H',N σ' H'->∃m',m' < m/\W (i+1) m' σ' H')/\∀x H',(Its l).pO i H x H'->g x σ H' λσ2 H2=>tb { D with nx:=N,ct:=N,bk:=D.nx } σ2 H2):=by
 refine⟨λi m σ H=>m=l.length-i/\i<=l.length/\Pv i σ H,⟨l.length,by simp,b8 _,h0⟩,?_⟩;rintro i m σ H ⟨rfl,hi,p⟩;by_cases hlt:i < l.length
 ·refine .inr ⟨hlt,Pv (i+1),λσ' H' p'=>⟨l.length-(i+1),by lia,rfl,hlt,p'⟩,λx H' y=>?_⟩
  obtain⟨e,c,hc,e2⟩:=y;subst e e2;exact hs i c σ _ hc p
 ·have e:i=l.length:=by lia
  subst e;exact .inl ⟨al _,hd σ H p⟩
def AL:List Nat:=(List.range 26).map (97 + ·)
inductive Dt where
 | non | int (i:Int) | str (l:List Nat) | tup (ds:List Dt) | lst (ds:List Dt)
mutual
def toP:Dt->PyData
 | .non=>.none
 | .int i=>.int i
 | .str l=>.str (S l)
 | .tup ds=>.tuple (jB ds)
 | .lst ds=>.list (jB ds)
def jB:List Dt->List PyData
 | []=>[]
 | d::ds=>toP d::jB ds
end
mutual
theorem Ub:∀d e:Dt,PyData.eqv (toP d) (toP e)=true↔d=e
 | .non,.non=>by simp[toP,PyData.eqv]
 | .non,.int _=>by simp[toP,PyData.eqv]
 | .non,.str _=>by simp[toP,PyData.eqv]
 | .non,.tup _=>by simp[toP,PyData.eqv]
 | .non,.lst _=>by simp[toP,PyData.eqv]
 | .int _,.non=>by simp[toP,PyData.eqv]
 | .int _,.int _=>by simp[toP,PyData.eqv]
 | .int _,.str _=>by simp[toP,PyData.eqv]
 | .int _,.tup _=>by simp[toP,PyData.eqv]
 | .int _,.lst _=>by simp[toP,PyData.eqv]
 | .str _,.non=>by simp[toP,PyData.eqv]
 | .str _,.int _=>by simp[toP,PyData.eqv]
 | .str a,.str b=>by
  simp only[toP,PyData.eqv,beq_iff_eq,Dt.str.injEq];exact⟨Mq,λz=>by rw[z]⟩
 | .str _,.tup _=>by simp[toP,PyData.eqv]
 | .str _,.lst _=>by simp[toP,PyData.eqv]
 | .tup _,.non=>by simp[toP,PyData.eqv]
 | .tup _,.int _=>by simp[toP,PyData.eqv]
 | .tup _,.str _=>by simp[toP,PyData.eqv]
 | .tup ds,.tup es=>by simp only[toP,PyData.eqv,Dt.tup.injEq];exact Nk ds es
 | .tup _,.lst _=>by simp[toP,PyData.eqv]
 | .lst _,.non=>by simp[toP,PyData.eqv]
 | .lst _,.int _=>by simp[toP,PyData.eqv]
 | .lst _,.str _=>by simp[toP,PyData.eqv]
 | .lst _,.tup _=>by simp[toP,PyData.eqv]
 | .lst ds,.lst es=>by simp only[toP,PyData.eqv,Dt.lst.injEq];exact Nk ds es
theorem Nk:∀ds es:List Dt,PyData.eqvAll (jB ds) (jB es)=true↔ds=es
 | [],[]=>by simp[jB,PyData.eqvAll]
 | [],_::_=>by simp[jB,PyData.eqvAll]
 | _::_,[]=>by simp[jB,PyData.eqvAll]
 | d::ds,e::es=>by
  simp only[jB,PyData.eqvAll,ce,List.cons.injEq];rw[Ub d e,Nk ds es]
end
open Classical in
theorem Ip (d e:Dt):PyData.eqv (toP d) (toP e)=decide (d=e):=by
 by_cases h:d=e
 ·rw[ah h];exact(Ub d e).mpr h
 ·rw[ae h]
  cases z:PyData.eqv (toP d) (toP e) with
  | false=>rfl
  | true=>exact absurd ((Ub d e).mp z) h
mutual
inductive jR (K:W.Frag) (H:Hp):Nat->Dt->V->Prop
 | non {n}:jR K H n .non .non
 | int {n} (i:Int):jR K H n (.int i) (.int i)
 | str {n} (l:List Nat) (h:∀c∈l,c < 128):jR K H n (.str l) (.str (S l))
 | tup {n a ds xs} (h:aM K H a xs) (hs:dw K H n ds xs):jR K H (n+1) (.tup ds) (.ref a)
 | lst {n a ds xs} (h:aU K H a xs) (hs:dw K H n ds xs):jR K H (n+1) (.lst ds) (.ref a)
inductive dw (K:W.Frag) (H:Hp):Nat->List Dt->List V->Prop
 | nil {n}:dw K H n [] []
 | cons {n d ds x xs} (h:jR K H n d x) (hs:dw K H n ds xs):dw K H n (d::ds) (x::xs)
end
theorem acX {l:List Nat}(h:∀c∈l,c < 128):PyData.strOk (S l)=true:=by
 unfold PyData.strOk;show l.toArray.all _=true;rw[Array.all_eq_true_iff_forall_mem];intro x hx;have:=h x (by simpa using hx);exact ah (by lia)
mutual
theorem jR.lay {K:W.Frag}{H:Hp}:∀{n:Nat} {d:Dt} {x:V},jR K H n d x->(toP d).canLay0=true/\(toP d).depth<=n
 | _,_,_,.non=>by simp[toP,PyData.canLay0,PyData.depth]
 | _,_,_,.int _=>by simp[toP,PyData.canLay0,PyData.depth]
 | _,_,_,.str l h=>by simp only[toP,PyData.canLay0,PyData.depth];exact⟨acX h,b8 _⟩
 | _,_,_,.tup _ hs=>by
  simp only[toP,PyData.canLay0,PyData.depth];have:=hs.lay;exact⟨this.1,lP this.2⟩
 | _,_,_,.lst _ hs=>by
  simp only[toP,PyData.canLay0,PyData.depth];have:=hs.lay;exact⟨this.1,lP this.2⟩
theorem dw.lay {K:W.Frag}{H:Hp}:∀{n:Nat} {ds:List Dt} {xs:List V},dw K H n ds xs->PyData.canLayAll0 (jB ds)=true/\PyData.depthAll (jB ds)<=n
 | _,_,_,.nil=>by simp[jB,PyData.canLayAll0,PyData.depthAll]
 | _,_,_,.cons h hs=>by
  have a:=h.lay;have b:=hs.lay;simp only[jB,PyData.canLayAll0,PyData.depthAll,ce];exact⟨⟨a.1,b.1⟩,Nat.max_le.mpr ⟨a.2,b.2⟩⟩
end
mutual
theorem jR.same {K:W.Frag}{H H':Hp}(sm:aA H H')(st:∀a xs,aM K H a xs->aM K H' a xs):∀{n:Nat} {d:Dt} {x:V},jR K H n d x->jR K H' n d x
 | _,_,_,.non=>.non
 | _,_,_,.int i=>.int i
 | _,_,_,.str l h=>.str l h
 | _,_,_,.tup h hs=>.tup (st _ _ h) (hs.same sm st)
 | _,_,_,.lst h hs=>.lst (sm.seq h) (hs.same sm st)
theorem dw.same {K:W.Frag}{H H':Hp}(sm:aA H H')(st:∀a xs,aM K H a xs->aM K H' a xs):∀{n:Nat} {ds:List Dt} {xs:List V},dw K H n ds xs->dw K H' n ds xs
 | _,_,_,.nil=>.nil
 | _,_,_,.cons h hs=>.cons (h.same sm st) (hs.same sm st)
end
section
variable {X:Cx}
mutual
theorem jR.reads {ao:AC}{σ:St}{H:Hp}{s:Shared}(I:aL X ao σ H s):∀{n:Nat} {d:Dt} {x:V} {u:Value},jR X.K H n d x->cu x u->∃as,Reads s.heap u (toP d) as
 | _,_,_,u,.non,r=>by cases r;exact⟨[],by rw[toP];exact .none⟩
 | _,_,_,u,.int i,r=>by obtain⟨t,rfl⟩:=r;exact⟨[],by rw[toP];exact .int i t⟩
 | _,_,_,u,.str l h,r=>by obtain⟨t,rfl⟩:=r;exact⟨[],by rw[toP];exact .str _ t⟩
 | _,_,_,u,.tup h hs,r=>by
  cases r;obtain⟨its,rv,pl,_⟩:=I.tuple h;obtain⟨as,ra⟩:=hs.reads I rv;obtain⟨o,ho,hc,n,hd⟩:=pl;exact⟨as,by rw[toP];exact .tuple ho hc hd (by simpa using ra)⟩
 | _,_,_,u,.lst h hs,r=>by
  cases r;obtain⟨its,rv,pl,_⟩:=I.list h;obtain⟨as,ra⟩:=hs.reads I rv;obtain⟨o,ho,hc,n,hd⟩:=pl.isList;exact⟨_::as,by rw[toP];exact .list ho hc hd (by simpa using ra)⟩
theorem dw.reads {ao:AC}{σ:St}{H:Hp}{s:Shared}(I:aL X ao σ H s):∀{n:Nat} {ds:List Dt} {xs:List V} {us:List Value},dw X.K H n ds xs->Vals xs us->∃as,ReadsAll s.heap us (jB ds) as
 | _,_,_,us,.nil,r=>by cases r;exact⟨[],by rw[jB];exact .nil⟩
 | _,_,_,us,.cons h hs,r=>by
  cases r with
  | cons q t=>
   obtain⟨as,a⟩:=h.reads I q;obtain⟨bs,b⟩:=hs.reads I t;exact⟨as++bs,by rw[jB];exact .cons a b⟩
end
theorem jR.shaped {K:W.Frag}{H:Hp}{n:Nat}{d:Dt}{x:V}(h:jR K H n d x)(hn:n<=64):SeqAt.shaped (toP d)=true:=by
 unfold SeqAt.shaped;rw[h.lay.1,ah (b9 h.lay.2 hn)];rfl
open Classical in
def afe (K:W.Frag)(neg:Bool):R2:=λx y H Q=>∃n d e,n<=64/\jR K H n d x/\jR K H n e y/\Q (.bl (if neg then !decide (d=e) else decide (d=e))) H
theorem Gz (hu:X.A.units+64 < cLine):fj X (compareOp .Eq) (afe X.K false):=by
 intro ao s σ H x y v u Q I rx ry h;obtain⟨n,d,e,hn,hd,he,q⟩:=h;obtain⟨as,ra⟩:=hd.reads I rx;obtain⟨bs,rb⟩:=he.reads I ry;refine SeqAt.compareEq_shaped ra rb (hd.shaped hn) (he.shaped hn) hu ⟨.bl _,H,I,rfl,?_⟩;rw[Ip];exact q
theorem Ag (hu:X.A.units+64 < cLine):fj X (compareOp .NotEq) (afe X.K true):=by
 intro ao s σ H x y v u Q I rx ry h;obtain⟨n,d,e,hn,hd,he,q⟩:=h;obtain⟨as,ra⟩:=hd.reads I rx;obtain⟨bs,rb⟩:=he.reads I ry;refine SeqAt.compareNe_shaped ra rb (hd.shaped hn) (he.shaped hn) hu ⟨.bl _,H,I,rfl,?_⟩;rw[Ip];exact q
def afg (K:W.Frag):V->List V->Hp->VK->Prop:=λx vs H Q=>∃p ls,x=.str (S [])/\vs=[.ref p]/\aM K H p (Ts ls)/\ls.flatten.length<=1000/\Q (.str (S ls.flatten)) H
theorem Er:w6 X "str.join" (afg X.K):=by
 intro ao s σ H x vs v us Q I rx rv h;obtain⟨p,ls,rfl,rfl,hq,hz,q⟩:=h;obtain⟨t,rfl⟩:=rx;obtain⟨u,rfl,ru⟩:=vals1 rv;cases ru;obtain⟨its,r,pl,_⟩:=I.tuple hq;refine join_tuple pl (ys:=ls.map S) (by simpa using Df r) ?_ λt' k=>?_
 ·rw[RP];show _+_*0<=_;lia
 ·exact⟨.str (S ls.flatten),H,I.tok k,⟨t',congrArg (λz=>Value.str z t') (RN ls)⟩,q⟩
end
theorem uE {K:W.Frag}{a D:Addr}{xs:List V}{te:TE}{σ:St}{H:Hp}{R:Hp->Prop}(Pv:Nat->List V->Hp->Prop)(h0:Pv 0 [] (upd H D (.lst [])))(hl:∀i ys H,i<=xs.length->Pv i ys H->aM K H a xs)
  (hs:∀i x ys H,xs[i]?=some x->Pv i ys H->te (some x::σ) H λy H3=>H3 D=some (.lst ys)/\ys.length < sizeLine/\dZ xs.length i (Pv (i+1) (ys++[y]) (upd H3 D (.lst (ys++[y])))))
  (hd:∀ys H,Pv xs.length ys H->R H) :
  ∃W:Nat->Nat->List V->Hp->Prop,(∃m,W 0 m [] (upd H D (.lst [])))/\
   ∀i m ys H,W i m ys H->((uY K a).stop i H/\R H)\/((uY K a).go i H/\∀x H',(uY K a).pO i H x H'->iB (some x::σ) H' λb H2=>
    if b=true then te (some x::σ) H2 λy H3=>H3 D=some (.lst ys)/\ys.length < sizeLine/\∃m',m' < m/\W (i+1) m' (ys++[y]) (upd H3 D (.lst (ys++[y])))
    else ∃m',m' < m/\W (i+1) m' ys H2):=by
 refine⟨λi m ys H=>m=xs.length-i/\i<=xs.length/\Pv i ys H,⟨xs.length,by simp,b8 _,h0⟩,?_⟩;rintro i m ys H ⟨rfl,hi,p⟩;have q:=hl i ys H hi p;by_cases hlt:i < xs.length
 ·refine .inr ⟨⟨xs,xs[i],q,by simp[hlt]⟩,λx H' y=>?_⟩
  obtain⟨e,y⟩:=y;subst e;exact hs i x ys H' (y xs q) p
 ·have e:i=xs.length:=by lia
  subst e;exact .inl ⟨⟨xs,q,al _⟩,hd ys H p⟩
section
variable {X:Cx}{x:Str}{pos:Pos}
theorem sU {l:List Nat}(hg:Gl X x)(hm:∃t,X.mg x=some (.str (S l) t))(hd:(x==("__debug__":Str))=false:=by decide):QE X (.Name x pos) (tC (.str (S l))):=
 let ⟨t,e⟩:=hm;f9 hg e ⟨t,rfl⟩ hd
theorem Uc {i:Int}(hg:Gl X x)(hm:∃t,X.mg x=some (.int i t))(hd:(x==("__debug__":Str))=false:=by decide):QE X (.Name x pos) (tC (.int i)):=
 let ⟨t,e⟩:=hm;f9 hg e ⟨t,rfl⟩ hd
theorem uF {o i:Expr}{to ti:TE}{t:Tr}(ho:QE X o to)(hi:QE X i ti)(hs:Zx X t)
  (ha:∀v,assign (.Subscript o i pos) X.env v=(do
   let ov <- holding [v] (eval o X.env)
   let iv <- holding [v,ov] (eval i X.env)
   standAt pos
   holding [v,ov,iv] (setItem ov iv v)
   release [v,ov,iv] []):=by intro _;rfl):QG X (.Subscript o i pos) (aeA to ti t):=⟨aeB ho.out hi.out hs ha⟩
end
theorem jt:bootBuiltins "all"=some (.builtin "all"):=by decide +kernel
theorem Kf:bootBuiltins "any"=some (.builtin "any"):=by decide +kernel
theorem Nm {K:W.Frag}{h:Heap}{mg:Str->Option Value}{x:Str}{l:List Nat}{t:Tok}(X:K.In h)(G:h.Ns mainGlobals mg)(a:W.nsIn K mainGlobals x=some (some (.str (S l) t))):∃t,mg x=some (.str (S l) t):=⟨t,b6 X G a⟩
theorem Np {K:W.Frag}{h:Heap}{mg:Str->Option Value}{x:Str}{i:Int}{t:Tok}(X:K.In h)(G:h.Ns mainGlobals mg)(a:W.nsIn K mainGlobals x=some (some (.int i t))):∃t,mg x=some (.int i t):=⟨t,b6 X G a⟩
section
variable {X:Cx}
theorem mK (K:W.Frag)  (h:X.K=K:=by rfl):M8 X (M9 K):=by subst h;exact bf
theorem Nq (K:W.Frag)  (h:X.K=K:=by rfl):gb X (.builtin "isinstance") (ab0 K):=by subst h;exact iM
theorem Z_ (K:W.Frag)  (h:X.K=K:=by rfl):w6 X "str.join" (rJoin K):=by subst h;exact xq
theorem Lj (K:W.Frag)  (h:X.K=K:=by rfl):gb X (.type "list") (λxs H Q=>∃p ys,xs=[.ref p]/\(aU K H p ys\/aM K H p ys)/\∀l,H l=none->Q (.ref l) (upd H l (.lst ys))):=by subst h;exact Ng
theorem afh  {o e:Expr}{es:List Expr}{to:TE}{t:TA}{name:Str}{apos cpos:Pos}{T id:String}{r:V->List V->Hp->VK->Prop}(K:W.Frag)(pa:PlainAttrs T)(slot:Slot T name id)(hty:typeOf (.builtin id)=pure (.type "method_descriptor"))(hm:w6 X id r)(ho:QE X o to)(ha:QA X (e::es) t)(hbase:attributeBase o name X.env (eval o X.env)=eval o X.env:=by rfl)(hfew:((backTo cpos (starEach (e::es) X.env)).all (λx=>!x.1)&&(backToKw cpos (keywordEach [] X.env)).all (λx=>x.1.isSome)
   && decide ((e::es).length+([]:List Keyword).length+(if ([]:List Keyword).isEmpty then 0 else 1) < 30))=true:=by rfl) (hline:(apos.endLine==cpos.line)=true:=by rfl) (hs:starEach (e::es) X.env=(false,eval e X.env)::starEach es X.env:=by rfl) (hplain:(backTo cpos (starEach es X.env)).any (·.1)=false:=by rfl) (h:X.K=K:=by rfl):QE X (.Call (.Attribute o name apos) (e::es) [] cpos) (tBM K T r to t):=by subst h;exact fX pa slot hty hm ho ha hbase hfew hline hs hplain
end
def fG (l:List Nat):List Nat:=l.takeWhile λc=>c != 46
def dM (l:List Nat):List Nat:=(l.reverse.takeWhile λc=>c != 46).reverse
theorem yp:∀{l:List Nat} {i:Nat},l[i]?=some 46->(∀k,k < i->l[k]?≠some 46)->fG l=l.take i
 | [],i,h,_=>by simp at h
 | c::l,0,h,_=>by
  have:c=46:=by simpa using h
  subst this;simp[fG]
 | c::l,i+1,h,hk=>by
  have hc:c≠46:=λe=>hk 0 (by lia) (by simp[e]);have ih:=yp (l:=l) (i:=i) (by simpa using h) (λk hk'=>by have:=hk (k+1) (by lia);simpa using this);unfold fG at ih ⊢;rw[kR (by simpa using hc),ih,List.take_succ_cons]
theorem Ah {l:List Nat}(h:46∉l):fG l=l:=by
 unfold fG
 induction l with
 | nil=>rfl
 | cons c r ih=>
  have hc:c≠46:=λe=>h (by rw[e];exact bE);rw[kR (by simpa using hc),ih λz=>h (bb _ z)]
theorem Ai {l:List Nat}(h:46∉l):dM l=l:=by
 have:=Ah (l:=l.reverse) (by simpa using h);unfold fG at this;unfold dM;rw[this,List.reverse_reverse]
theorem Nr {l:List Nat}{i:Nat}(h:l[i]?=some 46)(hk:∀k,i < k->l[k]?≠some 46):dM l=l.drop (i+1):=by
 have hi:i < l.length:=(af.mp h).1;have e:fG l.reverse=l.reverse.take (l.length-(i+1)):=by
  refine yp ?_ λk hk'=>?_
  ·rw[List.getElem?_reverse (by lia),show l.length-1-(l.length-(i+1))=i by lia];exact h
  ·rw[List.getElem?_reverse (by lia)]
   exact hk _ (by lia)
 unfold fG at e;unfold dM;rw[e,List.take_reverse,List.reverse_reverse,show l.length-(l.length-(i+1))=i+1 by lia]
theorem W4 (l:List Nat)(n:Nat):m6 l none (some (n:Int))=l.take n:=by
 unfold m6;rw[HT.qe];show (l.drop 0).take (min n l.length-0)=_;rw[gu,Nat.sub_zero];by_cases h:n<=l.length
 ·rw[ia h]
 ·rw[lT (by lia),be (al _),be (by lia)]
theorem Nt (l:List Nat)(n:Nat):m6 l (some (n:Int)) none=l.drop n:=by
 unfold m6;rw[HT.qe];show (l.drop (min n l.length)).take (l.length-min n l.length)=_;rw[be (by rw[bt];lia)];by_cases h:n<=l.length
 ·rw[ia h]
 ·rw[lT (by lia),fN (al _),fN (by lia)]
theorem ab2 (l:List Nat)(i j:Nat):Builtin.Str.strSub (S l) i j=S ((l.take j).drop i):=by
 unfold Builtin.Str.strSub S;congr 1;apply j3.mp;simp[List.drop_take]
section
variable {X:Cx}
theorem W5 (l:List Nat):(Txt.partition (S l) (S [46])).1=S (fG l):=by
 rcases partition_head (S l) (S [46]) with⟨e,h⟩ | ⟨i,e,h,hk⟩
 ·rw[e,Ah λhm=>?_]
  obtain⟨i,hi⟩:=f8.mp hm;exact h i ((gf (S l) 46 i).mpr hi)
 ·rw[e,ab2,gu,yp (l:=l) ((gf (S l) 46 i).mp h) λk hk' z=>hk k hk' ((gf (S l) 46 k).mpr z)]
theorem Ud (l:List Nat):(Txt.rpartition (S l) (S [46])).2.2=S (dM l):=by
 unfold Txt.rpartition;rcases StrLaws.last_spec (S l) (S [46]) with⟨e,h⟩ | ⟨i,e,h,hk⟩
 ·rw[e]
  show S l=_;rw[Ai λhm=>?_];obtain⟨i,hi⟩:=f8.mp hm;exact h i ((gf (S l) 46 i).mpr hi)
 ·rw[e]
  show Builtin.Str.strSub (S l) (i+1) l.length=_;rw[ab2,be (al _),Nr (l:=l) ((gf (S l) 46 i).mp h) λk hk' z=>hk k hk' ((gf (S l) 46 k).mpr z)]
def agO:V->List V->Hp->VK->Prop:=λx vs H Q=>∃l,x=.str (S l)/\vs=[.str (S [46])]/\l.length<=1000/\∀(p:Addr) (b c:Str),H p=none->Q (.ref p) (upd H p (.tup [.str (S (fG l)),.str b,.str c]))
theorem acY:w6 X "str.partition" agO:=by
 intro ao s σ H x vs v us Q I rx rv h;obtain⟨l,rfl,rfl,hz,q⟩:=h;obtain⟨t,rfl⟩:=rx;obtain⟨u,rfl,ru⟩:=vals1 rv;obtain⟨t2,rfl⟩:=ru;have hsz:(S l).length<=sizeLine:=aE (aH hz);refine call_meets F.slot_str_partition (typeIs_str _ _ _) F.entry_str_partition (F.args_str_partition_2 _ _) (meets_str_partition (S l) (S [46]) t t2 rfl hsz) ?_;have e:=W5 l;have q':=λb c=>q s.heap.objs.size b c (I.hok.fresh (al _));rw[<- e]at q';unfold Txt.partition at q'
 revert q'
 cases Builtin.Str.occurrences (S l) (S [46]) 0 (S l).length 1 with
 | nil=>
  intro q';refine⟨.ref s.heap.objs.size,_,I.laid (o:=.tup _) (t':=s.toks+1) (λb ob z=>ag _ z) (al _) ?_,rfl,q' Str.empty Str.empty⟩;exact⟨zsz 3,_,.cons ⟨_,rfl⟩ (.cons ⟨_,rfl⟩ (.cons ⟨_,rfl⟩ .nil)),⟨_,aT _ rfl,rfl,0,rfl⟩⟩
 | cons i r=>
  intro q';refine⟨.ref s.heap.objs.size,_,I.laid (o:=.tup _) (t':=s.toks+1+1) (λb ob z=>ag _ z) (al _) ?_,rfl,q' (S [46]) (Builtin.Str.strSub (S l) (i+(S [46]).length) (S l).length)⟩;exact⟨zsz 3,_,.cons ⟨_,rfl⟩ (.cons ⟨_,rfl⟩ (.cons ⟨_,rfl⟩ .nil)),⟨_,aT _ rfl,rfl,0,rfl⟩⟩
def afi:V->List V->Hp->VK->Prop:=λx vs H Q=>∃l,x=.str (S l)/\vs=[.str (S [46])]/\l.length<=1000/\∀(p:Addr) (a b:Str),H p=none->Q (.ref p) (upd H p (.tup [.str a,.str b,.str (S (dM l))]))
theorem aac:w6 X "str.rpartition" afi:=by
 intro ao s σ H x vs v us Q I rx rv h;obtain⟨l,rfl,rfl,hz,q⟩:=h;obtain⟨t,rfl⟩:=rx;obtain⟨u,rfl,ru⟩:=vals1 rv;obtain⟨t2,rfl⟩:=ru;have hsz:(S l).length<=sizeLine:=aE (aH hz);refine call_meets F.slot_str_rpartition (typeIs_str _ _ _) F.entry_str_rpartition (F.args_str_rpartition_2 _ _) (meets_str_rpartition (S l) (S [46]) t t2 rfl hsz) ?_;have e:=Ud l;have q':=λb c=>q s.heap.objs.size b c (I.hok.fresh (al _));rw[<- e]at q';unfold Txt.rpartition at q'
 revert q'
 cases Builtin.Str.lastOccurrence (S l) (S [46]) 0 (S l).length with
 | none=>
  intro q';refine⟨.ref s.heap.objs.size,_,I.laid (o:=.tup _) (t':=s.toks+1) (λb ob z=>ag _ z) (al _) ?_,rfl,q' Str.empty Str.empty⟩;exact⟨zsz 3,_,.cons ⟨_,rfl⟩ (.cons ⟨_,rfl⟩ (.cons ⟨_,rfl⟩ .nil)),⟨_,aT _ rfl,rfl,0,rfl⟩⟩
 | some i=>
  intro q';refine⟨.ref s.heap.objs.size,_,I.laid (o:=.tup _) (t':=s.toks+1+1) (λb ob z=>ag _ z) (al _) ?_,rfl,q' (Builtin.Str.strSub (S l) 0 i) (S [46])⟩;exact⟨zsz 3,_,.cons ⟨_,rfl⟩ (.cons ⟨_,rfl⟩ (.cons ⟨_,rfl⟩ .nil)),⟨_,aT _ rfl,rfl,0,rfl⟩⟩
end
def dO (X:Cx)(scope:Scope)(cl:List (Str × Addr))(C:Addr)(N:List Str)(s₀:Shared)(H₀:Hp)(fp:List Addr):Cx:=
 { X with N:=N,s₀:=s₀,H₀:=H₀,env:=compEnvC scope cl C X.env,outer:=X.stack,ex:=fp,fn:=λ_=>false,pn:=[],xe:=λ_ _=>False }
structure fH (X:Cx)(scope:Scope)(ns N2:List Str)(f:St->St):Prop where
 kind:scope.kind=.function
 qI:∀y∈scope.names,y.2≠.cell
 names:∀y∈scope.names,y.2=.local->scope.names.lookup y.1=some .local
 free:∀y∈scope.names,y.2=.free->X.env.kindOf y.1=some .cell\/X.env.kindOf y.1=some .free
 aad:∀σ:St,(f σ).length=σ.length
 aae:N2.length=X.N.length
 out:∀(σ:St) (i:Nat) (y:Str) (v:V),N2[i]?=some y->(f σ)[i]?=some (some v)->X.N[i]?=some y/\σ[i]?=some (some v)/\scope.names.lookup y≠some .local
def Nu (X:Cx)(tg:Expr)(k:Nat)(TP:V->Hp->(St->Prop)->Prop):Prop:=
 ∀(ao:AC) (s:Shared) (pre rest:St) (H:Hp) (v:V) (u:Value) (Q:St->Prop),pre.length=k->aL X ao (pre++rest) H s->cu v u->TP v H Q->
  wpAny (model X.prog X.w) X.A (assign tg X.env u) (λ_ s'=>∃pre',pre'.length=k/\aL X ao (pre'++rest) H s'/\Q pre') (λ_ _=>False) s
def GC (f:St->St)(k:Nat)(wi:TI)(TP:V->Hp->(St->Prop)->Prop)(tt:TT)(te:TE):TE:=λσ H Q=>wi σ H λJ H1=>∀D,H1 D=none->∃W:Nat->Nat->List V->Hp->Prop,(∃m,W 0 m [] (upd H1 D (.lst [])))/\
 ∀i m ys H,W i m ys H->(J.stop i H/\Q (.ref D) H)\/(J.go i H/\∀x H',J.pO i H x H'->TP x H' λpre=>tt (pre++f σ) H' λb H2=>
  if b=true then te (pre++f σ) H2 λy H3=>H3 D=some (.lst ys)/\ys.length < sizeLine/\∃m',m' < m/\W (i+1) m' (ys++[y]) (upd H3 D (.lst (ys++[y])))
  else ∃m',m' < m/\W (i+1) m' ys H2)
theorem aaf {X:Cx}{elt iter tg:Expr}{ns N2:List Str}{f:St->St}{TP:V->Hp->(St->Prop)->Prop}{ifs:List Expr}{scope:Scope}{pos:Pos}{wi:TI}{tt:TT}{te:TE}(hc:X.calm=true)(ok:fH X scope ns N2 f)(hi:PI X tg iter wi)
  (hg:∀cl C s₀ H₀ fp,Nu (dO X scope cl C (ns++N2) s₀ H₀ fp) tg ns.length TP)
  (ht:∀cl C s₀ H₀ fp,RL (dO X scope cl C (ns++N2) s₀ H₀ fp) ifs tt) (he:∀cl C s₀ H₀ fp,PE (dO X scope cl C (ns++N2) s₀ H₀ fp) elt te)
  (hs:∀x,foldedSetIterable iter X.env x=pure x:=by intro _;rfl):PE X (.ListComp elt [⟨tg,iter,ifs,0⟩] scope pos) (GC f ns.length wi TP tt te):=by
 intro ao s σ H Q I h;obtain⟨cl,hcl,hsub,_,hall⟩:=oZ (env:=X.env) scope.names (λy hy e=>I.ok.has y.1 (ok.free y hy e)) [] (λ_ _ z=>by simp at z);have hclos:closureFor scope X.env=pure cl:=by
  unfold closureFor;simp only[bind_pure];exact hcl
 rw[eval_ListComp];refine iP (use:=none) (E:=X.xe) (cl:=cl) rfl hs hclos ok.kind ok.names (bN (hi ao s σ H _ I h) λv s1 h1=>bN h1 λitv s2 h2=>?_);obtain⟨it,fp,tn,J,H2,e,I2,T,st2,f2,R⟩:=h2;subst e;obtain⟨W,⟨m0,w0⟩,turn⟩:=R s2.heap.objs.size I2.fresh;refine fA (ky ok.qI (by intro y hy;simp at hy) (λh₁ hns₁ hsb₁=>?_) ok.kind);dsimp only at hns₁ hsb₁ ⊢;have I3:aL X ao σ (upd H2 s2.heap.objs.size (.lst [])) { s2 with heap:=s2.heap.push { cls:=.type "list",data:=.seq ([]:List Value).toArray } }:=I2.T5 (t':=s2.toks) (ys:=[]) (its:=[]) .nil (b8 _);generalize Wz:upd H2 s2.heap.objs.size (HO.lst [])=H3 at *
 generalize hs3:s2.heap.push { cls:=.type "list",data:=.seq ([]:List Value).toArray }=hp3 at *
 generalize hD:s2.heap.objs.size=D at *
 generalize hC:hp3.objs.size=C at *
 have hDC:D < C:=by rw[<- hC,<- hs3,cS,hD];exact fF _
 have old:∀b o,hp3.get? b=some o->h₁.get? b=some o:=λb o e=>(hsb₁.2 b (by rw[<- hC];exact a8 (av e))).trans (ag _ e);have J9:∀b∈fp,b < C:=λb hb=>by
  obtain⟨o,e,_⟩:=T.obj _ _ st2 b hb;rw[<- hC,<- hs3,cS];exact d9 (av e)
 have f3:∀b∈fp,nY X ao H3 b:=λb hb=>by
  obtain⟨o,e,_⟩:=T.obj _ _ st2 b hb;refine⟨?_,(f2 b hb).2⟩;rw[<- Wz,aN (by rw[<- hD];exact a8 (av e))];exact(f2 b hb).1
 have Ad:∀b∈fp,b∉frs X.stack:=λb hb z=>by
  obtain⟨_,g1,g2,_⟩:=f3 b hb;rcases bq.mp (I3.wY b z) with q | q
  ·exact g1 q
  ·exact g2 q
 have WD:(dO X scope cl C (ns++N2) { s2 with heap:=hp3 } H3 fp).Ok:=by
  refine⟨I.ok.mod,?_,I.ok.glob,I.ok.blt,eh hC,?_,?_,?_,I.ok.hd,I.ok.frames,.inl rfl,?_,?_,?_,?_,?_,?_,?_⟩
  ·exact ok.kind
  ·exact λa b c h1 h2=>I.ok.inj a b c (hsub a c h1) (hsub b c h2)
  ·intro a ha
   refine hall a ?_;rcases ha with z | z
   ·rcases cI (env:=X.env) z with q | ⟨_,q⟩
    ·exact absurd rfl (ok.qI _ (cQ q))
    ·exact cQ q
   ·rcases cI (env:=X.env) z with q | ⟨q,_⟩
    ·exact cQ q
    ·cases q
  ·intro a c hf;cases hf
  ·intro b hb
   refine⟨a8 (J9 b hb),λa c h1=>(f3 b hb).2.2.2.2.1 a c (hsub a c h1)⟩
  ·exact I3.bs
  ·exact b9 I.ok.rY I3.sz
  ·intro b o e hb
   rcases(f3 b hb).2.2.2.1 with z | z
   ·exact I.ok.wg b o e z
   ·exact absurd (b5 (av e) (b9 I.ok.rY z)) (du _)
  ·exact Ad
  ·exact I3.stack
  ·exact I3.pW
 have Y0:aL (dO X scope cl C (ns++N2) { s2 with heap:=hp3 } H3 fp) [] (List.replicate ns.length none++f σ) H3 { s2 with heap:=h₁,toks:=s2.toks+([]:List (Str × Value)).length }:=by
  refine⟨WD,rfl,I3.bare,Un.kept old,⟨_,hns₁,?_⟩,?_,?_,?_,λp hp=>by simp[dO]at hp,I3.hok.kept old,?_⟩
  ·intro i y v e1 e2 e3
   by_cases bT:i < ns.length
   ·rw[cy (by rw[b7];exact bT),i8,if_pos bT]at e2
    simp at e2
   ·obtain⟨i,rfl⟩:∃k,i=ns.length+k:=⟨i-ns.length,by lia⟩
    have W6:(ns++N2)[ns.length+i]?=some y:=e1;rw[ck (by lia),g6]at W6;rw[ck (by rw[b7];lia),b7,g6]at e2;obtain⟨e1',e2',hout⟩:=ok.out σ i y v W6 e2;have hfree:(y,NameKind.free)∈scope.names:=by
     have key:∀k,(relabel scope X.env).names.lookup y=some k->k≠.local->k=.cell\/k=.free->(y,NameKind.free)∈scope.names:=λk q n hk=>by
      rcases cI (env:=X.env) q with z | ⟨_,z⟩
      ·rcases hk with rfl | rfl
       ·exact absurd rfl (ok.qI _ (cQ z))
       ·exact cQ z
      ·exact cQ z
     rcases e3 with z | z | z
     ·rcases cI (env:=X.env) z with q | ⟨q,_⟩
      ·exact absurd q hout
      ·cases q
     ·exact key _ z (by decide) (.inl rfl)
     ·exact key _ z (by decide) (.inr rfl)
    have hk:=ok.free _ hfree rfl;obtain⟨m,hn,hl⟩:=I3.loc;obtain⟨u,r,q⟩:=hl i y v e1' e2' (by rcases hk with z | z;exact .inr (.inl z);exact .inr (.inr z));refine⟨u,r,.inr ⟨?_,?_⟩⟩
    ·rcases e3 with z | z | z
     ·rcases cI (env:=X.env) z with q | ⟨q,_⟩
      ·exact absurd q hout
      ·cases q
     ·exact .inl z
     ·exact .inr z
    ·rcases q with⟨z,_⟩ | ⟨_,c,hc',hcell⟩
     ·rcases hk with q | q <;> (rw[z]at q;cases q)
     ·obtain⟨c',hc2⟩:=hall y hfree
      have:c'=c:=by have:=hsub y c' hc2;rw[hc']at this;exact(ap this).symm
      subst this;obtain⟨o,ho,hd⟩:=hcell;exact⟨c',hc2,o,old _ _ ho,hd⟩
  ·intro a c h1
   obtain⟨v,o,ho,hd⟩:=I3.cell a c (hsub a c h1);exact⟨v,o,old _ _ ho,hd⟩
  ·show H3 C=none
   exact I3.hok.fresh (eh hC)
  ·exact λa c h1=>I3.ji a c (hsub a c h1)
  ·show (List.replicate ns.length none++f σ).length=(ns++N2).length
   rw[a_,a_,b7,ok.aad,I.len,ok.aae]
 have back:∀(s':Shared) (v:St) (H':Hp) (h':Heap),aL (dO X scope cl C (ns++N2) { s2 with heap:=hp3 } H3 fp) [] v H' s'->Heap.SameBut C s'.heap h'->(∀b∈fp,H' b=none)->aL X ao σ H' { s' with heap:=h' }:=by
  intro s' v H' h' I' sb fr;have rZ:∀b o,hp3.get? b=some o->b≠C:=λb o e=>by rw[<- hC];exact a8 (av e)
  have U:Un (frs X.stack) fp H3 H' hp3 s'.heap:=I'.base;refine I3.call' (ch:=fp) (H':=H') (s':={ s' with heap:=h' }) I'.os ⟨λb o e n h1 h2=>(sb.2 b (rZ b o e)).trans (U.keep b o e n h1 h2),λb o e n h1 h2=>?_,U.free,λb o e h2=>?_,U.tups,U.lG,U.lR⟩ (λb ob e=>?_) I'.bare λb hb=>?_
  ·obtain⟨sl,q⟩:=U.slot b o e n h1 h2
   exact⟨sl,(sb.2 b (rZ b o e)).trans q⟩
  ·obtain⟨o',q⟩:=U.there b o e h2
   exact⟨o',(sb.2 b (rZ b o e)).trans q⟩
  ·have fC:H' C=none:=I'.free
   refine(I'.hok b ob e).stay (λc w' hc q=>(sb.2 c ?_).trans q) (λ_ q=>q) λ_ _ q=>q;rintro rfl;rcases hc with rfl | hc
   ·rw[fC]at e;cases e
   ·rw[fC]at hc;cases hc
  ·obtain⟨_,g1,_,g3,g4,g5⟩:=f3 b hb
   exact⟨g3,g1,g4,g5⟩
 have stat:∀{H':Hp},(∀b∈fp,H' b=none)->∀b∈fp,nY (dO X scope cl C (ns++N2) { s2 with heap:=hp3 } H3 fp) [] H' b:=λhn b hb=>
  ⟨hn b hb,a8 (J9 b hb),Ad b hb,.inl hb,λa c h1=>(f3 b hb).2.2.2.2.1 a c (hsub a c h1),λp hp=>by simp[dO]at hp⟩
 have st₁:tn 0 h₁:=T.keep _ _ _ st2 λb _ o e=>old b o (by rw[<- hs3];exact ag _ e);have loop:codeAny (model X.prog X.w) X.A (.compLoop (.ListComp elt [⟨tg,iter,ifs,0⟩] scope pos) 0 (.ref it) (.ref D) (compEnvC scope cl C X.env)) (compPost (model X.prog X.w) X.A X.xe none (EP X ao σ Q) (.ref D) C)
   { s2 with heap:=h₁,toks:=s2.toks+([]:List (Str × Value)).length }:=by
  refine yg (λn s'=>∃i v ys H',v.length=ns.length/\aL (dO X scope cl C (ns++N2) { s2 with heap:=hp3 } H3 fp) [] (v++f σ) H' s'/\tn i s'.heap/\(∀b∈fp,H' b=none)/\W i n ys H') ?_ m0 ⟨0,List.replicate ns.length none,[],H3,b7,Y0,st₁,λb hb=>(f3 b hb).1,w0⟩;rintro n s4 ⟨i,v,ys,H4,hv4,I4,J_,Ae,w4⟩;rcases turn i n ys H4 w4 with⟨stop,qn⟩ | ⟨go,step⟩
  ·refine bN (T.done (dO X scope cl C (ns++N2) { s2 with heap:=hp3 } H3 fp) rfl rfl rfl hc i [] s4 (v++f σ) H4 _ I4 (stat Ae) J_ stop) λr s5 ⟨hr,I5⟩=>?_
   subst hr;obtain⟨m,hn,_⟩:=id I5.loc;exact⟨m,hn,λh' sb=>⟨.ref D,H4,back s5 (v++f σ) H4 h' I5 sb Ae,rfl,qn⟩⟩
  ·refine bN (T.item (dO X scope cl C (ns++N2) { s2 with heap:=hp3 } H3 fp) rfl rfl rfl hc i [] s4 (v++f σ) H4 _ I4 (stat Ae) J_ go) λr s5 zz=>?_;obtain⟨u,hr,h5⟩:=zz
   subst hr;refine bN h5 λ_ s6 zz=>?_;obtain⟨y,H6,I6,r6,y6,Af,WK⟩:=zz;have WL:=I6.pinned (stat WK) (T.obj _ _ Af);refine bN (hg cl C { s2 with heap:=hp3 } H3 fp _ s6 v (f σ) H6 y u _ hv4 WL r6 (step y H6 y6)) λ_ s7 zz=>?_;obtain⟨pre,hpre,WM,q7⟩:=zz;refine bN (ht cl C { s2 with heap:=hp3 } H3 fp _ s7 _ H6 _ WM q7) λb s8 zz=>?_;obtain⟨H8,I8,q8⟩:=zz;have q_:∀{σ':St} {H':Hp} {s':Shared},aL (dO X scope cl C (ns++N2) { s2 with heap:=hp3 } H3 fp) ([]++uf fp s6.heap) σ' H' s'->tn (i+1) s'.heap/\∀b∈fp,H' b=none:=λ{σ' H' s'} I9=>by
    refine⟨T.keep _ _ _ Af λb hb o e=>(I9.pin (b,o) (bP _ (bP _ (jm hb e)))).1,λb hb=>?_⟩;obtain⟨o,e,d⟩:=T.obj _ _ Af b hb;exact(I9.pin (b,o) (bP _ (bP _ (jm hb e)))).2.1
   cases b with
   | false=>
    obtain⟨m',hm,w'⟩:=q8;obtain⟨k1,k2⟩:=q_ I8;exact⟨m',hm,i+1,pre,ys,H8,hpre,I8.jZ,k1,k2,w'⟩
   | true=>
    have WQ:te (pre++f σ) H8 _:=q8;show wpAny _ _ (eval elt _) _ _ _;refine bN (he cl C { s2 with heap:=hp3 } H3 fp _ s8 _ H8 _ I8 WQ) λz s9 zz=>?_;obtain⟨zv,H9,I9,r9,WR,WT,m',hm,w'⟩:=zz;refine bN (gK (X:=dO X scope cl C (ns++N2) { s2 with heap:=hp3 } H3 fp) _ s9 _ H9 (.ref D) [zv] (.ref D) [z] (λ_ H'=>H'=upd H9 D (.lst (ys++[zv]))) I9 rfl (.cons r9 .nil) ⟨D,ys,zv,rfl,rfl,WR,WT,rfl⟩) λ_ s10 zz=>?_;obtain⟨_,H10,Ka,_,e10⟩:=zz;subst e10;obtain⟨k1,k2⟩:=q_ Ka;exact⟨m',hm,i+1,pre,ys++[zv],_,hpre,Ka.jZ,k1,k2,w'⟩
 exact jp loop (T.self X.A 0 _ _ _ st₁ loop)
def eU (ks:List Nat):Nat->St->St
 | _,[]=>[]
 | i,v::r=>(if ks.contains i=true then none else v)::eU ks (i+1) r
theorem Kg (ks:List Nat):∀(i:Nat) (σ:St),(eU ks i σ).length=σ.length
 | _,[]=>rfl
 | i,_::r=>by rw[eU,di,di,Kg ks (i+1) r]
theorem Kh (ks:List Nat):∀(i:Nat) (σ:St) (j:Nat) (v:V),(eU ks i σ)[j]?=some (some v)->ks.contains (i+j)=false/\σ[j]?=some (some v)
 | _,[],j,v,h=>by simp[eU]at h
 | i,x::r,0,v,h=>by
  rw[eU]at h;cases e:ks.contains i with
  | true=>rw[e]at h;simp at h
  | false=>rw[e]at h;exact⟨by first | rfl | exact e,by simpa using h⟩
 | i,x::r,j+1,v,h=>by
  rw[eU,List.getElem?_cons_succ]at h;obtain⟨a,b⟩:=Kh ks (i+1) r j v h;exact⟨by rw[show i+(j+1)=i+1+j by lia];exact a,by rw[List.getElem?_cons_succ];exact b⟩
def afj (sc:Scope)(N:List Str)(scope:Scope)(N2:List Str)(ks:List Nat):Bool:=
 scope.kind == .function&&scope.names.all (λy=>y.2 != .cell)&&scope.names.all (λy=>y.2 != .local||scope.names.lookup y.1==some .local) &&
 scope.names.all (λy=>y.2 != .free||sc.names.lookup y.1==some .cell||sc.names.lookup y.1==some .free)&&N2.length==N.length &&
 (List.range N.length).all (λi=>ks.contains i||(N2[i]? == N[i]? && (N[i]?.map λy=>scope.names.lookup y != some .local)==some true))
theorem fH.of {X:Cx}{scope:Scope}{ns:List Str}(N2:List Str)(ks:List Nat)(h:afj X.env.scope X.N scope N2 ks=true):fH X scope ns N2 (eU ks 0):=by
 unfold afj at h;simp only[ce,cz,mf,bne_iff_ne,beq_iff_eq,ne_eq]at h;obtain⟨⟨⟨⟨⟨h1,h2⟩,h3⟩,h5⟩,h6⟩,h7⟩:=h;refine⟨h1,λy hy=>h2 y hy,λy hy e=>(h3 y hy).resolve_left λz=>z e,λy hy e=>?_,Kg ks 0,h6,λσ i y v e1 e2=>?_⟩
 ·rcases h5 y hy with(z | z) | z
  ·exact absurd e z
  ·exact .inl z
  ·exact .inr z
 ·obtain⟨a,b⟩:=Kh ks 0 σ i v e2
  rw[Nat.zero_add]at a;have hi:i < X.N.length:=by rw[<- h6];exact(af.mp e1).1
  rcases h7 i (fi.mpr hi) with z | ⟨z1,z2⟩
  ·rw[a]at z;cases z
  ·rw[<- z1,e1]at z2
   rw[z1]at e1;exact⟨e1,b,by simpa using z2⟩
theorem oG {X:Cx}{scope:Scope}{cl:List (Str × Addr)}{C:Addr}{N:List Str}{s₀:Shared}{H₀:Hp}{fp:List Addr}{x:Str}{pos:Pos}(hN:N.Nodup)(h0:N[0]?=some x)(hx:scope.names.lookup x=some .local) :
  Nu (dO X scope cl C N s₀ H₀ fp) (.Name x pos) 1 (λv _ Q=>Q [some v]):=by
 intro ao s pre rest H v u Q hp I r q;obtain⟨p0,rfl⟩:=List.length_eq_one_iff.mp hp;refine bN (pX (X:=dO X scope cl C N s₀ H₀ fp) (i:=0) hN h0 (.inl (lookup_relabel_local hx)) (.inr (lookup_relabel_local hx)) ao s _ H v u (λσ' H'=>H'=H/\σ'=some v::rest) I r ⟨rfl,rfl⟩) λ_ s' zz=>?_;obtain⟨σ',H',I',e1,e2⟩:=zz;subst e1 e2;exact⟨[some v],rfl,I',q⟩
theorem tY {X:Cx}{scope:Scope}{cl:List (Str × Addr)}{C:Addr}{N:List Str}{s₀:Shared}{H₀:Hp}{fp:List Addr}{x y:Str}{px py pos:Pos}{k:Nat}(K:W.Frag)(hc:X.calm=true)(hN:N.Nodup)(h0:N[0]?=some x)(h1:N[1]?=some y)(hx:scope.names.lookup x=some .local)(hy:scope.names.lookup y=some .local)(hK:X.K=K:=by rfl) :
  Nu (dO X scope cl C N s₀ H₀ fp) (.Tuple [.Name x px,.Name y py] k pos) 2 (λv H Q=>∃a p q,v=.ref a/\aM K H a [p,q]/\Q [some p,some q]):=by
 subst hK;intro ao s pre rest H v u Q hp I r q;obtain⟨a,p,q',rfl,hq,q⟩:=q;obtain⟨p0,p1,rfl⟩:∃p0 p1,pre=[p0,p1]:=by
  match pre,hp with
  | [p0,p1],_=>exact⟨p0,p1,rfl⟩
 have P:PG (dO X scope cl C N s₀ H₀ fp) (.Tuple [.Name x px,.Name y py] k pos) (Tv X.K 2 (xX (mH 0) (xX (mH 1) Tt))):=MJ (X:=dO X scope cl C N s₀ H₀ fp) hc (pY (pX (i:=0) hN h0 (.inl (lookup_relabel_local hx)) (.inr (lookup_relabel_local hx))) (pY (pX (i:=1) hN h1 (.inl (lookup_relabel_local hy)) (.inr (lookup_relabel_local hy))) Ih));refine bN (P ao s _ H (.ref a) u (λσ' H'=>H'=H/\σ'=some p::some q'::rest) I r
  ⟨a,[p,q'],rfl,hq,rfl,p,[q'],rfl,q',[],rfl,rfl,rfl,rfl⟩) λ_ s' ⟨σ',H',I',e1,e2⟩=>?_
 subst e1 e2;exact⟨[some p,some q'],rfl,I',q⟩
theorem ql {X:Cx}{scope:Scope}{cl:List (Str × Addr)}{C:Addr}{N:List Str}{s₀:Shared}{H₀:Hp}{fp:List Addr}{x y z:Str}{px py pz pos:Pos}{k:Nat}(K:W.Frag)(hc:X.calm=true)(hN:N.Nodup)(h0:N[0]?=some x)(h1:N[1]?=some y)(h2:N[2]?=some z)(hx:scope.names.lookup x=some .local)(hy:scope.names.lookup y=some .local)(hz:scope.names.lookup z=some .local)(hK:X.K=K:=by rfl) :
  Nu (dO X scope cl C N s₀ H₀ fp) (.Tuple [.Name x px,.Name y py,.Name z pz] k pos) 3 (λv H Q=>∃a p q r,v=.ref a/\aM K H a [p,q,r]/\Q [some p,some q,some r]):=by
 subst hK;intro ao s pre rest H v u Q hp I r q;obtain⟨a,p,q',r',rfl,hq,q⟩:=q;obtain⟨p0,p1,p2,rfl⟩:∃p0 p1 p2,pre=[p0,p1,p2]:=by
  match pre,hp with
  | [p0,p1,p2],_=>exact⟨p0,p1,p2,rfl⟩
 have P:PG (dO X scope cl C N s₀ H₀ fp) (.Tuple [.Name x px,.Name y py,.Name z pz] k pos) (Tv X.K 3 (xX (mH 0) (xX (mH 1) (xX (mH 2) Tt)))):=MJ (X:=dO X scope cl C N s₀ H₀ fp) hc (pY (pX (i:=0) hN h0 (.inl (lookup_relabel_local hx)) (.inr (lookup_relabel_local hx))) (pY (pX (i:=1) hN h1 (.inl (lookup_relabel_local hy)) (.inr (lookup_relabel_local hy))) (pY (pX (i:=2) hN h2 (.inl (lookup_relabel_local hz)) (.inr (lookup_relabel_local hz))) Ih)));refine bN (P ao s _ H (.ref a) u (λσ' H'=>H'=H/\σ'=some p::some q'::some r'::rest) I r
  ⟨a,[p,q',r'],rfl,hq,rfl,p,[q',r'],rfl,q',[r'],rfl,r',[],rfl,rfl,rfl,rfl⟩) λ_ s' ⟨σ',H',I',e1,e2⟩=>?_
 subst e1 e2;exact⟨[some p,some q',some r'],rfl,I',q⟩
theorem fJ {X:Cx}{elt iter tg:Expr}{ns N2:List Str}{f:St->St}{TP:V->Hp->(St->Prop)->Prop}{ifs:List Expr}{scope:Scope}{pos:Pos}{wi:TI}{tt:TT}{te:TE}(hc:X.calm=true)(ok:fH X scope ns N2 f)(hi:QI X tg iter wi)
  (hg:∀cl C s₀ H₀ fp,Nu (dO X scope cl C (ns++N2) s₀ H₀ fp) tg ns.length TP)
  (ht:∀cl C s₀ H₀ fp,W0 (dO X scope cl C (ns++N2) s₀ H₀ fp) ifs tt) (he:∀cl C s₀ H₀ fp,QE (dO X scope cl C (ns++N2) s₀ H₀ fp) elt te)
  (hs:∀x,foldedSetIterable iter X.env x=pure x:=by intro _;rfl):QE X (.ListComp elt [⟨tg,iter,ifs,0⟩] scope pos) (GC f ns.length wi TP tt te):=
 ⟨aaf hc ok hi.out hg (λcl C s₀ H₀ fp=>(ht cl C s₀ H₀ fp).out) (λcl C s₀ H₀ fp=>(he cl C s₀ H₀ fp).out) hs⟩
def qK (n i:Nat)(D:Addr)(TP:V->Hp->(St->Prop)->Prop)(f:St->St)(σ:St)(tt:TT)(te:TE)(x:V)(H:Hp)(ys:List V)(P:List V->Hp->Prop):Prop:=
 TP x H λpre=>tt (pre++f σ) H λb H2=>if b=true then te (pre++f σ) H2 λy H3=>H3 D=some (.lst ys)/\ys.length < sizeLine/\dZ n i (P (ys++[y]) (upd H3 D (.lst (ys++[y])))) else dZ n i (P ys H2)
theorem wu {K:W.Frag}{a:Addr}{xs:List V}{D:Addr}{f:St->St}{tt:TT}{te:TE}{σ:St}{H:Hp}{R:Hp->Prop}(Pv:Nat->List V->Hp->Prop)(h0:Pv 0 [] (upd H D (.lst [])))(hl:∀i ys H,i<=xs.length->Pv i ys H->aU K H a xs)
  (hs:∀i x ys H,xs[i]?=some x->Pv i ys H->qK xs.length i D (λv _ Q=>Q [some v]) f σ tt te x H ys (Pv (i+1)))
  (hd:∀ys H,Pv xs.length ys H->R H) :
  ∃W:Nat->Nat->List V->Hp->Prop,(∃m,W 0 m [] (upd H D (.lst [])))/\
   ∀i m ys H,W i m ys H->((uX K a).stop i H/\R H)\/((uX K a).go i H/\∀x H',(uX K a).pO i H x H'->tt ([some x]++f σ) H' λb H2=>
    if b=true then te ([some x]++f σ) H2 λy H3=>H3 D=some (.lst ys)/\ys.length < sizeLine/\∃m',m' < m/\W (i+1) m' (ys++[y]) (upd H3 D (.lst (ys++[y])))
    else ∃m',m' < m/\W (i+1) m' ys H2):=by
 refine⟨λi m ys H=>m=xs.length-i/\i<=xs.length/\Pv i ys H,⟨xs.length,by simp,b8 _,h0⟩,?_⟩;rintro i m ys H ⟨rfl,hi,p⟩;have q:=hl i ys H hi p;by_cases hlt:i < xs.length
 ·refine .inr ⟨⟨xs,xs[i],q,by simp[hlt]⟩,λx H' y=>?_⟩
  obtain⟨e,y⟩:=y;subst e;exact hs i x ys H' (y xs q) p
 ·have e:i=xs.length:=by lia
  subst e;exact .inl ⟨⟨xs,q,al _⟩,hd ys H p⟩
theorem sV {K:W.Frag}{a:Addr}{xs:List V}{D:Addr}{f:St->St}{tt:TT}{te:TE}{σ:St}{H:Hp}{R:Hp->Prop}(Pv:Nat->List V->Hp->Prop)(h0:Pv 0 [] (upd H D (.lst [])))(hl:∀i ys H,i<=xs.length->Pv i ys H->aM K H a xs)
  (hs:∀i x ys H,xs[i]?=some x->Pv i ys H->qK xs.length i D (λv _ Q=>Q [some v]) f σ tt te x H ys (Pv (i+1)))
  (hd:∀ys H,Pv xs.length ys H->R H) :
  ∃W:Nat->Nat->List V->Hp->Prop,(∃m,W 0 m [] (upd H D (.lst [])))/\
   ∀i m ys H,W i m ys H->((uY K a).stop i H/\R H)\/((uY K a).go i H/\∀x H',(uY K a).pO i H x H'->tt ([some x]++f σ) H' λb H2=>
    if b=true then te ([some x]++f σ) H2 λy H3=>H3 D=some (.lst ys)/\ys.length < sizeLine/\∃m',m' < m/\W (i+1) m' (ys++[y]) (upd H3 D (.lst (ys++[y])))
    else ∃m',m' < m/\W (i+1) m' ys H2):=by
 refine⟨λi m ys H=>m=xs.length-i/\i<=xs.length/\Pv i ys H,⟨xs.length,by simp,b8 _,h0⟩,?_⟩;rintro i m ys H ⟨rfl,hi,p⟩;have q:=hl i ys H hi p;by_cases hlt:i < xs.length
 ·refine .inr ⟨⟨xs,xs[i],q,by simp[hlt]⟩,λx H' y=>?_⟩
  obtain⟨e,y⟩:=y;subst e;exact hs i x ys H' (y xs q) p
 ·have e:i=xs.length:=by lia
  subst e;exact .inl ⟨⟨xs,q,al _⟩,hd ys H p⟩
theorem Ue {l:List Nat}{D:Addr}{f:St->St}{tt:TT}{te:TE}{σ:St}{H:Hp}{R:Hp->Prop}(Pv:Nat->List V->Hp->Prop)(h0:Pv 0 [] (upd H D (.lst [])))(hs:∀i c ys H,l[i]?=some c->Pv i ys H->qK l.length i D (λv _ Q=>Q [some v]) f σ tt te (.str (S [c])) H ys (Pv (i+1)))
  (hd:∀ys H,Pv l.length ys H->R H) :
  ∃W:Nat->Nat->List V->Hp->Prop,(∃m,W 0 m [] (upd H D (.lst [])))/\
   ∀i m ys H,W i m ys H->((Its l).stop i H/\R H)\/((Its l).go i H/\∀x H',(Its l).pO i H x H'->tt ([some x]++f σ) H' λb H2=>
    if b=true then te ([some x]++f σ) H2 λy H3=>H3 D=some (.lst ys)/\ys.length < sizeLine/\∃m',m' < m/\W (i+1) m' (ys++[y]) (upd H3 D (.lst (ys++[y])))
    else ∃m',m' < m/\W (i+1) m' ys H2):=by
 refine⟨λi m ys H=>m=l.length-i/\i<=l.length/\Pv i ys H,⟨l.length,by simp,b8 _,h0⟩,?_⟩;rintro i m ys H ⟨rfl,hi,p⟩;by_cases hlt:i < l.length
 ·refine .inr ⟨hlt,λx H' y=>?_⟩
  obtain⟨e,c,hc,e2⟩:=y;subst e e2;exact hs i c ys H' hc p
 ·have e:i=l.length:=by lia
  subst e;exact .inl ⟨al _,hd ys H p⟩
theorem nH {K:W.Frag}{a:Addr}{xs:List V}{D:Addr}{f:St->St}{KT:W.Frag}{tt:TT}{te:TE}{σ:St}{H:Hp}{R:Hp->Prop}(Pv:Nat->List V->Hp->Prop)(h0:Pv 0 [] (upd H D (.lst [])))(hl:∀i ys H,i<=xs.length->Pv i ys H->aU K H a xs)
  (hs:∀i x ys H,xs[i]?=some x->Pv i ys H->qK xs.length i D (λv H Q=>∃a p q,v=.ref a/\aM KT H a [p,q]/\Q [some p,some q]) f σ tt te x H ys (Pv (i+1)))
  (hd:∀ys H,Pv xs.length ys H->R H) :
  ∃W:Nat->Nat->List V->Hp->Prop,(∃m,W 0 m [] (upd H D (.lst [])))/\
   ∀i m ys H,W i m ys H->((uX K a).stop i H/\R H)\/((uX K a).go i H/\∀x H',(uX K a).pO i H x H'->∃a p q,x=.ref a/\aM KT H' a [p,q]/\(tt ([some p,some q]++f σ) H' λb H2=>
    if b=true then te ([some p,some q]++f σ) H2 λy H3=>H3 D=some (.lst ys)/\ys.length < sizeLine/\∃m',m' < m/\W (i+1) m' (ys++[y]) (upd H3 D (.lst (ys++[y])))
    else ∃m',m' < m/\W (i+1) m' ys H2)):=by
 refine⟨λi m ys H=>m=xs.length-i/\i<=xs.length/\Pv i ys H,⟨xs.length,by simp,b8 _,h0⟩,?_⟩;rintro i m ys H ⟨rfl,hi,p⟩;have q:=hl i ys H hi p;by_cases hlt:i < xs.length
 ·refine .inr ⟨⟨xs,xs[i],q,by simp[hlt]⟩,λx H' y=>?_⟩
  obtain⟨e,y⟩:=y;subst e;exact hs i x ys H' (y xs q) p
 ·have e:i=xs.length:=by lia
  subst e;exact .inl ⟨⟨xs,q,al _⟩,hd ys H p⟩
theorem j9 {K:W.Frag}{a:Addr}{xs:List V}{D:Addr}{f:St->St}{KT:W.Frag}{tt:TT}{te:TE}{σ:St}{H:Hp}{R:Hp->Prop}(Pv:Nat->List V->Hp->Prop)(h0:Pv 0 [] (upd H D (.lst [])))(hl:∀i ys H,i<=xs.length->Pv i ys H->aM K H a xs)
  (hs:∀i x ys H,xs[i]?=some x->Pv i ys H->qK xs.length i D (λv H Q=>∃a p q r,v=.ref a/\aM KT H a [p,q,r]/\Q [some p,some q,some r]) f σ tt te x H ys (Pv (i+1)))
  (hd:∀ys H,Pv xs.length ys H->R H) :
  ∃W:Nat->Nat->List V->Hp->Prop,(∃m,W 0 m [] (upd H D (.lst [])))/\
   ∀i m ys H,W i m ys H->((uY K a).stop i H/\R H)\/((uY K a).go i H/\∀x H',(uY K a).pO i H x H'->∃a p q r,x=.ref a/\aM KT H' a [p,q,r]/\(tt ([some p,some q,some r]++f σ) H' λb H2=>
    if b=true then te ([some p,some q,some r]++f σ) H2 λy H3=>H3 D=some (.lst ys)/\ys.length < sizeLine/\∃m',m' < m/\W (i+1) m' (ys++[y]) (upd H3 D (.lst (ys++[y])))
    else ∃m',m' < m/\W (i+1) m' ys H2)):=by
 refine⟨λi m ys H=>m=xs.length-i/\i<=xs.length/\Pv i ys H,⟨xs.length,by simp,b8 _,h0⟩,?_⟩;rintro i m ys H ⟨rfl,hi,p⟩;have q:=hl i ys H hi p;by_cases hlt:i < xs.length
 ·refine .inr ⟨⟨xs,xs[i],q,by simp[hlt]⟩,λx H' y=>?_⟩
  obtain⟨e,y⟩:=y;subst e;exact hs i x ys H' (y xs q) p
 ·have e:i=xs.length:=by lia
  subst e;exact .inl ⟨⟨xs,q,al _⟩,hd ys H p⟩
theorem Ug {n i:Nat}{D:Addr}{f:St->St}{σ:St}{te:TE}{x:V}{H:Hp}{ys:List V}{P:List V->Hp->Prop}(h:te ([some x]++f σ) H λy H3=>H3 D=some (.lst ys)/\ys.length < sizeLine/\dZ n i (P (ys++[y]) (upd H3 D (.lst (ys++[y]))))) :
  qK n i D (λv _ Q=>Q [some v]) f σ iB te x H ys P:=by
 show (if true=true then (te ([some x]++f σ) H λy H3=>H3 D=some (.lst ys)/\ys.length < sizeLine/\dZ n i (P (ys++[y]) (upd H3 D (.lst (ys++[y]))))) else dZ n i (P ys H));rw[if_pos rfl];exact h
theorem Uh {KT:W.Frag}{n i:Nat}{D a:Addr}{p q:V}{f:St->St}{σ:St}{te:TE}{x:V}{H:Hp}{ys:List V}{P:List V->Hp->Prop}(hx:x=.ref a)(hS:aM KT H a [p,q])(h:te ([some p,some q]++f σ) H λy H3=>H3 D=some (.lst ys)/\ys.length < sizeLine/\dZ n i (P (ys++[y]) (upd H3 D (.lst (ys++[y]))))) :
  qK n i D (λv H Q=>∃a p q,v=.ref a/\aM KT H a [p,q]/\Q [some p,some q]) f σ iB te x H ys P:=by
 refine⟨a,p,q,hx,hS,?_⟩;show (if true=true then (te ([some p,some q]++f σ) H λy H3=>H3 D=some (.lst ys)/\ys.length < sizeLine/\dZ n i (P (ys++[y]) (upd H3 D (.lst (ys++[y]))))) else dZ n i (P ys H));rw[if_pos rfl];exact h
theorem yq {KT:W.Frag}{n i:Nat}{D a:Addr}{p q r:V}{f:St->St}{σ:St}{te:TE}{x:V}{H:Hp}{ys:List V}{P:List V->Hp->Prop}(hx:x=.ref a)(hS:aM KT H a [p,q,r])(h:te ([some p,some q,some r]++f σ) H λy H3=>H3 D=some (.lst ys)/\ys.length < sizeLine/\dZ n i (P (ys++[y]) (upd H3 D (.lst (ys++[y]))))) :
  qK n i D (λv H Q=>∃a p q r,v=.ref a/\aM KT H a [p,q,r]/\Q [some p,some q,some r]) f σ iB te x H ys P:=by
 refine⟨a,p,q,r,hx,hS,?_⟩;show (if true=true then (te ([some p,some q,some r]++f σ) H λy H3=>H3 D=some (.lst ys)/\ys.length < sizeLine/\dZ n i (P (ys++[y]) (upd H3 D (.lst (ys++[y]))))) else dZ n i (P ys H));rw[if_pos rfl];exact h
section
variable {X:Cx}
def acZ:V->List V->Hp->VK->Prop:=λx vs H Q=>∃(l:Addr) (us:AA) (w:List Nat),x=.ref l/\vs=[.str (S w)]/\H l=some (.lst (Ts us))/\w∈us/\us.length<=1000/\Q .non (upd H l (.lst (Ts (us.erase w))))
def strEq (w:List Nat)(u:Value):Bool:=match u with
 | .str z _=>z.cps.toList==w
 | _=>false
theorem W7 {us:AA}{w:List Nat}:us.erase w=us.eraseIdx (us.idxOf w):=by
 induction us with
 | nil=>rfl
 | cons a r ih=>
  by_cases h:a=w
  ·subst h;simp
  ·rw[List.erase_cons_tail (by simpa using h),List.idxOf_cons,cond_eq_ite,if_neg (by simpa using h),i9,ih]
theorem Kl:RB X "list.remove" acZ:=by
 intro ao s σ H x vs v us Q I rx rv h;obtain⟨l,ls,w,rfl,rfl,hH,hw,hz,q⟩:=h;cases rx;obtain⟨u,rfl,ru⟩:=rv.one;obtain⟨t,rfl⟩:=ru;obtain⟨z,its,n,r,hl,e⟩:=I.xZ hH;have cA:its.length=ls.length:=by rw[<- hl,aa]
 have hj:ls.idxOf w < ls.length:=List.idxOf_lt_length_of_mem hw;have get:∀(m:Nat) (hm:m < its.toArray.size),∃(tk:Tok) (hm':m < ls.length),its.toArray[m]=.str (S ls[m]) tk:=λm hm=>by
  have hm':m < ls.length:=by simp at hm;lia
  obtain⟨u1,e1,s1⟩:=r.get (i:=m) (x:=.str (S ls[m])) (by simp[hm']);obtain⟨tk,rfl⟩:=s1;refine⟨tk,hm',?_⟩;rw[ac (by lia)]at e1;simpa using e1
 refine call_meets F.slot_list_remove ⟨_,e,rfl⟩ F.entry_list_remove (F.args_list_remove_2 _ _) (PySem.MeetsSeq.list_remove l its.toArray n (.str (S w) t) (strEq w) (λy hy=>?_) (ls.idxOf w) (by rw[a9];lia) ?_ (λm hm hm2=>?_) (by rw[a9,cA];exact aE (aH hz))) ⟨e,?_⟩
 ·obtain⟨m,hm,rfl⟩:=Array.mem_iff_getElem.mp hy
  obtain⟨tk,_,e1⟩:=get m hm;rw[e1];exact PySem.SeqRoads2.EqGives.str _ _ _ _
 ·obtain⟨tk,hm',e1⟩:=get (ls.idxOf w) (by rw[a9];lia)
  rw[e1];show (ls[ls.idxOf w]==w)=true;rw[List.getElem_idxOf];simp
 ·obtain⟨tk,hm',e1⟩:=get m hm
  rw[e1];show (ls[m]==w)=false;have:=List.not_of_lt_findIdx (p:=λa=>a==w) (xs:=ls) (show m < ls.findIdx (λa=>a==w) from hm2);simpa using this
 ·refine⟨.non,_,I.Nh (its':=its.eraseIdx (ls.idxOf w)) hH e ?_ ?_ ?_,rfl,q⟩
  ·rw[Array.eraseIdxIfInBounds,dif_pos (by rw[a9];lia)]
   simp
  ·rw[W7]
   have hv:=Vals.eraseIdx (ls.idxOf w) r;have em:∀(xs:AA) (i:Nat),Ts (xs.eraseIdx i)=(Ts xs).eraseIdx i:=by
    intro xs
    induction xs with
    | nil=>intro i;rfl
    | cons a r ih=>
     intro i;cases i with
     | zero=>rfl
     | succ i=>rw[i9,Ts,bv,Ts,bv,i9];congr 1;exact ih i
   rw[em];exact hv
  ·rw[aa]
   exact b9 (List.length_erase_le ..) (aE (aH hz))
def afk (K:W.Frag):List V->Hp->VK->Prop:=λxs H Q=>∃(a:Addr) (ws:AA),xs=[.ref a]/\aU K H a (Ts ws)/\ws.length < 64/\∀(p:Addr) (ws':AA),H p=none->ws'.Perm ws->ws'.Pairwise (λa b=>decide (b < a)=false)->Q (.ref p) (upd H p (.lst (Ts ws')))
theorem Nv:gb X (.builtin "sorted") (afk X.K):=by
 intro ao s σ H xs us Q I r h;obtain⟨a,ws,rfl,hS,h64,q⟩:=h;obtain⟨u,rfl,ru⟩:=vals1 r;cases ru;obtain⟨its,rv,pl,_⟩:=I.list hS;have cA:its.length=ws.length:=by have:=rv.length;simpa using this.symm
 refine sorted_strs pl.isList (Df rv) (by lia) λout ss' a1 a2 a3=>?_;obtain⟨e,he⟩:=sortedAll_at s.heap its out;have W3:(ss'.map λy=>y.cps.toList).Perm ws:=by
  have:=a2.map λy:Str=>y.cps.toList;rw[eD]at this;have e:((λy:Str=>y.cps.toList) ∘ S)=id:=rfl;rw[e,mh]at this;exact this
 have hv:Vals (Ts (ss'.map λy=>y.cps.toList)) out.toList:=by
  have:=uy a1;have es:(ss'.map V.str)=Ts (ss'.map λy=>y.cps.toList):=by
   rw[Ts,eD];exact e7 λy _=>by simp[Function.comp_def,ae6]
  rw[es]at this;exact this
 have hl:(Ts (ss'.map λy=>y.cps.toList)).length<=sizeLine:=by
  rw[aa,W3.length_eq];exact aE (aH (by lia))
 refine⟨.ref (s.heap.objs.size+1),_,I.laid (o:=.lst _) (t':=s.toks) (λb o z=>sortedAll_old z) (jn _) ⟨hl,out.toList,e,hv,by rw[Array.toArray_toList];exact he⟩,rfl,q _ _ (I.hok.fresh (jn _)) W3 (Ke ss' a3)⟩
def ahp (t:TS):TS:=λD σ H=>∃Iv:St->Hp->Prop,t { D with nx:=Iv } σ H/\∀σ' H',Iv σ' H'->D.nx σ' H'
theorem gn {st:Stmt}{t:TS}(h:QS X st t):QS X st (ahp t):=⟨λao s σ H D I ⟨Iv,a,b⟩=>by
 refine bN (h.out ao s σ H _ I a) λf s' q=>?_;cases f with
 | next=>obtain⟨σ7,H7,I7,n7⟩:=q;exact⟨σ7,H7,I7,b _ _ n7⟩
 | cont=>exact q
 | brk=>exact q
 | ret v=>exact q⟩
end
end L2
namespace L2
open PySem PySem.Spec PyProof.Rows PySem.W
def dY {α:Type}(I:Nat->Prop)(lt:Nat->Nat->Bool):KasT α->(α->Prop)->Prop
 | .ret a,Q=>Q a
 | .ask i j k,Q=>I i/\I j/\dY I lt (k (lt i j)) Q
theorem dY.bind {α β:Type}{I:Nat->Prop}{lt:Nat->Nat->Bool}{f:α->KasT β}{Q:β->Prop}:∀(t:KasT α),dY I lt t (λa=>dY I lt (f a) Q)->dY I lt (t.bind f) Q
 | .ret _,h=>h
 | .ask i j k,h=>⟨h.1,h.2.1,dY.bind (k (lt i j)) h.2.2⟩
theorem dY.mono {α:Type}{I:Nat->Prop}{lt:Nat->Nat->Bool}{Q Q':α->Prop}(hq:∀a,Q a->Q' a):∀(t:KasT α),dY I lt t Q->dY I lt t Q'
 | .ret _,h=>hq _ h
 | .ask i j k,h=>⟨h.1,h.2.1,dY.mono hq (k (lt i j)) h.2.2⟩
theorem dY.wp {α:Type}{I:Nat->Prop}{lt:Nat->Nat->Bool}{cmp:Nat->Nat->(Bool->Shared->Prop)->Shared->Prop}{s:Shared}(hc:∀i j C,I i->I j->C (lt i j) s->cmp i j C s){Q:α->Prop}{R:α->Shared->Prop}(hr:∀a,Q a->R a s) :
  ∀(t:KasT α),dY I lt t Q->t.kasWp cmp R s
 | .ret _,h=>hr _ h
 | .ask i j k,h=>hc i j _ h.1 h.2.1 (dY.wp hc hr (k (lt i j)) h.2.2)
section
variable {n:Nat}{r:Nat->Nat}
variable {prog:Program}{w:World}{A:Around}{E:AB}{s:Shared}
structure fL (n:Nat)(p:Array Nat):Prop where
 sz:p.size=n
 pm:p.toList.Perm (List.range n)
theorem fL.lt {p:Array Nat}(h:fL n p){i:Nat}(hi:i < n):p.getD i 0 < n:=by
 have hs:=h.sz;have e:p.getD i 0=p[i]:=by simp[Array.getD,hs,hi]
 rw[e];exact fi.mp (h.pm.mem_iff.mp (by simp))
theorem fL.inj {p:Array Nat}(h:fL n p){i j:Nat}(hi:i < n)(hj:j < n)(e:p.getD i 0=p.getD j 0):i=j:=by
 have hs:=h.sz;have nd:p.toList.Nodup:=h.pm.symm.nodup List.nodup_range;have e1:p.getD i 0=p.toList[i]'(by simp;lia):=by simp[Array.getD,hs,hi]
 have e2:p.getD j 0=p.toList[j]'(by simp;lia):=by simp[Array.getD,hs,hj]
 rw[e1,e2]at e;have pw:=dn.mp nd;rcases ja i j with z | z | z
 ·exact absurd e (pw i j (by simp;lia) (by simp;lia) z)
 ·exact z
 ·exact absurd e.symm (pw j i (by simp;lia) (by simp;lia) z)
abbrev RR (r:Nat->Nat)(p:Array Nat)(i:Nat):Nat:=r (p.getD i 0)
abbrev DX (r:Nat->Nat):Nat->Nat->Bool:=λi j=>decide (r i < r j)
def mL (r:Nat->Nat)(p:Array Nat)(k:Nat):Prop:=∀i j,i < j->j < k->RR r p i < RR r p j
def Ui (r:Nat->Nat)(p:Array Nat)(k:Nat):Prop:=∀i j,i < j->j < k->RR r p j < RR r p i
def wz (n:Nat)(r:Nat->Nat):Prop:=∀i j,i < n->j < n->r i=r j->i=j
theorem Uj (hr:wz n r){p:Array Nat}(h:fL n p){i j:Nat}(hi:i < n)(hj:j < n)(hne:i≠j):RR r p i≠RR r p j:=λe=>hne (h.inj hi hj (hr _ _ (h.lt hi) (h.lt hj) e))
theorem Ir (hr:wz n r){p:Array Nat}(hp:fL n p):∀f m:Nat,1<=m->m+f<=n->mL r p m->dY (· < n) (DX r) (kas_asc p f m) (λm'=>m<=m'/\m'<=m+f/\mL r p m'/\(m'=m+f\/(m' < n/\RR r p m' < RR r p (m'-1))))
 | 0,m,_,_,hs=>⟨al _,al _,hs,.inl rfl⟩
 | f+1,m,h1,hf,hs=>by
  refine⟨hp.lt (by lia),hp.lt (by lia),?_⟩;show dY _ _ (if decide (RR r p m < RR r p (m-1))=true then KasT.ret m else kas_asc p f (m+1)) _;by_cases c:RR r p m < RR r p (m-1)
  ·rw[ah c,if_pos rfl]
   exact⟨al _,by lia,hs,.inr ⟨by lia,c⟩⟩
  ·rw[ae c,if_neg ba]
   have ne:=Uj hr hp (i:=m) (j:=m-1) (by lia) (by lia) (by lia);refine dY.mono (λm' h=>⟨by lia,by lia,h.2.2.1,?_⟩) _ (Ir hr hp f (m+1) (by lia) (by lia) λi j hij hj=>?_)
   ·rcases h.2.2.2 with z | z
    ·exact .inl (by lia)
    ·exact .inr z
   ·by_cases ej:j=m
    ·subst ej
     by_cases ei:i=j-1
     ·subst ei;lia
     ·have:=hs i (j-1) (by lia) (by lia);lia
    ·exact hs i j hij (by lia)
theorem Nx (hr:wz n r){p:Array Nat}(hp:fL n p):∀f m:Nat,2<=m->m+f<=n->Ui r p m->dY (· < n) (DX r) (kas_desc f p m 0) (λx=>∃m',x=(p,m',0)/\m<=m'/\m'<=m+f/\Ui r p m')
 | 0,m,_,_,hs=>⟨m,rfl,al _,al _,hs⟩
 | f+1,m,h1,hf,hs=>by
  refine⟨hp.lt (by lia),hp.lt (by lia),?_⟩;have ne:=Uj hr hp (i:=m) (j:=m-1) (by lia) (by lia) (by lia);show dY _ _ (if decide (RR r p m < RR r p (m-1))=true then (if 0 > 0 then _ else kas_desc f p (m+1) 0) else _) _;by_cases c:RR r p m < RR r p (m-1)
  ·rw[ah c,if_pos rfl,if_neg (by lia)]
   refine dY.mono (λx ⟨m',e,a,b,d⟩=>⟨m',e,by lia,by lia,d⟩) _ (Nx hr hp f (m+1) (by lia) (by lia) λi j hij hj=>?_);by_cases ej:j=m
   ·subst ej
    by_cases ei:i=j-1
    ·subst ei;lia
    ·have:=hs i (j-1) (by lia) (by lia);lia
   ·exact hs i j hij (by lia)
  ·rw[ae c,if_neg ba]
   refine⟨hp.lt (by lia),hp.lt (by lia),?_⟩;show dY _ _ (if decide (RR r p (m-1) < RR r p m)=true then KasT.ret (p,m,0) else _) _;rw[ah (show RR r p (m-1) < RR r p m by lia),if_pos rfl];exact⟨m,rfl,al _,by lia,hs⟩
theorem Ny {p:Array Nat}(hp:fL n p)(i j:Nat):fL n (kas_rev p i j):=
 ⟨(mirror_size _ _ _ _).trans hp.sz,((kS.mp (mirror_perm p i j _)).trans hp.pm)⟩
theorem RT {p:Array Nat}(hp:fL n p){m k:Nat}(hm:m<=n)(hk:k < m):(kas_rev p 0 m).getD k 0=p.getD (m-1-k) 0:=by
 have e:=getElem?_mirror_all (xs:=p) (i:=0) (j:=m) (by rw[hp.sz];exact hm) k;rw[if_pos ⟨b8 _,hk⟩,Nat.zero_add]at e;rw[e6,e6];exact congrArg (λx=>x.getD 0) e
theorem W8 (hr:wz n r){p:Array Nat}(hp:fL n p)(hn:1<=n):dY (· < n) (DX r) (kas_count n p) (λx=>1<=x.1/\x.1<=n/\fL n x.2/\mL r x.2 x.1):=by
 unfold kas_count;refine dY.bind _ (dY.mono (λm h=>?_) _ (Ir hr hp (n-1) 1 (al _) (by lia) λi j hij hj=>by lia));obtain⟨a,b,hs,hend⟩:=h;have tail:∀m,2<=m->m<=n->Ui r p m->dY (· < n) (DX r) (kas_tail3 m n p) (λx=>1<=x.1/\x.1<=n/\fL n x.2/\mL r x.2 x.1):=λm h2 hm hd=>by
  unfold kas_tail3;refine dY.bind _ (dY.mono (λm' h=>?_) _ (Ir hr (Ny hp 0 m) (n-m) m (by lia) (by lia) λi j hij hj=>?_))
  ·exact⟨by show 1<=m';lia,by show m'<=n;lia,Ny hp 0 m,h.2.2.1⟩
  ·show r _ < r _
   rw[RT hp hm (by lia),RT hp hm hj];exact hd (m-1-j) (m-1-i) (by lia) (by lia)
 by_cases e:m=n
 ·subst e
  rw[if_pos (by simp)];exact⟨a,al _,hp,hs⟩
 ·rw[if_neg (by simpa using e)]
  have hlt:m < n/\RR r p m < RR r p (m-1):=by
   rcases hend with z | z
   ·exact absurd z (by lia)
   ·exact z
  by_cases h1:m > 1
  ·rw[if_pos h1]
   refine⟨hp.lt (by lia),hp.lt (by lia),?_⟩;show dY _ _ (if decide (RR r p 0 < RR r p (m-1))=true then KasT.ret (m,p) else _) _;rw[ah (hs 0 (m-1) (by lia) (by lia)),if_pos rfl];exact⟨a,by show m<=n;lia,hp,hs⟩
  ·rw[if_neg h1]
   have em:m=1:=by lia
   subst em;unfold kas_descPart;refine dY.bind _ (dY.mono (λx h=>?_) _ (Nx hr hp (n-(1+1)) (1+1) (by lia) (by lia) λi j hij hj=>?_))
   ·obtain⟨m',rfl,c1,c2,c3⟩:=h
    show dY _ _ (if (0:Nat) > 0 then _ else kas_tail3 m' n p) _;rw[if_neg (by lia)];exact tail m' (by lia) (by lia) c3
   ·have ei:i=0:=by lia
    have ej:j=1:=by lia
    subst ei ej;exact hlt.2
theorem Aj (hr:wz n r){p:Array Nat}(hp:fL n p){k:Nat}(hk:k < n)(hs:mL r p k):∀f l t:Nat,l<=t->t<=k->t-l<=f->(∀i,i < l->RR r p i < RR r p k)->(∀i,t<=i->i < k->RR r p k < RR r p i)->
  dY (· < n) (DX r) (kas_place p k f l t) (λl'=>l'<=k/\(∀i,i < l'->RR r p i < RR r p k)/\∀i,l'<=i->i < k->RR r p k < RR r p i)
 | 0,l,t,h1,h2,h3,a,b=>⟨by lia,a,λi hi hk=>b i (by lia) hk⟩
 | f+1,l,t,h1,h2,h3,a,b=>by
  unfold kas_place;by_cases c:l>=t
  ·rw[if_pos c]
   exact⟨by lia,a,λi hi hk=>b i (by lia) hk⟩
  ·rw[if_neg c]
   refine⟨hp.lt hk,hp.lt (by lia),?_⟩;show dY _ _ (if decide (RR r p k < RR r p ((l+t)/2))=true then kas_place p k f l ((l+t)/2) else kas_place p k f ((l+t)/2+1) t) _;have ne:=Uj hr hp (i:=k) (j:=(l+t)/2) hk (by lia) (by lia);by_cases d:RR r p k < RR r p ((l+t)/2)
   ·rw[ah d,if_pos rfl]
    refine Aj hr hp hk hs f l ((l+t)/2) (by lia) (by lia) (by lia) a λi hi hik=>?_;by_cases e:i=(l+t)/2
    ·rw[e];exact d
    ·have:=hs ((l+t)/2) i (by lia) hik;lia
   ·rw[ae d,if_neg ba]
    refine Aj hr hp hk hs f ((l+t)/2+1) t (by lia) h2 (by lia) (λi hi=>?_) b;by_cases e:i=(l+t)/2
    ·rw[e];lia
    ·have:=hs i ((l+t)/2) (by lia) (by lia);lia
theorem RW {p:Array Nat}(hp:fL n p){k l j:Nat}(hk:k < n)(hl:l<=k):(bubble p k (k-l)).getD j 0=if j=l then p.getD k 0 else if l < j/\j<=k then p.getD (j-1) 0 else p.getD j 0:=by
 have e:=getElem?_bubble (xs:=p) (src:=k) (by rw[hp.sz];exact hk) (k-l) (by lia) j;rw[show k-(k-l)=l by lia]at e;rw[e6,e]
 split
 ·rw[e6]
 ·split <;> rw[e6]
theorem RX (hr:wz n r):∀(f:Nat) (p:Array Nat) (k:Nat),fL n p->k+f=n->1<=k->mL r p k->dY (· < n) (DX r) (kas_bin f p k) (λp'=>fL n p'/\mL r p' n)
 | 0,p,k,hp,hf,_,hs=>⟨hp,(show k=n by lia) ▸ hs⟩
 | f+1,p,k,hp,hf,h1,hs=>by
  unfold kas_bin;refine dY.bind _ (dY.mono (λl h=>?_) _ (Aj hr hp (by lia) hs k 0 k (by lia) (al _) (by lia) (λi hi=>by lia) λi hi hik=>by lia));obtain⟨hl,a,b⟩:=h;have hk:k < n:=by lia
  refine RX hr f _ (k+1) ⟨(bubble_size _ _ _).trans hp.sz,(kS.mp (bubble_perm p k _)).trans hp.pm⟩ (by lia) (by lia) λi j hij hj=>?_;show r _ < r _;rw[RW hp hk hl,RW hp hk hl];have key:∀x y:Nat,x < y->y < k->RR r p x < RR r p y:=λx y h1 h2=>hs x y h1 h2;by_cases c1:i=l
  ·rw[if_pos c1,if_neg (by lia),if_pos ⟨by lia,by lia⟩]
   exact b (j-1) (by lia) (by lia)
  ·rw[if_neg c1]
   by_cases c2:l < i/\i<=k
   ·rw[if_pos c2,if_neg (by lia),if_pos ⟨by lia,by lia⟩]
    exact key (i-1) (j-1) (by lia) (by lia)
   ·rw[if_neg c2]
    by_cases c3:j=l
    ·rw[if_pos c3]
     exact a i (by lia)
    ·rw[if_neg c3]
     by_cases c4:l < j/\j<=k
     ·rw[if_pos c4]
      by_cases c5:i=j-1
      ·lia
      ·exact key i (j-1) (by lia) (by lia)
     ·rw[if_neg c4]
      exact key i j hij (by lia)
theorem aag (hr:wz n r)(hn:1<=n):dY (· < n) (DX r) (kas_sort n) (λp=>fL n p/\mL r p n):=by
 unfold kas_sort;have h0:fL n (List.toArray (List.range n)):=⟨by simp,by simp⟩
 refine dY.bind _ (dY.mono (λx h=>?_) _ (W8 hr h0 hn));obtain⟨a,b,c,d⟩:=h;by_cases e:x.1 < n
 ·rw[if_pos e,show max x.1 1=x.1 by lia]
  exact RX hr _ _ _ c (by lia) a d
 ·rw[if_neg e]
  have:x.1=n:=by lia
  rw[this]at d;exact⟨c,d⟩
theorem Lk {a:Addr}{vs:List Value}{n:Nat}{P:PySem.Fin->Shared->Prop}{r:Nat->Nat}(ho:s.heap.get? a=some (seqObj "list" vs.toArray n))(h64:vs.length < 64)(hr:wz vs.length r)
  (hk:2<=vs.length->∀(h':Heap) (Q:SortKind->Shared->Prop),(∀b o,s.heap.get? b=some o->b≠a->h'.get? b=some o)->Q (tuples' true) { s with heap:=h' }->wpAny (model prog w) A (keyKind' vs.toArray) Q E { s with heap:=h' })
  (hc:∀(h':Heap),(∀b o,s.heap.get? b=some o->b≠a->h'.get? b=some o)->∀i j C,i < vs.length->j < vs.length->C (DX r i j) { s with heap:=h' }->kas_ask prog w A (tuples' true) vs i j C { s with heap:=h' })
  (h:∀(h':Heap) (p:Array Nat),fL vs.length p->mL r p vs.length->(∀b o,s.heap.get? b=some o->b≠a->h'.get? b=some o)->(∃e,h'.get? a=some (seqObj "list" (p.toList.map λi=>vs.getD i Value.none).toArray e))->P (.done (.ret .none)) { s with heap:=h' }) :
  wpAny (model prog w) A (Builtin.«list.sort» ⟨[.ref a],[]⟩) P E s:=by
 rw[list_sort_plain];have ha:a < s.heap.objs.size:=av ho;have aah:vs.length<=sizeLine:=aE (aH (by lia));refine ad (listItems_at ho rfl ?_);refine ad (listUpdate_at ho rfl ?_ (by rw[a9];exact aah) (b8 _));obtain⟨e1,ho1⟩:∃e1,(s.heap.update a (Obj.mapSeq λ_=>#[])).get? a=some (seqObj "list" #[] e1):=⟨_,get?_update_seq ho (λ_=>#[])⟩
 refine ad (seqEpoch_at ho1 rfl ?_);refine ad (wpAny_newTuple ?_ (by show vs.length<=_;exact aah));refine ad (wpAny_newList ?_ (b8 _));refine cK ?_;have ho6:(((s.heap.update a (Obj.mapSeq λ_=>#[])).push (seqObj "tuple" vs.toArray 0)).push (seqObj "list" #[] 0)).get? a=some (seqObj "list" #[] e1):=by
  rw[jb _ _ _ (by rw[size_push',Heap.size_update];exact a8 (d9 ha)),jb _ _ _ (by rw[Heap.size_update];exact a8 ha)];exact ho1
 have Ms:∀b o,s.heap.get? b=some o->b≠a->(((s.heap.update a (Obj.mapSeq λ_=>(#[]:Array Value))).push (seqObj "tuple" vs.toArray 0)).push (seqObj "list" #[] 0)).get? b=some o:=λb o e hb=>by
  refine ag _ (ag _ ?_);rw[gT _ _ _ _ hb];exact e
 show wpAny (model prog w) A _ P E { s with heap:=((s.heap.update a (Obj.mapSeq λ_=>#[])).push (seqObj "tuple" vs.toArray 0)).push (seqObj "list" #[] 0) };dsimp only;generalize ((s.heap.update a (Obj.mapSeq λ_=>(#[]:Array Value))).push (seqObj "tuple" vs.toArray 0)).push (seqObj "list" #[] 0)=W9 at ho6 Ms ⊢;have fin:∀(p:Array Nat),fL vs.length p->mL r p vs.length->∀(out:Array Value),out=(p.toList.map λi=>vs.getD i Value.none).toArray->P (.done (.ret .none)) { s with heap:=W9.update a (Obj.mapSeq λ_=>out) }:=λp pp sp out eo=>by
  refine h _ p pp sp (λb o e hb=>?_) ?_
  ·rw[gT _ _ _ _ hb];exact Ms b o e hb
  ·rw[<- eo];exact⟨_,get?_update_seq ho6 λ_=>out⟩
 have ab3:∀(p:Array Nat),fL vs.length p->(p.toList.map λi=>vs.getD i Value.none).toArray.size<=sizeLine:=λp pp=>by
  rw[a9,aa,dr,pp.sz];exact aah
 by_cases h2:vs.toArray.size < 2
 ·have hn2:vs.length < 2:=by rw[a9]at h2;exact h2
  rw[if_pos h2,if_pos h2];refine ad (am ?_);rw[StateT.run_pure];refine ad (am ?_);dsimp only;have h0:fL vs.length (List.toArray (List.range vs.length)):=⟨by simp,by simp⟩
  have eo:(arrOf (SortSt.mk' general' (vs.toArray.zip vs.toArray) #[] 7 none)).map (·.2)=((List.toArray (List.range vs.length)).toList.map λi=>vs.getD i Value.none).toArray:=by
   have e0:(arrOf (SortSt.mk' general' (vs.toArray.zip vs.toArray) #[] 7 none))=vs.toArray.zip vs.toArray:=rfl;rw[e0];exact(show ∀u:List Value,u.length < 2->(u.toArray.zip u.toArray).map (·.2)=((List.toArray (List.range u.length)).toList.map λi=>u.getD i Value.none).toArray from λu h=>match u,h with
    | [],_=>by simp
    | [v],_=>by apply j3.mp;simp[List.range_succ]) vs hn2
  refine ad (seqEpoch_at ho6 rfl ?_);refine ad (listUpdate_at ho6 rfl ?_ (b8 _) (by rw[eo];exact lm (ab3 _ h0)));simp only[bne_self_eq_false,cn,if_false];exact am (fin _ h0 (λi j hij hj=>by lia) _ eo)
 ·have hn2:2<=vs.length:=by rw[a9]at h2;lia
  rw[if_neg h2,if_neg h2];refine ad (hk hn2 W9 _ Ms ?_);refine ad (dl (kat_run (κ:=tuples' true) (ks:=vs) (vs:=vs) (Q:=λst' s'=>∃p:Array Nat,fL vs.length p/\mL r p vs.length/\arrOf st'=p.map (kas_item (vs.toArray.zip vs.toArray))/\failedOf st'=none/\s'={ s with heap:=W9 })
   (G:=λp s'=>fL vs.length p/\mL r p vs.length/\s'={ s with heap:=W9 }) rfl hn2 h64 (λp' st' s' a1 a2 a3 ⟨a4,a5,a6⟩=>⟨p',a4,a5,a2,a3,a6⟩)
   (dY.wp (λi j C hi hj hC=>hc W9 Ms i j C hi hj hC) (λp ⟨a1,a2⟩=>⟨a1,a2,rfl⟩) _ (aag hr (by lia)))) ?_ λ_ _ e=>e)
  rintro⟨⟨⟩,st'⟩ s' ⟨p,pp,sp,har,hf,rfl⟩;dsimp only;have eo:=kat_snds (ks:=vs) (vs:=vs) rfl har;refine ad (seqEpoch_at ho6 rfl ?_);refine ad (listUpdate_at ho6 rfl ?_ (b8 _) (by rw[eo];exact lm (ab3 _ pp)));rw[hf];simp only[bne_self_eq_false,cn,if_false];exact am (fin p pp sp _ eo)
theorem Uk {l:Addr}{vs:List Value}{Q:AB}{r:Nat->Nat}(hl:s.heap.IsList l vs.toArray)(h64:vs.length < 64)(hr:wz vs.length r)
  (hk:2<=vs.length->∀(h':Heap) (Q:SortKind->Shared->Prop) (E:AB),(∀b o,s.heap.get? b=some o->h'.get? b=some o)->Q (tuples' true) { s with heap:=h' }->wpAny (model prog w) A.in1.in1 (keyKind' vs.toArray) Q E { s with heap:=h' })
  (hc:∀(h':Heap),(∀b o,s.heap.get? b=some o->h'.get? b=some o)->∀i j C,i < vs.length->j < vs.length->C (DX r i j) { s with heap:=h' }->kas_ask prog w A.in1.in1 (tuples' true) vs i j C { s with heap:=h' })
  (h:∀(h':Heap) (p:Array Nat),fL vs.length p->mL r p vs.length->(∀b o,s.heap.get? b=some o->h'.get? b=some o)->(∃e,h'.get? (s.heap.objs.size+1)=some (seqObj "list" (p.toList.map λi=>vs.getD i Value.none).toArray e))->Q (.ref (s.heap.objs.size+1)) { s with heap:=h' }) :
  wpAny (model prog w) A (call (.builtin "sorted") [.ref l]) Q E s:=by
 refine Calls.call_function_entry kind_sorted plain_sorted entry_sorted (args_sorted1 _) ?_;unfold Builtin.«sorted»;refine ad (m:=checkCount "sorted" 1 1 _) (am ?_);refine ad (collect_list hl ?_ (by exact aE (aH (by lia))));refine ad (wpAny_newList ?_ (by exact aE (aH (by lia))));have hsz:((s.heap.push (seqObj "list" #[] 0)).update s.heap.objs.size (Obj.mapSeq (· ++ vs.toArray))).objs.size=s.heap.objs.size+1:=by
  rw[Heap.size_update,size_push']
 have hoL:(((s.heap.push (seqObj "list" #[] 0)).update s.heap.objs.size (Obj.mapSeq (· ++ vs.toArray))).push (seqObj "list" vs.toArray 0)).get? (s.heap.objs.size+1)=some (seqObj "list" vs.toArray 0):=by
  rw[<- hsz];exact aT _ rfl
 have keep:∀b o,s.heap.get? b=some o->(((s.heap.push (seqObj "list" #[] 0)).update s.heap.objs.size (Obj.mapSeq (· ++ vs.toArray))).push (seqObj "list" vs.toArray 0)).get? b=some o:=λb o q=>by
  have hlt:b < s.heap.objs.size:=av q;rw[jb _ _ _ (by rw[hsz];exact a8 (d9 hlt)),gT _ _ _ _ (a8 hlt),jb _ _ _ (a8 hlt)];exact q
 have nb:∀b o,s.heap.get? b=some o->b≠s.heap.objs.size+1:=λb o q=>a8 (d9 (av q));show wpAny _ _ _ _ _ { s with heap:=((s.heap.push (seqObj "list" #[] 0)).update s.heap.objs.size (Obj.mapSeq (· ++ vs.toArray))).push (seqObj "list" vs.toArray 0) };rw[hsz];refine ad (cK (eB slot_list_sort ⟨_,hoL,rfl⟩ entry_list_sort (Lk (s:={ s with heap:=((s.heap.push (seqObj "list" #[] 0)).update s.heap.objs.size (Obj.mapSeq (· ++ vs.toArray))).push (seqObj "list" vs.toArray 0) }) hoL h64 hr
  (λh2 h' Q' kp=>hk h2 h' Q' _ λb o e=>kp b o (keep b o e) (nb b o e)) (λh' kp=>hc h' λb o e=>kp b o (keep b o e) (nb b o e)) λh' p pp sp kp he=>⟨_,rfl,?_⟩) (args_list_sort _)))
 exact am ⟨_,rfl,h h' p pp sp (λb o e=>kp b o (keep b o e) (nb b o e)) he⟩
end
def afl (H:Hp)(cf:Addr->Nat)(a:Addr):Prop:=∃(x y:Nat) (rest:List V),H a=some (.tup (.int x :: .int y::rest))/\y < 1000/\cf a=x*1000+y/\(rest=[]\/∃z,rest=[.str z])
section
variable {X:Cx}
def afm (K:W.Frag):List V->Hp->VK->Prop:=λxs H Q=>∃(L:Addr) (as:List Addr) (cf:Addr->Nat),xs=[.ref L]/\aU K H L (as.map V.ref)/\as.length < 64/\(∀a∈as,afl H cf a)/\(as.map cf).Nodup/\
 ∀(p:Addr) (as':List Addr),H p=none->as'.Perm as->(as'.map cf).Pairwise (· < ·)->Q (.ref p) (upd H p (.lst (as'.map V.ref)))
theorem Km:∀{as:List Addr} {us:List Value},Vals (as.map V.ref) us->us=as.map Value.ref
 | [],_,.nil=>rfl
 | a::as,_,.cons r t=>by cases r;rw[bv,Km t]
theorem Ak:∀(as:List Addr),Vals (as.map V.ref) (as.map Value.ref)
 | []=>.nil
 | a::as=>.cons rfl (Ak as)
theorem Nz:gb X (.builtin "sorted") (afm X.K):=by
 intro ao s σ H xs us Q I r h;obtain⟨L,as,cf,rfl,hS,h64,hcell,hnd,q⟩:=h;obtain⟨u,rfl,ru⟩:=vals1 r;cases ru;obtain⟨its,rv,pl,_⟩:=I.list hS;have ahq:=Km rv;subst ahq;have tup:∀i:Nat,i < as.length->∃(x y:Nat) (t1 t2:Tok) (o:Obj) (n:Nat) (rest:List Value),s.heap.get? (as.getD i 0)=some o/\o.cls=.type "tuple"/\o.data=.seq (Value.int x t1::Value.int y t2::rest).toArray n/\y < 1000/\cf (as.getD i 0)=x*1000+y/\(rest=[]\/∃z t3,rest=[Value.str z t3]):=λi hi=>by
  have hm:as.getD i 0∈as:=by rw[ax,ac hi];exact ai _
  obtain⟨x,y,rest,e,hy,hcf,hrest⟩:=hcell _ hm;obtain⟨_,tv,NK,o,ho,hc,n,hd⟩:=I.hok _ _ e;cases NK with
  | cons r1 rr=>
   cases rr with
   | cons r2 rr=>
    obtain⟨t1,rfl⟩:=r1;obtain⟨t2,rfl⟩:=r2;refine⟨x,y,t1,t2,o,n,_,ho,hc,hd,hy,hcf,?_⟩;rcases hrest with rfl | ⟨z,rfl⟩
    ·cases rr;exact .inl rfl
    ·cases rr with
     | cons r3 rr=>
      cases rr;obtain⟨t3,rfl⟩:=r3;exact .inr ⟨z,t3,rfl⟩
 have gv:∀i:Nat,i < as.length->(as.map Value.ref).getD i Value.none=.ref (as.getD i 0):=λi hi=>by simp[hi]
 have cA:(as.map Value.ref).length=as.length:=aa _;have pwi:=dn.mp hnd;have hinj:wz (as.map Value.ref).length (λi=>cf (as.getD i 0)):=λi j hi hj e=>by
  rw[cA]at hi hj;have e':cf as[i]=cf as[j]:=by simpa [hi,hj] using e
  rcases ja i j with z | z | z
  ·exact absurd e' (by have:=pwi i j (by simpa using hi) (by simpa using hj) z;simpa using this)
  ·exact z
  ·exact absurd e'.symm (by have:=pwi j i (by simpa using hj) (by simpa using hi) z;simpa using this)
 refine Uk (r:=λi=>cf (as.getD i 0)) pl.isList (by rw[cA];exact h64) hinj ?_ ?_ ?_
 ·intro h2 h' Q' E' kp hQ
  have kt:∀(bs:List Addr),(∀b∈bs,b∈as)->∃fs,KatTups h' (bs.map Value.ref) fs/\fs.length=bs.length/\∀v∈fs,∃(x:Int) (t:Tok),v=.int x t:=by
   intro bs
   induction bs with
   | nil=>exact λ_=>⟨[],trivial,rfl,λv hv=>by simp at hv⟩
   | cons b bs ih=>
    intro hb;obtain⟨fs,k1,k2,k3⟩:=ih λx hx=>hb x (bb _ hx);obtain⟨i,hi,e⟩:=dm.mp (hb b bE);obtain⟨x,y,t1,t2,o,n,rest,ho,hc,hd,_⟩:=tup i hi;have eb:as.getD i 0=b:=by simp[hi,e]
    rw[eb]at ho;exact⟨.int x t1::fs,KatTups.cons (kp _ _ ho) hc hd rfl k1,by simp[k2],λv hv=>by
     rcases bq.mp hv with z | z
     ·exact⟨_,_,z⟩
     ·exact k3 v z⟩
  obtain⟨fs,k1,k2,k3⟩:=kt as λ_ h=>h;rw[cA]at h2;exact kat_kind (s:={ s with heap:=h' }) (T:=.type "int") k1 (by lia) (λv hv=>by obtain⟨x,t,rfl⟩:=k3 v hv;exact Looks.of_pure rfl) (by decide) hQ
 ·intro h' kp i j C hi hj hC
  rw[cA]at hi hj;obtain⟨x1,y1,t1,t2,o1,n1,r1,ho1,hc1,hd1,hy1,afn,hr1⟩:=tup i hi;obtain⟨x2,y2,t3,t4,o2,n2,r2,ho2,hc2,hd2,hy2,afo,hr2⟩:=tup j hj;have hC':C (decide (x1*1000+y1 < x2*1000+y2)) { s with heap:=h' }:=by
   have:DX (λi=>cf (as.getD i 0)) i j=decide (x1*1000+y1 < x2*1000+y2):=by show decide (cf _ < cf _)=_;rw[afn,afo]
   rw[<- this];exact hC
  unfold kas_ask;rw[gv i hi,gv j hj];refine kat_lt (s:={ s with heap:=h' }) (kp _ _ ho1) hd1 (kp _ _ ho2) hd2 ?_;rw[show (Value.int (x1:Int) t1::Value.int (y1:Int) t2::r1).toArray.toList.zip (Value.int (x2:Int) t3::Value.int (y2:Int) t4::r2).toArray.toList=(Value.int (x1:Int) t1,Value.int (x2:Int) t3)::(Value.int (y1:Int) t2,Value.int (y2:Int) t4)::r1.zip r2 from rfl];refine kat_cons (fm _ _ _ _ X.prog X.w _ _ ?_);refine kat_go (λe=>kat_yes ?_) (λe=>kat_no ?_)
  ·have ex:x1=x2:=by have:((x1:Int)==(x2:Int))=true:=e;have:=eq_of_beq this;lia
   refine kat_cons (fm _ _ _ _ X.prog X.w _ _ ?_);refine kat_go (λe=>kat_yes ?_) (λe=>kat_no ?_)
   ·have ey:y1=y2:=by have:((y1:Int)==(y2:Int))=true:=e;have:=eq_of_beq this;lia
    have eij:i=j:=hinj i j (by rw[cA];exact hi) (by rw[cA];exact hj) (by show cf _=cf _;rw[afn,afo,ex,ey]);subst eij;have eo:o1=o2:=by rw[ho1]at ho2;exact ap ho2
    subst eo;rw[hd1]at hd2;have er:r1=r2:=by
     injection hd2 with hd2 _;have:=congrArg Array.toList hd2;simp at this;exact this.2.2
    subst er;have fl:decide ((Value.int (x1:Int) t1::Value.int (y1:Int) t2::r1).toArray.size < (Value.int (x2:Int) t3::Value.int (y2:Int) t4::r1).toArray.size)=decide (x1*1000+y1 < x2*1000+y2):=by
     rw[ex,ey];simp
    rcases hr1 with rfl | ⟨z,t5,rfl⟩
    ·exact kat_nil (by rw[fl];exact hC')
    ·refine kat_cons (SeqAt.EqAt.same _ X.prog X.w _ _ ?_)
     exact kat_yes (kat_nil (by rw[fl];exact hC'))
   ·have ey:y1≠y2:=λz=>by have:((y1:Int)==(y2:Int))=false:=e;simp[z]at this
    refine kat_one _ _ (lt_int ?_);show C (decide ((y1:Int) < (y2:Int))) _;rw[show decide ((y1:Int) < (y2:Int))=decide (x1*1000+y1 < x2*1000+y2) by rw[ex];simp];exact hC'
  ·have ex:x1≠x2:=λz=>by have:((x1:Int)==(x2:Int))=false:=e;simp[z]at this
   show wpAny _ _ (oneLt' true _ _) _ _ _;refine oneLt_int ?_;rw[show decide ((x1:Int) < (x2:Int))=decide (x1*1000+y1 < x2*1000+y2) by
    by_cases z:x1 < x2
    ·rw[ah (by lia),ah (by lia)]
    ·rw[ae (by lia),ae (by lia)]]
   exact hC'
 ·intro h' p pp sp kp he
  rw[cA]at pp sp;obtain⟨e,he⟩:=he;have eo:(p.toList.map λi=>(as.map Value.ref).getD i Value.none)=(p.toList.map λi=>as.getD i 0).map Value.ref:=by
   rw[eD];refine e7 λi hi=>?_;exact gv i (fi.mp (pp.pm.mem_iff.mp hi))
  rw[eo]at he;have pm:(p.toList.map λi=>as.getD i 0).Perm as:=by
   have:=pp.pm.map λi=>as.getD i 0;have e2:(List.range as.length).map (λi=>as.getD i 0)=as:=by
    apply List.ext_getElem
    ·simp
    ·intro k h1 h2;simp at h1;simp[h1]
   rw[e2]at this;exact this
  have pw:((p.toList.map λi=>as.getD i 0).map cf).Pairwise (· < ·):=by
   rw[eD,dn];intro i j hi hj hij;rw[aa,dr,pp.sz]at hi hj;have:=sp i j hij hj;have g1:p.getD i 0=p.toList[i]'(by rw[dr,pp.sz];exact hi):=by simp[Array.getD,pp.sz,hi]
   have g2:p.getD j 0=p.toList[j]'(by rw[dr,pp.sz];exact hj):=by simp[Array.getD,pp.sz,hj]
   simp only[fh,Function.comp];rw[<- g1,<- g2];exact this
  have hl:((p.toList.map λi=>as.getD i 0).map V.ref).length<=sizeLine:=by
   rw[aa,pm.length_eq];exact aE (aH (by lia))
  refine⟨.ref (s.heap.objs.size+1),_,I.laid (o:=.lst _) (t':=s.toks) (λb o z=>kp b o z) (jn _) ⟨hl,(p.toList.map λi=>as.getD i 0).map Value.ref,e,Ak _,he⟩,rfl,q _ _ (I.hok.fresh (jn _)) pm pw⟩
end
def Raw (h:Heap)(d:Addr)(g:Array DictEntry)(e:Nat):Prop:=∃x,h.get? d=some x/\x.ExactDict/\x.data=.dict g e
theorem Raw.ty {s:Shared}{d:Addr}{g:Array DictEntry}{e:Nat}(m:Raw s.heap d g e):s.TypeIs (.ref d) "dict":=let ⟨x,p,q,_⟩:=m;⟨x,p,q.1⟩
theorem Raw.mv {h h':Heap}{d:Addr}{g:Array DictEntry}{e:Nat}(m:Raw h d g e)(k:∀x,h.get? d=some x->h'.get? d=some x):Raw h' d g e:=let ⟨x,p,q⟩:=m;⟨x,k _ p,q⟩
theorem Raw.lt {h:Heap}{d:Addr}{g:Array DictEntry}{e:Nat}(m:Raw h d g e):d < h.objs.size:=let ⟨x,p,q⟩:=m;av p
section
variable {prog:Program}{w:World}{A:Around}{E:AB}{s:Shared}{d a:Addr}{g:Array DictEntry}{e i:Nat}
variable {X:Cx}
variable {pos:Pos}
theorem aai {Q:AB}(hd:(d==sysModules)=false)(m:Raw s.heap d g e)
  (q:Q (.ref s.heap.objs.size) { s with heap:=s.heap.push { cls:=.type "dict_keyiterator",data:=.fields #[.ref d,.int 0 0,.int g.size 0,.int e 0] } }):wpAny (model prog w) A (pyIter (.ref d)) Q E s:=by
 have T:=m.ty;obtain⟨x,p1,p2,p3⟩:=m;refine wpAny_pyIter_slot T F.slot_dict_iter (eB F.slot_dict_iter T F.entry_dict_iter ?_ (F.args_dict_iter_1 _));unfold Builtin.«dict.__iter__» Builtin.Dict.dictSlotNone;refine ad (ad (wpAny_notOrdered_dict T ?_));show wpAny _ _ (pure (Value.ref d)) _ _ s;refine am ?_;show wpAny _ _ (Builtin.Dict.showsAll d >>= _) _ _ s;unfold Builtin.Dict.showsAll;rw[if_neg (by rw[hd];exact ba)];refine ad (am (ad (lp p1 p3 (ad (wpAny_dictEpoch p1 p3 ?_)))));refine ad (fA (am ⟨_,rfl,"dict_keyiterator",_,⟨_,aT _ rfl,rfl⟩,eL.lookup,?_⟩));simpa [rawInt] using q
theorem aaj {Q:Option Value->Shared->Prop}(t:s.heap.IsKeyIter a d i g.size e)(m:Raw s.heap d g e)(hi:i < g.size)
  (q:∀h',h'.IsKeyIter a d (i+1) g.size e->Heap.SameBut a s.heap h'->Q (some g[i].key) { s with heap:=h' }):wpAny (model prog w) A (pyNext (.ref a)) Q E s:=by
 have T:=t.typeIs;obtain⟨x,t1,t2,t3⟩:=id t;obtain⟨y,p1,p2,p3⟩:=m;unfold pyNext;refine ad (hV (g9 (name:=Str.ofString "__next__") T eL (eB eL T F.entry_dict_keyiterator_next ?_ (F.args_dict_keyiterator_next_1 _))));refine ad (am (ad (ad ?_)))
 first | refine ad (fE T (am ?_)) | refine ad (gE T (am ?_))
 refine ad (wpAny_fieldsOf t1 t3 ?_);have aak:Builtin.Dict_items.ownsTuple "dict_keyiterator"=false:=by decide
 simp only[aak,cn,if_false];show wpAny _ _ (if (Value.ref d==Value.none)=true then _ else _) _ _ s;rw[if_neg (show ¬((Value.ref d==Value.none)=true) from ba)];refine ad (am (ad (lp p1 p3 ?_)));rw[if_neg (by simp)];refine ad (am (ad (wpAny_dictEpoch p1 p3 ?_)));rw[if_neg (by simp)];refine am ?_;simp only[show ¬((i:Int) < 0) from by lia,if_false,c6,gm hi];refine ad ?_
 first | refine ad (fE T (am ?_)) | refine ad (gE T (am ?_))
 refine ad (wpAny_isOneOf_keyiter T ?_);show wpAny _ _ (setField (.ref a) 1 (rawInt ((i:Int)+1)) >>= _) _ _ s;refine ad (io t1 t3 (by simp) ?_);have t':(s.heap.update a (Obj.mapFields (·.setIfInBounds 1 (rawInt ((i:Int)+1))))).IsKeyIter a d (i+1) g.size e:=
  ⟨_,fk _ t1 (f_ (ib t3 _)),(lv ..).trans t2,by rw[ib t3];simp[rawInt]⟩
 refine ad (cK (ad (wpAny_isOneOf_keyiter (s:={ s with heap:=s.heap.update a (Obj.mapFields (·.setIfInBounds 1 (rawInt ((i:Int)+1)))) }) t'.typeIs ?_)));show wpAny _ _ (pure g[i].key) _ _ _;exact am (am ⟨_,rfl,am (q _ t' (Heap.SameBut.update ..))⟩)
theorem ac0 {Q:Option Value->Shared->Prop}(hh:A.handled=none)(t:s.heap.IsKeyIter a d i g.size e)(m:Raw s.heap d g e)(hi:g.size<=i)
  (q:∀h',Heap.ExtBut a s.heap h'->Q none { s with heap:=h' }):wpAny (model prog w) A (pyNext (.ref a)) Q E s:=by
 have T:=t.typeIs;obtain⟨x,t1,t2,t3⟩:=id t;obtain⟨y,p1,p2,p3⟩:=m;unfold pyNext;refine ad (hV (g9 (name:=Str.ofString "__next__") T eL (eB eL T F.entry_dict_keyiterator_next ?_ (F.args_dict_keyiterator_next_1 _))));refine ad (am (ad (ad ?_)))
 first | refine ad (fE T (am ?_)) | refine ad (gE T (am ?_))
 refine ad (wpAny_fieldsOf t1 t3 ?_);have aak:Builtin.Dict_items.ownsTuple "dict_keyiterator"=false:=by decide
 simp only[aak,cn,if_false];show wpAny _ _ (if (Value.ref d==Value.none)=true then _ else _) _ _ s;rw[if_neg (show ¬((Value.ref d==Value.none)=true) from ba)];refine ad (am (ad (lp p1 p3 ?_)));rw[if_neg (by simp)];refine ad (am (ad (wpAny_dictEpoch p1 p3 ?_)));rw[if_neg (by simp)];refine am ?_;simp only[show ¬((i:Int) < 0) from by lia,if_false,c6,Array.getElem?_eq_none hi];refine ad ?_
 first | refine ad (fE T (am ?_)) | refine ad (gE T (am ?_))
 show wpAny _ _ (setField (.ref a) 0 .none >>= _) _ _ s;refine ad (io t1 t3 (by simp) ?_);show wpAny _ _ (newExc (.type "StopIteration") [] >>= _) _ _ _;refine ad ?_;simp only[newExc,newTuple];refine ad (fA ?_ (by size_fits));refine ad (m:=firstArgMember _ _) (wpAny_of_eq (a:=Value.none) (by first | rfl | (simp only[firstArgMember];rfl)) (fA ?_ (by size_fits)));simp only[raiseNew];refine ad (wpAny_handled ?_);rw[show A.in1.handled=none from hh];refine ad (am (wpAny_throw ?_));refine ad (m:=isInstance _ _) (ka (T:="StopIteration") (b:=true) ⟨_,aT _ rfl,rfl⟩ isSubtype_stop ?_);exact am (q _ (((Heap.SameBut.update ..).extBut.push _).push _))
theorem W_ (hh:A.handled=none)(I:Addr)(hne:d≠I)(g:Array DictEntry)(e:Nat):Walks prog w A I [I,d] [I] g.size (λi v=>∃z,g[i]?=some z/\v=z.key) (λi h=>h.IsKeyIter I d i g.size e/\Raw h d g e) where
 sub:=λb hb=>by simp at hb;simp[hb]
 frame:=λ_ _ _ st hk=>⟨st.1.at λo z=>hk I (by simp) o z,st.2.mv λo z=>hk d (by simp) o z⟩
 item:=λi s Q E hi st hQ=>aaj st.1 st.2 hi λh' t' k=>hQ _ h' s.toks ⟨g[i],by simp[hi],rfl⟩ ⟨t',st.2.mv λo z=>k.extBut d o hne z⟩ λb o hb z=>k.extBut b o (λy=>hb (by simp[y])) z
 done:=λs Q E st hQ=>ac0 hh st.1 st.2 (al _) λh' k=>hQ h' s.toks λb o hb z=>k b o (λy=>hb (by simp[y])) z
 self:=λ_ _ _ _ st hQ=>wpAny_pyIter_keyiter st.1 hQ
theorem ac1 (lo:(d==sysModules)=false)(g:Array DictEntry)(e:Nat):KdlSrc prog w "dict" d d g.size (λi v=>∃z,g[i]?=some z/\v=z.key) (λh=>Raw h d g e) where
 type:=λ_ m=>m.ty
 there:=λ_ m=>⟨m.lt,m.lt⟩
 keep:=λ_ _ m hk=>m.mv λo z=>hk d (.inl rfl) o z
 notList:=by decide
 notTuple:=by decide
 hint:=λ_ _ _ _ m q=>kdl_hint_dict m.ty q
 iter:=λ_ _ hh m=>⟨_,_,(λ_ _ q=>aai lo m q),W_ hh _ (a8 m.lt) g e,⟨⟨_,aT _ rfl,rfl,rfl⟩,m.mv λo z=>ag _ z⟩⟩
def afp:List V->Hp->VK->Prop:=λxs H Q=>∃(a:Addr) (kvs:List (List Key × V)),xs=[.ref a]/\H a=some (.dT kvs)/\
 ((kvs.map (·.1)).Nodup->∀(p:Addr) (bs:List Addr),H p=none->Paired (λ(k:List Key) (b:Addr)=>H b=some (.tup (k.map kV))) (kvs.map (·.1)) bs->Q (.ref p) (upd H p (.lst (bs.map V.ref))))
theorem agP {H:Hp}{kvs:List (List Key × V)}{xs:List (List Key × Addr × Value)}(r:KT H kvs xs):Paired (λ(k:List Key) (b:Addr)=>H b=some (.tup (k.map kV))) (kvs.map (·.1)) (xs.map λx=>x.2.1)/\kvs.map (·.1)=xs.map (·.1):=by
 unfold KT at r
 induction r with
 | nil=>exact⟨.nil,rfl⟩
 | cons h t ih=>exact⟨.cons h.2.1 ih.1,by rw[bv,bv,ih.2,h.1]⟩
theorem Ul (hc:X.calm=true):gb X (.type "list") afp:=by
 intro ao s σ H xs us Q I r h;obtain⟨a,kvs,rfl,e,q⟩:=h;obtain⟨u,rfl,ru⟩:=vals1 r;cases ru;obtain⟨z,lo,ys,rel,o,es,ep,h1,h2,h3,h4,h5⟩:=(show dH X.prog X.w H s.heap a (.dT kvs) from I.hok _ _ e)
 obtain⟨pb,pk⟩:=agP rel;have hsz:es.size=ys.length:=size_of_entries h4;have cA:kvs.length=ys.length:=by have:=congrArg List.length pk;simpa using this
 refine kdl_call (ac1 lo es ep) (I.ok.hd hc) ⟨o,h1,h2,h3⟩ (by rw[hsz,<- cA];exact z) λh' tk acc c' hk hD hacc=>?_;have ea:acc.toList=(ys.map λx=>x.2.1).map Value.ref:=by
  apply List.ext_getElem?;intro j;by_cases hj:j < ys.length
  ·have hj':j < acc.size:=by rw[hacc.1,hsz];exact hj
   obtain⟨z1,e1,e2⟩:=hacc.2 j acc[j] (by simp[hj']);rw[entry_at h4 j,ac hj]at e1;have e1:=ap e1;subst e1;rw[kf,gm hj',e2];simp[hj];rfl
  ·rw[fq (by rw[dr,hacc.1,hsz];lia),fq (by simp;lia)]
 refine⟨.ref s.heap.objs.size,_,I.laid (o:=.lst _) (t':=tk) hk (al _) ⟨by rw[aa,aa,<- cA];exact z,acc.toList,c',ea ▸ Ak _,by simpa using hD⟩,rfl,q (by rw[pk];exact h5) _ _ (I.hok.fresh (al _)) pb⟩
open Classical in
theorem Iu (d:Dt):∀es:List Dt,((jB es).any λy=>PyData.eqv y (toP d))=decide (d∈es)
 | []=>by simp[jB]
 | e::es=>by
  rw[jB,hJ,Iu d es,Ip];by_cases z:e=d
  ·subst z;simp
  ·have z':¬d=e:=λy=>z y.symm
   simp[z,z']
theorem ac2 {o i:Expr}{td ty:TE}(hu:X.A.units+1 < cLine)(ho:QE X o td)(hi:QE X i ty)(hs:ZX i):QE X (.Subscript o i pos) (abV td ty):=⟨acO hu ho.out hi.out hs⟩
theorem aal:QE X (.Dict [] [] pos) Ww:=⟨Z5⟩
theorem afq {a b:Addr}{oa ob:Obj}{na nb:Nat}{x1 y1 x2 y2:Nat}{t1 t2 t3 t4:Tok}{r1 r2:List Value}{Q:AB}
  (ha:s.heap.get? a=some oa) (ca:oa.cls=.type "tuple") (da:oa.data=.seq (Value.int x1 t1::Value.int y1 t2::r1).toArray na)
  (hb:s.heap.get? b=some ob) (cb:ob.cls=.type "tuple") (db:ob.data=.seq (Value.int x2 t3::Value.int y2 t4::r2).toArray nb) (l1:y1 < 1000) (l2:y2 < 1000) (hu:A.units < cLine) (hne:x1*1000+y1≠x2*1000+y2)
  (q:Q (.bool (decide (x1*1000+y1 < x2*1000+y2))) s):wpAny (model prog w) A (compareOp .Lt (.ref a) (.ref b)) Q E s:=by
 have Ta:s.TypeIs (.ref a) "tuple":=⟨oa,ha,ca⟩
 have Tb:s.TypeIs (.ref b) "tuple":=⟨ob,hb,cb⟩
 show wpAny _ _ (richCompare .Lt (.ref a) (.ref b)) Q E s;refine wpAny_richCompare_same_room (op:=.Lt) (T:="tuple") Ta Tb kz (eB kz Ta F.entry_tuple_lt ?_ (F.args_tuple_lt_2 _ _)) hu;show wpAny _ _ (isInstance (.ref b) (.type "tuple") >>= _) _ _ s;refine ad (ka Tb isSubtype_tuple_tuple ?_);simp only[iE,cn,if_false];refine ad (iS ha da (ad (iS hb db (ad ?_))));rw[show (Value.int (x1:Int) t1::Value.int (y1:Int) t2::r1).toArray.toList.zip (Value.int (x2:Int) t3::Value.int (y2:Int) t4::r2).toArray.toList=(Value.int (x1:Int) t1,Value.int (x2:Int) t3)::(Value.int (y1:Int) t2,Value.int (y2:Int) t4)::r1.zip r2 from rfl];rw[fw];refine ad ?_;dsimp only;refine ad (fm _ _ _ _ prog w _ _ ?_);by_cases ex:x1=x2
 ·subst ex
  simp only[beq_self_eq_true,iE,cn,if_false];refine am ?_;dsimp only;rw[fw];refine ad ?_;dsimp only;refine ad (fm _ _ _ _ prog w _ _ ?_);have ey:((y1:Int)==(y2:Int))=false:=by
   apply beq_eq_false_iff_ne.mpr;intro z;exact hne (by lia)
  simp only[ey,mi,if_true];refine ad (wpAny_rule (ad (lt_int ?_)));refine ad (am (am (am (am ⟨_,rfl,by simp,?_⟩))));rw[show decide ((y1:Int) < (y2:Int))=decide (x1*1000+y1 < x1*1000+y2) by simp];exact q
 ·have ey:((x1:Int)==(x2:Int))=false:=by
   apply beq_eq_false_iff_ne.mpr;intro z;exact ex (by lia)
  simp only[ey,mi,if_true];refine ad (wpAny_rule (ad (lt_int ?_)));refine ad (am (am (am (am ⟨_,rfl,by simp,?_⟩))));rw[show decide ((x1:Int) < (x2:Int))=decide (x1*1000+y1 < x2*1000+y2) by
    by_cases z:x1 < x2
    ·rw[ah (by lia),ah (by lia)]
    ·rw[ae (by lia),ae (by lia)]]
  exact q
def ahr:R2:=λx y H Q=>∃(a b:Addr) (x1 y1 x2 y2:Nat) (r1 r2:List V),x=.ref a/\y=.ref b/\H a=some (.tup (.int x1 :: .int y1::r1))/\H b=some (.tup (.int x2 :: .int y2::r2))/\y1 < 1000/\y2 < 1000/\x1*1000+y1≠x2*1000+y2/\
 Q (.bl (decide (x1*1000+y1 < x2*1000+y2))) H
theorem afr (hu:X.A.units < cLine):fj X (compareOp .Lt) ahr:=by
 intro ao s σ H x y v u Q I rx ry h;obtain⟨a,b,x1,y1,x2,y2,r1,r2,rfl,rfl,ea,eb,l1,l2,hne,q⟩:=h;cases rx;cases ry;obtain⟨_,tv,NK,o,ho,hc,n,hd⟩:=I.hok _ _ ea;obtain⟨_,tv',aam,o',ho',hc',n',hd'⟩:=I.hok _ _ eb;cases NK with
 | cons q1 rr=>
  cases rr with
  | cons q2 rr=>
   cases aam with
   | cons q3 rr'=>
    cases rr' with
    | cons q4 rr'=>
     obtain⟨t1,rfl⟩:=q1;obtain⟨t2,rfl⟩:=q2;obtain⟨t3,rfl⟩:=q3;obtain⟨t4,rfl⟩:=q4;exact afq ho hc hd ho' hc' hd' l1 l2 hu hne ⟨.bl _,H,I,rfl,q⟩
structure ah5 (K:W.Frag)(C:Addr):Prop where
 ha:W.findIn K (.ref C) "__class__"=some (some (.builtin "object.__class__"))
 hn:W.specialIn K (.builtin "object.__class__") "__get__"=some (some (.builtin "getset_descriptor.__get__"))
 ht:W.takesIn K (.builtin "object.__class__")=some true
 hm:W.mroIn K C (.type "object")=some true
 ki:W.kitOne K (.ref C) (.ref C)=some true
def afs:List V->Hp->VK->Prop:=λxs H Q=>∃l:List Nat,xs=[.str (S l)]/\l.length<=1000/\∀p,H p=none->Q (.ref p) (upd H p (.lst (Ts (l.map λc=>[c]))))
theorem Ko:∀(l:List Nat) (us:List Value),us.length=l.length->(∀(i c:Nat),l[i]?=some c->∃t,us[i]?=some (.str (S [c]) t))->Vals (Ts (l.map λc=>[c])) us
 | [],[],_,_=>.nil
 | [],_::_,h,_=>by simp at h
 | _::_,[],h,_=>by simp at h
 | c::l,u::us,h,k=>by
  obtain⟨t,e⟩:=k 0 c rfl;have e:u=.str (S [c]) t:=ap e;exact .cons ⟨t,e⟩ (Ko l us (by simpa using h) λi d hd=>k (i+1) d hd)
theorem sW (hc:X.calm=true):gb X (.type "list") afs:=by
 intro ao s σ H xs us Q I r h;obtain⟨l,rfl,hl,q⟩:=h;obtain⟨u,rfl,ru⟩:=vals1 r;obtain⟨t,rfl⟩:=ru;have hz:l.length<=sizeLine:=aE (aH (by lia));refine call_list_str (I.ok.hd hc) (S l) t (λh' tk acc c' hk hD hacc=>?_) (by show l.toArray.size<=_;simpa using hz);have hsz:acc.size=l.length:=by rw[hacc.1];show l.toArray.size=_;simp
 refine⟨.ref s.heap.objs.size,_,I.laid (o:=.lst (Ts (l.map λc=>[c]))) (t':=tk) hk (al _) ⟨by rw[aa,aa];exact hz,acc.toList,c',?_,by simpa using hD⟩,rfl,q _ (I.hok.fresh (al _))⟩;refine Ko l acc.toList (by rw[dr];exact hsz) λi c hc=>?_;have hi:i < acc.size:=by rw[hsz];exact(af.mp hc).1
 obtain⟨c2,t2,e1,e2⟩:=hacc.2 i acc[i] (by simp[hi]);have e1:l.toArray[i]?=some c2:=e1;rw[List.getElem?_toArray,hc]at e1;have e1:=ap e1;exact⟨t2,by rw[kf,gm hi,e2,e1];rfl⟩
end
end L2
namespace L2
open PySem PySem.Spec PyProof.Rows
theorem ac3 {X:Cx}{ix:Nat}{xn:Str}{Es spos:Pos}{elt iter tg:Expr}{ns N2:List Str}{f:St->St}{TP:V->Hp->(St->Prop)->Prop}{ifs:List Expr}{scope:Scope}{pos:Pos}{wi:TI}{tt:TT}{te:TE}(hN:X.N.Nodup)(hxi:X.N[ix]?=some xn)(hxl:Loc X.env.scope xn)(hc:X.calm=true)(ok:fH X scope ns N2 f)(hi:PI X tg iter wi)
  (hg:∀cl C s₀ H₀ fp,Nu (dO X scope cl C (ns++N2) s₀ H₀ fp) tg ns.length TP)
  (ht:∀cl C s₀ H₀ fp,RL (dO X scope cl C (ns++N2) s₀ H₀ fp) ifs tt) (he:∀cl C s₀ H₀ fp,PE (dO X scope cl C (ns++N2) s₀ H₀ fp) elt te)
  (hs:∀x,foldedSetIterable iter X.env x=pure x:=by intro _;rfl) (hsw:swapsWith (.ListComp elt [⟨tg,iter,ifs,0⟩] scope pos) (some (.Name xn Es)) spos.line X.env=pure true:=by rfl)
  (hf:X.fn xn=true\/X.env.scope.names.lookup xn=some .local:=by first | exact .inl rfl | exact .inr rfl | assumption) :
  PS X (.Assign [.Name xn Es] (.ListComp elt [⟨tg,iter,ifs,0⟩] scope pos) spos) (Ii (GC f ns.length wi TP tt te) (mH ix)):=by
 intro ao s σ H De I h;obtain⟨cl,hcl,hsub,_,hall⟩:=oZ (env:=X.env) scope.names (λy hy e=>I.ok.has y.1 (ok.free y hy e)) [] (λ_ _ z=>by simp at z);have hclos:closureFor scope X.env=pure cl:=by
  unfold closureFor;simp only[bind_pure];exact hcl
 rw[exec_Assign_Name_used _ _ _ _ hsw];refine ad (iA (ad (ad ?_)));refine bN (Q:=λ_ s'=>∃σ' H',aL X ao σ' H' s'/\De.nx σ' H') ?_ λ_ s' hq=>am (am hq);refine iP (use:=some (assign (.Name xn Es) X.env)) (E:=X.xe) (cl:=cl) rfl hs hclos ok.kind ok.names (bN (hi ao s σ H _ I h) λv s1 h1=>bN h1 λitv s2 h2=>?_);obtain⟨it,fp,tn,J,H2,e,I2,T,st2,f2,R⟩:=h2;subst e;obtain⟨W,⟨m0,w0⟩,turn⟩:=R s2.heap.objs.size I2.fresh;refine fA (ky ok.qI (by intro y hy;simp at hy) (λh₁ hns₁ hsb₁=>?_) ok.kind);dsimp only at hns₁ hsb₁ ⊢;have I3:aL X ao σ (upd H2 s2.heap.objs.size (.lst [])) { s2 with heap:=s2.heap.push { cls:=.type "list",data:=.seq ([]:List Value).toArray } }:=I2.T5 (t':=s2.toks) (ys:=[]) (its:=[]) .nil (b8 _);generalize Wz:upd H2 s2.heap.objs.size (HO.lst [])=H3 at *
 generalize hs3:s2.heap.push { cls:=.type "list",data:=.seq ([]:List Value).toArray }=hp3 at *
 generalize hD:s2.heap.objs.size=D at *
 generalize hC:hp3.objs.size=C at *
 have hDC:D < C:=by rw[<- hC,<- hs3,cS,hD];exact fF _
 have old:∀b o,hp3.get? b=some o->h₁.get? b=some o:=λb o e=>(hsb₁.2 b (by rw[<- hC];exact a8 (av e))).trans (ag _ e);have J9:∀b∈fp,b < C:=λb hb=>by
  obtain⟨o,e,_⟩:=T.obj _ _ st2 b hb;rw[<- hC,<- hs3,cS];exact d9 (av e)
 have f3:∀b∈fp,nY X ao H3 b:=λb hb=>by
  obtain⟨o,e,_⟩:=T.obj _ _ st2 b hb;refine⟨?_,(f2 b hb).2⟩;rw[<- Wz,aN (by rw[<- hD];exact a8 (av e))];exact(f2 b hb).1
 have Ad:∀b∈fp,b∉frs X.stack:=λb hb z=>by
  obtain⟨_,g1,g2,_⟩:=f3 b hb;rcases bq.mp (I3.wY b z) with q | q
  ·exact g1 q
  ·exact g2 q
 have WD:(dO X scope cl C (ns++N2) { s2 with heap:=hp3 } H3 fp).Ok:=by
  refine⟨I.ok.mod,?_,I.ok.glob,I.ok.blt,eh hC,?_,?_,?_,I.ok.hd,I.ok.frames,.inl rfl,?_,?_,?_,?_,?_,?_,?_⟩
  ·exact ok.kind
  ·exact λa b c h1 h2=>I.ok.inj a b c (hsub a c h1) (hsub b c h2)
  ·intro a ha
   refine hall a ?_;rcases ha with z | z
   ·rcases cI (env:=X.env) z with q | ⟨_,q⟩
    ·exact absurd rfl (ok.qI _ (cQ q))
    ·exact cQ q
   ·rcases cI (env:=X.env) z with q | ⟨q,_⟩
    ·exact cQ q
    ·cases q
  ·intro a c hf;cases hf
  ·intro b hb
   refine⟨a8 (J9 b hb),λa c h1=>(f3 b hb).2.2.2.2.1 a c (hsub a c h1)⟩
  ·exact I3.bs
  ·exact b9 I.ok.rY I3.sz
  ·intro b o e hb
   rcases(f3 b hb).2.2.2.1 with z | z
   ·exact I.ok.wg b o e z
   ·exact absurd (b5 (av e) (b9 I.ok.rY z)) (du _)
  ·exact Ad
  ·exact I3.stack
  ·exact I3.pW
 have Y0:aL (dO X scope cl C (ns++N2) { s2 with heap:=hp3 } H3 fp) [] (List.replicate ns.length none++f σ) H3 { s2 with heap:=h₁,toks:=s2.toks+([]:List (Str × Value)).length }:=by
  refine⟨WD,rfl,I3.bare,Un.kept old,⟨_,hns₁,?_⟩,?_,?_,?_,λp hp=>by simp[dO]at hp,I3.hok.kept old,?_⟩
  ·intro i y v e1 e2 e3
   by_cases bT:i < ns.length
   ·rw[cy (by rw[b7];exact bT),i8,if_pos bT]at e2
    simp at e2
   ·obtain⟨i,rfl⟩:∃k,i=ns.length+k:=⟨i-ns.length,by lia⟩
    have W6:(ns++N2)[ns.length+i]?=some y:=e1;rw[ck (by lia),g6]at W6;rw[ck (by rw[b7];lia),b7,g6]at e2;obtain⟨e1',e2',hout⟩:=ok.out σ i y v W6 e2;have hfree:(y,NameKind.free)∈scope.names:=by
     have key:∀k,(relabel scope X.env).names.lookup y=some k->k≠.local->k=.cell\/k=.free->(y,NameKind.free)∈scope.names:=λk q n hk=>by
      rcases cI (env:=X.env) q with z | ⟨_,z⟩
      ·rcases hk with rfl | rfl
       ·exact absurd rfl (ok.qI _ (cQ z))
       ·exact cQ z
      ·exact cQ z
     rcases e3 with z | z | z
     ·rcases cI (env:=X.env) z with q | ⟨q,_⟩
      ·exact absurd q hout
      ·cases q
     ·exact key _ z (by decide) (.inl rfl)
     ·exact key _ z (by decide) (.inr rfl)
    have hk:=ok.free _ hfree rfl;obtain⟨m,hn,hl⟩:=I3.loc;obtain⟨u,r,q⟩:=hl i y v e1' e2' (by rcases hk with z | z;exact .inr (.inl z);exact .inr (.inr z));refine⟨u,r,.inr ⟨?_,?_⟩⟩
    ·rcases e3 with z | z | z
     ·rcases cI (env:=X.env) z with q | ⟨q,_⟩
      ·exact absurd q hout
      ·cases q
     ·exact .inl z
     ·exact .inr z
    ·rcases q with⟨z,_⟩ | ⟨_,c,hc',hcell⟩
     ·rcases hk with q | q <;> (rw[z]at q;cases q)
     ·obtain⟨c',hc2⟩:=hall y hfree
      have:c'=c:=by have:=hsub y c' hc2;rw[hc']at this;exact(ap this).symm
      subst this;obtain⟨o,ho,hd⟩:=hcell;exact⟨c',hc2,o,old _ _ ho,hd⟩
  ·intro a c h1
   obtain⟨v,o,ho,hd⟩:=I3.cell a c (hsub a c h1);exact⟨v,o,old _ _ ho,hd⟩
  ·show H3 C=none
   exact I3.hok.fresh (eh hC)
  ·exact λa c h1=>I3.ji a c (hsub a c h1)
  ·show (List.replicate ns.length none++f σ).length=(ns++N2).length
   rw[a_,a_,b7,ok.aad,I.len,ok.aae]
 have back:∀(s':Shared) (v:St) (H':Hp) (h':Heap),aL (dO X scope cl C (ns++N2) { s2 with heap:=hp3 } H3 fp) [] v H' s'->Heap.SameBut C s'.heap h'->(∀b∈fp,H' b=none)->aL X ao σ H' { s' with heap:=h' }:=by
  intro s' v H' h' I' sb fr;have rZ:∀b o,hp3.get? b=some o->b≠C:=λb o e=>by rw[<- hC];exact a8 (av e)
  have U:Un (frs X.stack) fp H3 H' hp3 s'.heap:=I'.base;refine I3.call' (ch:=fp) (H':=H') (s':={ s' with heap:=h' }) I'.os ⟨λb o e n h1 h2=>(sb.2 b (rZ b o e)).trans (U.keep b o e n h1 h2),λb o e n h1 h2=>?_,U.free,λb o e h2=>?_,U.tups,U.lG,U.lR⟩ (λb ob e=>?_) I'.bare λb hb=>?_
  ·obtain⟨sl,q⟩:=U.slot b o e n h1 h2
   exact⟨sl,(sb.2 b (rZ b o e)).trans q⟩
  ·obtain⟨o',q⟩:=U.there b o e h2
   exact⟨o',(sb.2 b (rZ b o e)).trans q⟩
  ·have fC:H' C=none:=I'.free
   refine(I'.hok b ob e).stay (λc w' hc q=>(sb.2 c ?_).trans q) (λ_ q=>q) λ_ _ q=>q;rintro rfl;rcases hc with rfl | hc
   ·rw[fC]at e;cases e
   ·rw[fC]at hc;cases hc
  ·obtain⟨_,g1,_,g3,g4,g5⟩:=f3 b hb
   exact⟨g3,g1,g4,g5⟩
 have stat:∀{H':Hp},(∀b∈fp,H' b=none)->∀b∈fp,nY (dO X scope cl C (ns++N2) { s2 with heap:=hp3 } H3 fp) [] H' b:=λhn b hb=>
  ⟨hn b hb,a8 (J9 b hb),Ad b hb,.inl hb,λa c h1=>(f3 b hb).2.2.2.2.1 a c (hsub a c h1),λp hp=>by simp[dO]at hp⟩
 have st₁:tn 0 h₁:=T.keep _ _ _ st2 λb _ o e=>old b o (by rw[<- hs3];exact ag _ e);have loop:codeAny (model X.prog X.w) X.A (.compLoop (.ListComp elt [⟨tg,iter,ifs,0⟩] scope pos) 0 (.ref it) (.ref D) (compEnvC scope cl C X.env)) (compPost (model X.prog X.w) X.A X.xe (some (assign (.Name xn Es) X.env)) (λ_ s'=>∃σ' H',aL X ao σ' H' s'/\De.nx σ' H') (.ref D) C)
   { s2 with heap:=h₁,toks:=s2.toks+([]:List (Str × Value)).length }:=by
  refine yg (λn s'=>∃i v ys H',v.length=ns.length/\aL (dO X scope cl C (ns++N2) { s2 with heap:=hp3 } H3 fp) [] (v++f σ) H' s'/\tn i s'.heap/\(∀b∈fp,H' b=none)/\W i n ys H') ?_ m0 ⟨0,List.replicate ns.length none,[],H3,b7,Y0,st₁,λb hb=>(f3 b hb).1,w0⟩;rintro n s4 ⟨i,v,ys,H4,hv4,I4,J_,Ae,w4⟩;rcases turn i n ys H4 w4 with⟨stop,qn⟩ | ⟨go,step⟩
  ·refine bN (T.done (dO X scope cl C (ns++N2) { s2 with heap:=hp3 } H3 fp) rfl rfl rfl hc i [] s4 (v++f σ) H4 _ I4 (stat Ae) J_ stop) λr s5 ⟨hr,I5⟩=>?_
   subst hr;obtain⟨m,hn,_⟩:=id I5.loc;have Rq:aL X ao σ H4 s5:=back s5 (v++f σ) H4 s5.heap I5 (Heap.SameBut.refl _ _) Ae;have fC:nY X ao H4 C:=⟨I5.free,(I3.Ij (H':=H3) (eh hC) (I3.hok.fresh (eh hC))).2⟩
   refine kX (JZ Rq hN hxi hxl (show cu (.ref D) (.ref D) from rfl) (λs6 I6 zz=>?_) hf);obtain⟨a,sb6,ha⟩:=zz;have nCa:C≠a:=by
    rcases ha with z | z
    ·rw[z];exact fC.2.1
    ·exact λy=>fC.2.2.2.2.1 _ _ z y.symm
   obtain⟨o,es,ep,e1,e2⟩:=hn;refine⟨m,⟨o,es,ep,(sb6.2 C nCa).trans e1,e2⟩,λh' sb=>⟨_,H4,I6.turned (t':=s6.toks) (λb o hb e=>(sb.2 b hb).trans e) fC.1 fC.2.1 fC.2.2.2.1 fC.2.2.2.2.1 fC.2.2.2.2.2,qn⟩⟩
  ·refine bN (T.item (dO X scope cl C (ns++N2) { s2 with heap:=hp3 } H3 fp) rfl rfl rfl hc i [] s4 (v++f σ) H4 _ I4 (stat Ae) J_ go) λr s5 zz=>?_;obtain⟨u,hr,h5⟩:=zz
   subst hr;refine bN h5 λ_ s6 zz=>?_;obtain⟨y,H6,I6,r6,y6,Af,WK⟩:=zz;have WL:=I6.pinned (stat WK) (T.obj _ _ Af);refine bN (hg cl C { s2 with heap:=hp3 } H3 fp _ s6 v (f σ) H6 y u _ hv4 WL r6 (step y H6 y6)) λ_ s7 zz=>?_;obtain⟨pre,hpre,WM,q7⟩:=zz;refine bN (ht cl C { s2 with heap:=hp3 } H3 fp _ s7 _ H6 _ WM q7) λb s8 zz=>?_;obtain⟨H8,I8,q8⟩:=zz;have q_:∀{σ':St} {H':Hp} {s':Shared},aL (dO X scope cl C (ns++N2) { s2 with heap:=hp3 } H3 fp) ([]++uf fp s6.heap) σ' H' s'->tn (i+1) s'.heap/\∀b∈fp,H' b=none:=λ{σ' H' s'} I9=>by
    refine⟨T.keep _ _ _ Af λb hb o e=>(I9.pin (b,o) (bP _ (bP _ (jm hb e)))).1,λb hb=>?_⟩;obtain⟨o,e,d⟩:=T.obj _ _ Af b hb;exact(I9.pin (b,o) (bP _ (bP _ (jm hb e)))).2.1
   cases b with
   | false=>
    obtain⟨m',hm,w'⟩:=q8;obtain⟨k1,k2⟩:=q_ I8;exact⟨m',hm,i+1,pre,ys,H8,hpre,I8.jZ,k1,k2,w'⟩
   | true=>
    have WQ:te (pre++f σ) H8 _:=q8;show wpAny _ _ (eval elt _) _ _ _;refine bN (he cl C { s2 with heap:=hp3 } H3 fp _ s8 _ H8 _ I8 WQ) λz s9 zz=>?_;obtain⟨zv,H9,I9,r9,WR,WT,m',hm,w'⟩:=zz;refine bN (gK (X:=dO X scope cl C (ns++N2) { s2 with heap:=hp3 } H3 fp) _ s9 _ H9 (.ref D) [zv] (.ref D) [z] (λ_ H'=>H'=upd H9 D (.lst (ys++[zv]))) I9 rfl (.cons r9 .nil) ⟨D,ys,zv,rfl,rfl,WR,WT,rfl⟩) λ_ s10 zz=>?_;obtain⟨_,H10,Ka,_,e10⟩:=zz;subst e10;obtain⟨k1,k2⟩:=q_ Ka;exact⟨m',hm,i+1,pre,ys++[zv],_,hpre,Ka.jZ,k1,k2,w'⟩
 exact jp loop (T.self X.A 0 _ _ _ st₁ loop)
theorem xu {X:Cx}{ix:Nat}{xn:Str}{Es spos:Pos}{elt iter tg:Expr}{ns N2:List Str}{f:St->St}{TP:V->Hp->(St->Prop)->Prop}{ifs:List Expr}{scope:Scope}{pos:Pos}{wi:TI}{tt:TT}{te:TE}(hN:X.N.Nodup)(hxi:X.N[ix]?=some xn)(hxl:Loc X.env.scope xn)(hc:X.calm=true)(ok:fH X scope ns N2 f)(hi:QI X tg iter wi)
  (hg:∀cl C s₀ H₀ fp,Nu (dO X scope cl C (ns++N2) s₀ H₀ fp) tg ns.length TP)
  (ht:∀cl C s₀ H₀ fp,W0 (dO X scope cl C (ns++N2) s₀ H₀ fp) ifs tt) (he:∀cl C s₀ H₀ fp,QE (dO X scope cl C (ns++N2) s₀ H₀ fp) elt te)
  (hs:∀x,foldedSetIterable iter X.env x=pure x:=by intro _;rfl) (hsw:swapsWith (.ListComp elt [⟨tg,iter,ifs,0⟩] scope pos) (some (.Name xn Es)) spos.line X.env=pure true:=by rfl)
  (hf:X.fn xn=true\/X.env.scope.names.lookup xn=some .local:=by first | exact .inl rfl | exact .inr rfl | assumption) :
  QS X (.Assign [.Name xn Es] (.ListComp elt [⟨tg,iter,ifs,0⟩] scope pos) spos) (Ii (GC f ns.length wi TP tt te) (mH ix)):=
 ⟨ac3 hN hxi hxl hc ok hi.out hg (λa b c d e=>(ht a b c d e).out) (λa b c d e=>(he a b c d e).out) hs hsw hf⟩
structure ah6 (X:Cx)(scope:Scope)(xn:Str)(N2:List Str)(f:St->St):Prop where
 kind:scope.kind=.function
 one:∀y∈scope.names,y.2=.cell->y.1=xn
 cf:∀k acc,cellsFrom k scope.names acc=(xn,k)::acc
 pc:∀h:Heap,pushCells h scope.names=h.push { cls:=.type "cell",data:=.cell none }
 names:∀y∈scope.names,y.2=.local->scope.names.lookup y.1=some .local
 free:∀y∈scope.names,y.2=.free->X.env.kindOf y.1=some .cell\/X.env.kindOf y.1=some .free
 aad:∀σ:St,(f σ).length=σ.length
 aae:N2.length=X.N.length
 out:∀(σ:St) (i:Nat) (y:Str) (v:V),N2[i]?=some y->(f σ)[i]?=some (some v)->X.N[i]?=some y/\σ[i]?=some (some v)/\scope.names.lookup y≠some .local/\y≠xn
section
variable {X:Cx}
def ac4:V->List V->Hp->VK->Prop:=λx vs H Q=>∃l w,x=.str (S l)/\vs=[.str (S w)]/\∀n:Nat,Q (.int n) H
theorem Xa:w6 X "str.count" ac4:=by
 intro ao s σ H x vs v us Q I rx rv h;obtain⟨l,w,rfl,rfl,q⟩:=h;obtain⟨t,rfl⟩:=rx;obtain⟨u,rfl,ru⟩:=rv.one;obtain⟨t',rfl⟩:=ru;refine call_gives F.slot_str_count (typeIs_str s _ t) F.entry_str_count (F.args_str_count_2 _ _) (gives_str_count (S l) (S w) t t') ?_;show EP X ao σ Q _ _;exact⟨.int (Builtin.Str.occurrences (S l) (S w) 0 (S l).length ((S l).length+1)).length,H,I.tok _,⟨s.toks,rfl⟩,q _⟩
end
end L2
namespace L2
open PySem PySem.Spec PyProof.Rows PySem.W
open AutoSeq1 (wpAny_loadPart')
section
variable {X:Cx}{ao:AC}{σ:St}{H:Hp}{s:Shared}{h':Heap}
theorem aL.RZ {t':Nat}{fp:List Addr}(I:aL X ao σ H s)(k:∀b o,b∉fp->s.heap.get? b=some o->h'.get? b=some o)(hf:∀b∈fp,nY X ao H b):aL X ao σ H { s with heap:=h',toks:=t' }:=by
 have V5:∀b u,H b=some u->b∉fp:=λb u e z=>by rw[(hf b z).1]at e;cases e
 refine I.step (g':=s.gens) (d':=s.drawn) (ch:=fp) (λb hb=>?_) (λb o _ _ hc e _=>k b o hc e) (λb o _ _ hc e _=>⟨o.slots,k b o hc e⟩) (λ_ _ _ _ n=>n)
  (λb o hc e=>⟨o,k b o hc e⟩) (λ_ _ e=>e) (λ_ _ _ e=>e) (λb ps e=>⟨#[],by rw[e];simp⟩) (λm hm=>?_) (λb u e=>?_) I.bare
 ·obtain⟨f0,f1,f2,f3,f4,f5⟩:=hf b hb
  exact⟨f3,f1,f4,f5⟩
 ·obtain⟨o,es,ep,ho,r⟩:=hm
  exact⟨o,es,ep,k _ o (λz=>(hf _ z).2.1 rfl) ho,r⟩
 ·refine(I.hok b u e).stay (λc v hc q=>k c v ?_ q) (λ_ q=>q) λ_ _ q=>q
  rcases hc with z | z
  ·rw[z];exact V5 b u e
  ·exact V5 c _ z
theorem NP (hc:X.calm=true):gb X (.builtin "any") (λxs H Q=>∃(p:Addr) (bs:List Bool),xs=[.ref p]/\aU X.K H p (bs.map V.bl)/\Q (.bl (bs.any id)) H):=by
 intro ao s σ H xs us Q I r h;obtain⟨p,bs,rfl,hq,q⟩:=h;obtain⟨u,rfl,ru⟩:=vals1 r;cases ru;obtain⟨its,rv,pl,hz⟩:=I.list hq;have hne:p≠s.heap.objs.size:=by
  obtain⟨o,ho,_⟩:=pl.isList;exact a8 (av ho)
 have hb:∀(i:Nat) (v:Value),its[i]?=some v->v=.bool (bs.getD i false):=λi v hv=>by
  have cA:=rv.length;have hi:i < bs.length:=by have:=(af.mp hv).1;simp at cA;lia
  obtain⟨u,hu,ru⟩:=rv.get (i:=i) (x:=.bl bs[i]) (by simp[hi]);rw[hv]at hu;cases hu;cases ru;simp[List.getD,hi]
 refine call_any_walk (eP pl.isList ?_);refine⟨s.heap.objs.size,_,_,_,_,_,λi=>bs.getD i false,rfl,Walks.list (A:=X.A.in1) (I.ok.hd hc) s.heap.objs.size p hne its.toArray,⟨⟨_,aT _ rfl,rfl,rfl⟩,pl.isList.at λo e=>ag _ e⟩,?_,λh' tk kk=>?_⟩
 ·intro i v s' Q' E' hv hq'
  have e:=hb i v (by simpa using hv);subst e;exact dA hq'
 ·have I1:aL X ao σ H { s with heap:=h',toks:=tk }:=I.kept λb o e=>kk b o (by
   intro hm;have:b=s.heap.objs.size:=by simpa using hm
   subst this;exact absurd (av e) (du _)) (ag _ e)
  refine⟨.bl (bs.any id),H,I1,?_,q⟩;show Value.bool _=Value.bool _;have cA:its.toArray.size=bs.length:=by have:=rv.length;simp at this;simp[this]
  rw[cA];congr 1;have key:∀bs:List Bool,(List.range bs.length).any (λi=>bs.getD i false)=bs.any id:=λbs=>by
   rw[f7,kd,kd];constructor
   ·rintro⟨i,hi,h⟩
    have hi':=fi.mp hi;exact⟨bs[i],ai _,by simpa [List.getD,hi'] using h⟩
   ·rintro⟨x,hx,h⟩
    obtain⟨i,hi,rfl⟩:=dm.mp hx;exact⟨i,fi.mpr hi,by simpa [List.getD,hi] using h⟩
  exact key bs
end
structure ZA (z ti to u v a b:Addr):Prop where
 q1:ti≠z
 q2:to≠z
 q3:u≠z
 q4:v≠z
 q5:ti≠to
 q6:ti≠u
 q7:ti≠v
 q8:to≠u
 q9:to≠v
 p1:u≠v
 p2:a≠z
 p3:a≠to
 p4:a≠u
 p5:a≠v
 p6:b≠z
 p7:b≠to
 p8:b≠u
 p9:b≠v
section
variable {X:Cx}{ao:AC}{σ:St}{H:Hp}{s:Shared}
theorem aL.agQ {fp:List Addr}{tk:Nat}{x y:V}{p q:Value}{h2:Heap}(I:aL X ao σ H s)(hf:∀b∈fp,nY X ao H b)(lt:∀b∈fp,b < s.heap.objs.size)(rx:cu x p)(ry:cu y q)
  (hT:h2.get? s.heap.objs.size=some { cls:=.type "tuple",data:=.seq #[p,q] }) (hk:∀b o,b∉fp->s.heap.get? b=some o->h2.get? b=some o) :
  aL X ao σ (upd H s.heap.objs.size (.tup [x,y])) { s with heap:=h2,toks:=tk }/\∀b∈fp,upd H s.heap.objs.size (.tup [x,y]) b=none:=by
 have I2:aL X ao σ (upd H s.heap.objs.size (.tup [x,y])) { s with heap:=s.heap.push { cls:=.type "tuple",data:=.seq #[p,q] },toks:=tk }:=
  I.laid (λb v e=>ag _ e) (al _) ⟨zsz 2,[p,q],.cons rx (.cons ry .nil),⟨_,aT _ rfl,rfl,_,rfl⟩⟩
 have fr:∀b∈fp,upd H s.heap.objs.size (.tup [x,y]) b=none:=λb hb=>by rw[aN (a8 (lt b hb))];exact(hf b hb).1
 have I3:=aL.RZ (s:={ s with heap:=s.heap.push { cls:=.type "tuple",data:=.seq #[p,q] },toks:=tk }) (h':=h2) (fp:=fp) (t':=tk) I2 (λb o hb g=>?_) λb hb=>?_
 ·exact⟨I3,fr⟩
 ·rcases Heap.get?_push_cases g with⟨z1,z2⟩ | z
  ·rw[z1,z2];exact hT
  ·exact hk b o hb z
 ·obtain⟨f0,f1,f2,f3,f4,f5⟩:=hf b hb
  exact⟨fr b hb,f1,f2,f3,f4,f5⟩
theorem Xb:bootBuiltins "zip"=some (.type "zip"):=by decide +kernel
end
structure uG (B:Heap)(l:List Env)(e:Addr)(cls:Value)(dd:Option Addr)(fl:Value)(h:Heap):Prop where
 stays:B.StaysIn h
 new:B.get? e=none
 frames:h.FunFrames B l
 tr:∃oe vs T oT ts,h.get? e=some oe/\oe.cls=cls/\oe.dict=dd/\oe.data=.fields vs/\vs[1]?=some (.ref T)/\vs[2]?=some .none/\B.get? T=none/\T≠e/\h.get? T=some oT/\oT.data=.fields ts/\ts[3]?=some fl
theorem uG.outer {B h:Heap}{env:Env}{l:List Env}{e:Addr}{cls fl:Value}{dd:Option Addr}(x:uG B (env::l) e cls dd fl h):uG B l e cls dd fl h:=⟨x.stays,x.new,x.frames.2.2,x.tr⟩
theorem Kq (o:Obj)(f):(o.mapFields f).dict=o.dict:=by obtain⟨c,d,dt,sl⟩:=o;cases dt <;> rfl
section
variable {M:Model}{A:Around}{E:AB}{s:Shared}{B:Heap}{env:Env}{outer l:List Env}{L e:Addr}{oe:Obj}{vs:Array Value}{head cls fl:Value}{dd:Option Addr}{hadNext:Bool}{Q:Unit->Shared->Prop}
theorem GD (hfr:A.frames=some (env::outer))(hl:s.heap.FunFrames B (env::outer))(hf:env.frame=some L)(he:s.heap.get? e=some oe)(kb:B.StaysIn s.heap)(en:B.get? e=none)(hd:oe.data=.fields vs)(hz:1 < vs.size)(h2:vs[2]?=some .none)
  (h:∀h',uG B (env::outer) e oe.cls oe.dict (rawInt L) h'->s.heap.UpToSlots h'->Q () { s with heap:=h' }) :
  wpAny M A (do let a <- frameOf env;let pl <- entryPlaceOf L hadNext;let b <- EntryCells.newEntry head a .none (rawInt L) .none pl;setField (.ref e) 1 b) Q E s:=by
 have out:e∉(env::outer).filterMap (·.frame):=λz=>by
  obtain⟨_,u,hu,nf⟩:=hl.mem z;rw[he]at hu;cases hu;exact nf vs hd
 refine ad (wpAny_frameOf_fun hfr hl hf λg hg=>ad (wpAny_entryPlaceOf λpl hpl=>?_));unfold EntryCells.newEntry newFields;refine ad (fA ?_ (hpl.sizeOk5 _ _ _ _ _));generalize hO:({ cls:=.type "traceback",dict:=none,data:=.fields ([head,.ref L,.none,rawInt L,.none]++(if pl.isEmpty then List.replicate 6 Value.none else pl)).toArray }:Obj)=O;have hOd:∃ts,O.data=.fields ts/\ts[3]?=some (rawInt L):=⟨_,by rw[<- hO],by first | (simp;done) | (rcases hpl with rfl | ⟨_,_,_,_,_,_,_,rfl⟩ <;> simp)⟩
 have ge:g.get? e=some oe:=(hg.2.1 e out).trans he;have gB:B.StaysIn g:=λb o q=>(hg.2.1 b λz=>by rw[(hl.mem z).1]at q;cases q).trans (kb b o q);have Te:g.objs.size≠e:=kr (av ge);have pe:(g.push O).get? e=some oe:=ag O ge;obtain⟨ts,hts,h3⟩:=hOd;have pT:(g.push O).get? g.objs.size=some O:=aT g (f_ hts);have mv:∀b o,b≠e->g.get? b=some o->((g.push O).update e (Obj.mapFields (·.setIfInBounds 1 (Value.ref g.objs.size)))).get? b=some o:=λb o nb q=>
  (d6 _ _ (fz nb)).trans (ag O q)
 have nr:∀b o,s.heap.get? b=some o->(∀vs,o.data≠.fields vs)->b≠e:=λb o q nf z=>by
  rw[z,he]at q;cases q;exact nf vs hd
 refine io pe hd hz (h _ ⟨λb o q=>mv b o (λz=>by rw[z,en]at q;cases q) (gB b o q),en,hl.of_keeps λb o q nf=>?_,?_⟩ λb o q nf=>?_)
 ·obtain⟨sl,z⟩:=hg.2.2 b o q
  exact⟨_,mv b _ (nr b o q nf) z,rfl⟩
 ·have dd:=ib hd (·.setIfInBounds 1 (Value.ref g.objs.size))
  refine⟨_,_,g.objs.size,O,ts,fk _ pe (f_ dd),lv _ _,Kq _ _,dd,by simp[hz],by rw[gX (by decide)];exact h2,gB.fresh,Te,(d6 _ _ (fz Te)).trans pT,hts,h3⟩
 ·obtain⟨sl,z⟩:=hg.2.2 b o q
  exact⟨sl,mv b _ (nr b o q nf) z⟩
theorem sX (x:uG B l e cls dd fl s.heap)(h:∀h',uG B l e cls dd .none h'->s.heap.UpToSlots h'->Q () { s with heap:=h' }):wpAny M A (setFlight (.ref e) none) Q E s:=by
 obtain⟨st,en,fr,oe,vs,T,oT,ts,he,hc,hdd,hd,h1,h2,nT,Te,hT,hdT,h3⟩:=x;have z3:3 < ts.size:=(fb.mp h3).1;have mv:∀b,b≠T->(s.heap.update T (Obj.mapFields (·.setIfInBounds 3 ((none:Option Addr).elim Value.none λf=>rawInt f)))).get? b=s.heap.get? b:=λb nb=>d6 _ _ (fz nb);have nr:∀b o,s.heap.get? b=some o->(∀vs,o.data≠.fields vs)->b≠T:=λb o q nf z=>by
  rw[z,hT]at q;cases q;exact nf ts hdT
 unfold setFlight;refine ad (e9 he hd h1 ?_);rw[if_pos (show (Value.ref T != Value.none)=true by simp)];refine io hT hdT z3 (h _ ⟨λb o q=>(mv b λz=>by rw[z,nT]at q;cases q).trans (st b o q),en,fr.of_keeps λb o q nf=>⟨o,(mv b (nr b o q nf)).trans q,rfl⟩,?_⟩ λb o q nf=>⟨o.slots,(mv b (nr b o q nf)).trans q⟩);have d3:=ib hdT (·.setIfInBounds 3 ((none:Option Addr).elim Value.none λf=>rawInt f));exact⟨oe,vs,T,_,_,(mv e (fz Te)).trans he,hc,hdd,hd,h1,h2,nT,Te,fk _ hT (f_ d3),d3,by simp[z3]⟩
theorem aan (hfr:A.frames=some (env::outer))(hl:s.heap.FunFrames B (env::outer))(hf:env.frame=some L)(he:s.heap.get? e=some oe)(kb:B.StaysIn s.heap)(en:B.get? e=none)(hd:oe.data=.fields vs)(h1:vs[1]?=some .none)(h2:vs[2]?=some .none)
  (h:∀h',uG B (env::outer) e oe.cls oe.dict (rawInt L) h'->s.heap.UpToSlots h'->Q () { s with heap:=h' }):wpAny M A (noteFrame (.ref e) env) Q E s:=by
 unfold noteFrame;simp only[hf];refine ad (e9 he hd h1 ?_);rw[if_neg (by decide)];exact GD hfr hl hf he kb en hd (fb.mp h1).1 h2 h
theorem R0 (hfr:A.frames=some (env::outer))(hf:env.frame=some L)(x:uG B (env::outer) e cls dd .none s.heap)(h:∀h',uG B (env::outer) e cls dd (rawInt L) h'->s.heap.UpToSlots h'->Q () { s with heap:=h' }):wpAny M A (noteFrame (.ref e) env) Q E s:=by
 obtain⟨st,en,fr,oe,vs,T,oT,ts,he,hc,hdd,hd,h1,h2,nT,Te,hT,hdT,h3⟩:=x;subst hc hdd;have mv:∀b,b≠T->(s.heap.update T (Obj.mapFields (·.setIfInBounds 3 Value.none))).get? b=s.heap.get? b:=λb nb=>d6 _ _ (fz nb);have nr:∀b o,s.heap.get? b=some o->(∀vs,o.data≠.fields vs)->b≠T:=λb o q nf z=>by
  rw[z,hT]at q;cases q;exact nf ts hdT
 unfold noteFrame;simp only[hf];refine ad (e9 he hd h1 ?_);rw[if_pos (show (Value.ref T != Value.none)=true by simp)];refine ad (e9 hT hdT h3 ?_);rw[if_neg (show ¬((Value.none==rawInt L)=true) by simp[rawInt])];refine ad (io hT hdT (fb.mp h3).1 ?_);refine GD hfr (fr.of_keeps λb o q nf=>⟨o,(mv b (nr b o q nf)).trans q,rfl⟩) hf ((mv e (fz Te)).trans he) (λb o q=>(mv b λz=>by rw[z,nT]at q;cases q).trans (st b o q)) en hd (fb.mp h1).1 h2
  λh' y k=>h h' y λb o q nf=>k b o ((mv b (nr b o q nf)).trans q) nf
theorem leave_new (hfr:A.frames=some (env::outer))(hl:s.heap.FunFrames B (env::outer))(hf:env.frame=some L)(he:s.heap.get? e=some oe)(kb:B.StaysIn s.heap)(en:B.get? e=none)(hd:oe.data=.fields vs)(h1:vs[1]?=some .none)(h2:vs[2]?=some .none)
  (h:∀h',uG B outer e oe.cls oe.dict .none h'->s.heap.UpToSlots h'->Q () { s with heap:=h' }):wpAny M A (leaving env (.ref e)) Q E s:=by
 unfold leaving;exact ad (aan hfr hl hf he kb en hd h1 h2 λh1 x k=>sX x λh2 y k2=>h h2 y.outer (k.trans k2))
theorem aao (hfr:A.frames=some (env::outer))(hf:env.frame=some L)(x:uG B (env::outer) e cls dd .none s.heap)(h:∀h',uG B outer e cls dd .none h'->s.heap.UpToSlots h'->Q () { s with heap:=h' }):wpAny M A (leaving env (.ref e)) Q E s:=by
 unfold leaving;exact ad (R0 hfr hf x λh1 x k=>sX x λh2 y k2=>h h2 y.outer (k.trans k2))
end
theorem dH.there {P:Program}{w:World}{H:Hp}{h:Heap}{a:Addr}{o:HO}(x:dH P w H h a o):∃u,h.get? a=some u:=by
 cases o with
 | lst xs=>obtain⟨_,_,_,_,e⟩:=x;exact⟨_,e⟩
 | tup xs=>obtain⟨_,_,_,_,e,_⟩:=x;exact⟨_,e⟩
 | dK kvs=>obtain⟨_,_,_,_,o,_,_,e,_⟩:=x;exact⟨_,e⟩
 | dT kvs=>obtain⟨_,_,_,_,o,_,_,e,_⟩:=x;exact⟨_,e⟩
 | set S n=>obtain⟨o,_,_,_,e,_⟩:=x;exact⟨_,e⟩
 | ins C dx fs=>obtain⟨_,_,_,e,_⟩:=x;exact⟨_,e⟩
 | own y=>exact x
 | xd fs=>obtain⟨_,⟨_,_,_,e,_⟩,_⟩:=x;exact⟨_,e⟩
 | rng lo hi=>obtain⟨_,_,_,e⟩:=x;exact⟨_,e⟩
 | nj ob u=>obtain⟨e,_⟩:=x;exact⟨_,e⟩
 | JW ps=>exact⟨_,(show h.get? a=some _ from x)⟩
 | met f y=>exact⟨_,(show h.get? a=some _ from x)⟩
 | ext φ=>obtain⟨_,e,_⟩:=x;exact e
structure Xc (P:Program)(w:World)(outer:List Env)(H:Hp)(s:Shared)(a:Addr)(cls:Value)(dd:Option Addr)(H':Hp)(s':Shared)(B:Heap):Prop where
 os:s'.os=s.os
 bare:AllBare s'.gens
 un:Un (frs outer) [] H H' s.heap s'.heap
 hok:iV P w H' s'.heap
 fly:uG B outer a cls dd .none s'.heap
 na:H' a=none
 JX:∀b u,H' b=some u->∃o,B.get? b=some o
 kp:∀b o,s.heap.get? b=some o->b∉frs outer->H b=none->B.get? b=some o
 th:∀b o,s.heap.get? b=some o->b∉frs outer->∃o',B.get? b=some o'
def Al (P:Program)(w:World):nD:=λouter H s E e s'=>∃(a:Addr) (cls:Value) (dd:Option Addr) (H':Hp) (B:Heap),e=.ref a/\Xc P w outer H s a cls dd H' s' B/\E cls dd H'
section
variable {X:Cx}{ao:AC}{σ:St}{H1 H':Hp}{s1 s2:Shared}{e:Addr}{oe:Obj}{vs:Array Value}{Q:Unit->Shared->Prop}{E:AB}{cls:Value}{dd:Option Addr}{B:Heap}
theorem aL.GF (I:aL X ao σ H1 s1){b:Addr}{o:Obj}(q:X.s₀.heap.get? b=some o)(nb:b∉frs X.outer):b∉frs X.stack:=λz=>by
 rcases bq.mp (I.wY b z) with z | z
 ·exact absurd (b5 (av q) I.ok.above) (by rw[z];exact du _)
 ·exact nb z
theorem aL.aap (I:aL X ao σ H1 s1){b:Addr}(z:b∈frs X.outer):b∈frs X.stack:=by
 rcases I.ok.stk with e | ⟨e,hf⟩
 ·rw[e];exact z
 ·rw[e];unfold frs;rw[iF,hf];exact bb _ z
theorem aL.raised (I:aL X ao σ H1 s1)(hst:X.stack=X.env::X.outer)(hf:X.env.frame=some X.env.locals)(hex:X.ex=[])(he:s1.heap.get? e=some oe)(hd:oe.data=.fields vs)(h1:vs[1]?=some .none)(h2:vs[2]?=some .none)(ne:H1 e=none)
  (en:∀b o,X.s₀.heap.get? b=some o->b≠e) (q:∀s2 B,Xc X.prog X.w X.outer X.H₀ X.s₀ e oe.cls oe.dict H1 s2 B->Q () s2):wpAny (model X.prog X.w) X.A (leaving X.env (.ref e)) Q E s1:=by
 have hfr:X.A.frames=some (X.env::X.outer):=by rw[<- hst];exact I.ok.frames
 have hl:s1.heap.FunFrames (hideAll s1.heap (e::frs X.stack)) (X.env::X.outer):=by
  rw[<- hst];exact funFrames_hide I.stack λenv he b hb=>bb _ (kP.mpr ⟨env,he,hb⟩)
 have uH:∀b:Addr,b∉X.ex:=λb=>by rw[hex];simp
 refine leave_new hfr hl hf he (λb o z=>of_hideAll _ z) (hideAll_none _ (.head _)) hd h1 h2 λh' x k=>q _ (hideAll s1.heap (e::frs X.stack)) ?_;have kB:∀b o,s1.heap.get? b=some o->b≠e->b∉frs X.stack->(hideAll s1.heap (e::frs X.stack)).get? b=some o:=λb o z n1 n2=>hideAll_get _ z λm=>by
  rcases bq.mp m with m | m
  ·exact n1 m
  ·exact n2 m
 have kF:∀b o,s1.heap.get? b=some o->b∈frs X.stack->∃sl,h'.get? b=some { o with slots:=sl }:=λb o z m=>by
  obtain⟨_,u,hu,nf⟩:=I.stack.mem m;rw[z]at hu;cases hu;exact k b _ z nf
 have kT:∀b u,H1 b=some u->∀o,s1.heap.get? b=some o->(hideAll s1.heap (e::frs X.stack)).get? b=some o:=λb u t o z=>kB b o z (λm=>by rw[m,ne]at t;cases t) λm=>by rw[I.pW b m]at t;cases t
 refine⟨I.os,I.bare,⟨λb o z n hb _=>?_,λb o z n hb _=>?_,λb o z n _=>I.base.free b o z n (uH b),λb o z _=>?_,I.base.tups,I.base.lG,I.base.lR⟩,λb o t=>?_,x,ne,λb u t=>?_,λb o z hb n=>?_,λb o z hb=>?_⟩
 ·exact x.stays b o (kB b o (I.base.keep b o z n hb (uH b)) (en b o z) (I.GF z hb))
 ·obtain⟨sl,e1⟩:=I.base.slot b o z n hb (uH b)
  obtain⟨sl2,e2⟩:=kF b _ e1 (I.aap hb);exact⟨sl2,e2⟩
 ·obtain⟨o1,e1⟩:=I.base.there b o z (uH b)
  by_cases m:b∈frs X.stack
  ·obtain⟨sl2,e2⟩:=kF b _ e1 m
   exact⟨_,e2⟩
  ·exact⟨o1,x.stays b o1 (kB b o1 e1 (en b o z) m)⟩
 ·refine(I.hok b o t).stay (λc u hc z=>x.stays c u ?_) (λ_ r=>r) λ_ _ r=>r
  rcases hc with rfl | hc
  ·exact kT c _ t u z
  ·exact kT c _ hc u z
 ·obtain⟨o,z⟩:=(I.hok b u t).there
  exact⟨o,kT b u t o z⟩
 ·exact kB b o (I.base.keep b o z n hb (uH b)) (en b o z) (I.GF z hb)
 ·obtain⟨o1,e1⟩:=I.base.there b o z (uH b)
  exact⟨o1,kB b o1 e1 (en b o z) (I.GF z hb)⟩
theorem aL.passed (I:aL X ao σ H1 s1)(hst:X.stack=X.env::X.outer)(hf:X.env.frame=some X.env.locals)(hex:X.ex=[])(x:Xc X.prog X.w X.stack H1 s1 e cls dd H' s2 B)
  (q:∀s3,Xc X.prog X.w X.outer X.H₀ X.s₀ e cls dd H' s3 B->Q () s3):wpAny (model X.prog X.w) X.A (leaving X.env (.ref e)) Q E s2:=by
 have hfr:X.A.frames=some (X.env::X.outer):=by rw[<- hst];exact I.ok.frames
 have uH:∀b:Addr,b∉X.ex:=λb=>by rw[hex];simp
 have n0:∀b:Addr,b∉([]:List Addr):=λb=>by simp
 refine aao hfr hf (by rw[<- hst];exact x.fly) λh' y k=>q _ ?_;have kp:∀b o,X.s₀.heap.get? b=some o->b∉frs X.outer->X.H₀ b=none->B.get? b=some o:=λb o z hb n=>x.kp b o (I.base.keep b o z n hb (uH b)) (I.GF z hb) (I.base.free b o z n (uH b));have th:∀b o,X.s₀.heap.get? b=some o->b∉frs X.outer->∃o',B.get? b=some o':=λb o z hb=>by
  obtain⟨o1,e1⟩:=I.base.there b o z (uH b);exact x.th b o1 e1 (I.GF z hb)
 have kF:∀b o,X.s₀.heap.get? b=some o->b∈frs X.outer->∃sl,h'.get? b=some { o with slots:=sl }:=λb o z m=>by
  obtain⟨sl,e1⟩:=I.base.slot b o z (I.ok.z_ b m) m (uH b);obtain⟨sl2,e2⟩:=x.un.slot b _ e1 (I.pW b (I.aap m)) (I.aap m) (n0 b);obtain⟨_,u,hu,nf⟩:=I.ok.mZ.mem m;rw[z]at hu;cases hu;obtain⟨Xd,e3⟩:=k b _ e2 nf;exact⟨Xd,e3⟩
 refine⟨x.os.trans I.os,x.bare,⟨λb o z n hb _=>y.stays b o (kp b o z hb n),λb o z n hb _=>kF b o z hb,λb o z n _=>?_,λb o z _=>?_,λb xs t=>x.un.tups b xs (I.base.tups b xs t),λb o u t=>x.un.lG b o u (I.base.lG b o u t),λb ps t=>?_⟩,λb o t=>?_,y,x.na,x.JX,kp,th⟩
 ·obtain⟨o1,e1⟩:=I.base.there b o z (uH b)
  exact x.un.free b o1 e1 (I.base.free b o z n (uH b)) (n0 b)
 ·by_cases m:b∈frs X.outer
  ·obtain⟨sl,e3⟩:=kF b o z m
   exact⟨_,e3⟩
  ·obtain⟨o',e1⟩:=th b o z m
   exact⟨o',y.stays b o' e1⟩
 ·obtain⟨m1,e1⟩:=I.base.lR b ps t
  obtain⟨m2,e2⟩:=x.un.lR b _ e1;exact⟨m1++m2,by rw[e2,Array.append_assoc]⟩
 ·refine(x.hok b o t).stay (λc u hc z=>?_) (λ_ r=>r) λ_ _ r=>r
  have:∃v,H' c=some v:=by
   rcases hc with rfl | hc
   ·exact⟨_,t⟩
   ·exact⟨_,hc⟩
  obtain⟨v,hv⟩:=this;obtain⟨o',hB⟩:=x.JX c v hv;have:=x.fly.stays c o' hB;rw[z]at this;cases this;exact y.stays c u hB
end
def Lets (X:Cx)(E:XK):Prop:=∀(ao:AC) (σ:St) (H:Hp) (s:Shared) (e:Addr) (oe:Obj) (vs:Array Value),aL X ao σ H s->s.heap.get? e=some oe->oe.data=.fields vs->vs[1]?=some .none->vs[2]?=some .none->H e=none->
 (∀b o,X.s₀.heap.get? b=some o->b≠e)->E oe.cls oe.dict H->X.xe (.ref e) s
section
variable {P:Program}{w:World}{K:W.Frag}{mg:Str->Option Value}{base:Heap}{N:List Str}{qual:Str}{scope:Scope}{f:Addr}{cd:Value}{A:Around}{outer:List Env}{s:Shared}{H:Hp}{E:XK}
theorem oH:Lets (qb (Al P w) P w K mg base N qual scope f cd A outer s H E) E:=λao σ H1 s1 e oe vs I he hd h1 h2 ne en q=>
 I.raised rfl rfl rfl he hd h1 h2 ne en λs2 B x=>⟨e,_,_,_,B,rfl,x,q⟩
theorem tZ:Passes (Al P w) (qb (Al P w) P w K mg base N qual scope f cd A outer s H E) E:=λao σ H1 s1 e s2 I ⟨a,cls,dd,H',B,z,x,q⟩=>by
 subst z;exact I.passed rfl rfl rfl x λs3 y=>⟨a,cls,dd,H',B,rfl,y,q⟩
end
structure DefX (P:Program)(w:World)(K:W.Frag)(mg:Str->Option Value)(base:Heap)(name:Str)(k:Nat)(ps:List Str)(sp:Sp):Prop where
 ex:∃f fd,cP P w K mg base (Al P w) k f fd ps sp/\cO K fd ps []/\mg name=some (.ref f)/\W.keepIn K (.ref f)=true
theorem gM.yr {P:Program}{w:World}{K:W.Frag}{mg:Str->Option Value}{base:Heap}{x qual:Str}{st:Stmt}{f:Addr}{fd:FuncData}{N ps:List Str}{k:Nat}{sp:Sp}(F:gM K x qual st f fd)(S:bh N ps (aJ st))(len:∀vs H Q E,sp vs H Q E->vs.length=ps.length)
  (hbody:∀(bL:Value) (A:Around) (outer:List Env) (s:Shared) (H:Hp) (vs:List V) (Q:VK) (E:XK),dX k (A.deeper (envOfC qual (aJ st) s.heap.objs.size f bL))->sp vs H Q E->
   ∃t,rz (qb (Al P w) P w K mg base N qual (aJ st) f bL A outer s H E) (dg st) t/\t { nx:=λ_ H'=>Q .non H',rt:=Q } (start N vs) H):cP P w K mg base (Al P w) (k+1) f fd ps sp:=by
 obtain⟨oc,od,kV,doc,pm,an,bL,ct,osl,rfl,lk,hcd⟩:=F.ex;refine abR lk hcd S len λA outer s H vs Q E hr hsp=>?_;obtain⟨t,h,q⟩:=hbody bL A outer s H vs Q E hr hsp;exact⟨t,h.out,q⟩
theorem aK.yr {P:Program}{w:World}{K:W.Frag}{mg:Str->Option Value}{base:Heap}{name:Str}{st:Stmt}{N ps:List Str}{k:Nat}{sp:Sp}(D:aK K mg name st ps)(S:bh N ps (aJ st))(len:∀vs H Q E,sp vs H Q E->vs.length=ps.length)
  (hbody:∀(f:Addr) (bL:Value) (A:Around) (outer:List Env) (s:Shared) (H:Hp) (vs:List V) (Q:VK) (E:XK),dX k (A.deeper (envOfC name (aJ st) s.heap.objs.size f bL))->sp vs H Q E->
   ∃t,rz (qb (Al P w) P w K mg base N name (aJ st) f bL A outer s H E) (dg st) t/\t { nx:=λ_ H'=>Q .non H',rt:=Q } (start N vs) H):DefX P w K mg base name (k+1) ps sp:=by
 obtain⟨f,fd,F,b,g⟩:=D.ex;exact⟨f,fd,F.yr S len (hbody f),b,g,F.kp⟩
def xG (CX:nD)(X:Cx)(E:XK)(S:St->Prop):Prop:=∀(ao:AC) (σ:St) (H:Hp) (s:Shared) (e:Value) (s':Shared),aL X ao σ H s->S σ->CX X.stack H s E e s'->X.xe e s'
theorem Passes.all {CX:nD}{X:Cx}{E:XK}(h:Passes CX X E):xG CX X E λ_=>True:=λao σ H s e s' I _ q=>h ao σ H s e s' I q
def aft (sp:Sp)(E:XK)(S:St->Prop)(t:TA):TE:=λσ H Q=>S σ/\t σ H λvs H1=>sp vs H1 Q E
section
variable {X:Cx}{k:Nat}{f:Addr}{fd:FuncData}{ps:List Str}{sp:Sp}{E:XK}{S:St->Prop}{x:Str}{p pos:Pos}{e:Expr}{es:List Expr}{t:TA}
theorem qm (D:DefX X.prog X.w X.K X.mg X.base x k ps sp)(hr:dX k X.A)(hg:Gl X x)(hx:xG (Al X.prog X.w) X E S)(ha:QA X (e::es) t)(hdb:(x==("__debug__":Str))=false:=by decide)
  (hs:starEach (e::es) X.env=(false,eval e X.env)::starEach es X.env:=by rfl) (hpl:(backTo pos (starEach es X.env)).any (·.1)=false:=by rfl) :
  QE X (.Call (.Name x p) (e::es) [] pos) (aft sp E S t):=⟨by
 obtain⟨f,fd,F,hb,hm,hk⟩:=D.ex;intro ao s σ H Q I h;obtain⟨hS,h⟩:=h;refine fS (oA I hg hm ?_ hdb);refine hX (h₀:=X.base) I.ok.mod.Gm hk (bN (ha.out pos ao s σ H _ I h) λus s1 ⟨vs,H1,I1,r,q⟩=>⟨I1.gk,?_⟩) hs hpl;have hl:us.length=ps.length:=by rw[<- r.length];exact F.len _ _ _ _ q
 have hB:=hb s1 us I1.gk (by rw[eQ];exact hl);rw[eQ]at hB;refine gh (iN (F.run X.A X.stack s1 H1 ⟨us,[]⟩ us vs Q E hr I1.env0 hB r q) λr s' hq=>?_);cases r with
 | error e=>exact hx ao σ H1 s1 e s' I1 hS hq
 | ok fl=>
  cases fl with
  | ret u=>exact I1.after hq
  | next=>exact False.elim hq
  | brk=>exact False.elim hq
  | cont=>exact False.elim hq⟩
end
theorem ac5 {K:W.Frag}{h:Heap}{C:Addr}{bmB:List Value}{newId:String}(X:K.In h)(q:excIn K C bmB newId=true) :
  ∃bm N nm q bs hdct sn sub ab col dd k0 k1 k2 k3 k5 mN,h.get? C=some (excClassObj nm q C N bs bm hdct sn sub ab col dd k0 k1 k2 k3 k5 newId)/\h.Ns N mN/\mN "__init__"=none/\OwnTail h bmB bm:=by
 unfold excIn at q
 split at q
 ·next dd cd sl ho=>
  split at q
  ·next C' bm k0 k1 k2 k3 n k5 hm hs=>
   simp only[ce,beq_iff_eq,Bool.not_eq_true']at q;obtain⟨⟨⟨⟨⟨e1,e2⟩,hdel⟩,ht⟩,hok⟩,hni⟩:=q;subst e1 e2;obtain⟨nm,bs,mro,ns,qn,hd,sn,sub,ab,col,del⟩:=cd;dsimp only at hm hdel hok hni;subst hm hdel;have hsl:sl=#[k0,k1,k2,k3,some (.builtin n),k5]:=by cases sl;simp only at hs;rw[hs]
   subst hsl;exact⟨bm,ns,nm,qn,bs,hd,sn,sub,ab,col,dd,k0,k1,k2,k3,k5,_,X _ _ ho,.of_isNs (isNs_of_in X hok),nsMap_none_of_in X hok hni,tail_of_in X ht⟩
  ·cases q
 ·cases q
abbrev iJ:List Value:=[.type "ValueError",.type "Exception",.type "BaseException",.type "object"]
def afu (C:Addr)(E:XK)(t:TA):TS:=λ_ σ H=>t σ H λvs H1=>vs.length<=sizeLine/\E (.ref C) none H1
section
variable {X:Cx}{C:Addr}{E:XK}{x:Str}{np cpos pos:Pos}{e:Expr}{es:List Expr}{t:TA}
theorem Et (hl:Lets X E)(hc:X.calm=true)(hex:X.ex=[])(hg:Gl X x)(hm:X.mg x=some (.ref C))(hC:excIn X.K C iJ "ValueError.__new__"=true)(ha:QA X (e::es) t)(hdb:(x==("__debug__":Str))=false:=by decide)
  (hs:starEach (e::es) X.env=(false,eval e X.env)::starEach es X.env:=by rfl) (hpl:(backTo cpos (starEach es X.env)).any (·.1)=false:=by rfl) :
  QS X (.Raise (some (.Call (.Name x np) (e::es) [] cpos)) none pos) (afu C E t):=⟨by
 intro ao s σ H D I h;obtain⟨tl,N,nm,q,bs,hdct,sn,sub,ab,col,dd,k0,k1,k2,k3,k5,mN,cC,cN,cni,T⟩:=ac5 I.ok.mod.Gm hC;have ar:=ha.out cpos ao s σ H _ I h;rw[hs]at ar;refine wpAny_Raise_call_subT (C:=C) (nm:=nm) (q:=q) (N:=N) (bs:=bs) (bm:=tl) (hdct:=hdct) (sn:=sn) (sub:=sub) (ab:=ab) (col:=col) (dd:=dd) (k0:=k0) (k1:=k1) (k2:=k2) (k3:=k3) (k5:=k5) fe (mN:=mN)
  (T.hasType fe.hasBase) (I.ok.hd hc) (by rw[hs];show (false||(backTo cpos (starEach es X.env)).any (·.1))=false;rw[hpl];rfl) cni (oA I hg hm ⟨rfl,?_⟩ hdb)
 rw[hs];refine Calls.evalArgs_plain (dl ar (λus s2 z=>?_) λ_ _ y=>y);obtain⟨vs,H1,I1,r,hv,hE⟩:=z;refine⟨rfl,by rw[<- r.length];exact hv,I1.bk _ _ cC,cN.keeps I1.bk,T.keeps I1.bk,λh' a hx=>?_⟩;obtain⟨tt,ha1,_,_⟩:=hx.there;refine hl ao σ H1 _ a _ _ (I1.kept (t':=s2.toks) hx.keeps) ha1 rfl rfl rfl ?_ (λb o z y=>?_) hE
 ·cases z:H1 a with
  | none=>rfl
  | some u=>
   obtain⟨o,ho⟩:=(I1.hok a u z).there;rw[hx.new]at ho;cases ho
 ·obtain⟨o',ho⟩:=I1.base.there b o z (by rw[hex];simp)
  rw[y,hx.new]at ho;cases ho⟩
end
def rP (a:Addr)(cls:Value)(dd:Option Addr):Heap->Prop:=λh=>∃oe vs,h.get? a=some oe/\oe.cls=cls/\oe.dict=dd/\oe.data=.fields vs/\vs[2]?=some .none
section
variable {X:Cx}{ao:AC}{σ:St}{H H':Hp}{s s':Shared}{a:Addr}{cls fl:Value}{dd:Option Addr}{B h3:Heap}
theorem aL.caught (I:aL X ao σ H s)(x:Xc X.prog X.w X.stack H s a cls dd H' s' B)(y:uG B X.stack a cls dd fl h3)(k:s'.heap.UpToSlots h3):aL X ao σ (upd H' a (.ext (rP a cls dd))) { s' with heap:=h3 }:=by
 have n0:∀b:Addr,b∉([]:List Addr):=λb=>by simp
 obtain⟨oe,vs,T,oT,ts,he,hc,hdd,hd,_,h2,_⟩:=y.tr;have kF:∀b o,s.heap.get? b=some o->b∈frs X.stack->(∃sl,h3.get? b=some { o with slots:=sl })/\∀vs,o.data≠.fields vs:=λb o z m=>by
  obtain⟨_,u,hu,nf⟩:=I.stack.mem m;rw[z]at hu;cases hu;obtain⟨sl2,e2⟩:=x.un.slot b _ z (I.pW b m) m (n0 b);obtain⟨Xd,e3⟩:=k b _ e2 nf;exact⟨⟨Xd,e3⟩,nf⟩
 have na:∀b o,s.heap.get? b=some o->b≠a:=λb o z m=>by
  by_cases hb:b∈frs X.stack
  ·obtain⟨⟨sl,e3⟩,nf⟩:=kF b o z hb
   rw[m,he]at e3;cases e3;exact nf vs hd
  ·obtain⟨o',e'⟩:=x.th b o z hb
   rw[m,y.new]at e';cases e'
 have nt:∀b u,H' b=some u->b≠a:=λb u z m=>by rw[m,x.na]at z;cases z
 have kT:∀c u v,H' c=some v->s'.heap.get? c=some u->h3.get? c=some u:=λc u v t z=>by
  obtain⟨o',hB⟩:=x.JX c v t;have:=x.fly.stays c o' hB;rw[z]at this;cases this;exact y.stays c u hB
 refine I.call' (s':={ s' with heap:=h3 }) (ch:=[]) x.os ⟨λb o z n hb _=>y.stays b o (x.kp b o z hb n),λb o z n hb _=>(kF b o z hb).1,λb o z n _=>?_,λb o z _=>?_,λb xs t=>?_,λb o u t=>?_,λb ps t=>?_⟩ (λb o t=>?_) x.bare λb z=>absurd z (by simp)
 ·rw[aN (na b o z)]
  exact x.un.free b o z n (n0 b)
 ·by_cases m:b∈frs X.stack
  ·obtain⟨⟨sl,e3⟩,_⟩:=kF b o z m
   exact⟨_,e3⟩
  ·obtain⟨o',e1⟩:=x.th b o z m
   exact⟨o',y.stays b o' e1⟩
 ·have t':=x.un.tups b xs t
  rw[aN (nt b _ t')];exact t'
 ·have t':=x.un.lG b o u t
  rw[aN (nt b _ t')];exact t'
 ·obtain⟨more,t'⟩:=x.un.lR b ps t
  exact⟨more,by rw[aN (nt b _ t')];exact t'⟩
 ·by_cases hb:b=a
  ·subst hb
   rw[au]at t;cases t;exact⟨⟨oe,vs,he,hc,hdd,hd,h2⟩,⟨oe,he⟩,λh h' ⟨oe,vs,e1,e2,e3,e4⟩ q=>⟨oe,vs,q oe e1,e2,e3,e4⟩⟩
  ·rw[aN hb]at t
   refine(x.hok b o t).stay (λc u hc z=>?_) (λc r=>by rw[aN (nt c _ r)];exact r) λc xs r=>by rw[aN (nt c _ r)];exact r
   rcases hc with rfl | hc
   ·exact kT c u _ t z
   ·exact kT c u _ hc z
theorem aL.unbound {i:Nat}{n:Str}{m:Str->Option Value}{v:Option Value}{h':Heap}(I:aL X ao σ H s)(hN:X.N.Nodup)(hi:X.N[i]?=some n)(hk:X.env.kindOf n=some .local)
  (hm:s.heap.Ns X.env.locals m) (hn:h'.Ns X.env.locals (λy=>if y=n then v else m y)) (hs:Heap.SameBut X.env.locals s.heap h'):aL X ao (σ.set i none) H { s with heap:=h',toks:=s.toks+1 }:=by
 have ab:∀b o,X.s₀.heap.get? b=some o->b≠X.env.locals:=λb o e=>a8 (b5 (av e) I.ok.above);obtain⟨m1,hm1,hl⟩:=I.loc;have em:m1=m:=by
  obtain⟨o1,es1,ep1,g1,d1,_,f1⟩:=hm1;obtain⟨o2,es2,ep2,g2,d2,_,f2⟩:=hm;rw[g1]at g2;cases g2;rw[d1]at d2;cases d2;funext y;rw[<- f1 y,<- f2 y]
 subst em;refine⟨I.ok,I.os,I.bare,⟨λb o e n hb hx=>(hs.2 b (ab b o e)).trans (I.base.keep b o e n hb hx),λb o e n hb hx=>?_,I.base.free,λb o e hx=>?_,I.base.tups,I.base.lG,I.base.lR⟩,⟨_,hn,λj y v' e1 e2 e3=>?_⟩,λy c e=>?_,I.free,I.ji,λp hp=>?_,λb ob e=>?_,by simpa using I.len⟩
 ·obtain⟨sl,e1⟩:=I.base.slot b o e n hb hx
  exact⟨sl,(hs.2 b (ab b o e)).trans e1⟩
 ·obtain⟨o',e1⟩:=I.base.there b o e hx
  exact⟨o',(hs.2 b (ab b o e)).trans e1⟩
 ·have hj:j≠i:=λz=>by
   subst z;rw[List.getElem?_set]at e2;simp only[if_true]at e2
   split at e2 <;> simp at e2
  rw[eJ (fz hj)]at e2;obtain⟨u,r,l⟩:=hl j y v' e1 e2 e3;refine⟨u,r,?_⟩;have yn:y≠n:=λz=>hj (Ek hN e1 (z ▸ hi));rcases l with⟨a1,a2⟩ | ⟨a1,c,a2,a3⟩
  ·exact .inl ⟨a1,by simp[yn,a2]⟩
  ·exact .inr ⟨a1,c,a2,a3.sameBut hs (I.Gn y c a2)⟩
 ·obtain⟨w',z⟩:=I.cell y c e
  exact⟨w',z.sameBut hs (I.Gn y c e)⟩
 ·obtain⟨e,n,ne,nf,d⟩:=I.pin p hp
  exact⟨(hs.2 p.1 ne).trans e,n,ne,nf,d⟩
 ·refine(I.hok b ob e).stay (λc w' hc q=>(hs.2 c ?_).trans q) (λ_ q=>q) λ_ _ q=>q
  rintro rfl;rcases hc with rfl | hc
  ·rw[I.free]at e;cases e
  ·rw[I.free]at hc;cases hc
end
abbrev Cx.tried (X:Cx)(pn:AC)(xe:AB):Cx:={ X with pn:=pn,xe:=xe }
abbrev Cx.held (X:Cx)(a:Addr):Cx:={ X with A:=X.A.mark (some (.ref a)),calm:=false,xe:=λ_ _=>False }
section
variable {X:Cx}{ao Dc pn:AC}{σ:St}{H:Hp}{s:Shared}{xe:AB}{a:Addr}
theorem aL.tried (I:aL X ao σ H s)(xe:AB):aL (X.tried (X.pn++ao) xe) [] σ H s:=
 ⟨⟨I.ok.mod,I.ok.kind,I.ok.glob,I.ok.blt,I.ok.above,I.ok.inj,I.ok.has,I.ok.cab,I.ok.hd,I.ok.frames,I.ok.stk,I.ok.V3,I.ok.bs,I.ok.rY,I.ok.wg,I.ok.Ej,I.ok.mZ,I.ok.z_⟩,I.os,I.bare,I.base,I.loc,I.cell,I.free,I.ji,λp hp=>I.pin p (by simpa using hp),I.hok,I.len⟩
theorem aL.qp (I:aL (X.tried (X.pn++ao) xe) Dc σ H s):aL X ao σ H s:=
 ⟨⟨I.ok.mod,I.ok.kind,I.ok.glob,I.ok.blt,I.ok.above,I.ok.inj,I.ok.has,I.ok.cab,I.ok.hd,I.ok.frames,I.ok.stk,I.ok.V3,I.ok.bs,I.ok.rY,I.ok.wg,I.ok.Ej,I.ok.mZ,I.ok.z_⟩,I.os,I.bare,I.base,I.loc,I.cell,I.free,I.ji,λp hp=>I.pin p (ko _ hp),I.hok,I.len⟩
theorem SP.qp {D:Ends}{f:Flow}(h:SP (X.tried (X.pn++ao) xe) Dc D f s):SP X ao D f s:=by
 cases f with
 | next=>obtain⟨σ',H',I,q⟩:=h;exact⟨σ',H',I.qp,q⟩
 | brk=>obtain⟨σ',H',I,q⟩:=h;exact⟨σ',H',I.qp,q⟩
 | cont=>obtain⟨σ',H',I,q⟩:=h;exact⟨σ',H',I.qp,q⟩
 | ret u=>obtain⟨v,σ',H',I,r,q⟩:=h;exact⟨v,σ',H',I.qp,r,q⟩
theorem aL.held (I:aL X ao σ H s)(a:Addr):aL (X.held a) ao σ H s:=
 ⟨⟨I.ok.mod,I.ok.kind,I.ok.glob,I.ok.blt,I.ok.above,I.ok.inj,I.ok.has,I.ok.cab,(λz=>nomatch z),I.ok.frames,I.ok.stk,I.ok.V3,I.ok.bs,I.ok.rY,I.ok.wg,I.ok.Ej,I.ok.mZ,I.ok.z_⟩,I.os,I.bare,I.base,I.loc,I.cell,I.free,I.ji,I.pin,I.hok,I.len⟩
theorem aL.afv (I:aL (X.held a) ao σ H s)(ok:X.Ok):aL X ao σ H s:=⟨ok,I.os,I.bare,I.base,I.loc,I.cell,I.free,I.ji,I.pin,I.hok,I.len⟩
end
def unb (i:Nat)(D:Ends):Ends:={ nx:=λσ H=>D.nx (σ.set i none) H,rt:=D.rt,bk:=λσ H=>D.bk (σ.set i none) H,ct:=λσ H=>D.ct (σ.set i none) H }
def ahs (K:W.Frag)(C:Addr)(i:Nat)(tb:XK->St->TS)(th:TS):TS:=λD σ H=>∃E:XK,tb E σ D σ H/\∀(a:Addr) (cls:Value) (dd:Option Addr) (H':Hp),E cls dd H'->H' a=none->
 exmOne K cls (.ref C)=some true/\th (unb i D) (σ.set i (some (.ref a))) (upd H' a (.ext (rP a cls dd)))
def agR (K:W.Frag)(C:Addr)(i:Nat)(tb:XK->St->TS)(th:Addr->TS):TS:=λD σ H=>∃E:XK,tb E σ D σ H/\∀(a:Addr) (cls:Value) (dd:Option Addr) (H':Hp),E cls dd H'->H' a=none->
 exmOne K cls (.ref C)=some true/\th a (unb i D) (σ.set i (some (.ref a))) (upd H' a (.ext (rP a cls dd)))
section
variable {X:Cx}{C:Addr}{x n:Str}{np hpos pos:Pos}{body suite:List Stmt}{b0:Stmt}{i:Nat}{tb:XK->St->TS}{th:TS}{thA:Addr->TS}
theorem ac6 (hst:X.stack=X.env::X.outer)(hf:X.env.frame=some X.env.locals)(hg:Gl X x)(hm:X.mg x=some (.ref C))(hN:X.N.Nodup)(hi:X.N[i]?=some n)(hk:X.env.scope.names.lookup n=some .local)
  (hb:∀(pn:AC) (xe:AB) (E:XK) (σ0:St),PassesOwn (model X.prog X.w) X.A X.env xe->xG (Al X.prog X.w) (X.tried pn xe) E (·=σ0)->rz (X.tried pn xe) body (tb E σ0))
  (hh:∀a,rz (X.held a) (b0::suite) (thA a)) (hdb:(x==("__debug__":Str))=false:=by decide) :
  QS X (.Try body [.ExceptHandler (some (.Name x np)) (some n) (b0::suite) hpos] [] [] pos) (agR X.K C i tb thA):=⟨by
 intro ao s σ H D I h;obtain⟨E,hbody,afw⟩:=h;have hp:PassesOwn (model X.prog X.w) X.A X.env (λe s₁=>wpAny (model X.prog X.w) X.A (noteFrame e X.env) (λ_ s₂=>wpAny (model X.prog X.w) X.A (setFlight e none) (λ_ s₃=>wpAny (model X.prog X.w) X.A (handleBy e X.env [.ExceptHandler (some (.Name x np)) (some n) (b0::suite) hpos]) (SP X ao D) X.xe s₃) X.xe s₂) X.xe s₁):=PassesOwn.looking;have hP:xG (Al X.prog X.w) (X.tried (X.pn++ao) (λe s₁=>wpAny (model X.prog X.w) X.A (noteFrame e X.env) (λ_ s₂=>wpAny (model X.prog X.w) X.A (setFlight e none) (λ_ s₃=>wpAny (model X.prog X.w) X.A (handleBy e X.env [.ExceptHandler (some (.Name x np)) (some n) (b0::suite) hpos]) (SP X ao D) X.xe s₃) X.xe s₂) X.xe s₁)) E (·=σ):=by
  intro Dc σ' H1 s1 e s2 I1 hσ hq;obtain⟨a,cls,dd,H',B,ea,ex,q⟩:=hq;subst ea;have J:=I1.qp;have hσ:σ'=σ:=hσ;subst hσ;have fl:uG B (X.env::X.outer) a cls dd .none s2.heap:=by rw[<- hst];exact ex.fly
  have hfr:X.A.frames=some (X.env::X.outer):=by rw[<- hst];exact J.ok.frames
  obtain⟨hmt,hsu⟩:=afw a cls dd H' q ex.na;refine R0 hfr hf fl λh1 y1 k1=>sX y1 λh2 y2 k2=>?_;have I2:=J.caught ex (by rw[hst];exact y2) (k1.trans k2);refine wpAny_handleBy_cons (codeAny_handlers_test (oA (X:=X.held a) (I2.held a) hg hm ?_ hdb)) (by intro q;cases q);have LT:Looks (model X.prog X.w) h2 (typeOf (.ref a)) cls:=by
   obtain⟨oe,_,_,_,_,he,hc,_⟩:=y2.tr;exact hc ▸ (Looks.ld he).andThen .now
  refine(exm_one (K:=X.K) I2.gk LT hmt).here ?_;refine codeAny_handlers_suite_as (sX y2 λh3 y3 k3=>?_);have I3:=J.caught ex (by rw[hst];exact y3) ((k1.trans k2).trans k3);refine xW (X:=X.held a) (I3.held a) hN hi (.inl hk) (v:=.ref a) rfl (λs4 I4=>?_) (.inr hk);refine dl ((hh a).out ao s4 _ _ (unb i D) I4 hsu) (λf s5 hs=>?_) λ_ _ z=>z.elim;have hcls:(X.env.scope.kind == .class||(X.env.scope.kind == .module&&X.env.locals != X.env.globals))=false:=by rw[J.ok.kind];rfl
  have fin:∀{σ5:St} {H5:Hp} {Q:Unit->Shared->Prop},aL (X.held a) ao σ5 H5 s5->(∀s6,aL X ao (σ5.set i none) H5 s6->Q () s6)->wpAny (model X.prog X.w) X.A (do bindName X.env n .none;unbindBehindTheSuite X.env n hpos) Q X.xe s5:=λI5 hQ=>by
   have Rq:=I5.afv J.ok;obtain⟨m,hm5,_⟩:=id Rq.loc;exact wpAny_nameGoes_keeps hk hm5 hcls λh' v hn hs=>hQ _ (Rq.unbound hN hi hk hm5 hn hs)
  cases f with
  | next=>obtain⟨σ5,H5,I5,q5⟩:=hs;exact fin I5 λs6 I6=>⟨_,_,I6,q5⟩
  | brk=>obtain⟨σ5,H5,I5,q5⟩:=hs;exact fin I5 λs6 I6=>⟨_,_,I6,q5⟩
  | cont=>obtain⟨σ5,H5,I5,q5⟩:=hs;exact fin I5 λs6 I6=>⟨_,_,I6,q5⟩
  | ret u=>obtain⟨v,σ5,H5,I5,r5,q5⟩:=hs;exact fin I5 λs6 I6=>⟨v,_,_,I6,r5,q5⟩
 refine wpAny_Try_except (dl ((hb _ _ E σ hp hP).out [] s σ H D (I.tried _) hbody) (λf s1 hs=>?_) λe s1 z=>z);have hs:=hs.qp;cases f with
 | next=>
  obtain⟨σ',H',I',q⟩:=hs;exact(bC (X:=X)).out ao s1 σ' H' D I' q
 | brk=>exact hs
 | cont=>exact hs
 | ret u=>exact hs⟩
theorem afx (hst:X.stack=X.env::X.outer)(hf:X.env.frame=some X.env.locals)(hg:Gl X x)(hm:X.mg x=some (.ref C))(hN:X.N.Nodup)(hi:X.N[i]?=some n)(hk:X.env.scope.names.lookup n=some .local)
  (hb:∀(pn:AC) (xe:AB) (E:XK) (σ0:St),PassesOwn (model X.prog X.w) X.A X.env xe->xG (Al X.prog X.w) (X.tried pn xe) E (·=σ0)->rz (X.tried pn xe) body (tb E σ0))
  (hh:∀a,rz (X.held a) (b0::suite) th) (hdb:(x==("__debug__":Str))=false:=by decide) :
  QS X (.Try body [.ExceptHandler (some (.Name x np)) (some n) (b0::suite) hpos] [] [] pos) (ahs X.K C i tb th):=ac6 (thA:=λ_=>th) hst hf hg hm hN hi hk hb hh hdb
end
structure qL (K:W.Frag)(C:Addr):Prop where
 cl:(clsIn K C).isSome=true
 ga:findIn K (.ref C) "__getattribute__"=some (some (.builtin "BaseException.__getattribute__"))
 gx:findIn K (.ref C) "__getattr__"=some none
 ha:findIn K (.ref C) "__class__"=some (some (.builtin "object.__class__"))
 hn:specialIn K (.builtin "object.__class__") "__get__"=some (some (.builtin "getset_descriptor.__get__"))
 ht:takesIn K (.builtin "object.__class__")=some true
 hm:mroIn K C (.type "object")=some true
 hb:mroIn K C (.type "BaseException")=some true
section
variable {prog:Program}{w:World}{A:Around}{E:AB}{s:Shared}{K:W.Frag}{x C:Addr}{ox:Obj}{odo:Option Obj}
theorem aaq (T:qL K C):findObj K C odo "__class__"=some (.bind (.builtin "getset_descriptor.__get__") (.builtin "object.__class__")):=by
 obtain⟨cd,hc⟩:=gy.mp T.cl;unfold findObj;rw[hc,Option.bind_some,T.ha,Option.bind_some];simp[T.hn,T.ht]
theorem Xe {tk:Tok}{Q:Fin->Shared->Prop}(T:qL K C)(X:K.In s.heap)(I:InstAt s.heap x ox C odo)(h:Q (.done (.ret (.ref C))) s) :
  wpAny (model prog w) A (Builtin.«object.__getattribute__» ⟨[.ref x,.str "__class__" tk],[]⟩) Q E s:=by
 obtain⟨hh,g,d,t,os⟩:=s;have L0:=I.type (M:=model prog w);have L1:=looks_find (M:=model prog w) X I (aaq T);unfold Builtin.«object.__getattribute__»
 repeat (first | with_reducible refine gh (class_get X I T.hm ?_) | lk)
 exact h
theorem Xf {Q:Option Value->Shared->Prop}(T:qL K C)(X:K.In s.heap)(I:InstAt s.heap x ox C odo)(h:Q (some (.ref C)) { s with toks:=s.toks+1 }):wpAny (model prog w) A (getAttr? (.ref x) "__class__") Q E s:=by
 obtain⟨hh,g,d,t,os⟩:=s;have L0:=I.type (M:=model prog w);have L1:=looks_findIn (M:=model prog w) X T.ga;have L2:=looks_findIn (M:=model prog w) X T.gx;unfold getAttr? getAttrBy? getAttrBy;refine ad (wpAny_mkText (ad (hV (cK (ad (L0.at (ad (L1.at ?_))))))));show wpAny _ _ (getAttrByItsOwn _ _ _ _ _ _) _ _ _;unfold getAttrByItsOwn hookBefore;rw[if_pos (show onTheHeap (Value.ref C)=true from rfl)];refine ad (L2.at (ad (hV (cK ?_))));unfold callGetattribute boundAndCalled;rw[if_neg (by decide)];have f3:=gd.ga.bind (.ref x);rw[f3];refine ad (am ?_);refine gh (ir gd.ga.plain F.entry_bexc_ga ?_);have hk:builtinKind "BaseException.__getattribute__"=some .slot:=by decide +kernel
 have hsp:splitId "BaseException.__getattribute__"=some ("BaseException","__getattribute__"):=by decide +kernel
 have Lb:=looks_mroIn (M:=model prog w) X T.hb;have hargs:=F.args_bexc_ga (.ref x) (.str "__class__" t);simp only[checkBuiltinCall,hk,hsp];refine ad ?_;unfold isInstance;refine ad (L0.at (Lb.at ?_))
 repeat (first | refine Xe (x:=x) T X I ?_ | assumption | wp_step)
theorem NQ {y:Addr}(T:qL K C):KitX K (.ref y) (.ref C) (λh=>∃ox odo,InstAt h y ox C odo) where
 ty:=λ_ _ _ ⟨_,_,I⟩=>I.type
 it:=λ_ _ X _=>by
  obtain⟨cd,hc⟩:=gy.mp T.cl;unfold clsIn at hc
  split at hc
  ·next ho=>
   intro A' Q' E' s' k q;unfold isType loadHead;exact ad (kN (k _ _ (X _ _ ho)) (am q))
  ·cases hc
 ne:=λh tp dd its n sl X htp=>by
  refine Bool.eq_false_iff.mpr λq=>?_;have e:C=tp:=Value.ref.inj (beq_iff_eq.mp q);subst e;obtain⟨cd,hc⟩:=gy.mp T.cl;unfold clsIn at hc
  split at hc
  ·next ho=>
   have z:=(X _ _ ho).symm.trans htp;cases z
  ·cases hc
 ca:=λX ⟨_,_,I⟩ k=>Xf T X I k
end
def jT (H:Hp):Option Addr->Prop
 | none=>True
 | some d=>∃o,H d=some o
def afy (K:W.Frag):List V->Hp->VK->Prop:=λxs H Q=>∃(a C:Addr) (c:V) (u:Value) (dd:Option Addr) (b:Bool),xs=[.ref a,c]/\((∃D,c=.ref D/\u=.ref D)\/∃n,c=.ty n/\u=.type n)/\H a=some (.ext (rP a (.ref C) dd))/\jT H dd/\qL K C/\kitOne K (.ref C) u=some b/\Q (.bl b) H
section
variable {X:Cx}
theorem gZ (hc:True:=True.intro):gb X (.builtin "isinstance") (afy X.K):=by
 intro ao s σ H xs us Q I r h;obtain⟨a,C,c,u,dd,b,rfl,ru,ha,hd,T,k,q⟩:=h;obtain⟨u1,w',rfl,r1,r2⟩:=vals2 r;obtain rfl:u1=Value.ref a:=r1;have eu:w'=u:=by
  rcases ru with⟨D,rfl,rfl⟩ | ⟨n,rfl,rfl⟩
  ·exact r2
  ·exact r2
 subst eu;obtain⟨⟨oe,vs,e1,e2,e3,e4,_⟩,_,_⟩:=(show dH X.prog X.w H s.heap a (.ext (rP a (.ref C) dd)) from I.hok a _ ha)
 have hI:∃ox odo,InstAt s.heap a ox C odo:=by
  cases dd with
  | none=>exact⟨oe,none,e1,e2,by unfold notCls;rw[e4],by rw[e3];trivial⟩
  | some d=>
   obtain⟨o1,hfs⟩:=hd;obtain⟨o,ho⟩:=(I.hok d _ hfs).there;exact⟨oe,some o,e1,e2,by unfold notCls;rw[e4],by rw[e3];exact ho⟩
 exact kia_one (NQ T) I.gk hI k (λz=>nomatch z) λtk=>⟨.bl b,H,I.tok tk,rfl,q⟩
end
theorem GJ:bootBuiltins "ValueError"=some (.type "ValueError"):=by decide +kernel
end L2
namespace HT
open PySem PySem.Spec PyProof.Rows
end HT
namespace L2
open PySem PySem.Spec PyProof.Rows PySem.W
def u9 (K:Frag)(C fI:Addr):Bool:=match K.lookup C with
 | some ⟨.type "type",_,.cls cd,sl⟩=>(match cd.mro,sl.toList with
  | .ref D::tl,[_,_,_,_,some (.builtin n),_]=>(D==C)&&(n=="ValueError.__new__")&&(!cd.hasDel)&&(cd.hasDict&&(tailIn K iJ tl&&(nsOkIn K cd.ns&&(nsIn K cd.ns "__init__" == some (some (.ref fI))))))
  | _,_=>false)
 | _=>false
theorem aht {K:Frag}{h:Heap}{N:Addr}{m:Str->Option Value}{n:Str}{v:Value}(X:K.In h)(G:h.Ns N m)(e:nsIn K N n=some (some v)):m n=some v:=by
 obtain⟨o,es,ep,ho,hd,_,hf⟩:=G;unfold nsIn at e
 split at e
 ·next c0 d0 es0 n0 sl0 q=>
  have z:=X _ _ q;rw[ho]at z;cases z;cases hd
  split at e
  ·next en he=>
   cases e;rw[<- hf];unfold nsFind findBy;rw[<- Array.find?_toList,he];rfl
  ·split at e <;> cases e
 ·cases e
theorem Iw {K:Frag}{h:Heap}{C fI:Addr}(X:K.In h)(q:u9 K C fI=true) :
  ∃bm N nm q bs sn sub ab col dd k0 k1 k2 k3 k5 mN,h.get? C=some (excClassObj nm q C N bs bm true sn sub ab col dd k0 k1 k2 k3 k5 "ValueError.__new__")/\h.Ns N mN/\mN "__init__"=some (.ref fI)/\OwnTail h iJ bm:=by
 unfold u9 at q
 split at q
 ·next dd cd sl ho=>
  split at q
  ·next D tl k0 k1 k2 k3 n k5 hm hs=>
   rw[ce,ce,ce,ce,ce,ce,beq_iff_eq,beq_iff_eq,beq_iff_eq,Bool.not_eq_true']at q;obtain⟨⟨⟨e1,e2⟩,e3⟩,e4,ht,hok,hi⟩:=q;subst e1 e2;obtain⟨nm,bs,mro,ns,qn,hd,sn,sub,ab,col,del⟩:=cd;dsimp only at hm e3 e4 hok hi;subst hm e3 e4;obtain⟨sll⟩:=sl;dsimp only at hs;subst hs;exact⟨tl,ns,nm,qn,bs,sn,sub,ab,col,dd,k0,k1,k2,k3,k5,_,X _ _ ho,.of_isNs (isNs_of_in X hok),aht X (.of_isNs (isNs_of_in X hok)) hi,tail_of_in X ht⟩
  ·cases q
 ·cases q
section
variable {prog:Program}{w:World}{A:Around}{E:AB}{h:Heap}{g:Array GenState}{d:Drawn}{t:Nat}{os:OsState}
variable {nm q:Str}{C N fI:Addr}{bs bm:List Value}{sn:List Str}{sub:List Value}{ab:Bool}{col:Option Bool}{dd:Option Addr}{k0 k1 k2 k3 k5:Option Value}{oI:Obj}{mN:Str->Option Value}{rest:List Value}
variable {M:Model}{s:Shared}{env:Env}{x:Sem Value}{Q:Flow->Shared->Prop}{hdct:Bool}{newId:String}
abbrev newArgs (rest:List Value):Obj:={ cls:=.type "tuple",data:=.seq rest.toArray }
abbrev newExc (C a:Addr):Obj:={ cls:=.ref C,data:=.fields #[.ref a,.none,.none,.none,.bool false,.none] }
theorem NT {Q:Fin->Shared->Prop}(T:OwnTail h iJ bm)(hC:h.get? C=some (excClassObj nm q C N bs bm true sn sub ab col dd k0 k1 k2 k3 k5 "ValueError.__new__"))(hn:h.Ns N mN)(hi:mN "__init__"=some (.ref fI))
  (hf:h.get? fI=some oI) (hfc:oI.cls=.type "function") (hz:rest.length<=sizeLine)
  (hq:wpAny (model prog w) A (call (.ref fI) (.ref (h.objs.size+1)::rest)) (λr s'=>r=.none/\Q (.done (.ret (.ref (h.objs.size+1)))) s') E ⟨(h.push (newArgs rest)).push (newExc C h.objs.size),g,d,t,os⟩) :
  wpAny (model prog w) A (Builtin.«type.__call__» ⟨.ref C::rest,[]⟩) Q E ⟨h,g,d,t,os⟩:=by
 have FB:=fe
 repeat (first | with_reducible refine gg hC ?_ | with_reducible refine wpAny_madeBy_exc hC ?_ | wp_step)
 refine codeAny_call_builtin_code (Code.quiet_builtin _ FB.quiet) (wpAny_check_new_subT FB T hC (codeAny_exc_new_subT FB T hC ?_ hz));show wpAny _ _ _ _ _ _;have up:∀b o,h.get? b=some o->((h.push (newArgs rest)).push (newExc C h.objs.size)).get? b=some o:=λb o z=>ag _ (ag _ z);have eC:=up _ _ hC;have eF:=up _ _ hf;have eN:=hn.keeps up;have eT:=T.keeps up;have eX:((h.push (newArgs rest)).push (newExc C h.objs.size)).get? (h.objs.size+1)=some (newExc C h.objs.size):=by heap_get
 have inC:(Value.ref C::bm).contains (.ref C)=true:=by simp
 unfold isInstance
 repeat (first | with_reducible refine gg eX ?_ | (with_reducible refine wpAny_isSubtype_exc eC ?_;rw[inC]) | wp_step)
 show wpAny _ _ (typeLookup (.ref C) "__init__") _ _ _;refine wpAny_typeLookup_tail eC eN eT FB.mroIs FB.init.lookup ?_;rw[hi];refine cK (ad ?_);unfold bindSpecial;refine ad (wpAny_typeOf (T:="function") ⟨_,eF,hfc⟩ ?_);rw[if_pos (by decide)];refine am (ad (dl hq (λr s' z=>?_) λ_ _ y=>y));obtain⟨rfl,z⟩:=z
 wp_walk
 exact z
theorem aar {Q:AB}(T:OwnTail h iJ bm)(hC:h.get? C=some (excClassObj nm q C N bs bm true sn sub ab col dd k0 k1 k2 k3 k5 "ValueError.__new__"))(hn:h.Ns N mN)(hi:mN "__init__"=some (.ref fI))
  (hf:h.get? fI=some oI) (hfc:oI.cls=.type "function") (hz:rest.length<=sizeLine)
  (hq:wpAny (model prog w) (A.under (.builtin "type.__call__" ⟨.ref C::rest,[]⟩)) (call (.ref fI) (.ref (h.objs.size+1)::rest)) (λr s'=>r=.none/\Q (.ref (h.objs.size+1)) s') E ⟨(h.push (newArgs rest)).push (newExc C h.objs.size),g,d,t,os⟩) :
  wpAny (model prog w) A (call (.ref C) rest) Q E ⟨h,g,d,t,os⟩:=by
 have f1:=tc_lookup;have f2:=tc_bind (.ref C);have tyC:(⟨h,g,d,t,os⟩:Shared).TypeIs (.ref C) "type":=⟨_,hC,rfl⟩
 refine gh (codeAny_of_tree ?_);show wpAny _ _ (callAny (.ref C) _) _ _ _
 repeat (any_goals (first | assumption | with_reducible refine gg hC ?_ | wp_step))
 exact⟨rfl,codeAny_call_builtin_at (Code.quiet_builtin _ (by decide +kernel)) entry_typeCall (wpAny_check_type_call_sub hC (NT T hC hn hi hf hfc hz hq))⟩
theorem Xg (hb:bm.contains (.type "BaseException")=true)(hh:A.handled=none)
  (hx:wpAny M A x (λv s1=>∃e oe vs,v=.ref e/\s1.heap.get? C=some (excClassObj nm q C N bs bm hdct sn sub ab col dd k0 k1 k2 k3 k5 newId)/\s1.heap.get? e=some oe/\oe.cls=.ref C/\oe.data=.fields vs/\vs[1]?=some .none/\E (.ref e) s1) E s) :
  wpAny M A (raiseStmt env (some x) none) Q E s:=by
 have inB:(Value.ref C::bm).contains (.type "BaseException")=true:=by rw[List.contains_cons,hb,Bool.or_true]
 unfold raiseStmt;refine ad (dl hx (λv s1 z=>?_) λ_ _ y=>y);obtain⟨e,oe,vs,rfl,hC,he,hc,hd,h1,hE⟩:=z;obtain⟨oc,od,oda,osl⟩:=oe;dsimp only at hc hd;subst hc hd;obtain⟨hp,g,d,tk,os⟩:=s1
 repeat (first | with_reducible refine gg he ?_ | with_reducible refine gg hC ?_ | (with_reducible refine wpAny_isSubtype_exc hC ?_;rw[inB]) | wp_step)
 rw[h1];refine am ?_;rw[if_neg (by decide)];exact am (wpAny_raiseNew_none hh hE)
end
def gq (a:Addr)(cls:Value)(dd:Option Addr):Heap->Prop:=λh=>∃oe vs,h.get? a=some oe/\oe.cls=cls/\oe.dict=dd/\oe.data=.fields vs/\vs[1]?=some .none/\vs[2]?=some .none/\dd≠some a
theorem gq.at {a:Addr}{cls:Value}{dd:Option Addr}{h h':Heap}(x:gq a cls dd h)(k:∀o,h.get? a=some o->h'.get? a=some o):gq a cls dd h':=let ⟨oe,vs,e,r⟩:=x;⟨oe,vs,k oe e,r⟩
theorem gq.ok {P:Program}{w:World}{H:Hp}{h:Heap}{a:Addr}{cls:Value}{dd:Option Addr}(x:gq a cls dd h):dH P w H h a (.ext (gq a cls dd)):=⟨x,let ⟨oe,_,e,_⟩:=x;⟨oe,e⟩,λ_ _ y k=>y.at k⟩
def drop (H:Hp)(a:Addr):Hp:=λb=>if b=a then none else H b
theorem oJ {H:Hp}{a:Addr}:drop H a a=none:=by unfold drop;rw[if_pos rfl]
theorem g_ {H:Hp}{a b:Addr}(h:b≠a):drop H a b=H b:=by unfold drop;rw[if_neg h]
section
variable {X:Cx}{ao:AC}{σ:St}{H:Hp}{s:Shared}{a:Addr}{φ:Heap->Prop}
theorem aL.drop (I:aL X ao σ H s)(ha:H a=some (.ext φ))(GF:∀b o,X.s₀.heap.get? b=some o->b≠a):aL X ao σ (L2.drop H a) s:=by
 have ne:∀b u,H b=some u->(∀φ,u≠.ext φ)->b≠a:=λb u e n z=>by rw[z,ha]at e;cases e;exact n φ rfl
 refine⟨I.ok,I.os,I.bare,⟨I.base.keep,I.base.slot,λb o e n hx=>?_,I.base.there,λb xs e=>?_,λb o u e=>?_,λb ps e=>?_⟩,I.loc,I.cell,?_,λx c e=>?_,λp hp=>?_,λb o e=>?_,I.len⟩
 ·by_cases hb:b=a
  ·rw[hb];exact oJ
  ·rw[g_ hb];exact I.base.free b o e n hx
 ·have z:=I.base.tups b xs e
  rw[g_ (ne b _ z λφ=>by simp)];exact z
 ·have z:=I.base.lG b o u e
  rw[g_ (ne b _ z λφ=>by simp)];exact z
 ·obtain⟨more,z⟩:=I.base.lR b ps e
  exact⟨more,by rw[g_ (ne b _ z λφ=>by simp)];exact z⟩
 ·by_cases hb:X.env.locals=a
  ·rw[hb];exact oJ
  ·rw[g_ hb];exact I.free
 ·by_cases hb:c=a
  ·rw[hb];exact oJ
  ·rw[g_ hb];exact I.ji x c e
 ·obtain⟨e1,e2,e3⟩:=I.pin p hp
  refine⟨e1,?_,e3⟩;by_cases hb:p.1=a
  ·rw[hb];exact oJ
  ·rw[g_ hb];exact e2
 ·by_cases hb:b=a
  ·rw[hb,oJ]at e;cases e
  ·rw[g_ hb]at e
   refine(I.hok b o e).stay (λc u _ z=>z) (λc r=>?_) λc xs r=>?_
   ·rw[g_ (ne c _ r λφ=>by simp)];exact r
   ·rw[g_ (ne c _ r λφ=>by simp)];exact r
end
structure MkX (K:Frag)(C f:Addr):Prop where
 ini:u9 K C f=true
 fn:W.isFn K (.ref f)=true
 kp:W.keepIn K (.ref C)=true
def ac7 (C:Addr)(sp:Sp)(E:XK)(t:TA):TS:=λ_ σ H=>t σ H λvs H1=>vs.length<=sizeLine/\∀a,H1 a=none->sp (.ref a::vs) (upd H1 a (.ext (gq a (.ref C) none))) (λv H2=>v=.non/\∃dd,H2 a=some (.ext (gq a (.ref C) dd))/\E (.ref C) dd (drop H2 a)) E0
section
variable {X:Cx}{k:Nat}{f C:Addr}{fd:FuncData}{ps:List Str}{sp:Sp}{x:Str}{p pos cpos:Pos}{e:Expr}{es:List Expr}{t:TA}{E:XK}
theorem ac8 {ao:AC}{s:Shared}{σ:St}{H:Hp}{G:Addr->Hp->Prop}(M:MkX X.K C f)(F:cP X.prog X.w X.K X.mg X.base fZ k f fd ps sp)(hr:dX (k+1) X.A)(hg:Gl X x)(hm:X.mg x=some (.ref C))(hb:cO X.K fd ps [])(ha:QA X (e::es) t)
  (I:aL X ao σ H s) (h:t σ H λvs H1=>vs.length<=sizeLine/\∀a,H1 a=none->sp (.ref a::vs) (upd H1 a (.ext (gq a (.ref C) none))) (λv H2=>v=.non/\G a H2) E0)
  (hdb:(x==("__debug__":Str))=false) (hs:starEach (e::es) X.env=(false,eval e X.env)::starEach es X.env) (hpl:(backTo cpos (starEach es X.env)).any (·.1)=false) :
  wpAny (model X.prog X.w) X.A (eval (.Call (.Name x p) (e::es) [] cpos) X.env) (λv s'=>∃a H2,v=.ref a/\aL X ao σ H2 s'/\X.s₀.heap.objs.size<=a/\G a H2) X.xe s:=by
 refine fS (oA I hg hm ?_ hdb);refine hX (h₀:=X.base) I.ok.mod.Gm M.kp (bN (ha.out cpos ao s σ H _ I h) λus s1 ⟨vs,H1,I1,r,hz,q⟩=>⟨I1.gk,?_⟩) hs hpl;obtain⟨bm,N,nm,qn,bs,sn,sub,ab,col,dd,k0,k1,k2,k3,k5,mN,cC,cN,ci,T⟩:=Iw I1.gk M.ini;obtain⟨oI,hoI,hcI⟩:∃oI,s1.heap.get? f=some oI/\oI.cls=.type "function":=by
  have z:(X.K.lookup f).map (·.cls)=some (.type "function"):=beq_iff_eq.mp M.fn;cases y:X.K.lookup f with
  | none=>rw[y]at z;cases z
  | some of=>rw[y]at z;exact⟨of,I1.gk _ _ y,ap z⟩
 have hsz0:X.s₀.heap.objs.size<=s1.heap.objs.size+1:=lm I1.sz;obtain⟨hh,g,d,tk,os⟩:=s1;have I2:aL X ao σ H1 ⟨hh.push (newArgs us),g,d,tk,os⟩:=I1.kept (t':=tk) λb u z=>ag _ z;have hsz:(hh.push (newArgs us)).objs.size=hh.objs.size+1:=cS _ _;have eX:((hh.push (newArgs us)).push (newExc C hh.objs.size)).get? (hh.objs.size+1)=some (newExc C hh.objs.size):=by heap_get
 have I3:aL X ao σ (upd H1 (hh.objs.size+1) (.ext (gq (hh.objs.size+1) (.ref C) none))) ⟨(hh.push (newArgs us)).push (newExc C hh.objs.size),g,d,tk,os⟩:=
  I2.laid (t':=tk) (λb u z=>ag _ z) (eh hsz) (gq.ok ⟨_,_,eX,rfl,rfl,rfl,rfl,rfl,by simp⟩)
 have hq:=q (hh.objs.size+1) (I2.hok.fresh (eh hsz));have r2:Vals (V.ref (hh.objs.size+1)::vs) (Value.ref (hh.objs.size+1)::us):=.cons rfl r;have hl:(Value.ref (hh.objs.size+1)::us).length=ps.length:=by rw[<- r2.length];exact F.len _ _ _ _ hq
 have hB:=hb ⟨(hh.push (newArgs us)).push (newExc C hh.objs.size),g,d,tk,os⟩ (Value.ref (hh.objs.size+1)::us) I3.gk (by rw[eQ];exact hl);rw[eQ]at hB;refine aar T cC cN ci hoI hcI (by show us.length<=sizeLine;rw[<- r.length];exact hz) (gh (iN (F.run _ X.stack _ _ ⟨Value.ref (hh.objs.size+1)::us,[]⟩ (Value.ref (hh.objs.size+1)::us) _ _ E0 (hr.make C us []) (I3.env0.make C us []) hB r2 hq) λr s' hq'=>?_));cases r with
 | error e=>exact False.elim hq'
 | ok fl=>
  cases fl with
  | ret u=>
   obtain⟨v,H',I4,rv,ev,q3⟩:=I3.after hq';subst ev;exact⟨rv,_,H',rfl,I4,hsz0,q3⟩
  | next=>exact False.elim hq'
  | brk=>exact False.elim hq'
  | cont=>exact False.elim hq'
theorem rD (hl:Lets X E)(hc:X.calm=true)(M:MkX X.K C f)(F:cP X.prog X.w X.K X.mg X.base fZ k f fd ps sp)(hr:dX (k+1) X.A)(hg:Gl X x)(hm:X.mg x=some (.ref C))(hb:cO X.K fd ps [])(ha:QA X (e::es) t)
  (hdb:(x==("__debug__":Str))=false:=by decide) (hs:starEach (e::es) X.env=(false,eval e X.env)::starEach es X.env:=by rfl) (hpl:(backTo cpos (starEach es X.env)).any (·.1)=false:=by rfl) :
  QS X (.Raise (some (.Call (.Name x p) (e::es) [] cpos)) none pos) (ac7 C sp E t):=⟨by
 intro ao s σ H D I h;have run:=ac8 (p:=p) M F hr hg hm hb ha I h hdb hs hpl;obtain⟨bm,N,nm,qn,bs,sn,sub,ab,col,dd,k0,k1,k2,k3,k5,mN,cC,cN,ci,T⟩:=Iw I.ok.mod.Gm M.ini;rw[arm_exec_Raise];refine ad (iA (Xg (C:=C) (nm:=nm) (q:=qn) (N:=N) (bs:=bs) (bm:=bm) (hdct:=true) (sn:=sn) (sub:=sub) (ab:=ab) (col:=col) (dd:=dd) (k0:=k0) (k1:=k1) (k2:=k2) (k3:=k3) (k5:=k5) (newId:="ValueError.__new__")
  (T.hasType fe.hasBase) (I.ok.hd hc) (ad (dl run (λv s1 z=>ad (iA (am ?_))) λ_ _ y=>y))))
 obtain⟨a,H2,rfl,I2,ha2,dd2,hd2,hE⟩:=z;obtain⟨⟨oe,vs,he,h1,h2,h3,h4,Xh,_⟩,_⟩:=I2.hok a _ hd2;have GF:∀b o,X.s₀.heap.get? b=some o->b≠a:=λb o z y=>absurd (av z) (by rw[y];exact Nat.not_lt.mpr ha2);have I3:=I2.drop hd2 GF;refine⟨a,oe,vs,rfl,I2.bk _ _ cC,he,h1,h3,h4,hl ao σ _ _ a oe vs I3 he h3 h4 Xh oJ GF ?_⟩;rw[h1,h2];exact hE⟩
end
section
variable {prog:Program}{w:World}{A:Around}{E:AB}{h:Heap}{g:Array GenState}{d:Drawn}{t:Nat}{os:OsState}
variable {nm q:Str}{C N a:Addr}{bs bm:List Value}{sn:List Str}{sub:List Value}{ab:Bool}{col:Option Bool}{dd:Option Addr}{k0 k1 k2 k3 k5:Option Value}{rest:List Value}{Q:AB}{oe:Obj}{vs:Array Value}
theorem Xi (T:OwnTail h iJ bm)(hC:h.get? C=some (excClassObj nm q C N bs bm true sn sub ab col dd k0 k1 k2 k3 k5 "ValueError.__new__"))(he:h.get? a=some oe)(hc:oe.cls=.ref C)(hd:oe.data=.fields vs)(hz:0 < vs.size)(hr:rest.length<=sizeLine)
  (hq:Q .none ⟨(h.push (newArgs rest)).update a (Obj.mapFields (·.setIfInBounds 0 (.ref h.objs.size))),g,d,t,os⟩) :
  wpAny (model prog w) A (call (.builtin "ValueError.__init__") (.ref a::rest)) Q E ⟨h,g,d,t,os⟩:=by
 have FB:=fe;obtain⟨oc,od,oda,osl⟩:=oe;dsimp only at hc hd;subst hc hd;refine gh (ir FB.init.plain FB.initEntry (wpAny_check_init_subT FB T hC he rfl ?_));have he1:(h.push (newArgs rest)).get? a=some ⟨.ref C,od,.fields vs,osl⟩:=ag _ he;unfold Builtin.«BaseException.__init__»
 repeat (first | with_reducible refine gg he1 ?_ | wp_step)
 obtain⟨v0,e0⟩:∃v0,vs[0]?=some v0:=⟨_,gm hz⟩
 rw[e0];refine am (ad (io he1 rfl hz ?_));cases v0 <;> first | exact wpAny_letGo (am hq) | exact am (am hq)
end
def qu:List Value->Bool
 | .ref _::r=>qu r
 | l=>l==iJ
theorem Am (self:Value):∀{l:List Value},qu l=true->refuseLoop self "__setattr__" l=pure ()
 | .ref _::r,e=>(refuseLoop_ref self "__setattr__" _ r).trans (Am self (l:=r) e)
 | [],e=>by cases e
 | .type n::r,e=>by rw[beq_iff_eq.mp (show (Value.type n::r==iJ)=true from e)];exact PySem.F.store_ValueError.passes self
 | .none::r,e=>by cases(beq_iff_eq.mp (show (Value.none::r==iJ)=true from e))
 | .bool b::r,e=>by cases(beq_iff_eq.mp (show (Value.bool b::r==iJ)=true from e))
 | .int i t::r,e=>by cases(beq_iff_eq.mp (show (Value.int i t::r==iJ)=true from e))
 | .float i t::r,e=>by cases(beq_iff_eq.mp (show (Value.float i t::r==iJ)=true from e))
 | .str i t::r,e=>by cases(beq_iff_eq.mp (show (Value.str i t::r==iJ)=true from e))
 | .bytes i t::r,e=>by cases(beq_iff_eq.mp (show (Value.bytes i t::r==iJ)=true from e))
 | .builtin n::r,e=>by cases(beq_iff_eq.mp (show (Value.builtin n::r==iJ)=true from e))
structure Ao (K:Frag)(C:Addr):Prop where
 ln:((clsIn K C).any λcd=>cd.hasDict&&qu cd.mro)=true
 ob:mroIn K C (.type "object")=some true
 sa:findIn K (.ref C) "__setattr__"=some (some (.builtin "object.__setattr__"))
section
open Builtin Builtin.ObjectAttr
variable {prog:Program}{w:World}{A:Around}{E:AB}{s:Shared}{K:Frag}{x C:Addr}{ox:Obj}{od:Option Obj}{name:Str}{v:Value}
variable {h:Heap}{g:Array GenState}{d:Drawn}{t:Nat}{os:OsState}{dx:Addr}{vs:Array Value}{sl:Array (Option Value)}{Q:Fin->Shared->Prop}{b:Bool}{tk:Tok}
theorem Kr {Q:Unit->Shared->Prop}(X:K.In s.heap)(T:Ao K C)(hn:findIn K (.ref C) name=some none)(I:InstAt s.heap x ox C od)
  (h:wpAny (model prog w) A.in1 (storeInOwnDict (.ref x) (.ref C) (.str name s.toks) name v false) (λfin s'=>match fin with | .done (.ret _)=>Q () s' | _=>False) (λ_ _=>False) { s with toks:=s.toks+1 }) :
  wpAny (model prog w) A (setAttr (.ref x) name v) Q E s:=by
 have SF:=PySem.F.store_ValueError;obtain⟨cd,hc,ho⟩:=any_some T.ln;rw[ce]at ho;have L0:=I.type (M:=model prog w);have Lm:Looks (model prog w) s.heap (mroOf (.ref C)) cd.mro:=(looks_clsIn X hc).andThen .now;have Li:Looks (model prog w) s.heap (isInstance (.ref x) (.type "object")) true:=L0.andThen (looks_mroIn X T.ob);have Ln:=looks_findIn (M:=model prog w) X hn;obtain⟨hh,g,d,t,os⟩:=s;unfold setAttr;refine ad (wpAny_mkText (ad (ad (ad (L0.at ((looks_findIn X T.sa).at (cK (ad ?_))))))));rw[SF.slot.bind (.ref x)];refine am (ad (gh (ir SF.slot.plain SF.entry (@check_slot (model prog w) _ _ _ "object.__setattr__" "object" "__setattr__" (.ref x) [.str name t,v] [] _ SF.kind SF.split Li (SF.args (.ref x) (.str name t) v) ?_))));show wpAny (model prog w) A.in1 (Builtin.«object.__setattr__» ⟨[.ref x,.str name t,v],[]⟩) _ _ _;rw[osa_eq,refuse_eq];refine ad (ad (L0.at (ad (Lm.at ?_))));rw[Am _ ho.2];refine am (ad (L0.at (ad (Ln.at (ad (am ?_))))));refine dl h (λfin s' z=>?_) λ_ _ z=>z.elim;cases fin with
 | done f=>cases f with
  | ret u=>exact am (am z)
  | next=>exact z.elim
  | brk=>exact z.elim
  | cont=>exact z.elim
 | again c=>exact z.elim
theorem Um (X:K.In h)(T:Ao K C)(hx:h.get? x=some ⟨.ref C,none,.fields vs,sl⟩)
  (hq:∀h' t',h'.Ns1 h.objs.size (λy=>if y=name then some v else none)->h'.get? x=some ⟨.ref C,some h.objs.size,.fields vs,sl⟩->(∀c o,c≠x->h.get? c=some o->h'.get? c=some o)->Q (.done (.ret .none)) ⟨h',g,d,t',os⟩) :
  wpAny (model prog w) A (storeInOwnDict (.ref x) (.ref C) (.str name tk) name v b) Q E ⟨h,g,d,t,os⟩:=by
 obtain⟨cd,hc,ho⟩:=any_some T.ln;rw[ce]at ho;have xs:x≠h.objs.size:=a8 (av hx);refine ad (am (ad (ad (kN hx (ad ((looks_clsIn X hc).here ?_))))));rw[ho.1];have hx1:(h.push { cls:=.type "dict",data:=.dict #[] }).get? x=some ⟨.ref C,none,.fields vs,sl⟩:=ag _ hx;refine ad (wpAny_alloc' ?_);refine ad (wpAny_update' hx1 ?_);refine am ?_;generalize e1:((h.push { cls:=.type "dict",data:=.dict #[] }).update x λo=>{ cls:=o.cls,dict:=some h.objs.size,data:=o.data,slots:=o.slots })=h1;have g1:h1.get? h.objs.size=some { cls:=.type "dict",data:=.dict #[] }:=by rw[<- e1];exact(gT _ _ _ _ xs.symm).trans (Heap.get?_push_at rfl rfl)
 have g2:h1.get? x=some ⟨.ref C,some h.objs.size,.fields vs,sl⟩:=by rw[<- e1];exact fk _ hx1 rfl
 have g3:∀c o,c≠x->h.get? c=some o->h1.get? c=some o:=λc o n z=>by rw[<- e1];exact(gT _ _ _ _ n).trans (ag _ z)
 have n1:h1.Ns h.objs.size (λ_=>none):=⟨_,#[],_,g1,rfl,(λe he=>absurd he (by simp)),λ_=>rfl⟩
 show wpAny _ _ (storeInDict h.objs.size (.str name tk) name v) _ _ _;unfold storeInDict newKeyGuard;refine ad (am (ad (wpAny_nsSet1 (Heap.Ns1.of_empty n1) λh2 n2 k2=>?_)));obtain⟨oD,esD,epD,hoD,hdD,hcD⟩:=n2.count (lj name v PySem.Within.nil);refine ad (wpAny_lookBehind hoD (by rw[hdD];exact pastItsLine_dict (b9 hcD (by rw[di,List.length_nil,sizeLine_eq];lia))) (am ?_));exact hq h2 _ n2 ((k2.2 x xs).trans g2) λc o n z=>(k2.2 c (a8 (av z))).trans (g3 c o n z)
theorem QX {mA:Str->Option Value}{ns:List Str}(X:K.In h)(T:Ao K C)(hx:h.get? x=some ⟨.ref C,some dx,.fields vs,sl⟩)(hn:h.Ns1 dx mA)(hw:PySem.Within mA ns)(hl:ns.length<=100)
  (hq:∀h' t',h'.Ns1 dx (λy=>if y=name then some v else mA y)->(∀c o,c≠dx->h.get? c=some o->h'.get? c=some o)->Q (.done (.ret .none)) ⟨h',g,d,t',os⟩) :
  wpAny (model prog w) A (storeInOwnDict (.ref x) (.ref C) (.str name tk) name v b) Q E ⟨h,g,d,t,os⟩:=by
 obtain⟨cd,hc,ho⟩:=any_some T.ln;rw[ce]at ho;refine ad (am (ad (ad (kN hx (ad ((looks_clsIn X hc).here ?_))))));rw[ho.1];refine am ?_;show wpAny _ _ (storeInDict dx (.str name tk) name v) _ _ _;unfold storeInDict newKeyGuard;refine ad (am (ad (wpAny_nsSet1 hn λh2 n2 k2=>?_)));obtain⟨oD,esD,epD,hoD,hdD,hcD⟩:=n2.count (lj name v hw);refine ad (wpAny_lookBehind hoD (by rw[hdD];exact pastItsLine_dict (b9 hcD (by rw[di,sizeLine_eq];lia))) (am ?_));exact hq h2 _ n2 λc o n z=>(k2.2 c n).trans z
end
def XD (a:Addr)(fs:List (Str × V)):Heap->Prop:=λh=>∃mA,h.Ns1 a mA/\(∀f,jM (fs.lookup f) (mA f))/\PySem.Within mA (fs.map (·.1))/\fs.length<=50
theorem XD.at {a:Addr}{fs:List (Str × V)}{h h':Heap}(x:XD a fs h)(k:∀o,h.get? a=some o->h'.get? a=some o):XD a fs h':=let ⟨mA,n,r⟩:=x;⟨mA,n.at k,r⟩
theorem XD.ok {P:Program}{w:World}{H:Hp}{h:Heap}{a:Addr}{fs:List (Str × V)}(x:XD a fs h):dH P w H h a (.ext (XD a fs)):=⟨x,let ⟨_,⟨o,_,_,e,_⟩,_⟩:=x;⟨o,e⟩,λ_ _ y k=>y.at k⟩
def agS (K : Frag)(ta tv : TE)(f : Str) : TS := λD σ H => tv σ H λy H1 => ta σ H1 λx H2 => ∃a C dd, x = .ref a /\ H2 a = some (.ext (gq a (.ref C) dd)) /\ Ao K C /\ findIn K (.ref C) f = some none /\
  ((dd = none /\ ∀dx, dx ≠ a -> H2 dx = none -> D.nx σ (upd (upd H2 dx (.ext (XD dx [(f, y)]))) a (.ext (gq a (.ref C) (some dx))))) \/
   ∃dx fs, dd = some dx /\ H2 dx = some (.ext (XD dx fs)) /\ fs.length < 50 /\ D.nx σ (upd H2 dx (.ext (XD dx (iz f y fs)))))
section
variable {X:Cx}{o value:Expr}{f:Str}{pos pos':Pos}{ta tv:TE}
theorem t_ (ha:QE X o ta)(hv:QE X value tv)(hs:swapsWith value (some (.Attribute o f pos')) pos.line X.env=pure false):QS X (.Assign [.Attribute o f pos'] value pos) (agS X.K ta tv f):=⟨by
 intro ao s σ H D I h;refine plainObj_wpAny_Assign_Attribute (bN (hv.out ao s σ H _ I h) λu s1 zz=>?_) hs;obtain⟨y,H1,I1,ry,q⟩:=zz;refine bN (ha.out ao s1 σ H1 _ I1 q) λov s2 zz=>?_;obtain⟨x,H2,I2,rx,a,C,dd,ex,ea,T,hn,q2⟩:=zz;subst ex;obtain rfl:ov=Value.ref a:=rx;obtain⟨⟨oe,vs,he,h1,h2,h3,h4,Xh,h5⟩,_⟩:=I2.hok a _ ea;obtain⟨oc,od,oda,osl⟩:=oe;dsimp only at h1 h2 h3;subst h1 h2 h3;have hk:X.K.In s2.heap:=I2.gk;obtain⟨hh,g,d,t,os⟩:=s2;rcases q2 with⟨rfl,q2⟩ | ⟨dx,fs,rfl,hdx,hl,q2⟩
 ·refine Kr hk T hn (od:=none) ⟨he,rfl,rfl,True.intro⟩ (Um hk T he λh' t' n' e' k'=>?_)
  have xs:a≠hh.objs.size:=a8 (av he);have nN:H2 hh.objs.size=none:=I2.hok.fresh (al _);have na:∀b,H2 b=none->b≠a:=λb n z=>by rw[z,ea]at n;cases n
  have ne:∀b w,H2 b=some w->(∀φ,w≠.ext φ)->b≠a/\b≠hh.objs.size:=λb w e n=>⟨λz=>by rw[z,ea]at e;cases e;exact n _ rfl,λz=>by rw[z,nN]at e;cases e⟩
  have up:∀b,b≠a->b≠hh.objs.size->upd (upd H2 hh.objs.size (.ext (XD hh.objs.size [(f,y)]))) a (.ext (gq a (.ref C) (some hh.objs.size))) b=H2 b:=λb n1 n2=>by rw[aN n1,aN n2]
  have lt:∀b o,hh.get? b=some o->b≠hh.objs.size:=λb o z=>a8 (av z);have hD:XD hh.objs.size [(f,y)] h':=⟨_,n',λg'=>by
    show jM (List.lookup g' [(f,y)]) (if g'=f then some u else none);by_cases q:g'=f
    ·rw[if_pos q,q];simp only[List.lookup,beq_self_eq_true];exact ry
    ·rw[if_neg q]
     have:(g'==f)=false:=beq_false_of_ne q;simp only[List.lookup,this];trivial,λg' hg=>by
    by_cases q:g'=f
    ·rw[q];simp
    ·exact absurd (show (if g'=f then some u else none)=none by rw[if_neg q]) hg,by show 1<=50;decide⟩
  have I3:aL X ao σ (upd (upd H2 hh.objs.size (.ext (XD hh.objs.size [(f,y)]))) a (.ext (gq a (.ref C) (some hh.objs.size)))) ⟨h',g,d,t',os⟩:=I2.un (t':=t')
   ⟨λb o z n _ _=>k' b o (na b n) z,λb o z n _ _=>⟨o.slots,k' b o (na b n) z⟩,λb o z n _=>(up b (na b n) (lt b o z)).trans n,λb o z _=>by
    by_cases hb:b=a
    ·exact⟨_,by rw[hb];exact e'⟩
    ·exact⟨o,k' b o hb z⟩,λb xs e=>by
    obtain⟨n1,n2⟩:=ne b _ e λφ=>by simp
    exact(up b n1 n2).trans e,λb o xs e=>by
    obtain⟨n1,n2⟩:=ne b _ e λφ=>by simp
    exact(up b n1 n2).trans e,λb ps e=>by
    obtain⟨n1,n2⟩:=ne b _ e λφ=>by simp
    exact⟨#[],by rw[up b n1 n2,e];simp⟩⟩ λb o e=>by
   by_cases hb:b=a
   ·subst hb
    rw[au]at e;cases e;exact gq.ok ⟨_,_,e',rfl,rfl,rfl,h4,Xh,λz=>xs (ap z).symm⟩
   ·rw[aN hb]at e
    by_cases hn:b=hh.objs.size
    ·subst hn
     rw[au]at e;cases e;exact hD.ok
    ·rw[aN hn]at e
     refine(I2.hok b o e).stay (λc w hc z=>k' c w (λy=>?_) z) (λc r=>?_) λc xs r=>?_
     ·rcases hc with hc | hc
      ·exact hb (hc.symm.trans y)
      ·rw[y,ea]at hc;cases hc
     ·obtain⟨n1,n2⟩:=ne c _ r λφ=>by simp
      exact(up c n1 n2).trans r
     ·obtain⟨n1,n2⟩:=ne c _ r λφ=>by simp
      exact(up c n1 n2).trans r
  exact⟨σ,_,I3,q2 _ xs.symm nN⟩
 ·obtain⟨⟨mA,nA,rA,wA,lA⟩,⟨od,hod⟩,_⟩:=I2.hok dx _ hdx
  refine Kr hk T hn (od:=some od) ⟨he,rfl,rfl,hod⟩ (QX (ns:=fs.map (·.1)) hk T he nA wA (by rw[aa];lia) λh' t' n' k'=>?_);have I3:aL X ao σ (upd H2 dx (.ext (XD dx (iz f y fs)))) ⟨h',g,d,t',os⟩:=I2.write (t':=t') (e:=dx) (by rw[hdx];trivial) (.inl rfl) (λb o n z=>k' b o n z) (let ⟨o,_,_,e,_⟩:=n';⟨o,e⟩)
   (XD.ok ⟨_,n',λg'=>?_,λg' hg=>?_,?_⟩)
  ·exact⟨σ,_,I3,q2⟩
  ·show jM ((iz f y fs).lookup g') (if g'=f then some u else mA g')
   rw[nu];by_cases q:g'=f
   ·rw[if_pos q,if_pos q];exact ry
   ·rw[if_neg q,if_neg q];exact rA g'
  ·by_cases q:g'=f
   ·rw[q];exact(qZ f y fs).1
   ·refine(qZ f y fs).2 g' (wA g' λz=>hg ?_)
    show (if g'=f then some u else mA g')=none;rw[if_neg q];exact z
  ·have:=wj f y fs;lia⟩
end
structure InitOf (K:Frag)(R:Addr):Prop where
 ga:specialIn K (.ref R) "__getattribute__"=some (some (.builtin "type.__getattribute__"))
 rd:readsIn K R (.type "type")=true
 fc:findCls K (.ref R) (.type "type") "__init__"=some (.val (.builtin "ValueError.__init__"))
def aas (K:Frag)(t:TA):TE:=λσ H Q=>t σ H λvs H1=>∃a C f dd rest,vs=.ref a::rest/\H1 a=some (.ext (gq a (.ref C) dd))/\u9 K C f=true/\rest.length<=sizeLine/\Q .non H1
section
variable {X:Cx}{R:Addr}{x:Str}{np apos pos:Pos}{e:Expr}{es:List Expr}{t:TA}
theorem sY {pl:Sem Bool}(hg:Gl X x)(hm:X.mg x=some (.ref R))(F:InitOf X.K R)(ha:QA X (e::es) t)(hdb:(x==("__debug__":Str))=false:=by decide)
  (hs:starEach (e::es) X.env=(false,eval e X.env)::starEach es X.env:=by rfl) (hpl:(backTo pos (starEach es X.env)).any (·.1)=false:=by rfl)
  (ht:eval (.Call (.Attribute (.Name x np) "__init__" apos) (e::es) [] pos) X.env=(do
   let ov <- eval (.Name x np) X.env
   standAt apos.atName
   let (f,first) <- holding [ov] (getMethod ov "__init__" pl)
   callWith pos f first (backTo pos (starEach (e::es) X.env)) (backToKw pos (keywordEach [] X.env))):=by rfl) :
  QE X (.Call (.Attribute (.Name x np) "__init__" apos) (e::es) [] pos) (aas X.K t):=⟨by
 intro ao s σ H Q I h;refine methodCall_KW (pl:=pl) (oA I hg hm ?_ hdb) ht;refine method_cls I.gk F.ga (cls_value I.gk F.rd F.fc rfl ?_);have I0:=I.tok (s.toks+1);refine ku (bN (ha.out pos ao _ σ H _ I0 h) λus s1 zz=>?_) hs hpl;obtain⟨vs,H1,I1,r1,a,C,f,dd,rest,ev,hE,hC,hz,q⟩:=zz;subst ev;obtain⟨bm,N,nm,qn,bs,sn,sub,ab,col,Wu,k0,k1,k2,k3,k5,mN,cC,cN,ci,T⟩:=Iw I1.gk hC;obtain⟨⟨oe,ws,he,h1,h2,h3,h4,Xh,h5⟩,_⟩:=I1.hok a _ hE;obtain⟨u,us',rfl,ra,rr⟩:∃u us',us=u::us'/\cu (.ref a) u/\Vals rest us':=by
  cases r1 with
  | cons ra rr=>exact⟨_,_,rfl,ra,rr⟩
 obtain rfl:u=Value.ref a:=ra;obtain⟨hh,g,d,tk,os⟩:=s1;have hsz:0 < ws.size:=kQ (b8 1) (fb.mp h4).1;refine Xi T cC he h1 h3 hsz (by rw[<- rr.length];exact hz) ?_;have e1:(hh.push (newArgs us')).get? a=some oe:=ag _ he;have I2:aL X ao σ H1 ⟨hh.push (newArgs us'),g,d,tk,os⟩:=I1.kept (t':=tk) λb u z=>ag _ z;have dd2:=ib h3 (·.setIfInBounds 0 (Value.ref hh.objs.size));have e2:((hh.push (newArgs us')).update a (Obj.mapFields (·.setIfInBounds 0 (.ref hh.objs.size)))).get? a=some (oe.mapFields (·.setIfInBounds 0 (.ref hh.objs.size))):=fk _ e1 (f_ dd2);have I3:aL X ao σ (upd H1 a (.ext (gq a (.ref C) dd))) ⟨(hh.push (newArgs us')).update a (Obj.mapFields (·.setIfInBounds 0 (.ref hh.objs.size))),g,d,tk,os⟩:=I2.write (t':=tk) (e:=a) (by rw[hE];trivial) (.inl rfl)
  (λb u n z=>(d6 _ _ (fz n)).trans z) ⟨_,e2⟩ (gq.ok ⟨_,_,e2,(lv _ _).trans h1,(Kq _ _).trans h2,dd2,by rw[gX (by decide)];exact h4,by rw[gX (by decide)];exact Xh,h5⟩)
 rw[show upd H1 a (.ext (gq a (.ref C) dd))=H1 from funext λb=>by
  by_cases hb:b=a
  ·rw[hb,au,hE]
  ·rw[aN hb]]at I3
 exact⟨.non,H1,I3,rfl,q⟩⟩
end
def agT (K:Frag)(ta:TE)(f:Str):TE:=λσ H Q=>ta σ H λx H1=>∃a C dx fs v,x=.ref a/\H1 a=some (.ext (rP a (.ref C) (some dx)))/\H1 dx=some (.ext (XD dx fs))/\qL K C/\hasDictIn K C=true/\findIn K (.ref C) f=some none/\fs.lookup f=some v/\Q v H1
section
variable {prog:Program}{w:World}{A:Around}{E:AB}{s:Shared}{K:Frag}{x C:Addr}{ox:Obj}{od:Obj}{name:Str}{v:Value}
variable {X:Cx}{e:Expr}{f:Str}{pos:Pos}{ta:TE}
theorem Uo {tk:Tok}{Q:Fin->Shared->Prop}(X:K.In s.heap)(I:InstAt s.heap x ox C (some od))(hf:findObj K C (some od) name=some (.value v))(h:Q (.done (.ret v)) s) :
  wpAny (model prog w) A (Builtin.«object.__getattribute__» ⟨[.ref x,.str name tk],[]⟩) Q E s:=by
 obtain⟨hh,g,d,t,os⟩:=s;have L0:=I.type (M:=model prog w);have L1:=looks_find (M:=model prog w) X I hf;unfold Builtin.«object.__getattribute__»
 repeat (first | lk)
 exact h
theorem ahu {expr:Bool}{Q:AB}(T:qL K C)(X:K.In s.heap)(I:InstAt s.heap x ox C (some od))(hf:findObj K C (some od) name=some (.value v))(hv:handedIn v=true)(h:Q v { s with toks:=s.toks+1 }) :
  wpAny (model prog w) A (getAttr (.ref x) name expr) Q E s:=by
 obtain⟨hh,g,d,t,os⟩:=s;have L0:=I.type (M:=model prog w);have L1:=looks_findIn (M:=model prog w) X T.ga;have L2:=looks_findIn (M:=model prog w) X T.gx;unfold getAttr getAttrBy;refine ad (wpAny_mkText (cK (ad (L0.at (ad (L1.at ?_))))));show wpAny _ _ (getAttrByItsOwn _ _ _ _ _ _) _ _ _;unfold getAttrByItsOwn hookBefore;rw[if_pos (show onTheHeap (Value.ref C)=true from rfl)];refine ad (L2.at (ad (hV (cK ?_))));unfold callGetattribute boundAndCalled;rw[if_neg (by simp[onTheHeap])];have f3:=gd.ga.bind (.ref x);rw[f3];refine ad (am ?_);refine gh (ir gd.ga.plain F.entry_bexc_ga ?_);have hk:builtinKind "BaseException.__getattribute__"=some .slot:=by decide +kernel
 have hsp:splitId "BaseException.__getattribute__"=some ("BaseException","__getattribute__"):=by decide +kernel
 have Lb:=looks_mroIn (M:=model prog w) X T.hb;have hargs:=F.args_bexc_ga (.ref x) (.str name t);simp only[checkBuiltinCall,hk,hsp];refine ad ?_;unfold isInstance;refine ad (L0.at (Lb.at ?_))
 repeat (first | refine Uo (x:=x) X I hf ?_ | assumption | wp_step)
 exact handed_on hv h
theorem Dg (he:QE X e ta)(hb:attributeBase e f X.env (eval e X.env)=eval e X.env):QE X (.Attribute e f pos) (agT X.K ta f):=⟨by
 intro ao s σ H Q I h;refine Rw hb (bN (he.out ao s σ H _ I h) λu s1 zz=>?_);obtain⟨x,H1,I1,rx,a,C,dx,fs,v,ex,ea,ed,T,hd,hn,hl,q⟩:=zz;subst ex;obtain rfl:u=Value.ref a:=rx;obtain⟨⟨oe,vs,e1,e2,e3,e4,_⟩,_⟩:=I1.hok a _ ea;obtain⟨⟨mA,nA,rA,wA,lA⟩,_⟩:=I1.hok dx _ ed;obtain⟨od,ho,hlk⟩:=J0 nA;obtain⟨u,hu,ru⟩:=jM.some_of (v:=v) (o:=mA f) (by rw[<- hl];exact rA f);have J:InstAt s1.heap a oe C (some od):=⟨e1,e2,by unfold notCls;rw[e4],by rw[e3];exact ho⟩
 exact ahu T I1.gk J (findObj_own hd hn rfl (by rw[hlk,hu])) (J1 ru) ⟨v,H1,I1.tok _,ru,q⟩⟩
end
theorem drop_new {H:Hp}{a dx:Addr}{o p q:HO}(na:H a=none)(ne:dx≠a)(nd:upd H a o dx=none):aA H (drop (upd (upd (upd H a o) dx p) a q) a)/\drop (upd (upd (upd H a o) dx p) a q) a dx=some p:=by
 rw[aN ne]at nd;refine⟨λb u e=>?_,?_⟩
 ·have h1:b≠a:=bU e na
  have h2:b≠dx:=bU e nd;rw[g_ h1,aN h1,aN h2,aN h1];exact e
 ·rw[g_ ne,aN ne,au]
structure m8 (K:Frag)(mg:Str->Option Value)(name:Str)(C f:Addr)(fs:List Str):Prop where
 GK:mg name=some (.ref C)
 M:MkX K C f
 T:Ao K C
 is:qL K C
 hd:hasDictIn K C=true
 no:∀g∈fs,findIn K (.ref C) g=some none
def GP (C:Addr)(nm:Str):Sp:=λvs H Q _=>∃(a:Addr) (v:V),vs=[.ref a,v]/\H a=some (.ext (gq a (.ref C) none))/\∀dx,dx≠a->H dx=none->Q .non (upd (upd H dx (.ext (XD dx [(nm,v)]))) a (.ext (gq a (.ref C) (some dx))))
def GQ (C:Addr)(n1 n2:Str):Sp:=λvs H Q _=>∃(a:Addr) (v w:V),vs=[.ref a,v,w]/\H a=some (.ext (gq a (.ref C) none))/\∀dx,dx≠a->H dx=none->Q .non (upd (upd (upd H dx (.ext (XD dx [(n1,v)]))) a (.ext (gq a (.ref C) (some dx)))) dx (.ext (XD dx (iz n2 w [(n1,v)]))))
def isT:Value->Bool
 | .bool b=>b
 | _=>false
section
variable {X:Cx}
variable {prog:Program}{w:World}{A:Around}{E:AB}{s:Shared}{z ti to u v a b:Addr}{i:Nat}{f g:Array Value}{x y m n:Value}
theorem NZ:∀{bs:List Bool} {its:List Value},Vals (bs.map V.bl) its->its.map isT=bs
 | [],_,.nil=>rfl
 | b::bs,_,.cons r t=>by
  cases r;rw[bv,NZ t];rfl
theorem ac9 {bs:List Bool}{its:List Value}(r:Vals (bs.map V.bl) its){A:Around}{s:Shared}:∀y∈its.toArray,SeqAt.EqAt A s y (.bool true) (isT y):=λy hy=>by
 obtain⟨m,hm,rfl⟩:=Array.mem_iff_getElem.mp hy;have hl:=r.length;have hm':m < bs.length:=by simp at hm hl;lia
 obtain⟨u1,e1,s1⟩:=r.get (i:=m) (x:=.bl bs[m]) (by simp[hm']);cases s1;have e2:its.toArray[m]=.bool bs[m]:=by
  rw[ac (by simpa using hm)]at e1;simpa using e1
 rw[e2];have:=SeqAt.EqAt.bool_bool (A:=A) (s:=s) bs[m] true;cases z:bs[m] <;> (rw[z]at this;exact this)
def ac_:V->List V->Hp->VK->Prop:=λx vs H Q=>∃(l:Addr) (bs:List Bool) (j:Nat),x=.ref l/\vs=[.bl true]/\H l=some (.lst (bs.map V.bl))/\bs[j]?=some true/\(∀m,m < j->bs[m]?=some false)/\bs.length<=1000/\Q (.int j) H
theorem Xj:RB X "list.index" ac_:=by
 intro ao s σ H x vs v us Q I rx rv h;obtain⟨l,bs,j,rfl,rfl,hH,hj,hno,hz,q⟩:=h;cases rx;obtain⟨u,rfl,ru⟩:=rv.one;cases ru;obtain⟨z,its,n,r,hl,e⟩:=I.xZ hH;have em:=NZ r;have cA:its.length=bs.length:=by rw[<- em,aa]
 have hjb:j < bs.length:=(af.mp hj).1;have at_:∀m (hm:m < its.toArray.size),bs[m]?=some (isT its.toArray[m]):=λm hm=>by
  have hm':m < its.length:=by simpa using hm
  rw[<- em,aS,ac hm'];simp
 refine call_meets F.slot_list_index ⟨_,e,rfl⟩ F.entry_list_index (F.args_list_index_2 _ _) (SeqAt.list_indexAt l its.toArray n _ _ (.bool true) isT j (by simp;lia) (by lia) ?_ ?_) ⟨e,ac9 r,?_⟩
 ·have:=at_ j (by simp;lia)
  rw[hj]at this;exact(ap this).symm
 ·intro m hm hlt
  have:=at_ m hm;rw[hno m hlt]at this;exact(ap this).symm
 ·exact⟨.int j,H,I.tok _,⟨s.toks,rfl⟩,q⟩
theorem Xk {Q:AB}(D:ZA z ti to u v a b)(hz:IsZip s.heap z ti to .none)(hi:IsPair s.heap ti (.ref u) (.ref v))(ho:IsPair s.heap to m n)
  (hu:s.heap.IsListIter u a i) (hv:s.heap.IsListIter v b i) (ha:s.heap.IsList a f) (hb:s.heap.IsList b g) (hx:f[i]?=some x) (hy:g[i]?=some y)
  (q:∀h',IsZip h' z ti to (rawInt s.heap.objs.size)->IsPair h' to x y->h'.IsListIter u a (i+1)->h'.IsListIter v b (i+1)->IsPair h' s.heap.objs.size x y->
   (∀c o,c≠z->c≠to->c≠u->c≠v->s.heap.get? c=some o->h'.get? c=some o)->Q (.ref s.heap.objs.size) { s with heap:=h' }) :
  wpAny (model prog w) A (Builtin.«zip.__next__» ⟨[.ref z],[]⟩) (λfin s'=>∃r,fin=.done (.ret r)/\Q r s') E s:=by
 show wpAny _ _ (field (.ref z) 2 >>= _) _ _ _;refine ad (e9 hz rfl (x:=.bool false) rfl ?_);show wpAny _ _ (field (.ref z) 3 >>= _) _ _ _;refine ad (e9 hz rfl (x:=.ref ti) rfl (ad (ip hi rfl ?_)));show wpAny _ _ (Builtin.SmallTypes.ownedTupleIsFree (.ref z) >>= _) _ _ _;refine ad ?_;unfold Builtin.SmallTypes.ownedTupleIsFree;refine ad (e9 hz rfl (x:=.none) rfl (am ?_));simp only[if_true];refine ad (wpAny_rule (ad (e9 hz rfl (x:=.ref to) rfl (ad (ic hz (by simp) λg1 z1 k1=>?_)))))
 replace z1:IsZip g1 z ti to .ellipsis:=z1
 refine ad ?_;simp only[List.zipIdx_cons,List.zipIdx_nil,fw,ml];refine ad (ad (kU ?_));show wpAny _ _ (Builtin.SmallTypes.nextOf (.ref u) >>= _) _ _ _;refine ad (js (hu.at λo e=>k1.extBut _ o D.q3 e) (i7 ha λo e=>k1.extBut _ o D.p2 e) hx λg2 u2 k2=>am ?_);have o2:IsPair g2 to m n:=k2.extBut _ _ D.q8 (k1.extBut _ _ D.q2 ho);refine ad (ip o2 rfl (ad (kA o2 λg3 o3 k3=>?_)))
 replace o3:IsPair g3 to x n:=o3
 refine ad (wpAny_letGo (am ?_));refine ad (ad (kU ?_));show wpAny _ _ (Builtin.SmallTypes.nextOf (.ref v) >>= _) _ _ _;refine ad (js (hv.at λo e=>k3.extBut _ o D.q9.symm (k2.extBut _ o D.p1.symm (k1.extBut _ o D.q4 e))) (i7 hb λo e=>k3.extBut _ o D.p7 (k2.extBut _ o D.p8 (k1.extBut _ o D.p6 e))) hy λg4 v4 k4=>am ?_);have o4:IsPair g4 to x n:=k4.extBut _ _ D.q9 o3;refine ad (ip o4 rfl (ad (kA o4 λg5 o5 k5=>?_)))
 replace o5:IsPair g5 to x y:=o5
 refine ad (wpAny_letGo (am (am ?_)));refine ad (ip o5 rfl (ad (wpAny_newTuple ?_)));have sz:g5.objs.size=s.heap.objs.size:=by rw[k5.1,k4.1,k3.1,k2.1,k1.1]
 have z5:IsZip g5 z ti to .ellipsis:=k5.extBut _ _ D.q2.symm (k4.extBut _ _ D.q4.symm (k3.extBut _ _ D.q2.symm (k2.extBut _ _ D.q3.symm z1)));have kk:∀c o,c≠z->c≠to->c≠u->c≠v->s.heap.get? c=some o->g5.get? c=some o:=λc o c1 c2 c3 c4 e=>k5.extBut _ _ c2 (k4.extBut _ _ c4 (k3.extBut _ _ c2 (k2.extBut _ _ c3 (k1.extBut _ _ c1 e))));have u5:g5.IsListIter u a (i+1):=u2.at λo e=>k5.extBut _ o D.q8.symm (k4.extBut _ o D.p1 (k3.extBut _ o D.q8.symm e));have v5:g5.IsListIter v b (i+1):=v4.at λo e=>k5.extBut _ o D.q9.symm e;have lz:z < g5.objs.size:=av z5;show wpAny _ _ (Builtin.SmallTypes.ownedTupleHandOut (.ref z) (.ref g5.objs.size) >>= _) _ _ _;refine ad ?_;unfold Builtin.SmallTypes.ownedTupleHandOut;have z6:IsZip (g5.push { cls:=.type "tuple",data:=.seq #[x,y] }) z ti to .ellipsis:=ag _ z5;refine ad (ic z6 (by simp) λg7 z7 k7=>?_)
 replace z7:IsZip g7 z ti to (rawInt g5.objs.size):=z7
 refine ic z7 (by simp) λg8 z8 k8=>?_
 replace z8:IsZip g8 z ti to (rawInt g5.objs.size):=z8
 have up:∀c o,c≠z->g5.get? c=some o->g8.get? c=some o:=λc o c1 e=>k8.extBut _ _ c1 (k7.extBut _ _ c1 (ag _ e));have t8:IsPair g8 g5.objs.size x y:=k8.extBut _ _ (kr lz) (k7.extBut _ _ (kr lz) (aT _ rfl));rw[sz]at z8 t8;refine am ⟨_,rfl,?_⟩;show Q (.ref g5.objs.size) _;rw[sz];exact q g8 z8 (up _ _ D.q2 o5) (u5.at λo e=>up _ o D.q3 e) (v5.at λo e=>up _ o D.q4 e) t8 λc o c1 c2 c3 c4 e=>up c o c1 (kk c o c1 c2 c3 c4 e)
theorem aat {Q:Fin->Shared->Prop}(hh:A.handled=none)(D:ZA z ti to u v a b)(hz:IsZip s.heap z ti to .none)(hi:IsPair s.heap ti (.ref u) (.ref v))(ho:IsPair s.heap to m n)
  (hu:s.heap.IsListIter u a i) (hv:s.heap.IsListIter v b i) (ha:s.heap.IsList a f) (hb:s.heap.IsList b g) (hx:f[i]?=some x) (hy:g[i]?=none)
  (q:∀h' e,(∀c o,c≠z->c≠to->c≠u->c≠v->s.heap.get? c=some o->h'.get? c=some o)->(∃o,h'.get? e=some o/\o.cls=.type "StopIteration")->E (.ref e) { s with heap:=h' }) :
  wpAny (model prog w) A (Builtin.«zip.__next__» ⟨[.ref z],[]⟩) Q E s:=by
 show wpAny _ _ (field (.ref z) 2 >>= _) _ _ _;refine ad (e9 hz rfl (x:=.bool false) rfl ?_);show wpAny _ _ (field (.ref z) 3 >>= _) _ _ _;refine ad (e9 hz rfl (x:=.ref ti) rfl (ad (ip hi rfl ?_)));show wpAny _ _ (Builtin.SmallTypes.ownedTupleIsFree (.ref z) >>= _) _ _ _;refine ad ?_;unfold Builtin.SmallTypes.ownedTupleIsFree;refine ad (e9 hz rfl (x:=.none) rfl (am ?_));simp only[if_true];refine ad (wpAny_rule (ad (e9 hz rfl (x:=.ref to) rfl (ad (ic hz (by simp) λg1 z1 k1=>?_)))))
 replace z1:IsZip g1 z ti to .ellipsis:=z1
 refine ad ?_;simp only[List.zipIdx_cons,List.zipIdx_nil,fw,ml];refine ad (ad (kU ?_));show wpAny _ _ (Builtin.SmallTypes.nextOf (.ref u) >>= _) _ _ _;refine ad (js (hu.at λo e=>k1.extBut _ o D.q3 e) (i7 ha λo e=>k1.extBut _ o D.p2 e) hx λg2 u2 k2=>am ?_);have o2:IsPair g2 to m n:=k2.extBut _ _ D.q8 (k1.extBut _ _ D.q2 ho);refine ad (ip o2 rfl (ad (kA o2 λg3 o3 k3=>?_)))
 replace o3:IsPair g3 to x n:=o3
 refine ad (wpAny_letGo (am ?_));refine ad (ad (kU ?_));show wpAny _ _ (Builtin.SmallTypes.nextOf (.ref v) >>= _) _ _ _;refine ad (wpAny_nextOf_list_end hh (hv.at λo e=>k3.extBut _ o D.q9.symm (k2.extBut _ o D.p1.symm (k1.extBut _ o D.q4 e))) (i7 hb λo e=>k3.extBut _ o D.p7 (k2.extBut _ o D.p8 (k1.extBut _ o D.p6 e))) hy λg4 e k4 he=>?_);obtain⟨oe,e1,e2⟩:=he;have z2:IsZip g4 z ti to .ellipsis:=k4 _ _ D.q4.symm (k3.extBut _ _ D.q2.symm (k2.extBut _ _ D.q3.symm z1));have ez:e≠z:=λt=>by subst t;rw[z2]at e1;cases e1;simp at e2
 exact ic z2 (by simp) λg5 _ k5=>q g5 e (λc o c1 c2 c3 c4 t=>k5.extBut _ _ c1 (k4 _ _ c4 (k3.extBut _ _ c2 (k2.extBut _ _ c3 (k1.extBut _ _ c1 t))))) ⟨oe,k5.extBut _ _ ez e1,e2⟩
abbrev zl1 (h:Heap)(a:Addr):Heap:=h.push { cls:=.type "list_iterator",data:=.fields #[.ref a,.int 0 0] }
abbrev zl2 (h:Heap)(a b:Addr):Heap:=(zl1 h a).push { cls:=.type "list_iterator",data:=.fields #[.ref b,.int 0 0] }
abbrev zl3 (h:Heap)(a b:Addr):Heap:=(zl2 h a b).push { cls:=.type "tuple",data:=.seq #[.ref h.objs.size,.ref (zl1 h a).objs.size] }
abbrev zl4 (h:Heap)(a b:Addr):Heap:=(zl3 h a b).push { cls:=.type "tuple",data:=.seq #[.none,.none] }
abbrev R4 (h:Heap)(a b:Addr):Heap:=(zl4 h a b).push { cls:=.type "zip",data:=.fields #[.none,.bool false,.bool false,.ref (zl2 h a b).objs.size,.ref (zl3 h a b).objs.size] }
theorem ada (a b:Addr)(f g:Array Value):Meets (Builtin.«zip.__new__» ⟨[.type "zip",.ref a,.ref b],[]⟩) (λ_ R s=>s.heap.IsList a f/\s.heap.IsList b g/\R (.ok (.ret (.ref (zl4 s.heap a b).objs.size))) { s with heap:=R4 s.heap a b }):=
 .of_wp λprog w A R s h=>by
  obtain⟨hp,gs,d,tk,os⟩:=s;obtain⟨h1,h2,h⟩:=h;have hsub:=sub_zip;have j1:Heap.IsList (Shared.heap ⟨hp,gs,d,tk,os⟩) a f:=h1;have j2:Heap.IsList (Shared.heap ⟨hp.push { cls:=.type "list_iterator",data:=.fields #[.ref a,.int 0 0] },gs,d,tk,os⟩) b g:=i7 h2 λo e=>ag _ e
  wp_walk using eP j1,eP j2
  exact⟨_,rfl,h⟩
theorem ahv {Q:AB}(ha:s.heap.IsList a f)(hb:s.heap.IsList b g)
  (q:∀h',IsZip h' (s.heap.objs.size+4) (s.heap.objs.size+2) (s.heap.objs.size+3) .none->IsPair h' (s.heap.objs.size+2) (.ref s.heap.objs.size) (.ref (s.heap.objs.size+1))->IsPair h' (s.heap.objs.size+3) .none .none->
   h'.IsListIter s.heap.objs.size a 0->h'.IsListIter (s.heap.objs.size+1) b 0->(∀c o,s.heap.get? c=some o->h'.get? c=some o)->Q (.ref (s.heap.objs.size+4)) { s with heap:=h' }) :
  wpAny (model prog w) A (call (.type "zip") [.ref a,.ref b]) Q E s:=by
 refine callType_new F.called_zip (by decide) (F.typeCall_zip_2 _ _) (F.newCall_zip_2 _ _) (λobj=>F.args_object_init_3 obj _ _) F.entry_zip_new (ada a b f g) ⟨ha,hb,?_⟩;have n1:(zl1 s.heap a).objs.size=s.heap.objs.size+1:=cS ..;have n2:(zl2 s.heap a b).objs.size=s.heap.objs.size+2:=by rw[cS,n1]
 have n3:(zl3 s.heap a b).objs.size=s.heap.objs.size+3:=by rw[cS,n2]
 have n4:(zl4 s.heap a b).objs.size=s.heap.objs.size+4:=by rw[cS,n3]
 have e5:(R4 s.heap a b).get? (zl4 s.heap a b).objs.size=some _:=aT _ rfl;have e4:(R4 s.heap a b).get? (zl3 s.heap a b).objs.size=some _:=ag _ (aT _ rfl);have e3:(R4 s.heap a b).get? (zl2 s.heap a b).objs.size=some _:=ag _ (ag _ (aT _ rfl));have e2:(R4 s.heap a b).get? (zl1 s.heap a).objs.size=some _:=ag _ (ag _ (ag _ (aT _ rfl)));have e1:(R4 s.heap a b).get? s.heap.objs.size=some _:=ag _ (ag _ (ag _ (ag _ (aT _ rfl))));show _/\_;rw[n2,n3,n4]at e5;rw[n1,n2]at e3;rw[n3]at e4;rw[n1]at e2;rw[n4];exact⟨⟨_,e5,rfl⟩,q _ e5 e3 e4 ⟨_,e1,rfl,rfl⟩ ⟨_,e2,rfl,rfl⟩ λc o t=>ag _ (ag _ (ag _ (ag _ (ag _ t))))⟩
end
def N5 (K:W.Frag)(a b:Addr):It:=
 ⟨λi H=>∃xs ys x y,aU K H a xs/\aU K H b ys/\xs[i]?=some x/\ys[i]?=some y,λi H t H'=>∃T x y,H T=none/\t=.ref T/\(∀xs,aU K H a xs->xs[i]?=some x)/\(∀ys,aU K H b ys->ys[i]?=some y)/\H'=upd H T (.tup [x,y]),λi H=>∃xs ys,aU K H a xs/\aU K H b ys/\i < xs.length/\ys.length<=i⟩
theorem Xl {P:Program}{w:World}{K:W.Frag}{elts:List Expr}{x1:Nat}{pos:Pos}{z ti to u v a b:Addr}(D:ZA z ti to u v a b) :
  Turn P w K (.Tuple elts x1 pos) (N5 K a b) [z,ti,to,u,v] z (λi h=>IsZip h z ti to .none/\IsPair h ti (.ref u) (.ref v)/\(∃m n,IsPair h to m n)/\h.IsListIter u a i/\h.IsListIter v b i) where
 mem:=by simp
 obj:=λi h st c hc=>by
  obtain⟨h1,h2,⟨m,n,h3⟩,⟨o4,h4,_,d4⟩,⟨o5,h5,_,d5⟩⟩:=st;simp only[bq,gI,or_false]at hc;rcases hc with e | e | e | e | e <;> subst e
  ·exact⟨_,h1,λv y=>by cases y⟩
  ·exact⟨_,h2,λv y=>by cases y⟩
  ·exact⟨_,h3,λv y=>by cases y⟩
  ·exact⟨o4,h4,λv y=>by rw[d4]at y;cases y⟩
  ·exact⟨o5,h5,λv y=>by rw[d5]at y;cases y⟩
 keep:=λi h h' st k=>by
  obtain⟨h1,h2,⟨m,n,h3⟩,h4,h5⟩:=st;exact⟨k z (by simp) _ h1,k ti (by simp) _ h2,⟨m,n,k to (by simp) _ h3⟩,h4.at λo e=>k u (by simp) o e,h5.at λo e=>k v (by simp) o e⟩
 item:=by
  intro X hP hw hK hc i ao s σ H E I hf st hg;subst hP hw hK;obtain⟨h1,h2,⟨m,n,h3⟩,h4,h5⟩:=st;obtain⟨xs,ys,x,y,hxs,hys,hx,hy⟩:=hg;obtain⟨fs,rf,pf,_⟩:=I.list hxs;obtain⟨gs,rg,pg,_⟩:=I.list hys;obtain⟨p,ep,rp⟩:=rf.get hx;obtain⟨q,eq,rq⟩:=rg.get hy;have lt:∀c∈[z,ti,to,u,v],c < s.heap.objs.size:=λc hc=>by
   simp only[bq,gI,or_false]at hc;rcases hc with e | e | e | e | e <;> subst e
   ·exact av h1
   ·exact av h2
   ·exact av h3
   ·obtain⟨o,e,_⟩:=h4;exact av e
   ·obtain⟨o,e,_⟩:=h5;exact av e
  have hT:s.TypeIs (.ref z) "zip":=⟨_,h1,rfl⟩
  unfold pyNext;refine ad (hV (g9 (name:=Str.ofString "__next__") hT kC (eB kC hT F.entry_zip_next ?_ (F.args_zip_next_1 _))));refine Xk D h1 h2 h3 h4 h5 (show s.heap.IsList a fs.toArray from pf.isList) (show s.heap.IsList b gs.toArray from pg.isList) (x:=p) (y:=q) (by simpa using ep) (by simpa using eq) λh' k1 k2 k3 k4 k5 k6=>am ?_;refine⟨_,rfl,wpAny_letOwnedTupleGo_zip k1 λh2' e2 sb=>?_⟩;have up:∀c o,c∉[z,ti,to,u,v]->s.heap.get? c=some o->h2'.get? c=some o:=λc o hc e=>by
   simp only[bq,gI,or_false,not_or]at hc;exact sb.extBut _ _ hc.1 (k6 c o hc.1 hc.2.2.1 hc.2.2.2.1 hc.2.2.2.2 e)
  have nz:s.heap.objs.size≠z:=kr (lt z (by simp));obtain⟨I3,fr⟩:=aL.agQ (tk:=s.toks) I hf lt rp rq (sb.extBut _ _ nz k5) up;exact⟨.ref s.heap.objs.size,_,I3,rfl,⟨s.heap.objs.size,x,y,I.hok.fresh (al _),rfl,λzs hz=>by rw[I.El hz hxs];exact hx,λzs hz=>by rw[I.El hz hys];exact hy,rfl⟩,
   ⟨e2,sb.extBut _ _ D.q1 (k6 _ _ D.q1 D.q5 D.q6 D.q7 h2),⟨_,_,sb.extBut _ _ D.q2 k2⟩,k3.at λo e=>sb.extBut _ o D.q3 e,k4.at λo e=>sb.extBut _ o D.q4 e⟩,fr⟩
 done:=by
  intro X hP hw hK hc i ao s σ H E I hf st hg;subst hP hw hK;obtain⟨h1,h2,⟨m,n,h3⟩,h4,h5⟩:=st;obtain⟨xs,ys,hxs,hys,hx,hl⟩:=hg;obtain⟨fs,rf,pf,_⟩:=I.list hxs;obtain⟨gs,rg,pg,_⟩:=I.list hys;have cA:=rg.length;obtain⟨p,ep,rp⟩:=rf.get (ac hx);have hh:X.A.in1.handled=none:=by simp[I.ok.hd hc]
  have hT:s.TypeIs (.ref z) "zip":=⟨_,h1,rfl⟩
  unfold pyNext;refine ad (hV (g9 (name:=Str.ofString "__next__") hT kC (eB kC hT F.entry_zip_next ?_ (F.args_zip_next_1 _))));refine aat hh D h1 h2 h3 h4 h5 (show s.heap.IsList a fs.toArray from pf.isList) (show s.heap.IsList b gs.toArray from pg.isList) (x:=p) (by simpa using ep) (by simp;lia) λh' e k zz=>?_;obtain⟨o,e1,e2⟩:=zz;refine ad (ka (T:="StopIteration") (b:=true) ⟨o,e1,e2⟩ isSubtype_stop ?_);refine am ⟨rfl,aL.RZ (fp:=[z,ti,to,u,v]) (t':=s.toks) I (λc o hc e=>?_) hf⟩;simp only[bq,gI,or_false,not_or]at hc;exact k c o hc.1 hc.2.2.1 hc.2.2.2.1 hc.2.2.2.2 e
 self:=λA i s Q E st h=>wpAny_pyIter_zip st.1 h
section
variable {X:Cx}{elts:List Expr}{x1:Nat}{tp:Pos}
def agU (K:W.Frag)(ta:TA):TI:=λσ H R=>ta σ H λvs H1=>∃a b,vs=[.ref a,.ref b]/\(∃xs,aU K H1 a xs)/\(∃ys,aU K H1 b ys)/\R (N5 K a b) H1
theorem adb {a b:Expr}{ta:TA}{p pos:Pos}(hg:Gl X "zip")(hm:X.mg "zip"=none)(ha:QA X [a,b] ta)(hs:starEach [a,b] X.env=[(false,eval a X.env),(false,eval b X.env)]:=by rfl)(hs2:starEach [b] X.env=[(false,eval b X.env)]:=by rfl) :
  QI X (.Tuple elts x1 tp) (.Call (.Name "zip" p) [a,b] [] pos) (agU X.K ta):=⟨by
 intro ao s σ H R I h;refine Call_ (wZ I hg hm Xb (fR (bN (ha.out pos ao s σ H _ I h) λus s1 zz=>?_) (by rw[hs,hs2]) (by rw[hs2];rfl)));obtain⟨vs,H1,I1,r1,q1⟩:=zz;obtain⟨a,b,e,⟨xs,hxs⟩,⟨ys,hys⟩,q⟩:=q1;subst e;cases r1 with
 | cons r rr=>
  cases rr with
  | cons r' rr=>
   cases rr;cases r;cases r';obtain⟨fs,rf,pf,_⟩:=I1.list hxs;obtain⟨gs,rg,pg,_⟩:=I1.list hys;have la:a < s1.heap.objs.size:=by
    obtain⟨o,ho,_⟩:=(show s1.heap.IsList a fs.toArray from pf.isList)
    exact av ho
   have lb:b < s1.heap.objs.size:=by
    obtain⟨o,ho,_⟩:=(show s1.heap.IsList b gs.toArray from pg.isList)
    exact av ho
   refine ahv (show s1.heap.IsList a fs.toArray from pf.isList) (show s1.heap.IsList b gs.toArray from pg.isList) λh' k1 k2 k3 k4 k5 kk=>wpAny_pyIter_zip k1 ?_;have D:ZA (s1.heap.objs.size+4) (s1.heap.objs.size+2) (s1.heap.objs.size+3) s1.heap.objs.size (s1.heap.objs.size+1) a b:=by
    have key:∀N a b:Nat,a < N->b < N->ZA (N+4) (N+2) (N+3) N (N+1) a b:=λN a b la lb=>by constructor <;> (show (_:Nat)≠_) <;> lia
    exact key _ _ _ la lb
   refine⟨s1.heap.objs.size+4,[s1.heap.objs.size+4,s1.heap.objs.size+2,s1.heap.objs.size+3,s1.heap.objs.size,s1.heap.objs.size+1],_,_,H1,rfl,I1.kept (t':=s1.toks) kk,Xl D,⟨k1,k2,⟨_,_,k3⟩,k4,k5⟩,λc hc=>?_,q⟩;have hc':s1.heap.objs.size<=c:=by
    simp only[bq,gI,or_false]at hc;have key:∀N c:Nat,(c=N+4\/c=N+2\/c=N+3\/c=N\/c=N+1)->N<=c:=λN c h=>by lia
    exact key _ _ hc
   exact I1.Ij hc' (I1.hok.fresh hc')⟩
end
theorem afz {K:W.Frag}{a b:Addr}{xs ys:List V}{D:Addr}{f:St->St}{KT:W.Frag}{tt:TT}{te:TE}{σ:St}{H:Hp}{R:Hp->Prop}(cA:xs.length=ys.length+1)(Pv:Nat->List V->Hp->Prop)(h0:Pv 0 [] (upd H D (.lst [])))
  (hl:∀i zs H,i<=ys.length->Pv i zs H->aU K H a xs/\aU K H b ys)
  (hs:∀i x y zs H T,xs[i]?=some x->ys[i]?=some y->Pv i zs H->H T=none->qK ys.length i D (λv H Q=>∃a p q,v=.ref a/\aM KT H a [p,q]/\Q [some p,some q]) f σ tt te (.ref T) (upd H T (.tup [x,y])) zs (Pv (i+1)))
  (hd:∀zs H,Pv ys.length zs H->R H) :
  ∃W:Nat->Nat->List V->Hp->Prop,(∃m,W 0 m [] (upd H D (.lst [])))/\
   ∀i m zs H,W i m zs H->((N5 K a b).stop i H/\R H)\/((N5 K a b).go i H/\∀x H',(N5 K a b).pO i H x H'->∃a p q,x=.ref a/\aM KT H' a [p,q]/\(tt ([some p,some q]++f σ) H' λb H2=>
    if b=true then te ([some p,some q]++f σ) H2 λy H3=>H3 D=some (.lst zs)/\zs.length < sizeLine/\∃m',m' < m/\W (i+1) m' (zs++[y]) (upd H3 D (.lst (zs++[y])))
    else ∃m',m' < m/\W (i+1) m' zs H2)):=by
 refine⟨λi m zs H=>m=ys.length-i/\i<=ys.length/\Pv i zs H,⟨ys.length,by simp,b8 _,h0⟩,?_⟩;rintro i m zs H ⟨rfl,hi,p⟩;obtain⟨q1,q2⟩:=hl i zs H hi p;by_cases hlt:i < ys.length
 ·refine .inr ⟨⟨xs,ys,xs[i],ys[i],q1,q2,by simp[show i < xs.length by lia],by simp[hlt]⟩,λt H' y=>?_⟩
  obtain⟨T,x,y,hT,rfl,hx,hy,rfl⟩:=y;exact hs i x y zs H T (hx xs q1) (hy ys q2) p hT
 ·have e:i=ys.length:=by lia
  subst e;exact .inl ⟨⟨xs,ys,q1,q2,by lia,al _⟩,hd zs H p⟩
section
variable {prog:Program}{w:World}{A:Around}{E:AB}{s:Shared}
variable {X:Cx}
theorem ade {a b:Addr}{oa ob:Obj}{na nb:Nat}{x1 y1:Nat}{t1 t2 t3 t4:Tok}{Q:AB}
  (ha:s.heap.get? a=some oa) (ca:oa.cls=.type "tuple") (da:oa.data=.seq [Value.int x1 t1,Value.int y1 t2].toArray na)
  (hb:s.heap.get? b=some ob) (cb:ob.cls=.type "tuple") (db:ob.data=.seq [Value.int x1 t3,Value.int y1 t4].toArray nb) (hu:A.units < cLine)
  (q:Q (.bool false) s):wpAny (model prog w) A (compareOp .Lt (.ref a) (.ref b)) Q E s:=by
 have Ta:s.TypeIs (.ref a) "tuple":=⟨oa,ha,ca⟩
 have Tb:s.TypeIs (.ref b) "tuple":=⟨ob,hb,cb⟩
 show wpAny _ _ (richCompare .Lt (.ref a) (.ref b)) Q E s;refine wpAny_richCompare_same_room (op:=.Lt) (T:="tuple") Ta Tb kz (eB kz Ta F.entry_tuple_lt ?_ (F.args_tuple_lt_2 _ _)) hu;show wpAny _ _ (isInstance (.ref b) (.type "tuple") >>= _) _ _ s;refine ad (ka Tb isSubtype_tuple_tuple ?_);simp only[iE,cn,if_false];refine ad (iS ha da (ad (iS hb db (ad ?_))));rw[show [Value.int (x1:Int) t1,Value.int (y1:Int) t2].toArray.toList.zip [Value.int (x1:Int) t3,Value.int (y1:Int) t4].toArray.toList=[(Value.int (x1:Int) t1,Value.int (x1:Int) t3),(Value.int (y1:Int) t2,Value.int (y1:Int) t4)] from rfl];rw[fw];refine ad ?_;dsimp only;refine ad (fm _ _ _ _ prog w _ _ ?_);simp only[beq_self_eq_true,iE,cn,if_false];refine am ?_;dsimp only;rw[fw];refine ad ?_;dsimp only;refine ad (fm _ _ _ _ prog w _ _ ?_);simp only[beq_self_eq_true,iE,cn,if_false];refine am ?_;dsimp only;rw[ml];refine am ?_;dsimp only;exact am ⟨_,rfl,by show Builtin.Tuple.tupleCompareSizes CmpOp.Lt 2 2≠_;decide,q⟩
def ahw:R2:=λx y H Q=>∃(a b:Addr) (x1 y1 x2 y2:Nat),x=.ref a/\y=.ref b/\H a=some (.tup [.int x1,.int y1])/\H b=some (.tup [.int x2,.int y2])/\y1 < 1000/\y2 < 1000/\
 Q (.bl (decide (x1*1000+y1 < x2*1000+y2))) H
theorem afA (hu:X.A.units < cLine):fj X (compareOp .Lt) ahw:=by
 intro ao s σ H x y v u Q I rx ry h;obtain⟨a,b,x1,y1,x2,y2,rfl,rfl,ea,eb,l1,l2,q⟩:=h;by_cases hne:x1*1000+y1=x2*1000+y2
 ·have e1:x1=x2:=by lia
  have e2:y1=y2:=by lia
  subst e1 e2;rw[ae (du _)]at q;cases rx;cases ry;obtain⟨_,tv,NK,o,ho,hc,n,hd⟩:=I.hok _ _ ea;obtain⟨_,tv',aam,o',ho',hc',n',hd'⟩:=I.hok _ _ eb;cases NK with
  | cons q1 rr=>
   cases rr with
   | cons q2 rr=>
    cases rr;cases aam with
    | cons q3 rr'=>
     cases rr' with
     | cons q4 rr'=>
      cases rr';obtain⟨t1,rfl⟩:=q1;obtain⟨t2,rfl⟩:=q2;obtain⟨t3,rfl⟩:=q3;obtain⟨t4,rfl⟩:=q4;exact ade ho hc hd ho' hc' hd' hu ⟨.bl _,H,I,rfl,q⟩
 ·exact afr hu ao s σ H _ _ _ _ Q I rx ry ⟨a,b,x1,y1,x2,y2,[],[],rfl,rfl,ea,eb,l1,l2,hne,q⟩
end
def adf (K:W.Frag):List V->Hp->VK->Prop:=λxs H Q=>∃(a C tp:Addr) (Ds:List Addr) (dd:Option Addr) (b:Bool),xs=[.ref a,.ref tp]/\H a=some (.ext (rP a (.ref C) dd))/\jT H dd/\qL K C/\H tp=some (.tup (Ds.map V.ref))/\kitAny K (.ref C) (Ds.map Value.ref)=some b/\Q (.bl b) H
theorem GR:∀{Ds:List Addr} {us:List Value},Vals (Ds.map V.ref) us->us=Ds.map Value.ref
 | [],_,.nil=>rfl
 | _::_,_,.cons r rr=>by cases r;rw[GR rr];rfl
section
variable {P:Program}{wd:World}{Ar:Around}{Ex:AB}
variable {X:Cx}{pos:Pos}
variable {o:Expr}
theorem Lp (hc:True:=True.intro):gb X (.builtin "isinstance") (adf X.K):=by
 intro ao s σ H xs us Q I r h;obtain⟨a,C,tp,Ds,dd,b,rfl,ha,hd,T,ht,k,q⟩:=h;obtain⟨u1,w',rfl,r1,r2⟩:=vals2 r;obtain rfl:u1=Value.ref a:=r1;obtain rfl:w'=Value.ref tp:=r2;obtain⟨⟨oe,vs,e1,e2,e3,e4,_⟩,_,_⟩:=(show dH X.prog X.w H s.heap a (.ext (rP a (.ref C) dd)) from I.hok a _ ha)
 have hI:∃ox odo,InstAt s.heap a ox C odo:=by
  cases dd with
  | none=>exact⟨oe,none,e1,e2,by unfold notCls;rw[e4],by rw[e3];trivial⟩
  | some d=>
   obtain⟨o1,hfs⟩:=hd;obtain⟨o,ho⟩:=(I.hok d _ hfs).there;exact⟨oe,some o,e1,e2,by unfold notCls;rw[e4],by rw[e3];exact ho⟩
 obtain⟨_,tv,NK,⟨oc,od,odt,osl⟩,ho,hc,n,hdt⟩:=I.hok _ _ ht;obtain rfl:=GR NK;cases hc;cases hdt;exact kia_tup (NQ T) I.gk hI ho k (λz=>nomatch z) λtk=>⟨.bl b,H,I.tok tk,rfl,q⟩
open Classical in
def ab4 (K:W.Frag)(neg:Bool):R2:=λx y H Q=>∃n d es,n<=60/\jR K H n d x/\jR K H n (.lst es) y/\Q (.bl (if neg then !decide (d∈es) else decide (d∈es))) H
theorem R5 (hu:X.A.units+64 < cLine):fj X (compareOp .In) (ab4 X.K false):=by
 intro ao s σ H x y v u Q I rx ry h;obtain⟨n,d,es,hn,hd,he,q⟩:=h;obtain⟨as,ra⟩:=hd.reads I rx;obtain⟨bs,rb⟩:=he.reads I ry;have l1:=hd.lay;have l2:=he.lay;rw[toP]at rb;simp only[toP,PyData.canLay0,PyData.depth]at l2;refine SeqAt.in_list_reads rb ra l2.1 l1.1 (by have:=lL (PyData.depthAll (jB es)) (toP d).depth;lia) ⟨.bl _,H,I,rfl,?_⟩;rw[Iu];exact q
theorem Uq (hu:X.A.units+64 < cLine):fj X (compareOp .NotIn) (ab4 X.K true):=by
 intro ao s σ H x y v u Q I rx ry h;obtain⟨n,d,es,hn,hd,he,q⟩:=h;obtain⟨as,ra⟩:=hd.reads I rx;obtain⟨bs,rb⟩:=he.reads I ry;have l1:=hd.lay;have l2:=he.lay;rw[toP]at rb;simp only[toP,PyData.canLay0,PyData.depth]at l2;refine SeqAt.notIn_list_reads rb ra l2.1 l1.1 (by have:=lL (PyData.depthAll (jB es)) (toP d).depth;lia) ⟨.bl _,H,I,rfl,?_⟩;rw[Iu];exact q
theorem Ks (hc:X.calm=true):gb X (.builtin "min") (λxs H Q=>∃(p:Addr) (ns:List Int),xs=[.ref p]/\aU X.K H p (ns.map V.int)/\0 < ns.length/\∀m∈ns,(∀x∈ns,m<=x)->Q (.int m) H):=by
 intro ao s σ H xs us Q I r h;obtain⟨p,ns,rfl,hq,h0,q⟩:=h;obtain⟨u,rfl,ru⟩:=vals1 r;cases ru;obtain⟨its,rv,pl,hz⟩:=I.list hq;have cA:=rv.length;rw[aa]at cA;have hne:p≠s.heap.objs.size:=by
  obtain⟨o,ho,_⟩:=pl.isList;exact a8 (av ho)
 have hb:∀(i:Nat) (v:Value),its.toArray[i]?=some v->∃t,v=.int (ns.getD i 0) t:=λi v hv=>by
  have hv:its[i]?=some v:=by simpa using hv
  have hi:i < ns.length:=by have:=(af.mp hv).1;lia
  obtain⟨u,hu,ru⟩:=rv.get (i:=i) (x:=.int ns[i]) (by simp[hi]);rw[hv]at hu;cases hu;obtain⟨t,e⟩:=ru;exact⟨t,by rw[e];simp[List.getD,hi]⟩
 refine call_min_walk (eP pl.isList ?_);refine⟨s.heap.objs.size,_,_,_,_,_,_,rfl,Walks.list (A:=X.A.in1) (I.ok.hd hc) s.heap.objs.size p hne its.toArray,⟨⟨_,aT _ rfl,rfl,rfl⟩,pl.isList.at λo e=>ag _ e⟩,?_,by simp;lia,CmpOf.ints_lt (λi=>ns.getD i 0) hb,λv h' tk hP kk=>?_⟩
 ·intro b hb
  have:b=s.heap.objs.size\/b=p:=by simpa using hb
  rw[cS];rcases this with e | e
  ·rw[e];exact fF _
  ·rw[e]
   obtain⟨o,ho,_⟩:=pl.isList;exact d9 (av ho)
 ·have I1:aL X ao σ H { s with heap:=h',toks:=tk }:=I.kept λb o e=>kk b o (by
   intro hm;have:b=s.heap.objs.size:=by simpa using hm
   subst this;exact absurd (av e) (du _)) (ag _ e)
  obtain⟨k1,k2⟩:=argBest_lt (λi=>ns.getD i 0) (its.toArray.size-1);have hsz:its.toArray.size=ns.length:=by simp[cA]
  obtain⟨t,e⟩:=hb _ v hP;generalize argBest _ _=j at k1 k2 e;have hj:j < ns.length:=by lia
  refine⟨.int (ns.getD j 0),H,I1,⟨t,e⟩,q _ (by simp[List.getD,hj]) λx hx=>?_⟩;obtain⟨i,hi,rfl⟩:=dm.mp hx;have:=k2 i (by lia);simpa [List.getD,hi] using this
theorem Ku (hc:X.calm=true):gb X (.builtin "max") (λxs H Q=>∃(p:Addr) (ns:List Int),xs=[.ref p]/\aU X.K H p (ns.map V.int)/\0 < ns.length/\∀m∈ns,(∀x∈ns,m>=x)->Q (.int m) H):=by
 intro ao s σ H xs us Q I r h;obtain⟨p,ns,rfl,hq,h0,q⟩:=h;obtain⟨u,rfl,ru⟩:=vals1 r;cases ru;obtain⟨its,rv,pl,hz⟩:=I.list hq;have cA:=rv.length;rw[aa]at cA;have hne:p≠s.heap.objs.size:=by
  obtain⟨o,ho,_⟩:=pl.isList;exact a8 (av ho)
 have hb:∀(i:Nat) (v:Value),its.toArray[i]?=some v->∃t,v=.int (ns.getD i 0) t:=λi v hv=>by
  have hv:its[i]?=some v:=by simpa using hv
  have hi:i < ns.length:=by have:=(af.mp hv).1;lia
  obtain⟨u,hu,ru⟩:=rv.get (i:=i) (x:=.int ns[i]) (by simp[hi]);rw[hv]at hu;cases hu;obtain⟨t,e⟩:=ru;exact⟨t,by rw[e];simp[List.getD,hi]⟩
 refine call_max_walk (eP pl.isList ?_);refine⟨s.heap.objs.size,_,_,_,_,_,_,rfl,Walks.list (A:=X.A.in1) (I.ok.hd hc) s.heap.objs.size p hne its.toArray,⟨⟨_,aT _ rfl,rfl,rfl⟩,pl.isList.at λo e=>ag _ e⟩,?_,by simp;lia,CmpOf.ints_gt (λi=>ns.getD i 0) hb,λv h' tk hP kk=>?_⟩
 ·intro b hb
  have:b=s.heap.objs.size\/b=p:=by simpa using hb
  rw[cS];rcases this with e | e
  ·rw[e];exact fF _
  ·rw[e]
   obtain⟨o,ho,_⟩:=pl.isList;exact d9 (av ho)
 ·have I1:aL X ao σ H { s with heap:=h',toks:=tk }:=I.kept λb o e=>kk b o (by
   intro hm;have:b=s.heap.objs.size:=by simpa using hm
   subst this;exact absurd (av e) (du _)) (ag _ e)
  obtain⟨k1,k2⟩:=argBest_gt (λi=>ns.getD i 0) (its.toArray.size-1);have hsz:its.toArray.size=ns.length:=by simp[cA]
  obtain⟨t,e⟩:=hb _ v hP;generalize argBest _ _=j at k1 k2 e;have hj:j < ns.length:=by lia
  refine⟨.int (ns.getD j 0),H,I1,⟨t,e⟩,q _ (by simp[List.getD,hj]) λx hx=>?_⟩;obtain⟨i,hi,rfl⟩:=dm.mp hx;have:=k2 i (by lia);simpa [List.getD,hi] using this
theorem ab5 {j g:Addr}{arr:Array Value}(ngj:g≠j):∀(k p:Nat) (st:Shared) (R:List Value->Shared->Prop),st.heap.IsListIter j g p->st.heap.IsList g arr->p+k<=arr.size->
  (∀hp,hp.IsListIter j g (p+k)->Heap.SameBut j st.heap hp->R ((arr.toList.drop p).take k) { st with heap:=hp })->wpAny (model P wd) Ar (draw (.ref j) k) R Ex st
 | 0,p,st,R,ij,_,_,q=>am (show R [] st from (by simpa using q st.heap ij (Heap.SameBut.refl ..)))
 | k+1,p,st,R,ij,lg,le,q=>by
  have plt:p < arr.size:=by lia
  show wpAny _ _ (pyNext (.ref j) >>= _) R Ex st;refine ad (wpAny_pyNext_list_item ij lg (x:=arr[p]) (by simp[plt]) λh1 i1 b1=>ad (cK (ab5 ngj k (p+1) _ _ i1 (lg.extBut b1.extBut ngj) (by lia) λh2 i2 b2=>am ?_)));have z:=q h2 (by rw[show p+(k+1)=p+1+k by lia];exact i2) (b1.trans b2);rw[show arr.toList.drop p=arr[p]::arr.toList.drop (p+1) by simp[fv,plt],List.take_succ_cons]at z;exact z
theorem afB {st:Shared}{g:Addr}{arr:Array Value}{R:List Value->Shared->Prop}(nh:Ar.handled=none)(lg:st.heap.IsList g arr)
  (q:∀hp,Heap.ExtBut st.heap.objs.size st.heap hp->R arr.toList { st with heap:=hp }):wpAny (model P wd) Ar (unpackItems (.ref g) arr.size none) R Ex st:=by
 have ng:g≠st.heap.objs.size:=let ⟨_,e,_⟩:=lg;a8 (av e);have full:(arr.toList.drop 0).take arr.size=arr.toList:=by rw[gu];exact be (by simp)
 unfold unpackItems notIterableAtAll;refine ad (ad (wpAny_specialOf lg.typeIs slot_list_iter.lookup (am ?_)));simp only[cn,if_false];refine ad (cK (eP lg (ad (cK (ab5 ng arr.size 0 _ _ ⟨_,aT _ rfl,rfl,rfl⟩ (lg.push _) (by lia) λh1 i1 b1=>?_)))));rw[full,if_neg (by simp)];refine ad (cK (wpAny_pyNext_list_end nh i1 ((lg.push _).extBut b1.extBut ng) (by simp) λh2 e2=>?_));simp only[Option.isSome_none,cn,if_false];exact am (q h2 λb o nb e=>e2 b o nb (b1.extBut b o nb (ag _ e)))
def ahx (K:W.Frag)(n:Nat)(t:zW):TG:=λv σ H Q=>∃a xs,v=.ref a/\aU K H a xs/\xs.length=n/\t xs σ H Q
theorem afC {es:List Expr}{k:Nat}{t:zW}{n:Nat}(hc:X.calm=true)(h:WY X es t)(hn:(assignEach es X.env).length=n:=by rfl)(hst:(assignEach es X.env).findIdx? (·.1)=none:=by rfl):QG X (.Tuple es k pos) (ahx X.K n t):=⟨by
 intro ao s σ H v u Q I r hw;obtain⟨a,xs,rfl,hq,hl,hw⟩:=hw;cases r;obtain⟨its,rv,pl,_⟩:=I.list hq;have cA:=rv.length;rw[arm_assign_Tuple];refine ad (iA ?_);unfold unpack;rw[show (assignEach es X.env).length=its.toArray.size by simp[hn,<- hl,cA],hst];refine ad (cK (afB (I.ok.hd hc) pl.isList λh' hx=>?_));have I1:aL X ao σ H { s with heap:=h' }:=I.kept (t':=s.toks) λb o e=>hx b o (a8 (av e)) e;exact h.out ao _ σ H xs _ Q I1 (by simpa using rv) hw⟩
structure KDict (P:Program)(w:World)(K:W.Frag)(a:Addr)(kvs:List (Key × V)):Prop where
 z:(a==sysModules)=false
 ex:∃o vs,K.lookup a=some o/\KV kvs vs/\o.IsDictOf (gQ P w) vs
def R6:R2:=λx y H Q=>∃c l,x=.str (S [c])/\y=.str (S l)/\Q (.bl (!decide (c∈l))) H
theorem Xm:fj X (compareOp .NotIn) R6:=by
 intro ao s σ H x y v u Q I rx ry h;obtain⟨c,l,rfl,rfl,q⟩:=h;exact Nb ao s σ H _ _ v u Q I rx ry ⟨S [c],S l,rfl,rfl,by
  have e:=StrLaws.found_one (S l) c;rw[abY]at e;rw[show (S [c])=(⟨#[c]⟩:Str) from rfl,e];exact q⟩
end
end L2
namespace L2
open PySem
theorem eS {n:Nat}{P:List Value->Prop}(h:∀a us,us.length=n->P (a::us)):∀us,us.length=n+1->P us
 | a::us,e=>h a us (Nat.succ.inj e)
@[elab_as_elim] theorem e1 {P:List Value->Prop} (h:∀a,P [a]) (us:List Value) (hl:us.length=1):P us:=eS (λa us e=>(by rw[ie e];exact h a)) us hl
@[elab_as_elim] theorem e2 {P:List Value->Prop} (h:∀a b,P [a,b]) (us:List Value) (hl:us.length=2):P us:=eS (λa us e=>e1 (P:=λr=>P (a::r)) (h a) us e) us hl
@[elab_as_elim] theorem e3 {P:List Value->Prop} (h:∀a b c,P [a,b,c]) (us:List Value) (hl:us.length=3):P us:=eS (λa us e=>e2 (P:=λr=>P (a::r)) (h a) us e) us hl
@[elab_as_elim] theorem e4 {P:List Value->Prop} (h:∀a b c d,P [a,b,c,d]) (us:List Value) (hl:us.length=4):P us:=eS (λa us e=>e3 (P:=λr=>P (a::r)) (h a) us e) us hl
@[elab_as_elim] theorem e5 {P:List Value->Prop} (h:∀a b c d e,P [a,b,c,d,e]) (us:List Value) (hl:us.length=5):P us:=eS (λa us e=>e4 (P:=λr=>P (a::r)) (h a) us e) us hl
end L2
namespace My
open PySem L2
def top (i:Nat):Stmt:=PySem.Challenge.pw_letterrack_k25_whole_the_first_rule.main.body.getD i (.Pass ⟨0,0,0,0⟩)
abbrev iC:Stmt:=inClass (top 5) 0
theorem Iz:bh ["self","word"] ["self","word"] (aJ iC):={}
abbrev jd:Stmt:=inClass (top 8) 0
theorem Lq:bh ["self","row","column"] ["self","row","column"] (aJ jd):={}
abbrev j_:Stmt:=inClass (top 10) 0
theorem QZ:bh ["self","row","column"] ["self","row","column"] (aJ j_):={}
abbrev gR:Stmt:=inClass (top 12) 0
theorem GX:bh ["self","tile"] ["self","tile"] (aJ gR):={}
abbrev tu:Stmt:=top 19
theorem Q0:bh ["thing"] ["thing"] (aJ tu):={}
abbrev u_:Stmt:=top 20
theorem Ur:bh ["thing"] ["thing"] (aJ u_):={}
abbrev qM:Stmt:=top 21
theorem N6:bh ["sign"] ["sign"] (aJ qM):={}
abbrev vf:Stmt:=top 22
theorem Us:bh ["sign"] ["sign"] (aJ vf):={}
abbrev vg:Stmt:=top 23
theorem tD:bh ["rack","signs","tiles","sign","tile"] ["rack","signs"] (aJ vg):={}
abbrev tE:Stmt:=top 28
theorem qN:bh ["thing","width"] ["thing"] (aJ tE):={}
abbrev tG:Stmt:=top 29
theorem DY:bh ["thing"] ["thing"] (aJ tG):={}
abbrev qO:Stmt:=top 30
theorem Aq:bh ["thing"] ["thing"] (aJ qO):={}
abbrev lW:Stmt:=top 31
theorem zX:bh ["rows","row","column"] ["rows","row","column"] (aJ lW):={}
abbrev nP:Stmt:=top 32
theorem IK:bh ["rows","thing"] ["rows","thing"] (aJ nP):={}
abbrev tH:Stmt:=top 33
theorem Q5:bh ["rows","marks","begin"] ["rows","marks","begin"] (aJ tH):={}
abbrev nQ:Stmt:=top 34
theorem xH:bh ["rows","column"] ["rows","column"] (aJ nQ):={}
abbrev je:Stmt:=inClass (top 35) 0
theorem Lr:bh ["self","rows","marks","begin"] ["self","rows","marks","begin"] (aJ je):={}
abbrev kh:Stmt:=inClass (top 35) 1
theorem Q6:bh ["self","row","column"] ["self","row","column"] (aJ kh):={}
abbrev gw:Stmt:=inClass (top 35) 2
theorem uI:bh ["self"] ["self"] (aJ gw):={}
abbrev jC:Stmt:=inClass (top 35) 3
theorem jU:bh ["self","row","column","way","line","place","ahead","signs","first"] ["self","row","column","way"] (aJ jC):={}
abbrev jf:Stmt:=inClass (top 35) 5
theorem jl:bh ["self","laying","lines","row","column","sign"] ["self","laying"] (aJ jf):={}
abbrev qP:Stmt:=top 38
theorem N7:bh ["board","thing"] ["board","thing"] (aJ qP):={}
abbrev qQ:Stmt:=top 39
theorem uJ:bh ["board","thing","cells"] ["board","thing"] (aJ qQ):={}
abbrev tK:Stmt:=top 40
theorem Q7:bh ["laying"] ["laying"] (aJ tK):={}
abbrev qR:Stmt:=top 41
theorem N8:bh ["laying"] ["laying"] (aJ qR):={}
abbrev vh:Stmt:=top 42
theorem Ut:bh ["laying"] ["laying"] (aJ vh):={}
abbrev ju:Stmt:=top 43
theorem lH:bh ["board","row","column","around"] ["board","row","column"] (aJ ju):={}
abbrev yt:Stmt:=top 44
theorem jw:bh ["board","laying","after","way","asked","row","column","words","along","run"] ["board","laying"] (aJ yt):={}
abbrev o7:Stmt:=top 45
theorem nR:bh ["board","laying","row","column","sign"] ["board","laying"] (aJ o7):={}
abbrev kj:Stmt:=top 46
theorem DQ:bh ["laying"] ["laying"] (aJ kj):={}
abbrev o8:Stmt:=top 47
theorem nU:bh ["board","laying","after","row","column"] ["board","laying"] (aJ o8):={}
abbrev mO:Stmt:=top 48
theorem o9:bh ["board","laying","joined"] ["board","laying"] (aJ mO):={}
abbrev nW:Stmt:=top 49
theorem gU:bh ["board","book","laying","words","row","column","way","signs","word"] ["board","book","laying"] (aJ nW):={}
abbrev mQ:Stmt:=top 50
theorem GZ:bh ["board","book","rack","laying"] ["board","book","rack","laying"] (aJ mQ):={}
abbrev vm:Stmt:=top 52
theorem G3:bh ["text"] ["text"] (aJ vm):={}
abbrev o_:Stmt:=top 53
theorem Ls:bh ["text"] ["text"] (aJ o_):={}
abbrev jD:Stmt:=inClass (top 54) 0
theorem Av:bh ["self","words","word"] ["self","words"] (aJ jD):={}
abbrev jg:Stmt:=inClass (top 54) 1
theorem Lx:bh ["self"] ["self"] (aJ jg):={}
abbrev kE:Stmt:=inClass (top 54) 2
theorem Q8:bh ["self","text"] ["self","text"] (aJ kE):={}
abbrev vo:Stmt:=top 56
theorem Uu:bh ["_law_script","_law_k"] ["_law_script","_law_k"] (aJ vo):={}
abbrev G4:Stmt:=top 57
theorem R7:bh ["_law_rest_here","_law_base","_law_digit"] ["_law_rest_here","_law_base"] (aJ G4):={}
abbrev G5:Stmt:=top 58
theorem qw:bh ["_law_cell","_law_number","_law_found","_law_k"] ["_law_cell"] (aJ G5):={}
abbrev vp:Stmt:=top 59
theorem mU:bh ["_law_rest_here","_law_every","_law_found","_law_k","_law_left"] ["_law_rest_here"] (aJ vp):={}
abbrev G6:Stmt:=top 60
theorem R8:bh ["_law_rest_here","_law_letters_here","_law_great","_law_letter"] ["_law_rest_here","_law_letters_here","_law_great"] (aJ G6):={}
abbrev G7:Stmt:=top 61
theorem h_:bh ["_law_rest_here","_law_letters_here","_law_most","_law_size","_law_tall","_law_wide","_law_full","_law_rows_here","_law_row","_law_text","_law_column","_law_free","_law_line","_law_spot"] ["_law_rest_here","_law_letters_here","_law_most"] (aJ G7):={}
abbrev Dh:Stmt:=top 62
theorem yu:bh ["_law_rest_here","_law_rows_here","_law_found","_law_row"] ["_law_rest_here","_law_rows_here"] (aJ Dh):={}
abbrev Di:Stmt:=top 63
theorem N_:bh ["_law_rest_here","_law_rows_here","_law_spot"] ["_law_rest_here","_law_rows_here"] (aJ Di):={}
abbrev G8:Stmt:=top 64
theorem xJ:bh ["_law_rows_here","_law_laying","_law_grid_here","_law_row","_law_column","_law_sign_here"] ["_law_rows_here","_law_laying"] (aJ G8):={}
abbrev Mt:Stmt:=top 65
theorem uK:bh ["_law_grid_here","_law_row","_law_column","_law_way","_law_signs","_law_here"] ["_law_grid_here","_law_row","_law_column","_law_way"] (aJ Mt):={}
abbrev Dj:Stmt:=top 66
theorem n8:bh ["_law_rows_here","_law_laying","_law_grid_here","_law_line","_law_runs","_law_row","_law_column","_law_sign_here"] ["_law_rows_here","_law_laying"] (aJ Dj):={}
abbrev vq:Stmt:=top 67
theorem G9:bh ["_law_rows_here","_law_row","_law_column","_law_there"] ["_law_rows_here","_law_row","_law_column"] (aJ vq):={}
abbrev yw:Stmt:=top 68
theorem rE:bh ["_law_rows_here","_law_rest_here","_law_free","_law_near","_law_row","_law_column"] ["_law_rows_here","_law_rest_here"] (aJ yw):={}
abbrev tL:Stmt:=top 69
theorem fU:bh ["_law_rows_here","_law_rest_here","_law_letters_here","_law_way","_law_many","_law_row","_law_column","_law_found","_law_blanks","_law_sign_here"] ["_law_rows_here","_law_rest_here","_law_letters_here"] (aJ tL):={}
abbrev yx:Stmt:=top 70
theorem Xn:bh ["_law_rows_here","_law_begin_here","_law_cells"] ["_law_rows_here","_law_begin_here","_law_cells"] (aJ yx):={}
abbrev qT:Stmt:=top 71
theorem jV:bh ["_law_rows_here","_law_begin_here","_law_laying","_law_cells","_law_row","_law_column"] ["_law_rows_here","_law_begin_here","_law_laying"] (aJ qT):={}
abbrev vA:Stmt:=top 72
theorem kI:bh ["_law_rack_here","_law_laying","_law_left","_law_row","_law_column","_law_sign_here","_law_tile"] ["_law_rack_here","_law_laying"] (aJ vA):={}
abbrev vB:Stmt:=top 73
theorem mV:bh ["_law_rows_here","_law_laying","_law_words_here","_law_formed_words","_law_row","_law_column","_law_way","_law_signs"] ["_law_rows_here","_law_laying","_law_words_here"] (aJ vB):={}
abbrev Dk:Stmt:=top 74
theorem yC:bh ["_law_error","_law_some"] ["_law_error"] (aJ Dk):={}
abbrev yD:Stmt:=top 75
theorem rF:bh ["_law_board","_law_book","_law_rack_here","_law_laying","_law_caught_here","e"] ["_law_board","_law_book","_law_rack_here","_law_laying"] (aJ yD):={}
abbrev G_:Stmt:=top 76
theorem lF:bh ["_law_laying","_law_rest_here","_law_rows_here","_law_some","_law_bend","_law_at","_law_spot","_law_found","_law_row","_law_column","_law_sign_here"] ["_law_laying","_law_rest_here","_law_rows_here"] (aJ G_):={}
abbrev Hf:Stmt:=top 77
theorem ig:bh ["_law_laying","_law_rest_here","_law_letters_here","_law_tiles","_law_row","_law_column","_law_sign_here","_law_turn","_law_some","_law_found","_law_tile","_law_more"] ["_law_laying","_law_rest_here","_law_letters_here"] (aJ Hf):={}
abbrev Dl:Stmt:=top 78
theorem n_:bh ["_law_rows_here","_law_laying","_law_rest_here","_law_letters_here","_law_words_here","_law_row","_law_column","_law_way","_law_signs","_law_k"] ["_law_rows_here","_law_laying","_law_rest_here","_law_letters_here"] (aJ Dl):={}
abbrev Mu:Stmt:=top 79
theorem Xo:bh ["_law_rows_here","_law_begin_here","_law_laying","_law_rack_here","_law_words_here","_law_due_here"] ["_law_rows_here","_law_begin_here","_law_laying","_law_rack_here","_law_words_here"] (aJ Mu):={}
abbrev Dm:Stmt:=top 80
theorem aau:bh ["_law_caught_here","_law_due_here"] ["_law_caught_here","_law_due_here"] (aJ Dm):={}
abbrev Mv:Stmt:=top 81
theorem iG:bh ["_law_script","_law_letters_here","_law_rows_here","_law_rest_here","_law_begin_here","_law_board","_law_cell","_law_laying","_law_rack_here","_law_words_here","_law_book","_law_kept","_law_due_here","_law_turn"] ["_law_script"] (aJ Mv):={}
section
variable {P:Program}{w:World}{K:W.Frag}{mg:Str->Option Value}{base:Heap}
def D_ (c:Nat):Bool:=decide (97<=c)&&decide (c<=122)
def Hg (c:Nat):Bool:=decide (65<=c)&&decide (c<=90)
def Ea (l:List Nat):Bool:=match l with | [c]=>D_ c||Hg c | _=>false
theorem lt1 (a b:Nat):([a] < [b])↔a < b:=by simp[iq]
theorem Uv (a b:Nat):(!decide ([a] < [b]))=decide (b<=a):=by
 by_cases h:a < b
 ·rw[ah ((lt1 a b).mpr h),ae (by lia)];rfl
 ·rw[ae (λz=>h ((lt1 a b).mp z)),ah (by lia)];rfl
def ab6 (K:W.Frag)(H:Hp)(x:V):Prop:=∃t,jO K H x t/\W.kitOne K t (.type "str")=some false
def Oa (K:W.Frag):Sp:=λvs H Q _=>(∃x,vs=[x]/\ab6 K H x/\Q (.bl false) H)\/(∃l,vs=[.str (S l)]/\l.length<=1000/\Q (.bl (Ea l)) H)
theorem Uw (D:aK K mg "is_sign" u_ ["thing"])(cA:mg "len"=none)(hstr:mg "str"=none)(ahy:mg "isinstance"=none):bO P w K mg base "is_sign" 1 ["thing"] (Oa K):=by
 refine D.dz Ur (λvs H Q E h=>?_) (λf bL A outer s H vs Q E hr h=>?_)
 ·rcases h with⟨x,rfl,_⟩ | ⟨x,rfl,_⟩ <;> rfl
 ·refine⟨_,aD (bW (QW.qt (j7 (eO (dj (aO iM (by rfl) ahy bn (aj (qv 0) (aj (mJ (v:=.ty "str") (by rfl) hstr PyProof.Rows.boot_str rfl) aq)))))
     (jc (bw oV (aO cJ (by rfl) cA aI (aj (qv 0) aq)) aB (aZ _))))) (aF (aY iI)) bC)
   (aF (aY (T_ (j6 rC rC (bZ [97] (by decide +kernel)) (qv 0) (bZ [122] (by decide +kernel)))
    (jP (j6 rC rC (bZ [65] (by decide +kernel)) (qv 0) (bZ [90] (by decide +kernel))))))),?_⟩
  rcases h with⟨x,rfl,⟨t,ty,hk⟩,q⟩ | ⟨l,rfl,hl,q⟩
  ·exact⟨_,rfl,_,_,_,false,rfl,ty,hk,_,rfl,bI (bI q)⟩
  ·have hz:l.length<=sizeLine:=aE (aH (by lia))
   refine⟨_,rfl,_,_,_,true,rfl,.str _,(by kernel_rfl),_,rfl,aX ⟨_,rfl,l,rfl,hz,rfl,_,rfl,?_⟩⟩;by_cases h1:l.length=1
   ·obtain⟨c,rfl⟩:=List.length_eq_one_iff.mp h1
    refine oY rfl ?_;refine⟨_,rfl,[97],[c],rfl,rfl,decide (97<=c),by rw[Uv],?_⟩;have q':Q (.bl (D_ c||Hg c)) H:=q;have tail:(Hg c=(D_ c||Hg c))->Aa Z9 Z9 (tC (.str (S [65]))) (gY 0) (tC (.str (S [90]))) [some (.str (S [c]))] H Q:=λe=>by
     refine⟨_,rfl,[65],[c],rfl,rfl,decide (65<=c),by rw[Uv],?_⟩;rw[<- e]at q';by_cases h2:65<=c
     ·rw[ah h2]
      refine bI ⟨[c],[90],rfl,rfl,?_⟩;rw[Uv];simpa [Hg,h2] using q'
     ·rw[ae h2]
      refine aX ?_;simpa [Hg,h2] using q'
    by_cases h2:97<=c
    ·rw[ah h2]
     refine bI ⟨[c],[122],rfl,rfl,_,rfl,?_⟩;rw[Uv];by_cases h3:c<=122
     ·rw[ah h3]
      refine bI ?_;simpa [D_,h2,h3] using q'
     ·rw[ae h3]
      exact aX (tail (by simp[D_,h2,h3]))
    ·rw[ae h2]
     exact aX ⟨_,rfl,aX (tail (by simp[D_,h2]))⟩
   ·have e:(!decide (V.int (l.length:Int)=V.int 1))=true:=by
     rw[ae];rfl;intro z;injection z with z;lia
    rw[e];have e2:Ea l=false:=by
     match l,h1 with
     | [],_=>rfl
     | [c],h=>exact absurd rfl h
     | _::_::_,_=>rfl
    rw[e2]at q;exact bI q
def Xp (K:W.Frag):Sp:=λvs H Q _=>∃(a:Addr) (ns:List Int) (k:Nat),vs=[.ref a,.int k]/\aU K H a (ns.map V.int)/\∀v:Int,Q (.int v) H
def isLet (c:Nat):Prop:=97<=c/\c<=122
structure IV (ls:List Nat):Prop where
 lo:2<=ls.length
 hi:ls.length<=26
 az:∀c∈ls,isLet c
theorem Ux (D:aK K mg "_law_cell_at" vo ["_law_script","_law_k"])(cA:mg "len"=none):bO P w K mg base "_law_cell_at" 1 ["_law_script","_law_k"] (Xp K):=by
 refine D.dz Uu (λvs H Q E h=>?_) (λf bL A outer s H vs Q E hr h=>?_)
 ·obtain⟨a,ns,k,rfl,_⟩:=h
  rfl
 ·obtain⟨a,ns,k,rfl,hS,q⟩:=h
  refine⟨_,aD (bW (bw jo (qv 1) (aO bQ (by rfl) cA aI (aj (qv 0) aq)) (aZ _)) (aF (aY (aP dB (qv 0) (qv 1) (λ_ _=>rfl)))) bC) (aF (aY aB)),?_⟩;refine⟨_,rfl,_,rfl,a,_,rfl,.inl hS,_,_,rfl,rfl,_,rfl,?_⟩;refine iZ (λhc=>?_) (λ_=>?_)
  ·have hk:k < ns.length:=by
    have:=cq hc;rw[aa]at this;lia
   exact⟨_,rfl,_,rfl,a,_,_,.int ns[k],rfl,rfl,hS,aG (by simp[hk]),q _⟩
  ·exact q _
theorem vC (l:List Nat):(l.map λc=>[c]).flatten=l:=by
 induction l with
 | nil=>rfl
 | cons c r ih=>rw[bv,ik,ih];rfl
theorem ab7:∀c∈AL,isLet c:=λc hc=>by
 obtain⟨k,hk,rfl⟩:=bp.mp hc;have:=fi.mp hk;exact⟨by lia,by lia⟩
def pP (c:Nat):Prop:=Ea [c]=true
theorem pP.lt {c:Nat}(h:pP c):c < 128:=by
 unfold pP Ea D_ Hg at h;simp at h;lia
theorem Xq {c:Nat}(h:isLet c):pP c:=by simp[pP,Ea,D_,h.1,h.2]
theorem afD {c:Nat}(h:isLet c):pP (c-32):=by
 have h1:=h.1;have h2:=h.2;simp[pP,Ea,D_,Hg];lia
abbrev ones (cs:List Nat):List (List Nat):=cs.map λc=>[c]
structure Blk (r w:Nat)(ls:AA):Prop where
 len:ls.length=r
 iQ:∀l∈ls,l.length=w
def MK:List Nat:=[46,50,51,52,98,99,100]
def rG (c:Nat):Prop:=c=46\/pP c
def R9 (c:Nat):Prop:=c∈MK
structure R_ (r w:Nat)(ak aW:AA)(i j:Nat):Prop where
 r1:1<=r
 r9:r<=9
 w1:1<=w
 w9:w<=9
 br:Blk r w ak
 bm:Blk r w aW
 cr:∀l∈ak,∀c∈l,rG c
 cm:∀l∈aW,∀c∈l,R9 c
 bi:i < r
 bj:j < w
theorem mW (ls:AA)(l:List Nat):Ts ls++[V.str (S l)]=Ts (ls++[l]):=by simp[Ts]
theorem Aw (cs:List Nat)(c:Nat):ones cs++[[c]]=ones (cs++[c]):=by simp[ones]
def cell (R:AA)(i j:Nat):Nat:=(R.getD i []).getD j 0
theorem cell_eq {R:AA}{i j:Nat}(hi:i < R.length)(hj:j < R[i].length):cell R i j=R[i][j]:=by
 unfold cell;rw[ax (l:=R),ac hi];show (R[i]).getD j 0=_;rw[ax,ac hj];rfl
def adg:Sp:=λvs H Q _=>∃i:Int,vs=[.int i]/\Q (.bl true) H
theorem fY {ls:AA}{i:Nat}{l:List Nat}(h:ls[i]?=some l):(Ts ls)[i]?=some (.str (S l)):=by simp[Ts,h]
theorem uL {ls:AA}{i:Nat}{x:V}(h:(Ts ls)[i]?=some x):∃l,ls[i]?=some l/\x=.str (S l):=by
 rw[aS]at h;obtain⟨l,h1,h2⟩:=dq.mp h;exact⟨l,h1,h2.symm⟩
theorem Dn (n:Nat):((List.replicate n true).all id)=true:=by simp
theorem yE (n:Nat):(List.replicate n true).map V.bl++[V.bl true]=(List.replicate (n+1) true).map V.bl:=by rw[List.replicate_succ',bS];rfl
def IW:Sp:=λvs H Q _=>∃(p:Addr) (ls:AA) (r w:Nat),vs=[.ref p]/\H p=some (.tup (Ts ls))/\Blk r w ls/\1<=r/\r<=9/\1<=w/\w<=9/\∀H',aA H H'->Q (.bl true) H'
theorem Q9 (D:aK K mg "is_block" tE ["thing"])(bx:mg "len"=none)(cF:mg "tuple"=none)(Dp:mg "str"=none)(fM:mg "all"=none)(bJ:mg "isinstance"=none)(xK:∃t,mg "MOST"=some (.int 9 t)):bO P w K mg base "is_block" 1 ["thing"] IW:=by
 refine D.dz qN (λvs H Q E h=>?_) (λf bL A outer s H vs Q E hr h=>?_)
 ·obtain⟨p,ls,r,w,rfl,_⟩:=h
  rfl
 ·obtain⟨p,ls,r,w,rfl,hp,hb,r1,r9,w1,w9,q⟩:=h
  have jx:(Ts ls).length=r:=by rw[aa,hb.len]
  have h0:0 < ls.length:=by rw[hb.len];lia
  refine⟨_,(aD (bW (QW.qt (j7 (eO (dj (aO iM (by rfl) bJ bn (aj (qv 0) (aj (mJ (v:=.ty "tuple") (by rfl) cF cv rfl) aq))))) (jc (eO (ux lJ lJ aB (aO bQ (by rfl) bx aI (aj (qv 0) aq)) (Uc (by rfl) xK)))))) (aF (aY iI)) bC) (aD (bW (eO (dj (aO (jA rfl) (by rfl) fM jt (aj (jQ rfl (i_.of qN.nd (by kernel_rfl)) (dW (qv 0)) (λ_ _ _ _ _=>cZ) (λ_ _ _ _ _=>(aO (Nq K) (by rfl) bJ bn (aj (qv 0) (aj (mJ (v:=.ty "str") (by rfl) Dp PyProof.Rows.boot_str rfl) aq))))) aq)))) (aF (aY iI)) bC) (aD (aQ (i:=1) qN.nd rfl (Or.inr rfl) (aO cJ (by rfl) bx aI (aj (aP bf (qv 0) aB (λ_ _=>rfl)) aq))) (aF (aY (lV (j6 lJ lJ aB (qv 1) (Uc (by rfl) xK)) (jP (aO (jA rfl) (by rfl) fM jt (aj (jQ rfl (i_.of qN.nd (by kernel_rfl)) (dW (qv 0)) (λ_ _ _ _ _=>cZ) (λ_ _ _ _ _=>(dU fW (aO cJ (by rfl) bx aI (aj (qv 0) aq)) (qv 2) (aZ _)))) aq))))))))),?_⟩;refine⟨_,rfl,_,_,_,true,rfl,.tup hp,(by kernel_rfl),_,rfl,aX ?_⟩;refine⟨_,rfl,p,_,rfl,.inr (aM.of hp),_,_,rfl,rfl,true,by rw[jx];simp;lia,bI ⟨_,_,rfl,rfl,true,by rw[jx];simp;lia,aX ?_⟩⟩;refine⟨_,rfl,p,rfl,⟨_,aM.of hp⟩,λL hL=>uE (xs:=Ts ls) (λi ys H2=>ys=(List.replicate i true).map V.bl/\H2 L=some (.lst ys)/\aA H H2) ⟨rfl,au,aA.upd hL⟩ (λi ys H2 _ h=>aM.of (h.2.2 _ _ hp)) ?_ ?_⟩
  ·rintro i x ys H2 hi ⟨rfl,hL2,sm⟩
   obtain⟨l,hl,rfl⟩:=uL hi;have hil:i < (Ts ls).length:=(af.mp hi).1;refine⟨_,rfl,_,_,_,true,rfl,.str _,(by kernel_rfl),hL2,by rw[aa,b7];exact aH (by lia),dZ.mk hil ⟨yE i,au,sm.cD hL⟩⟩
  ·rintro ys H2 ⟨rfl,hL2,sm⟩
   refine⟨L,_,rfl,aU.of hL2,?_⟩;rw[Dn];refine⟨_,rfl,aX ?_⟩;have hw0:ls[0].length=w:=hb.iQ _ (ai _);have hz:ls[0].length<=sizeLine:=aE (aH (by lia));refine⟨_,rfl,p,_,_,.str (S ls[0]),rfl,rfl,aM.of (sm _ _ hp),aG (j:=0) (fY (by simp[h0])),_,rfl,hz,?_⟩;refine⟨_,rfl,_,_,rfl,rfl,true,by rw[hw0];simp;lia,bI ⟨_,_,rfl,rfl,true,by rw[hw0];simp;lia,bI ?_⟩⟩;refine⟨_,rfl,p,rfl,⟨_,aM.of (sm _ _ hp)⟩,λL2 sE=>uE (xs:=Ts ls) (λi ys H3=>ys=(List.replicate i true).map V.bl/\H3 L2=some (.lst ys)/\aA H H3) ⟨rfl,au,sm.cD (sm.free sE)⟩ (λi ys H2 _ h=>aM.of (h.2.2 _ _ hp)) ?_ ?_⟩
   ·rintro i x ys H3 hi ⟨rfl,jX,sm3⟩
    obtain⟨l,hl,rfl⟩:=uL hi;have hil:i < (Ts ls).length:=(af.mp hi).1;have pq:l.length=w:=hb.iQ _ (bc hl);refine⟨_,rfl,_,rfl,aE (aH (by lia)),_,rfl,rfl,jX,by rw[aa,b7];exact aH (by lia),dZ.mk hil ⟨?_,au,sm3.cD (sm.free sE)⟩⟩;rw[pq,hw0,ah rfl];exact yE i
   ·rintro ys H3 ⟨rfl,jX,sm3⟩
    refine⟨L2,_,rfl,aU.of jX,?_⟩;rw[Dn];exact q H3 sm3
theorem Eu {r w:Nat}{ls:AA}(h:Blk r w ls):ls.flatten.length=r*w:=by
 rw[List.length_flatten];have:ls.map List.length=List.replicate r w:=by
  rw[<- h.len,kl];exact⟨by simp,λb hb=>by obtain⟨l,hl,rfl⟩:=bp.mp hb;exact h.iQ l hl⟩
 rw[this,List.sum_replicate_nat]
def Xr:Sp:=λvs H Q _=>∃(p:Addr) (ls:AA) (r w:Nat),vs=[.ref p]/\H p=some (.tup (Ts ls))/\Blk r w ls/\1<=r/\r<=9/\1<=w/\w<=9/\(∀l∈ls,∀c∈l,rG c)/\∀H',aA H H'->Q (.bl true) H'
theorem Q_ (D:aK K mg "are_rows" tG ["thing"])(fM:mg "all"=none)(eV:∃t,mg "FREE"=some (.str (S [46]) t))(yF:bO P w K mg base "is_block" 1 ["thing"] IW)(Ax:bO P w K mg base "is_sign" 1 ["thing"] (Oa K)):bO P w K mg base "are_rows" 2 ["thing"] Xr:=by
 refine D.dz DY (λvs H Q E h=>?_) (λf bL A outer s H vs Q E hr h=>?_)
 ·obtain⟨p,ls,r,w,rfl,_⟩:=h
  rfl
 ·obtain⟨p,ls,r,w,rfl,hp,hb,r1,r9,w1,w9,hc,q⟩:=h
  have hrw:r*w<=81:=eK r9 w9;have hfl:=Eu hb;refine⟨_,(aF (aY (lV (aV yF hr.mono rfl (aj (qv 0) aq)) (jP (aO (jA rfl) (by rfl) fM jt (aj (jQ rfl (i_.of DY.nd (by kernel_rfl)) (uz (fX bg dC dE Er (bZ [] (by decide +kernel)) (aj (qv 0) aq))) (λ_ _ _ _ _=>cZ) (λ_ _ _ _ _=>(T_ (dU rm (qv 0) (sU (by rfl) eV) (aZ _)) (jP (aV Ax hr.mono rfl (aj (qv 0) aq)))))) aq)))))),?_⟩;refine⟨_,rfl,p,ls,r,w,rfl,hp,hb,r1,r9,w1,w9,λH1 s1=>⟨true,rfl,bI ?_⟩⟩;refine⟨rfl,_,rfl,p,ls,rfl,rfl,aM.of (s1 _ _ hp),by lia,_,rfl,λL hL=>?_⟩;refine uD (λi ys H2=>ys=(List.replicate i true).map V.bl/\H2 L=some (.lst ys)/\aA H H2) ⟨rfl,au,s1.cD (s1.free hL)⟩ ?_ ?_
  ·rintro i c ys H2 hi ⟨rfl,hL2,sm⟩
   have hil:i < ls.flatten.length:=(af.mp hi).1;obtain⟨l,hl,hcl⟩:=ke.mp (bc hi);have fin:H2 L=some (.lst ((List.replicate i true).map V.bl))/\((List.replicate i true).map V.bl).length < sizeLine/\dZ ls.flatten.length i ((List.replicate i true).map V.bl++[V.bl true]=(List.replicate (i+1) true).map V.bl/\upd H2 L (.lst ((List.replicate i true).map V.bl++[V.bl true])) L=some (.lst ((List.replicate i true).map V.bl++[V.bl true]))/\aA H (upd H2 L (.lst ((List.replicate i true).map V.bl++[V.bl true])))):=
    ⟨hL2,by rw[aa,b7];exact aH (by lia),dZ.mk hil ⟨yE i,au,sm.cD (s1.free hL)⟩⟩
   refine⟨_,rfl,[c],[46],rfl,rfl,_,rfl,?_⟩;rcases hc l hl c hcl with e | e
   ·subst e
    rw[ah rfl];exact bI fin
   ·by_cases h46:[c]=[46]
    ·rw[ah h46];exact bI fin
    ·rw[ae h46]
     refine aX ⟨_,rfl,.inr ⟨[c],rfl,by show 1<=1000;decide,?_⟩⟩;rw[show Ea [c]=true from e];exact fin
  ·rintro ys H2 ⟨rfl,hL2,sm⟩
   refine⟨L,_,rfl,aU.of hL2,?_⟩;rw[Dn];exact q H2 sm
def Sd:Sp:=λvs H Q _=>∃(p:Addr) (ls:AA) (r w:Nat),vs=[.ref p]/\H p=some (.tup (Ts ls))/\Blk r w ls/\1<=r/\r<=9/\1<=w/\w<=9/\(∀l∈ls,∀c∈l,R9 c)/\∀H',aA H H'->Q (.bl true) H'
theorem Ob (D:aK K mg "are_marks" qO ["thing"])(fM:mg "all"=none)(xM:∃t,mg "MARKS"=some (.str (S MK) t))(yF:bO P w K mg base "is_block" 1 ["thing"] IW):bO P w K mg base "are_marks" 2 ["thing"] Sd:=by
 refine D.dz Aq (λvs H Q E h=>?_) (λf bL A outer s H vs Q E hr h=>?_)
 ·obtain⟨p,ls,r,w,rfl,_⟩:=h
  rfl
 ·obtain⟨p,ls,r,w,rfl,hp,hb,r1,r9,w1,w9,hc,q⟩:=h
  have hrw:r*w<=81:=eK r9 w9;have hfl:=Eu hb;refine⟨_,(aF (aY (lV (aV yF hr.mono rfl (aj (qv 0) aq)) (jP (aO (jA rfl) (by rfl) fM jt (aj (jQ rfl (i_.of Aq.nd (by kernel_rfl)) (uz (fX bg dC dE Er (bZ [] (by decide +kernel)) (aj (qv 0) aq))) (λ_ _ _ _ _=>cZ) (λ_ _ _ _ _=>(dU ae8 (qv 0) (sU (by rfl) xM) rfl))) aq)))))),?_⟩;refine⟨_,rfl,p,ls,r,w,rfl,hp,hb,r1,r9,w1,w9,λH1 s1=>⟨true,rfl,bI ?_⟩⟩;refine⟨rfl,_,rfl,p,ls,rfl,rfl,aM.of (s1 _ _ hp),by lia,_,rfl,λL hL=>?_⟩;refine uD (λi ys H2=>ys=(List.replicate i true).map V.bl/\H2 L=some (.lst ys)/\aA H H2) ⟨rfl,au,s1.cD (s1.free hL)⟩ ?_ ?_
  ·rintro i c ys H2 hi ⟨rfl,hL2,sm⟩
   have hil:i < ls.flatten.length:=(af.mp hi).1;obtain⟨l,hl,hcl⟩:=ke.mp (bc hi);refine⟨_,rfl,c,MK,rfl,rfl,hL2,by rw[aa,b7];exact aH (by lia),dZ.mk hil ⟨?_,au,sm.cD (s1.free hL)⟩⟩;rw[ah (show c∈MK from hc l hl c hcl)];exact yE i
  ·rintro ys H2 ⟨rfl,hL2,sm⟩
   refine⟨L,_,rfl,aU.of hL2,?_⟩;rw[Dn];exact q H2 sm
def Ew (K:W.Frag):Sp:=λvs H Q _=>∃(p:Addr) (ls:AA) (r w:Nat) (i j:Int),vs=[.ref p,.int i,.int j]/\aM K H p (Ts ls)/\Blk r w ls/\1<=r/\r<=9/\w<=9/\Q (.bl (decide (0<=i/\i < r/\0<=j/\j < w))) H
theorem Ly (D:aK K mg "is_cell_of" lW ["rows","row","column"])(bx:mg "len"=none)(pA:bO P w K mg base "is_whole" 1 ["thing"] adg):bO P w K mg base "is_cell_of" 2 ["rows","row","column"] (Ew K):=by
 refine D.dz zX (λvs H Q E h=>?_) (λf bL A outer s H vs Q E hr h=>?_)
 ·obtain⟨p,ls,r,w,i,j,rfl,_⟩:=h
  rfl
 ·obtain⟨p,ls,r,w,i,j,rfl,hp,hb,r1,r9,w9,q⟩:=h
  have jx:(Ts ls).length=r:=by rw[aa,hb.len]
  have h0:0 < ls.length:=by rw[hb.len];lia
  have hw0:ls[0].length=w:=hb.iQ _ (ai _);refine⟨_,(aD (bW (QW.qt (j7 (eO (dj (aV pA hr.mono rfl (aj (qv 1) aq)))) (jc (eO (dj (aV pA hr.mono rfl (aj (qv 2) aq))))))) (aF (aY iI)) bC) (aF (aY (lV (j6 lJ jo aB (qv 1) (aO bQ (by rfl) bx aI (aj (qv 0) aq))) (jP (j6 lJ jo aB (qv 2) (aO cJ (by rfl) bx aI (aj (aP bf (qv 0) aB (λ_ _=>rfl)) aq)))))))),?_⟩;refine⟨_,rfl,i,rfl,_,rfl,aX ⟨_,rfl,j,rfl,_,rfl,aX ?_⟩⟩;refine⟨_,rfl,_,_,rfl,rfl,_,rfl,?_⟩;by_cases h1:0<=i
  ·rw[ah h1]
   refine bI ⟨_,rfl,p,_,rfl,.inr hp,_,_,rfl,rfl,_,rfl,?_⟩;rw[jx];by_cases h2:i < (r:Int)
   ·rw[ah h2]
    refine bI ⟨_,rfl,_,_,rfl,rfl,_,rfl,?_⟩;by_cases h3:0<=j
    ·rw[ah h3]
     refine bI ⟨_,rfl,p,_,_,.str (S ls[0]),rfl,rfl,hp,aG (j:=0) (fY (by simp[h0])),_,rfl,aE (aH (by lia)),_,_,rfl,rfl,?_⟩;rw[hw0];simpa [h1,h2,h3] using q
    ·rw[ae h3]
     refine aX ?_;simpa [h1,h2,h3] using q
   ·rw[ae h2]
    refine aX ?_;simpa [h1,h2] using q
  ·rw[ae h1]
   refine aX ⟨_,rfl,aX ?_⟩;simpa [h1] using q
def Sg (K:W.Frag):Sp:=λvs H Q _=>∃(p b:Addr) (ls:AA) (r w:Nat) (i j:Nat),vs=[.ref p,.ref b]/\H p=some (.tup (Ts ls))/\H b=some (.tup [.int i,.int j])/\Blk r w ls/\1<=r/\r<=9/\w<=9/\i < r/\j < w/\Q (.bl true) H
theorem I_ (D:aK K mg "is_begin_of" nP ["rows","thing"])(bx:mg "len"=none)(cF:mg "tuple"=none)(bJ:mg "isinstance"=none)(lX:bO P w K mg base "is_cell_of" 2 ["rows","row","column"] (Ew K)):bO P w K mg base "is_begin_of" 3 ["rows","thing"] (Sg K):=by
 refine D.dz IK (λvs H Q E h=>?_) (λf bL A outer s H vs Q E hr h=>?_)
 ·obtain⟨p,b,ls,r,w,i,j,rfl,_⟩:=h
  rfl
 ·obtain⟨p,b,ls,r,w,i,j,rfl,hp,hb,hB,r1,r9,w9,hi,hj,q⟩:=h
  refine⟨_,(aF (aY (lV (aO iM (by rfl) bJ bn (aj (qv 1) (aj (mJ (v:=.ty "tuple") (by rfl) cF cv rfl) aq))) (lV (dU fW (aO bQ (by rfl) bx aI (aj (qv 1) aq)) aB (aZ _)) (jP (aV lX hr.mono rfl (aj (qv 0) (aj (aP bf (qv 1) aB (λ_ _=>rfl)) (aj (aP bf (qv 1) aB (λ_ _=>rfl)) aq))))))))),?_⟩;refine⟨_,rfl,_,_,_,true,rfl,.tup hb,(by kernel_rfl),true,rfl,bI ?_⟩;refine⟨_,rfl,b,_,rfl,.inr (aM.of hb),rfl,true,rfl,bI ?_⟩;refine⟨_,rfl,_,rfl,b,_,_,.int i,rfl,rfl,aM.of hb,aG (j:=0) rfl,_,rfl,b,_,_,.int j,rfl,rfl,aM.of hb,aG (j:=1) rfl,?_⟩;refine⟨p,ls,r,w,i,j,rfl,aM.of hp,hB,r1,r9,w9,?_⟩;rw[ah ⟨by lia,by lia,by lia,by lia⟩];exact q
def Sh:Sp:=λvs H Q _=>∃(pr pm pb:Addr) (r w:Nat) (ak aW:AA) (i j:Nat),vs=[.ref pr,.ref pm,.ref pb]/\H pr=some (.tup (Ts ak))/\H pm=some (.tup (Ts aW))/\H pb=some (.tup [.int i,.int j])/\R_ r w ak aW i j/\∀H',aA H H'->Q (.bl true) H'
theorem Ra (D:aK K mg "is_board" tH ["rows","marks","begin"])(bx:mg "len"=none)(Uy:bO P w K mg base "are_rows" 2 ["thing"] Xr)(Rb:bO P w K mg base "are_marks" 2 ["thing"] Sd)(Lz:bO P w K mg base "is_begin_of" 3 ["rows","thing"] (Sg K)) :
  bO P w K mg base "is_board" 4 ["rows","marks","begin"] Sh:=by
 refine D.dz Q5 (λvs H Q E h=>?_) (λf bL A outer s H vs Q E hr h=>?_)
 ·obtain⟨pr,pm,pb,r,w,ak,aW,i,j,rfl,_⟩:=h
  rfl
 ·obtain⟨pr,pm,pb,r,w,ak,aW,i,j,rfl,hr',hm,hb,B,q⟩:=h
  have l1:(Ts ak).length=r:=by rw[aa,B.br.len]
  have l2:(Ts aW).length=r:=by rw[aa,B.bm.len]
  have h0:0 < ak.length:=by rw[B.br.len];exact B.r1
  have h0':0 < aW.length:=by rw[B.bm.len];exact B.r1
  have w0:ak[0].length=w:=B.br.iQ _ (ai _);have w0':aW[0].length=w:=B.bm.iQ _ (ai _);have w9:=B.w9;refine⟨_,(aD (bW (QW.qt (j7 (eO (dj (aV Uy hr.mono rfl (aj (qv 0) aq)))) (jc (eO (dj (aV Rb hr.mono rfl (aj (qv 1) aq))))))) (aF (aY iI)) bC) (aD (bW (QW.qt (j7 (bw oV (aO bQ (by rfl) bx aI (aj (qv 1) aq)) (aO bQ (by rfl) bx aI (aj (qv 0) aq)) (aZ _)) (jc (bw oV (aO cJ (by rfl) bx aI (aj (aP bf (qv 1) aB (λ_ _=>rfl)) aq)) (aO cJ (by rfl) bx aI (aj (aP bf (qv 0) aB (λ_ _=>rfl)) aq)) (aZ _))))) (aF (aY iI)) bC) (aF (aY (aV Lz hr.mono rfl (aj (qv 0) (aj (qv 2) aq))))))),?_⟩;refine⟨_,rfl,pr,ak,r,w,rfl,hr',B.br,B.r1,B.r9,B.w1,B.w9,B.cr,λH1 s1=>⟨_,rfl,aX ?_⟩⟩;refine⟨_,rfl,pm,aW,r,w,rfl,s1 _ _ hm,B.bm,B.r1,B.r9,B.w1,B.w9,B.cm,λH2 s2=>⟨_,rfl,aX ?_⟩⟩;have s12:=s1.trans s2;refine⟨_,rfl,pm,_,rfl,.inr (aM.of (s12 _ _ hm)),_,rfl,pr,_,rfl,.inr (aM.of (s12 _ _ hr')),rfl,_,rfl,?_⟩;refine oY (by rw[l1,l2]) ?_;refine⟨_,rfl,pm,_,_,.str (S aW[0]),rfl,rfl,aM.of (s12 _ _ hm),aG (j:=0) (fY (by simp[h0'])),_,rfl,aE (aH (by lia)),_,rfl,pr,_,_,.str (S ak[0]),rfl,rfl,aM.of (s12 _ _ hr'),aG (j:=0) (fY (by simp[h0])),_,rfl,aE (aH (by lia)),rfl,_,rfl,?_⟩;refine oY (by rw[w0,w0']) ?_;refine⟨_,rfl,_,rfl,pr,pb,ak,r,w,i,j,rfl,s12 _ _ hr',s12 _ _ hb,B.br,B.r1,B.r9,B.w9,B.bi,B.bj,?_⟩;exact q H2 s12
structure gW (K:W.Frag)(C:Addr):Prop where
 cl:Cls K C
 nr:nC K C "rows"
 nm:nC K C "marks"
 nb:nC K C "begin"
structure fD (C:Addr)(H:Hp)(p:Addr)(r w:Nat)(ak aW:AA)(i j:Nat):Prop where
 ex:∃dx pr pm pb,H p=some (.ins C dx [("rows",.ref pr),("marks",.ref pm),("begin",.ref pb)])/\H pr=some (.tup (Ts ak))/\H pm=some (.tup (Ts aW))/\H pb=some (.tup [.int i,.int j])
 ok:R_ r w ak aW i j
theorem fD.mv {C:Addr}{H H':Hp}{p:Addr}{r w:Nat}{ak aW:AA}{i j:Nat}(B:fD C H p r w ak aW i j)(s:aA H H'):fD C H' p r w ak aW i j:=by
 obtain⟨⟨dx,pr,pm,pb,a,b,c,d⟩,o⟩:=B;exact⟨⟨dx,pr,pm,pb,s _ _ a,s _ _ b,s _ _ c,s _ _ d⟩,o⟩
def Ja (C:Addr):Sp:=λvs H Q _=>∃(p dx pr pm pb:Addr) (r w:Nat) (ak aW:AA) (i j:Nat),vs=[.ref p,.ref pr,.ref pm,.ref pb]/\H p=some (.ins C dx [])/\H pr=some (.tup (Ts ak))/\H pm=some (.tup (Ts aW))/\H pb=some (.tup [.int i,.int j])/\R_ r w ak aW i j/\
 ∀H',(∀b o,H b=some o->b≠p->H' b=some o)->H' p=some (.ins C dx [("rows",.ref pr),("marks",.ref pm),("begin",.ref pb)])->Q .non H'
theorem LC {f C:Addr}{fd:FuncData}(F:gM K "__init__" "Board.__init__" je f fd)(T:gW K C)(Uz:bO P w K mg base "is_board" 4 ["rows","marks","begin"] Sh):cP P w K mg base fZ 5 f fd ["self","rows","marks","begin"] (Ja C):=by
 refine F.dz Lr (λvs H Q E h=>?_) (λbL A outer s H vs Q E hr h=>?_)
 ·obtain⟨p,dx,pr,pm,pb,r,w,ak,aW,i,j,rfl,_⟩:=h
  rfl
 ·obtain⟨p,dx,pr,pm,pb,r,w,ak,aW,i,j,rfl,hp,hr',hm,hb,B,q⟩:=h
  refine⟨_,(aD (bW (eO (dj (aV Uz hr.mono rfl (aj (qv 1) (aj (qv 2) (aj (qv 3) aq)))))) Kc bC) (aD (Gy (qv 0) (qv 1) rfl) (aD (Gy (qv 0) (qv 2) rfl) (aF (Gy (qv 0) (qv 3) rfl))))),?_⟩;refine⟨_,rfl,_,rfl,_,rfl,pr,pm,pb,r,w,ak,aW,i,j,rfl,hr',hm,hb,B,λH1 s1=>⟨_,rfl,aX ?_⟩⟩;refine⟨_,rfl,_,rfl,p,C,dx,_,rfl,s1 _ _ hp,T.cl,T.nr,by show 0 < 1000;decide,?_⟩;refine⟨_,rfl,_,rfl,p,C,dx,_,rfl,au,T.cl,T.nm,by show 1 < 1000;decide,?_⟩;refine⟨_,rfl,_,rfl,p,C,dx,_,rfl,au,T.cl,T.nb,by show 2 < 1000;decide,?_⟩;refine q _ (λb o e hne=>?_) ?_
  ·rw[aN hne,aN hne,aN hne];exact s1 _ _ e
  ·exact au
def Kp (R:Addr)(H H':Hp):Prop:=(∀b o,H b=some o->b≠R->H' b=some o)/\∃y:Int,H' R=some (.lst [.int y])
theorem Kp.trans {R:Addr}{H H1 H2:Hp}(h:Kp R H H1)(g:Kp R H1 H2):Kp R H H2:=⟨λb o e n=>g.1 b o (h.1 b o e n) n,g.2⟩
theorem Kp.same {R:Addr}{H H1 H2:Hp}(h:Kp R H H1)(s:aA H1 H2):Kp R H H2:=⟨λb o e n=>s _ _ (h.1 b o e n),let ⟨y,e⟩:=h.2;⟨y,s _ _ e⟩⟩
theorem Kp.of {R:Addr}{H H':Hp}{x:Int}(h:H R=some (.lst [.int x]))(s:aA H H'):Kp R H H':=⟨λb o e _=>s _ _ e,x,s _ _ h⟩
theorem Kp.up {R:Addr}{H:Hp}(y:Int):Kp R H (upd H R (.lst [.int y])):=⟨λb o e n=>by rw[aN n];exact e,y,au⟩
theorem Kp.new {R p:Addr}{H H1:Hp}{o:HO}(h:Kp R H H1)(hp:H p=none)(hr:R≠p):Kp R H (upd H1 p o):=⟨λb o e n=>by rw[aN λz=>by rw[z,hp]at e;cases e];exact h.1 b o e n,let ⟨y,e⟩:=h.2;⟨y,by rw[aN hr];exact e⟩⟩
def lC:Sp:=λvs H Q _=>∃(R:Addr) (x:Int) (b:Nat),vs=[.ref R,.int b]/\H R=some (.lst [.int x])/\1<=b/\b<=1000000/\∀(d:Nat) (y:Int),d < b->Q (.int d) (upd H R (.lst [.int y]))
theorem adh (D:aK K mg "_law_take" G4 ["_law_rest_here","_law_base"]):bO P w K mg base "_law_take" 1 ["_law_rest_here","_law_base"] lC:=by
 refine D.dz R7 (λvs H Q E h=>?_) (λf bL A outer s H vs Q E hr h=>?_)
 ·obtain⟨R,x,b,rfl,_⟩:=h
  rfl
 ·obtain⟨R,x,b,rfl,hR,b1,b2,q⟩:=h
  have h1:=Int.emod_nonneg x (show (b:Int)≠0 by lia);have h2:=Int.emod_lt_of_pos x (show (0:Int) < b by lia);obtain⟨d,hd⟩:∃d:Nat,x%(b:Int)=d:=⟨(x%(b:Int)).toNat,by lia⟩
  refine⟨_,(aD (aQ (i:=2) R7.nd rfl (Or.inl rfl) (bB oU (aP dB (qv 0) aB (λ_ _=>rfl)) (qv 1))) (aD (rB (bB pZ (aP dB (qv 0) aB (λ_ _=>rfl)) (qv 1)) (uF (qv 0) aB set_list)) (aF (aY (qv 2))))),?_⟩;refine⟨_,rfl,R,_,_,_,rfl,rfl,aU.of hR,aG (j:=0) rfl,_,rfl,_,_,rfl,rfl,(by show (0:Int) < (b:Int);lia),?_⟩;refine⟨_,rfl,R,_,_,_,rfl,rfl,aU.of hR,aG (j:=0) rfl,_,rfl,_,_,rfl,rfl,⟨by show (0:Int) < (b:Int);lia,by show (b:Int) < 1073741824;lia⟩,?_⟩;have:=q d (x/(b:Int)) (by lia);rw[<- hd]at this;exact⟨_,rfl,R,_,_,0,rfl,rfl,hR,rfl,_,rfl,this⟩
def Xu:Sp:=λvs H Q _=>∃c:Int,vs=[.int c]/\∀(R:Addr) (x:Int) (H':Hp),aA H H'->H' R=some (.lst [.int x])->H R=none->Q (.ref R) H'
theorem adi (D:aK K mg "_law_rest" G5 ["_law_cell"])(cR:mg "range"=none):bO P w K mg base "_law_rest" 1 ["_law_cell"] Xu:=by
 refine D.dz qw (λvs H Q E h=>?_) (λf bL A outer s H vs Q E hr h=>?_)
 ·obtain⟨c,rfl,_⟩:=h
  rfl
 ·obtain⟨c,rfl,q⟩:=h
  refine⟨_,(aD (bW (bw fW (bB oU (qv 0) aB) aB (aZ _)) (aF (aY (d7 (aj (bB pZ (qv 0) aB) aq)))) bC) (aD (aQ (i:=1) qw.nd rfl (Or.inl rfl) (qv 0)) (aD (aQ (i:=2) qw.nd rfl (Or.inl rfl) aB) (aD (dh bu rfl (jW (by rfl) cR (aj aB aq)) (bH (i:=3) qw.nd rfl (Or.inl rfl)) (aD (aQ (i:=1) qw.nd rfl (Or.inl rfl) (bB oU (bB dN (bB dN (bB qY (qv 1) aB) (bB qY aB (qv 3))) aB) aB)) (aD (aQ (i:=1) qw.nd rfl (Or.inl rfl) (bB oU (bB dN (bB dN (bB qY (qv 1) aB) (bB qY aB (qv 3))) aB) aB)) (aF (aQ (i:=2) qw.nd rfl (Or.inl rfl) (bB dN (bB qY (qv 2) aB) (qv 1))))))) (aF (aY (d7 (aj (qv 2) aq)))))))),?_⟩;refine⟨_,rfl,_,_,rfl,rfl,(by show (0:Int) < 2;decide),rfl,_,rfl,iZ (λ_=>?_) (λ_=>?_)⟩
  ·refine⟨_,rfl,_,_,rfl,rfl,⟨by decide,by decide⟩,zsz 1,λR hR=>?_⟩
   exact q R _ _ (aA.upd hR) au hR
  ·refine⟨_,rfl,?_⟩
   refine⟨_,rfl,by decide,by decide,gH (lo:=0) (n:=40) (λi σ H2=>H2=H/\∃(n fo:Int) (v3:Option V),σ=[some (.int c),some (.int n),some (.int fo),v3]) ⟨rfl,_,_,none,rfl⟩ ?_ ?_⟩
   ·rintro i σ H2 hi ⟨rfl,n,fo,v3,rfl⟩
    refine⟨_,rfl,_,_,rfl,rfl,.inr ⟨by decide,by decide⟩,_,rfl,_,_,rfl,rfl,.inl ⟨by decide,by decide⟩,_,_,rfl,rfl,_,_,rfl,rfl,_,_,rfl,rfl,(by show (0:Int) < 2147483629;decide),?_⟩;refine⟨_,rfl,_,_,rfl,rfl,.inr ⟨by decide,by decide⟩,_,rfl,_,_,rfl,rfl,.inl ⟨by decide,by decide⟩,_,_,rfl,rfl,_,_,rfl,rfl,_,_,rfl,rfl,(by show (0:Int) < 2147483587;decide),?_⟩;refine⟨_,rfl,_,_,rfl,rfl,.inr ⟨by decide,by decide⟩,_,rfl,_,_,rfl,rfl,?_⟩;exact⟨rfl,_,_,_,rfl⟩
   ·rintro σ H2 ⟨rfl,n,fo,v3,rfl⟩
    refine⟨_,rfl,zsz 1,λR hR=>?_⟩;exact q R _ _ (aA.upd hR) au hR
theorem aav:∀(F:List Nat) (L:List Nat),L.Nodup->F.length < L.length->∃x∈L,x∉F:=λF L nd h=>by
 by_cases c:∃x∈L,x∉F
 ·exact c
 ·have:L ⊆ F:=λx hx=>by
   by_cases m:x∈F
   ·exact m
   ·exact absurd ⟨x,hx,m⟩ c
  have:=nd.length_le_of_subset this;lia
def Xv:Sp:=λvs H Q _=>∃(R:Addr) (x:Int),vs=[.ref R]/\H R=some (.lst [.int x])/\∀(ls:List Nat) (H':Hp),Kp R H H'->IV ls->Q (.str (S ls)) H'
theorem Rc (D:aK K mg "_law_letters" vp ["_law_rest_here"])(bx:mg "len"=none)(cR:mg "range"=none)(cL:bO P w K mg base "_law_take" 1 ["_law_rest_here","_law_base"] lC):bO P w K mg base "_law_letters" 2 ["_law_rest_here"] Xv:=by
 refine D.dz mU (λvs H Q E h=>?_) (λf bL A outer s H vs Q E hr h=>?_)
 ·obtain⟨R,x,rfl,_⟩:=h
  rfl
 ·obtain⟨R,x,rfl,hR,q⟩:=h
  refine⟨_,(aD (aQ (i:=1) mU.nd rfl (Or.inl rfl) (bZ AL (by decide +kernel))) (aD (bW (bw fW (aV cL hr.mono rfl (aj (qv 0) (aj aB aq))) aB (aZ _)) (aF (aY (qv 1))) bC) (aD (aQ (i:=2) mU.nd rfl (Or.inr rfl) (bZ [] (by decide +kernel))) (aD (dh bu rfl (jW (by rfl) cR (aj (bB dN aB (aV cL hr.mono rfl (aj (qv 0) (aj aB aq)))) aq)) (bH (i:=3) mU.nd rfl (Or.inl rfl)) (aD (xu (ix:=4) (ns:=["_law_letter"]) mU.nd rfl (Or.inl rfl) rfl (fH.of ["_law_rest_here","_law_every","_law_found","_law_k","_law_left"] [] (by kernel_rfl)) (uz (qv 1)) (λ_ _ _ _ _=>(oG (show (["_law_letter","_law_rest_here","_law_every","_law_found","_law_k","_law_left"]:List Str).Nodup by decide +kernel) rfl (by rfl))) (λ_ _ _ _ _=>(xr (bw Xm (qv 0) (qv 3) rfl))) (λ_ _ _ _ _=>(qv 0))) (aF (aQ (i:=2) mU.nd rfl (Or.inr rfl) (bB iT (qv 2) (aP dB (qv 4) (aV cL hr.mono rfl (aj (qv 0) (aj (aO bQ (by rfl) bx aI (aj (qv 4) aq)) aq))) (λ_ _=>rfl))))))) (aF (aY (qv 2))))))),?_⟩;refine⟨_,rfl,R,x,8,rfl,hR,by decide,by decide,λd y hd=>⟨rfl,_,rfl,iZ (λ_=>?_) (λ_=>?_)⟩⟩
  ·exact⟨_,rfl,q AL _ (Kp.up y) ⟨by decide,by decide,ab7⟩⟩
  have k0:Kp R H (upd H R (.lst [.int y])):=Kp.up y;have Xw:upd H R (.lst [.int y]) R=some (.lst [.int y]):=au;generalize upd H R (.lst [.int y])=H0 at k0 Xw ⊢;refine⟨_,rfl,R,y,3,rfl,Xw,by decide,by decide,λd2 y2 hd2=>?_⟩;have k1:=k0.trans (Kp.up (H:=H0) y2);generalize upd H0 R (.lst [.int y2])=H1 at k1 ⊢;refine⟨_,_,rfl,rfl,_,rfl,by lia,by lia,?_⟩;rw[show ((2:Int)+(d2:Int)).toNat=2+d2 by lia];refine gH (lo:=0) (n:=2+d2) (λi σ H2=>∃(v3 v4:Option V) (fo:List Nat),σ=[some (.ref R),some (.str (S AL)),some (.str (S fo)),v3,v4]/\Kp R H H2/\fo.length=i/\∀c∈fo,isLet c)
   ⟨none,none,[],rfl,k1,rfl,λc h=>nomatch h⟩ ?_ ?_
  ·rintro i σ H2 hi ⟨v3,v4,fo,rfl,k2,hfl,hfc⟩
   obtain⟨y3,Ay⟩:=k2.2;refine⟨_,rfl,AL,rfl,λM hM=>Ue (l:=AL) (f:=eU [] 0) (tt:=xY (sy R6 (gY 0) (gY 3))) (te:=gY 0) (λj ys H3=>ys=Ts (ones ((AL.take j).filter λc=>!decide (c∈fo)))/\H3 M=some (.lst ys)/\aA H2 H3) ⟨rfl,au,aA.upd hM⟩ ?_ ?_⟩
   ·rintro j c ys H3 hj ⟨rfl,lY,s3⟩
    have hjl:j < AL.length:=(af.mp hj).1;have ah7:j < 26:=hjl;have ah8:((AL.take j).filter λc=>!decide (c∈fo)).length<=26:=b9 (ft ..) (by rw[ay];lia);refine⟨_,rfl,_,rfl,c,fo,rfl,rfl,_,rfl,?_⟩;by_cases m:c∈fo
    ·rw[ah m]
     refine aX (dZ.mk hjl ⟨?_,lY,s3⟩);rw[bo,hj,dS];simp[m]
    ·rw[ae m]
     refine bI ⟨_,rfl,lY,by rw[aa,aa];exact aH (by lia),dZ.mk hjl ⟨?_,au,s3.cD hM⟩⟩;rw[bo,hj,dS,mW,Aw];simp[m]
   ·rintro ys H3 ⟨rfl,lY,s3⟩
    rw[bz]at lY;generalize hgs:(AL.filter λc=>!decide (c∈fo))=gs at lY;have Oc:gs.length<=26:=by rw[<- hgs];exact ft ..
    have hg0:0 < gs.length:=by
     obtain⟨c,c1,c2⟩:=aav fo AL (by decide) (by show fo.length < 26;lia);exact List.length_pos_of_mem (a:=c) (by rw[<- hgs];simp[c1,c2])
    have hgc:∀c∈gs,isLet c:=λc hc=>by rw[<- hgs]at hc;exact ab7 c (fT.mp hc).1
    have UG:H3 M=some (.lst (Ts (ones gs))):=lY;have sI:=s3 _ _ Ay;have nMR:M≠R:=λz=>by rw[z,sI]at UG;injection UG with e1;injection e1 with e2;cases gs with
     | nil=>cases hg0
     | cons a r=>injection e2 with e3 e4;cases e3
    refine⟨_,rfl,_,rfl,_,rfl,_,rfl,M,_,rfl,.inl (aU.of UG),R,y3,gs.length,by show [V.ref R,V.int ((Ts (ones gs)).length:Nat)]=_;rw[aa,aa],sI,hg0,by lia,λd3 y4 Xx=>?_⟩;have k4:=(k2.same s3).trans (Kp.up (H:=H3) y4);have vD:upd H3 R (.lst [.int y4]) M=some (.lst (Ts (ones gs))):=by rw[aN nMR];exact UG
    generalize upd H3 R (.lst [.int y4])=H4 at k4 vD ⊢;have afE:d3 < gs.length:=Xx;refine⟨M,_,_,.str (S [gs[d3]]),rfl,rfl,aU.of vD,aG (j:=d3) (by simp[afE]),fo,[gs[d3]],rfl,rfl,aE (aH (by show fo.length+1<=1000;lia)),?_⟩;refine⟨_,_,fo++[gs[d3]],rfl,k4,by simp[hfl],λc hc=>?_⟩;rcases a7.mp hc with z | z
    ·exact hfc c z
    ·rw[aw.mp z];exact hgc _ (ai afE)
  ·rintro σ H2 ⟨v3,v4,fo,rfl,k2,hfl,hfc⟩
   exact⟨_,rfl,q fo H2 k2 ⟨by lia,by lia,hfc⟩⟩
def Jb:Sp:=λvs H Q _=>∃(R:Addr) (x:Int) (ls:List Nat) (g:Bool),vs=[.ref R,.str (S ls),.bl g]/\H R=some (.lst [.int x])/\IV ls/\∀(c:Nat) (H':Hp),Kp R H H'->pP c->Q (.str (S [c])) H'
theorem aaw (D:aK K mg "_law_sign" G6 ["_law_rest_here","_law_letters_here","_law_great"])(bx:mg "len"=none)(cL:bO P w K mg base "_law_take" 1 ["_law_rest_here","_law_base"] lC):bO P w K mg base "_law_sign" 2 ["_law_rest_here","_law_letters_here","_law_great"] Jb:=by
 refine D.dz R8 (λvs H Q E h=>?_) (λf bL A outer s H vs Q E hr h=>?_)
 ·obtain⟨R,x,ls,g,rfl,_⟩:=h
  rfl
 ·obtain⟨R,x,ls,g,rfl,hR,hA,q⟩:=h
  have hl1:=hA.lo;have hl2:=hA.hi;have hz:ls.length<=sizeLine:=aE (aH (by lia));refine⟨_,(aD (aQ (i:=3) R8.nd rfl (Or.inl rfl) (aP m5 (qv 1) (aV cL hr.mono rfl (aj (qv 0) (aj (aO cJ (by rfl) bx aI (aj (qv 1) aq)) aq))) (λ_ _=>rfl))) (aD (bW (QW.qt (jq (bw fW (aV cL hr.mono rfl (aj (qv 0) (aj aB aq))) aB (aZ _)) (lD (dj (qv 2))))) (aF (aY (lB bg PySem.F.slot_str_upper PySem.F.type_str_upper afd (qv 3)))) bC) (aF (aY (qv 3))))),?_⟩;refine⟨_,rfl,_,rfl,_,rfl,ls,rfl,hz,R,x,ls.length,rfl,hR,by lia,by lia,λd y hd=>?_⟩;have k1:Kp R H (upd H R (.lst [.int y])):=Kp.up y;have xO:upd H R (.lst [.int y]) R=some (.lst [.int y]):=au;generalize upd H R (.lst [.int y])=H1 at k1 xO ⊢;have hc:=hA.az _ (ai hd);refine⟨ls,_,ls[d],rfl,rfl,hz,aG (ac hd),?_⟩;refine⟨_,rfl,R,y,5,rfl,xO,by decide,by decide,λd2 y2 hd2=>⟨rfl,_,rfl,?_⟩⟩;have k2:=k1.trans (Kp.up (H:=H1) y2);generalize upd H1 R (.lst [.int y2])=H2 at k2 ⊢;refine iZ (λ_=>?_) (λ_=>?_)
  ·refine⟨_,rfl,g,rfl,iZ (λ_=>?_) (λ_=>?_)⟩
   ·refine⟨_,rfl,rfl,[ls[d]],rfl,rfl,by show 1<=1000;decide,λe he=>by rw[aw.mp he];have:=hc.2;lia,?_⟩
    have eu:[ls[d]].map PyProof.Rows.up1=[ls[d]-32]:=by
     rw[iX];unfold PyProof.Rows.up1;rw[if_pos (show 97<=ls[d]/\ls[d]<=122 from hc)]
    rw[eu];exact q _ H2 k2 (afD hc)
   ·exact⟨_,rfl,q _ H2 k2 (Xq hc)⟩
  ·exact⟨_,rfl,q _ H2 k2 (Xq hc)⟩
theorem adk (l:List Nat)(m:Nat):m6 l none (some (m:Int))=l.take m:=by
 unfold m6;rw[HT.qe,HT.uh];simp
theorem Xy (l:List Nat)(m:Nat):m6 l (some (m:Int)) none=l.drop m:=by
 unfold m6;rw[HT.qe,HT.uh,be (by rw[bt];lia)];by_cases h:m<=l.length
 ·rw[ia h]
 ·rw[lT (by lia),fN (al _),fN (by lia)]
theorem adl {l:List Nat}{k:Nat}(h:k < l.length):l.take k++[46]++l.drop (k+1)=l.set k 46:=by
 rw[List.set_eq_take_append_cons_drop,if_pos h,List.append_assoc];rfl
theorem Az {R:AA}{i:Nat}{x l:List Nat}(h:l∈R.set i x):l∈R\/l=x:=dv h
theorem afF {d:Nat}(h:d < 8):∃n:Int,oE [V.int 0,V.int 1,V.int 1,V.int 2,V.int 2,V.int 3,V.int 4,V.int 5] (d:Int)=some (.int n):=by
 match d,h with
 | 0,_=>exact⟨_,rfl⟩
 | 1,_=>exact⟨_,rfl⟩
 | 2,_=>exact⟨_,rfl⟩
 | 3,_=>exact⟨_,rfl⟩
 | 4,_=>exact⟨_,rfl⟩
 | 5,_=>exact⟨_,rfl⟩
 | 6,_=>exact⟨_,rfl⟩
 | 7,_=>exact⟨_,rfl⟩
def Sq:Sp:=λvs H Q _=>∃(R:Addr) (x:Int) (ls:List Nat) (m:Nat),vs=[.ref R,.str (S ls),.int m]/\H R=some (.lst [.int x])/\IV ls/\1<=m/\m<=9/\
 ∀(p:Addr) (ak:AA) (r w:Nat) (H':Hp),Kp R H H'->H' p=some (.tup (Ts ak))->Blk r w ak->1<=r->r<=9->1<=w->w<=9->(∀l∈ak,∀c∈l,rG c)->(∃i j,i < r/\j < w/\cell ak i j=46)->Q (.ref p) H'
theorem aax (D:aK K mg "_law_rows" G7 ["_law_rest_here","_law_letters_here","_law_most"])(jy:mg "int"=none)(cR:mg "range"=none)(cF:mg "tuple"=none)(cL:bO P w K mg base "_law_take" 1 ["_law_rest_here","_law_base"] lC)(Od:bO P w K mg base "_law_sign" 2 ["_law_rest_here","_law_letters_here","_law_great"] Jb):bO P w K mg base "_law_rows" 3 ["_law_rest_here","_law_letters_here","_law_most"] Sq:=by
 refine D.dz h_ (λvs H Q E h=>?_) (λf bL A outer s H vs Q E hr h=>?_)
 ·obtain⟨R,x,ls,m,rfl,_⟩:=h
  rfl
 ·obtain⟨R,x,ls,m,rfl,hR,hA,m1,m9,q⟩:=h
  refine⟨_,(aD (aQ (i:=3) h_.nd rfl (Or.inl rfl) (aP dB (d7 (aj (qv 2) (aj aB aq))) (dR uZ (by rfl) jy gc (aj (dU fW (aV cL hr.mono rfl (aj (qv 0) (aj aB aq))) aB (aZ _)) aq)) (λ_ _=>rfl))) (aD (aQ (i:=4) h_.nd rfl (Or.inl rfl) (bB dN aB (aV cL hr.mono rfl (aj (qv 0) (aj (qv 3) aq))))) (aD (aQ (i:=5) h_.nd rfl (Or.inl rfl) (bB dN aB (aV cL hr.mono rfl (aj (qv 0) (aj (qv 3) aq))))) (aD (aQ (i:=6) h_.nd rfl (Or.inl rfl) (aP dB (d7 (aj aB (aj aB (aj aB (aj aB (aj aB (aj aB (aj aB (aj aB aq))))))))) (aV cL hr.mono rfl (aj (qv 0) (aj aB aq))) (λ_ _=>rfl))) (aD (aQ (i:=7) h_.nd rfl (Or.inl rfl) (d7 aq)) (aD (dh bu rfl (jW (by rfl) cR (aj (qv 4) aq)) (bH (i:=8) h_.nd rfl (Or.inl rfl)) (aD (aQ (i:=9) h_.nd rfl (Or.inl rfl) (bZ [] (by decide +kernel))) (aD (dh bu rfl (jW (by rfl) cR (aj (qv 5) aq)) (bH (i:=10) h_.nd rfl (Or.inl rfl)) (aF (bW (bw jo (aV cL hr.mono rfl (aj (qv 0) (aj aB aq))) (qv 6) (aZ _)) (aF (aQ (i:=9) h_.nd rfl (Or.inl rfl) (bB iT (qv 9) (aV Od hr.mono rfl (aj (qv 0) (aj (qv 1) (aj iI aq))))))) (aF (aQ (i:=9) h_.nd rfl (Or.inl rfl) (bB iT (qv 9) (bZ [46] (by decide +kernel)))))))) (aF (dD (fX bX de df gK (qv 7) (aj (qv 9) aq))))))) (aD (aQ (i:=11) h_.nd rfl (Or.inl rfl) (aV cL hr.mono rfl (aj (qv 0) (aj (bB qY (qv 4) (qv 5)) aq)))) (aD (aQ (i:=12) h_.nd rfl (Or.inl rfl) (aP dB (qv 7) (bB pZ (qv 11) (qv 5)) (λ_ _=>rfl))) (aD (aQ (i:=13) h_.nd rfl (Or.inl rfl) (bB oU (qv 11) (qv 5))) (aD (rB (bB iT (bB iT (j8 T9 (qv 12) oF (lE (qv 13))) (bZ [46] (by decide +kernel))) (j8 T9 (qv 12) (lE (bB dN (qv 13) aB)) oF)) (uF (qv 7) (bB pZ (qv 11) (qv 5)) set_list)) (aF (aY (dR gJ (by rfl) cF cv (aj (qv 7) aq)))))))))))))),?_⟩;refine⟨_,rfl,zsz 2,λt ht=>?_⟩;have nRt:R≠t:=bU hR ht;have Xw:upd H t (.lst [.int m,.int 9]) R=some (.lst [.int x]):=by rw[aN nRt];exact hR
  have k0:Kp R H (upd H t (.lst [.int m,.int 9])):=Kp.of hR (aA.upd ht);have ht0:upd H t (.lst [.int m,.int 9]) t=some (.lst [.int m,.int 9]):=au;generalize upd H t (.lst [.int m,.int 9])=H0 at Xw k0 ht0 ⊢;refine⟨_,rfl,R,x,8,rfl,Xw,by decide,by decide,λd y hd=>⟨rfl,.inr ⟨_,rfl,?_⟩⟩⟩;have k1:=k0.trans (Kp.up (H:=H0) y);have ht1:upd H0 R (.lst [.int y]) t=some (.lst [.int m,.int 9]):=by rw[aN nRt.symm];exact ht0
  have xO:upd H0 R (.lst [.int y]) R=some (.lst [.int y]):=au;generalize upd H0 R (.lst [.int y])=H1 at k1 ht1 xO ⊢;obtain⟨sz,hsz,s1,s9⟩:∃sz:Nat,oE [V.int m,V.int 9] (if decide (V.int (d:Int)=V.int 3)=true then 1 else 0)=some (.int sz)/\1<=sz/\sz<=9:=by
   by_cases e:decide (V.int (d:Int)=V.int 3)=true
   ·rw[if_pos e];exact⟨9,rfl,by decide,by decide⟩
   ·rw[if_neg e];exact⟨m,rfl,m1,m9⟩
  refine⟨t,_,_,_,rfl,rfl,aU.of ht1,hsz,?_⟩;refine⟨_,rfl,_,rfl,R,y,sz,rfl,xO,s1,by lia,λr0 y2 hr0=>⟨_,_,rfl,rfl,?_⟩⟩;have k2:=k1.trans (Kp.up (H:=H1) y2);have Ay:upd H1 R (.lst [.int y2]) R=some (.lst [.int y2]):=au;generalize upd H1 R (.lst [.int y2])=H2 at k2 Ay ⊢;refine⟨_,rfl,_,rfl,R,y2,sz,rfl,Ay,s1,by lia,λw0 y3 hw0=>⟨_,_,rfl,rfl,?_⟩⟩;have k3:=k2.trans (Kp.up (H:=H2) y3);have sI:upd H2 R (.lst [.int y3]) R=some (.lst [.int y3]):=au;generalize upd H2 R (.lst [.int y3])=H3 at k3 sI ⊢;obtain⟨r,ahz,r1,r9⟩:∃r:Nat,(1:Int)+(r0:Int)=(r:Int)/\1<=r/\r<=9:=⟨1+r0,by lia,by lia,by lia⟩
  obtain⟨w,ahA,w1,w9⟩:∃w:Nat,(1:Int)+(w0:Int)=(w:Int)/\1<=w/\w<=9:=⟨1+w0,by lia,by lia,by lia⟩
  show mH 5 (V.int (1+(w0:Int))) (([some (.ref R),some (.str (S ls)),some (.int m),some (.int sz),none,none,none,none,none,none,none,none,none,none]:St).set 4 (some (V.int (1+(r0:Int))))) _ _;rw[ahz,ahA];refine⟨zsz 8,λt2 A_=>?_⟩;have afG:R≠t2:=bU sI A_;have Eb:upd H3 t2 (.lst [.int 0,.int 1,.int 1,.int 2,.int 2,.int 3,.int 4,.int 5]) R=some (.lst [.int y3]):=by rw[aN afG];exact sI
  have k4:Kp R H (upd H3 t2 (.lst [.int 0,.int 1,.int 1,.int 2,.int 2,.int 3,.int 4,.int 5])):=k3.same (aA.upd A_);have Xz:upd H3 t2 (.lst [.int 0,.int 1,.int 1,.int 2,.int 2,.int 3,.int 4,.int 5]) t2=some (.lst [.int 0,.int 1,.int 1,.int 2,.int 2,.int 3,.int 4,.int 5]):=au;generalize upd H3 t2 (.lst [.int 0,.int 1,.int 1,.int 2,.int 2,.int 3,.int 4,.int 5])=H4 at Eb k4 Xz ⊢;refine⟨_,rfl,R,y3,8,rfl,Eb,by decide,by decide,λd4 y5 hd4=>?_⟩;have k5:=k4.trans (Kp.up (H:=H4) y5);have XC:upd H4 R (.lst [.int y5]) t2=some (.lst [.int 0,.int 1,.int 1,.int 2,.int 2,.int 3,.int 4,.int 5]):=by rw[aN afG.symm];exact Xz
  have Kv:upd H4 R (.lst [.int y5]) R=some (.lst [.int y5]):=au;generalize upd H4 R (.lst [.int y5])=H5 at k5 XC Kv ⊢;obtain⟨fu,hfu⟩:=afF hd4;refine⟨t2,_,_,_,rfl,rfl,aU.of XC,hfu,?_⟩;refine⟨zsz 0,λL hL=>?_⟩;have Ba:R≠L:=bU Kv hL;have hLH:H L=none:=by
   cases e:H L with
   | none=>rfl
   | some o=>rw[k5.1 _ _ e Ba.symm]at hL;cases hL
  have hR6:upd H5 L (.lst []) R=some (.lst [.int y5]):=by rw[aN Ba];exact Kv
  refine⟨_,rfl,_,rfl,by lia,by lia,?_⟩;rw[c6];refine gH (lo:=0) (n:=r) (λi σ H2=>∃(v8 v9 v10:Option V) (ak:AA),σ=[some (.ref R),some (.str (S ls)),some (.int m),some (.int sz),some (.int r),some (.int w),some (.int fu),some (.ref L),v8,v9,v10,none,none,none]/\Kp R H H2/\H2 L=some (.lst (Ts ak))/\ak.length=i/\∀l∈ak,l.length=w/\∀c∈l,rG c)
   ⟨none,none,none,[],rfl,k5.new hLH Ba,au,rfl,λl h=>by simp at h⟩ ?_ ?_
  ·rintro i σ H7 hi ⟨v8,v9,v10,ak,rfl,k7,hL7,lr,Bb⟩
   refine⟨_,rfl,_,rfl,by lia,by lia,?_⟩;rw[c6];refine gH (lo:=0) (n:=w) (λj σ H8=>∃(v10:Option V) (cs:List Nat),σ=[some (.ref R),some (.str (S ls)),some (.int m),some (.int sz),some (.int r),some (.int w),some (.int fu),some (.ref L),some (.int (0+(i:Int))),some (.str (S cs)),v10,none,none,none]/\Kp R H H8/\H8 L=some (.lst (Ts ak))/\cs.length=j/\∀c∈cs,rG c)
    ⟨v10,[],rfl,k7,hL7,rfl,λc h=>by simp at h⟩ ?_ ?_
   ·rintro j σ H8 hj ⟨v10,cs,rfl,k8,hL8,lc,Kw⟩
    obtain⟨y8,hR8⟩:=k8.2;refine⟨_,rfl,R,y8,6,rfl,hR8,by decide,by decide,λd9 y9 hd9=>?_⟩;have k9:=k8.trans (Kp.up (H:=H8) y9);have hL9:upd H8 R (.lst [.int y9]) L=some (.lst (Ts ak)):=by rw[aN Ba.symm];exact hL8
    have hR9:upd H8 R (.lst [.int y9]) R=some (.lst [.int y9]):=au;generalize upd H8 R (.lst [.int y9])=H9 at k9 hL9 hR9 ⊢;have hzc:cs.length+1<=sizeLine:=aE (aH (by lia));refine⟨_,rfl,_,_,rfl,rfl,_,rfl,iZ (λ_=>?_) (λ_=>?_)⟩
    ·refine⟨_,rfl,_,rfl,_,rfl,R,y9,ls,true,rfl,hR9,hA,λz H10 k10 hz=>?_⟩
     refine⟨cs,[z],rfl,rfl,hzc,?_⟩;refine⟨_,cs++[z],rfl,k9.trans k10,k10.1 _ _ hL9 Ba.symm,by simp[lc],λe he=>?_⟩;rcases a7.mp he with k | k
     ·exact Kw e k
     ·rw[aw.mp k];exact .inr hz
    ·refine⟨_,rfl,cs,[46],rfl,rfl,hzc,?_⟩
     refine⟨_,cs++[46],rfl,k9,hL9,by simp[lc],λe he=>?_⟩;rcases a7.mp he with k | k
     ·exact Kw e k
     ·rw[aw.mp k];exact .inl rfl
   ·rintro σ H8 ⟨v10,cs,rfl,k8,hL8,lc,Kw⟩
    refine⟨_,rfl,.inl ⟨rfl,_,aU.of hL8⟩,_,rfl,L,_,_,rfl,rfl,hL8,by rw[aa];exact aH (by lia),?_⟩;refine⟨_,_,_,ak++[cs],rfl,k8.new hLH Ba,by rw[au,mW],by simp[lr],λl hl=>?_⟩;rcases a7.mp hl with k | k
    ·exact Bb l k
    ·rw[aw.mp k];exact⟨lc,Kw⟩
  ·rintro σ H7 ⟨v8,v9,v10,ak,rfl,k7,hL7,lr,Bb⟩
   obtain⟨y7,hR7⟩:=k7.2;have hrw:1<=r*w:=Nat.mul_pos r1 w1;have ahB:r*w<=81:=eK r9 w9;have aay:(r:Int)*(w:Int)=((r*w:Nat):Int):=by push_cast;rfl
   refine⟨_,rfl,_,rfl,_,rfl,_,_,rfl,rfl,.inl ⟨by lia,by lia⟩,R,y7,r*w,by show [V.ref R,V.int ((r:Int)*(w:Int))]=_;rw[aay],hR7,hrw,by lia,λfr y8 hfr=>?_⟩;have k8:=k7.trans (Kp.up (H:=H7) y8);have hL8:upd H7 R (.lst [.int y8]) L=some (.lst (Ts ak)):=by rw[aN Ba.symm];exact hL7
   generalize upd H7 R (.lst [.int y8])=H8 at k8 hL8 ⊢;obtain⟨ri,eri⟩:∃ri,ri=fr/w:=⟨_,rfl⟩
   obtain⟨sp,esp⟩:∃sp,sp=fr%w:=⟨_,rfl⟩
   have hir:ri < r:=by rw[eri];exact kD (by rw[lS];exact hfr)
   have hjw:sp < w:=by rw[esp];exact Nat.mod_lt _ w1
   have afH:ri < ak.length:=by rw[lr];exact hir
   have pq:ak[ri].length=w:=(Bb _ (ai _)).1;have ediv:(fr:Int)/(w:Int)=(ri:Int):=by rw[eri];push_cast;rfl
   have emod:(fr:Int)%(w:Int)=(sp:Int):=by rw[esp];push_cast;rfl
   have hz:∀n,n<=100->n<=sizeLine:=λn h=>aE (aH (by lia));refine⟨_,rfl,_,rfl,_,rfl,_,_,rfl,rfl,⟨by show (0:Int) < (w:Int);lia,by show (w:Int) < 1073741824;lia⟩,L,_,_,.str (S ak[ri]),rfl,rfl,aU.of hL8,by show oE _ ((fr:Int)/(w:Int))=_;rw[ediv];exact aG (fY (by simp[afH])),?_⟩;refine⟨_,rfl,_,rfl,_,_,rfl,rfl,(by show (0:Int) < (w:Int);lia),?_⟩;show mH 13 (V.int ((fr:Int)%(w:Int))) _ _ _;rw[emod];generalize hl:ak[ri]=l at pq;have e1:(sp:Int)+1=((sp+1:Nat):Int):=by lia
   refine⟨_,rfl,_,rfl,_,rfl,l,rfl,hz _ (by lia),?_⟩;rw[adk];refine⟨l.take (sp),[46],rfl,rfl,hz _ (by rw[ay];simp;lia),?_⟩;refine⟨_,rfl,_,rfl,_,_,rfl,rfl,_,rfl,l,rfl,hz _ (by lia),?_⟩;rw[e1,Xy];refine⟨_,_,rfl,rfl,hz _ (by rw[a_,ay,bt];simp;lia),?_⟩;rw[adl (by lia)];refine⟨_,rfl,_,rfl,_,rfl,_,_,rfl,rfl,⟨by show (0:Int) < (w:Int);lia,by show (w:Int) < 1073741824;lia⟩,L,_,_,ri,rfl,rfl,hL8,?_,?_⟩
   ·show u0 (Ts ak).length ((fr:Int)/(w:Int))=some ri
    rw[ediv];unfold u0;rw[aa,lr,if_pos (by lia),if_pos (by lia)];congr 1
   ·have ahC:(Ts ak).set (ri) (.str (S (l.set (sp) 46)))=Ts (ak.set (ri) (l.set (sp) 46)):=by unfold Ts;rw[l_]
    rw[ahC];have pQ:Blk r w (ak.set (ri) (l.set (sp) 46)):=⟨by rw[dP,lr],λx hx=>by
     rcases Az hx with k | k
     ·exact(Bb x k).1
     ·rw[k,dP];exact pq⟩
    refine⟨_,rfl,L,_,rfl,.inl ⟨aU.of au,λT hT=>?_⟩⟩;have k9:Kp R H (upd H8 L (HO.lst (Ts (ak.set (ri) (l.set (sp) 46))))):=k8.new hLH Ba;refine q T _ r w _ (k9.same (aA.upd hT)) au pQ r1 r9 w1 w9 (λx hx y hy=>?_) ⟨ri,sp,hir,hjw,?_⟩
    ·rcases Az hx with k | k
     ·exact(Bb x k).2 y hy
     ·rw[k]at hy
      rcases dv hy with z | z
      ·exact(Bb l (hl ▸ ai _)).2 y z
      ·rw[z];exact .inl rfl
    ·have h1:ri < (ak.set (ri) (l.set (sp) 46)).length:=by rw[dP];exact afH
     have h2:(ak.set (ri) (l.set (sp) 46))[ri]=l.set (sp) 46:=List.getElem_set_self h1;rw[cell_eq h1 (by rw[h2,dP];lia)];simp[h2]
theorem Kp.tup {R:Addr}{H H':Hp}{x:Int}(k:Kp R H H')(hR:H R=some (.lst [.int x])):∀a xs,H a=some (.tup xs)->H' a=some (.tup xs):=λa xs e=>k.1 a _ e λz=>by rw[z,hR]at e;cases e
def Ey:List Nat:=[50,51,52,98,99,100]++(List.replicate 12 [46]).flatten
def Oe:Sp:=λvs H Q _=>∃(R:Addr) (x:Int) (p:Addr) (ak:AA) (r w:Nat),vs=[.ref R,.ref p]/\H R=some (.lst [.int x])/\H p=some (.tup (Ts ak))/\Blk r w ak/\1<=r/\r<=9/\w<=9/\
 ∀(t:Addr) (aW:AA) (H':Hp),Kp R H H'->H' t=some (.tup (Ts aW))->Blk r w aW->(∀l∈aW,∀c∈l,R9 c)->Q (.ref t) H'
theorem XF (D:aK K mg "_law_marks" Dh ["_law_rest_here","_law_rows_here"])(cF:mg "tuple"=none)(cL:bO P w K mg base "_law_take" 1 ["_law_rest_here","_law_base"] lC):bO P w K mg base "_law_marks" 2 ["_law_rest_here","_law_rows_here"] Oe:=by
 refine D.dz yu (λvs H Q E h=>?_) (λf bL A outer s H vs Q E hr h=>?_)
 ·obtain⟨R,x,p,ak,r,w,rfl,_⟩:=h
  rfl
 ·obtain⟨R,x,p,ak,r,w,rfl,hR,hp,hb,r1,r9,w9,q⟩:=h
  refine⟨_,(aD (aQ (i:=2) yu.nd rfl (Or.inl rfl) (d7 aq)) (aD (dh bu rfl (dW (qv 1)) (bH (i:=3) yu.nd rfl (Or.inl rfl)) (aF (dD (fX bX de df gK (qv 2) (aj (fX bg dC dE xq (bZ [] (by decide +kernel)) (aj (jQ rfl (i_.of yu.nd (by kernel_rfl)) (uz (qv 3)) (λ_ _ _ _ _=>cZ) (λ_ _ _ _ _=>(aP m5 (bB iT (bZ [50,51,52,98,99,100] (by decide +kernel)) (bB Im (bZ [46] (by decide +kernel)) aB)) (aV cL hr.mono rfl (aj (qv 1) (aj aB aq))) (λ_ _=>rfl)))) aq)) aq))))) (aF (aY (dR gJ (by rfl) cF cv (aj (qv 2) aq)))))),?_⟩;refine⟨zsz 0,λL hL=>?_⟩;have Ba:R≠L:=bU hR hL;have nRp:p≠R:=λz=>by rw[z,hR]at hp;cases hp
  have nLp:p≠L:=bU hp hL;have k0:Kp R H (upd H L (.lst [])):=Kp.of hR (aA.upd hL);have hp0:upd H L (.lst []) p=some (.tup (Ts ak)):=aA.upd hL _ _ hp;refine⟨_,rfl,p,rfl,⟨_,aM.of hp0⟩,jN (K:=K) (a:=p) (xs:=Ts ak) (λi σ H2=>∃(v3:Option V) (ms:AA),σ=[some (.ref R),some (.ref p),some (.ref L),v3]/\Kp R H H2/\H2 L=some (.lst (Ts ms))/\ms.length=i/\∀l∈ms,l.length=w/\∀c∈l,R9 c)
   ⟨none,[],rfl,k0,au,rfl,λl h=>by simp at h⟩ (λi σ H2 _ h=>by obtain⟨_,_,_,k,_⟩:=h;exact aM.of (k.1 _ _ hp nRp)) ?_ ?_⟩
  ·rintro i y σ H2 hy ⟨v3,ms,rfl,k2,hL2,lr,Bb⟩
   have hi:i < ak.length:=by have:=(af.mp hy).1;simpa using this
   have ey:y=.str (S ak[i]):=by
    have:(Ts ak)[i]?=some (.str (S ak[i])):=by simp[hi]
    rw[this]at hy;exact(ap hy).symm
   subst ey;have hwi:ak[i].length=w:=hb.iQ _ (ai _);obtain⟨y2,Ay⟩:=k2.2;refine⟨_,rfl,.inl ⟨rfl,_,aU.of hL2⟩,rfl,_,rfl,ak[i],rfl,λM hM=>?_⟩;have nRM:R≠M:=bU Ay hM;have nLM:L≠M:=bU hL2 hM;have hMH:H M=none:=by
    cases e:H M with
    | none=>rfl
    | some o=>rw[k2.1 _ _ e nRM.symm]at hM;cases hM
   refine uD (λj ys H3=>∃cs:List Nat,ys=Ts (ones cs)/\H3 M=some (.lst ys)/\Kp R H H3/\H3 L=some (.lst (Ts ms))/\cs.length=j/\∀c∈cs,R9 c) ⟨[],rfl,au,k2.new hMH nRM,by rw[aN nLM];exact hL2,rfl,λc h=>by simp at h⟩ ?_ ?_
   ·rintro j c ys H3 hj ⟨cs,rfl,lY,k3,sE,lc,Kw⟩
    have hjl:j < ak[i].length:=(af.mp hj).1;obtain⟨y3,sI⟩:=k3.2;refine⟨[46],12,rfl,rfl,by decide,by decide,by decide,[50,51,52,98,99,100],_,rfl,rfl,by decide,_,rfl,R,y3,18,rfl,sI,by decide,by decide,λd y4 hd=>?_⟩;have k4:=k3.trans (Kp.up (H:=H3) y4);have vD:upd H3 R (.lst [.int y4]) M=some (.lst (Ts (ones cs))):=by rw[aN nRM.symm];exact lY
    have jX:upd H3 R (.lst [.int y4]) L=some (.lst (Ts ms)):=by rw[aN Ba.symm];exact sE
    generalize upd H3 R (.lst [.int y4])=H4 at k4 vD jX ⊢;have afI:d < Ey.length:=by rw[show Ey.length=18 by decide];exact hd
    have hmk:R9 Ey[d]:=by
     have:∀x∈Ey,x∈MK:=by decide
     exact this _ (ai afI)
    refine⟨Ey,_,Ey[d],rfl,rfl,by decide,aG (ac afI),vD,by rw[aa,aa];exact aH (by lia),dZ.mk hjl ⟨cs++[Ey[d]],by rw[mW,Aw],au,k4.new hMH nRM,by rw[aN nLM];exact jX,by simp[lc],λe he=>?_⟩⟩;rcases a7.mp he with k | k
    ·exact Kw e k
    ·rw[aw.mp k];exact hmk
   ·rintro ys H3 ⟨cs,rfl,lY,k3,sE,lc,Kw⟩
    refine⟨M,ones cs,rfl,rfl,aU.of lY,by rw[vC];lia,?_⟩;rw[vC];refine⟨L,_,_,rfl,rfl,sE,by rw[aa];exact aH (by have:=hb.len;lia),?_⟩;refine⟨_,ms++[cs],rfl,k3.new hL Ba,by rw[au,mW],by simp[lr],λl hl=>?_⟩;rcases a7.mp hl with k | k
    ·exact Bb l k
    ·rw[aw.mp k];exact⟨by lia,Kw⟩
  ·rintro σ H2 ⟨v3,ms,rfl,k2,hL2,lr,Bb⟩
   rw[aa,hb.len]at lr;refine⟨_,rfl,L,_,rfl,.inl ⟨aU.of hL2,λT hT=>?_⟩⟩;exact q T ms _ (k2.same (aA.upd hT)) au ⟨lr,λl h=>(Bb l h).1⟩ λl h=>(Bb l h).2
def Og:Sp:=λvs H Q _=>∃(R:Addr) (x:Int) (p:Addr) (ak:AA) (r w:Nat),vs=[.ref R,.ref p]/\H R=some (.lst [.int x])/\H p=some (.tup (Ts ak))/\Blk r w ak/\1<=r/\r<=9/\1<=w/\w<=9/\
 ∀(t:Addr) (i j:Nat) (H':Hp),Kp R H H'->H' t=some (.tup [.int i,.int j])->i < r->j < w->Q (.ref t) H'
theorem XH (D:aK K mg "_law_begin" Di ["_law_rest_here","_law_rows_here"])(bx:mg "len"=none)(cL:bO P w K mg base "_law_take" 1 ["_law_rest_here","_law_base"] lC):bO P w K mg base "_law_begin" 2 ["_law_rest_here","_law_rows_here"] Og:=by
 refine D.dz N_ (λvs H Q E h=>?_) (λf bL A outer s H vs Q E hr h=>?_)
 ·obtain⟨R,x,p,ak,r,w,rfl,_⟩:=h
  rfl
 ·obtain⟨R,x,p,ak,r,w,rfl,hR,hp,hb,r1,r9,w1,w9,q⟩:=h
  have jx:(Ts ak).length=r:=by rw[aa,hb.len]
  have h0:0 < ak.length:=by rw[hb.len];lia
  have hw0:ak[0].length=w:=hb.iQ _ (ai _);have hz:ak[0].length<=sizeLine:=aE (aH (by lia));have nRp:p≠R:=λz=>by rw[z,hR]at hp;cases hp
  have hrw:1<=r*w:=Nat.mul_pos r1 w1;have ahB:r*w<=81:=eK r9 w9;have aay:(((Ts ak).length:Nat):Int)*((ak[0].length:Nat):Int)=((r*w:Nat):Int):=by rw[jx,hw0];push_cast;rfl
  refine⟨_,(aD (aQ (i:=2) N_.nd rfl (Or.inl rfl) (aV cL hr.mono rfl (aj (qv 0) (aj (bB qY (aO bQ (by rfl) bx aI (aj (qv 1) aq)) (aO cJ (by rfl) bx aI (aj (aP bf (qv 1) aB (λ_ _=>rfl)) aq))) aq)))) (aF (aY (cH (aj (bB pZ (qv 2) (aO cJ (by rfl) bx aI (aj (aP bf (qv 1) aB (λ_ _=>rfl)) aq))) (aj (bB oU (qv 2) (aO cJ (by rfl) bx aI (aj (aP bf (qv 1) aB (λ_ _=>rfl)) aq))) aq)))))),?_⟩;refine⟨_,rfl,_,rfl,p,_,rfl,.inr (aM.of hp),_,rfl,p,_,_,.str (S ak[0]),rfl,rfl,aM.of hp,aG (j:=0) (fY (by simp[h0])),_,rfl,hz,_,_,rfl,rfl,.inl ⟨by rw[jx];lia,by rw[jx];lia⟩,R,x,r*w,by show [V.ref R,V.int ((((Ts ak).length:Nat):Int)*((ak[0].length:Nat):Int))]=_;rw[aay],hR,hrw,by lia,λfr y hfr=>?_⟩;have k1:Kp R H (upd H R (.lst [.int y])):=Kp.up y;have hp1:=k1.1 _ _ hp nRp;generalize upd H R (.lst [.int y])=H1 at k1 hp1 ⊢;refine⟨_,rfl,_,rfl,p,_,_,.str (S ak[0]),rfl,rfl,aM.of hp1,aG (j:=0) (fY (by simp[h0])),_,rfl,hz,_,_,rfl,rfl,⟨by rw[hw0];lia,by rw[hw0];lia⟩,?_⟩;refine⟨_,rfl,_,rfl,p,_,_,.str (S ak[0]),rfl,rfl,aM.of hp1,aG (j:=0) (fY (by simp[h0])),_,rfl,hz,_,_,rfl,rfl,(by show (0:Int) < ((ak[0].length:Nat):Int);rw[hw0];lia),zsz 2,λt ht=>?_⟩;refine q t (fr/w) (fr%w) _ (k1.same (aA.upd ht)) ?_ (kD (by rw[lS];exact hfr)) (Nat.mod_lt _ w1);rw[au,hw0]
  push_cast
  rfl
def Ss:Sp:=λvs H Q _=>∃(p:Addr) (ak:AA) (r w:Nat) (i j:Int),vs=[.ref p,.int i,.int j]/\H p=some (.tup (Ts ak))/\Blk r w ak/\1<=r/\r<=9/\w<=9/\∀(b:Bool) (H':Hp),aA H H'->Q (.bl b) H'
def lM (ak:AA)(r w:Nat)(H:Hp)(a:Addr):Prop:=∃i j:Nat,H a=some (.tup [.int i,.int j])/\i < r/\j < w/\cell ak i j=46
theorem lM.iu {ak:AA}{r w:Nat}{H H':Hp}{a:Addr}(h:lM ak r w H a)(k:∀a xs,H a=some (.tup xs)->H' a=some (.tup xs)):lM ak r w H' a:=by
 obtain⟨i,j,e,b⟩:=h;exact⟨i,j,k _ _ e,b⟩
theorem Ky {ak:AA}{H:Hp}{r w:Nat}:∀{fs:List Addr},(∀a∈fs,lM ak r w H a)->∃ds,dw K H 1 ds (fs.map V.ref)/\ds.length=fs.length
 | [],_=>⟨[],.nil,rfl⟩
 | a::fs,h=>by
  obtain⟨ds,h1,h2⟩:=Ky (fs:=fs) λx hx=>h x (bb _ hx);obtain⟨i,j,e,_,_⟩:=h a bE;exact⟨.tup [.int i,.int j]::ds,.cons (.tup (aM.of e) (.cons (.int _) (.cons (.int _) .nil))) h1,by simp[h2]⟩
theorem lZ {H:Hp}{M:Addr}{ys zs:List V}(hM:H M=some (.lst ys)):∀a xs,H a=some (.tup xs)->upd H M (.lst zs) a=some (.tup xs):=λa xs e=>by
 have ne:a≠M:=λz=>by rw[z,hM]at e;cases e
 rw[aN ne];exact e
def Kz:Sp:=λvs H Q _=>∃(p:Addr) (ak:AA) (r w:Nat) (R:Addr) (x:Int),vs=[.ref p,.ref R]/\H R=some (.lst [.int x])/\H p=some (.tup (Ts ak))/\Blk r w ak/\1<=r/\r<=9/\1<=w/\w<=9/\(∃i j,i < r/\j < w/\cell ak i j=46)/\
 ∀(t:Addr) (i j:Nat) (H':Hp),Kp R H H'->H' t=some (.tup [.int i,.int j])->i < r->j < w->cell ak i j=46->Q (.ref t) H'
theorem UJ (D:aK K mg "_law_starts" yw ["_law_rows_here","_law_rest_here"])(bx:mg "len"=none)(cR:mg "range"=none)(cL:bO P w K mg base "_law_take" 1 ["_law_rest_here","_law_base"] lC)(Bc:bO P w K mg base "_law_is_near" 1 ["_law_rows_here","_law_row","_law_column"] Ss):bO P w K mg base "_law_starts" 2 ["_law_rows_here","_law_rest_here"] Kz:=by
 refine D.dz rE (λvs H Q E h=>?_) (λf bL A outer s H vs Q E hr h=>?_)
 ·obtain⟨p,ak,r,w,R,x,rfl,_⟩:=h
  rfl
 ·obtain⟨p,ak,r,w,R,x,rfl,hR,hp,hb,r1,r9,w1,w9,hfree,q⟩:=h
  have jx:(Ts ak).length=r:=by rw[aa,hb.len]
  have h0:0 < ak.length:=by rw[hb.len];lia
  have hw0:ak[0].length=w:=hb.iQ _ (ai _);refine⟨_,(aD (aQ (i:=2) rE.nd rfl (Or.inl rfl) (d7 aq)) (aD (aQ (i:=3) rE.nd rfl (Or.inl rfl) (d7 aq)) (aD (dh bu rfl (jW (by rfl) cR (aj (aO bQ (by rfl) bx aI (aj (qv 0) aq)) aq)) (bH (i:=4) rE.nd rfl (Or.inl rfl)) (aF (dh bu rfl (jW (by rfl) cR (aj (aO cJ (by rfl) bx aI (aj (aP bf (qv 0) aB (λ_ _=>rfl)) aq)) aq)) (bH (i:=5) rE.nd rfl (Or.inl rfl)) (aF (bW (bw rm (aP m5 (aP bf (qv 0) (qv 4) (λ_ _=>rfl)) (qv 5) (λ_ _=>rfl)) (bZ [46] (by decide +kernel)) (aZ _)) (aD (dD (fX bX de df gK (qv 2) (aj (cH (aj (qv 4) (aj (qv 5) aq))) aq))) (aF (bW (dj (aV Bc hr.mono rfl (aj (qv 0) (aj (qv 4) (aj (qv 5) aq))))) (aF (dD (fX bX de df gK (qv 3) (aj (cH (aj (qv 4) (aj (qv 5) aq))) aq)))) bC))) bC))))) (aD (bW (QW.qt (jq (bw (Ag hr.units) (qv 3) (d7 aq) (aZ _)) (lD (bw Gq (aV cL hr.mono rfl (aj (qv 1) (aj aB aq))) aB (aZ _))))) (aF (aY (aP dB (qv 3) (aV cL hr.mono rfl (aj (qv 1) (aj (aO bQ (by rfl) bx aI (aj (qv 3) aq)) aq))) (λ_ _=>rfl)))) bC) (aF (aY (aP dB (qv 2) (aV cL hr.mono rfl (aj (qv 1) (aj (aO bQ (by rfl) bx aI (aj (qv 2) aq)) aq))) (λ_ _=>rfl)))))))),?_⟩;refine⟨zsz 0,λF hF=>⟨zsz 0,λG hG=>?_⟩⟩;have sF:aA H (upd H F (HO.lst [])):=aA.upd hF;have hG0:=sF.free hG;have nFG:F≠G:=λz=>by rw[<- z,au]at hG;cases hG
  have sG:=sF.cD (o:=HO.lst []) hG0;refine⟨_,rfl,p,_,rfl,.inr (aM.of (sG _ _ hp)),_,rfl,by rw[jx];lia,by rw[jx];lia,?_⟩;rw[jx,c6];refine gH (lo:=0) (n:=r) (λi σ H2=>∃(v4 v5:Option V) (fs gs:List Addr),σ=[some (.ref p),some (.ref R),some (.ref F),some (.ref G),v4,v5]/\aA H H2/\H2 F=some (.lst (fs.map V.ref))/\H2 G=some (.lst (gs.map V.ref))/\(∀a∈fs,lM ak r w H2 a)/\(∀a∈gs,lM ak r w H2 a)/\fs.length<=i*9/\gs.length<=i*9/\∀i' j',i' < i->j' < w->cell ak i' j'=46->fs≠[])
   ⟨none,none,[],[],rfl,sG,by rw[aN nFG,au];rfl,au,λa h=>by simp at h,λa h=>by simp at h,b8 _,b8 _,λi' j' h=>by lia⟩ ?_ ?_
  ·rintro i σ H2 hi ⟨v4,v5,fs,gs,rfl,sm,XJ,hG2,okf,okg,lf,lg,hsome⟩
   refine⟨_,rfl,p,_,_,.str (S ak[0]),rfl,rfl,aM.of (sm _ _ hp),aG (j:=0) (fY (by simp[h0])),_,rfl,aE (aH (by lia)),_,rfl,by rw[hw0];lia,by rw[hw0];lia,?_⟩;rw[hw0,c6];refine gH (lo:=0) (n:=w) (λj σ H3=>∃(v5:Option V) (fs gs:List Addr),σ=[some (.ref p),some (.ref R),some (.ref F),some (.ref G),some (.int (0+(i:Int))),v5]/\aA H H3/\H3 F=some (.lst (fs.map V.ref))/\H3 G=some (.lst (gs.map V.ref))/\(∀a∈fs,lM ak r w H3 a)/\(∀a∈gs,lM ak r w H3 a)/\fs.length<=i*9+j/\gs.length<=i*9+j/\∀i' j',(i' < i\/(i'=i/\j' < j))->j' < w->cell ak i' j'=46->fs≠[])
    ⟨v5,fs,gs,rfl,sm,XJ,hG2,okf,okg,lf,lg,λi' j' h h1 h2=>hsome i' j' (by lia) h1 h2⟩ ?_ ?_
   ·rintro j σ H3 hj ⟨v5,fs,gs,rfl,s3,Hh,KC,Bd,Bf,lf3,lg3,Oh⟩
    have g1:i < ak.length:=by rw[hb.len];exact hi
    have hwi:ak[i].length=w:=hb.iQ _ (ai _);have g2:j < ak[i].length:=by lia
    have hce:=cell_eq g1 g2;refine⟨_,rfl,_,rfl,p,_,_,.str (S ak[i]),rfl,rfl,aM.of (s3 _ _ hp),by rw[gL];exact aG (fY (by simp[g1])),_,rfl,ak[i],_,ak[i][j],rfl,rfl,aE (aH (by lia)),by rw[gL];exact aG (by simp[g2]),[ak[i][j]],[46],rfl,rfl,_,rfl,?_⟩;rw[<- hce];by_cases hc:cell ak i j=46
    ·rw[ah (show [cell ak i j]=[46] by rw[hc])]
     refine bI ⟨_,rfl,.inl ⟨rfl,_,aU.of Hh⟩,_,rfl,_,rfl,zsz 2,λb hbn=>?_⟩;have k4:aA H3 (upd H3 b (HO.tup [.int (0+(i:Int)),.int (0+(j:Int))])):=aA.upd hbn;have zY:=k4 _ _ Hh;refine⟨F,_,_,rfl,rfl,zY,by rw[aa];exact aH (by lia),?_⟩;have hPb:lM ak r w (upd (upd H3 b (HO.tup [.int (0+(i:Int)),.int (0+(j:Int))])) F (HO.lst (fs.map V.ref++[V.ref b]))) b:=⟨i,j,lZ zY _ _ (by rw[au,gL,gL]),hi,hj,hc⟩
     have aaz:∀a∈fs++[b],lM ak r w (upd (upd H3 b (HO.tup [.int (0+(i:Int)),.int (0+(j:Int))])) F (HO.lst (fs.map V.ref++[V.ref b]))) a:=λa ha=>by
      rcases a7.mp ha with z | z
      ·exact((Bd a z).iu λa xs e=>k4 a _ e).iu (lZ zY)
      ·rw[aw.mp z];exact hPb
     have aaA:∀a∈gs,lM ak r w (upd (upd H3 b (HO.tup [.int (0+(i:Int)),.int (0+(j:Int))])) F (HO.lst (fs.map V.ref++[V.ref b]))) a:=λa ha=>((Bf a ha).iu λa xs e=>k4 a _ e).iu (lZ zY);have Sv:upd (upd H3 b (HO.tup [.int (0+(i:Int)),.int (0+(j:Int))])) F (HO.lst (fs.map V.ref++[V.ref b])) F=some (.lst ((fs++[b]).map V.ref)):=by rw[au];simp
     have hG5:upd (upd H3 b (HO.tup [.int (0+(i:Int)),.int (0+(j:Int))])) F (HO.lst (fs.map V.ref++[V.ref b])) G=some (.lst (gs.map V.ref)):=by rw[aN nFG.symm];exact k4 _ _ KC
     have s5:aA H (upd (upd H3 b (HO.tup [.int (0+(i:Int)),.int (0+(j:Int))])) F (HO.lst (fs.map V.ref++[V.ref b]))):=(s3.trans k4).cD hF;generalize upd (upd H3 b (HO.tup [.int (0+(i:Int)),.int (0+(j:Int))])) F (HO.lst (fs.map V.ref++[V.ref b]))=H5 at aaz aaA Sv hG5 s5 ⊢;refine⟨_,rfl,_,rfl,_,rfl,p,ak,r,w,(i:Int),(j:Int),by show [V.ref p,V.int (0+(i:Int)),V.int (0+(j:Int))]=_;rw[gL,gL],s5 _ _ hp,hb,r1,r9,w9,λbb H6 s6=>⟨_,rfl,?_⟩⟩;refine iZ (λ_=>?_) (λ_=>?_)
     ·have hG6:=s6 _ _ hG5
      refine⟨_,rfl,.inl ⟨rfl,_,aU.of hG6⟩,_,rfl,_,rfl,zsz 2,λb2 hb2=>?_⟩;have k7:aA H6 (upd H6 b2 (HO.tup [.int (0+(i:Int)),.int (0+(j:Int))])):=aA.upd hb2;have hG7:=k7 _ _ hG6;refine⟨G,_,_,rfl,rfl,hG7,by rw[aa];exact aH (by lia),?_⟩;refine⟨_,fs++[b],gs++[b2],rfl,((s5.trans s6).trans k7).cD hG0,by rw[aN nFG];exact k7 _ _ (s6 _ _ Sv),by rw[au];simp,λa ha=>?_,λa ha=>?_,by simp;lia,by simp;lia,λ_ _ _ _ _=>by simp⟩
      ·exact(((aaz a ha).iu λa xs e=>s6 a _ e).iu λa xs e=>k7 a _ e).iu (lZ hG7)
      ·rcases a7.mp ha with z | z
       ·exact(((aaA a z).iu λa xs e=>s6 a _ e).iu λa xs e=>k7 a _ e).iu (lZ hG7)
       ·rw[aw.mp z]
        exact⟨i,j,lZ hG7 _ _ (by rw[au,gL,gL]),hi,hj,hc⟩
     ·exact⟨_,fs++[b],gs,rfl,s5.trans s6,s6 _ _ Sv,s6 _ _ hG5,λa ha=>(aaz a ha).iu λa xs e=>s6 a _ e,λa ha=>(aaA a ha).iu λa xs e=>s6 a _ e,by simp;lia,by lia,λ_ _ _ _ _=>by simp⟩
    ·rw[ae (show ¬[cell ak i j]=[46] from λz=>hc (by injection z))]
     refine aX ⟨_,fs,gs,rfl,s3,Hh,KC,Bd,Bf,by lia,by lia,λi' j' h h1 h2=>?_⟩;by_cases he:i'=i/\j'=j
     ·rw[he.1,he.2]at h2;exact absurd h2 hc
     ·exact Oh i' j' (by lia) h1 h2
   ·rintro σ H3 ⟨v5,fs,gs,rfl,s3,Hh,KC,Bd,Bf,lf3,lg3,Oh⟩
    exact⟨_,_,fs,gs,rfl,s3,Hh,KC,Bd,Bf,by lia,by lia,λi' j' h h1 h2=>Oh i' j' (by lia) h1 h2⟩
  ·rintro σ H2 ⟨v4,v5,fs,gs,rfl,sm,XJ,hG2,okf,okg,lf,lg,hsome⟩
   have afJ:fs≠[]:=by
    obtain⟨i,j,hi,hj,hc⟩:=hfree;exact hsome i j hi hj hc
   have Ay:=sm _ _ hR;have last:∀(H4:Hp) (y:Int) (v:Nat) (F':Addr) (hs:List Addr),hs≠[]->hs.length<=81->H4 R=some (.lst [.int y])->Kp R H H4->F'≠R->H4 F'=some (.lst (hs.map V.ref))->(∀a∈hs,lM ak r w H4 a)->([some (.ref p),some (.ref R),some (.ref F),some (.ref G),v4,v5]:St)[v]?=some (some (.ref F'))->
     Zw (sy (aeW K) (gY v) (Gs lC [] E0 (j4 (gY 1) (j4 (M7 (λxs H Q=>∃p ys,xs=[.ref p]/\(aU K H p ys\/aM K H p ys)/\Q (.int ys.length) H) (j4 (gY v) oW)) oW)))) { nx:=λx H'=>Q V.non H',rt:=Q } [some (.ref p),some (.ref R),some (.ref F),some (.ref G),v4,v5] H4:=λH4 y v F' hs hne hle Eb k4 nF zY ok hv=>by
    have hl0:0 < hs.length:=kK.mpr hne;refine⟨_,hv,_,rfl,_,hv,F',_,rfl,.inl (aU.of zY),R,y,hs.length,by show [V.ref R,V.int ((hs.map V.ref).length:Nat)]=_;rw[aa],Eb,hl0,by lia,λd y5 hd=>?_⟩;have k5:=Kp.up (R:=R) (H:=H4) y5;obtain⟨i,j,e,hi,hj,hc⟩:=ok _ (ai hd);exact⟨F',_,_,.ref hs[d],rfl,rfl,aU.of (by rw[aN nF];exact zY),aG (j:=d) (by simp[hd]),q hs[d] i j _ (k4.trans k5) (k5.tup Eb _ _ e) hi hj hc⟩
   refine⟨_,rfl,zsz 0,λe he=>?_⟩;have k3:aA H2 (upd H2 e (HO.lst [])):=aA.upd he;have Bd:∀a∈fs,lM ak r w (upd H2 e (HO.lst [])) a:=λa ha=>(okf a ha).iu λa xs z=>k3 a _ z;have Bf:∀a∈gs,lM ak r w (upd H2 e (HO.lst [])) a:=λa ha=>(okg a ha).iu λa xs z=>k3 a _ z;obtain⟨es,hes,hel⟩:=Ky (K:=K) Bf;have he3:upd H2 e (HO.lst []) e=some (.lst []):=au;have Hh:=k3 _ _ XJ;have KC:=k3 _ _ hG2;have s3:=sm.trans k3;have sI:=k3 _ _ Ay;have nFR:F≠R:=λz=>by rw[<- z]at hR;rw[hF]at hR;cases hR
   have nGR:G≠R:=λz=>by rw[<- z]at hR;rw[hG0]at hR;cases hR
   generalize upd H2 e (HO.lst [])=H3 at k3 Bd Bf hes he3 Hh KC s3 sI ⊢;refine⟨2,.lst es,.lst [],by decide,.lst (aU.of KC) hes,.lst (aU.of he3) .nil,_,rfl,?_⟩;have afK:fs.length<=81:=by have:=eK r9 w9;lia
   have ahD:gs.length<=81:=by have:=eK r9 w9;lia
   by_cases hz:gs=[]
   ·have ez:es=[]:=ie (by rw[hel,hz];rfl)
    subst ez;simp only[if_true,decide_true,iE];exact aX (aX (last H3 x 2 F fs afJ afK sI (Kp.of hR s3) nFR Hh Bd rfl))
   ·have ez:¬Dt.lst es=Dt.lst []:=λy=>hz (by
     injection y with y;rw[y]at hel;exact ie hel.symm)
    simp only[if_true,ez,decide_false,mi];refine⟨_,rfl,R,x,4,rfl,sI,by decide,by decide,λd y hd=>?_⟩;have k4:=Kp.up (R:=R) (H:=H3) y;have k34:=(Kp.of hR s3).trans k4;have tp:∀a xs,H3 a=some (.tup xs)->upd H3 R (.lst [.int y]) a=some (.tup xs):=k4.tup sI;refine⟨_,_,rfl,rfl,_,rfl,iZ (λ_=>?_) (λ_=>?_)⟩
    ·exact last _ y 3 G gs hz ahD au k34 nGR (by rw[aN nGR];exact KC) (λa ha=>(Bf a ha).iu tp) rfl
    ·exact last _ y 2 F fs afJ afK au k34 nFR (by rw[aN nFR];exact Hh) (λa ha=>(Bd a ha).iu tp) rfl
def atC (ak:AA)(r w:Nat)(i j:Int):Nat:=if 0<=i/\i < r/\0<=j/\j < w then (ak.getD i.toNat []).getD j.toNat 0 else 46
def UL (C:Addr):Sp:=λvs H Q _=>∃(p:Addr) (r w:Nat) (ak aW:AA) (bi bj:Nat) (i j:Int),vs=[.ref p,.int i,.int j]/\fD C H p r w ak aW bi bj/\Q (.str (S [atC ak r w i j])) H
theorem agV {f C:Addr}{fd:FuncData}(F:gM K "at" "Board.at" kh f fd)(T:gW K C)(eV:∃t,mg "FREE"=some (.str (S [46]) t))(lX:bO P w K mg base "is_cell_of" 2 ["rows","row","column"] (Ew K)):cP P w K mg base fZ 3 f fd ["self","row","column"] (UL C):=by
 refine F.dz Q6 (λvs H Q E h=>?_) (λbL A outer s H vs Q E hr h=>?_)
 ·obtain⟨p,r,w,ak,aW,bi,bj,i,j,rfl,_⟩:=h
  rfl
 ·obtain⟨p,r,w,ak,aW,bi,bj,i,j,rfl,B,q⟩:=h
  obtain⟨⟨dx,pr,pm,pb,hp,hr',hm,hb⟩,O⟩:=B;have w9:=O.w9;refine⟨_,(aF (aY (qg (dj (aV lX hr.mono rfl (aj (jr (qv 0) rfl) (aj (qv 1) (aj (qv 2) aq))))) (aP m5 (aP bf (jr (qv 0) rfl) (qv 1) (λ_ _=>rfl)) (qv 2) (λ_ _=>rfl)) (sU (by rfl) eV)))),?_⟩;refine⟨_,rfl,p,C,dx,_,_,rfl,hp,T.cl,T.nr,rfl,_,rfl,_,rfl,pr,ak,r,w,i,j,rfl,aM.of hr',O.br,O.r1,O.r9,O.w9,_,rfl,?_⟩;by_cases h:0<=i/\i < r/\0<=j/\j < w
  ·rw[ah h]
   have e:atC ak r w i j=(ak.getD i.toNat []).getD j.toNat 0:=if_pos h;rw[e]at q;obtain⟨i,rfl⟩:∃k:Nat,i=k:=⟨i.toNat,by lia⟩
   obtain⟨j,rfl⟩:∃k:Nat,j=k:=⟨j.toNat,by lia⟩
   rw[c6,c6]at q;have hi:i < ak.length:=by rw[O.br.len];lia
   have hgi:ak[i]?=some (ak.getD i []):=by rw[ax,ac hi];rfl
   have hw:(ak.getD i []).length=w:=O.br.iQ _ (bc hgi);have hgj:(ak.getD i [])[j]?=some ((ak.getD i []).getD j 0):=by rw[ax (l:=ak.getD i []),ac (by lia)];rfl
   refine bI ⟨_,rfl,p,C,dx,_,_,rfl,hp,T.cl,T.nr,rfl,_,rfl,pr,_,_,_,rfl,rfl,aM.of hr',aG (fY hgi),_,rfl,_,_,_,rfl,rfl,aE (aH (by lia)),aG hgj,q⟩
  ·rw[ae h]
   have e:atC ak r w i j=46:=if_neg h;rw[e]at q;exact aX q
def isFree (ak:AA):Bool:=ak.flatten.all λc=>decide ([c]=[46])
def XM (C:Addr):Sp:=λvs H Q _=>∃(p:Addr) (r w:Nat) (ak aW:AA) (bi bj:Nat),vs=[.ref p]/\fD C H p r w ak aW bi bj/\∀H',aA H H'->Q (.bl (isFree ak)) H'
theorem UW {f C:Addr}{fd:FuncData}(F:gM K "is_free" "Board.is_free" gw f fd)(T:gW K C)(fM:mg "all"=none)(eV:∃t,mg "FREE"=some (.str (S [46]) t)):cP P w K mg base fZ 1 f fd ["self"] (XM C):=by
 refine F.dz uI (λvs H Q E h=>?_) (λbL A outer s H vs Q E hr h=>?_)
 ·obtain⟨p,r,w,ak,aW,bi,bj,rfl,_⟩:=h
  rfl
 ·obtain⟨p,r,w,ak,aW,bi,bj,rfl,B,q⟩:=h
  obtain⟨⟨dx,pr,pm,pb,hp,hr',hm,hb⟩,O⟩:=B;have hrw:r*w<=81:=eK O.r9 O.w9;have hfl:=Eu O.br;refine⟨_,(aF (aY (aO (jA rfl) (by rfl) fM jt (aj (jQ rfl (i_.of uI.nd (by kernel_rfl)) (uz (fX bg dC dE Er (bZ [] (by decide +kernel)) (aj (jr (qv 0) rfl) aq))) (λ_ _ _ _ _=>cZ) (λ_ _ _ _ _=>(dU rm (qv 0) (sU (by rfl) eV) (aZ _)))) aq)))),?_⟩;refine⟨rfl,_,rfl,p,C,dx,_,_,rfl,hp,T.cl,T.nr,rfl,pr,ak,rfl,rfl,aM.of hr',by lia,_,rfl,λL hL=>?_⟩;refine uD (λi ys H2=>ys=((ak.flatten.take i).map λc=>decide ([c]=[46])).map V.bl/\H2 L=some (.lst ys)/\aA H H2) ⟨rfl,au,aA.upd hL⟩ ?_ ?_
  ·rintro i c ys H2 hi ⟨rfl,hL2,sm⟩
   have hil:i < ak.flatten.length:=(af.mp hi).1;refine⟨_,rfl,[c],[46],rfl,rfl,hL2,?_,dZ.mk hil ⟨?_,au,sm.cD hL⟩⟩
   ·rw[aa,aa,ay];exact aH (by lia)
   ·rw[bo,hi];simp
  ·rintro ys H2 ⟨rfl,hL2,sm⟩
   rw[bz]at hL2;refine⟨L,_,rfl,aU.of hL2,?_⟩;have e:((ak.flatten.map λc=>decide ([c]=[46])).all id)=isFree ak:=by
    unfold isFree;rw[List.all_map];rfl
   rw[e];exact q H2 sm
def vG (ak:AA)(j:Nat):List Nat:=ak.map λl=>l.getD j 0
def lineOf (ak:AA)(i j:Nat)(way:Int):List Nat:=if way=0 then ak.getD i [] else vG ak j
def placeOf (i j:Nat)(way:Int):Nat:=if way=0 then j else i
def ab8:Sp:=λvs H Q _=>∃(p:Addr) (ak:AA) (r w j:Nat),vs=[.ref p,.int j]/\H p=some (.tup (Ts ak))/\Blk r w ak/\r<=9/\w<=9/\j < w/\∀H',aA H H'->Q (.str (S (vG ak j))) H'
theorem Jc (D:aK K mg "column_text" nQ ["rows","column"]):bO P w K mg base "column_text" 1 ["rows","column"] ab8:=by
 refine D.dz xH (λvs H Q E h=>?_) (λf bL A outer s H vs Q E hr h=>?_)
 ·obtain⟨p,ak,r,w,j,rfl,_⟩:=h
  rfl
 ·obtain⟨p,ak,r,w,j,rfl,hp,hb,r9,w9,hj,q⟩:=h
  refine⟨_,(aF (aY (fX bg dC dE xq (bZ [] (by decide +kernel)) (aj (jQ rfl (i_.of xH.nd (by kernel_rfl)) (dW (qv 0)) (λ_ _ _ _ _=>cZ) (λ_ _ _ _ _=>(aP m5 (qv 0) (qv 2) (λ_ _=>rfl)))) aq)))),?_⟩;have jx:(Ts ak).length=r:=by rw[aa,hb.len]
  refine⟨rfl,_,rfl,p,rfl,⟨_,aM.of hp⟩,λL hL=>uE (xs:=Ts ak) (λi ys H2=>ys=Ts (ones ((ak.take i).map λl=>l.getD j 0))/\H2 L=some (.lst ys)/\aA H H2) ⟨rfl,au,aA.upd hL⟩ (λi ys H2 _ h=>aM.of (h.2.2 _ _ hp)) ?_ ?_⟩
  ·rintro i x ys H2 hi ⟨rfl,hL2,sm⟩
   obtain⟨l,hl,rfl⟩:=uL hi;have hil:i < (Ts ak).length:=(af.mp hi).1;have pq:l.length=w:=hb.iQ _ (bc hl);refine⟨_,rfl,_,rfl,l,_,l.getD j 0,rfl,rfl,aE (aH (by lia)),?_,hL2,?_,dZ.mk hil ⟨?_,au,sm.cD hL⟩⟩
   ·exact aG (by rw[ax,ac (by lia)];rfl)
   ·rw[aa,aa,aa,ay];exact aH (by lia)
   ·rw[mW,Aw,bo,hl]
    simp
  ·rintro ys H2 ⟨rfl,hL2,sm⟩
   rw[jx,<- hb.len,bz]at hL2;refine⟨L,_,rfl,rfl,aU.of hL2,?_,?_⟩
   ·rw[vC,aa,hb.len];lia
   ·rw[vC];exact q H2 sm
theorem pB {r w:Nat}{ak:AA}(hb:Blk r w ak){i j:Nat}(hi:i < r){way:Int}:(lineOf ak i j way).length=if way=0 then w else r:=by
 unfold lineOf;by_cases h:way=0
 ·rw[if_pos h,if_pos h,ax,ac (by rw[hb.len];exact hi)]
  exact hb.iQ _ (ai _)
 ·rw[if_neg h,if_neg h];unfold vG;rw[aa,hb.len]
structure Run (l:List Nat)(k:Nat) where
 ahead:List Nat
 signs:List Nat
theorem oK (l:List Nat):(dM l).length<=l.length:=by
 unfold dM;rw[iL];exact b9 (List.takeWhile_prefix _).length_le (by rw[iL];exact al _)
theorem vH (l:List Nat):(fG l).length<=l.length:=(List.takeWhile_prefix _).length_le
def aaB (i j:Nat)(way:Int)(l:List Nat):List V:=
 if way=0 then [.int i,.int ((j:Int)-(dM (l.take j)).length),.str (S (dM (l.take j)++fG (l.drop j)))] else [.int ((i:Int)-(dM (l.take i)).length),.int j,.str (S (dM (l.take i)++fG (l.drop i)))]
def ab9 (C:Addr):Sp:=λvs H Q _=>∃(p:Addr) (r w:Nat) (ak aW:AA) (bi bj i j:Nat) (way:Int),vs=[.ref p,.int i,.int j,.int way]/\fD C H p r w ak aW bi bj/\i < r/\j < w/\(way=0\/way=1)/\
 ∀(t:Addr) (H':Hp),aA H H'->H t=none->H' t=some (.tup (aaB i j way (lineOf ak i j way)))->Q (.ref t) H'
theorem afL {f C:Addr}{fd:FuncData}(F:gM K "run" "Board.run" jC f fd)(T:gW K C)(bx:mg "len"=none)(eV:∃t,mg "FREE"=some (.str (S [46]) t))(LK:bO P w K mg base "column_text" 1 ["rows","column"] ab8):cP P w K mg base fZ 2 f fd ["self","row","column","way"] (ab9 C):=by
 refine F.dz jU (λvs H Q E h=>?_) (λbL A outer s H vs Q E hr h=>?_)
 ·obtain⟨p,r,w,ak,aW,bi,bj,i,j,way,rfl,_⟩:=h
  rfl
 ·obtain⟨p,r,w,ak,aW,bi,bj,i,j,way,rfl,B,hi,hj,ahE,q⟩:=h
  obtain⟨⟨dx,pr,pm,pb,hp,hr',hm,hb⟩,O⟩:=B;have r9:=O.r9;have w9:=O.w9;refine⟨_,(aD (aQ (i:=4) jU.nd rfl (Or.inl rfl) (qg (bw fW (qv 3) aB (aZ _)) (aP bf (jr (qv 0) rfl) (qv 1) (λ_ _=>rfl)) (aV LK hr.mono rfl (aj (jr (qv 0) rfl) (aj (qv 2) aq))))) (aD (aQ (i:=5) jU.nd rfl (Or.inl rfl) (qg (bw fW (qv 3) aB (aZ _)) (qv 2) (qv 1))) (aD (aQ (i:=6) jU.nd rfl (Or.inl rfl) (aP bf (fX bg PySem.F.slot_str_rpartition PySem.F.type_str_rpartition aac (j8 T9 (qv 4) oF (lE (qv 5))) (aj (sU (by rfl) eV) aq)) aB (λ_ _=>rfl))) (aD (aQ (i:=7) jU.nd rfl (Or.inl rfl) (bB iT (qv 6) (aP bf (fX bg PySem.F.slot_str_partition PySem.F.type_str_partition acY (j8 T9 (qv 4) (lE (qv 5)) oF) (aj (sU (by rfl) eV) aq)) aB (λ_ _=>rfl)))) (aD (aQ (i:=8) jU.nd rfl (Or.inl rfl) (bB iD (qv 5) (aO cJ (by rfl) bx aI (aj (qv 6) aq)))) (aF (aY (qg (bw fW (qv 3) aB (aZ _)) (cH (aj (qv 1) (aj (qv 8) (aj (qv 7) aq)))) (cH (aj (qv 8) (aj (qv 2) (aj (qv 7) aq)))))))))))),?_⟩;have hgi:ak[i]?=some (ak.getD i []):=by rw[ax,ac (by rw[O.br.len];exact hi)];rfl
  rcases ahE with rfl | rfl
  ·have hll:(lineOf ak i j 0).length=w:=pB O.br hi
   have el:ak.getD i []=lineOf ak i j 0:=rfl;rw[el]at hgi;have hz:∀l:List Nat,l.length<=100->l.length<=sizeLine:=λl h=>aE (aH (by lia));refine⟨_,rfl,rfl,_,rfl,bI ?_⟩;refine⟨_,rfl,p,C,dx,_,_,rfl,hp,T.cl,T.nr,rfl,_,rfl,pr,_,_,_,rfl,rfl,aM.of hr',aG (fY hgi),?_⟩;generalize hL:lineOf ak i j 0=l at hll hgi ⊢;refine⟨_,rfl,rfl,_,rfl,bI ⟨_,rfl,?_⟩⟩;refine⟨_,rfl,_,rfl,_,rfl,l,rfl,hz _ (by lia),rfl,?_⟩;rw[W4];refine⟨_,rfl,rfl,by rw[ay];lia,λp1 a1 b1 hp1=>?_⟩;refine⟨p1,_,_,_,rfl,rfl,aM.of au,aG (j:=2) rfl,?_⟩;have s1:aA H (upd H p1 (.tup [.str a1,.str b1,.str (S (dM (l.take j)))])):=aA.upd hp1;generalize upd H p1 (.tup [.str a1,.str b1,.str (S (dM (l.take j)))])=H1 at s1 ⊢;have t1:=oK (l.take j);have t2:=vH (l.drop j);rw[ay]at t1;rw[bt]at t2;refine⟨_,rfl,_,rfl,_,rfl,_,rfl,l,rfl,hz _ (by lia),rfl,?_⟩;rw[Nt];refine⟨_,rfl,rfl,by rw[bt];lia,λp2 b2 c2 hp2=>?_⟩;refine⟨p2,_,_,_,rfl,rfl,aM.of au,aG (j:=0) rfl,_,_,rfl,rfl,aE (aH (by lia)),?_⟩;have s2:=s1.cD (o:=HO.tup [.str (S (fG (l.drop j))),.str b2,.str c2]) (s1.free hp2);generalize upd H1 p2 (HO.tup [.str (S (fG (l.drop j))),.str b2,.str c2])=H2 at s2 ⊢;refine⟨_,rfl,_,rfl,_,rfl,hz _ (by lia),_,_,rfl,rfl,?_⟩;refine⟨_,rfl,rfl,_,rfl,bI ?_⟩;refine⟨_,rfl,_,rfl,_,rfl,zsz 3,λt ht=>?_⟩;exact q t _ (s2.cD (s2.free ht)) (s2.free ht) (by rw[au,hL];rfl)
  ·have hll:(lineOf ak i j 1).length=r:=pB O.br hi
   have el:vG ak j=lineOf ak i j 1:=rfl;have hz:∀l:List Nat,l.length<=100->l.length<=sizeLine:=λl h=>aE (aH (by lia));refine⟨_,rfl,rfl,_,rfl,aX ?_⟩;refine⟨_,rfl,p,C,dx,_,_,rfl,hp,T.cl,T.nr,rfl,_,rfl,pr,ak,r,w,j,rfl,hr',O.br,r9,w9,hj,λH0 s0=>?_⟩;rw[el];generalize hL:lineOf ak i j 1=l at hll ⊢;refine⟨_,rfl,rfl,_,rfl,aX ⟨_,rfl,?_⟩⟩;refine⟨_,rfl,_,rfl,_,rfl,l,rfl,hz _ (by lia),rfl,?_⟩;rw[W4];refine⟨_,rfl,rfl,by rw[ay];lia,λp1 a1 b1 hp1=>?_⟩;refine⟨p1,_,_,_,rfl,rfl,aM.of au,aG (j:=2) rfl,?_⟩;have s1:aA H (upd H0 p1 (.tup [.str a1,.str b1,.str (S (dM (l.take i)))])):=s0.cD (s0.free hp1);generalize upd H0 p1 (.tup [.str a1,.str b1,.str (S (dM (l.take i)))])=H1 at s1 ⊢;have t1:=oK (l.take i);have t2:=vH (l.drop i);rw[ay]at t1;rw[bt]at t2;refine⟨_,rfl,_,rfl,_,rfl,_,rfl,l,rfl,hz _ (by lia),rfl,?_⟩;rw[Nt];refine⟨_,rfl,rfl,by rw[bt];lia,λp2 b2 c2 hp2=>?_⟩;refine⟨p2,_,_,_,rfl,rfl,aM.of au,aG (j:=0) rfl,_,_,rfl,rfl,aE (aH (by lia)),?_⟩;have s2:=s1.cD (o:=HO.tup [.str (S (fG (l.drop i))),.str b2,.str c2]) (s1.free hp2);generalize upd H1 p2 (HO.tup [.str (S (fG (l.drop i))),.str b2,.str c2])=H2 at s2 ⊢;refine⟨_,rfl,_,rfl,_,rfl,hz _ (by lia),_,_,rfl,rfl,?_⟩;refine⟨_,rfl,rfl,_,rfl,aX ?_⟩;refine⟨_,rfl,_,rfl,_,rfl,zsz 3,λt ht=>?_⟩;exact q t _ (s2.cD (s2.free ht)) (s2.free ht) (by rw[au,hL];rfl)
abbrev bA:=Nat × Nat × Nat
def rk (t:bA):Nat:=t.1*1000+t.2.1
def xP (H:Hp)(a:Addr)(t:bA):Prop:=H a=some (.tup [.int t.1,.int t.2.1,.str (S [t.2.2])])
def tO (H:Hp)(a:Addr):bA:=match H a with
 | some (.tup [.int x,.int y,.str z])=>(x.toNat,y.toNat,z.cps.toList.headD 0)
 | _=>(0,0,0)
theorem Hi {H:Hp}{a:Addr}{t:bA}(h:xP H a t):tO H a=t:=by
 unfold tO;rw[show H a=_ from h];rfl
structure cT (H:Hp)(as:List Addr)(ts:List bA):Prop where
 at_:∀a∈as,xP H a (tO H a)
 eq:as.map (tO H)=ts
theorem cT.iu {H H':Hp}{as:List Addr}{ts:List bA}(k:∀a xs,H a=some (.tup xs)->H' a=some (.tup xs))(h:cT H as ts):cT H' as ts:=by
 have e:∀a∈as,tO H' a=tO H a:=λa ha=>Hi (k a _ (h.at_ a ha));exact⟨λa ha=>by rw[e a ha];exact k a _ (h.at_ a ha),by rw[<- h.eq];exact e7 e⟩
theorem cT.mv {H H':Hp}{as:List Addr}{ts:List bA}(k:aA H H')(h:cT H as ts):cT H' as ts:=h.iu λa xs e=>k a _ e
theorem Oi {H:Hp}{M:Addr}{ys zs:List V}(hM:H M=some (.lst ys)):∀a xs,H a=some (.tup xs)->upd H M (.lst zs) a=some (.tup xs):=λa xs e=>by
 have ne:a≠M:=λz=>by rw[z,hM]at e;cases e
 rw[aN ne];exact e
theorem cT.snoc {H:Hp}{as:List Addr}{ts:List bA}{a:Addr}{t:bA}(h:cT H as ts)(ha:xP H a t):cT H (as++[a]) (ts++[t]):=by
 refine⟨λb hb=>?_,by rw[bS,h.eq,iX,Hi ha]⟩;rcases a7.mp hb with z | z
 ·exact h.at_ b z
 ·rw[aw.mp z,Hi ha];exact ha
theorem cT.nil {H:Hp}:cT H [] []:=⟨λa h=>by simp at h,rfl⟩
theorem cT.len {H:Hp}{as:List Addr}{ts:List bA}(h:cT H as ts):as.length=ts.length:=by rw[<- h.eq,aa]
theorem cT.get {H:Hp}{as:List Addr}{ts:List bA}(h:cT H as ts){i:Nat}(hi:i < as.length):∃t,ts[i]?=some t/\xP H as[i] t:=
 ⟨tO H as[i],by rw[<- h.eq];simp[hi],h.at_ _ (ai _)⟩
def setAt (R:AA)(i j z:Nat):List (List Nat):=R.set i ((R.getD i []).set j z)
def b_ (R:AA)(ts:List bA):List (List Nat):=ts.foldl (λR t=>setAt R t.1 t.2.1 t.2.2) R
theorem Jd {r w:Nat}{R:AA}(h:Blk r w R){i j z:Nat}(hi:i < r):Blk r w (setAt R i j z):=by
 refine⟨by unfold setAt;rw[dP,h.len],λl hl=>?_⟩;rcases dv hl with y | y
 ·exact h.iQ l y
 ·rw[y,dP,ax,ac (by rw[h.len];exact hi)]
  exact h.iQ _ (ai _)
theorem adn {r w:Nat}{R:AA}(h:Blk r w R){i j z:Nat}(hi:i < r){Pc:Nat->Prop}(hp:∀l∈R,∀c∈l,Pc c)(hz:Pc z):∀l∈setAt R i j z,∀c∈l,Pc c:=λl hl c hc=>by
 rcases dv hl with y | y
 ·exact hp l y c hc
 ·rw[y]at hc
  rcases dv hc with u | u
  ·rw[ax,ac (by rw[h.len];exact hi)]at u
   exact hp _ (ai _) c u
  ·rw[u];exact hz
def inB (r w:Nat)(t:bA):Prop:=t.1 < r/\t.2.1 < w/\pP t.2.2
theorem jE {r w:Nat}:∀{ts:List bA} {R:AA},Blk r w R->(∀t∈ts,inB r w t)->Blk r w (b_ R ts)
 | [],_,h,_=>h
 | t::ts,_,h,k=>jE (ts:=ts) (Jd h (k t bE).1) λx hx=>k x (bb _ hx)
theorem uM {r w:Nat}:∀{ts:List bA} {R:AA},Blk r w R->(∀t∈ts,inB r w t)->(∀l∈R,∀c∈l,rG c)->∀l∈b_ R ts,∀c∈l,rG c
 | [],_,_,_,g=>g
 | t::ts,_,h,k,g=>uM (ts:=ts) (Jd h (k t bE).1) (λx hx=>k x (bb _ hx)) (adn h (k t bE).1 g (.inr (k t bE).2.2))
theorem aaC {r w:Nat}{ak aW:AA}{bi bj:Nat}(B:R_ r w ak aW bi bj){ts:List bA}(k:∀t∈ts,inB r w t):R_ r w (b_ ak ts) aW bi bj:=
 ⟨B.r1,B.r9,B.w1,B.w9,jE B.br k,B.bm,uM B.br k B.cr,B.cm,B.bi,B.bj⟩
theorem KD (R:AA)(ts:List bA)(t:bA):b_ R (ts++[t])=setAt (b_ R ts) t.1 t.2.1 t.2.2:=by unfold b_;rw[List.foldl_append];rfl
structure d_ (H0 H:Hp)(ps:List Addr)(R:AA):Prop where
 len:ps.length=R.length
 nd:ps.Nodup
 fr:∀p∈ps,H0 p=none
 at_:∀(i:Nat) (h:i < ps.length),H ps[i]=some (.lst (Ts (ones (R.getD i []))))
theorem d_.mv {H0 H H':Hp}{ps:List Addr}{R:AA}(h:d_ H0 H ps R)(k:∀p∈ps,H' p=H p):d_ H0 H' ps R:=
 ⟨h.len,h.nd,h.fr,λi hi=>by rw[k _ (ai _)];exact h.at_ i hi⟩
theorem d_.KH {H0 H H':Hp}{ps:List Addr}{R:AA}(h:d_ H0 H ps R)(k:aA H H'):d_ H0 H' ps R:=
 ⟨h.len,h.nd,h.fr,λi hi=>k _ _ (h.at_ i hi)⟩
theorem d_.snoc {H0 H:Hp}{ps:List Addr}{R:AA}(h:d_ H0 H ps R){p:Addr}{l:List Nat}(hn:p∉ps)(h0:H0 p=none)(hp:H p=some (.lst (Ts (ones l)))):d_ H0 H (ps++[p]) (R++[l]):=by
 refine⟨by simp[h.len],?_,λx hx=>?_,λi hi=>?_⟩
 ·rw[List.nodup_append]
  refine⟨h.nd,by simp,λa ha b hb=>?_⟩;rw[aw.mp hb];exact λz=>hn (z ▸ ha)
 ·rcases a7.mp hx with z | z
  ·exact h.fr x z
  ·rw[aw.mp z];exact h0
 ·by_cases c:i < ps.length
  ·rw[List.getElem_append_left c,h.at_ i c,ax,ax,cy (by rw[<- h.len];exact c)]
  ·have e:i=ps.length:=by simp at hi;lia
   subst e;rw[List.getElem_append_right (al _)];simp only[Nat.sub_self,List.getElem_singleton];rw[hp,ax,ck (by rw[h.len];exact al _),h.len];simp
theorem d_.set {H0 H:Hp}{ps:List Addr}{R:AA}(h:d_ H0 H ps R){i j z:Nat}(hi:i < ps.length):d_ H0 (upd H ps[i] (.lst ((Ts (ones (R.getD i []))).set j (.str (S [z]))))) ps (setAt R i j z):=by
 have e:(Ts (ones (R.getD i []))).set j (.str (S [z]))=Ts (ones ((R.getD i []).set j z)):=by
  show List.set (((R.getD i []).map λc=>[c]).map λl=>V.str (S l)) j (V.str (S [z]))=((List.set (R.getD i []) j z).map λc=>[c]).map λl=>V.str (S l);rw[l_,l_]
 rw[e];refine⟨by unfold setAt;rw[dP];exact h.len,h.nd,h.fr,λk hk=>?_⟩;by_cases c:k=i
 ·subst c
  rw[au];unfold setAt;rw[ax (l:=R.set _ _),e8 (by rw[<- h.len];exact hi)];rfl
 ·rw[aN (λz=>c ((lI h.nd).mp z)),h.at_ k hk]
  unfold setAt;rw[ax (l:=R.set _ _),eJ (λz=>c z.symm),<- ax]
def Oj (C:Addr):Sp:=λvs H Q _=>∃(p t:Addr) (as:List Addr) (ts:List bA) (r w:Nat) (ak aW:AA) (bi bj:Nat),vs=[.ref p,.ref t]/\fD C H p r w ak aW bi bj/\H t=some (.tup (as.map V.ref))/\cT H as ts/\(∀t∈ts,inB r w t)/\
 ∀(p':Addr) (H':Hp),aA H H'->fD C H' p' r w (b_ ak ts) aW bi bj->Q (.ref p') H'
theorem ado {f C f0:Addr}{fd jH:FuncData}(F:gM K "laid" "Board.laid" jf f fd)(T:gW K C)(gP:mg "list"=none)(cF:mg "tuple"=none)(Ez:mg "Board"=some (.ref C))(Je:Mk K C f0)(Jf:cP P w K mg base fZ 5 f0 jH ["self","rows","marks","begin"] (Ja C))(Jg:cO K jH ["self","rows","marks","begin"] []) :
  cP P w K mg base fZ 8 f fd ["self","laying"] (Oj C):=by
 refine F.dz jl (λvs H Q E h=>?_) (λbL A outer s H vs Q E hr h=>?_)
 ·obtain⟨p,t,as,ts,r,w,ak,aW,bi,bj,rfl,_⟩:=h
  rfl
 ·obtain⟨p,t,as,ts,r,w,ak,aW,bi,bj,rfl,BA,ht,hL,bT,q⟩:=h
  obtain⟨⟨dx,pr,pm,pb,hx,hpr,hpm,hpb⟩,B⟩:=BA;have r9:=B.r9;have w9:=B.w9;have hbr:=B.br;refine⟨_,(aD (xu (ix:=2) (ns:=["row"]) jl.nd rfl (Or.inl rfl) rfl (fH.of ["self","laying","lines",".3","column","sign"] [3] (by kernel_rfl)) (dW (jr (qv 0) rfl)) (λ_ _ _ _ _=>(oG (show (["row","self","laying","lines",".3","column","sign"]:List Str).Nodup by decide +kernel) rfl (by rfl))) (λ_ _ _ _ _=>cZ) (λ_ _ _ _ _=>(dR (sW rfl) (by rfl) gP e_ (aj (qv 0) aq)))) (aD (dh bu rfl (dW (qv 1)) (lu rfl (bV (bH (i:=3) jl.nd rfl (Or.inl rfl)) (bV (bH (i:=4) jl.nd rfl (Or.inl rfl)) (bV (bH (i:=5) jl.nd rfl (Or.inl rfl)) iU)))) (aF (rB (qv 5) (uF (aP dB (qv 2) (qv 3) (λ_ _=>rfl)) (qv 4) set_list)))) (aF (aY (Io Je Jf hr.mono rfl Ez Jg .nil lK (aj (dR gJ (by rfl) cF cv (aj (jQ rfl (i_.of jl.nd (by kernel_rfl)) (gF (qv 2)) (λ_ _ _ _ _=>cZ) (λ_ _ _ _ _=>(afh K bg dC dE (Z_ K) (bZ [] (by decide +kernel)) (aj (qv 0) aq)))) aq)) (aj (jr (qv 0) rfl) (aj (jr (qv 0) rfl) aq)))))))),?_⟩;refine⟨_,rfl,p,C,dx,_,_,rfl,hx,T.cl,T.nr,rfl,pr,rfl,⟨_,aM.of hpr⟩,λM hM=>sV (f:=eU [3] 0) (tt:=iB) (xs:=Ts ak) (λi ys H2=>∃ps:List Addr,ys=ps.map V.ref/\H2 M=some (.lst ys)/\aA H H2/\d_ H H2 ps (ak.take i)/\M∉ps)
   ⟨[],rfl,au,aA.upd hM,⟨by simp,gt,λp h=>by simp at h,λi h=>by simp at h⟩,by simp⟩ (λi ys H2 _ h=>by obtain⟨_,_,_,sm,_⟩:=h;exact aM.of (sm _ _ hpr)) ?_ ?_⟩
  ·rintro i x ys H2 hi ⟨ps,rfl,oM,sm,lN,nM⟩
   obtain⟨l,hl,rfl⟩:=uL hi;have hil:i < (Ts ak).length:=(af.mp hi).1;have pq:l.length=w:=hbr.iQ _ (bc hl);have jx:(Ts ak).length=r:=by rw[aa,hbr.len]
   have hpl:ps.length<=9:=by rw[lN.len,ay,hbr.len];lia
   refine Ug ⟨_,rfl,l,rfl,by lia,λc hc=>?_⟩;have Ol:M≠c:=λz=>by rw[<- z,oM]at hc;cases hc
   have ncp:c∉ps:=λz=>by
    obtain⟨k,hk,e⟩:=dm.mp z;have:=lN.at_ k hk;rw[e,hc]at this;cases this
   refine⟨by rw[aN Ol];exact oM,by rw[aa];exact aH (by lia),dZ.mk hil ⟨ps++[c],by simp,au,(sm.cD (sm.free hc)).cD hM,?_,?_⟩⟩
   ·rw[show ak.take (i+1)=ak.take i++[l] by rw[bo,hl];rfl]
    refine d_.mv ((lN.KH (aA.upd hc)).snoc ncp (sm.free hc) au) λy hy=>aN λz=>?_;rcases a7.mp hy with u | u
    ·exact nM (z ▸ u)
    ·exact Ol (z.symm.trans (aw.mp u))
   ·intro z
    rcases a7.mp z with u | u
    ·exact nM u
    ·exact Ol (aw.mp u)
  ·rintro ys H2 ⟨ps,rfl,oM,sm,lN,nM⟩
   rw[be (by rw[aa];exact al _)]at lN;refine⟨_,rfl,t,rfl,⟨_,aM.of (sm _ _ ht)⟩,jN (K:=K) (a:=t) (xs:=as.map V.ref) (λi σ H3=>∃v3 v4 v5:Option V,σ=[some (.ref p),some (.ref t),some (.ref M),v3,v4,v5]/\aA H H3/\H3 M=some (.lst (ps.map V.ref))/\d_ H H3 ps (b_ ak (ts.take i)))
    ⟨none,none,none,rfl,sm,oM,lN⟩ (λi σ H3 _ h=>by obtain⟨_,_,_,_,sm,_⟩:=h;exact aM.of (sm _ _ ht)) ?_ ?_⟩
   ·rintro i x σ H3 hx' ⟨v3,v4,v5,rfl,sm3,lY,kJ⟩
    rw[aS]at hx';have hi:i < as.length:=by
     rcases kG i as.length with z | z
     ·exact z
     ·rw[fq z]at hx';cases hx'
    rw[ac hi]at hx';have hx':V.ref as[i]=x:=ap hx';subst hx';obtain⟨u,eu,hU⟩:=hL.get hi;have hum:=bc eu;obtain⟨u1,u2,u3⟩:=bT u hum;have hb3:Blk r w (b_ ak (ts.take i)):=jE hbr λy hy=>bT y (cE hy);have hpl:ps.length=r:=by rw[kJ.len,hb3.len]
    have hps:u.1 < ps.length:=by lia
    refine⟨as[i],_,rfl,aM.of (sm3 _ _ hU),rfl,_,_,rfl,_,_,rfl,_,_,rfl,rfl,?_⟩;refine⟨_,rfl,_,rfl,_,rfl,M,_,_,.ref ps[u.1],rfl,rfl,aU.of lY,aG (by simp[hps]),_,rfl,ps[u.1],_,_,u.2.1,rfl,rfl,kJ.at_ u.1 hps,?_,?_⟩
    ·have:((b_ ak (ts.take i)).getD u.1 []).length=w:=by
      rw[ax,ac (by rw[hb3.len];exact u1)];exact hb3.iQ _ (ai _)
     unfold u0;rw[aa,aa,this,if_pos (by lia),if_pos (by lia)];congr 1
    ·refine⟨_,_,_,rfl,sm3.cD (kJ.fr _ (ai _)),?_,?_⟩
     ·have ne:M≠ps[u.1]:=λz=>nM (by rw[z];exact ai _)
      rw[aN ne];exact lY
     ·rw[show b_ ak (ts.take (i+1))=setAt (b_ ak (ts.take i)) u.1 u.2.1 u.2.2 by rw[bo,eu];exact KD _ _ _]
      exact kJ.set hps
   ·rintro σ H3 ⟨v3,v4,v5,rfl,sm3,lY,kJ⟩
    rw[be (by rw[aa,hL.len];exact al _)]at kJ;have B':=aaC B bT;have hpl:ps.length=r:=by rw[kJ.len,B'.br.len]
    refine⟨_,rfl,M,rfl,⟨_,aU.of lY⟩,λN hN=>WW (xs:=ps.map V.ref) (λi ys H4=>ys=Ts ((b_ ak ts).take i)/\H4 N=some (.lst ys)/\aA H3 H4) ⟨rfl,au,aA.upd hN⟩ (λi ys H4 _ h=>aU.of (h.2.2 _ _ lY)) ?_ ?_⟩
    ·rintro i x ys H4 hi ⟨rfl,hN4,nJ⟩
     rw[aS]at hi;have hi':i < ps.length:=by
      rcases kG i ps.length with z | z
      ·exact z
      ·rw[fq z]at hi;cases hi
     rw[ac hi']at hi;have hi:V.ref ps[i]=x:=ap hi;subst hi;have Hj:i < (b_ ak ts).length:=by rw[<- kJ.len];exact hi'
     have hg:(b_ ak ts).getD i []=(b_ ak ts)[i]:=by rw[ax,ac Hj];rfl
     have hw:(b_ ak ts)[i].length=w:=B'.br.iQ _ (ai _);have hat:=kJ.at_ i hi';rw[hg]at hat;refine⟨rfl,_,rfl,ps[i],ones (b_ ak ts)[i],rfl,rfl,aU.of (nJ _ _ hat),by rw[vC,hw];lia,hN4,?_,dZ.mk (by rw[aa];exact hi') ⟨?_,au,nJ.cD hN⟩⟩
     ·rw[aa,ay];exact aH (by lia)
     ·rw[vC,mW,bo,ac Hj];rfl
    ·rintro ys H4 ⟨rfl,hN4,nJ⟩
     rw[be (by rw[aa,kJ.len];exact al _)]at hN4;refine⟨N,_,rfl,.inl ⟨aU.of hN4,λl hl=>?_⟩⟩;have s5:=(sm3.trans nJ).cD (o:=.tup (Ts (b_ ak ts))) ((sm3.trans nJ).free hl);refine⟨_,rfl,p,C,dx,_,_,rfl,s5 _ _ hx,T.cl,T.nm,rfl,_,rfl,p,C,dx,_,_,rfl,s5 _ _ hx,T.cl,T.nb,rfl,λx dy nx ndx uH=>?_⟩;have s6:aA (upd H4 l (.tup (Ts (b_ ak ts)))) (upd (upd (upd H4 l (.tup (Ts (b_ ak ts)))) dy (HO.own x)) x (HO.ins C dy [])):=λb o e=>by rw[aN (bU e nx),aN (bU e ndx)];exact e
     refine⟨x,dy,l,pm,pb,r,w,b_ ak ts,aW,bi,bj,rfl,au,s6 _ _ au,s6 _ _ (s5 _ _ hpm),s6 _ _ (s5 _ _ hpb),B',λH5 kp hx5=>⟨rfl,?_⟩⟩;have s7:aA (upd H4 l (.tup (Ts (b_ ak ts)))) H5:=λb o e=>kp b o (s6 b o e) (bU e nx);exact q x H5 (s5.trans s7) ⟨⟨dy,l,pm,pb,hx5,s7 _ _ au,s7 _ _ (s5 _ _ hpm),s7 _ _ (s5 _ _ hpb)⟩,B'⟩
def Dq (ts:List bA):Prop:=ts.Pairwise (λa b=>a.1=b.1)\/ts.Pairwise (λa b=>a.1 < b.1)
def Mw (ts:List bA):Prop:=(∃i,(∀t∈ts,t.1=i)/\ts.Pairwise (λa b=>a.2.1 < b.2.1))\/(∃j,(∀t∈ts,t.2.1=j)/\ts.Pairwise (λa b=>a.1 < b.1))
def lO (wy i j:Nat)(ts:List bA):Prop:=(wy=0->(∀t∈ts,t.1=i/\t.2.1 < j)/\ts.Pairwise (λa b=>a.2.1 < b.2.1))/\(wy=1->(∀t∈ts,t.2.1=j/\t.1 < i)/\ts.Pairwise (λa b=>a.1 < b.1))
theorem lO.nil {wy i j:Nat}:lO wy i j []:=⟨λ_=>⟨λt h=>(by simp at h),List.Pairwise.nil⟩,λ_=>⟨λt h=>(by simp at h),List.Pairwise.nil⟩⟩
theorem lO.two {wy i j:Nat}{ts:List bA}(hw:wy<=1)(h:lO wy i j ts):Mw ts:=by
 by_cases z:wy=0
 ·exact .inl ⟨i,λt ht=>((h.1 z).1 t ht).1,(h.1 z).2⟩
 ·have z:wy=1:=by lia
  exact .inr ⟨j,λt ht=>((h.2 z).1 t ht).1,(h.2 z).2⟩
theorem lO.step {wy i j:Nat}{ts:List bA}(h:lO wy i j ts):lO wy (i+wy) (j+1-wy) ts:=
 ⟨λz=>⟨λt ht=>by have:=(h.1 z).1 t ht;lia,(h.1 z).2⟩,λz=>⟨λt ht=>by have:=(h.2 z).1 t ht;lia,(h.2 z).2⟩⟩
theorem lO.snoc {wy i j z:Nat}{ts:List bA}(h:lO wy i j ts):lO wy (i+wy) (j+1-wy) (ts++[(i,j,z)]):=by
 refine⟨λy=>⟨λt ht=>?_,?_⟩,λy=>⟨λt ht=>?_,?_⟩⟩
 ·rcases a7.mp ht with x | x
  ·have:=(h.1 y).1 t x;lia
  ·rw[aw.mp x];simp only;lia
 ·rw[List.pairwise_append]
  refine⟨(h.1 y).2,List.pairwise_singleton _ _,λa ha b' hb'=>?_⟩;rw[aw.mp hb'];exact((h.1 y).1 a ha).2
 ·rcases a7.mp ht with x | x
  ·have:=(h.2 y).1 t x;lia
  ·rw[aw.mp x];simp only;lia
 ·rw[List.pairwise_append]
  refine⟨(h.2 y).2,List.pairwise_singleton _ _,λa ha b' hb'=>?_⟩;rw[aw.mp hb'];exact((h.2 y).1 a ha).2
theorem Kp.free {R F:Addr}{H H1:Hp}(k:Kp R H H1)(h:H1 F=none):H F=none/\R≠F:=by
 have n:R≠F:=λz=>by obtain⟨y,e⟩:=k.2;rw[z,h]at e;cases e
 refine⟨?_,n⟩;cases e:H F with
 | none=>rfl
 | some o=>rw[k.1 _ _ e n.symm]at h;cases h
def Ec:Sp:=λvs H Q _=>∃(p:Addr) (ak:AA) (r w:Nat) (R:Addr) (x:Int) (ls:List Nat),vs=[.ref p,.ref R,.str (S ls)]/\H R=some (.lst [.int x])/\H p=some (.tup (Ts ak))/\Blk r w ak/\1<=r/\r<=9/\1<=w/\w<=9/\(∃i j,i < r/\j < w/\cell ak i j=46)/\IV ls/\
 ∀(t:Addr) (as:List Addr) (ts:List bA) (H':Hp),Kp R H H'->H' t=some (.tup (as.map V.ref))->cT H' as ts->(∀t∈ts,inB r w t)->ts≠[]->ts.length<=7->Mw ts->Q (.ref t) H'
theorem Om (D:aK K mg "_law_straight" tL ["_law_rows_here","_law_rest_here","_law_letters_here"])(bx:mg "len"=none)(jy:mg "int"=none)(cF:mg "tuple"=none)(cL:bO P w K mg base "_law_take" 1 ["_law_rest_here","_law_base"] lC)(aaD:bO P w K mg base "_law_starts" 2 ["_law_rows_here","_law_rest_here"] Kz)(Od:bO P w K mg base "_law_sign" 2 ["_law_rest_here","_law_letters_here","_law_great"] Jb):bO P w K mg base "_law_straight" 3 ["_law_rows_here","_law_rest_here","_law_letters_here"] Ec:=by
 refine D.dz fU (λvs H Q E h=>?_) (λf bL A outer s H vs Q E hr h=>?_)
 ·obtain⟨p,ak,r,w,R,x,ls,rfl,_⟩:=h
  rfl
 ·obtain⟨p,ak,r,w,R,x,ls,rfl,hR,hp,hb,r1,r9,w1,w9,hfree,hA,q⟩:=h
  have jx:(Ts ak).length=r:=by rw[aa,hb.len]
  have h0:0 < ak.length:=by rw[hb.len];lia
  have hw0:ak[0].length=w:=hb.iQ _ (ai _);have KJ:p≠R:=λz=>by rw[z,hR]at hp;cases hp
  refine⟨_,(aD (aQ (i:=3) fU.nd rfl (Or.inl rfl) (aV cL hr.mono rfl (aj (qv 1) (aj aB aq)))) (aD (aQ (i:=4) fU.nd rfl (Or.inl rfl) (bB dN aB (aV cL hr.mono rfl (aj (qv 1) (aj aB aq))))) (aD (rB (aV aaD hr.mono rfl (aj (qv 0) (aj (qv 1) aq))) (lu rfl (bV (bH (i:=5) fU.nd rfl (Or.inl rfl)) (bV (bH (i:=6) fU.nd rfl (Or.inl rfl)) iU)))) (aD (aQ (i:=7) fU.nd rfl (Or.inl rfl) (d7 aq)) (aD (aQ (i:=8) fU.nd rfl (Or.inl rfl) aB) (aD (gn (yh bu (QW.qt (jq (bw jo (qv 5) (aO bQ (by rfl) bx aI (aj (qv 0) aq)) (aZ _)) (jq (bw jo (qv 6) (aO cJ (by rfl) bx aI (aj (aP bf (qv 0) aB (λ_ _=>rfl)) aq)) (aZ _)) (lD (bw jo (aO bQ (by rfl) bx aI (aj (qv 7) aq)) (qv 4) (aZ _)))))) (aD (gn (bW (bw rm (aP m5 (aP bf (qv 0) (qv 5) (λ_ _=>rfl)) (qv 6) (λ_ _=>rfl)) (bZ [46] (by decide +kernel)) (aZ _)) (aD (aQ (i:=9) fU.nd rfl (Or.inl rfl) (aV Od hr.mono rfl (aj (qv 1) (aj (qv 2) (aj (dU jo (qv 8) aB (aZ _)) aq))))) (aD (aQ (i:=8) fU.nd rfl (Or.inl rfl) (bB dN (qv 8) (dR uZ (by rfl) jy gc (aj (dU lU (qv 9) (lB bg c8 c_ nG (qv 9)) (aZ _)) aq)))) (aF (dD (fX bX de df gK (qv 7) (aj (cH (aj (qv 5) (aj (qv 6) (aj (qv 9) aq)))) aq)))))) bC)) (aD (aQ (i:=5) fU.nd rfl (Or.inl rfl) (bB dN (qv 5) (qv 3))) (aF (aQ (i:=6) fU.nd rfl (Or.inl rfl) (bB iD (bB dN (qv 6) aB) (qv 3)))))))) (aF (aY (dR gJ (by rfl) cF cv (aj (qv 7) aq)))))))))),?_⟩;refine⟨_,rfl,R,x,2,rfl,hR,by decide,by decide,λwy y1 hwy=>?_⟩;have k1:Kp R H (upd H R (.lst [.int y1])):=Kp.up y1;have xO:upd H R (.lst [.int y1]) R=some (.lst [.int y1]):=au;generalize upd H R (.lst [.int y1])=H1 at k1 xO ⊢;refine⟨_,rfl,R,y1,7,rfl,xO,by decide,by decide,λmd y2 hmd=>?_⟩;have k2:Kp R H (upd H1 R (.lst [.int y2])):=k1.trans (Kp.up y2);have Ay:upd H1 R (.lst [.int y2]) R=some (.lst [.int y2]):=au;generalize upd H1 R (.lst [.int y2])=H2 at k2 Ay ⊢;refine⟨_,_,rfl,rfl,?_⟩;have em:(1:Int)+(md:Int)=((1+md:Nat):Int):=by lia
  dsimp only;rw[em];have m1:1<=1+md:=by lia
  have m7:1+md<=7:=by lia
  generalize 1+md=m at m1 m7 ⊢;refine⟨_,rfl,_,rfl,p,ak,r,w,R,y2,rfl,Ay,k2.1 _ _ hp KJ,hb,r1,r9,w1,w9,hfree,λt0 i0 j0 H3 k23 ht0 hi0 hj0 hc0=>?_⟩;have k3:=k2.trans k23;refine⟨t0,_,rfl,aM.of ht0,rfl,_,_,rfl,_,_,rfl,rfl,?_⟩;refine⟨zsz 0,λF hF=>?_⟩;obtain⟨hF0,nRF⟩:=k3.free hF;refine⟨λσ' H'=>∃(v5 v6 v8 v9:Option V) (as:List Addr) (ts:List bA),σ'=[some (.ref p),some (.ref R),some (.str (S ls)),some (.int wy),some (.int m),v5,v6,some (.ref F),v8,v9]/\Kp R H H'/\H' F=some (.lst (as.map V.ref))/\cT H' as ts/\(∀t∈ts,inB r w t)/\ts≠[]/\ts.length<=7/\Mw ts,?_,?_⟩
  ·refine⟨λmm σ H'=>∃(i j:Nat) (bl:Int) (v9:Option V) (as:List Addr) (ts:List bA),σ=[some (.ref p),some (.ref R),some (.str (S ls)),some (.int wy),some (.int m),some (.int i),some (.int j),some (.ref F),some (.int bl),v9]/\Kp R H H'/\H' F=some (.lst (as.map V.ref))/\cT H' as ts/\(∀t∈ts,inB r w t)/\ts.length<=m/\lO wy i j ts/\((i=i0/\j=j0/\ts=[])\/ts≠[])/\i<=r/\j<=w/\mm=(r+w)-(i+j),
    ⟨_,i0,j0,_,none,[],[],rfl,k3.new hF0 nRF,au,cT.nil,λt h=>by simp at h,b8 _,lO.nil,.inl ⟨rfl,rfl,rfl⟩,by lia,by lia,rfl⟩,?_⟩
   rintro mm σ H4 ⟨i,j,bl,v9,as,ts,rfl,k4,zY,hL,bT,cA,pq,hst,hir,hjw,rfl⟩;have hp4:=k4.1 _ _ hp KJ;have hpS:=aM.of (K:=K) hp4;have hal:=hL.len;have ex:ts≠[]->∃(v5 v6 v8 w9:Option V) (as:List Addr) (ts:List bA),([some (.ref p),some (.ref R),some (.str (S ls)),some (.int wy),some (.int m),some (.int i),some (.int j),some (.ref F),some (.int bl),v9]:St)=[some (.ref p),some (.ref R),some (.str (S ls)),some (.int wy),some (.int m),v5,v6,some (.ref F),v8,w9]/\Kp R H H4/\H4 F=some (.lst (as.map V.ref))/\cT H4 as ts/\(∀t∈ts,inB r w t)/\ts≠[]/\ts.length<=7/\Mw ts:=λhne=>
    ⟨_,_,_,_,as,ts,rfl,k4,zY,hL,bT,hne,by lia,pq.two (by lia)⟩
   refine⟨_,rfl,_,rfl,p,_,rfl,.inr hpS,_,_,rfl,rfl,_,rfl,?_⟩;rw[jx];by_cases c1:(i:Int) < (r:Int)
   ·rw[ah c1]
    refine bI ⟨_,rfl,_,rfl,p,_,_,.str (S ak[0]),rfl,rfl,hpS,aG (j:=0) (fY (by simp[h0])),_,rfl,aE (aH (by lia)),_,_,rfl,rfl,_,rfl,?_⟩;rw[hw0];by_cases c2:(j:Int) < (w:Int)
    ·rw[ah c2]
     refine bI ⟨_,rfl,F,_,rfl,.inl (aU.of zY),_,rfl,_,_,rfl,rfl,_,rfl,?_⟩;rw[aa];by_cases c3:(as.length:Int) < (m:Int)
     ·rw[ah c3]
      have g1:i < ak.length:=by rw[hb.len];lia
      have hwi:ak[i].length=w:=hb.iQ _ (ai _);have g2:j < ak[i].length:=by lia
      have hce:=cell_eq g1 g2;refine bI ⟨λσ' H'=>∃(bl:Int) (v9:Option V) (as:List Addr) (ts:List bA),σ'=[some (.ref p),some (.ref R),some (.str (S ls)),some (.int wy),some (.int m),some (.int ((i+wy:Nat):Int)),some (.int ((j+1-wy:Nat):Int)),some (.ref F),some (.int bl),v9]/\Kp R H H'/\H' F=some (.lst (as.map V.ref))/\cT H' as ts/\(∀t∈ts,inB r w t)/\ts.length<=m/\lO wy (i+wy) (j+1-wy) ts/\ts≠[],?_,?_⟩
      ·rintro σ' H' ⟨bl,v9,as,ts,rfl,k',hF',hL',Oo,hlen',aaE,hne⟩
       exact⟨(r+w)-(i+wy+(j+1-wy)),by lia,i+wy,j+1-wy,bl,v9,as,ts,rfl,k',hF',hL',Oo,hlen',aaE,.inr hne,by lia,by lia,rfl⟩
      refine⟨λσ' H'=>∃(bl:Int) (v9:Option V) (as:List Addr) (ts:List bA),σ'=[some (.ref p),some (.ref R),some (.str (S ls)),some (.int wy),some (.int m),some (.int i),some (.int j),some (.ref F),some (.int bl),v9]/\Kp R H H'/\H' F=some (.lst (as.map V.ref))/\cT H' as ts/\(∀t∈ts,inB r w t)/\ts.length<=m/\lO wy (i+wy) (j+1-wy) ts/\ts≠[],?_,?_⟩
      ·refine⟨_,rfl,_,rfl,p,_,_,.str (S ak[i]),rfl,rfl,hpS,aG (fY (by simp[g1])),_,rfl,ak[i],_,ak[i][j],rfl,rfl,aE (aH (by lia)),aG (by simp[g2]),[ak[i][j]],[46],rfl,rfl,_,rfl,?_⟩
       rw[<- hce];by_cases hc:cell ak i j=46
       ·rw[ah (show [cell ak i j]=[46] by rw[hc])]
        obtain⟨y4,Eb⟩:=k4.2;refine bI ⟨_,rfl,_,rfl,_,rfl,_,_,rfl,rfl,R,y4,ls,_,rfl,Eb,hA,λz H5 k45 hz=>?_⟩;have k5:=k4.trans k45;have Sv:=k45.1 _ _ zY nRF.symm;have mj:=hL.iu (k45.tup Eb);refine⟨_,rfl,_,rfl,_,rfl,rfl,[z],rfl,rfl,by show 1<=1000;decide,λd hd=>by rw[aw.mp hd];exact hz.lt,_,_,rfl,rfl,.inr ⟨_,rfl,_,_,rfl,rfl,?_⟩⟩;refine⟨_,rfl,.inl ⟨rfl,_,aU.of Sv⟩,_,rfl,_,rfl,_,rfl,zsz 3,λb hbn=>?_⟩;have k6:aA H5 (upd H5 b (HO.tup [.int i,.int j,.str (S [z])])):=aA.upd hbn;have hF6:=k6 _ _ Sv;refine⟨F,_,_,rfl,rfl,hF6,by rw[aa];exact aH (by lia),?_⟩;refine⟨_,_,as++[b],ts++[(i,j,z)],rfl,(k5.same k6).new hF0 nRF,by rw[au];simp,?_,λt ht=>?_,by rw[a_];simp;lia,pq.snoc,by simp⟩
        ·exact((mj.mv k6).snoc (t:=(i,j,z)) au).iu (lZ hF6)
        ·rcases a7.mp ht with y | y
         ·exact bT t y
         ·rw[aw.mp y];exact⟨by show i < r;lia,by show j < w;lia,hz⟩
       ·rw[ae (show ¬[cell ak i j]=[46] from λz=>hc (by injection z))]
        refine aX ⟨bl,v9,as,ts,rfl,k4,zY,hL,bT,cA,pq.step,?_⟩;rcases hst with⟨z1,z2,_⟩ | z
        ·rw[z1,z2]at hc;exact absurd hc0 hc
        ·exact z
      ·rintro σ' H' ⟨bl,v9,as,ts,rfl,k',hF',hL',Oo,hlen',aaE,hne⟩
       refine⟨_,rfl,_,rfl,_,_,rfl,rfl,?_⟩;refine⟨_,rfl,_,_,rfl,rfl,_,rfl,_,_,rfl,rfl,?_⟩;refine⟨bl,v9,as,ts,?_,k',hF',hL',Oo,hlen',aaE,hne⟩;rw[show ((i+wy:Nat):Int)=(i:Int)+(wy:Int) by lia,show ((j+1-wy:Nat):Int)=(j:Int)+1-(wy:Int) by lia];rfl
     ·rw[ae c3]
      refine aX (ex ?_);rcases hst with⟨_,_,z⟩ | z
      ·rw[z]at hal
       have:as.length=0:=hal;lia
      ·exact z
    ·rw[ae c2]
     refine aX (aX (ex ?_));rcases hst with⟨_,z,_⟩ | z
     ·lia
     ·exact z
   ·rw[ae c1]
    refine aX (aX (ex ?_));rcases hst with⟨z,_,_⟩ | z
    ·lia
    ·exact z
  ·rintro σ' H' ⟨v5,v6,v8,v9,as,ts,rfl,k',XJ,hL,bT,hne,h7,hline⟩
   refine⟨_,rfl,F,_,rfl,.inl ⟨aU.of XJ,λT hT=>?_⟩⟩;have k:aA H' (upd H' T (HO.tup (as.map V.ref))):=aA.upd hT;exact q T as ts _ (k'.same k) au (hL.mv k) bT hne h7 hline
def XQ:Sp:=λvs H Q _=>∃(pr t:Addr) (as:List Addr) (ts:List bA) (r w:Nat) (ak:AA),vs=[.ref pr,.ref t]/\H pr=some (.tup (Ts ak))/\Blk r w ak/\r<=9/\w<=9/\H t=some (.tup (as.map V.ref))/\cT H as ts/\(∀t∈ts,inB r w t)/\
 ∀(M:Addr) (ps:List Addr) (H':Hp),aA H H'->H' M=some (.lst (ps.map V.ref))->d_ H H' ps (b_ ak ts)->Q (.ref M) H'
theorem adp (D:aK K mg "_law_grid" G8 ["_law_rows_here","_law_laying"])(gP:mg "list"=none):bO P w K mg base "_law_grid" 1 ["_law_rows_here","_law_laying"] XQ:=by
 refine D.dz xJ (λvs H Q E h=>?_) (λf bL A outer s H vs Q E hr h=>?_)
 ·obtain⟨pr,t,as,ts,r,w,ak,rfl,_⟩:=h
  rfl
 ·obtain⟨pr,t,as,ts,r,w,ak,rfl,hpr,hbr,r9,w9,ht,hL,bT,q⟩:=h
  refine⟨_,(aD (xu (ix:=2) (ns:=["_law_row"]) xJ.nd rfl (Or.inl rfl) rfl (fH.of ["_law_rows_here","_law_laying","_law_grid_here",".3","_law_column","_law_sign_here"] [3] (by kernel_rfl)) (dW (qv 0)) (λ_ _ _ _ _=>(oG (show (["_law_row","_law_rows_here","_law_laying","_law_grid_here",".3","_law_column","_law_sign_here"]:List Str).Nodup by decide +kernel) rfl (by rfl))) (λ_ _ _ _ _=>cZ) (λ_ _ _ _ _=>(dR (sW rfl) (by rfl) gP e_ (aj (qv 0) aq)))) (aD (dh bu rfl (dW (qv 1)) (lu rfl (bV (bH (i:=3) xJ.nd rfl (Or.inl rfl)) (bV (bH (i:=4) xJ.nd rfl (Or.inl rfl)) (bV (bH (i:=5) xJ.nd rfl (Or.inl rfl)) iU)))) (aF (rB (qv 5) (uF (aP dB (qv 2) (qv 3) (λ_ _=>rfl)) (qv 4) set_list)))) (aF (aY (qv 2))))),?_⟩;refine⟨_,rfl,pr,rfl,⟨_,aM.of hpr⟩,λM hM=>sV (f:=eU [3] 0) (tt:=iB) (xs:=Ts ak) (λi ys H2=>∃ps:List Addr,ys=ps.map V.ref/\H2 M=some (.lst ys)/\aA H H2/\d_ H H2 ps (ak.take i)/\M∉ps)
   ⟨[],rfl,au,aA.upd hM,⟨by simp,gt,λp h=>by simp at h,λi h=>by simp at h⟩,by simp⟩ (λi ys H2 _ h=>by obtain⟨_,_,_,sm,_⟩:=h;exact aM.of (sm _ _ hpr)) ?_ ?_⟩
  ·rintro i x ys H2 hi ⟨ps,rfl,oM,sm,lN,nM⟩
   obtain⟨l,hl,rfl⟩:=uL hi;have hil:i < (Ts ak).length:=(af.mp hi).1;have pq:l.length=w:=hbr.iQ _ (bc hl);have jx:(Ts ak).length=r:=by rw[aa,hbr.len]
   have hpl:ps.length<=9:=by rw[lN.len,ay,hbr.len];lia
   refine Ug ⟨_,rfl,l,rfl,by lia,λc hc=>?_⟩;have Ol:M≠c:=λz=>by rw[<- z,oM]at hc;cases hc
   have ncp:c∉ps:=λz=>by
    obtain⟨k,hk,e⟩:=dm.mp z;have:=lN.at_ k hk;rw[e,hc]at this;cases this
   refine⟨by rw[aN Ol];exact oM,by rw[aa];exact aH (by lia),dZ.mk hil ⟨ps++[c],by simp,au,(sm.cD (sm.free hc)).cD hM,?_,?_⟩⟩
   ·rw[show ak.take (i+1)=ak.take i++[l] by rw[bo,hl];rfl]
    refine d_.mv ((lN.KH (aA.upd hc)).snoc ncp (sm.free hc) au) λy hy=>aN λz=>?_;rcases a7.mp hy with u | u
    ·exact nM (z ▸ u)
    ·exact Ol (z.symm.trans (aw.mp u))
   ·intro z
    rcases a7.mp z with u | u
    ·exact nM u
    ·exact Ol (aw.mp u)
  ·rintro ys H2 ⟨ps,rfl,oM,sm,lN,nM⟩
   rw[be (by rw[aa];exact al _)]at lN;refine⟨_,rfl,t,rfl,⟨_,aM.of (sm _ _ ht)⟩,jN (K:=K) (a:=t) (xs:=as.map V.ref) (λi σ H3=>∃v3 v4 v5:Option V,σ=[some (.ref pr),some (.ref t),some (.ref M),v3,v4,v5]/\aA H H3/\H3 M=some (.lst (ps.map V.ref))/\d_ H H3 ps (b_ ak (ts.take i)))
    ⟨none,none,none,rfl,sm,oM,lN⟩ (λi σ H3 _ h=>by obtain⟨_,_,_,_,sm,_⟩:=h;exact aM.of (sm _ _ ht)) ?_ ?_⟩
   ·rintro i x σ H3 hx' ⟨v3,v4,v5,rfl,sm3,lY,kJ⟩
    rw[aS]at hx';have hi:i < as.length:=by
     rcases kG i as.length with z | z
     ·exact z
     ·rw[fq z]at hx';cases hx'
    rw[ac hi]at hx';have hx':V.ref as[i]=x:=ap hx';subst hx';obtain⟨u,eu,hU⟩:=hL.get hi;have hum:=bc eu;obtain⟨u1,u2,u3⟩:=bT u hum;have hb3:Blk r w (b_ ak (ts.take i)):=jE hbr λy hy=>bT y (cE hy);have hpl:ps.length=r:=by rw[kJ.len,hb3.len]
    have hps:u.1 < ps.length:=by lia
    refine⟨as[i],_,rfl,aM.of (sm3 _ _ hU),rfl,_,_,rfl,_,_,rfl,_,_,rfl,rfl,?_⟩;refine⟨_,rfl,_,rfl,_,rfl,M,_,_,.ref ps[u.1],rfl,rfl,aU.of lY,aG (by simp[hps]),_,rfl,ps[u.1],_,_,u.2.1,rfl,rfl,kJ.at_ u.1 hps,?_,?_⟩
    ·have:((b_ ak (ts.take i)).getD u.1 []).length=w:=by
      rw[ax,ac (by rw[hb3.len];exact u1)];exact hb3.iQ _ (ai _)
     unfold u0;rw[aa,aa,this,if_pos (by lia),if_pos (by lia)];congr 1
    ·refine⟨_,_,_,rfl,sm3.cD (kJ.fr _ (ai _)),?_,?_⟩
     ·have ne:M≠ps[u.1]:=λz=>nM (by rw[z];exact ai _)
      rw[aN ne];exact lY
     ·rw[show b_ ak (ts.take (i+1))=setAt (b_ ak (ts.take i)) u.1 u.2.1 u.2.2 by rw[bo,eu];exact KD _ _ _]
      exact kJ.set hps
   ·rintro σ H3 ⟨v3,v4,v5,rfl,sm3,lY,kJ⟩
    rw[be (by rw[aa,hL.len];exact al _)]at kJ;have B':=jE hbr bT;have hpl:ps.length=r:=by rw[kJ.len,B'.len]
    exact⟨_,rfl,q M ps H3 sm3 lY kJ⟩
theorem aaF {l:List Nat}{k low:Nat}(h1:low<=k)(hk:k<=l.length)(h2:∀m,low<=m->m < k->l[m]?≠some 46)(h3:low=0\/l[low-1]?=some 46):dM (l.take k)=(l.take k).drop low:=by
 rcases h3 with e | e
 ·subst e
  rw[gu];refine Ai λhm=>?_;obtain⟨m,hm⟩:=f8.mp hm;have hmk:m < (l.take k).length:=(af.mp hm).1;rw[ay]at hmk;exact h2 m (by lia) (by lia) (by rw[i5,if_pos (by lia)]at hm;exact hm)
 ·by_cases h0:low=0
  ·subst h0
   rw[gu];refine Ai λhm=>?_;obtain⟨m,hm⟩:=f8.mp hm;have hmk:m < (l.take k).length:=(af.mp hm).1;rw[ay]at hmk;exact h2 m (by lia) (by lia) (by rw[i5,if_pos (by lia)]at hm;exact hm)
  ·have:=Nr (l:=l.take k) (i:=low-1) (by rw[i5,if_pos (by lia)];exact e) (λm hm z=>by
    have hmk:m < (l.take k).length:=(af.mp z).1;rw[ay]at hmk;rw[i5,if_pos (by lia)]at z;exact h2 m (by lia) (by lia) z)
   rw[this,show low-1+1=low by lia]
theorem XR {l:List Nat}{k high:Nat}(h1:k<=high)(hk:high<=l.length)(h2:∀m,k<=m->m < high->l[m]?≠some 46)(h3:high=l.length\/l[high]?=some 46):fG (l.drop k)=(l.drop k).take (high-k):=by
 rcases h3 with e | e
 ·rw[be (by rw[bt];lia)]
  refine Ah λhm=>?_;obtain⟨m,hm⟩:=f8.mp hm;have hmk:m < (l.drop k).length:=(af.mp hm).1;rw[bt]at hmk;rw[eI]at hm;exact h2 (k+m) (by lia) (by lia) hm
 ·refine yp (by rw[eI,show k+(high-k)=high by lia];exact e) λm hm z=>?_
  rw[eI]at z;exact h2 (k+m) (by lia) (by lia) z
theorem adq {l:List Nat}{k low high:Nat}(a1:low<=k)(a2:k<=high)(a3:high<=l.length)(b1:dM (l.take k)=(l.take k).drop low)(b2:fG (l.drop k)=(l.drop k).take (high-k)) :
  dM (l.take k)++fG (l.drop k)=(l.drop low).take (high-low)/\(dM (l.take k)).length=k-low:=by
 constructor
 ·rw[b1,b2,List.drop_take,show high-low=(k-low)+(high-k) by lia,List.take_add,List.drop_drop,show low+(k-low)=k by lia]
 ·rw[b1,bt,ay];lia
abbrev uN:=Nat × Nat × Nat × List Nat
def Oq (H:Hp)(a:Addr)(q:uN):Prop:=H a=some (.tup [.int q.1,.int q.2.1,.int q.2.2.1,.str (S q.2.2.2)])
def m_ (R:AA)(i j wy:Nat):uN:=
 (if wy=0 then i else i-(dM ((lineOf R i j (wy:Int)).take i)).length,if wy=0 then j-(dM ((lineOf R i j (wy:Int)).take j)).length else j,wy,dM ((lineOf R i j (wy:Int)).take (placeOf i j (wy:Int)))++fG ((lineOf R i j (wy:Int)).drop (placeOf i j (wy:Int))))
def fO (wy i x:Nat):Nat:=if wy=0 then i else x
def clo (wy j x:Nat):Nat:=if wy=0 then x else j
theorem XS {r w:Nat}{R:AA}(hb:Blk r w R){i j wy x:Nat}(hi:i < r)(hx:x < (lineOf R i j (wy:Int)).length):cell R (fO wy i x) (clo wy j x)=(lineOf R i j (wy:Int))[x]:=by
 unfold fO clo;by_cases h:wy=0
 ·subst h
  rw[if_pos rfl,if_pos rfl];have hx':x < (R.getD i []).length:=hx;have h1:(R.getD i []).getD x 0=(R.getD i [])[x]:=by rw[ax (l:=R.getD i []),ac hx'];rfl
  exact h1
 ·rw[if_neg h,if_neg h]
  have e:lineOf R i j (wy:Int)=vG R j:=if_neg (by lia);have hx':x < (vG R j).length:=by rw[<- e];exact hx
  have:(lineOf R i j (wy:Int))[x]=(vG R j)[x]:=by simp only[e]
  rw[this];unfold vG at hx' ⊢;rw[aa]at hx';rw[fh];unfold cell;rw[ax (l:=R),ac hx'];rfl
theorem yG {H0 H:Hp}{ps:List Addr}{R:AA}{r w a b:Nat}(h:d_ H0 H ps R)(hb:Blk r w R)(ha:a < r)(hbw:b < w):∃(hp:a < ps.length),H ps[a]=some (.lst (Ts (ones (R.getD a []))))/\(Ts (ones (R.getD a [])))[b]?=some (.str (S [cell R a b]))/\(Ts (ones (R.getD a []))).length=w:=by
 have hp:a < ps.length:=by rw[h.len,hb.len];exact ha
 have hra:a < R.length:=by rw[hb.len];exact ha
 have hg:R.getD a []=R[a]:=by rw[ax,ac hra];rfl
 have hl:R[a].length=w:=hb.iQ _ (ai _);refine⟨hp,h.at_ a hp,?_,by rw[aa,aa,hg,hl]⟩;have pQ:b < R[a].length:=by lia
 rw[hg,cell_eq hra pQ];simp[Ts,ones,pQ]
def X3 (K:W.Frag):Sp:=λvs H Q _=>∃(M:Addr) (H0:Hp) (ps:List Addr) (R:AA) (r w i j wy:Nat),vs=[.ref M,.int i,.int j,.int wy]/\H M=some (.lst (ps.map V.ref))/\d_ H0 H ps R/\Blk r w R/\r<=9/\w<=9/\i < r/\j < w/\wy<=1/\
 ∀(t:Addr) (H':Hp),aA H H'->Oq H' t (m_ R i j wy)->Q (.ref t) H'
theorem U0 (D:aK K mg "_law_run" Mt ["_law_grid_here","_law_row","_law_column","_law_way"])(bx:mg "len"=none):bO P w K mg base "_law_run" 1 ["_law_grid_here","_law_row","_law_column","_law_way"] (X3 K):=by
 refine D.dz uK (λvs H Q E h=>?_) (λf bL A outer s H vs Q E hr h=>?_)
 ·obtain⟨M,H0,ps,R,r,w,i,j,wy,rfl,_⟩:=h
  rfl
 ·obtain⟨M,H0,ps,R,r,w,i,j,wy,rfl,hM,lN,hb,r9,w9,hi,hj,hwy,q⟩:=h
  have hll:=pB hb hi (j:=j) (way:=(wy:Int));have hk:placeOf i j (wy:Int) < (lineOf R i j (wy:Int)).length:=by
   rw[hll];unfold placeOf
   split <;> assumption
  have hl9:(lineOf R i j (wy:Int)).length<=9:=by rw[hll];split <;> assumption
  have hcell:=λx (hx:x < (lineOf R i j (wy:Int)).length)=>XS hb hi (j:=j) (wy:=wy) hx;have hq:Oq=Oq:=rfl;have hkw:placeOf i j (wy:Int)=if wy=0 then j else i:=by
   unfold placeOf;by_cases z:wy=0
   ·rw[if_pos z,if_pos (by lia)]
   ·rw[if_neg z,if_neg (by lia)]
  have pq:(lineOf R i j (wy:Int)).length=if wy=0 then w else r:=by
   rw[hll];by_cases z:wy=0
   ·rw[if_pos z,if_pos (by lia)]
   ·rw[if_neg z,if_neg (by lia)]
  have Hl:∀k low:Nat,k=placeOf i j (wy:Int)->low+(dM ((lineOf R i j (wy:Int)).take k)).length=k->m_ R i j wy=(fO wy i low,clo wy j low,wy,dM ((lineOf R i j (wy:Int)).take k)++fG ((lineOf R i j (wy:Int)).drop k)):=by
   intro k low ek hlow;unfold m_ fO clo;rw[<- ek];rw[hkw]at ek;by_cases z:wy=0
   ·rw[if_pos z]at ek
    subst ek;rw[if_pos z,if_pos z,if_pos z,if_pos z,show k-(dM ((lineOf R i k (wy:Int)).take k)).length=low by lia]
   ·rw[if_neg z]at ek
    subst ek;rw[if_neg z,if_neg z,if_neg z,if_neg z,show k-(dM ((lineOf R k j (wy:Int)).take k)).length=low by lia]
  generalize hLL:lineOf R i j (wy:Int)=l at hk hl9 hcell pq Hl;generalize hKK:placeOf i j (wy:Int)=k at hk hkw Hl;have Hl:=Hl k;have hz:∀n,n<=100->n<=sizeLine:=λn h=>aE (aH (by lia));have hpl:ps.length=r:=by rw[lN.len,hb.len]
  have rr:∀x,x < l.length->fO wy i x < r:=λx hx=>by
   unfold fO;split
   ·exact hi
   ·rw[pq,if_neg (by assumption)]at hx;exact hx
  have cc:∀x,x < l.length->clo wy j x < w:=λx hx=>by
   unfold clo;split
   ·rw[pq,if_pos (by assumption)]at hx;exact hx
   ·exact hj
  refine⟨_,(aD (gn (yh bu (QW.qt (jq (bw TJ (qv 1) (qv 3) (aZ _)) (jq (bw TJ (qv 2) (bB iD aB (qv 3)) (aZ _)) (lD (bw lU (aP dB (aP dB (qv 0) (bB iD (qv 1) (qv 3)) (λ_ _=>rfl)) (bB dN (bB iD (qv 2) aB) (qv 3)) (λ_ _=>rfl)) (bZ [46] (by decide +kernel)) (aZ _)))))) (aD (aQ (i:=1) uK.nd rfl (Or.inl rfl) (bB iD (qv 1) (qv 3))) (aF (aQ (i:=2) uK.nd rfl (Or.inl rfl) (bB dN (bB iD (qv 2) aB) (qv 3))))))) (aD (aQ (i:=4) uK.nd rfl (Or.inl rfl) (bZ [] (by decide +kernel))) (aD (aQ (i:=5) uK.nd rfl (Or.inl rfl) (cH (aj (qv 1) (aj (qv 2) aq)))) (aD (gn (yh bu (QW.qt (jq (bw jo (aP bf (qv 5) aB (λ_ _=>rfl)) (aO bQ (by rfl) bx aI (aj (qv 0) aq)) (aZ _)) (jq (bw jo (aP bf (qv 5) aB (λ_ _=>rfl)) (aO bQ (by rfl) bx aI (aj (aP dB (qv 0) aB (λ_ _=>rfl)) aq)) (aZ _)) (lD (bw lU (aP dB (aP dB (qv 0) (aP bf (qv 5) aB (λ_ _=>rfl)) (λ_ _=>rfl)) (aP bf (qv 5) aB (λ_ _=>rfl)) (λ_ _=>rfl)) (bZ [46] (by decide +kernel)) (aZ _)))))) (aD (aQ (i:=4) uK.nd rfl (Or.inl rfl) (bB iT (qv 4) (aP dB (aP dB (qv 0) (aP bf (qv 5) aB (λ_ _=>rfl)) (λ_ _=>rfl)) (aP bf (qv 5) aB (λ_ _=>rfl)) (λ_ _=>rfl)))) (aF (aQ (i:=5) uK.nd rfl (Or.inl rfl) (cH (aj (bB dN (aP bf (qv 5) aB (λ_ _=>rfl)) (qv 3)) (aj (bB iD (bB dN (aP bf (qv 5) aB (λ_ _=>rfl)) aB) (qv 3)) aq)))))))) (aF (aY (cH (aj (qv 1) (aj (qv 2) (aj (qv 3) (aj (qv 4) aq))))))))))),?_⟩;have hM':aU K H M (ps.map V.ref):=aU.of hM;refine⟨λσ H'=>H'=H/\∃low:Nat,low<=k/\σ=[some (.ref M),some (.int (fO wy i low)),some (.int (clo wy j low)),some (.int wy),none,none]/\(∀x,low<=x->x < k->l[x]?≠some 46)/\(low=0\/l[low-1]?=some 46),?_,?_⟩
  ·refine⟨λm σ H'=>H'=H/\m<=k/\σ=[some (.ref M),some (.int (fO wy i m)),some (.int (clo wy j m)),some (.int wy),none,none]/\∀x,m<=x->x < k->l[x]?≠some 46,⟨k,rfl,al _,?_,λx h1 h2=>by lia⟩,?_⟩
   ·unfold fO clo
    by_cases z:wy=0
    ·rw[if_pos z,if_pos z,hkw,if_pos z];rfl
    ·rw[if_neg z,if_neg z,hkw,if_neg z];rfl
   rintro m σ H' ⟨rfl,hm,rfl,hx⟩;have afM:m=0->H'=H'/\∃low:Nat,low<=k/\([some (.ref M),some (.int (fO wy i m)),some (.int (clo wy j m)),some (.int wy),none,none]:St)=[some (.ref M),some (.int (fO wy i low)),some (.int (clo wy j low)),some (.int wy),none,none]/\(∀x,low<=x->x < k->l[x]?≠some 46)/\(low=0\/l[low-1]?=some 46):=λz=>⟨rfl,m,hm,rfl,hx,.inl z⟩
   refine⟨_,rfl,_,rfl,_,_,rfl,rfl,_,rfl,iZ (λhc1=>?_) (λhc1=>?_)⟩
   ·refine⟨_,rfl,_,rfl,_,_,rfl,rfl,_,_,rfl,rfl,_,rfl,iZ (λhc2=>?_) (λhc2=>?_)⟩
    ·have d1:(wy:Int)<=(fO wy i m:Int):=cq hc1
     have d2:1-(wy:Int)<=(clo wy j m:Int):=cq hc2;have hm0:0 < m:=by
      unfold fO at d1;unfold clo at d2;by_cases z:wy=0
      ·rw[if_pos z]at d2;lia
      ·rw[if_neg z]at d1;lia
     have hm1:m-1 < l.length:=by lia
     obtain⟨g1,g2,g3,_⟩:=yG lN hb (rr (m-1) hm1) (cc (m-1) hm1);have er:(fO wy i m:Int)-(wy:Int)=(fO wy i (m-1):Int):=by
      unfold fO;by_cases z:wy=0
      ·rw[if_pos z,if_pos z];lia
      ·rw[if_neg z,if_neg z];lia
     have ec:(clo wy j m:Int)-1+(wy:Int)=(clo wy j (m-1):Int):=by
      unfold clo;by_cases z:wy=0
      ·rw[if_pos z,if_pos z];lia
      ·rw[if_neg z,if_neg z];lia
     refine⟨_,rfl,_,rfl,_,rfl,_,_,rfl,rfl,M,_,_,.ref ps[fO wy i (m-1)],rfl,rfl,hM',by show oE _ ((fO wy i m:Int)-(wy:Int))=_;rw[er];exact aG (by simp[g1]),_,rfl,_,_,rfl,rfl,_,rfl,_,_,rfl,rfl,ps[fO wy i (m-1)],_,_,.str (S [cell R (fO wy i (m-1)) (clo wy j (m-1))]),rfl,rfl,aU.of g2,by show oE _ ((clo wy j m:Int)-1+(wy:Int))=_;rw[ec];exact aG g3,_,_,rfl,rfl,_,rfl,?_⟩;rw[hcell _ hm1];by_cases hne:l[m-1]=46
     ·rw[ah (show [l[m-1]]=[46] by rw[hne])]
      exact aX ⟨rfl,m,hm,rfl,hx,.inr (by rw[ac hm1,hne])⟩
     ·rw[ae (show ¬[l[m-1]]=[46] by simpa using hne)]
      refine bI ⟨λσ H4=>H4=H'/\σ=[some (.ref M),some (.int (fO wy i (m-1))),some (.int (clo wy j (m-1))),some (.int wy),none,none],λσ' mX ⟨e1,e2⟩=>⟨m-1,by lia,e1,by lia,e2,λx h1 h2=>?_⟩,?_⟩
      ·by_cases hx2:x=m-1
       ·subst hx2;rw[ac hm1];simpa using hne
       ·exact hx x (by lia) h2
      ·refine⟨_,rfl,_,rfl,_,_,rfl,rfl,_,rfl,_,_,rfl,rfl,_,rfl,_,_,rfl,rfl,rfl,?_⟩
       rw[<- er,<- ec];rfl
    ·refine aX (afM ?_)
     have d2:¬1-(wy:Int)<=(clo wy j m:Int):=λz=>hc2 (ah z);unfold clo at d2;by_cases z:wy=0
     ·rw[if_pos z]at d2;lia
     ·rw[if_neg z]at d2;lia
   ·refine aX (afM ?_)
    have d1:¬(wy:Int)<=(fO wy i m:Int):=λz=>hc1 (ah z);unfold fO at d1;by_cases z:wy=0
    ·rw[if_pos z]at d1;lia
    ·rw[if_neg z]at d1;lia
  rintro σ H' ⟨rfl,low,hlk,rfl,hx,hlow⟩;have ab_:=aaF hlk (by lia) hx hlow;refine⟨_,rfl,_,rfl,zsz 2,λt0 ht0=>?_⟩;have k0:aA H' (upd H' t0 (HO.tup [.int (fO wy i low),.int (clo wy j low)])):=aA.upd ht0;refine⟨λσ mX=>aA H' mX/\∃v5:Option V,σ=[some (.ref M),some (.int (fO wy i low)),some (.int (clo wy j low)),some (.int wy),some (.str (S (dM (l.take k)++fG (l.drop k)))),v5],?_,?_⟩
  ·refine⟨λm σ mX=>∃(hg:Nat) (t:Addr),low<=hg/\hg<=l.length/\m=l.length-hg/\aA H' mX/\mX t=some (.tup [.int (fO wy i hg),.int (clo wy j hg)])/\σ=[some (.ref M),some (.int (fO wy i low)),some (.int (clo wy j low)),some (.int wy),some (.str (S ((l.drop low).take (hg-low)))),some (.ref t)]/\∀x,low<=x->x < hg->l[x]?≠some 46,
    ⟨_,low,t0,al _,by lia,rfl,k0,au,by rw[Nat.sub_self];rfl,λx h1 h2=>by lia⟩,?_⟩
   rintro m σ H2 ⟨hg,t,h1,h2,rfl,sm,ht,rfl,hy⟩;have hS:=aM.of (K:=K) ht;have oM:=aU.of (K:=K) (sm _ _ hM);have afN:=lN.KH sm;have ex:(hg=l.length\/l[hg]?=some 46)->aA H' H2/\∃v5:Option V,([some (.ref M),some (.int (fO wy i low)),some (.int (clo wy j low)),some (.int wy),some (.str (S ((l.drop low).take (hg-low)))),some (.ref t)]:St)=[some (.ref M),some (.int (fO wy i low)),some (.int (clo wy j low)),some (.int wy),some (.str (S (dM (l.take k)++fG (l.drop k)))),v5]:=λhend=>by
    have hkg:k<=hg:=by
     rcases kG hg k with z | z
     ·rcases hend with e | e
      ·lia
      ·exact absurd e (hx hg h1 z)
     ·exact z
    obtain⟨c1,_⟩:=adq hlk hkg h2 ab_ (XR hkg h2 (λx a b=>hy x (by lia) b) hend);exact⟨sm,_,by rw[c1]⟩
   have hlz:l.length-0=l.length:=rfl;obtain⟨gz,gz1,_,gz2⟩:=yG afN hb (show 0 < r by lia) (show 0 < w by lia);refine⟨_,rfl,t,_,_,_,rfl,rfl,hS,aG (j:=0) rfl,_,rfl,M,_,rfl,.inl oM,_,_,rfl,rfl,_,rfl,iZ (λhc1=>?_) (λhc1=>?_)⟩
   ·refine⟨_,rfl,t,_,_,_,rfl,rfl,hS,aG (j:=1) rfl,_,rfl,M,_,_,.ref ps[0],rfl,rfl,oM,aG (j:=0) (by simp[gz]),ps[0],_,rfl,.inl (aU.of gz1),_,_,rfl,rfl,_,rfl,iZ (λhc2=>?_) (λhc2=>?_)⟩
    ·have d1:(fO wy i hg:Int) < ((ps.map V.ref).length:Int):=cq hc1
     have d2:(clo wy j hg:Int) < ((Ts (ones (R.getD 0 []))).length:Int):=cq hc2;rw[aa,hpl]at d1;rw[gz2]at d2;have Oc:hg < l.length:=by
      rw[pq];unfold fO at d1;unfold clo at d2;by_cases z:wy=0
      ·rw[if_pos z]at d2 ⊢;lia
      ·rw[if_neg z]at d1 ⊢;lia
     obtain⟨g1,g2,g3,_⟩:=yG afN hb (rr hg Oc) (cc hg Oc);refine⟨_,rfl,_,rfl,t,_,_,_,rfl,rfl,hS,aG (j:=0) rfl,M,_,_,.ref ps[fO wy i hg],rfl,rfl,oM,aG (by simp[g1]),_,rfl,t,_,_,_,rfl,rfl,hS,aG (j:=1) rfl,ps[fO wy i hg],_,_,.str (S [cell R (fO wy i hg) (clo wy j hg)]),rfl,rfl,aU.of g2,aG g3,_,_,rfl,rfl,_,rfl,?_⟩;rw[hcell _ Oc];by_cases hne:l[hg]=46
     ·rw[ah (show [l[hg]]=[46] by rw[hne])]
      exact aX (ex (.inr (by rw[ac Oc,hne])))
     ·rw[ae (show ¬[l[hg]]=[46] by simpa using hne)]
      have er:(fO wy i hg:Int)+(wy:Int)=(fO wy i (hg+1):Int):=by
       unfold fO;by_cases z:wy=0
       ·rw[if_pos z,if_pos z];lia
       ·rw[if_neg z,if_neg z];lia
      have ec:(clo wy j hg:Int)+1-(wy:Int)=(clo wy j (hg+1):Int):=by
       unfold clo;by_cases z:wy=0
       ·rw[if_pos z,if_pos z];lia
       ·rw[if_neg z,if_neg z];lia
      have ahF:(l.drop low).take (hg-low)++[l[hg]]=(l.drop low).take (hg+1-low):=by
       have cA:hg-low < (l.drop low).length:=by rw[bt];lia
       rw[show hg+1-low=hg-low+1 by lia,List.take_succ,ac cA,List.getElem_drop];simp only[show low+(hg-low)=hg by lia];rfl
      refine bI ⟨λσ H4=>∃t2:Addr,aA H' H4/\H4 t2=some (.tup [.int (fO wy i (hg+1)),.int (clo wy j (hg+1))])/\σ=[some (.ref M),some (.int (fO wy i low)),some (.int (clo wy j low)),some (.int wy),some (.str (S ((l.drop low).take (hg+1-low)))),some (.ref t2)],λσ' mX ⟨t2,e1,e2,e3⟩=>⟨l.length-(hg+1),by lia,hg+1,t2,by lia,by lia,rfl,e1,e2,e3,λx a1 a2=>?_⟩,?_⟩
      ·by_cases hx2:x=hg
       ·subst hx2;rw[ac Oc];simpa using hne
       ·exact hy x a1 (by lia)
      ·refine⟨_,rfl,_,rfl,_,rfl,t,_,_,_,rfl,rfl,hS,aG (j:=0) rfl,M,_,_,.ref ps[fO wy i hg],rfl,rfl,oM,aG (by simp[g1]),_,rfl,t,_,_,_,rfl,rfl,hS,aG (j:=1) rfl,ps[fO wy i hg],_,_,.str (S [cell R (fO wy i hg) (clo wy j hg)]),rfl,rfl,aU.of g2,aG g3,(l.drop low).take (hg-low),_,rfl,rfl,hz _ (by rw[ay,bt];simp;lia),?_⟩
       rw[hcell _ Oc,ahF];refine⟨_,rfl,t,_,_,_,rfl,rfl,hS,aG (j:=0) rfl,_,rfl,_,_,rfl,rfl,_,rfl,t,_,_,_,rfl,rfl,hS,aG (j:=1) rfl,_,_,rfl,rfl,_,rfl,_,_,rfl,rfl,zsz 2,λt2 A_=>?_⟩;refine⟨t2,sm.cD (sm.free A_),?_,rfl⟩;rw[au,<- er,<- ec]
    ·refine aX (ex (.inl ?_))
     have d2:¬(clo wy j hg:Int) < ((Ts (ones (R.getD 0 []))).length:Int):=λz=>hc2 (ah z);rw[gz2]at d2;rw[pq]at h2 ⊢;unfold clo at d2;by_cases z:wy=0
     ·rw[if_pos z]at d2 h2 ⊢;lia
     ·rw[if_neg z]at d2;lia
   ·refine aX (ex (.inl ?_))
    have d1:¬(fO wy i hg:Int) < ((ps.map V.ref).length:Int):=λz=>hc1 (ah z);rw[aa,hpl]at d1;rw[pq]at h2 ⊢;unfold fO at d1;by_cases z:wy=0
    ·rw[if_pos z]at d1;lia
    ·rw[if_neg z]at d1 h2 ⊢;lia
  ·rintro σ mX ⟨sm,v5,rfl⟩
   refine⟨_,rfl,_,rfl,_,rfl,_,rfl,zsz 4,λT hT=>?_⟩;refine q T _ (sm.cD (sm.free hT)) ?_;have cA:low+(dM (l.take k)).length=k:=by rw[ab_,bt,ay];lia
   rw[Hl low rfl cA];exact au
structure dJ {α:Type}(enc:α->List V)(H:Hp)(as:List Addr)(xs:List α):Prop where
 len:as.length=xs.length
 at_:∀(i:Nat) (a:Addr) (x:α),as[i]?=some a->xs[i]?=some x->H a=some (.tup (enc x))
theorem dJ.iu {α:Type}{enc:α->List V}{H H':Hp}{as:List Addr}{xs:List α}(k:∀a ys,H a=some (.tup ys)->H' a=some (.tup ys))(h:dJ enc H as xs):dJ enc H' as xs:=⟨h.len,λi a x h1 h2=>k _ _ (h.at_ i a x h1 h2)⟩
theorem dJ.mv {α:Type}{enc:α->List V}{H H':Hp}{as:List Addr}{xs:List α}(k:aA H H')(h:dJ enc H as xs):dJ enc H' as xs:=h.iu λa ys e=>k a _ e
theorem dJ.nil {α:Type}{enc:α->List V}{H:Hp}:dJ enc H [] []:=⟨rfl,λi a x h=>by simp at h⟩
theorem dJ.one {α:Type}{enc:α->List V}{H:Hp}{a:Addr}{x:α}(h:H a=some (.tup (enc x))):dJ enc H [a] [x]:=⟨rfl,λi b y h1 h2=>by
 match i,h1,h2 with
 | 0,h1,h2=>
  have e1:a=b:=ap h1;have e2:x=y:=ap h2;rw[<- e1,<- e2];exact h
 | n+1,h1,h2=>exact absurd h1 (by simp)⟩
theorem dJ.app {α:Type}{enc:α->List V}{H:Hp}{as bs:List Addr}{xs ys:List α}(h:dJ enc H as xs)(g:dJ enc H bs ys):dJ enc H (as++bs) (xs++ys):=by
 refine⟨by rw[a_,a_,h.len,g.len],λi a x h1 h2=>?_⟩;by_cases c:i < as.length
 ·rw[cy c]at h1
  rw[cy (by rw[<- h.len];exact c)]at h2;exact h.at_ i a x h1 h2
 ·rw[ck (by lia)]at h1
  rw[ck (by rw[<- h.len];lia),<- h.len]at h2;exact g.at_ _ a x h1 h2
theorem dJ.get {α:Type}{enc:α->List V}{H:Hp}{as:List Addr}{xs:List α}(h:dJ enc H as xs){i:Nat}(hi:i < as.length):∃x,xs[i]?=some x/\H as[i]=some (.tup (enc x)):=by
 have hx:i < xs.length:=by rw[<- h.len];exact hi
 exact⟨xs[i],ac hx,h.at_ i _ _ (ac hi) (ac hx)⟩
abbrev QL:=dJ (λq:uN=>[V.int q.1,V.int q.2.1,V.int q.2.2.1,V.str (S q.2.2.2)])
abbrev AL3:=dJ (λq:Nat × Nat × Nat=>[V.int q.1,V.int q.2.1,V.int q.2.2])
def gA (ts:List bA):Nat:=if ts.head?.map (·.1)=ts.getLast?.map (·.1) then 0 else 1
def qx (ts:List bA):List (Nat × Nat × Nat):=(ts.take 1).map (λt=>(t.1,t.2.1,gA ts))++ts.map λt=>(t.1,t.2.1,1-gA ts)
def qd (R:AA)(a:Nat × Nat × Nat):uN:=m_ R a.1 a.2.1 a.2.2
def tM (q:uN):Bool:=decide (1 < q.2.2.2.length)
def iH (ak:AA)(ts:List bA):List uN:=((qx ts).map (qd (b_ ak ts))).filter tM
theorem X4 (ts:List bA):gA ts<=1:=by unfold gA;split <;> decide
theorem EY {r w:Nat}{R:AA}(hb:Blk r w R)(r9:r<=9)(w9:w<=9){i j wy:Nat}(hi:i < r):(m_ R i j wy).2.2.2.length<=20:=by
 have hll:=pB hb hi (j:=j) (way:=(wy:Int));have h9:(lineOf R i j (wy:Int)).length<=9:=by rw[hll];split <;> assumption
 show (dM _++fG _).length<=20;have a1:=oK ((lineOf R i j (wy:Int)).take (placeOf i j (wy:Int)));have a2:=vH ((lineOf R i j (wy:Int)).drop (placeOf i j (wy:Int)));rw[ay]at a1;rw[bt]at a2;rw[a_];lia
theorem KN {ts:List bA}(h:0 < ts.length):gA ts=if ts[0].1=ts[ts.length-1].1 then 0 else 1:=by
 unfold gA;rw[jv,lx,ac h,ac (by lia)];simp only[Option.map_some,Option.some.injEq]
theorem fV {H:Hp}{as:List Addr}{ts:List bA}(hL:cT H as ts){i:Nat}(hi:i < ts.length):∃(h:i < as.length),H as[i]=some (.tup [.int ts[i].1,.int ts[i].2.1,.str (S [ts[i].2.2])]):=by
 have h:i < as.length:=by rw[hL.len];exact hi
 obtain⟨t,e,ht⟩:=hL.get h;rw[ac hi]at e;have e:=ap e;rw[<- e]at ht;exact⟨h,ht⟩
theorem Jh {as:List Addr}(h:0 < as.length):oE (as.map V.ref) (-1)=some (.ref as[as.length-1]):=by
 have e:as.map V.ref=(as.take (as.length-1)).map V.ref++[V.ref as[as.length-1]]:=by
  rw[<- iX,<- bS];congr 1;have:=km (as.length-1) as;rw[fv (by lia),show as.length-1+1=as.length by lia,List.drop_length]at this;exact this.symm
 rw[e];exact ZQ _ _
theorem afO (a b:Nat):(if (!decide (V.int (a:Int)=V.int (b:Int)))=true then (1:Int) else 0)=((if a=b then 0 else 1:Nat):Int):=by
 by_cases h:a=b
 ·subst h;simp
 ·have:¬V.int (a:Int)=V.int (b:Int):=λz=>h (by injection z with z;exact jS z)
  simp[h,this]
def E_:Sp:=λvs H Q _=>∃(pr t:Addr) (as:List Addr) (ts:List bA) (r w:Nat) (ak:AA),vs=[.ref pr,.ref t]/\H pr=some (.tup (Ts ak))/\Blk r w ak/\r<=9/\w<=9/\H t=some (.tup (as.map V.ref))/\cT H as ts/\(∀t∈ts,inB r w t)/\0 < ts.length/\ts.length<=7/\
 ∀(T:Addr) (bs:List Addr) (H':Hp),aA H H'->H' T=some (.tup (bs.map V.ref))->QL H' bs (iH ak ts)->Q (.ref T) H'
theorem Ot (D:aK K mg "_law_words" Dj ["_law_rows_here","_law_laying"])(bx:mg "len"=none)(jy:mg "int"=none)(cF:mg "tuple"=none)(afP:bO P w K mg base "_law_grid" 1 ["_law_rows_here","_law_laying"] XQ)(acd:bO P w K mg base "_law_run" 1 ["_law_grid_here","_law_row","_law_column","_law_way"] (X3 K)):bO P w K mg base "_law_words" 2 ["_law_rows_here","_law_laying"] E_:=by
 refine D.dz n8 (λvs H Q E h=>?_) (λf bL A outer s H vs Q E hr h=>?_)
 ·obtain⟨pr,t,as,ts,r,w,ak,rfl,_⟩:=h
  rfl
 ·obtain⟨pr,t,as,ts,r,w,ak,rfl,hpr,hb,r9,w9,ht,hL,bT,h0,h7,q⟩:=h
  refine⟨_,(aD (aQ (i:=2) n8.nd rfl (Or.inl rfl) (aV afP hr.mono rfl (aj (qv 0) (aj (qv 1) aq)))) (aD (aQ (i:=3) n8.nd rfl (Or.inl rfl) (dR uZ (by rfl) jy gc (aj (dU oV (aP bf (aP bf (qv 1) aB (λ_ _=>rfl)) aB (λ_ _=>rfl)) (aP bf (aP bf (qv 1) (yj ug aB) (λ_ _=>rfl)) aB (λ_ _=>rfl)) (aZ _)) aq))) (aD (aQ (i:=4) n8.nd rfl (Or.inl rfl) (d7 (aj (aV acd hr.mono rfl (aj (qv 2) (aj (aP bf (aP bf (qv 1) aB (λ_ _=>rfl)) aB (λ_ _=>rfl)) (aj (aP bf (aP bf (qv 1) aB (λ_ _=>rfl)) aB (λ_ _=>rfl)) (aj (qv 3) aq))))) aq))) (aD (dh bu rfl (dW (qv 1)) (lu rfl (bV (bH (i:=5) n8.nd rfl (Or.inl rfl)) (bV (bH (i:=6) n8.nd rfl (Or.inl rfl)) (bV (bH (i:=7) n8.nd rfl (Or.inl rfl)) iU)))) (aF (dD (fX bX de df gK (qv 4) (aj (aV acd hr.mono rfl (aj (qv 2) (aj (qv 5) (aj (qv 6) (aj (bB iD aB (qv 3)) aq))))) aq))))) (aF (aY (dR gJ (by rfl) cF cv (aj (fJ (ns:=["_law_run_here"]) rfl (fH.of ["_law_rows_here","_law_laying","_law_grid_here","_law_line","_law_runs","_law_row","_law_column","_law_sign_here"] [] (by kernel_rfl)) (gF (qv 4)) (λ_ _ _ _ _=>(oG (show (["_law_run_here","_law_rows_here","_law_laying","_law_grid_here","_law_line","_law_runs","_law_row","_law_column","_law_sign_here"]:List Str).Nodup by decide +kernel) rfl (by rfl))) (λ_ _ _ _ _=>(xr (bw Gq (aO cJ (by rfl) bx aI (aj (aP (mK K) (qv 0) aB (λ_ _=>rfl)) aq)) aB (aZ _)))) (λ_ _ _ _ _=>(qv 0))) aq)))))))),?_⟩;refine⟨_,rfl,_,rfl,pr,t,as,ts,r,w,ak,rfl,hpr,hb,r9,w9,ht,hL,bT,λM ps H1 s1 hM lN=>?_⟩;have hb':=jE hb bT;generalize hR:b_ ak ts=R at lN hb';have hal:=hL.len;have hL1:=hL.mv s1;obtain⟨g0,e0⟩:=fV hL1 h0;obtain⟨gl,el⟩:=fV hL1 (show ts.length-1 < ts.length by lia);have ht1:=aM.of (K:=K) (s1 _ _ ht);have eal:as.length-1=ts.length-1:=by lia
  have yH:oE (as.map V.ref) (-1)=some (.ref as[ts.length-1]):=by
   rw[Jh (show 0 < as.length by lia)];simp only[eal]
  refine⟨_,rfl,t,_,_,.ref as[0],rfl,rfl,ht1,aG (j:=0) (by simp[g0]),as[0],_,_,_,rfl,rfl,aM.of e0,aG (j:=0) rfl,_,rfl,_,rfl,t,_,_,.ref as[ts.length-1],rfl,rfl,ht1,yH,as[ts.length-1],_,_,_,rfl,rfl,aM.of el,aG (j:=0) rfl,rfl,.inr ⟨_,rfl,?_⟩⟩;dsimp only;rw[afO,<- KN h0];have jx:=X4 ts;obtain⟨b1,b2,_⟩:=bT _ (ai h0);refine⟨_,rfl,_,rfl,t,_,_,.ref as[0],rfl,rfl,ht1,aG (j:=0) (by simp[g0]),as[0],_,_,_,rfl,rfl,aM.of e0,aG (j:=0) rfl,_,rfl,t,_,_,.ref as[0],rfl,rfl,ht1,aG (j:=0) (by simp[g0]),as[0],_,_,_,rfl,rfl,aM.of e0,aG (j:=1) rfl,_,rfl,M,H,ps,R,r,w,ts[0].1,ts[0].2.1,gA ts,rfl,hM,lN,hb',r9,w9,b1,b2,jx,λt1 H2 s2 hq1=>?_⟩;refine⟨zsz 1,λL hLl=>?_⟩;have k3:aA H2 (upd H2 L (HO.lst [.ref t1])):=aA.upd hLl;have s3:=s2.trans k3;have hL0:=s2.free hLl;refine⟨_,rfl,t,rfl,⟨_,aM.of (s3 _ _ (s1 _ _ ht))⟩,jN (K:=K) (a:=t) (xs:=as.map V.ref) (λn σ H'=>∃(v5 v6 v7:Option V) (bs:List Addr),σ=[some (.ref pr),some (.ref t),some (.ref M),some (.int (gA ts)),some (.ref L),v5,v6,v7]/\aA H1 H'/\H' L=some (.lst (bs.map V.ref))/\bs.length=n+1/\QL H' bs (((ts.take 1).map (λt=>(t.1,t.2.1,gA ts))++(ts.take n).map λt=>(t.1,t.2.1,1-gA ts)).map (qd R)))
   ⟨none,none,none,[t1],rfl,s3,au,rfl,?_⟩ (λn σ H' _ h=>by obtain⟨_,_,_,_,_,sm,_⟩:=h;exact aM.of (sm _ _ (s1 _ _ ht))) ?_ ?_⟩
  ·have e1:ts.take 1=[ts[0]]:=by rw[List.take_one,jv,ac h0];rfl
   rw[e1,List.take_zero,kx,eQ];exact dJ.one (k3 _ _ hq1)
  ·rintro n x σ H' hx ⟨v5,v6,v7,bs,rfl,sm,X5,pQ,hQ⟩
   have hn:n < as.length:=by have:=(af.mp hx).1;simpa using this
   have hnt:n < ts.length:=by lia
   rw[aS,ac hn]at hx;have hx:V.ref as[n]=x:=ap hx;subst hx;obtain⟨_,en⟩:=fV (hL1.mv sm) hnt;obtain⟨c1,c2,_⟩:=bT _ (ai hnt);refine⟨as[n],_,rfl,aM.of en,rfl,_,_,rfl,_,_,rfl,_,_,rfl,rfl,?_⟩;have e1l:(1:Int)-(gA ts:Int)=((1-gA ts:Nat):Int):=by lia
   refine⟨_,rfl,.inl ⟨rfl,_,aU.of X5⟩,_,rfl,_,rfl,_,rfl,_,rfl,_,_,rfl,rfl,M,H,ps,R,r,w,ts[n].1,ts[n].2.1,1-gA ts,by show [V.ref M,V.int (ts[n].1:Int),V.int (ts[n].2.1:Int),V.int (1-(gA ts:Int))]=_;rw[e1l],sm _ _ hM,lN.KH sm,hb',r9,w9,c1,c2,by lia,λt2 H4 s4 hq2=>?_⟩;have afQ:=s4 _ _ X5;refine⟨L,_,_,rfl,rfl,afQ,by rw[aa];exact aH (by lia),?_⟩;refine⟨_,_,_,bs++[t2],rfl,(sm.trans s4).cD hL0,by rw[au];simp,by simp[pQ],?_⟩;rw[show ts.take (n+1)=ts.take n++(some ts[n]).toList by rw[bo,ac hnt]];have e2:(((ts.take 1).map (λt=>(t.1,t.2.1,gA ts))++(ts.take n++(some ts[n]).toList).map λt=>(t.1,t.2.1,1-gA ts)).map (qd R))=(((ts.take 1).map (λt=>(t.1,t.2.1,gA ts))++(ts.take n).map λt=>(t.1,t.2.1,1-gA ts)).map (qd R))++[qd R (ts[n].1,ts[n].2.1,1-gA ts)]:=by
    rw[bS (l₁:=ts.take n),<- List.append_assoc,bS];rfl
   rw[e2];exact((hQ.mv s4).app (dJ.one hq2)).iu (lZ afQ)
  ·rintro σ H' ⟨v5,v6,v7,bs,rfl,sm,X5,pQ,hQ⟩
   rw[aa]at pQ;rw[aa,hal,bz]at hQ;have hQ':QL H' bs ((qx ts).map (qd R)):=hQ;have hqb:∀n (x:uN),((qx ts).map (qd R))[n]?=some x->x.2.2.2.length<=20:=λn x hx=>by
    obtain⟨a,ha,rfl⟩:=bp.mp (bc hx);have hi:a.1 < r:=by
     rcases a7.mp ha with z | z
     ·obtain⟨u,hu,rfl⟩:=bp.mp z
      exact(bT u (cE hu)).1
     ·obtain⟨u,hu,rfl⟩:=bp.mp z
      exact(bT u hu).1
    exact EY hb' r9 w9 hi
   refine⟨_,rfl,L,rfl,⟨_,aU.of X5⟩,λN hN=>wu (K:=K) (a:=L) (f:=eU [] 0) (tt:=xY (sy (Gp λi j=>V.bl (decide (j < i))) (M7 T8 (j4 (sy (M9 K) (gY 0) (tC (V.int 3))) oW)) (tC (V.int 1)))) (te:=gY 0) (xs:=bs.map V.ref) (λn ys H3=>∃cs:List Addr,ys=cs.map V.ref/\cs.length<=n/\H3 N=some (.lst ys)/\aA H' H3/\QL H3 cs ((((qx ts).map (qd R)).take n).filter tM))
    ⟨[],rfl,al _,au,aA.upd hN,dJ.nil⟩ (λn ys H3 _ h=>by obtain⟨_,_,_,_,sm,_⟩:=h;exact aU.of (sm _ _ X5)) ?_ ?_⟩
   ·rintro n x ys H3 hx ⟨cs,rfl,hcl,oN,sm3,X6⟩
    have hn:n < bs.length:=by have:=(af.mp hx).1;simpa using this
    rw[aS,ac hn]at hx;have hx:V.ref bs[n]=x:=ap hx;subst hx;obtain⟨qq,eq,hat⟩:=(hQ'.mv sm3).get hn;have ah9:=hqb n qq eq;refine⟨_,rfl,bs[n],_,_,_,rfl,rfl,aM.of hat,aG (j:=3) rfl,_,rfl,aE (aH (by lia)),_,_,rfl,rfl,_,rfl,?_⟩;by_cases hc:tM qq=true
    ·have:decide ((1:Int) < (qq.2.2.2.length:Int))=true:=ah (by have:=cq hc;lia)
     rw[this];refine bI ⟨_,rfl,oN,by rw[aa];exact aH (by lia),dZ.mk (by rw[aa];exact hn) ⟨cs++[bs[n]],by simp,by simp;lia,by rw[au],sm3.cD hN,?_⟩⟩;rw[bo,eq,dS];have e2:((some qq).toList).filter tM=[qq]:=by simp[hc]
     rw[e2];exact(X6.app (dJ.one hat)).iu (lZ oN)
    ·have:decide ((1:Int) < (qq.2.2.2.length:Int))=false:=ae (λz=>hc (ah (by lia)))
     rw[this];refine aX (dZ.mk (by rw[aa];exact hn) ⟨cs,rfl,by lia,oN,sm3,?_⟩);rw[bo,eq,dS];have e2:((some qq).toList).filter tM=[]:=by simp[hc]
     rw[e2,eQ];exact X6
   ·rintro ys H3 ⟨cs,rfl,hcl,oN,sm3,X6⟩
    rw[aa,hQ'.len,bz]at X6;refine⟨N,_,rfl,.inl ⟨aU.of oN,λT hT=>?_⟩⟩;have k:aA H3 (upd H3 T (HO.tup (cs.map V.ref))):=aA.upd hT;refine q T cs _ (((s1.trans sm).trans sm3).trans k) au ?_;unfold iH;rw[hR];exact X6.mv k
theorem X7 {ts:List bA}(hl:Dq ts)(h0:0 < ts.length):((ts.map λt=>decide (V.int (t.1:Int)=V.int (ts[0].1:Int))).all id)=decide (gA ts=0):=by
 have hd:∀a b:Nat,decide (V.int (a:Int)=V.int (b:Int))=decide (a=b):=λa b=>by
  by_cases h:a=b
  ·subst h;simp
  ·have:¬V.int (a:Int)=V.int (b:Int):=λz=>h (by injection z with z;exact jS z)
   simp[h,this]
 have key:(∀t∈ts,t.1=ts[0].1)↔ts[0].1=ts[ts.length-1].1:=by
  constructor
  ·intro h
   exact(h _ (ai _)).symm
  ·intro h t ht
   obtain⟨i,hi,rfl⟩:=dm.mp ht;rcases hl with hl | hl
   ·rw[dn]at hl
    rcases Nat.eq_zero_or_pos i with z | z
    ·subst z;rfl
    ·exact(hl 0 i h0 hi z).symm
   ·rw[dn]at hl
    rcases Nat.eq_zero_or_pos (ts.length-1) with z | z
    ·have:i=0:=by lia
     subst this;rfl
    ·have:=hl 0 (ts.length-1) h0 (by lia) z
     lia
 rw[KN h0,f7,cz,decide_eq_true_iff];constructor
 ·intro h
  rw[if_pos];refine key.mp λt ht=>?_;have:=h _ (bp.mpr ⟨t,ht,rfl⟩);rw[hd]at this;exact cq this
 ·intro h x hx
  obtain⟨t,ht,rfl⟩:=bp.mp hx;have he:ts[0].1=ts[ts.length-1].1:=by
   by_cases z:ts[0].1=ts[ts.length-1].1
   ·exact z
   ·rw[if_neg z]at h;cases h
  rw[hd];exact ah (key.mpr he t ht)
def Ou:Sp:=λvs H Q _=>∃(t:Addr) (as:List Addr) (ts:List bA),vs=[.ref t]/\H t=some (.tup (as.map V.ref))/\cT H as ts/\0 < ts.length/\ts.length<=7/\Dq ts/\∀H',aA H H'->Q (.bl (decide (gA ts=0))) H'
theorem X8 {r w:Nat}{R:AA}{i j wy:Nat}(hwy:wy<=1):aaB i j (wy:Int) (lineOf R i j (wy:Int))=[.int (m_ R i j wy).1,.int (m_ R i j wy).2.1,.str (S (m_ R i j wy).2.2.2)]:=by
 unfold aaB m_ placeOf;by_cases z:wy=0
 ·subst z
  have a1:=oK ((lineOf R i j ((0:Nat):Int)).take j);rw[ay]at a1;rw[if_pos rfl];show [V.int (i:Int),V.int ((j:Int)-_),_]=[V.int (i:Int),V.int ((j-_:Nat):Int),_]
  rw[Int.ofNat_sub (by lia)];rfl
 ·have:wy=1:=by lia
  subst this;have a1:=oK ((lineOf R i j ((1:Nat):Int)).take i);rw[ay]at a1;rw[if_neg (by decide)];show [V.int ((i:Int)-_),V.int (j:Int),_]=[V.int ((i-_:Nat):Int),V.int (j:Int),_]
  rw[Int.ofNat_sub (by lia)];rfl
def Ov (C:Addr):Sp:=λvs H Q _=>∃(b t:Addr) (as:List Addr) (ts:List bA) (r w:Nat) (ak aW:AA) (bi bj:Nat),vs=[.ref b,.ref t]/\fD C H b r w ak aW bi bj/\H t=some (.tup (as.map V.ref))/\cT H as ts/\(∀t∈ts,inB r w t)/\0 < ts.length/\ts.length<=7/\Dq ts/\
 ∀(T:Addr) (bs:List Addr) (H':Hp),aA H H'->H' T=some (.tup (bs.map V.ref))->QL H' bs (iH ak ts)->Q (.ref T) H'
theorem X_ {C f1 f2:Addr}{iw fd2:FuncData}(D:aK K mg "formed" yt ["board","laying"])(bx:mg "len"=none)(cF:mg "tuple"=none)(fQ:gW K C)(uO:Meth K C "laid" f1)(uP:cP P w K mg base fZ 8 f1 iw ["self","laying"] (Oj C))(uQ:cO K iw ["self","laying"] [])
  (Rf:Meth K C "run" f2) (Rg:cP P w K mg base fZ 2 f2 fd2 ["self","row","column","way"] (ab9 C)) (Rh:cO K fd2 ["self","row","column","way"] []) (wB:bO P w K mg base "is_across" 1 ["laying"] Ou):bO P w K mg base "formed" 10 ["board","laying"] (Ov C):=by
 refine D.dz jw (λvs H Q E h=>?_) (λf bL A outer s H vs Q E hr h=>?_)
 ·obtain⟨b,t,as,ts,r,w,ak,aW,bi,bj,rfl,_⟩:=h
  rfl
 ·obtain⟨b,t,as,ts,r,w,ak,aW,bi,bj,rfl,BA,ht,hL,bT,h0,h7,hl,q⟩:=h
  obtain⟨dx,_,_,_,ex,_⟩:=id BA.ex;have r9:=BA.ok.r9;have w9:=BA.ok.w9;have hal:=hL.len;have jx:=X4 ts;refine⟨_,(aD (aQ (i:=2) jw.nd rfl (Or.inl rfl) (qj (qv 0) fQ.cl uO uP hr.mono uQ .nil lK (aj (qv 1) aq))) (aD (gn (aQ (i:=3) jw.nd rfl (Or.inr rfl) (qg (dj (aV wB hr.mono rfl (aj (qv 1) aq))) aB aB))) (aD (aQ (i:=4) jw.nd rfl (Or.inl rfl) (d7 (aj (cH (aj (aP bf (aP bf (qv 1) aB (λ_ _=>rfl)) aB (λ_ _=>rfl)) (aj (aP bf (aP bf (qv 1) aB (λ_ _=>rfl)) aB (λ_ _=>rfl)) (aj (qv 3) aq)))) aq))) (aD (dD (fX bX PySem.F.slot_list_extend PySem.F.type_list_extend Wq (qv 4) (aj (fJ (ns:=["row","column","sign"]) rfl (fH.of ["board","laying","after","way","asked",".5",".6","words","along","run"] [5,6] (by kernel_rfl)) (dW (qv 1)) (λ_ _ _ _ _=>(ql K rfl (show (["row","column","sign","board","laying","after","way","asked",".5",".6","words","along","run"]:List Str).Nodup by decide +kernel) rfl rfl rfl (by rfl) (by rfl) (by rfl))) (λ_ _ _ _ _=>cZ) (λ_ _ _ _ _=>(cH (aj (qv 0) (aj (qv 1) (aj (bB iD aB (qv 6)) aq)))))) aq))) (aD (aQ (i:=7) jw.nd rfl (Or.inl rfl) (d7 aq)) (aD (dh bu rfl (gF (qv 4)) (lu rfl (bV (bH (i:=5) jw.nd rfl (Or.inl rfl)) (bV (bH (i:=6) jw.nd rfl (Or.inl rfl)) (bV (bH (i:=8) jw.nd rfl (Or.inl rfl)) iU)))) (aD (aQ (i:=9) jw.nd rfl (Or.inl rfl) (qj (qv 2) fQ.cl Rf Rg hr.mono Rh .nil lK (aj (qv 5) (aj (qv 6) (aj (qv 8) aq))))) (aF (bW (bw TJ (aO cJ (by rfl) bx aI (aj (aP bf (qv 9) aB (λ_ _=>rfl)) aq)) aB (aZ _)) (aF (dD (fX bX de df gK (qv 7) (aj (cH (aj (aP bf (qv 9) aB (λ_ _=>rfl)) (aj (aP bf (qv 9) aB (λ_ _=>rfl)) (aj (qv 8) (aj (aP bf (qv 9) aB (λ_ _=>rfl)) aq))))) aq)))) bC)))) (aF (aY (dR gJ (by rfl) cF cv (aj (qv 7) aq)))))))))),?_⟩;refine⟨_,rfl,b,dx,_,rfl,ex,rfl,_,rfl,b,t,as,ts,r,w,ak,aW,bi,bj,rfl,BA,ht,hL,bT,λx1 H1 s1 B1=>?_⟩;have hb':=jE BA.ok.br bT;generalize hR:b_ ak ts=R at B1 hb';refine⟨λσ H'=>aA H1 H'/\σ=[some (.ref b),some (.ref t),some (.ref x1),some (.int (gA ts)),none,none,none,none,none,none],?_,?_⟩
  ·refine⟨_,rfl,t,as,ts,rfl,s1 _ _ ht,hL.mv s1,h0,h7,hl,λH2 s2=>⟨_,rfl,?_⟩⟩
   by_cases z:gA ts=0
   ·rw[ah z]
    refine bI ⟨s2,?_⟩;rw[z];rfl
   ·rw[ae z]
    refine aX ⟨s2,?_⟩;rw[show gA ts=1 by lia];rfl
  rintro σ H2 ⟨s2,rfl⟩;have s12:=s1.trans s2;have hL2:=hL.mv s12;have A_:=s12 _ _ ht;obtain⟨g0,e0⟩:=fV hL2 h0;refine⟨_,rfl,t,_,_,.ref as[0],rfl,rfl,aM.of A_,aG (j:=0) (by simp[g0]),as[0],_,_,_,rfl,rfl,aM.of e0,aG (j:=0) rfl,_,rfl,t,_,_,.ref as[0],rfl,rfl,aM.of A_,aG (j:=0) (by simp[g0]),as[0],_,_,_,rfl,rfl,aM.of e0,aG (j:=1) rfl,_,rfl,zsz 3,λt1 ht1=>⟨zsz 1,λA0 hA0=>?_⟩⟩;have k3:aA H2 (upd H2 t1 (HO.tup [.int ts[0].1,.int ts[0].2.1,.int (gA ts)])):=aA.upd ht1;have k4:=k3.cD (o:=HO.lst [.ref t1]) (k3.free hA0);have hA0':=k3.free hA0;have n1A:t1≠A0:=λz=>by rw[<- z,au]at hA0;cases hA0
  have e1:upd (upd H2 t1 (HO.tup [.int ts[0].1,.int ts[0].2.1,.int (gA ts)])) A0 (HO.lst [.ref t1]) t1=some (.tup [.int ts[0].1,.int ts[0].2.1,.int (gA ts)]):=by rw[aN n1A,au]
  have eA:upd (upd H2 t1 (HO.tup [.int ts[0].1,.int ts[0].2.1,.int (gA ts)])) A0 (HO.lst [.ref t1]) A0=some (.lst [.ref t1]):=au;generalize upd (upd H2 t1 (HO.tup [.int ts[0].1,.int ts[0].2.1,.int (gA ts)])) A0 (HO.lst [.ref t1])=H4 at k4 e1 eA ⊢;have Xz:=k4 _ _ A_;have jX:=hL2.mv k4;have e1l:(1:Int)-(gA ts:Int)=((1-gA ts:Nat):Int):=by lia
  refine⟨_,rfl,.inl ⟨rfl,_,aU.of eA⟩,_,rfl,t,rfl,⟨_,aM.of Xz⟩,λN hN=>j9 (K:=K) (KT:=K) (a:=t) (f:=eU [5,6] 0) (tt:=iB) (xs:=as.map V.ref) (λn ys H5=>∃cs:List Addr,ys=cs.map V.ref/\cs.length=n/\H5 N=some (.lst ys)/\aA H4 H5/\AL3 H5 cs ((ts.take n).map λt=>(t.1,t.2.1,1-gA ts)))
   ⟨[],rfl,rfl,au,aA.upd hN,dJ.nil⟩ (λn ys H5 _ h=>by obtain⟨_,_,_,_,sm,_⟩:=h;exact aM.of (sm _ _ Xz)) ?_ ?_⟩
  ·rintro n x ys H5 hx ⟨cs,rfl,hcl,pC,iR,vI⟩
   have hn:n < as.length:=by have:=(af.mp hx).1;simpa using this
   have hnt:n < ts.length:=by lia
   rw[aS,ac hn]at hx;have hx:V.ref as[n]=x:=ap hx;obtain⟨_,en⟩:=fV (jX.mv iR) hnt;refine yq hx.symm (aM.of en) ?_;refine⟨_,rfl,_,rfl,_,rfl,_,_,rfl,rfl,zsz 3,λg hg=>?_⟩;have kg:aA H5 (upd H5 g (HO.tup [.int ts[n].1,.int ts[n].2.1,.int (1-(gA ts:Int))])):=aA.upd hg;have KQ:=kg _ _ pC;refine⟨KQ,by rw[aa];exact aH (by lia),dZ.mk (by rw[aa];exact hn) ⟨cs++[g],by simp,by simp[hcl],by rw[au],(iR.trans kg).cD hN,?_⟩⟩;rw[show ts.take (n+1)=ts.take n++[ts[n]] by rw[bo,ac hnt];rfl,bS];refine((vI.mv kg).app (dJ.one (x:=(ts[n].1,ts[n].2.1,1-gA ts)) ?_)).iu (lZ KQ);rw[au,e1l]
  rintro ys H5 ⟨cs,rfl,hcl,pC,iR,vI⟩;rw[aa]at hcl;rw[aa,hal,bz]at vI;have eA5:=iR _ _ eA;refine⟨A0,N,_,_,rfl,rfl,eA5,pC,by rw[aa,hcl];exact aE (aH (by simp;lia)),?_⟩;have aaG:AL3 (upd H5 A0 (HO.lst ([V.ref t1]++cs.map V.ref))) ([t1]++cs) (qx ts):=by
   have hone:AL3 H5 [t1] ((ts.take 1).map λt=>(t.1,t.2.1,gA ts)):=by
    rw[List.take_one,jv,ac h0];exact dJ.one (x:=(ts[0].1,ts[0].2.1,gA ts)) (iR _ _ e1)
   exact(hone.app vI).iu (lZ eA5)
  have sH6:aA H1 (upd H5 A0 (HO.lst ([V.ref t1]++cs.map V.ref))):=λa o e=>by
   have:=(k4.trans iR) _ _ (s2 _ _ e);rw[aN (λz=>by rw[z]at e;have:=s2 _ _ e;rw[hA0']at this;cases this)];exact this
  have eA6:upd H5 A0 (HO.lst ([V.ref t1]++cs.map V.ref)) A0=some (.lst (([t1]++cs).map V.ref)):=by rw[au];simp
  generalize upd H5 A0 (HO.lst ([V.ref t1]++cs.map V.ref))=H6 at aaG sH6 eA6 ⊢;have afR:=aaG.len;have hak:(qx ts).length=1+ts.length:=by
   unfold qx;rw[a_,aa,aa,ay];lia
  have ahG:∀n (a:Nat × Nat × Nat),(qx ts)[n]?=some a->a.1 < r/\a.2.1 < w/\a.2.2<=1:=λn a ha=>by
   rcases a7.mp (bc ha) with z | z
   ·obtain⟨u,hu,rfl⟩:=bp.mp z
    have:=bT u (cE hu);exact⟨this.1,this.2.1,jx⟩
   ·obtain⟨u,hu,rfl⟩:=bp.mp z
    have:=bT u hu;exact⟨this.1,this.2.1,by show 1-gA ts<=1;lia⟩
  refine⟨zsz 0,λW hW=>?_⟩;have hW0:=sH6.free hW;have nWA:A0≠W:=λz=>by rw[<- z,eA6]at hW;cases hW
  have kW:aA H6 (upd H6 W (HO.lst [])):=aA.upd hW;refine⟨_,rfl,A0,rfl,⟨_,aU.of (kW _ _ eA6)⟩,nZ (K:=K) (a:=A0) (xs:=([t1]++cs).map V.ref) (λn σ H'=>∃(v6 v7 v8 v9:Option V) (bs:List Addr),σ=[some (.ref b),some (.ref t),some (.ref x1),some (.int (gA ts)),some (.ref A0),v6,v7,some (.ref W),v8,v9]/\aA H6 H'/\H' W=some (.lst (bs.map V.ref))/\bs.length<=n/\QL H' bs ((((qx ts).take n).map (qd R)).filter tM))
   ⟨none,none,none,none,[],rfl,kW,au,al _,dJ.nil⟩ (λn σ H' _ h=>by obtain⟨_,_,_,_,_,_,sm,_⟩:=h;exact aU.of (sm _ _ eA6)) ?_ ?_⟩
  ·rintro n x σ H' hx ⟨v6,v7,v8,v9,bs,rfl,sm,hWb,pQ,hQ⟩
   have hn:n < ([t1]++cs).length:=by have:=(af.mp hx).1;simpa using this
   rw[aS,ac hn]at hx;have hx:V.ref ([t1]++cs)[n]=x:=ap hx;subst hx;obtain⟨a,ea,hat⟩:=(aaG.mv sm).get hn;obtain⟨c1,c2,c3⟩:=ahG n a ea;have hn9:n < 9:=by rw[afR,hak]at hn;lia
   refine⟨([t1]++cs)[n],_,rfl,aM.of hat,rfl,_,_,rfl,_,_,rfl,_,_,rfl,rfl,?_⟩;have B2:=B1.mv (sH6.trans sm);obtain⟨dx1,_,_,_,ex1,_⟩:=id B2.ex;refine⟨_,rfl,x1,dx1,_,rfl,ex1,rfl,_,rfl,_,rfl,_,rfl,x1,r,w,R,aW,bi,bj,a.1,a.2.1,(a.2.2:Int),rfl,B2,c1,c2,by lia,λt2 H7 s7 _ ht7=>?_⟩;rw[X8 (r:=r) (w:=w) c3]at ht7;have cA:=EY hb' r9 w9 c1 (j:=a.2.1) (wy:=a.2.2);have hS7:=aM.of (K:=K) ht7;have aaH:=s7 _ _ hWb;refine⟨_,rfl,t2,_,_,_,rfl,rfl,hS7,aG (j:=2) rfl,_,rfl,aE (aH (by lia)),_,_,rfl,rfl,_,rfl,?_⟩;have ace:(qx ts).take (n+1)=(qx ts).take n++[a]:=by rw[bo,ea];rfl
   by_cases hc:tM (qd R a)=true
   ·have:decide ((2:Int)<=((m_ R a.1 a.2.1 a.2.2).2.2.2.length:Int))=true:=ah (by have:=cq hc;show (2:Int)<=((qd R a).2.2.2.length:Int);lia)
    rw[this];refine bI ⟨_,rfl,.inl ⟨rfl,_,aU.of aaH⟩,_,rfl,t2,_,_,_,rfl,rfl,hS7,aG (j:=0) rfl,_,rfl,t2,_,_,_,rfl,rfl,hS7,aG (j:=1) rfl,_,rfl,_,rfl,t2,_,_,_,rfl,rfl,hS7,aG (j:=2) rfl,zsz 4,λg hg=>?_⟩;have kg:aA H7 (upd H7 g (HO.tup [.int (m_ R a.1 a.2.1 a.2.2).1,.int (m_ R a.1 a.2.1 a.2.2).2.1,.int a.2.2,.str (S (m_ R a.1 a.2.1 a.2.2).2.2.2)])):=aA.upd hg;have hWg:=kg _ _ aaH;refine⟨W,_,_,rfl,rfl,hWg,by rw[aa];exact aH (by lia),?_⟩;refine⟨_,_,_,_,bs++[g],rfl,((sm.trans s7).trans kg).cD hW,by rw[au];simp,by simp;lia,?_⟩;rw[ace,bS,dS];have e2:([a].map (qd R)).filter tM=[qd R a]:=by simp[hc]
    rw[e2];exact(((hQ.mv s7).mv kg).app (dJ.one (x:=qd R a) au)).iu (lZ hWg)
   ·have:decide ((2:Int)<=((m_ R a.1 a.2.1 a.2.2).2.2.2.length:Int))=false:=ae (λz=>hc (ah (by have z:(2:Int)<=((qd R a).2.2.2.length:Int):=z;lia)))
    rw[this];refine aX ⟨_,_,_,_,bs,rfl,sm.trans s7,aaH,by lia,?_⟩;rw[ace,bS,dS];have e2:([a].map (qd R)).filter tM=[]:=by simp[hc]
    rw[e2,eQ];exact hQ.mv s7
  ·rintro σ H' ⟨v6,v7,v8,v9,bs,rfl,sm,hWb,pQ,hQ⟩
   rw[aa,afR,bz]at hQ;refine⟨_,rfl,W,_,rfl,.inl ⟨aU.of hWb,λT hT=>?_⟩⟩;have k:aA H' (upd H' T (HO.tup (bs.map V.ref))):=aA.upd hT;refine q T bs _ (((s1.trans sH6).trans sm).trans k) au ?_;unfold iH;rw[hR];exact hQ.mv k
def Fb (K:W.Frag)(T:String)(H:Hp)(x:V):Prop:=∃t,jO K H x t/\W.kitOne K t (.type T)=some false
theorem jO.mv {K:W.Frag}{H H':Hp}{x:V}{t:Value}(h:jO K H x t)(s:aA H H'):jO K H' x t:=by
 cases h with
 | non=>exact .non
 | bl b=>exact .bl b
 | int i=>exact .int i
 | str x=>exact .str x
 | flt x=>exact .flt x
 | lst e=>exact .lst (s _ _ e)
 | nj e=>exact .nj (s _ _ e)
 | tup e=>exact .tup (s _ _ e)
 | dK e=>exact .dK (s _ _ e)
 | dT e=>exact .dT (s _ _ e)
 | ins e a b c d f=>exact .ins (s _ _ e) a b c d f
theorem Fb.mv {K:W.Frag}{T:String}{H H':Hp}{x:V}(h:Fb K T H x)(s:aA H H'):Fb K T H' x:=let ⟨t,a,b⟩:=h;⟨t,jO.mv a s,b⟩
def Fd (K:W.Frag):Sp:=λvs H Q _=>(∃i:Int,vs=[.int i]/\Q (.bl true) H)\/(∃b:Bool,vs=[.bl b]/\Q (.bl false) H)\/∃x,vs=[x]/\Fb K "int" H x/\Q (.bl false) H
theorem Ow (D:aK K mg "is_whole" tu ["thing"])(jy:mg "int"=none)(Bg:mg "bool"=none)(bJ:mg "isinstance"=none):bO P w K mg base "is_whole" 1 ["thing"] (Fd K):=by
 refine D.dz Q0 (λvs H Q E h=>?_) (λf bL A outer s H vs Q E hr h=>?_)
 ·rcases h with⟨i,rfl,_⟩ | ⟨i,rfl,_⟩ | ⟨i,rfl,_⟩ <;> rfl
 ·refine⟨_,(aF (aY (lV (aO iM (by rfl) bJ bn (aj (qv 0) (aj (mJ (v:=.ty "int") (by rfl) jy gc rfl) aq))) (jP (afa (aO iM (by rfl) bJ bn (aj (qv 0) (aj (mJ (v:=.ty "bool") (by rfl) Bg PyProof.Rows.boot_bool rfl) aq)))))))),?_⟩
  rcases h with⟨i,rfl,q⟩ | ⟨b,rfl,q⟩ | ⟨x,rfl,⟨t,ty,k⟩,q⟩
  ·exact⟨_,rfl,_,_,_,true,rfl,.int _,(by kernel_rfl),true,rfl,bI ⟨_,rfl,_,_,_,false,rfl,.int _,(by kernel_rfl),false,rfl,q⟩⟩
  ·exact⟨_,rfl,_,_,_,true,rfl,.bl _,(by kernel_rfl),true,rfl,bI ⟨_,rfl,_,_,_,true,rfl,.bl _,(by kernel_rfl),true,rfl,q⟩⟩
  ·exact⟨_,rfl,_,_,_,false,rfl,ty,k,false,rfl,aX q⟩
theorem all_map {α:Type}(l:List α)(f:α->Bool):((l.map f).all id)=l.all f:=by induction l with | nil=>rfl | cons a l ih=>simp[ih]
theorem take_snoc {α β:Type}{l:List α}{i:Nat}{a:α}(h:l[i]?=some a)(f:α->β):(l.take (i+1)).map f=(l.take i).map f++[f a]:=by
 rw[bo,h,bS];rfl
inductive vJ (K:W.Frag) (H:Hp):V->Option Int->Prop
 | int (i:Int):vJ K H (.int i) (some i)
 | bl (b:Bool):vJ K H (.bl b) none
 | no {x:V} (h:Fb K "int" H x):vJ K H x none
theorem vJ.mv {H H':Hp}{x:V}{o:Option Int}(h:vJ K H x o)(s:aA H H'):vJ K H' x o:=by
 cases h with
 | int i=>exact .int i
 | bl b=>exact .bl b
 | no h=>exact .no (h.mv s)
def Ho (r w:Nat)(oi oj:Option Int):Bool:=match oi,oj with | some i,some j=>decide (0<=i/\i < r/\0<=j/\j < w) | _,_=>false
def Sw (K:W.Frag):Sp:=λvs H Q _=>∃(p:Addr) (ls:AA) (r w:Nat) (x y:V) (oi oj:Option Int),vs=[.ref p,x,y]/\H p=some (.tup (Ts ls))/\Blk r w ls/\1<=r/\r<=9/\w<=9/\vJ K H x oi/\vJ K H y oj/\Q (.bl (Ho r w oi oj)) H
theorem vJ.sp {H:Hp}{x:V}{o:Option Int}{Q:VK}{E:XK}(h:vJ K H x o)(q:Q (.bl o.isSome) H):Fd K [x] H Q E:=by
 cases h with
 | int i=>exact .inl ⟨i,rfl,q⟩
 | bl b=>exact .inr (.inl ⟨b,rfl,q⟩)
 | no h=>exact .inr (.inr ⟨x,rfl,h,q⟩)
theorem Ji (D:aK K mg "is_cell_of" lW ["rows","row","column"])(bx:mg "len"=none)(pA:bO P w K mg base "is_whole" 1 ["thing"] (Fd K)):bO P w K mg base "is_cell_of" 2 ["rows","row","column"] (Sw K):=by
 refine D.dz zX (λvs H Q E h=>?_) (λf bL A outer s H vs Q E hr h=>?_)
 ·obtain⟨p,ls,r,w,x,y,oi,oj,rfl,_⟩:=h
  rfl
 ·obtain⟨p,ls,r,w,x,y,oi,oj,rfl,hp,hb,r1,r9,w9,hx,hy,q⟩:=h
  have jx:(Ts ls).length=r:=by rw[aa,hb.len]
  have h0:0 < ls.length:=by rw[hb.len];lia
  have hw0:ls[0].length=w:=hb.iQ _ (ai _);refine⟨_,(aD (bW (QW.qt (j7 (eO (dj (aV pA hr.mono rfl (aj (qv 1) aq)))) (jc (eO (dj (aV pA hr.mono rfl (aj (qv 2) aq))))))) (aF (aY iI)) bC) (aF (aY (lV (j6 lJ jo aB (qv 1) (aO bQ (by rfl) bx aI (aj (qv 0) aq))) (jP (j6 lJ jo aB (qv 2) (aO cJ (by rfl) bx aI (aj (aP bf (qv 0) aB (λ_ _=>rfl)) aq)))))))),?_⟩;refine⟨_,rfl,?_⟩;dsimp only[oW,j4];refine vJ.sp hx ⟨_,rfl,?_⟩;cases hx with
  | bl b=>exact bI q
  | no h=>exact bI q
  | int i=>
   refine aX ⟨_,rfl,?_⟩;dsimp only[oW,j4];refine vJ.sp hy ⟨_,rfl,?_⟩;cases hy with
   | bl b=>exact bI q
   | no h=>exact bI q
   | int j=>
    refine aX ?_;have q:Q (.bl (decide (0<=i/\i < (r:Int)/\0<=j/\j < (w:Int)))) H:=q;refine⟨_,rfl,_,_,rfl,rfl,_,rfl,?_⟩;by_cases h1:0<=i
    ·rw[ah h1]
     refine bI ⟨_,rfl,p,_,rfl,.inr (aM.of hp),_,_,rfl,rfl,_,rfl,?_⟩;rw[jx];by_cases h2:i < (r:Int)
     ·rw[ah h2]
      refine bI ⟨_,rfl,_,_,rfl,rfl,_,rfl,?_⟩;by_cases h3:0<=j
      ·rw[ah h3]
       refine bI ⟨_,rfl,p,_,_,.str (S ls[0]),rfl,rfl,aM.of hp,aG (j:=0) (fY (by simp[h0])),_,rfl,aE (aH (by lia)),_,_,rfl,rfl,?_⟩;rw[hw0];simpa [h1,h2,h3] using q
      ·rw[ae h3]
       refine aX ?_;simpa [h1,h2,h3] using q
     ·rw[ae h2]
      refine aX ?_;simpa [h1,h2] using q
    ·rw[ae h1]
     refine aX ⟨_,rfl,aX ?_⟩;simpa [h1] using q
inductive Sx (K:W.Frag) (H:Hp):V->Option (List Nat)->Prop
 | no {x:V} (h:ab6 K H x):Sx K H x none
 | str (l:List Nat) (h:l.length<=1000):Sx K H (.str (S l)) (some l)
theorem Sx.mv {H H':Hp}{x:V}{o:Option (List Nat)}(h:Sx K H x o)(s:aA H H'):Sx K H' x o:=by
 cases h with
 | no h=>exact .no (let ⟨t,a,b⟩:=h;⟨t,jO.mv a s,b⟩)
 | str l h=>exact .str l h
abbrev vK:=Option (Option Int × Option Int × Option (List Nat))
inductive xQ (K:W.Frag) (H:Hp):V->vK->Prop
 | no {x:V} (h:Fb K "tuple" H x):xQ K H x none
 | bad {b:Addr} {xs:List V} (h:H b=some (.tup xs)) (hl:xs.length≠3):xQ K H (.ref b) none
 | tri {b:Addr} {x y z:V} {oi oj:Option Int} {ol:Option (List Nat)} (h:H b=some (.tup [x,y,z])) (hx:vJ K H x oi) (hy:vJ K H y oj) (hz:Sx K H z ol):xQ K H (.ref b) (some (oi,oj,ol))
theorem xQ.mv {H H':Hp}{x:V}{o:vK}(h:xQ K H x o)(s:aA H H'):xQ K H' x o:=by
 cases h with
 | no h=>exact .no (h.mv s)
 | bad h hl=>exact .bad (s _ _ h) hl
 | tri h hx hy hz=>exact .tri (s _ _ h) (hx.mv s) (hy.mv s) (hz.mv s)
def sgO (ol:Option (List Nat)):Bool:=match ol with | none=>false | some l=>Ea l
def qU (r w:Nat)(o:vK):Bool:=match o with | none=>false | some (oi,oj,ol)=>Ho r w oi oj&&sgO ol
def KR (K:W.Frag)(C:Addr):Sp:=λvs H Q _=>∃(b:Addr) (x:V) (o:vK) (r w:Nat) (ak aW:AA) (bi bj:Nat),vs=[.ref b,x]/\fD C H b r w ak aW bi bj/\xQ K H x o/\Q (.bl (qU r w o)) H
theorem Ox {C:Addr}(D:aK K mg "is_triple" qP ["board","thing"])(bx:mg "len"=none)(cF:mg "tuple"=none)(bJ:mg "isinstance"=none)(T:gW K C)
  (lX:bO P w K mg base "is_cell_of" 2 ["rows","row","column"] (Sw K)) (Ax:bO P w K mg base "is_sign" 1 ["thing"] (Oa K)):bO P w K mg base "is_triple" 3 ["board","thing"] (KR K C):=by
 refine D.dz N7 (λvs H Q E h=>?_) (λf bL A outer s H vs Q E hr h=>?_)
 ·obtain⟨b,x,o,r,w,ak,aW,bi,bj,rfl,_⟩:=h
  rfl
 ·obtain⟨b,x,o,r,w,ak,aW,bi,bj,rfl,BA,hT,q⟩:=h
  obtain⟨⟨dx,pr,pm,pb,hb,hpr,hpm,hpb⟩,B⟩:=BA;refine⟨_,(aD (bW (QW.qt (j7 (eO (dj (aO iM (by rfl) bJ bn (aj (qv 1) (aj (mJ (v:=.ty "tuple") (by rfl) cF cv rfl) aq))))) (jc (bw oV (aO bQ (by rfl) bx aI (aj (qv 1) aq)) aB (aZ _))))) (aF (aY iI)) bC) (aF (aY (lV (aV lX hr.mono rfl (aj (jr (qv 0) rfl) (aj (aP bf (qv 1) aB (λ_ _=>rfl)) (aj (aP bf (qv 1) aB (λ_ _=>rfl)) aq)))) (jP (aV Ax hr.mono rfl (aj (aP bf (qv 1) aB (λ_ _=>rfl)) aq))))))),?_⟩;cases hT with
  | no h=>
   obtain⟨t,ty,k⟩:=h;exact⟨_,rfl,_,_,_,false,rfl,ty,k,_,rfl,bI (bI q)⟩
  | @bad a xs h hl=>
   refine⟨_,rfl,_,_,_,true,rfl,.tup h,(by kernel_rfl),_,rfl,aX ⟨_,rfl,a,_,rfl,.inr (aM.of h),rfl,_,rfl,?_⟩⟩;rw[ae (show ¬V.int (xs.length:Nat)=V.int 3 from λz=>hl (by injection z with z;lia))];exact bI q
  | @tri a x y z oi oj ol h hx hy hz=>
   refine⟨_,rfl,_,_,_,true,rfl,.tup h,(by kernel_rfl),_,rfl,aX ⟨_,rfl,a,_,rfl,.inr (aM.of h),rfl,_,rfl,oY rfl ?_⟩⟩;refine⟨_,rfl,b,C,dx,_,_,rfl,hb,T.cl,T.nr,rfl,_,rfl,a,_,_,x,rfl,rfl,aM.of h,aG (j:=0) rfl,_,rfl,a,_,_,y,rfl,rfl,aM.of h,aG (j:=1) rfl,pr,ak,r,w,x,y,oi,oj,rfl,hpr,B.br,B.r1,B.r9,B.w9,hx,hy,_,rfl,?_⟩;have q:Q (.bl (Ho r w oi oj&&sgO ol)) H:=q;cases hc:Ho r w oi oj with
   | false=>rw[hc]at q;exact aX q
   | true=>
    rw[hc]at q;refine bI ⟨_,rfl,a,_,_,z,rfl,rfl,aM.of h,aG (j:=2) rfl,?_⟩;dsimp only[oW,j4];cases hz with
    | no h=>exact .inl ⟨z,rfl,h,q⟩
    | str l hl=>exact .inr ⟨l,rfl,hl,q⟩
abbrev Oz:=dJ (λq:Nat × Nat=>[V.int q.1,V.int q.2])
def Bh:Sp:=λvs H Q _=>∃(t:Addr) (as:List Addr) (ts:List bA),vs=[.ref t]/\H t=some (.tup (as.map V.ref))/\cT H as ts/\ts.length<=100/\
 ∀(L:Addr) (cs:List Addr) (H':Hp),aA H H'->H' L=some (.lst (cs.map V.ref))->Oz H' cs (ts.map λt=>(t.1,t.2.1))->Q (.ref L) H'
theorem Ri (D:aK K mg "cells_of" tK ["laying"]):bO P w K mg base "cells_of" 1 ["laying"] Bh:=by
 refine D.dz Q7 (λvs H Q E h=>?_) (λf bL A outer s H vs Q E hr h=>?_)
 ·obtain⟨t,as,ts,rfl,_⟩:=h
  rfl
 ·obtain⟨t,as,ts,rfl,ht,hL,h7,q⟩:=h
  have hal:=hL.len;refine⟨_,(aF (aY (fJ (ns:=["row","column","sign"]) rfl (fH.of ["laying"] [] (by kernel_rfl)) (dW (qv 0)) (λ_ _ _ _ _=>(ql K rfl (show (["row","column","sign","laying"]:List Str).Nodup by decide +kernel) rfl rfl rfl (by rfl) (by rfl) (by rfl))) (λ_ _ _ _ _=>cZ) (λ_ _ _ _ _=>(cH (aj (qv 0) (aj (qv 1) aq))))))),?_⟩;refine⟨_,rfl,t,rfl,⟨_,aM.of ht⟩,λN hN=>j9 (K:=K) (KT:=K) (a:=t) (f:=eU [] 0) (tt:=iB) (xs:=as.map V.ref) (λn ys H5=>∃cs:List Addr,ys=cs.map V.ref/\cs.length=n/\H5 N=some (.lst ys)/\aA H H5/\Oz H5 cs ((ts.take n).map λt=>(t.1,t.2.1)))
   ⟨[],rfl,rfl,au,aA.upd hN,dJ.nil⟩ (λn ys H5 _ h=>by obtain⟨_,_,_,_,sm,_⟩:=h;exact aM.of (sm _ _ ht)) ?_ ?_⟩
  ·rintro n x ys H5 hx ⟨cs,rfl,hcl,pC,iR,vI⟩
   have hn:n < as.length:=by have:=(af.mp hx).1;simpa using this
   have hnt:n < ts.length:=by lia
   rw[aS,ac hn]at hx;have hx:V.ref as[n]=x:=ap hx;obtain⟨_,en⟩:=fV (hL.mv iR) hnt;refine yq hx.symm (aM.of en) ?_;refine⟨_,rfl,_,rfl,zsz 2,λg hg=>?_⟩;have kg:aA H5 (upd H5 g (HO.tup [.int ts[n].1,.int ts[n].2.1])):=aA.upd hg;have KQ:=kg _ _ pC;refine⟨KQ,by rw[aa];exact aH (by lia),dZ.mk (by rw[aa];exact hn) ⟨cs++[g],by simp,by simp[hcl],by rw[au],(iR.trans kg).cD hN,?_⟩⟩;rw[show ts.take (n+1)=ts.take n++[ts[n]] by rw[bo,ac hnt];rfl,bS];exact((vI.mv kg).app (dJ.one (x:=(ts[n].1,ts[n].2.1)) au)).iu (lZ KQ)
  ·rintro ys H5 ⟨cs,rfl,hcl,pC,iR,vI⟩
   rw[aa,hal,bz]at vI;exact q N cs H5 iR pC vI
structure Fe (K:W.Frag)(H:Hp)(xs:List V)(os:List vK):Prop where
 len:xs.length=os.length
 at_:∀(i:Nat) (x:V) (o:vK),xs[i]?=some x->os[i]?=some o->xQ K H x o
inductive Yb (K:W.Frag) (H:Hp):V->Option (List vK)->Prop
 | no {x:V} (h:Fb K "tuple" H x):Yb K H x none
 | tup {p:Addr} {xs:List V} {os:List vK} (h:H p=some (.tup xs)) (hp:Fe K H xs os) (h1:os.length<=100):Yb K H (.ref p) (some os)
def mkT (t:bA):vK:=some (some (t.1:Int),some (t.2.1:Int),some [t.2.2])
def acf (o:vK):Nat × Nat:=match o with | some (some i,some j,_)=>(i.toNat,j.toNat) | _=>(0,0)
def ltQ (p:(Nat × Nat) × (Nat × Nat)):Bool:=decide (p.1.1*1000+p.1.2 < p.2.1*1000+p.2.2)
def pD (cs:List (Nat × Nat)):Bool:=(cs.zip (cs.drop 1)).all ltQ
def layB (r w:Nat)(o:Option (List vK)):Bool:=match o with | none=>false | some os=>decide (1<=os.length/\os.length<=7)&&os.all (qU r w)&&pD (os.map acf)
theorem OD (ts:List bA):(ts.map mkT).map acf=ts.map λt=>(t.1,t.2.1):=by
 rw[eD];exact e7 λt _=>rfl
theorem aaI {r w:Nat}{o:vK}(h:qU r w o=true):∃t:bA,o=mkT t/\inB r w t:=by
 match o with
 | none=>cases h
 | some (oi,oj,ol)=>
  unfold qU at h;simp only[ce]at h;obtain⟨h1,h2⟩:=h
  match oi,oj,ol with
  | none,_,_=>cases h1
  | some i,none,_=>cases h1
  | some i,some j,none=>cases h2
  | some i,some j,some l=>
   have h1:=cq h1;have h2:Ea l=true:=h2
   match l with
   | []=>cases h2
   | [c]=>
    refine⟨(i.toNat,j.toNat,c),?_,⟨by show i.toNat < r;lia,by show j.toNat < w;lia,h2⟩⟩;show some (some i,some j,some [c])=some (some ((i.toNat:Nat):Int),some ((j.toNat:Nat):Int),some [c]);rw[Int.toNat_of_nonneg h1.1,Int.toNat_of_nonneg h1.2.2.1]
   | _::_::_=>cases h2
theorem aaJ {r w:Nat}{t:bA}(h:inB r w t):qU r w (mkT t)=true:=by
 unfold qU mkT Ho sgO;have h1:=h.1;have h2:=h.2.1;simp only[ce];exact⟨ah (by lia),h.2.2⟩
theorem KY {r w:Nat}:∀{os:List vK},os.all (qU r w)=true->∃ts:List bA,os=ts.map mkT/\∀t∈ts,inB r w t
 | [],_=>⟨[],rfl,λt h=>by simp at h⟩
 | o::os,h=>by
  rw[List.all_cons,ce]at h;obtain⟨ts,e,k⟩:=KY h.2;obtain⟨t,e2,k2⟩:=aaI h.1;exact⟨t::ts,by rw[e,e2];rfl,λu hu=>by
   rcases bq.mp hu with z | z
   ·rw[z];exact k2
   ·exact k u z⟩
theorem xQ.agW {H:Hp}{x:V}{t:bA}(h:xQ K H x (mkT t)):∃b,x=.ref b/\xP H b t:=by
 generalize ho:mkT t=o at h;cases h with
 | no _=>cases ho
 | bad _ _=>cases ho
 | @tri b x y z oi oj ol h hx hy hz=>
  have ho:=ap ho;injection ho with e1 e2;injection e2 with e2 e3;subst e1 e2 e3;cases hx;cases hy;cases hz;exact⟨b,rfl,h⟩
theorem Fe.lay {H:Hp}:∀{ts:List bA} {xs:List V},Fe K H xs (ts.map mkT)->∃as:List Addr,xs=as.map V.ref/\cT H as ts
 | [],[],_=>⟨[],rfl,cT.nil⟩
 | [],_::_,h=>by have:=h.len;simp at this
 | _::_,[],h=>by have:=h.len;simp at this
 | t::ts,x::xs,h=>by
  obtain⟨b,rfl,hb⟩:=(h.at_ 0 x (mkT t) rfl rfl).agW;obtain⟨as,e,hL⟩:=Fe.lay (ts:=ts) (xs:=xs) ⟨by have:=h.len;simpa using this,λi x o a c=>h.at_ (i+1) x o a c⟩;refine⟨b::as,by rw[e];rfl,⟨λa ha=>?_,?_⟩⟩
  ·rcases bq.mp ha with z | z
   ·rw[z,Hi hb];exact hb
   ·exact hL.at_ a z
  ·rw[bv,hL.eq,Hi hb]
theorem xQ.mk {H:Hp}{b:Addr}{t:bA}(h:xP H b t):xQ K H (.ref b) (mkT t):=.tri h (.int _) (.int _) (.str _ (by show 1<=1000;decide))
theorem Fe.of_lay {H:Hp}{as:List Addr}{ts:List bA}(h:cT H as ts):Fe K H (as.map V.ref) (ts.map mkT):=by
 refine⟨by rw[aa,aa,h.len],λi x o hx ho=>?_⟩;rw[aS]at hx ho;obtain⟨a,ha,rfl⟩:=dq.mp hx;obtain⟨t,ht,rfl⟩:=dq.mp ho;have hi:i < as.length:=(af.mp ha).1;obtain⟨u,hu,hU⟩:=h.get hi;rw[ht]at hu;rw[ap hu];rw[ac hi]at ha;rw[<- ap ha];exact xQ.mk hU
def Yc (K:W.Frag)(C:Addr):Sp:=λvs H Q _=>∃(b:Addr) (x:V) (o:Option (List vK)) (r w:Nat) (ak aW:AA) (bi bj:Nat),vs=[.ref b,x]/\fD C H b r w ak aW bi bj/\Yb K H x o/\∀H',aA H H'->Q (.bl (layB r w o)) H'
theorem OJ {C:Addr}(D:aK K mg "is_laying" qQ ["board","thing"])(bx:mg "len"=none)(cF:mg "tuple"=none)(bJ:mg "isinstance"=none)(fM:mg "all"=none)(Hq:mg "zip"=none)(mq:∃t,mg "MOST_TILES"=some (.int 7 t))
  (Rj:bO P w K mg base "is_triple" 3 ["board","thing"] (KR K C)) (yI:bO P w K mg base "cells_of" 1 ["laying"] Bh):bO P w K mg base "is_laying" 4 ["board","thing"] (Yc K C):=by
 refine D.dz uJ (λvs H Q E h=>?_) (λf bL A outer s H vs Q E hr h=>?_)
 ·obtain⟨b,x,o,r,w,ak,aW,bi,bj,rfl,_⟩:=h
  rfl
 ·obtain⟨b,x,o,r,w,ak,aW,bi,bj,rfl,BA,hT,q⟩:=h
  have w9:=BA.ok.w9;refine⟨_,(aD (bW (QW.qt (j7 (eO (dj (aO iM (by rfl) bJ bn (aj (qv 1) (aj (mJ (v:=.ty "tuple") (by rfl) cF cv rfl) aq))))) (jc (eO (ux lJ lJ aB (aO bQ (by rfl) bx aI (aj (qv 1) aq)) (Uc (by rfl) mq)))))) (aF (aY iI)) bC) (aD (bW (eO (dj (aO (jA rfl) (by rfl) fM jt (aj (jQ rfl (i_.of uJ.nd (by kernel_rfl)) (dW (qv 1)) (λ_ _ _ _ _=>cZ) (λ_ _ _ _ _=>(aV Rj hr.mono rfl (aj (qv 1) (aj (qv 0) aq))))) aq)))) (aF (aY iI)) bC) (aD (aQ (i:=2) uJ.nd rfl (Or.inl rfl) (aV yI hr.mono rfl (aj (qv 1) aq))) (aF (aY (aO (jA rfl) (by rfl) fM jt (aj (fJ (ns:=["cell","later"]) rfl (fH.of ["board","thing","cells"] [] (by kernel_rfl)) (adb (by rfl) Hq (aj (qv 2) (aj (j8 xg (qv 2) (lE aB) oF) aq))) (λ_ _ _ _ _=>(tY K rfl (show (["cell","later","board","thing","cells"]:List Str).Nodup by decide +kernel) rfl rfl (by rfl) (by rfl))) (λ_ _ _ _ _=>cZ) (λ_ _ _ _ _=>(dU (afA hr.aeO) (qv 0) (qv 1) (aZ _)))) aq))))))),?_⟩;cases hT with
  | no h=>
   obtain⟨t,ty,k⟩:=h;exact⟨_,rfl,_,_,_,false,rfl,ty,k,_,rfl,bI (bI (q H (aA.refl _)))⟩
  | @tup p xs os hp hP h100=>
   have cA:=hP.len;refine⟨_,rfl,_,_,_,true,rfl,.tup hp,(by kernel_rfl),_,rfl,aX ?_⟩;have F:¬layB r w (some os)=true->∀H',aA H H'->Q (.bl false) H':=λz H' s'=>by
    have:=q H' s';rw[Bool.not_eq_true _ |>.mp z]at this;exact this
   refine⟨_,rfl,p,_,rfl,.inr (aM.of hp),_,_,rfl,rfl,?_⟩;rw[cA];by_cases h1:1<=os.length
   ·refine⟨true,by simp;lia,bI ⟨_,_,rfl,rfl,?_⟩⟩
    by_cases h7:os.length<=7
    ·refine⟨true,by simp;lia,aX ?_⟩
     refine⟨_,rfl,p,rfl,⟨_,aM.of hp⟩,λL hL=>uE (xs:=xs) (λi ys H2=>ys=((os.take i).map (qU r w)).map V.bl/\H2 L=some (.lst ys)/\aA H H2) ⟨rfl,au,aA.upd hL⟩ (λi ys H2 _ h=>aM.of (h.2.2 _ _ hp)) ?_ ?_⟩
     ·rintro i x ys H2 hi ⟨rfl,hL2,sm⟩
      have hil:i < xs.length:=(af.mp hi).1;have hio:i < os.length:=by lia
      have ho:=ac hio;refine⟨_,rfl,_,rfl,b,x,os[i],r,w,ak,aW,bi,bj,rfl,BA.mv sm,(hP.at_ i x _ hi ho).mv sm,hL2,?_,dZ.mk hil ⟨?_,au,sm.cD hL⟩⟩
      ·rw[aa,aa,ay];exact aH (by lia)
      ·rw[take_snoc ho,bS];rfl
     ·rintro ys H2 ⟨rfl,hL2,sm⟩
      refine⟨L,_,rfl,aU.of hL2,?_⟩;rw[cA,bz,all_map];refine⟨_,rfl,?_⟩;cases ha:os.all (qU r w) with
      | false=>exact bI (F (by unfold layB;simp only;rw[ha];simp) H2 sm)
      | true=>
       refine aX ?_;obtain⟨ts,rfl,bT⟩:=KY ha;obtain⟨as,rfl,hLy⟩:=hP.lay;rw[aa]at h1 h7;refine⟨_,rfl,p,as,ts,rfl,sm _ _ hp,hLy.mv sm,by lia,λLc cs H3 s3 hLc hcs=>?_⟩;have sJ:=sm.trans s3;refine⟨_,rfl,_,rfl,_,rfl,Lc,_,rfl,aU.of hLc,λM hM=>?_⟩;have hcl:=hcs.len;rw[aa]at hcl;have eM:n6 (cs.map V.ref) (some 1) none=(cs.drop 1).map V.ref:=by
        unfold n6;rw[show (some (1:Int))=some (((1:Nat):Int)) from rfl,HT.qe,HT.uh,aa,ia (show 1<=cs.length by lia),be (by rw[bt,aa];lia),List.map_drop]
       rw[eM];have sM:aA H3 (upd H3 M (HO.lst ((cs.drop 1).map V.ref))):=aA.upd hM;have vD:upd H3 M (HO.lst ((cs.drop 1).map V.ref)) M=some (.lst ((cs.drop 1).map V.ref)):=au;have aaK:=sM _ _ hLc;have U3:=hcs.mv sM;have Bj:=sJ.trans sM;generalize upd H3 M (HO.lst ((cs.drop 1).map V.ref))=H4 at sM vD aaK U3 Bj ⊢;generalize hcc:(ts.map λt=>(t.1,t.2.1))=cc at U3;have ahH:cc.length=cs.length:=by rw[<- hcc,aa,hcl]
       have hw9:∀u∈cc,u.2 < 1000:=λu hu=>by
        rw[<- hcc]at hu;obtain⟨t,ht,rfl⟩:=bp.mp hu;have:=(bT t ht).2.1;show t.2.1 < 1000;lia
       have Bk:(cc.zip (cc.drop 1)).length=cs.length-1:=by rw[List.length_zip,bt,ahH];lia
       refine⟨Lc,M,rfl,⟨_,aU.of aaK⟩,⟨_,aU.of vD⟩,λN hN=>afz (f:=eU [] 0) (K:=K) (KT:=K) (a:=Lc) (b:=M) (tt:=iB) (xs:=cs.map V.ref) (ys:=(cs.drop 1).map V.ref) (by rw[aa,aa,bt];lia)
        (λn zs H5=>zs=(((cc.zip (cc.drop 1)).take n).map ltQ).map V.bl/\H5 N=some (.lst zs)/\aA H4 H5)
        ⟨rfl,au,aA.upd hN⟩ (λn zs H5 _ h=>⟨aU.of (h.2.2 _ _ aaK),aU.of (h.2.2 _ _ vD)⟩) ?_ ?_⟩
       ·rintro n x y zs H5 T hx hy ⟨rfl,pC,iR⟩ hT
        have kT:aA H5 (upd H5 T (HO.tup [x,y])):=aA.upd hT;rw[aS]at hx hy;obtain⟨a1,ha1,rfl⟩:=dq.mp hx;obtain⟨a2,ha2,rfl⟩:=dq.mp hy;rw[eI]at ha2;have n1:n < cs.length:=(af.mp ha1).1;have n2:1+n < cs.length:=(af.mp ha2).1;have c1:cc[n]?=some cc[n]:=ac (by lia);have c2:cc[1+n]?=some cc[1+n]:=ac (by lia);have e1:=kT _ _ (iR _ _ (U3.at_ n a1 _ ha1 c1));have e2:=kT _ _ (iR _ _ (U3.at_ (1+n) a2 _ ha2 c2));refine Uh rfl (aM.of au) ?_;refine⟨_,rfl,_,rfl,a1,a2,_,_,_,_,rfl,rfl,e1,e2,hw9 _ (ai _),hw9 _ (ai _),kT _ _ pC,?_,dZ.mk (by rw[aa,bt];lia) ⟨?_,au,(iR.trans kT).cD hN⟩⟩
        ·rw[aa,aa,ay];exact aH (by lia)
        ·have ez:(cc.zip (cc.drop 1))[n]?=some (cc[n],cc[1+n]):=by
          rw[ly];exact⟨c1,by rw[eI];exact c2⟩
         rw[take_snoc ez,bS];rfl
       ·rintro zs H5 ⟨rfl,pC,iR⟩
        refine⟨N,_,rfl,aU.of pC,?_⟩;rw[be (by rw[aa,bt,Bk];lia),all_map];have:=q H5 (Bj.trans iR);have e:layB r w (some (ts.map mkT))=pD cc:=by
         unfold layB;simp only;rw[ha,OD,hcc,aa,ah (show 1<=ts.length/\ts.length<=7 from ⟨h1,h7⟩)];rfl
        rw[e]at this;exact this
    ·refine⟨false,by simp;lia,bI ?_⟩
     exact F (by unfold layB;simp;lia) H (aA.refl _)
   ·refine⟨false,by simp;lia,aX ⟨_,rfl,bI ?_⟩⟩
    exact F (by unfold layB;simp;lia) H (aA.refl _)
theorem adt {f C R:Addr}{fd:FuncData}(F:gM K "__init__" "Taken.__init__" jd f fd)(gC:mg "RackError"=some (.ref R))(jF:InitOf K R)(T:m8 K mg "Taken" C f ["row","column"]):cP P w K mg base fZ 1 f fd ["self","row","column"] (GQ C "row" "column"):=by
 refine F.dz Lq (λvs H Q E h=>?_) (λbL A outer s H vs Q E hr h=>?_)
 ·obtain⟨a,v,u,rfl,_⟩:=h
  rfl
 ·obtain⟨a,v,u,rfl,ha,q⟩:=h
  refine⟨_,(aD (dD (sY (by rfl) gC jF (aj (qv 0) (aj (qv 1) (aj (qv 2) aq))))) (aD (t_ (qv 0) (qv 1) rfl) (aF (t_ (qv 0) (qv 2) rfl)))),?_⟩;refine⟨_,rfl,_,rfl,_,rfl,a,C,f,none,[v,u],rfl,ha,T.M.ini,zsz 2,?_⟩;exact⟨_,rfl,_,rfl,a,C,none,rfl,ha,T.T,T.no _ (by simp),.inl ⟨rfl,λdx ne nd=>⟨_,rfl,_,rfl,a,C,some dx,rfl,au,T.T,T.no _ (by simp),.inr ⟨dx,_,rfl,by rw[aN ne,au],by show 1 < 50;decide,q dx ne nd⟩⟩⟩⟩
theorem afS {f C R:Addr}{fd:FuncData}(F:gM K "__init__" "Gap.__init__" j_ f fd)(gC:mg "RackError"=some (.ref R))(jF:InitOf K R)(T:m8 K mg "Gap" C f ["row","column"]):cP P w K mg base fZ 1 f fd ["self","row","column"] (GQ C "row" "column"):=by
 refine F.dz QZ (λvs H Q E h=>?_) (λbL A outer s H vs Q E hr h=>?_)
 ·obtain⟨a,v,u,rfl,_⟩:=h
  rfl
 ·obtain⟨a,v,u,rfl,ha,q⟩:=h
  refine⟨_,(aD (dD (sY (by rfl) gC jF (aj (qv 0) (aj (qv 1) (aj (qv 2) aq))))) (aD (t_ (qv 0) (qv 1) rfl) (aF (t_ (qv 0) (qv 2) rfl)))),?_⟩;refine⟨_,rfl,_,rfl,_,rfl,a,C,f,none,[v,u],rfl,ha,T.M.ini,zsz 2,?_⟩;exact⟨_,rfl,_,rfl,a,C,none,rfl,ha,T.T,T.no _ (by simp),.inl ⟨rfl,λdx ne nd=>⟨_,rfl,_,rfl,a,C,some dx,rfl,au,T.T,T.no _ (by simp),.inr ⟨dx,_,rfl,by rw[aN ne,au],by show 1 < 50;decide,q dx ne nd⟩⟩⟩⟩
theorem KZ {H:Hp}{a dx:Addr}{o p q p2:HO}(na:H a=none)(ne:dx≠a)(nd:upd H a o dx=none):upd (upd (upd (upd H a o) dx p) a q) dx p2 a=some q/\aA H (drop (upd (upd (upd (upd H a o) dx p) a q) dx p2) a)/\drop (upd (upd (upd (upd H a o) dx p) a q) dx p2) a dx=some p2:=by
 rw[aN ne]at nd;refine⟨by rw[aN ne.symm,au],λb u e=>?_,?_⟩
 ·have h1:b≠a:=bU e na
  have h2:b≠dx:=bU e nd;rw[g_ h1,aN h2,aN h1,aN h2,aN h1];exact e
 ·rw[g_ ne,au]
abbrev K4 (i j:Nat):List (Str × V):=iz "column" (.int j) [("row",.int i)]
theorem Dr {α:Type}{p:α->Bool}{l:List α}{n:Nat}(hn:n < l.length)(h0:∀x∈l.take n,p x=false)(h1:p l[n]=true):l.find? p=some l[n]:=by
 have e:l=l.take n++l[n]::l.drop (n+1):=by rw[<- fv hn,km]
 have e2:(l.take n++l[n]::l.drop (n+1)).find? p=some l[n]:=by
  rw[List.find?_append,List.find?_eq_none.mpr λx hx=>by rw[h0 x hx];decide,Option.none_or,List.find?_cons_of_pos h1]
 rw[<- e]at e2;exact e2
theorem Du {α:Type}{p:α->Bool}{l:List α}(h0:∀x∈l,p x=false):l.find? p=none:=List.find?_eq_none.mpr λx hx=>by rw[h0 x hx];decide
theorem aaL (a b:Nat):decide (V.int (a:Int)=V.int (b:Int))=decide (a=b):=by
 by_cases h:a=b
 ·subst h;simp
 ·have:¬V.int (a:Int)=V.int (b:Int):=λz=>h (by injection z with z;exact jS z)
  simp[h,this]
def jG (ts:List bA):Bool:=ts.all λt=>decide (t.1=(ts.headD (0,0,0)).1)
def kO (ts:List bA):Bool:=ts.all λt=>decide (t.2.1=(ts.headD (0,0,0)).2.1)
theorem kY {ts:List bA}(h:0 < ts.length):ts.headD (0,0,0)=ts[0]:=by
 cases ts with
 | nil=>simp at h
 | cons a b=>rfl
def K5:Sp:=λvs H Q _=>∃(t:Addr) (as:List Addr) (ts:List bA),vs=[.ref t]/\H t=some (.tup (as.map V.ref))/\cT H as ts/\0 < ts.length/\ts.length<=7/\∀H',aA H H'->Q (.bl (jG ts)) H'
def Sy:Sp:=λvs H Q _=>∃(t:Addr) (as:List Addr) (ts:List bA),vs=[.ref t]/\H t=some (.tup (as.map V.ref))/\cT H as ts/\0 < ts.length/\ts.length<=7/\∀H',aA H H'->Q (.bl (kO ts)) H'
theorem LQ (D:aK K mg "is_across" qR ["laying"])(fM:mg "all"=none):bO P w K mg base "is_across" 1 ["laying"] K5:=by
 refine D.dz N8 (λvs H Q E h=>?_) (λf bL A outer s H vs Q E hr h=>?_)
 ·obtain⟨t,as,ts,rfl,_⟩:=h
  rfl
 ·obtain⟨t,as,ts,rfl,ht,hL,h0,h7,q⟩:=h
  have hal:=hL.len;have hh:=kY h0;refine⟨_,(aF (aY (aO (jA rfl) (by rfl) fM jt (aj (fJ (ns:=["row","column","sign"]) rfl (fH.of ["laying"] [] (by kernel_rfl)) (dW (qv 0)) (λ_ _ _ _ _=>(ql K rfl (show (["row","column","sign","laying"]:List Str).Nodup by decide +kernel) rfl rfl rfl (by rfl) (by rfl) (by rfl))) (λ_ _ _ _ _=>cZ) (λ_ _ _ _ _=>(dU fW (qv 0) (aP (mK K) (aP (mK K) (qv 3) aB (λ_ _=>rfl)) aB (λ_ _=>rfl)) (aZ _)))) aq)))),?_⟩;refine⟨_,rfl,t,rfl,⟨_,aM.of ht⟩,λN hN=>j9 (K:=K) (KT:=K) (a:=t) (f:=eU [] 0) (tt:=iB) (xs:=as.map V.ref) (λn ys H3=>ys=((ts.take n).map λt=>decide (t.1=(ts.headD (0,0,0)).1)).map V.bl/\H3 N=some (.lst ys)/\aA H H3)
   ⟨rfl,au,aA.upd hN⟩ (λn ys H3 _ h=>aM.of (h.2.2 _ _ ht)) ?_ ?_⟩
  ·rintro n x ys H3 hx ⟨rfl,oN,sm3⟩
   have hn:n < as.length:=by have:=(af.mp hx).1;simpa using this
   have hnt:n < ts.length:=by lia
   rw[aS,ac hn]at hx;have hx:V.ref as[n]=x:=ap hx;obtain⟨_,en⟩:=fV (hL.mv sm3) hnt;obtain⟨g0,e0⟩:=fV (hL.mv sm3) h0;refine yq hx.symm (aM.of en) ?_;refine⟨_,rfl,_,rfl,t,_,_,.ref as[0],rfl,rfl,aM.of (sm3 _ _ ht),aG (j:=0) (by simp[g0]),as[0],_,_,_,rfl,rfl,aM.of e0,aG (j:=0) rfl,rfl,oN,?_,dZ.mk (by rw[aa];exact hn) ⟨?_,au,sm3.cD hN⟩⟩
   ·rw[aa,aa,ay];exact aH (by lia)
   ·rw[take_snoc (ac hnt),bS,hh,aaL]
    rfl
  ·rintro ys H3 ⟨rfl,oN,sm3⟩
   refine⟨N,_,rfl,aU.of oN,?_⟩;rw[aa,hal,bz,all_map];exact q H3 sm3
theorem U4 (D:aK K mg "is_down" vh ["laying"])(fM:mg "all"=none):bO P w K mg base "is_down" 1 ["laying"] Sy:=by
 refine D.dz Ut (λvs H Q E h=>?_) (λf bL A outer s H vs Q E hr h=>?_)
 ·obtain⟨t,as,ts,rfl,_⟩:=h
  rfl
 ·obtain⟨t,as,ts,rfl,ht,hL,h0,h7,q⟩:=h
  have hal:=hL.len;have hh:=kY h0;refine⟨_,(aF (aY (aO (jA rfl) (by rfl) fM jt (aj (fJ (ns:=["row","column","sign"]) rfl (fH.of ["laying"] [] (by kernel_rfl)) (dW (qv 0)) (λ_ _ _ _ _=>(ql K rfl (show (["row","column","sign","laying"]:List Str).Nodup by decide +kernel) rfl rfl rfl (by rfl) (by rfl) (by rfl))) (λ_ _ _ _ _=>cZ) (λ_ _ _ _ _=>(dU fW (qv 1) (aP (mK K) (aP (mK K) (qv 3) aB (λ_ _=>rfl)) aB (λ_ _=>rfl)) (aZ _)))) aq)))),?_⟩;refine⟨_,rfl,t,rfl,⟨_,aM.of ht⟩,λN hN=>j9 (K:=K) (KT:=K) (a:=t) (f:=eU [] 0) (tt:=iB) (xs:=as.map V.ref) (λn ys H3=>ys=((ts.take n).map λt=>decide (t.2.1=(ts.headD (0,0,0)).2.1)).map V.bl/\H3 N=some (.lst ys)/\aA H H3)
   ⟨rfl,au,aA.upd hN⟩ (λn ys H3 _ h=>aM.of (h.2.2 _ _ ht)) ?_ ?_⟩
  ·rintro n x ys H3 hx ⟨rfl,oN,sm3⟩
   have hn:n < as.length:=by have:=(af.mp hx).1;simpa using this
   have hnt:n < ts.length:=by lia
   rw[aS,ac hn]at hx;have hx:V.ref as[n]=x:=ap hx;obtain⟨_,en⟩:=fV (hL.mv sm3) hnt;obtain⟨g0,e0⟩:=fV (hL.mv sm3) h0;refine yq hx.symm (aM.of en) ?_;refine⟨_,rfl,_,rfl,t,_,_,.ref as[0],rfl,rfl,aM.of (sm3 _ _ ht),aG (j:=0) (by simp[g0]),as[0],_,_,_,rfl,rfl,aM.of e0,aG (j:=1) rfl,rfl,oN,?_,dZ.mk (by rw[aa];exact hn) ⟨?_,au,sm3.cD hN⟩⟩
   ·rw[aa,aa,ay];exact aH (by lia)
   ·rw[take_snoc (ac hnt),bS,hh,aaL]
    rfl
  ·rintro ys H3 ⟨rfl,oN,sm3⟩
   refine⟨N,_,rfl,aU.of oN,?_⟩;rw[aa,hal,bz,all_map];exact q H3 sm3
abbrev IL2:=dJ (λq:Int × Int=>[V.int q.1,V.int q.2])
def around (i j:Int):List (Int × Int):=[(i-1,j),(i+1,j),(i,j-1),(i,j+1)]
def vL (ak:AA)(r w:Nat)(p:Int × Int):Bool:=!decide ([atC ak r w p.1 p.2]=[46])
def iK (ak:AA)(r w:Nat)(i j:Int):Bool:=(around i j).any (vL ak r w)
theorem any_map {α:Type}(l:List α)(f:α->Bool):((l.map f).any id)=l.any f:=by induction l with | nil=>rfl | cons a l ih=>simp[ih]
def O1 (C:Addr):Sp:=λvs H Q _=>∃(b:Addr) (r w:Nat) (ak aW:AA) (bi bj:Nat) (i j:Int),vs=[.ref b,.int i,.int j]/\fD C H b r w ak aW bi bj/\∀H',aA H H'->Q (.bl (iK ak r w i j)) H'
theorem LR {C f1:Addr}{iw:FuncData}(D:aK K mg "is_next_to_taken" ju ["board","row","column"])(vM:mg "any"=none)(eV:∃t,mg "FREE"=some (.str (S [46]) t))(fQ:gW K C)(pF:Meth K C "at" f1)(pG:cP P w K mg base fZ 3 f1 iw ["self","row","column"] (UL C))(pH:cO K iw ["self","row","column"] []) :
  bO P w K mg base "is_next_to_taken" 5 ["board","row","column"] (O1 C):=by
 refine D.dz lH (λvs H Q E h=>?_) (λf bL A outer s H vs Q E hr h=>?_)
 ·obtain⟨b,r,w,ak,aW,bi,bj,i,j,rfl,_⟩:=h
  rfl
 ·obtain⟨b,r,w,ak,aW,bi,bj,i,j,rfl,BA,q⟩:=h
  refine⟨_,(aD (aQ (i:=3) lH.nd rfl (Or.inl rfl) (cH (aj (cH (aj (bB iD (qv 1) aB) (aj (qv 2) aq))) (aj (cH (aj (bB dN (qv 1) aB) (aj (qv 2) aq))) (aj (cH (aj (qv 1) (aj (bB iD (qv 2) aB) aq))) (aj (cH (aj (qv 1) (aj (bB dN (qv 2) aB) aq))) aq)))))) (aF (aY (aO (NP rfl) (by rfl) vM Kf (aj (jQ rfl (i_.of lH.nd (by kernel_rfl)) (dW (qv 3)) (λ_ _ _ _ _=>cZ) (λ_ _ _ _ _=>(dU lU (qj (qv 1) fQ.cl pF pG hr.mono pH .nil lK (aj (aP (mK K) (qv 0) aB (λ_ _=>rfl)) (aj (aP (mK K) (qv 0) aB (λ_ _=>rfl)) aq))) (sU (by rfl) eV) (aZ _)))) aq))))),?_⟩;refine⟨_,rfl,_,_,rfl,rfl,_,rfl,zsz 2,λg1 h1=>⟨_,rfl,_,_,rfl,rfl,_,rfl,zsz 2,λg2 h2=>⟨_,rfl,_,rfl,_,_,rfl,rfl,zsz 2,λg3 h3=>⟨_,rfl,_,rfl,_,_,rfl,rfl,zsz 2,λg4 h4=>⟨zsz 4,λA hA=>?_⟩⟩⟩⟩⟩;dsimp only at h1 h2 h3 h4 hA ⊢;have k1:aA H (upd H g1 (HO.tup [.int (i-1),.int j])):=aA.upd h1;have e1:upd H g1 (HO.tup [.int (i-1),.int j]) g1=some (.tup [.int (i-1),.int j]):=au;generalize upd H g1 (HO.tup [.int (i-1),.int j])=H1 at k1 e1 h2 h3 h4 hA ⊢;have k2:aA H1 (upd H1 g2 (HO.tup [.int (i+1),.int j])):=aA.upd h2;have e2:upd H1 g2 (HO.tup [.int (i+1),.int j]) g2=some (.tup [.int (i+1),.int j]):=au;generalize upd H1 g2 (HO.tup [.int (i+1),.int j])=H2 at k2 e2 h3 h4 hA ⊢;have k3:aA H2 (upd H2 g3 (HO.tup [.int i,.int (j-1)])):=aA.upd h3;have e3:upd H2 g3 (HO.tup [.int i,.int (j-1)]) g3=some (.tup [.int i,.int (j-1)]):=au;generalize upd H2 g3 (HO.tup [.int i,.int (j-1)])=H3 at k3 e3 h4 hA ⊢;have k4:aA H3 (upd H3 g4 (HO.tup [.int i,.int (j+1)])):=aA.upd h4;have e4:upd H3 g4 (HO.tup [.int i,.int (j+1)]) g4=some (.tup [.int i,.int (j+1)]):=au;generalize upd H3 g4 (HO.tup [.int i,.int (j+1)])=H4 at k4 e4 hA ⊢;have k5:aA H4 (upd H4 A (HO.tup [.ref g1,.ref g2,.ref g3,.ref g4])):=aA.upd hA;have e5:upd H4 A (HO.tup [.ref g1,.ref g2,.ref g3,.ref g4]) A=some (.tup ([g1,g2,g3,g4].map V.ref)):=au;have il:IL2 H4 [g1,g2,g3,g4] (around i j):=((dJ.one (x:=(i-1,j)) (k4 _ _ (k3 _ _ (k2 _ _ e1)))).app (dJ.one (x:=(i+1,j)) (k4 _ _ (k3 _ _ e2)))).app ((dJ.one (x:=(i,j-1)) (k4 _ _ e3)).app (dJ.one (x:=(i,j+1)) e4));have s5:=(((k1.trans k2).trans k3).trans k4).trans k5;have il5:=il.mv k5;generalize upd H4 A (HO.tup [.ref g1,.ref g2,.ref g3,.ref g4])=H5 at k5 e5 s5 il5 ⊢;have BA5:=BA.mv s5;refine⟨_,rfl,A,rfl,⟨_,aM.of e5⟩,λN hN=>uE (xs:=[g1,g2,g3,g4].map V.ref) (λn ys H6=>ys=(((around i j).take n).map (vL ak r w)).map V.bl/\H6 N=some (.lst ys)/\aA H5 H6)
   ⟨rfl,au,aA.upd hN⟩ (λn ys H6 _ h=>aM.of (h.2.2 _ _ e5)) ?_ ?_⟩
  ·rintro n x ys H6 hx ⟨rfl,K6,rH⟩
   have hn:n < [g1,g2,g3,g4].length:=by have:=(af.mp hx).1;simpa using this
   have hn4:n < 4:=hn;rw[aS,ac hn]at hx;have hx:V.ref [g1,g2,g3,g4][n]=x:=ap hx;subst hx;obtain⟨u,eu,hu⟩:=(il5.mv rH).get hn;have BA6:=BA5.mv rH;obtain⟨dx,_,_,_,ex,_⟩:=id BA6.ex;refine⟨_,rfl,b,dx,_,rfl,ex,rfl,_,rfl,_,_,_,_,rfl,rfl,aM.of hu,aG (j:=0) rfl,_,rfl,_,_,_,_,rfl,rfl,aM.of hu,aG (j:=1) rfl,b,r,w,ak,aW,bi,bj,u.1,u.2,rfl,BA6,[_],[46],rfl,rfl,K6,?_,dZ.mk (by rw[aa];exact hn) ⟨?_,au,rH.cD hN⟩⟩
   ·rw[aa,aa,ay];exact aH (by lia)
   ·rw[take_snoc eu,bS];rfl
  ·rintro ys H6 ⟨rfl,K6,rH⟩
   refine⟨N,_,rfl,aU.of K6,?_⟩;rw[be (by show 4<=4;decide),any_map];exact q H6 (s5.trans rH)
def Hr:Sp:=λvs H Q _=>∃c:Nat,vs=[.str (S [c])]/\c < 128/\Q (.str (S ([c].map PyProof.Rows.lo1))) H
theorem O2 (D:aK K mg "letter_of" qM ["sign"]):bO P w K mg base "letter_of" 1 ["sign"] Hr:=by
 refine D.dz N6 (λvs H Q E h=>?_) (λf bL A outer s H vs Q E hr h=>?_)
 ·obtain⟨c,rfl,_⟩:=h
  rfl
 ·obtain⟨c,rfl,hc,q⟩:=h
  refine⟨_,(aF (aY (lB bg c8 c_ nG (qv 0)))),?_⟩;exact⟨_,rfl,rfl,[c],rfl,rfl,by show 1<=1000;decide,λd hd=>by rw[aw.mp hd];exact hc,q⟩
theorem Fg {ak:AA}{r w i j:Nat}(hi:i < r)(hj:j < w):atC ak r w (i:Int) (j:Int)=cell ak i j:=by
 unfold atC cell;rw[if_pos ⟨by lia,by lia,by lia,by lia⟩,c6,c6]
def Yd (ak:AA)(t:bA):Bool:=!decide ([cell ak t.1 t.2.1]=[46])
def ni (ak:AA)(ts:List bA):Option bA:=ts.find? (Yd ak)
def O4 (C CT:Addr):Sp:=λvs H Q E=>∃(b t:Addr) (as:List Addr) (ts:List bA) (r w:Nat) (ak aW:AA) (bi bj:Nat),vs=[.ref b,.ref t]/\fD C H b r w ak aW bi bj/\H t=some (.tup (as.map V.ref))/\cT H as ts/\(∀t∈ts,inB r w t)/\
 (∀u,ni ak ts=some u->∀(dx:Addr) (H':Hp),aA H H'->H' dx=some (.ext (XD dx (K4 u.1 u.2.1)))->E (.ref CT) (some dx) H')/\
 (ni ak ts=none->∀H',aA H H'->Q .non H')
theorem L_ {C CT f0 f1:Addr}{jH iw:FuncData}(D:aK K mg "check_free" o7 ["board","laying"])(eV:∃t,mg "FREE"=some (.str (S [46]) t))(fQ:gW K C)(pF:Meth K C "at" f1)(pG:cP P w K mg base fZ 3 f1 iw ["self","row","column"] (UL C))(pH:cO K iw ["self","row","column"] [])
  (T:m8 K mg "Taken" CT f0 ["row","column"]) (adu:cP P w K mg base fZ 1 f0 jH ["self","row","column"] (GQ CT "row" "column")) (Jj:cO K jH ["self","row","column"] []):DefX P w K mg base "check_free" 5 ["board","laying"] (O4 C CT):=by
 refine D.yr nR (λvs H Q E h=>?_) (λf bL A outer s H vs Q E hr h=>?_)
 ·obtain⟨b,t,as,ts,r,w,ak,aW,bi,bj,rfl,_⟩:=h
  rfl
 ·obtain⟨b,t,as,ts,r,w,ak,aW,bi,bj,rfl,BA,ht,hL,bT,qE,q⟩:=h
  have adv:=T.M;have Fi:=T.GK;have hal:=hL.len;refine⟨_,(aF (dh im rfl (dW (qv 1)) (lu rfl (bV (bH (i:=2) nR.nd rfl (Or.inl rfl)) (bV (bH (i:=3) nR.nd rfl (Or.inl rfl)) (bV (bH (i:=4) nR.nd rfl (Or.inl rfl)) iU)))) (aF (bW (bw lU (qj (qv 0) fQ.cl pF pG hr.mono pH .nil lK (aj (qv 2) (aj (qv 3) aq))) (sU (by rfl) eV) (aZ _)) (aF (rD oH rfl adv adu hr.mono (by rfl) Fi Jj (aj (qv 2) (aj (qv 3) aq)))) bC)))),?_⟩;refine⟨_,rfl,t,rfl,⟨_,aM.of ht⟩,jN (K:=K) (a:=t) (xs:=as.map V.ref) (λn σ H'=>∃v2 v3 v4:Option V,σ=[some (.ref b),some (.ref t),v2,v3,v4]/\aA H H'/\∀x∈ts.take n,Yd ak x=false)
   ⟨none,none,none,rfl,aA.refl _,λx hx=>by simp at hx⟩ (λn σ H' _ h=>by obtain⟨_,_,_,_,sm,_⟩:=h;exact aM.of (sm _ _ ht)) ?_ ?_⟩
  ·rintro n x σ H' hx ⟨v2,v3,v4,rfl,sm,hfr⟩
   have hn:n < as.length:=by have:=(af.mp hx).1;simpa using this
   have hnt:n < ts.length:=by lia
   rw[aS,ac hn]at hx;have hx:V.ref as[n]=x:=ap hx;subst hx;obtain⟨_,en⟩:=fV (hL.mv sm) hnt;obtain⟨c1,c2,_⟩:=bT _ (ai hnt);have BA':=BA.mv sm;obtain⟨dx0,_,_,_,ex,_⟩:=id BA'.ex;refine⟨as[n],_,rfl,aM.of en,rfl,_,_,rfl,_,_,rfl,_,_,rfl,rfl,?_⟩;refine⟨_,rfl,b,dx0,_,rfl,ex,rfl,_,rfl,_,rfl,b,r,w,ak,aW,bi,bj,_,_,rfl,BA',[_],[46],rfl,rfl,_,rfl,?_⟩;rw[Fg c1 c2];cases ht0:Yd ak ts[n] with
   | true=>
    rw[show (!decide ([cell ak ts[n].1 ts[n].2.1]=[46]))=true from ht0];refine bI ⟨_,rfl,_,rfl,zsz 2,λa na=>⟨a,_,_,rfl,au,λdx ne nd=>?_⟩⟩;obtain⟨k0,k1,k2⟩:=KZ (q:=.ext (gq a (.ref CT) (some dx))) (p:=.ext (XD dx [("row",.int ts[n].1)])) (p2:=.ext (XD dx (K4 ts[n].1 ts[n].2.1))) na ne nd;exact⟨rfl,some dx,k0,qE ts[n] (Dr hnt hfr ht0) dx _ (sm.trans k1) k2⟩
   | false=>
    rw[show (!decide ([cell ak ts[n].1 ts[n].2.1]=[46]))=false from ht0];refine aX ⟨_,_,_,rfl,sm,λx hx=>?_⟩;rw[bo,ac hnt]at hx;rcases a7.mp hx with z | z
    ·exact hfr x z
    ·rw[aw.mp z];exact ht0
  ·rintro σ H' ⟨v2,v3,v4,rfl,sm,hfr⟩
   rw[aa,hal,bz]at hfr;exact q (Du hfr) H' sm
def SJ (CC:Addr):Sp:=λvs H Q E=>∃(t:Addr) (as:List Addr) (ts:List bA),vs=[.ref t]/\H t=some (.tup (as.map V.ref))/\cT H as ts/\0 < ts.length/\ts.length<=7/\
 ((jG ts||kO ts)=false->∀H',aA H H'->E (.ref CC) none H')/\((jG ts||kO ts)=true->∀H',aA H H'->Q .non H')
theorem DR {CC:Addr}(D:aK K mg "check_straight" kj ["laying"])(yJ:mg "Crooked"=some (.ref CC))(Ye:W.excIn K CC iJ "ValueError.__new__"=true)
  (wB:bO P w K mg base "is_across" 1 ["laying"] K5) (Yg:bO P w K mg base "is_down" 1 ["laying"] Sy):DefX P w K mg base "check_straight" 3 ["laying"] (SJ CC):=by
 refine D.yr DQ (λvs H Q E h=>?_) (λf bL A outer s H vs Q E hr h=>?_)
 ·obtain⟨t,as,ts,rfl,_⟩:=h
  rfl
 ·obtain⟨t,as,ts,rfl,ht,hL,h0,h7,qE,q⟩:=h
  refine⟨_,(aF (bW (QW.qt (jq (eO (dj (aV wB hr.mono rfl (aj (qv 0) aq)))) (lD (eO (dj (aV Yg hr.mono rfl (aj (qv 0) aq))))))) (aF (Et oH rfl rfl (by rfl) yJ Ye (aj (bZ [116,104,101,32,99,101,108,108,115,32,97,114,101,32,110,111,116,32,105,110,32,111,110,101,32,108,105,110,101] (by decide +kernel)) aq))) bC)),?_⟩;refine⟨_,rfl,t,as,ts,rfl,ht,hL,h0,h7,λH1 s1=>⟨_,rfl,?_⟩⟩;cases ha:jG ts with
  | true=>exact aX (aX (q (by rw[ha];rfl) H1 s1))
  | false=>
   refine bI ⟨_,rfl,t,as,ts,rfl,s1 _ _ ht,hL.mv s1,h0,h7,λH2 s2=>⟨_,rfl,?_⟩⟩;cases hd:kO ts with
   | true=>exact aX (q (by rw[ha,hd];rfl) H2 (s1.trans s2))
   | false=>exact bI ⟨zsz 1,qE (by rw[ha,hd];rfl) H2 (s1.trans s2)⟩
structure Dv (R:AA)(a b c d i j:Nat):Prop where
 i1:a<=i
 i2:i<=b
 j1:c<=j
 j2:j<=d
 fr:cell R i j=46
 up:∀i' j',a<=i'->i' < i->c<=j'->j'<=d->cell R i' j'≠46
 le:∀j',c<=j'->j' < j->cell R i j'≠46
def qW (R:AA)(a b c d:Nat):Prop:=∀i j,a<=i->i<=b->c<=j->j<=d->cell R i j≠46
def fP (ts:List bA):bA:=ts.getLastD (0,0,0)
def gD (ts:List bA):bA:=ts.headD (0,0,0)
theorem O5 {ts:List bA}(h:0 < ts.length):fP ts=ts[ts.length-1]:=by
 unfold fP;rw[List.getLastD_eq_getLast?,lx,ac (by lia)];rfl
def O6 (C CG:Addr):Sp:=λvs H Q E=>∃(b t:Addr) (as:List Addr) (ts:List bA) (r w:Nat) (ak aW:AA) (bi bj:Nat),vs=[.ref b,.ref t]/\fD C H b r w ak aW bi bj/\H t=some (.tup (as.map V.ref))/\cT H as ts/\(∀t∈ts,inB r w t)/\0 < ts.length/\
 (∀i j,Dv (b_ ak ts) (gD ts).1 (fP ts).1 (gD ts).2.1 (fP ts).2.1 i j->∀(dx:Addr) (H':Hp),aA H H'->H' dx=some (.ext (XD dx (K4 i j)))->E (.ref CG) (some dx) H')/\
 (qW (b_ ak ts) (gD ts).1 (fP ts).1 (gD ts).2.1 (fP ts).2.1->∀H',aA H H'->Q .non H')
theorem Ma {C CG f0 f1 f2:Addr}{jH iw fd2:FuncData}(D:aK K mg "check_gaps" o8 ["board","laying"])(cR:mg "range"=none)(eV:∃t,mg "FREE"=some (.str (S [46]) t))(fQ:gW K C)(pF:Meth K C "at" f1)(pG:cP P w K mg base fZ 3 f1 iw ["self","row","column"] (UL C))(pH:cO K iw ["self","row","column"] [])
  (uO:Meth K C "laid" f2) (uP:cP P w K mg base fZ 8 f2 fd2 ["self","laying"] (Oj C)) (uQ:cO K fd2 ["self","laying"] [])
  (T:m8 K mg "Gap" CG f0 ["row","column"]) (agX:cP P w K mg base fZ 1 f0 jH ["self","row","column"] (GQ CG "row" "column")) (U5:cO K jH ["self","row","column"] []):DefX P w K mg base "check_gaps" 10 ["board","laying"] (O6 C CG):=by
 refine D.yr nU (λvs H Q E h=>?_) (λf bL A outer s H vs Q E hr h=>?_)
 ·obtain⟨b,t,as,ts,r,w,ak,aW,bi,bj,rfl,_⟩:=h
  rfl
 ·obtain⟨b,t,as,ts,r,w,ak,aW,bi,bj,rfl,BA,ht,hL,bT,h0,qE,q⟩:=h
  have agY:=T.M;have O7:=T.GK;have hal:=hL.len;have r9:=BA.ok.r9;have w9:=BA.ok.w9;obtain⟨dx,_,_,_,ex,_⟩:=id BA.ex;refine⟨_,(aD (aQ (i:=2) nU.nd rfl (Or.inl rfl) (qj (qv 0) fQ.cl uO uP hr.mono uQ .nil lK (aj (qv 1) aq))) (aF (dh im rfl (u6 (by rfl) cR (aj (aP bf (aP bf (qv 1) aB (λ_ _=>rfl)) aB (λ_ _=>rfl)) (aj (bB dN (aP bf (aP bf (qv 1) (yj ug aB) (λ_ _=>rfl)) aB (λ_ _=>rfl)) aB) aq))) (bH (i:=3) nU.nd rfl (Or.inl rfl)) (aF (dh im rfl (u6 (by rfl) cR (aj (aP bf (aP bf (qv 1) aB (λ_ _=>rfl)) aB (λ_ _=>rfl)) (aj (bB dN (aP bf (aP bf (qv 1) (yj ug aB) (λ_ _=>rfl)) aB (λ_ _=>rfl)) aB) aq))) (bH (i:=4) nU.nd rfl (Or.inl rfl)) (aF (bW (bw rm (qj (qv 2) fQ.cl pF pG hr.mono pH .nil lK (aj (qv 3) (aj (qv 4) aq))) (sU (by rfl) eV) (aZ _)) (aF (rD oH rfl agY agX hr.mono (by rfl) O7 U5 (aj (qv 3) (aj (qv 4) aq)))) bC))))))),?_⟩;refine⟨_,rfl,b,dx,_,rfl,ex,rfl,_,rfl,b,t,as,ts,r,w,ak,aW,bi,bj,rfl,BA,ht,hL,bT,λx1 H1 s1 B1=>?_⟩;rw[show gD ts=ts[0] from kY h0,O5 h0]at qE q;obtain⟨a1,a2,_⟩:=bT _ (ai h0);obtain⟨l1,l2,_⟩:=bT _ (ai (show ts.length-1 < ts.length by lia));have hL1:=hL.mv s1;have ht1:=s1 _ _ ht;obtain⟨g0,e0⟩:=fV hL1 h0;obtain⟨gl,el⟩:=fV hL1 (show ts.length-1 < ts.length by lia);have eal:as.length-1=ts.length-1:=by lia
  have yH:oE (as.map V.ref) (-1)=some (.ref as[ts.length-1]):=by
   rw[Jh (show 0 < as.length by lia)];simp only[eal]
  generalize hR:b_ ak ts=R at B1 qE q;generalize ef:ts[0]=ff at e0 qE q a1 a2;generalize eg:ts[ts.length-1]=ll at el qE q l1 l2;refine⟨_,rfl,t,_,_,.ref as[0],rfl,rfl,aM.of ht1,aG (j:=0) (by simp[g0]),as[0],_,_,_,rfl,rfl,aM.of e0,aG (j:=0) rfl,_,rfl,_,rfl,t,_,_,.ref as[ts.length-1],rfl,rfl,aM.of ht1,yH,as[ts.length-1],_,_,_,rfl,rfl,aM.of el,aG (j:=0) rfl,_,_,rfl,rfl,(ff.1:Int),(ll.1:Int)+1,rfl,⟨by lia,by lia,by lia,by lia⟩,?_⟩;refine gH (lo:=(ff.1:Int)) (λn σ H'=>∃v3 v4:Option V,σ=[some (.ref b),some (.ref t),some (.ref x1),v3,v4]/\aA H1 H'/\∀i j,ff.1<=i->i < ff.1+n->ff.2.1<=j->j<=ll.2.1->cell R i j≠46)
   ⟨none,none,rfl,aA.refl _,λi j z1 z2=>by lia⟩ ?_ ?_
  ·rintro n σ H' hn ⟨v3,v4,rfl,sm,hup⟩
   have hn2:ff.1+n<=ll.1:=by lia
   have en:(ff.1:Int)+(n:Int)=((ff.1+n:Nat):Int):=by lia
   rw[en];have A_:=sm _ _ ht1;have e02:=sm _ _ e0;have el2:=sm _ _ el;refine⟨_,rfl,t,_,_,.ref as[0],rfl,rfl,aM.of A_,aG (j:=0) (by simp[g0]),as[0],_,_,_,rfl,rfl,aM.of e02,aG (j:=1) rfl,_,rfl,_,rfl,t,_,_,.ref as[ts.length-1],rfl,rfl,aM.of A_,yH,as[ts.length-1],_,_,_,rfl,rfl,aM.of el2,aG (j:=1) rfl,_,_,rfl,rfl,(ff.2.1:Int),(ll.2.1:Int)+1,rfl,⟨by lia,by lia,by lia,by lia⟩,?_⟩;refine gH (lo:=(ff.2.1:Int)) (λm σ H2=>∃v4:Option V,σ=[some (.ref b),some (.ref t),some (.ref x1),some (.int ((ff.1+n:Nat):Int)),v4]/\aA H1 H2/\∀j,ff.2.1<=j->j < ff.2.1+m->cell R (ff.1+n) j≠46)
    ⟨_,rfl,sm,λj z1 z2=>by lia⟩ ?_ ?_
   ·rintro m σ H2 hm ⟨v4,rfl,Yh,hle⟩
    have hm2:ff.2.1+m<=ll.2.1:=by lia
    have em:(ff.2.1:Int)+(m:Int)=((ff.2.1+m:Nat):Int):=by lia
    rw[em];have B2:=B1.mv Yh;obtain⟨dx1,_,_,_,ex1,_⟩:=id B2.ex;refine⟨_,rfl,x1,dx1,_,rfl,ex1,rfl,_,rfl,_,rfl,x1,r,w,R,aW,bi,bj,_,_,rfl,B2,[_],[46],rfl,rfl,_,rfl,?_⟩;rw[Fg (show ff.1+n < r by lia) (show ff.2.1+m < w by lia)];by_cases hc:cell R (ff.1+n) (ff.2.1+m)=46
    ·rw[ah (show [cell R (ff.1+n) (ff.2.1+m)]=[46] by rw[hc])]
     refine bI ⟨_,rfl,_,rfl,zsz 2,λa na=>⟨a,_,_,rfl,au,λdx ne nd=>?_⟩⟩;obtain⟨k0,k1,k2⟩:=KZ (q:=.ext (gq a (.ref CG) (some dx))) (p:=.ext (XD dx [("row",.int (ff.1+n:Nat))])) (p2:=.ext (XD dx (K4 (ff.1+n) (ff.2.1+m)))) na ne nd;exact⟨rfl,some dx,k0,qE _ _ ⟨by lia,hn2,by lia,hm2,hc,hup,hle⟩ dx _ ((s1.trans Yh).trans k1) k2⟩
    ·rw[ae (show ¬[cell R (ff.1+n) (ff.2.1+m)]=[46] from λz=>hc (by injection z))]
     refine aX ⟨_,rfl,Yh,λj z1 z2=>?_⟩;by_cases z:j=ff.2.1+m
     ·rw[z];exact hc
     ·exact hle j z1 (by lia)
   ·rintro σ H2 ⟨v4,rfl,Yh,hle⟩
    refine⟨_,_,rfl,Yh,λi j z1 z2 z3 z4=>?_⟩;by_cases z:i=ff.1+n
    ·rw[z];exact hle j z3 (by lia)
    ·exact hup i j z1 (by lia) z3 z4
  ·rintro σ H' ⟨v3,v4,rfl,sm,hup⟩
   exact q (λi j z1 z2 z3 z4=>hup i j z1 (by lia) z3 z4) H' (s1.trans sm)
def eY (t:bA):Nat × Nat:=(t.1,t.2.1)
def pR (ak:AA)(r w bi bj:Nat)(ts:List bA):Bool:=if isFree ak=true then decide ((bi,bj)∈ts.map eY) else ts.any λt=>iK ak r w t.1 t.2.1
theorem dw.Yi {H:Hp}:∀{cs:List Addr} {cc:List (Nat × Nat)},Oz H cs cc->dw K H 1 (cc.map λc=>Dt.tup [.int c.1,.int c.2]) (cs.map V.ref)
 | [],[],_=>.nil
 | [],_::_,h=>by have:=h.len;simp at this
 | _::_,[],h=>by have:=h.len;simp at this
 | a::cs,c::cc,h=>.cons (.tup (aM.of (h.at_ 0 a c rfl rfl)) (.cons (.int _) (.cons (.int _) .nil))) (dw.Yi ⟨by have:=h.len;simpa using this,λi a x h1 h2=>h.at_ (i+1) a x h1 h2⟩)
theorem xR {c:Nat × Nat}{cc:List (Nat × Nat)}:Dt.tup [.int c.1,.int c.2]∈(cc.map λc=>Dt.tup [.int (c.1:Int),.int (c.2:Int)])↔c∈cc:=by
 constructor
 ·intro h
  obtain⟨d,hd,e⟩:=bp.mp h;injection e with e;injection e with e1 e2;injection e1 with e1;injection e2 with e2;injection e2 with e2;have:d=c:=Prod.ext (jS e1) (jS e2);rw[<- this];exact hd
 ·intro h
  exact bp.mpr ⟨c,h,rfl⟩
def O8 (C CA:Addr):Sp:=λvs H Q E=>∃(b t:Addr) (as:List Addr) (ts:List bA) (r w:Nat) (ak aW:AA) (bi bj:Nat),vs=[.ref b,.ref t]/\fD C H b r w ak aW bi bj/\H t=some (.tup (as.map V.ref))/\cT H as ts/\ts.length<=7/\
 (pR ak r w bi bj ts=false->∀H',aA H H'->E (.ref CA) none H')/\(pR ak r w bi bj ts=true->∀H',aA H H'->Q .non H')
open Classical in
theorem Ht {C CA f1:Addr}{iw:FuncData}(D:aK K mg "check_joined" mO ["board","laying"])(vM:mg "any"=none)(fQ:gW K C)(Hu:Meth K C "is_free" f1)(Hv:cP P w K mg base fZ 1 f1 iw ["self"] (XM C))(Hw:cO K iw ["self"] [])
  (Fj:mg "Apart"=some (.ref CA)) (adw:W.excIn K CA iJ "ValueError.__new__"=true) (yI:bO P w K mg base "cells_of" 1 ["laying"] Bh) (Bl:bO P w K mg base "is_next_to_taken" 5 ["board","row","column"] (O1 C)):DefX P w K mg base "check_joined" 7 ["board","laying"] (O8 C CA):=by
 refine D.yr o9 (λvs H Q E h=>?_) (λf bL A outer s H vs Q E hr h=>?_)
 ·obtain⟨b,t,as,ts,r,w,ak,aW,bi,bj,rfl,_⟩:=h
  rfl
 ·obtain⟨b,t,as,ts,r,w,ak,aW,bi,bj,rfl,BA,ht,hL,h7,qE,q⟩:=h
  have hal:=hL.len;obtain⟨dx,pr,pm,pb,ex,_,_,hpb⟩:=id BA.ex;refine⟨_,(aD (gn (bW (dj (Ep (qv 0) fQ.cl Hu Hv hr.mono Hw .nil lK)) (aF (aQ (i:=2) o9.nd rfl (Or.inl rfl) (dU (R5 hr.units) (jr (qv 0) rfl) (aV yI hr.mono rfl (aj (qv 1) aq)) rfl))) (aF (aQ (i:=2) o9.nd rfl (Or.inl rfl) (aO (NP rfl) (by rfl) vM Kf (aj (fJ (ns:=["row","column","sign"]) rfl (fH.of ["board","laying","joined"] [] (by kernel_rfl)) (dW (qv 1)) (λ_ _ _ _ _=>(ql K rfl (show (["row","column","sign","board","laying","joined"]:List Str).Nodup by decide +kernel) rfl rfl rfl (by rfl) (by rfl) (by rfl))) (λ_ _ _ _ _=>cZ) (λ_ _ _ _ _=>(aV Bl hr.mono rfl (aj (qv 3) (aj (qv 0) (aj (qv 1) aq)))))) aq)))))) (aF (bW (eO (dj (qv 2))) (aF (Et oH rfl rfl (by rfl) Fj adw (aj (bZ [116,104,101,32,108,97,121,105,110,103,32,105,115,32,106,111,105,110,101,100,32,116,111,32,110,111,116,104,105,110,103] (by decide +kernel)) aq))) bC))),?_⟩;refine⟨λσ H'=>aA H H'/\σ=[some (.ref b),some (.ref t),some (.bl (pR ak r w bi bj ts))],?_,?_⟩
  ·refine⟨_,rfl,b,dx,_,rfl,ex,rfl,b,r,w,ak,aW,bi,bj,rfl,BA,λH1 s1=>⟨_,rfl,?_⟩⟩
   cases hf:isFree ak with
   | true=>
    refine bI ⟨_,rfl,b,C,dx,_,_,rfl,s1 _ _ ex,fQ.cl,fQ.nb,rfl,_,rfl,t,as,ts,rfl,s1 _ _ ht,hL.mv s1,by lia,λLc cs H2 s2 hLc hcs=>?_⟩;have ahI:=s2 _ _ (s1 _ _ hpb);refine⟨2,.tup [.int bi,.int bj],(ts.map eY).map λc=>Dt.tup [.int c.1,.int c.2],by decide,.tup (aM.of ahI) (.cons (.int _) (.cons (.int _) .nil)),.lst (aU.of hLc) (dw.Yi hcs),?_⟩;refine⟨s1.trans s2,?_⟩;have e:pR ak r w bi bj ts=decide ((bi,bj)∈ts.map eY):=by unfold pR;rw[if_pos hf]
    rw[e];simp only[cn,if_false];by_cases hm:(bi,bj)∈ts.map eY
    ·rw[ah hm,ah (xR (c:=(bi,bj)).mpr hm)];rfl
    ·rw[ae hm,ae (λz=>hm (xR (c:=(bi,bj)).mp z))];rfl
   | false=>
    refine aX ⟨_,rfl,t,rfl,⟨_,aM.of (s1 _ _ ht)⟩,λN hN=>j9 (K:=K) (KT:=K) (a:=t) (f:=eU [] 0) (tt:=iB) (xs:=as.map V.ref) (λn ys H3=>ys=((ts.take n).map λt=>iK ak r w t.1 t.2.1).map V.bl/\H3 N=some (.lst ys)/\aA H1 H3)
     ⟨rfl,au,aA.upd hN⟩ (λn ys H3 _ h=>aM.of (h.2.2 _ _ (s1 _ _ ht))) ?_ ?_⟩
    ·rintro n x ys H3 hx ⟨rfl,oN,sm3⟩
     have hn:n < as.length:=by have:=(af.mp hx).1;simpa using this
     have hnt:n < ts.length:=by lia
     rw[aS,ac hn]at hx;have hx:V.ref as[n]=x:=ap hx;have sJ:=s1.trans sm3;obtain⟨_,en⟩:=fV (hL.mv sJ) hnt;refine yq hx.symm (aM.of en) ?_;refine⟨_,rfl,_,rfl,_,rfl,b,r,w,ak,aW,bi,bj,_,_,rfl,BA.mv sJ,λH4 s4=>⟨s4 _ _ oN,?_,dZ.mk (by rw[aa];exact hn) ⟨?_,au,(sm3.trans s4).cD hN⟩⟩⟩
     ·rw[aa,aa,ay];exact aH (by lia)
     ·rw[take_snoc (ac hnt),bS];rfl
    ·rintro ys H3 ⟨rfl,oN,sm3⟩
     refine⟨N,_,rfl,aU.of oN,s1.trans sm3,?_⟩;rw[aa,hal,bz,any_map];have e:pR ak r w bi bj ts=ts.any λt=>iK ak r w t.1 t.2.1:=by unfold pR;rw[if_neg (by rw[hf];decide)]
     rw[e];rfl
  ·rintro σ H' ⟨sm,rfl⟩
   refine⟨_,rfl,_,rfl,?_⟩;cases hj:pR ak r w bi bj ts with
   | true=>exact aX (q hj H' sm)
   | false=>exact bI ⟨zsz 1,qE hj H' sm⟩
structure oh (w:List Nat):Prop where
 lo:2<=w.length
 hi:w.length<=9
 az:∀c∈w,isLet c
def O9:Sp:=λvs H Q _=>∃l:List Nat,vs=[.str (S l)]/\oh l/\∀H',aA H H'->Q (.bl true) H'
theorem afT {c:Nat}(h:isLet c):decide ([c] < [97])=false/\decide ([122] < [c])=false:=by
 have hlt:∀a b:Nat,([a] < [b])↔a < b:=λa b=>by simp[iq]
 constructor
 ·rw[ae];rw[hlt];have:=h.1;lia
 ·rw[ae];rw[hlt];have:=h.2;lia
theorem U6 (D:aK K mg "is_word" vm ["text"])(cA:mg "len"=none)(hall:mg "all"=none):bO P w K mg base "is_word" 1 ["text"] O9:=by
 refine D.dz G3 (λvs H Q E h=>?_) (λf bL A outer s H vs Q E hr h=>?_)
 ·obtain⟨l,rfl,_⟩:=h
  rfl
 ·obtain⟨l,rfl,hw,q⟩:=h
  have h1:=hw.lo;have h2:=hw.hi;have hz:l.length<=sizeLine:=aE (aH (by lia));refine⟨_,aF (aY (lV (j6 lJ lJ aB (aO cJ (by rfl) cA aI (aj (qv 0) aq)) aB)
   (jP (aO (jA rfl) (by rfl) hall (by decide +kernel) (aj (jQ rfl (i_.of G3.nd (by kernel_rfl)) (uz (qv 0)) (λ_ _ _ _ _=>cZ)
    (λ_ _ _ _ _=>j6 rC rC (bZ [97] (by decide +kernel)) (qv 0) (bZ [122] (by decide +kernel)))) aq))))),?_⟩
  refine⟨_,rfl,l,rfl,hz,_,_,rfl,rfl,true,(by simp;lia),?_⟩;refine bI ⟨_,_,rfl,rfl,true,(by simp;lia),?_⟩;refine bI ?_;refine⟨_,rfl,l,rfl,λL hL=>uD (λi ys H2=>ys=(List.replicate i true).map V.bl/\H2 L=some (.lst ys)/\aA H H2) ⟨rfl,au,aA.upd hL⟩ ?_ ?_⟩
  ·rintro i c ys H2 hi ⟨rfl,hL2,sm⟩
   have hil:i < l.length:=(af.mp hi).1;obtain⟨a1,a2⟩:=afT (hw.az c (bc hi));refine⟨_,rfl,[97],[c],rfl,rfl,true,by rw[a1];rfl,bI ⟨[c],[122],rfl,rfl,hL2,?_,dZ.mk hil ⟨?_,au,sm.cD hL⟩⟩⟩
   ·rw[aa,b7];exact aH (by lia)
   ·rw[a2,List.replicate_succ',bS];rfl
  ·rintro ys H2 ⟨rfl,hL2,sm⟩
   refine⟨L,List.replicate l.length true,rfl,aU.of hL2,?_⟩;have e:(List.replicate l.length true).all id=true:=by simp
   rw[e];exact q H2 sm
def SM:Sp:=λvs H Q _=>∃l:List Nat,vs=[.str (S l)]/\oh l/\∀H',aA H H'->Q .non H'
theorem Mf (D:aK K mg "check_word" o_ ["text"])(D1:bO P w K mg base "is_word" 1 ["text"] O9):bO P w K mg base "check_word" 2 ["text"] SM:=by
 refine D.dz Ls (λvs H Q E h=>?_) (λf bL A outer s H vs Q E hr h=>?_)
 ·obtain⟨l,rfl,_⟩:=h
  rfl
 ·obtain⟨l,rfl,hw,q⟩:=h
  refine⟨_,aF (bW (eO (dj (aV D1 hr rfl (aj (qv 0) aq)))) Kc bC),?_⟩;refine⟨_,rfl,l,rfl,hw,λH1 s1=>⟨true,rfl,?_⟩⟩;exact aX (q H1 s1)
structure uc (K:W.Frag)(C:Addr):Prop where
 cl:Cls K C
 nh:nC K C "held"
def nO (ws:AA):List (Key × V):=ws.map λl=>(jk l,V.bl true)
theorem aaM (ws:AA):(nO ws).map (·.1)=ws.map jk:=by unfold nO;rw[eD];rfl
theorem aaN {a b:List Nat}(h:jk a=jk b):a=b:=Mq (Sum.inr.inj h)
theorem Jk (ws:AA)(l:List Nat):j5 (nO ws) (jk l)=if l∈ws then some (.bl true) else none:=by
 induction ws with
 | nil=>simp[nO,j5]
 | cons a r ih=>
  by_cases e:a=l
  ·subst e
   have:j5 (nO (a::r)) (jk a)=some (.bl true):=um (p:=(jk a,V.bl true)) rfl;rw[this];simp
  ·have:j5 (nO (a::r)) (jk l)=j5 (nO r) (jk l):=uo (p:=(jk a,V.bl true)) λz=>e (aaN z)
   rw[this,ih];have e':¬l=a:=λz=>e z.symm;simp[e']
theorem adx {ws:AA}{l:List Nat}(h:l∈ws):putK (nO ws) (jk l) (.bl true)=nO ws:=by
 have hany:((nO ws).any λkv=>decide (kv.1=jk l))=true:=by rw[yc,Jk,if_pos h];rfl
 unfold putK;rw[if_pos hany];refine(e7 λkv hkv=>?_).trans (mh _);obtain⟨a,_,rfl⟩:=bp.mp hkv;by_cases e:jk a=jk l
 ·simp[e]
 ·simp[e]
theorem ady {ws:AA}{l:List Nat}(h:l∉ws):putK (nO ws) (jk l) (.bl true)=nO (ws++[l]):=by
 rw[ZW _ (by rw[Jk,if_neg h])];simp[nO]
structure pI (C:Addr)(H:Hp)(p d:Addr)(ws:AA):Prop where
 ob:∃dx,H p=some (.ins C dx [("held",.ref d)])
 dc:H d=some (.dK (nO ws))
 nd:ws.Nodup
 az:∀l∈ws,oh l
def wC (ws:AA)(l:List Nat):List (List Nat):=if l∈ws then ws else ws++[l]
theorem O_ (ws:AA)(l:List Nat):putK (nO ws) (jk l) (.bl true)=nO (wC ws l):=by
 unfold wC
 split
 ·rename_i h;exact adx h
 ·rename_i h;exact ady h
theorem SN {ws:AA}{l:List Nat}(h:ws.Nodup):(wC ws l).Nodup:=by
 unfold wC
 split
 ·exact h
 ·rename_i hl;exact RJ h hl
theorem Pa {ws:AA}{l x:List Nat}:x∈wC ws l↔x∈ws\/x=l:=by
 unfold wC
 split
 ·rename_i h;exact⟨.inl,λz=>z.elim id λe=>e ▸ h⟩
 ·simp
theorem Pb (ws:AA)(l:List Nat):(wC ws l).length<=ws.length+1:=by
 unfold wC
 split
 ·lia
 ·simp
def agZ (K:W.Frag)(H:Hp)(a:Addr)(ls:AA):Prop:=aU K H a (Ts ls)\/aM K H a (Ts ls)
def Yj (K:W.Frag)(C:Addr):Sp:=λvs H Q _=>∃(p dx a:Addr) (ls:AA),vs=[.ref p,.ref a]/\H p=some (.ins C dx [])/\agZ K H a ls/\(∀l∈ls,oh l)/\ls.length<=200/\
 ∀(d:Addr) (ws:AA) (H':Hp),H d=none->pI C H' p d ws->(∀x,x∈ws↔x∈ls)->ws.length<=ls.length->(∀b o,H b=some o->b≠p->H' b=some o)->Q .non H'
theorem adz {f C:Addr}{fd:FuncData}(F:gM K "__init__" "Book.__init__" jD f fd)(T:uc K C)(D1:bO P w K mg base "check_word" 2 ["text"] SM):cP P w K mg base fZ 3 f fd ["self","words"] (Yj K C):=by
 refine F.dz Av (λvs H Q E h=>?_) (λbL A outer s H vs Q E hr h=>?_)
 ·obtain⟨p,dx,a,ls,rfl,_⟩:=h
  rfl
 ·obtain⟨p,dx,a,ls,rfl,hp,hS,hW,hn,k⟩:=h
  have hu:=T7 hr;have nd:=Av.nd;refine⟨_,aD (Gy (qv 0) Z7 rfl) (aF (dh bu rfl ((gF (qv 1)).or (dW (qv 1))) (bH (i:=2) nd rfl (Or.inl rfl))
   (aD (dD (aV D1 hr rfl (aj (qv 2) aq))) (aF (RQ hu (jr (qv 0) rfl) (qv 2) iI rfl))))),?_⟩
  intro d hd;have npd:p≠d:=bU hp hd;refine⟨_,rfl,p,C,dx,[],rfl,(by rw[aN npd];exact hp),T.cl,T.nh,(by show 0 < 1000;decide),?_⟩;have hP1:upd (upd H d (HO.dK [])) p (HO.ins C dx (iz "held" (V.ref d) [])) p=some (.ins C dx [("held",.ref d)]):=au;have hD1:upd (upd H d (HO.dK [])) p (HO.ins C dx (iz "held" (V.ref d) [])) d=some (.dK (nO [])):=by rw[aN npd.symm,au];rfl
  have Yk:∀b o,H b=some o->b≠p->upd (upd H d (HO.dK [])) p (HO.ins C dx (iz "held" (V.ref d) [])) b=some o:=λb o e hb=>by rw[aN hb,aN (bU e hd)];exact e
  generalize upd (upd H d (HO.dK [])) p (HO.ins C dx (iz "held" (V.ref d) []))=H1 at hP1 hD1 Yk ⊢;have npl:∀o,H p=some o->(∀ys,o≠.lst ys)/\∀u ys,o≠.nj u (.lst ys):=λo e=>by
   rw[hp]at e;cases e;exact⟨λ_ z=>(nomatch z),λ_ _ z=>(nomatch z)⟩
  have npt:∀o,H p=some o->(∀ys,o≠.tup ys)/\∀u ys,o≠.nj u (.tup ys):=λo e=>by
   rw[hp]at e;cases e;exact⟨λ_ z=>(nomatch z),λ_ _ z=>(nomatch z)⟩
  rcases hS with hS | hS
  ·refine .inl ⟨_,rfl,a,rfl,⟨_,hS.keep Yk npl⟩,nZ (K:=K) (a:=a) (xs:=Ts ls) (λi σ H2=>∃(v2:Option V) (ws:AA),σ=[some (.ref p),some (.ref a),v2]/\H2 p=some (.ins C dx [("held",.ref d)])/\H2 d=some (.dK (nO ws))/\ws.Nodup/\
    (∀x,x∈ws↔x∈ls.take i)/\ws.length<=i/\∀b o,H b=some o->b≠p->H2 b=some o) ⟨none,[],rfl,hP1,hD1,gt,λx=>by simp,al _,Yk⟩ (λi σ H2 _ ⟨_,_,_,_,_,_,_,_,kp⟩=>hS.keep kp npl) ?_ ?_⟩
   ·rintro i y σ H2 hi ⟨v2,ws,rfl,hp2,hd2,hnd,hm,hl,kp⟩
    rw[aS]at hi;obtain⟨l,hl2,e⟩:=dq.mp hi;subst e;have hil:i < ls.length:=(af.mp hl2).1;refine⟨_,rfl,l,rfl,hW l (bc hl2),λH3 s3=>?_⟩;have Xx:=s3 _ _ hd2;refine⟨_,rfl,p,C,dx,_,_,rfl,s3 _ _ hp2,T.cl,T.nh,rfl,_,rfl,d,_,rfl,yd.k (k:=jk l) Xx (by rw[nO,aa];exact aH (by lia)),?_⟩;refine⟨_,wC ws l,rfl,by rw[aN npd];exact s3 _ _ hp2,by rw[au,O_],SN hnd,λx=>?_,b9 (Pb _ _) (by lia),λb o e hb=>?_⟩
    ·rw[Pa,hm,bo,hl2];simp
    ·rw[aN (bU e hd)];exact s3 _ _ (kp b o e hb)
   ·rintro σ H2 ⟨v2,ws,rfl,hp2,hd2,hnd,hm,hl,kp⟩
    rw[aa]at hm hl;rw[bz]at hm;exact k d ws H2 hd ⟨⟨dx,hp2⟩,hd2,hnd,λl hl=>hW l ((hm l).mp hl)⟩ hm hl kp
  ·refine .inr ⟨_,rfl,a,rfl,⟨_,hS.keep Yk npt⟩,jN (K:=K) (a:=a) (xs:=Ts ls) (λi σ H2=>∃(v2:Option V) (ws:AA),σ=[some (.ref p),some (.ref a),v2]/\H2 p=some (.ins C dx [("held",.ref d)])/\H2 d=some (.dK (nO ws))/\ws.Nodup/\
    (∀x,x∈ws↔x∈ls.take i)/\ws.length<=i/\∀b o,H b=some o->b≠p->H2 b=some o) ⟨none,[],rfl,hP1,hD1,gt,λx=>by simp,al _,Yk⟩ (λi σ H2 _ ⟨_,_,_,_,_,_,_,_,kp⟩=>hS.keep kp npt) ?_ ?_⟩
   ·rintro i y σ H2 hi ⟨v2,ws,rfl,hp2,hd2,hnd,hm,hl,kp⟩
    rw[aS]at hi;obtain⟨l,hl2,e⟩:=dq.mp hi;subst e;have hil:i < ls.length:=(af.mp hl2).1;refine⟨_,rfl,l,rfl,hW l (bc hl2),λH3 s3=>?_⟩;have Xx:=s3 _ _ hd2;refine⟨_,rfl,p,C,dx,_,_,rfl,s3 _ _ hp2,T.cl,T.nh,rfl,_,rfl,d,_,rfl,yd.k (k:=jk l) Xx (by rw[nO,aa];exact aH (by lia)),?_⟩;refine⟨_,wC ws l,rfl,by rw[aN npd];exact s3 _ _ hp2,by rw[au,O_],SN hnd,λx=>?_,b9 (Pb _ _) (by lia),λb o e hb=>?_⟩
    ·rw[Pa,hm,bo,hl2];simp
    ·rw[aN (bU e hd)];exact s3 _ _ (kp b o e hb)
   ·rintro σ H2 ⟨v2,ws,rfl,hp2,hd2,hnd,hm,hl,kp⟩
    rw[aa]at hm hl;rw[bz]at hm;exact k d ws H2 hd ⟨⟨dx,hp2⟩,hd2,hnd,λl hl=>hW l ((hm l).mp hl)⟩ hm hl kp
def acg (C:Addr):Sp:=λvs H Q _=>∃(p d:Addr) (ws:AA) (l:List Nat),vs=[.ref p,.str (S l)]/\pI C H p d ws/\Q (.bl (decide (l∈ws))) H
theorem afU {f C:Addr}{fd:FuncData}(F:gM K "has" "Book.has" kE f fd)(T:uc K C):cP P w K mg base fZ 1 f fd ["self","text"] (acg C):=by
 refine F.dz Q8 (λvs H Q E h=>?_) (λbL A outer s H vs Q E hr h=>?_)
 ·obtain⟨p,d,ws,l,rfl,_⟩:=h
  rfl
 ·obtain⟨p,d,ws,l,rfl,B,q⟩:=h
  have hu:=T7 hr;obtain⟨⟨dx,hp⟩,hd,_,_⟩:=id B;refine⟨_,aF (aY (afc (afb hu (qv 1) (jr (qv 0) rfl)))),?_⟩;refine⟨_,rfl,_,rfl,p,C,dx,_,_,rfl,hp,T.cl,T.nh,rfl,d,_,rfl,uq.k (k:=jk l) hd,?_⟩;rw[Jk];by_cases h:l∈ws
  ·rw[if_pos h];simpa [h] using q
  ·rw[if_neg h];simpa [h] using q
def ahJ (ws:AA):Prop:=ws.Pairwise (λa b=>decide (b < a)=false)
def SQ (C:Addr):Sp:=λvs H Q _=>∃(p d:Addr) (ws:AA),vs=[.ref p]/\pI C H p d ws/\ws.length < 64/\
 ∀(t:Addr) (us:AA) (H':Hp),aA H H'->H t=none->H' t=some (.tup (Ts us))->us.Perm ws->ahJ us->Q (.ref t) H'
theorem aaO {f C:Addr}{fd:FuncData}(F:gM K "words" "Book.words" jg f fd)(T:uc K C)(adA:mg "sorted"=none)(htup:mg "tuple"=none):cP P w K mg base fZ 1 f fd ["self"] (SQ C):=by
 refine F.dz Lx (λvs H Q E h=>?_) (λbL A outer s H vs Q E hr h=>?_)
 ·obtain⟨p,d,ws,rfl,_⟩:=h
  rfl
 ·obtain⟨p,d,ws,rfl,B,h64,q⟩:=h
  obtain⟨⟨dx,hp⟩,hd,_,_⟩:=id B;refine⟨_,aF (aY (dR gJ (by rfl) htup cv (aj (aO (Nj rfl) (by rfl) adA i6 (aj (jr (qv 0) rfl) aq)) aq))),?_⟩;refine⟨_,rfl,p,C,dx,_,_,rfl,hp,T.cl,T.nh,rfl,d,_,ws,rfl,hd,aaM ws,h64,λt us ht pm rs=>?_⟩;refine⟨t,_,rfl,.inl ⟨aU.of au,λv hv=>?_⟩⟩;have s1:aA H (upd H t (.lst (Ts us))):=aA.upd ht;exact q v us _ (s1.cD (s1.free hv)) (s1.free hv) au pm rs
def iy (c:Nat):Nat:=if 65<=c/\c<=90 then 63 else c
def Yl (c:Nat):Prop:=isLet c\/(65<=c/\c<=90)
theorem Yl.lt {c:Nat}(h:Yl c):c < 128:=by
 rcases h with h | h
 ·have:=h.2;lia
 ·lia
def sO (left:AA):List Nat->Sum Nat (List (List Nat))
 | []=>.inr left
 | c::cs=>if [iy c]∈left then sO (left.erase [iy c]) cs else .inl (iy c)
theorem SX:∀{us:AA},(∀l∈us,l.length=1)->us.flatten.length=us.length
 | [],_=>rfl
 | u::us,h=>by
  rw[ik,a_,SX λl hl=>h l (bb _ hl),h u bE,di];lia
def Ym:Sp:=λvs H Q _=>∃c:Nat,vs=[.str (S [c])]/\c < 128/\Q (.str (S [iy c])) H
theorem le1 (a b:Nat):(!decide ([b] < [a]))=decide (a<=b):=by
 by_cases h:a<=b
 ·rw[ah h,ae (by simp[iq];lia)];rfl
 ·rw[ae h,ah (by simp[iq];lia)];rfl
theorem U7 (D:aK K mg "tile_of" vf ["sign"]):bO P w K mg base "tile_of" 1 ["sign"] Ym:=by
 refine D.dz Us (λvs H Q E h=>?_) (λf bL A outer s H vs Q E hr h=>?_)
 ·obtain⟨c,rfl,_⟩:=h
  rfl
 ·obtain⟨c,rfl,hc,q⟩:=h
  refine⟨_,(aF (aY (qg (ux rC rC (bZ [65] (by decide +kernel)) (qv 0) (bZ [90] (by decide +kernel))) (bZ [63] (by decide +kernel)) (qv 0)))),?_⟩;refine⟨_,rfl,[65],[c],rfl,rfl,?_⟩;rw[le1];unfold iy at q;by_cases h1:65<=c
  ·rw[ah h1]
   refine⟨_,rfl,bI ⟨[c],[90],rfl,rfl,?_⟩⟩;rw[le1];by_cases h2:c<=90
   ·rw[if_pos ⟨h1,h2⟩]at q
    rw[ah h2];exact⟨_,rfl,bI q⟩
   ·rw[if_neg λz=>h2 z.2]at q
    rw[ae h2];exact⟨_,rfl,aX ⟨_,rfl,q⟩⟩
  ·rw[if_neg λz=>h1 z.1]at q
   rw[ae h1];exact⟨_,rfl,aX ⟨_,rfl,aX ⟨_,rfl,q⟩⟩⟩
theorem Pg (x:List Nat)(ws:AA):inV (.str (S x)) (Ts ws)=decide (x∈ws):=by
 unfold inV
 induction ws with
 | nil=>simp[Ts]
 | cons y ws ih=>
  have e:DW (.str (S y)) (.str (S x))=decide (y=x):=by
   show decide (S y=S x)=_;by_cases h:y=x
   ·rw[h];simp
   ·have h2:S y≠S x:=λe=>h (Mq e)
    simp[h,h2]
  show (DW (.str (S y)) (.str (S x))||(Ts ws).any _)=_;rw[e,ih];by_cases h:y=x
  ·simp[h]
  ·have h2:¬x=y:=λe=>h e.symm
   simp[h,h2]
theorem Dw (ws:AA):(Ts ws).all sS=true:=by rw[cz];intro x hx;obtain⟨l,_,rfl⟩:=bp.mp hx;rfl
theorem U8 {f C R:Addr}{fd:FuncData}(F:gM K "__init__" "Lacking.__init__" gR f fd)(gC:mg "RackError"=some (.ref R))(jF:InitOf K R)(T:m8 K mg "Lacking" C f ["tile"]):cP P w K mg base fZ 1 f fd ["self","tile"] (GP C "tile"):=by
 refine F.dz GX (λvs H Q E h=>?_) (λbL A outer s H vs Q E hr h=>?_)
 ·obtain⟨a,v,rfl,_⟩:=h
  rfl
 ·obtain⟨a,v,rfl,ha,q⟩:=h
  refine⟨_,(aD (dD (sY (by rfl) gC jF (aj (qv 0) (aj (qv 1) aq)))) (aF (t_ (qv 0) (qv 1) rfl))),?_⟩;refine⟨_,rfl,_,rfl,a,C,f,none,[v],rfl,ha,T.M.ini,zsz 1,?_⟩;exact⟨_,rfl,_,rfl,a,C,none,rfl,ha,T.T,T.no _ (by simp),.inl ⟨rfl,λdx ne nd=>q dx ne nd⟩⟩
def Yn (C:Addr):Sp:=λvs H Q E=>∃(bY signs:List Nat),vs=[.str (S bY),.str (S signs)]/\bY.length<=63/\signs.length<=63/\(∀c∈signs,Yl c)/\
 (∀t,sO (bY.map λc=>[c]) signs=.inl t->∀(dx:Addr) (H':Hp),aA H H'->H' dx=some (.ext (XD dx [("tile",.str (S [t]))]))->E (.ref C) (some dx) H')/\
 (∀left,sO (bY.map λc=>[c]) signs=.inr left->∀(ws:AA) (H':Hp),aA H H'->ws.Perm left->ws.Pairwise (λa b=>decide (b < a)=false)->Q (.str (S ws.flatten)) H')
theorem U9 {C f0:Addr}{jH:FuncData}(D:aK K mg "left_of" vg ["rack","signs"])(gP:mg "list"=none)(k_:mg "sorted"=none)(T:m8 K mg "Lacking" C f0 ["tile"])(Yo:cP P w K mg base fZ 1 f0 jH ["self","tile"] (GP C "tile"))(Bm:cO K jH ["self","tile"] [])
  (Yp:bO P w K mg base "tile_of" 1 ["sign"] Ym):DefX P w K mg base "left_of" 3 ["rack","signs"] (Yn C):=by
 refine D.yr tD (λvs H Q E h=>?_) (λf bL A outer s H vs Q E hr h=>?_)
 ·obtain⟨bY,signs,rfl,_⟩:=h
  rfl
 ·obtain⟨bY,signs,rfl,ahK,ah_,hsg,qE,q⟩:=h
  have Yq:=T.M;have yK:=T.GK;refine⟨_,(aD (aQ (i:=2) tD.nd rfl (Or.inl rfl) (dR (sW rfl) (by rfl) gP e_ (aj (qv 0) aq))) (aD (dh im rfl (uz (qv 1)) (bH (i:=3) tD.nd rfl (Or.inl rfl)) (aD (aQ (i:=4) tD.nd rfl (Or.inl rfl) (aV Yp hr.mono rfl (aj (qv 3) aq))) (aD (bW (bw oX (qv 4) (qv 2) rfl) (aF (rD oH rfl Yq Yo hr.mono (by rfl) yK Bm (aj (qv 4) aq))) bC) (aF (dD (fX bX PySem.F.slot_list_remove PySem.F.type_list_remove Kl (qv 2) (aj (qv 4) aq))))))) (aF (aY (fX bg dC dE xq (bZ [] (by decide +kernel)) (aj (aO Nv (by rfl) k_ i6 (aj (qv 2) aq)) aq)))))),?_⟩;refine⟨_,rfl,bY,rfl,by lia,λL hL=>?_⟩;have s1:aA H (upd H L (.lst (Ts (bY.map λc=>[c])))):=aA.upd hL;refine⟨_,rfl,signs,rfl,?_⟩;refine acW (λi σ H2=>∃(v3 v4:Option V) (us:AA),σ=[some (.str (S bY)),some (.str (S signs)),some (.ref L),v3,v4]/\aA H H2/\H2 L=some (.lst (Ts us))/\us.length<=63/\(∀l∈us,l.length=1)/\sO (bY.map λc=>[c]) signs=sO us (signs.drop i))
   ⟨none,none,bY.map λc=>[c],rfl,s1,au,by rw[aa];exact ahK,λl hl=>by obtain⟨c,_,rfl⟩:=bp.mp hl;rfl,by rw[gu]⟩ ?_ ?_
  ·rintro i c σ H2 hc ⟨v3,v4,us,rfl,sm,hL2,zZ,hu1,hgo⟩
   have hcs:=hsg c (bc hc);have hi:i < signs.length:=(af.mp hc).1;have hdrop:signs.drop i=c::signs.drop (i+1):=by
    rw[fv hi];rw[ac hi]at hc;rw[ap hc]
   rw[hdrop]at hgo;refine⟨_,rfl,c,rfl,hcs.lt,?_⟩;refine⟨_,rfl,_,rfl,L,Ts us,rfl,.inl (aU.of hL2),rfl,Dw us,?_⟩;rw[Pg];by_cases hm:[iy c]∈us
   ·rw[ah hm]
    refine⟨_,rfl,aX ⟨_,rfl,.inl ⟨rfl,_,aU.of hL2⟩,_,rfl,L,us,[iy c],rfl,rfl,hL2,hm,by lia,?_⟩⟩;refine⟨_,_,us.erase [iy c],rfl,sm.cD hL,au,?_,λl hl=>hu1 l (List.mem_of_mem_erase hl),?_⟩
    ·have:=(List.erase_sublist (a:=[iy c]) (l:=us)).length_le;lia
    ·rw[hgo];show (if _ then _ else _)=_;rw[if_pos hm]
   ·rw[ae hm]
    have e:sO (bY.map λc=>[c]) signs=.inl (iy c):=by rw[hgo];show (if _ then _ else _)=_;rw[if_neg hm]
    refine⟨_,rfl,bI ⟨_,rfl,zsz 1,λa na=>⟨a,_,rfl,au,λdx ne nd=>⟨rfl,some dx,au,?_⟩⟩⟩⟩;obtain⟨k1,k2⟩:=drop_new (q:=.ext (gq a (.ref C) (some dx))) (p:=.ext (XD dx [("tile",.str (S [iy c]))])) na ne nd;exact qE _ e dx _ (sm.trans k1) k2
  ·rintro σ H2 ⟨v3,v4,us,rfl,sm,hL2,zZ,hu1,hgo⟩
   rw[List.drop_length]at hgo;refine⟨rfl,_,rfl,L,us,rfl,aU.of hL2,by lia,λp ws hp pm pw=>?_⟩;refine⟨p,ws,rfl,rfl,aU.of au,?_,?_⟩
   ·rw[SX λl hl=>hu1 l (pm.mem_iff.mp hl),pm.length_eq];lia
   ·exact q us hgo ws _ (sm.cD (sm.free hp)) pm pw
theorem Yr {f C R:Addr}{fd:FuncData}(F:gM K "__init__" "NoWord.__init__" iC f fd)(gC:mg "RackError"=some (.ref R))(jF:InitOf K R)(T:m8 K mg "NoWord" C f ["word"]):cP P w K mg base fZ 1 f fd ["self","word"] (GP C "word"):=by
 refine F.dz Iz (λvs H Q E h=>?_) (λbL A outer s H vs Q E hr h=>?_)
 ·obtain⟨a,v,rfl,_⟩:=h
  rfl
 ·obtain⟨a,v,rfl,ha,q⟩:=h
  refine⟨_,(aD (dD (sY (by rfl) gC jF (aj (qv 0) (aj (qv 1) aq)))) (aF (t_ (qv 0) (qv 1) rfl))),?_⟩;refine⟨_,rfl,_,rfl,a,C,f,none,[v],rfl,ha,T.M.ini,zsz 1,?_⟩;exact⟨_,rfl,_,rfl,a,C,none,rfl,ha,T.T,T.no _ (by simp),.inl ⟨rfl,λdx ne nd=>q dx ne nd⟩⟩
theorem Bo {p:Nat->Bool}:∀{l:List Nat} {c:Nat},c∈l.takeWhile p->c∈l/\p c=true
 | [],c,h=>by simp at h
 | a::l,c,h=>by
  rw[List.takeWhile_cons]at h;by_cases z:p a=true
  ·rw[if_pos z]at h
   rcases bq.mp h with e | e
   ·rw[e];exact⟨bE,z⟩
   ·have:=Bo e;exact⟨bb _ this.1,this.2⟩
  ·rw[if_neg z]at h;simp at h
theorem aaP {r w:Nat}{R:AA}(hb:Blk r w R)(hp:∀l∈R,∀c∈l,rG c){i j wy:Nat}(hi:i < r)(hj:j < w):∀c∈lineOf R i j (wy:Int),rG c:=λc hc=>by
 unfold lineOf at hc
 split at hc
 ·rw[ax,ac (by rw[hb.len];exact hi)]at hc
  exact hp _ (ai _) c hc
 ·obtain⟨l,hl,e⟩:=bp.mp hc
  have hw:=hb.iQ l hl;have e2:l.getD j 0=l[j]:=by rw[ax,ac (show j < l.length by lia)];rfl
  rw[<- e,e2];exact hp l hl _ (ai _)
theorem adB {r w:Nat}{R:AA}(hb:Blk r w R)(hp:∀l∈R,∀c∈l,rG c){i j wy:Nat}(hi:i < r)(hj:j < w):∀c∈(m_ R i j wy).2.2.2,pP c:=λc hc=>by
 have key:∀c,c∈lineOf R i j (wy:Int)->(c != 46)=true->pP c:=λc h1 h2=>by
  rcases aaP hb hp hi hj c h1 with z | z
  ·rw[z]at h2;cases h2
  ·exact z
 rcases a7.mp (show c∈dM _++fG _ from hc) with z | z
 ·unfold dM at z
  have:=Bo (ma.mp z);exact key c (cE (ma.mp this.1)) this.2
 ·have:=Bo z
  exact key c (gp this.1) this.2
theorem yL {r w:Nat}{ak:AA}{ts:List bA}(hb:Blk r w (b_ ak ts))(hp:∀l∈b_ ak ts,∀c∈l,rG c)(bT:∀t∈ts,inB r w t):∀q∈iH ak ts,∀c∈q.2.2.2,pP c:=λq hq=>by
 obtain⟨a,ha,rfl⟩:=bp.mp (fT.mp hq).1;have hi:a.1 < r/\a.2.1 < w:=by
  rcases a7.mp ha with z | z
  ·obtain⟨u,hu,rfl⟩:=bp.mp z
   have:=bT u (cE hu);exact⟨this.1,this.2.1⟩
  ·obtain⟨u,hu,rfl⟩:=bp.mp z
   have:=bT u hu;exact⟨this.1,this.2.1⟩
 exact adB hb hp hi.1 hi.2
theorem wD {r w:Nat}{ak:AA}{ts:List bA}(hb:Blk r w (b_ ak ts))(r9:r<=9)(w9:w<=9)(bT:∀t∈ts,inB r w t):∀q∈iH ak ts,q.2.2.2.length<=20:=λq hq=>by
 obtain⟨a,ha,rfl⟩:=bp.mp (fT.mp hq).1;have hi:a.1 < r:=by
  rcases a7.mp ha with z | z
  ·obtain⟨u,hu,rfl⟩:=bp.mp z
   exact(bT u (cE hu)).1
  ·obtain⟨u,hu,rfl⟩:=bp.mp z
   exact(bT u hu).1
 exact EY hb r9 w9 hi
def dQ (q:uN):Dt:=.tup [.int q.1,.int q.2.1,.int q.2.2.1,.str q.2.2.2]
theorem dw.ofQ {H:Hp}:∀{bs:List Addr} {qs:List uN},QL H bs qs->(∀q∈qs,∀c∈q.2.2.2,c < 128)->dw K H 1 (qs.map dQ) (bs.map V.ref)
 | [],[],_,_=>.nil
 | [],_::_,h,_=>by have:=h.len;simp at this
 | _::_,[],h,_=>by have:=h.len;simp at this
 | a::bs,q::qs,h,k=>.cons (.tup (aM.of (h.at_ 0 a q rfl rfl)) (.cons (.int _) (.cons (.int _) (.cons (.int _) (.cons (.str _ (k q bE)) .nil))))) (dw.ofQ ⟨by have:=h.len;simpa using this,λi a x h1 h2=>h.at_ (i+1) a x h1 h2⟩ λq' hq'=>k q' (bb _ hq'))
def Bp (q:uN):List Nat:=q.2.2.2.map PyProof.Rows.lo1
def yM (ws:AA)(q:uN):Bool:=!decide (Bp q∈ws)
def oO (ak:AA)(ws:AA)(ts:List bA):Option (List Nat):=if iH ak ts=[] then some ([(gD ts).2.2].map PyProof.Rows.lo1) else ((iH ak ts).find? (yM ws)).map Bp
def K7 (C CB CW:Addr):Sp:=λvs H Q E=>∃(b k d t:Addr) (ws:AA) (as:List Addr) (ts:List bA) (r w:Nat) (ak aW:AA) (bi bj:Nat),vs=[.ref b,.ref k,.ref t]/\fD C H b r w ak aW bi bj/\pI CB H k d ws/\H t=some (.tup (as.map V.ref))/\cT H as ts/\(∀t∈ts,inB r w t)/\0 < ts.length/\ts.length<=7/\Dq ts/\
 (∀l,oO ak ws ts=some l->∀(dx:Addr) (H':Hp),aA H H'->H' dx=some (.ext (XD dx [("word",.str (S l))]))->E (.ref CW) (some dx) H')/\(oO ak ws ts=none->∀H',aA H H'->Q .non H')
theorem pI.mv {C:Addr}{H H':Hp}{p d:Addr}{ws:AA}(B:pI C H p d ws)(s:aA H H'):pI C H' p d ws:=⟨let ⟨dx,e⟩:=B.ob;⟨dx,s _ _ e⟩,s _ _ B.dc,B.nd,B.az⟩
theorem Hx {ak:AA}{ts:List bA}(h:ts.length<=7):(iH ak ts).length<=100:=by
 refine b9 (ft _ _) ?_;rw[aa];unfold qx;rw[a_,aa,aa,ay];lia
open Classical in
theorem Jl {C CB CW f0 f1:Addr}{jH iw:FuncData}(D:aK K mg "check_words" nW ["board","book","laying"])(Hy:uc K CB)(U_:Meth K CB "has" f1)(Va:cP P w K mg base fZ 1 f1 iw ["self","text"] (acg CB))(Vb:cO K iw ["self","text"] [])
  (T:m8 K mg "NoWord" CW f0 ["word"]) (Ph:cP P w K mg base fZ 1 f0 jH ["self","word"] (GP CW "word")) (yN:cO K jH ["self","word"] []) (aaQ:bO P w K mg base "formed" 10 ["board","laying"] (Ov C)) (Rk:bO P w K mg base "letter_of" 1 ["sign"] Hr):DefX P w K mg base "check_words" 12 ["board","book","laying"] (K7 C CB CW):=by
 refine D.yr gU (λvs H Q E h=>?_) (λf bL A outer s H vs Q E hr h=>?_)
 ·obtain⟨b,k,d,t,ws,as,ts,r,w,ak,aW,bi,bj,rfl,_⟩:=h
  rfl
 ·obtain⟨b,k,d,t,ws,as,ts,r,w,ak,aW,bi,bj,rfl,BA,BK,ht,hL,bT,h0,h7,hl1,qE,q⟩:=h
  have Pj:=T.M;have vN:=T.GK;have hb':=jE BA.ok.br bT;have hp':=uM BA.ok.br bT BA.ok.cr;have hsg:=yL hb' hp' bT;have K8:=wD hb' BA.ok.r9 BA.ok.w9 bT;have hwl:=Hx (ak:=ak) h7;have hlt:∀q∈iH ak ts,∀c∈q.2.2.2,c < 128:=λq hq c hc=>(hsg q hq c hc).lt;refine⟨_,(aD (aQ (i:=3) gU.nd rfl (Or.inl rfl) (aV aaQ hr.mono rfl (aj (qv 0) (aj (qv 2) aq)))) (aD (bW (bw (Gz hr.units) (qv 3) (cH aq) (aZ _)) (aF (rD oH rfl Pj Ph hr.mono (by rfl) vN yN (aj (aV Rk hr.mono rfl (aj (aP bf (aP bf (qv 2) aB (λ_ _=>rfl)) aB (λ_ _=>rfl)) aq)) aq))) bC) (aF (dh im rfl (dW (qv 3)) (lu rfl (bV (bH (i:=4) gU.nd rfl (Or.inl rfl)) (bV (bH (i:=5) gU.nd rfl (Or.inl rfl)) (bV (bH (i:=6) gU.nd rfl (Or.inl rfl)) (bV (bH (i:=7) gU.nd rfl (Or.inl rfl)) iU))))) (aD (aQ (i:=8) gU.nd rfl (Or.inl rfl) (lB bg c8 c_ nG (qv 7))) (aF (bW (eO (dj (qj (qv 1) Hy.cl U_ Va hr.mono Vb .nil lK (aj (qv 8) aq)))) (aF (rD oH rfl Pj Ph hr.mono (by rfl) vN yN (aj (qv 8) aq))) bC))))))),?_⟩;refine⟨_,rfl,_,rfl,b,t,as,ts,r,w,ak,aW,bi,bj,rfl,BA,ht,hL,bT,h0,h7,hl1,λT1 b1 H1 s1 hT1 Bq=>?_⟩;generalize hW:iH ak ts=W at hsg K8 hwl hlt Bq;refine⟨_,rfl,zsz 0,λZ hZ=>?_⟩;have sZ:aA H1 (upd H1 Z (HO.tup [])):=aA.upd hZ;have eZ:upd H1 Z (HO.tup []) Z=some (.tup []):=au;have hT2:=sZ _ _ hT1;have Pk:=Bq.mv sZ;have jJ:=s1.trans sZ;generalize upd H1 Z (HO.tup [])=H2 at sZ eZ hT2 Pk jJ ⊢;refine⟨2,.tup (W.map dQ),.tup [],by decide,.tup (aM.of hT2) (dw.ofQ Pk hlt),.tup (aM.of eZ) .nil,_,rfl,?_⟩;have pQ:=Pk.len;cases Hz:W with
  | nil=>
   simp only[kx,decide_true];obtain⟨g0,e0⟩:=fV (hL.mv jJ) h0;have hh:gD ts=ts[0]:=kY h0;have hs0:=(bT _ (ai h0)).2.2;refine bI ⟨_,rfl,t,_,_,.ref as[0],rfl,rfl,aM.of (jJ _ _ ht),aG (j:=0) (by simp[g0]),as[0],_,_,_,rfl,rfl,aM.of e0,aG (j:=2) rfl,ts[0].2.2,rfl,hs0.lt,zsz 1,λa na=>⟨a,_,rfl,au,λdx ne nd=>⟨rfl,some dx,au,?_⟩⟩⟩;obtain⟨k1,k2⟩:=drop_new (q:=.ext (gq a (.ref CW) (some dx))) (p:=.ext (XD dx [("word",.str (S ([ts[0].2.2].map PyProof.Rows.lo1)))])) na ne nd;refine qE _ ?_ dx _ (jJ.trans k1) k2;unfold oO;rw[if_pos (hW.trans Hz),hh]
  | cons q0 Wr=>
   have hne:¬(Dt.tup (W.map dQ)=Dt.tup []):=λz=>by rw[Hz]at z;injection z with z;cases z
   have hmw:oO ak ws ts=(W.find? (yM ws)).map Bp:=by
    unfold oO;rw[if_neg (by rw[hW,Hz];simp),hW]
   rw[<- Hz];rw[ae hne];refine aX ⟨_,rfl,T1,rfl,⟨_,aM.of hT2⟩,jN (K:=K) (a:=T1) (xs:=b1.map V.ref) (λn σ H'=>∃v4 v5 v6 v7 v8:Option V,σ=[some (.ref b),some (.ref k),some (.ref t),some (.ref T1),v4,v5,v6,v7,v8]/\aA H2 H'/\∀x∈W.take n,yM ws x=false)
    ⟨none,none,none,none,none,rfl,aA.refl _,λx hx=>by simp at hx⟩ (λn σ H' _ h=>by obtain⟨_,_,_,_,_,_,sm,_⟩:=h;exact aM.of (sm _ _ hT2)) ?_ ?_⟩
   ·rintro n x σ H' hx ⟨v4,v5,v6,v7,v8,rfl,sm,hfr⟩
    have hn:n < b1.length:=by have:=(af.mp hx).1;simpa using this
    have vO:n < W.length:=by lia
    rw[aS,ac hn]at hx;have hx:V.ref b1[n]=x:=ap hx;subst hx;have en:=(Pk.mv sm).at_ n _ _ (ac hn) (ac vO);have hm:=ai vO;have afV:=K8 _ hm;refine⟨b1[n],_,rfl,aM.of en,rfl,_,_,rfl,_,_,rfl,_,_,rfl,_,_,rfl,rfl,?_⟩;refine⟨_,rfl,rfl,W[n].2.2.2,rfl,rfl,by lia,hlt _ hm,?_⟩;have BK':=BK.mv (jJ.trans sm);obtain⟨dk,ek⟩:=BK'.ob;refine⟨_,rfl,k,dk,_,rfl,ek,rfl,_,rfl,k,d,ws,_,rfl,BK',_,rfl,?_⟩;cases hq0:yM ws W[n] with
    | true=>
     rw[show (!decide (W[n].2.2.2.map PyProof.Rows.lo1∈ws))=true from hq0];refine bI ⟨_,rfl,zsz 1,λa na=>⟨a,_,rfl,au,λdx ne nd=>⟨rfl,some dx,au,?_⟩⟩⟩;obtain⟨k1,k2⟩:=drop_new (q:=.ext (gq a (.ref CW) (some dx))) (p:=.ext (XD dx [("word",.str (S (Bp W[n])))])) na ne nd;refine qE _ ?_ dx _ ((jJ.trans sm).trans k1) k2;rw[hmw,Dr vO hfr hq0];rfl
    | false=>
     rw[show (!decide (W[n].2.2.2.map PyProof.Rows.lo1∈ws))=false from hq0];refine aX ⟨_,_,_,_,_,rfl,sm,λx hx=>?_⟩;rw[bo,ac vO]at hx;rcases a7.mp hx with z | z
     ·exact hfr x z
     ·rw[aw.mp z];exact hq0
   ·rintro σ H' ⟨v4,v5,v6,v7,v8,rfl,sm,hfr⟩
    rw[aa,pQ,bz]at hfr;exact q (by rw[hmw,Du hfr];rfl) H' (jJ.trans sm)
inductive Vd
 | ok | jK (i j:Nat) | mz | gap (i j:Nat) | mC | lQ (t:Nat) | nw (l:List Nat)
inductive pU (ak:AA) (r w bi bj:Nat) (ws:AA) (bY:List Nat) (ts:List bA):Vd->Prop
 | jK {u:bA} (h:ni ak ts=some u):pU ak r w bi bj ws bY ts (.jK u.1 u.2.1)
 | mz (h1:ni ak ts=none) (h:(jG ts||kO ts)=false):pU ak r w bi bj ws bY ts .mz
 | gap {i j:Nat} (h1:ni ak ts=none) (h2:(jG ts||kO ts)=true) (h:Dv (b_ ak ts) (gD ts).1 (fP ts).1 (gD ts).2.1 (fP ts).2.1 i j):pU ak r w bi bj ws bY ts (.gap i j)
 | mC (h1:ni ak ts=none) (h2:(jG ts||kO ts)=true) (h3:qW (b_ ak ts) (gD ts).1 (fP ts).1 (gD ts).2.1 (fP ts).2.1) (h:pR ak r w bi bj ts=false):pU ak r w bi bj ws bY ts .mC
 | lQ {t:Nat} (h1:ni ak ts=none) (h2:(jG ts||kO ts)=true) (h3:qW (b_ ak ts) (gD ts).1 (fP ts).1 (gD ts).2.1 (fP ts).2.1) (h4:pR ak r w bi bj ts=true) (h:sO (bY.map λc=>[c]) (ts.map (·.2.2))=.inl t):pU ak r w bi bj ws bY ts (.lQ t)
 | nw {l:List Nat} (h1:ni ak ts=none) (h2:(jG ts||kO ts)=true) (h3:qW (b_ ak ts) (gD ts).1 (fP ts).1 (gD ts).2.1 (fP ts).2.1) (h4:pR ak r w bi bj ts=true) (h5:∃left,sO (bY.map λc=>[c]) (ts.map (·.2.2))=.inr left) (h:oO ak ws ts=some l):pU ak r w bi bj ws bY ts (.nw l)
 | ok (h1:ni ak ts=none) (h2:(jG ts||kO ts)=true) (h3:qW (b_ ak ts) (gD ts).1 (fP ts).1 (gD ts).2.1 (fP ts).2.1) (h4:pR ak r w bi bj ts=true) (h5:∃left,sO (bY.map λc=>[c]) (ts.map (·.2.2))=.inr left) (h:oO ak ws ts=none):pU ak r w bi bj ws bY ts .ok
structure rJ where
 lay:Addr
 jK:Addr
 mz:Addr
 gap:Addr
 mC:Addr
 lQ:Addr
 nw:Addr
def Br (c:rJ)(H:Hp)(cls:Value)(dd:Option Addr):Vd->Prop
 | .ok=>False
 | .jK i j=>cls=.ref c.jK/\∃dx,dd=some dx/\H dx=some (.ext (XD dx (K4 i j)))
 | .mz=>cls=.ref c.mz/\dd=none
 | .gap i j=>cls=.ref c.gap/\∃dx,dd=some dx/\H dx=some (.ext (XD dx (K4 i j)))
 | .mC=>cls=.ref c.mC/\dd=none
 | .lQ t=>cls=.ref c.lQ/\∃dx,dd=some dx/\H dx=some (.ext (XD dx [("tile",.str (S [t]))]))
 | .nw l=>cls=.ref c.nw/\∃dx,dd=some dx/\H dx=some (.ext (XD dx [("word",.str (S l))]))
theorem S5 {cs:List (Nat × Nat)}(h:pD cs=true):∀n,(hn:n+1 < cs.length)->cs[n].1*1000+cs[n].2 < cs[n+1].1*1000+cs[n+1].2:=λn hn=>by
 unfold pD at h;rw[cz]at h;have:=h (cs[n],cs[n+1]) (by
  refine bc (i:=n) ?_;rw[ly];exact⟨ac (by lia),by rw[eI,Nat.add_comm 1 n];exact ac hn⟩)
 exact cq this
theorem Pn {cs:List (Nat × Nat)}(h:pD cs=true):∀k n,(hn:n+k+1 < cs.length)->cs[n].1*1000+cs[n].2 < cs[n+k+1].1*1000+cs[n+k+1].2
 | 0,n,hn=>S5 h n hn
 | k+1,n,hn=>Nat.lt_trans (Pn h k n (by lia)) (S5 h (n+k+1) hn)
theorem adC {ts:List bA}{r w:Nat}(w9:w<=9)(bT:∀t∈ts,inB r w t)(h0:0 < ts.length)(hr:pD (ts.map eY)=true)(hs:(jG ts||kO ts)=true):Dq ts:=by
 have hh:=kY h0;rw[mf]at hs;rcases hs with hs | hs
 ·refine .inl ?_
  unfold jG at hs;rw[cz]at hs;rw[dn];intro i j hi hj _;rw[cq (hs _ (ai hi)),cq (hs _ (ai hj))]
 ·refine .inr ?_
  unfold kO at hs;rw[cz]at hs;rw[dn];intro i j hi hj hij;have e1:=cq (hs _ (ai hi));have e2:=cq (hs _ (ai hj));have:=Pn hr (j-i-1) i (by rw[aa];lia);simp only[show i+(j-i-1)+1=j by lia,fh]at this;have this:ts[i].1*1000+ts[i].2.1 < ts[j].1*1000+ts[j].2.1:=this;lia
theorem Pq {c:Nat}(h:pP c):Yl c:=by
 unfold pP Ea D_ Hg at h;simp at h;exact h
def S6 (K : W.Frag)(C CB : Addr)(c : rJ) : Sp := λvs H Q E => ∃(b k d : Addr) (ws : List (List Nat)) (bY : List Nat) (x : V) (r w : Nat) (ak aW : List (List Nat)) (bi bj : Nat), vs = [.ref b, .ref k, .str (S bY), x] /\ fD C H b r w ak aW bi bj /\ pI CB H k d ws /\ bY.length <= 63 /\
  ((∃o, Yb K H x o /\ layB r w o = false /\ ∀H', aA H H' -> E (.ref c.lay) none H') \/
   (∃(t : Addr) (as : List Addr) (ts : List bA), x = .ref t /\ H t = some (.tup (as.map V.ref)) /\ cT H as ts /\ (∀t ∈ ts, inB r w t) /\ 0 < ts.length /\ ts.length <= 7 /\ pD (ts.map eY) = true /\
     (∀v cls dd H', pU ak r w bi bj ws bY ts v -> Br c H' cls dd v -> aA H H' -> E cls dd H') /\ (pU ak r w bi bj ws bY ts .ok -> ∀H', aA H H' -> Q .non H')))
theorem HB {C CB:Addr}{c:rJ}(D:aK K mg "check_laying" mQ ["board","book","rack","laying"])(wF:mg "NoLaying"=some (.ref c.lay))(Vc:W.excIn K c.lay iJ "ValueError.__new__"=true)
  (Rm:bO P w K mg base "is_laying" 4 ["board","thing"] (Yc K C)) (Pr:DefX P w K mg base "check_free" 5 ["board","laying"] (O4 C c.jK)) (Fl:DefX P w K mg base "check_straight" 3 ["laying"] (SJ c.mz)) (Pu:DefX P w K mg base "check_gaps" 10 ["board","laying"] (O6 C c.gap))
  (Jm:DefX P w K mg base "check_joined" 7 ["board","laying"] (O8 C c.mC)) (Ys:DefX P w K mg base "left_of" 3 ["rack","signs"] (Yn c.lQ)) (Mg:DefX P w K mg base "check_words" 12 ["board","book","laying"] (K7 C CB c.nw)):DefX P w K mg base "check_laying" 14 ["board","book","rack","laying"] (S6 K C CB c):=by
 refine D.yr GZ (λvs H Q E h=>?_) (λf bL A outer s H vs Q E hr h=>?_)
 ·obtain⟨b,k,d,ws,bY,x,r,w,ak,aW,bi,bj,rfl,_⟩:=h
  rfl
 ·obtain⟨b,k,d,ws,bY,x,r,w,ak,aW,bi,bj,rfl,BA,BK,h63,h⟩:=h
  refine⟨_,(aD (bW (eO (dj (aV Rm hr.mono rfl (aj (qv 0) (aj (qv 3) aq))))) (aF (Et oH rfl rfl (by rfl) wF Vc (aj (bZ [110,111,32,108,97,121,105,110,103,32,102,111,114,32,116,104,105,115,32,98,111,97,114,100] (by decide +kernel)) aq))) bC) (aD (dD (qm Pr hr.mono rfl tZ.all (aj (qv 0) (aj (qv 3) aq)))) (aD (dD (qm Fl hr.mono rfl tZ.all (aj (qv 3) aq))) (aD (dD (qm Pu hr.mono rfl tZ.all (aj (qv 0) (aj (qv 3) aq)))) (aD (dD (qm Jm hr.mono rfl tZ.all (aj (qv 0) (aj (qv 3) aq)))) (aD (dD (qm Ys hr.mono rfl tZ.all (aj (qv 2) (aj (fX bg dC dE xq (bZ [] (by decide +kernel)) (aj (fJ (ns:=["row","column","sign"]) rfl (fH.of ["board","book","rack","laying"] [] (by kernel_rfl)) (dW (qv 3)) (λ_ _ _ _ _=>(ql K rfl (show (["row","column","sign","board","book","rack","laying"]:List Str).Nodup by decide +kernel) rfl rfl rfl (by rfl) (by rfl) (by rfl))) (λ_ _ _ _ _=>cZ) (λ_ _ _ _ _=>(qv 2))) aq)) aq)))) (aF (dD (qm Mg hr.mono rfl tZ.all (aj (qv 0) (aj (qv 1) (aj (qv 3) aq)))))))))))),?_⟩;rcases h with⟨o,hD,hB,qE⟩ | ⟨t,as,ts,rfl,ht,hL,bT,h0,h7,Hj,qE,q⟩
  ·refine⟨_,rfl,_,rfl,b,x,o,r,w,ak,aW,bi,bj,rfl,BA,hD,λH1 s1=>⟨_,rfl,?_⟩⟩
   rw[hB];exact bI ⟨zsz 1,qE H1 s1⟩
  ·have hal:=hL.len
   have hB:layB r w (some (ts.map mkT))=true:=by
    unfold layB;simp only;rw[OD,aa,ah (show 1<=ts.length/\ts.length<=7 by lia),show pD (ts.map λt=>(t.1,t.2.1))=true from Hj,List.all_map];have:ts.all (qU r w ∘ mkT)=true:=cz.mpr λt ht=>aaJ (bT t ht);rw[this];rfl
   refine⟨_,rfl,_,rfl,b,.ref t,some (ts.map mkT),r,w,ak,aW,bi,bj,rfl,BA,.tup ht (Fe.of_lay hL) (by rw[aa];lia),λH1 s1=>⟨_,rfl,?_⟩⟩;rw[hB];refine aX ⟨True.intro,_,rfl,_,rfl,b,t,as,ts,r,w,ak,aW,bi,bj,rfl,BA.mv s1,s1 _ _ ht,hL.mv s1,bT,λu hu dx H' s' hd=>qE _ _ _ H' (.jK hu) ⟨rfl,dx,rfl,hd⟩ (s1.trans s'),λv1 H2 s2=>?_⟩;have jJ:=s1.trans s2;refine⟨True.intro,_,rfl,t,as,ts,rfl,jJ _ _ ht,hL.mv jJ,h0,h7,λe H' s'=>qE _ _ _ H' (.mz v1 e) ⟨rfl,rfl⟩ (jJ.trans s'),λv2 H3 s3=>?_⟩;have sJ:=jJ.trans s3;refine⟨True.intro,_,rfl,_,rfl,b,t,as,ts,r,w,ak,aW,bi,bj,rfl,BA.mv sJ,sJ _ _ ht,hL.mv sJ,bT,h0,λi j e dx H' s' hd=>qE _ _ _ H' (.gap v1 v2 e) ⟨rfl,dx,rfl,hd⟩ (sJ.trans s'),λv3 H4 s4=>?_⟩;have Bj:=sJ.trans s4;refine⟨True.intro,_,rfl,_,rfl,b,t,as,ts,r,w,ak,aW,bi,bj,rfl,BA.mv Bj,Bj _ _ ht,hL.mv Bj,h7,λe H' s'=>qE _ _ _ H' (.mC v1 v2 v3 e) ⟨rfl,rfl⟩ (Bj.trans s'),λv4 H5 s5=>?_⟩;have s05:=Bj.trans s5;have XC:=s05 _ _ ht;refine⟨True.intro,_,rfl,rfl,_,rfl,t,rfl,⟨_,aM.of XC⟩,λN hN=>j9 (K:=K) (KT:=K) (a:=t) (f:=eU [] 0) (tt:=iB) (xs:=as.map V.ref) (λn ys H6=>ys=Ts (ones ((ts.take n).map (·.2.2)))/\H6 N=some (.lst ys)/\aA H5 H6)
    ⟨rfl,au,aA.upd hN⟩ (λn ys H6 _ h=>aM.of (h.2.2 _ _ XC)) ?_ ?_⟩
   ·rintro n x ys H6 hx ⟨rfl,K6,rH⟩
    have hn:n < as.length:=by have:=(af.mp hx).1;simpa using this
    have hnt:n < ts.length:=by lia
    rw[aS,ac hn]at hx;have hx:V.ref as[n]=x:=ap hx;obtain⟨_,en⟩:=fV (hL.mv (s05.trans rH)) hnt;refine yq hx.symm (aM.of en) ?_;refine⟨_,rfl,K6,?_,dZ.mk (by rw[aa];exact hn) ⟨?_,au,rH.cD hN⟩⟩
    ·rw[aa,aa,aa,ay];exact aH (by lia)
    ·rw[take_snoc (ac hnt)]
     simp[Ts,ones]
   ·rintro ys H6 ⟨rfl,K6,rH⟩
    rw[aa,hal,bz]at K6;have s06:=s05.trans rH;refine⟨N,ones (ts.map (·.2.2)),rfl,rfl,aU.of K6,by rw[vC,aa];lia,?_⟩;rw[vC];refine⟨bY,ts.map (·.2.2),rfl,h63,by rw[aa];lia,λc hc=>?_,λtl e dx H' s' hd=>qE _ _ _ H' (.lQ v1 v2 v3 v4 e) ⟨rfl,dx,rfl,hd⟩ (s06.trans s'),λleft v5 ws' H7 s7 _ _=>?_⟩
    ·obtain⟨u,hu,rfl⟩:=bp.mp hc
     exact Pq (bT u hu).2.2
    have S7:=s06.trans s7;refine⟨True.intro,_,rfl,_,rfl,_,rfl,b,k,d,t,ws,as,ts,r,w,ak,aW,bi,bj,rfl,BA.mv S7,BK.mv S7,S7 _ _ ht,hL.mv S7,bT,h0,h7,adC BA.ok.w9 bT h0 Hj v2,λl e dx H' s' hd=>qE _ _ _ H' (.nw v1 v2 v3 v4 ⟨left,v5⟩ e) ⟨rfl,dx,rfl,hd⟩ (S7.trans s'),λv6 H8 s8=>?_⟩;exact q (.ok v1 v2 v3 v4 ⟨left,v5⟩ v6) H8 (S7.trans s8)
theorem jT.mv {H H':Hp}{dd:Option Addr}(h:jT H dd)(s:aA H H'):jT H' dd:=by
 cases dd with
 | none=>trivial
 | some d=>obtain⟨o,e⟩:=h;exact⟨o,s _ _ e⟩
structure vP (K:W.Frag)(cs os:List Addr)(C:Addr)(i:Nat):Prop where
 is:qL K C
 val:W.kitOne K (.ref C) (.type "ValueError")=some true
 ix:∀j D,cs[j]?=some D->W.kitOne K (.ref C) (.ref D)=some (decide (j=i))
 no:W.kitAny K (.ref C) (os.map Value.ref)=some false
 lt:i < 7
def bits (j:Nat):List Bool:=[decide (0=j),decide (1=j),decide (2=j),decide (3=j),decide (4=j),decide (5=j),decide (6=j)]
theorem Ve:∀j,j < 7->((bits j).filter id).length=1:=by decide
theorem adD:∀j,j < 7->(bits j)[j]?=some true/\∀m,m < j->(bits j)[m]?=some false:=by
 intro j hj;have h1:∀j,j < 7->(bits j)[j]?=some true:=by decide
 have h2:∀j,j < 7->∀m,m < 7->m < j->(bits j)[m]?=some false:=by decide
 exact⟨h1 j hj,λm hm=>h2 j hj m (by lia) hm⟩
def S8 (K:W.Frag)(cs os:List Addr):Sp:=λvs H Q _=>∃(a C:Addr) (dd:Option Addr) (j:Nat),vs=[.ref a]/\H a=some (.ext (rP a (.ref C) dd))/\jT H dd/\vP K cs os C j/\∀H',aA H H'->Q (.int j) H'
theorem aaR {bG bR bM cG cg bD bK cU cM cV dF cW d8 cX dG:Addr}(D:aK K mg "_law_class" Dk ["_law_error"])(bx:mg "len"=none)(bJ:mg "isinstance"=none)(mD:mg "ValueError"=none)(wF:mg "NoLaying"=some (.ref bG))(Fi:mg "Taken"=some (.ref bR))(yJ:mg "Crooked"=some (.ref bM))(O7:mg "Gap"=some (.ref cG))(Fj:mg "Apart"=some (.ref cg))(yK:mg "Lacking"=some (.ref bD))(vN:mg "NoWord"=some (.ref bK))(Yt:mg "NoBack"=some (.ref cU))(Vf:mg "NoBoard"=some (.ref cM))(Yu:mg "NoDeed"=some (.ref cV))(aaS:mg "NoRow"=some (.ref dF))(Yv:mg "NoText"=some (.ref cW))(adE:mg "Over"=some (.ref d8))(Yw:mg "TooFew"=some (.ref cX))(aaT:mg "Twice"=some (.ref dG)):bO P w K mg base "_law_class" 1 ["_law_error"] (S8 K [bG,bR,bM,cG,cg,bD,bK] [cU,cM,cV,dF,cW,d8,cX,dG]):=by
 refine D.dz yC (λvs H Q E h=>?_) (λf bL A outer s H vs Q E hr h=>?_)
 ·obtain⟨a,C,dd,j,rfl,_⟩:=h
  rfl
 ·obtain⟨a,C,dd,j,rfl,ha,hdk,cx,q⟩:=h
  have is:=cx.is;have hj:=cx.lt;have Vg:=cx.ix 0 bG rfl;have adF:=cx.ix 1 bR rfl;have Yx:=cx.ix 2 bM rfl;have ag0:=cx.ix 3 cG rfl;have adG:=cx.ix 4 cg rfl;have Yy:=cx.ix 5 bD rfl;have aaU:=cx.ix 6 bK rfl;refine⟨_,(aD (aQ (i:=1) yC.nd rfl (Or.inl rfl) (d7 (aj (aO gZ (by rfl) bJ bn (aj (qv 0) (aj (f9 (v:=.ref _) (by rfl) wF rfl) aq))) (aj (aO gZ (by rfl) bJ bn (aj (qv 0) (aj (f9 (v:=.ref _) (by rfl) Fi rfl) aq))) (aj (aO gZ (by rfl) bJ bn (aj (qv 0) (aj (f9 (v:=.ref _) (by rfl) yJ rfl) aq))) aq))))) (aD (aQ (i:=1) yC.nd rfl (Or.inl rfl) (bB Gv (qv 1) (d7 (aj (aO gZ (by rfl) bJ bn (aj (qv 0) (aj (f9 (v:=.ref _) (by rfl) O7 rfl) aq))) (aj (aO gZ (by rfl) bJ bn (aj (qv 0) (aj (f9 (v:=.ref _) (by rfl) Fj rfl) aq))) (aj (aO gZ (by rfl) bJ bn (aj (qv 0) (aj (f9 (v:=.ref _) (by rfl) yK rfl) aq))) aq)))))) (aD (aQ (i:=1) yC.nd rfl (Or.inl rfl) (bB Gv (qv 1) (d7 (aj (aO gZ (by rfl) bJ bn (aj (qv 0) (aj (f9 (v:=.ref _) (by rfl) vN rfl) aq))) aq)))) (aD (bW (dj (aO Lp (by rfl) bJ bn (aj (qv 0) (aj (cH (aj (f9 (v:=.ref _) (by rfl) Yt rfl) (aj (f9 (v:=.ref _) (by rfl) Vf rfl) (aj (f9 (v:=.ref _) (by rfl) Yu rfl) (aj (f9 (v:=.ref _) (by rfl) aaS rfl) (aj (f9 (v:=.ref _) (by rfl) Yv rfl) (aj (f9 (v:=.ref _) (by rfl) adE rfl) (aj (f9 (v:=.ref _) (by rfl) Yw rfl) (aj (f9 (v:=.ref _) (by rfl) aaT rfl) aq))))))))) aq)))) (aF (aY (yj ug aB))) bC) (aD (bW (QW.qt (j7 (eO (dj (aO gZ (by rfl) bJ bn (aj (qv 0) (aj (mJ (v:=.ty "ValueError") (by rfl) mD GJ rfl) aq))))) (jc (bw oV (aO bQ (by rfl) bx aI (aj (fJ (ns:=["_law_one"]) rfl (fH.of ["_law_error","_law_some"] [] (by kernel_rfl)) (gF (qv 1)) (λ_ _ _ _ _=>(oG (show (["_law_one","_law_error","_law_some"]:List Str).Nodup by decide +kernel) rfl (by rfl))) (λ_ _ _ _ _=>(xr (dj (qv 0)))) (λ_ _ _ _ _=>(qv 0))) aq)) aB (aZ _))))) (aF (aY (yj ug aB))) bC) (aF (aY (fX bX PySem.F.slot_list_index PySem.F.type_list_index Xj (qv 1) (aj iI aq))))))))),?_⟩;refine⟨_,rfl,a,C,.ref bG,.ref bG,dd,_,rfl,.inl ⟨bG,rfl,rfl⟩,ha,hdk,is,Vg,_,rfl,a,C,.ref bR,.ref bR,dd,_,rfl,.inl ⟨bR,rfl,rfl⟩,ha,hdk,is,adF,_,rfl,a,C,.ref bM,.ref bM,dd,_,rfl,.inl ⟨bM,rfl,rfl⟩,ha,hdk,is,Yx,zsz 3,λM0 hM0=>?_⟩;have t0:aA H (upd H M0 (HO.lst [V.bl (decide (0=j)),V.bl (decide (1=j)),V.bl (decide (2=j))])):=aA.upd hM0;have f0:upd H M0 (HO.lst [V.bl (decide (0=j)),V.bl (decide (1=j)),V.bl (decide (2=j))]) M0=some (.lst [V.bl (decide (0=j)),V.bl (decide (1=j)),V.bl (decide (2=j))]):=au;have s0:=t0;generalize upd H M0 (HO.lst [V.bl (decide (0=j)),V.bl (decide (1=j)),V.bl (decide (2=j))])=G0 at t0 f0 s0 ⊢;refine⟨_,rfl,_,rfl,a,C,.ref cG,.ref cG,dd,_,rfl,.inl ⟨cG,rfl,rfl⟩,(s0 _ _ ha),(jT.mv hdk s0),is,ag0,_,rfl,a,C,.ref cg,.ref cg,dd,_,rfl,.inl ⟨cg,rfl,rfl⟩,(s0 _ _ ha),(jT.mv hdk s0),is,adG,_,rfl,a,C,.ref bD,.ref bD,dd,_,rfl,.inl ⟨bD,rfl,rfl⟩,(s0 _ _ ha),(jT.mv hdk s0),is,Yy,zsz 3,λM1 hM1=>?_⟩;have t1:aA G0 (upd G0 M1 (HO.lst [V.bl (decide (3=j)),V.bl (decide (4=j)),V.bl (decide (5=j))])):=aA.upd hM1;have f1:upd G0 M1 (HO.lst [V.bl (decide (3=j)),V.bl (decide (4=j)),V.bl (decide (5=j))]) M1=some (.lst [V.bl (decide (3=j)),V.bl (decide (4=j)),V.bl (decide (5=j))]):=au;have u1:=t1 _ _ f0;have s1a:=s0.trans t1;generalize upd G0 M1 (HO.lst [V.bl (decide (3=j)),V.bl (decide (4=j)),V.bl (decide (5=j))])=G1 at t1 f1 u1 s1a ⊢;refine⟨M0,M1,_,_,rfl,rfl,u1,f1,by show 3+3<=sizeLine;decide,λL1 hL1=>?_⟩;have v1:aA G1 (upd G1 L1 (HO.lst ([V.bl (decide (0=j)),V.bl (decide (1=j)),V.bl (decide (2=j))]++[V.bl (decide (3=j)),V.bl (decide (4=j)),V.bl (decide (5=j))]))):=aA.upd hL1;have e1:upd G1 L1 (HO.lst ([V.bl (decide (0=j)),V.bl (decide (1=j)),V.bl (decide (2=j))]++[V.bl (decide (3=j)),V.bl (decide (4=j)),V.bl (decide (5=j))])) L1=some (.lst ([V.bl (decide (0=j)),V.bl (decide (1=j)),V.bl (decide (2=j))]++[V.bl (decide (3=j)),V.bl (decide (4=j)),V.bl (decide (5=j))])):=au;have s1:=s1a.trans v1;generalize upd G1 L1 (HO.lst ([V.bl (decide (0=j)),V.bl (decide (1=j)),V.bl (decide (2=j))]++[V.bl (decide (3=j)),V.bl (decide (4=j)),V.bl (decide (5=j))]))=K1 at v1 e1 s1 ⊢;refine⟨_,rfl,_,rfl,a,C,.ref bK,.ref bK,dd,_,rfl,.inl ⟨bK,rfl,rfl⟩,(s1 _ _ ha),(jT.mv hdk s1),is,aaU,zsz 1,λM2 oM=>?_⟩;have t2:aA K1 (upd K1 M2 (HO.lst [V.bl (decide (6=j))])):=aA.upd oM;have f2:upd K1 M2 (HO.lst [V.bl (decide (6=j))]) M2=some (.lst [V.bl (decide (6=j))]):=au;have u2:=t2 _ _ e1;have s2a:=s1.trans t2;generalize upd K1 M2 (HO.lst [V.bl (decide (6=j))])=G2 at t2 f2 u2 s2a ⊢;refine⟨L1,M2,_,_,rfl,rfl,u2,f2,by show 6+1<=sizeLine;decide,λL2 hL2=>?_⟩;have v2:aA G2 (upd G2 L2 (HO.lst (([V.bl (decide (0=j)),V.bl (decide (1=j)),V.bl (decide (2=j))]++[V.bl (decide (3=j)),V.bl (decide (4=j)),V.bl (decide (5=j))])++[V.bl (decide (6=j))]))):=aA.upd hL2;have e2:upd G2 L2 (HO.lst (([V.bl (decide (0=j)),V.bl (decide (1=j)),V.bl (decide (2=j))]++[V.bl (decide (3=j)),V.bl (decide (4=j)),V.bl (decide (5=j))])++[V.bl (decide (6=j))])) L2=some (.lst (([V.bl (decide (0=j)),V.bl (decide (1=j)),V.bl (decide (2=j))]++[V.bl (decide (3=j)),V.bl (decide (4=j)),V.bl (decide (5=j))])++[V.bl (decide (6=j))])):=au;have s2:=s2a.trans v2;generalize upd G2 L2 (HO.lst (([V.bl (decide (0=j)),V.bl (decide (1=j)),V.bl (decide (2=j))]++[V.bl (decide (3=j)),V.bl (decide (4=j)),V.bl (decide (5=j))])++[V.bl (decide (6=j))]))=K2 at v2 e2 s2 ⊢;have eb:K2 L2=some (.lst ((bits j).map V.bl)):=e2;refine⟨_,rfl,zsz 8,λTP hTP=>?_⟩;have v3:aA K2 (upd K2 TP (HO.tup [V.ref cU,V.ref cM,V.ref cV,V.ref dF,V.ref cW,V.ref d8,V.ref cX,V.ref dG])):=aA.upd hTP;have e3:upd K2 TP (HO.tup [V.ref cU,V.ref cM,V.ref cV,V.ref dF,V.ref cW,V.ref d8,V.ref cX,V.ref dG]) TP=some (.tup ([cU,cM,cV,dF,cW,d8,cX,dG].map V.ref)):=au;have s3:=s2.trans v3;have eb3:=v3 _ _ eb;generalize upd K2 TP (HO.tup [V.ref cU,V.ref cM,V.ref cV,V.ref dF,V.ref cW,V.ref d8,V.ref cX,V.ref dG])=K3 at v3 e3 s3 eb3 ⊢;refine⟨a,C,TP,_,dd,false,rfl,s3 _ _ ha,jT.mv hdk s3,is,e3,cx.no,_,rfl,aX ?_⟩;refine⟨_,rfl,a,C,.ty "ValueError",.type "ValueError",dd,true,rfl,.inr ⟨_,rfl,rfl⟩,s3 _ _ ha,jT.mv hdk s3,is,cx.val,_,rfl,aX ?_⟩;refine⟨_,rfl,L2,rfl,⟨_,aU.of eb3⟩,λN hN=>wu (K:=K) (a:=L2) (f:=eU [] 0) (tt:=tB (gY 0)) (te:=gY 0) (xs:=(bits j).map V.bl) (λn ys H5=>ys=(((bits j).take n).filter id).map V.bl/\H5 N=some (.lst ys)/\aA K3 H5)
   ⟨rfl,au,aA.upd hN⟩ (λn ys H5 _ h=>aU.of (h.2.2 _ _ eb3)) ?_ ?_⟩
  ·rintro n x ys H5 hx ⟨rfl,pC,iR⟩
   have hn:n < ((bits j).map V.bl).length:=(af.mp hx).1;rw[aS]at hx;obtain⟨b,hb,rfl⟩:=dq.mp hx;have hn7:n < 7:=hn;refine⟨_,rfl,_,rfl,?_⟩;have et:(((bits j).take (n+1)).filter id).map V.bl=(((bits j).take n).filter id).map V.bl++([b].filter id).map V.bl:=by rw[bo,hb,dS,bS];rfl
   cases b with
   | true=>
    refine bI ⟨_,rfl,pC,?_,dZ.mk hn ⟨et.symm,au,iR.cD hN⟩⟩;rw[aa];exact aH (b9 (ft _ _) (by rw[ay];lia))
   | false=>
    refine aX (dZ.mk hn ⟨?_,pC,iR⟩);rw[et];simp
  ·rintro ys H5 ⟨rfl,pC,iR⟩
   rw[aa,bz]at pC;refine⟨N,_,rfl,.inl (aU.of pC),rfl,_,rfl,?_⟩;rw[aa];obtain⟨b1,b2⟩:=adD j hj;refine oY (by rw[Ve j hj];rfl) ?_;have eb5:=iR _ _ eb3;exact⟨_,rfl,.inl ⟨rfl,_,aU.of eb5⟩,L2,bits j,j,rfl,rfl,eb5,b1,b2,by show 7<=1000;decide,q _ (s3.trans iR)⟩
theorem Br.KH {c:rJ}{H H':Hp}{cls:Value}{dd:Option Addr}{v:Vd}(h:Br c H cls dd v)(s:aA H H'):Br c H' cls dd v:=by
 cases v with
 | ok=>exact h
 | jK i j=>exact⟨h.1,let ⟨dx,e,k⟩:=h.2;⟨dx,e,s _ _ k⟩⟩
 | mz=>exact h
 | gap i j=>exact⟨h.1,let ⟨dx,e,k⟩:=h.2;⟨dx,e,s _ _ k⟩⟩
 | mC=>exact h
 | lQ t=>exact⟨h.1,let ⟨dx,e,k⟩:=h.2;⟨dx,e,s _ _ k⟩⟩
 | nw l=>exact⟨h.1,let ⟨dx,e,k⟩:=h.2;⟨dx,e,s _ _ k⟩⟩
structure VdM (K:W.Frag)(c:rJ)(CR:Addr):Prop where
 lay:W.exmOne K (.ref c.lay) (.ref CR)=some true
 jK:W.exmOne K (.ref c.jK) (.ref CR)=some true
 mz:W.exmOne K (.ref c.mz) (.ref CR)=some true
 gap:W.exmOne K (.ref c.gap) (.ref CR)=some true
 mC:W.exmOne K (.ref c.mC) (.ref CR)=some true
 lQ:W.exmOne K (.ref c.lQ) (.ref CR)=some true
 nw:W.exmOne K (.ref c.nw) (.ref CR)=some true
theorem Br.match_ {c:rJ}{CR:Addr}(M:VdM K c CR){H:Hp}{cls:Value}{dd:Option Addr}{v:Vd}(h:Br c H cls dd v):W.exmOne K cls (.ref CR)=some true:=by
 cases v with
 | ok=>exact h.elim
 | jK i j=>rw[h.1];exact M.jK
 | mz=>rw[h.1];exact M.mz
 | gap i j=>rw[h.1];exact M.gap
 | mC=>rw[h.1];exact M.mC
 | lQ t=>rw[h.1];exact M.lQ
 | nw l=>rw[h.1];exact M.nw
def Px (K : W.Frag)(C CB : Addr)(c : rJ) : Sp := λvs H Q _ => ∃(b k d : Addr) (ws : List (List Nat)) (bY : List Nat) (x : V) (r w : Nat) (ak aW : List (List Nat)) (bi bj : Nat), vs = [.ref b, .ref k, .str (S bY), x] /\ fD C H b r w ak aW bi bj /\ pI CB H k d ws /\ bY.length <= 63 /\
  ((∃o, Yb K H x o /\ layB r w o = false /\ ∀(a : Addr) (H' : Hp), aA H H' -> H' a = some (.ext (rP a (.ref c.lay) none)) -> Q (.ref a) H') \/
   (∃(t : Addr) (as : List Addr) (ts : List bA), x = .ref t /\ H t = some (.tup (as.map V.ref)) /\ cT H as ts /\ (∀t ∈ ts, inB r w t) /\ 0 < ts.length /\ ts.length <= 7 /\ pD (ts.map eY) = true /\
     (∀v cls dd a H', pU ak r w bi bj ws bY ts v -> Br c H' cls dd v -> aA H H' -> H' a = some (.ext (rP a cls dd)) -> Q (.ref a) H') /\ (pU ak r w bi bj ws bY ts .ok -> ∀H', aA H H' -> Q .non H')))
theorem Yz {C CB CR:Addr}{c:rJ}(D:aK K mg "_law_caught" yD ["_law_board","_law_book","_law_rack_here","_law_laying"])(gC:mg "RackError"=some (.ref CR))(M:VdM K c CR)(Jo:DefX P w K mg base "check_laying" 14 ["board","book","rack","laying"] (S6 K C CB c)) :
  bO P w K mg base "_law_caught" 16 ["_law_board","_law_book","_law_rack_here","_law_laying"] (Px K C CB c):=by
 refine D.dz rF (λvs H Q E h=>?_) (λf bL A outer s H vs Q E hr h=>?_)
 ·obtain⟨b,k,d,ws,bY,x,r,w,ak,aW,bi,bj,rfl,_⟩:=h
  rfl
 ·obtain⟨b,k,d,ws,bY,x,r,w,ak,aW,bi,bj,rfl,BA,BK,h63,h⟩:=h
  refine⟨_,(aD (aQ (i:=4) rF.nd rfl (Or.inl rfl) ur) (aD (afx rfl rfl (by rfl) gC rF.nd (i:=5) rfl (by rfl) (λpn xe E0 σ0 hp hx=>(aF (aQ (i:=4) rF.nd rfl (Or.inl rfl) (qm Jo hr.mono rfl hx (aj (qv 0) (aj (qv 1) (aj (qv 2) (aj (qv 3) aq)))))))) (λ_=>(aF (aQ (i:=4) rF.nd rfl (Or.inl rfl) (qv 5))))) (aF (aY (qv 4))))),?_⟩;rcases h with⟨o,hD,hB,q⟩ | ⟨t,as,ts,rfl,ht,hL,bT,h0,h7,Hj,qE,q⟩
  ·refine⟨λcls dd H'=>cls=.ref c.lay/\dd=none/\aA H H',?_,?_⟩
   ·exact⟨rfl,_,rfl,_,rfl,_,rfl,_,rfl,b,k,d,ws,bY,x,r,w,ak,aW,bi,bj,rfl,BA,BK,h63,.inl ⟨o,hD,hB,λH' s'=>⟨rfl,rfl,s'⟩⟩⟩
   ·rintro a cls dd H' ⟨rfl,rfl,s3⟩ na
    exact⟨M.lay,_,rfl,_,rfl,q a _ (s3.trans (aA.upd na)) au⟩
  ·refine⟨λcls dd H'=>∃v,pU ak r w bi bj ws bY ts v/\Br c H' cls dd v/\aA H H',?_,?_⟩
   ·refine⟨rfl,_,rfl,_,rfl,_,rfl,_,rfl,b,k,d,ws,bY,.ref t,r,w,ak,aW,bi,bj,rfl,BA,BK,h63,.inr ⟨t,as,ts,rfl,ht,hL,bT,h0,h7,Hj,λv cls dd H' h1 h2 h3=>⟨v,h1,h2,h3⟩,λh1 H' s'=>?_⟩⟩
    exact⟨_,rfl,q h1 H' s'⟩
   ·rintro a cls dd H' ⟨v,h1,h2,s3⟩ na
    exact⟨h2.match_ M,_,rfl,_,rfl,qE v cls dd a _ h1 (h2.KH (aA.upd na)) (s3.trans (aA.upd na)) au⟩
def ud (i j:Int):List (Int × Int):=[(i-1,j),(i,j-1),(i,j+1),(i+1,j)]
theorem adH (ak:AA)(r w:Nat)(i j:Int):(ud i j).any (vL ak r w)=iK ak r w i j:=by
 unfold iK ud around;simp only[hJ,List.any_nil,Bool.or_false];cases vL ak r w (i-1,j) <;> cases vL ak r w (i,j-1) <;> cases vL ak r w (i,j+1) <;> cases vL ak r w (i+1,j) <;> rfl
def Jp:Sp:=λvs H Q _=>∃(p:Addr) (ak:AA) (r w:Nat) (i j:Int),vs=[.ref p,.int i,.int j]/\H p=some (.tup (Ts ak))/\Blk r w ak/\1<=r/\r<=9/\w<=9/\∀(H':Hp),aA H H'->Q (.bl (iK ak r w i j)) H'
theorem Dy {ak:AA}{r w:Nat}{u v:Int}(h:¬(0<=u/\u < (r:Int)/\0<=v/\v < (w:Int))):vL ak r w (u,v)=false:=by
 unfold vL atC;simp only;rw[if_neg h];rfl
theorem Rn (D:aK K mg "_law_is_near" vq ["_law_rows_here","_law_row","_law_column"])(bx:mg "len"=none):bO P w K mg base "_law_is_near" 1 ["_law_rows_here","_law_row","_law_column"] Jp:=by
 refine D.dz G9 (λvs H Q E h=>?_) (λf bL A outer s H vs Q E hr h=>?_)
 ·obtain⟨p,ak,r,w,i,j,rfl,_⟩:=h
  rfl
 ·obtain⟨pr,ak,r,w,i,j,rfl,hp0,hb,r1,r9,w9,q⟩:=h
  refine⟨_,(aD (dh bu rfl (gF (d7 (aj (cH (aj (bB iD (qv 1) aB) (aj (qv 2) aq))) (aj (cH (aj (qv 1) (aj (bB iD (qv 2) aB) aq))) (aj (cH (aj (qv 1) (aj (bB dN (qv 2) aB) aq))) (aj (cH (aj (bB dN (qv 1) aB) (aj (qv 2) aq))) aq)))))) (bH (i:=3) G9.nd rfl (Or.inl rfl)) (aF (bW (QW.qt (jq (ux lJ jo aB (aP bf (qv 3) aB (λ_ _=>rfl)) (aO bQ (by rfl) bx aI (aj (qv 0) aq))) (jq (ux lJ jo aB (aP bf (qv 3) aB (λ_ _=>rfl)) (aO cJ (by rfl) bx aI (aj (aP bf (qv 0) aB (λ_ _=>rfl)) aq))) (lD (bw lU (aP m5 (aP bf (qv 0) (aP bf (qv 3) aB (λ_ _=>rfl)) (λ_ _=>rfl)) (aP bf (qv 3) aB (λ_ _=>rfl)) (λ_ _=>rfl)) (bZ [46] (by decide +kernel)) (aZ _)))))) (aF (aY iI)) bC))) (aF (aY iI))),?_⟩;refine⟨_,rfl,_,_,rfl,rfl,_,rfl,zsz 2,λt1 h1=>⟨_,rfl,_,rfl,_,_,rfl,rfl,zsz 2,λt2 h2=>⟨_,rfl,_,rfl,_,_,rfl,rfl,zsz 2,λt3 h3=>⟨_,rfl,_,_,rfl,rfl,_,rfl,zsz 2,λt4 h4=>⟨zsz 4,λT hT=>?_⟩⟩⟩⟩⟩;have s1:aA H (upd H t1 (HO.tup [.int (i-1),.int j])):=aA.upd h1;have s2:=s1.cD (o:=HO.tup [.int i,.int (j-1)]) (s1.free h2);have s3:=s2.cD (o:=HO.tup [.int i,.int (j+1)]) (s2.free h3);have s4:=s3.cD (o:=HO.tup [.int (i+1),.int j]) (s3.free h4);have s5:=s4.cD (o:=HO.lst [.ref t1,.ref t2,.ref t3,.ref t4]) (s4.free hT);have k5:aA _ _:=aA.upd (o:=HO.lst [.ref t1,.ref t2,.ref t3,.ref t4]) hT;have k4:aA _ _:=aA.upd (o:=HO.tup [.int (i+1),.int j]) h4;have k3:aA _ _:=aA.upd (o:=HO.tup [.int i,.int (j+1)]) h3;have k2:aA _ _:=aA.upd (o:=HO.tup [.int i,.int (j-1)]) h2;have e1:=k5 _ _ (k4 _ _ (k3 _ _ (k2 _ _ (au (H:=H) (a:=t1) (o:=HO.tup [.int (i-1),.int j])))));have e2:=k5 _ _ (k4 _ _ (k3 _ _ (au (a:=t2) (o:=HO.tup [.int i,.int (j-1)]))));have e3:=k5 _ _ (k4 _ _ (au (a:=t3) (o:=HO.tup [.int i,.int (j+1)])));have e4:=k5 _ _ (au (a:=t4) (o:=HO.tup [.int (i+1),.int j]));have e5:upd (upd (upd (upd (upd H t1 (HO.tup [.int (i-1),.int j])) t2 (HO.tup [.int i,.int (j-1)])) t3 (HO.tup [.int i,.int (j+1)])) t4 (HO.tup [.int (i+1),.int j])) T (HO.lst [.ref t1,.ref t2,.ref t3,.ref t4]) T=some (.lst ([t1,t2,t3,t4].map V.ref)):=au;generalize upd (upd (upd (upd (upd H t1 (HO.tup [.int (i-1),.int j])) t2 (HO.tup [.int i,.int (j-1)])) t3 (HO.tup [.int i,.int (j+1)])) t4 (HO.tup [.int (i+1),.int j])) T (HO.lst [.ref t1,.ref t2,.ref t3,.ref t4])=H5 at s5 e1 e2 e3 e4 e5 ⊢;have il5:IL2 H5 [t1,t2,t3,t4] (ud i j):=((dJ.one (x:=(i-1,j)) e1).app (dJ.one (x:=(i,j-1)) e2)).app ((dJ.one (x:=(i,j+1)) e3).app (dJ.one (x:=(i+1,j)) e4));have hp:=aM.of (K:=K) (s5 _ _ hp0);have jx:(Ts ak).length=r:=by rw[aa,hb.len]
  have h0:0 < ak.length:=by rw[hb.len];lia
  have hw0:ak[0].length=w:=hb.iQ _ (ai _);rw[<- adH]at q;refine⟨T,rfl,⟨_,aU.of e5⟩,nZ (K:=K) (a:=T) (xs:=[t1,t2,t3,t4].map V.ref) (λn σ H6=>H6=H5/\∃v3:Option V,σ=[some (.ref pr),some (.int i),some (.int j),v3]/\∀p∈(ud i j).take n,vL ak r w p=false)
   ⟨rfl,none,rfl,λp hp=>by simp at hp⟩ (λn σ H6 _ h=>by rw[h.1];exact aU.of e5) ?_ ?_⟩
  ·rintro n x σ H6 hx ⟨rfl,v3,rfl,hfr⟩
   have hn:n < [t1,t2,t3,t4].length:=by have:=(af.mp hx).1;simpa using this
   rw[aS,ac hn]at hx;have hx:V.ref [t1,t2,t3,t4][n]=x:=ap hx;subst hx;obtain⟨⟨u,v⟩,eu,ht⟩:=il5.get hn;generalize [t1,t2,t3,t4][n]=t at ht ⊢;have hS:=aM.of (K:=K) ht;have nx:vL ak r w (u,v)=false->H6=H6/\∃v3:Option V,([some (.ref pr),some (.int i),some (.int j),some (.ref t)]:St)=[some (.ref pr),some (.int i),some (.int j),v3]/\∀p∈(ud i j).take (n+1),vL ak r w p=false:=λz=>⟨rfl,_,rfl,λp hp=>by
    rw[bo,eu]at hp;rcases a7.mp hp with y | y
    ·exact hfr p y
    ·rw[aw.mp y];exact z⟩
   refine⟨_,rfl,t,_,_,_,rfl,rfl,hS,aG (j:=0) rfl,_,_,rfl,rfl,_,rfl,?_⟩;by_cases c1:0<=u
   ·rw[ah c1]
    refine bI ⟨_,rfl,pr,_,rfl,.inr hp,_,_,rfl,rfl,_,rfl,?_⟩;rw[jx];by_cases c2:u < (r:Int)
    ·rw[ah c2]
     refine bI ⟨_,rfl,t,_,_,_,rfl,rfl,hS,aG (j:=1) rfl,_,_,rfl,rfl,_,rfl,?_⟩;by_cases c3:0<=v
     ·rw[ah c3]
      refine bI ⟨_,rfl,pr,_,_,.str (S ak[0]),rfl,rfl,hp,aG (j:=0) (fY (by simp[h0])),_,rfl,aE (aH (by lia)),_,_,rfl,rfl,_,rfl,?_⟩;rw[hw0];by_cases c4:v < (w:Int)
      ·rw[ah c4]
       obtain⟨u,rfl⟩:∃k:Nat,u=k:=⟨u.toNat,by lia⟩
       obtain⟨v,rfl⟩:∃k:Nat,v=k:=⟨v.toNat,by lia⟩
       have hi:u < ak.length:=by rw[hb.len];lia
       have hgi:ak[u]?=some (ak.getD u []):=by rw[ax,ac hi];rfl
       have hw:(ak.getD u []).length=w:=hb.iQ _ (bc hgi);have hgj:(ak.getD u [])[v]?=some ((ak.getD u []).getD v 0):=by rw[ax (l:=ak.getD u []),ac (by lia)];rfl
       have hat:atC ak r w (u:Int) (v:Int)=(ak.getD u []).getD v 0:=Fg (by lia) (by lia);refine bI ⟨_,rfl,_,rfl,t,_,_,_,rfl,rfl,hS,aG (j:=0) rfl,pr,_,_,_,rfl,rfl,hp,aG (fY hgi),_,rfl,t,_,_,_,rfl,rfl,hS,aG (j:=1) rfl,_,_,_,rfl,rfl,aE (aH (by lia)),aG hgj,_,_,rfl,rfl,_,rfl,?_⟩;rw[<- hat];cases ht0:vL ak r w ((u:Int),(v:Int)) with
       | true=>
        rw[show (!decide ([atC ak r w (u:Int) (v:Int)]=[46]))=true from ht0];have hq:=q H6 s5;rw[kd.mpr ⟨_,bc eu,ht0⟩]at hq;exact bI hq
       | false=>
        rw[show (!decide ([atC ak r w (u:Int) (v:Int)]=[46]))=false from ht0];exact aX (nx ht0)
      ·rw[ae c4]
       exact aX (aX (nx (Dy λz=>c4 z.2.2.2)))
     ·rw[ae c3]
      exact aX ⟨_,rfl,aX (aX (nx (Dy λz=>c3 z.2.2.1)))⟩
    ·rw[ae c2]
     exact aX (aX (nx (Dy λz=>c2 z.2.1)))
   ·rw[ae c1]
    exact aX ⟨_,rfl,aX (aX (nx (Dy λz=>c1 z.1)))⟩
  ·rintro σ H6 ⟨rfl,v3,rfl,hfr⟩
   have hq:=q H6 s5;have:(ud i j).any (vL ak r w)=false:=by
    rw[lh];intro p hp;rw[hfr p (by rw[be (by show 4<=4;decide)];exact hp)];decide
   rw[this]at hq;exact hq
theorem aaV {r w:Nat}{R:AA}(hb:Blk r w R){a b z i j:Nat}(ha:a < r)(hbw:b < w)(hi:i < r)(hj:j < w):cell (setAt R a b z) i j=if i=a/\j=b then z else cell R i j:=by
 have la:a < R.length:=by rw[hb.len];exact ha
 have li:i < R.length:=by rw[hb.len];exact hi
 have ga:R.getD a []=R[a]:=by rw[ax,ac la];rfl
 have gi:R.getD i []=R[i]:=by rw[ax,ac li];rfl
 have wa:R[a].length=w:=hb.iQ _ (ai _);unfold cell setAt;rw[ax (l:=R.set a _)];by_cases e:i=a
 ·subst e
  rw[e8 li,ga];show (R[i].set b z).getD j 0=_;rw[ax];by_cases e2:j=b
  ·subst e2
   rw[e8 (by lia),if_pos ⟨rfl,rfl⟩];rfl
  ·rw[eJ (λz=>e2 z.symm),if_neg (λz=>e2 z.2),ax]
 ·rw[eJ (λz=>e z.symm),if_neg (λz=>e z.1),<- ax]
theorem K9 {r w i j:Nat}(hi:i < r)(hj:j < w):∀{ts:List bA} {R:AA},Blk r w R->(∀t∈ts,inB r w t)->((i,j)∉ts.map eY->cell (b_ R ts) i j=cell R i j)/\((i,j)∈ts.map eY->pP (cell (b_ R ts) i j))
 | [],R,_,_=>⟨λ_=>rfl,λh=>by simp at h⟩
 | t::ts,R,hb,bT=>by
  obtain⟨t1,t2,t3⟩:=bT t bE;have hb2:=Jd hb t1 (j:=t.2.1) (z:=t.2.2);obtain⟨k1,k2⟩:=K9 hi hj (ts:=ts) hb2 λu hu=>bT u (bb _ hu);have e:b_ R (t::ts)=b_ (setAt R t.1 t.2.1 t.2.2) ts:=rfl;rw[e];have hc:=aaV hb t1 t2 hi hj (z:=t.2.2);constructor
  ·intro h
   rw[bv,bq,not_or]at h;rw[k1 h.2,hc,if_neg];intro z;exact h.1 (by show (i,j)=(t.1,t.2.1);rw[z.1,z.2])
  ·intro h
   by_cases hm:(i,j)∈ts.map eY
   ·exact k2 hm
   ·rw[k1 hm,hc]
    rw[bv,bq]at h;rcases h with z | z
    ·have z:(i,j)=(t.1,t.2.1):=z
     injection z with z1 z2;rw[if_pos ⟨z1,z2⟩];exact t3
    ·exact absurd z hm
theorem YB {r w i j:Nat}(hi:i < r)(hj:j < w){ts:List bA}{R:AA}(hb:Blk r w R)(bT:∀t∈ts,inB r w t):cell (b_ R ts) i j=46↔cell R i j=46/\(i,j)∉ts.map eY:=by
 obtain⟨k1,k2⟩:=K9 hi hj hb bT;constructor
 ·intro h
  by_cases hm:(i,j)∈ts.map eY
  ·have:=k2 hm
   rw[h]at this;cases this
  ·exact⟨(k1 hm).symm.trans h,hm⟩
 ·intro h
  rw[k1 h.2];exact h.1
def Py (ak:AA)(r w bi bj:Nat)(cc:List (Nat × Nat)):Bool:=if isFree ak=true then decide ((bi,bj)∈cc) else cc.any λc=>iK ak r w c.1 c.2
theorem afW (ak:AA)(r w bi bj:Nat)(ts:List bA):Py ak r w bi bj (ts.map eY)=pR ak r w bi bj ts:=by
 unfold Py pR;rw[List.any_map];rfl
def lq (l:List Nat):Bool:=!decide (l=(List.replicate l.length [46]).flatten)
theorem aaW (n:Nat):(List.replicate n [46]).flatten=List.replicate n 46:=by
 induction n with
 | zero=>rfl
 | succ n ih=>rw[gS,ik,ih,gS];rfl
theorem Pz {l:List Nat}:lq l=false↔∀c∈l,c=46:=by
 unfold lq;rw[aaW];constructor
 ·intro h
  have:l=List.replicate l.length 46:=by simpa using h
  exact(kl.mp this).2
 ·intro h
  have:l=List.replicate l.length 46:=kl.mpr ⟨rfl,h⟩;rw[ah this];rfl
theorem PB {ak:AA}:isFree ak=true↔ak.filter lq=[]:=by
 unfold isFree;rw[cz,jI];constructor
 ·intro h l hl
  have:lq l=false:=Pz.mpr λc hc=>by
   have:=cq (h c (ke.mpr ⟨l,hl,hc⟩));injection this
  rw[this];decide
 ·intro h c hc
  obtain⟨l,hl,hcl⟩:=ke.mp hc;have:lq l=false:=by
   cases e:lq l with
   | false=>rfl
   | true=>exact absurd e (h l hl)
  rw[Pz.mp this c hcl];rfl
theorem dw.tQ {H:Hp}:∀{ls:AA},(∀l∈ls,∀c∈l,c < 128)->dw K H 1 (ls.map Dt.str) (Ts ls)
 | [],_=>.nil
 | l::ls,h=>.cons (.str l (h l bE)) (dw.tQ λl' hl'=>h l' (bb _ hl'))
def PJ:Sp:=λvs H Q _=>∃(pr pb Lc:Addr) (ak:AA) (r w bi bj:Nat) (cs:List Addr) (cc:List (Nat × Nat)),vs=[.ref pr,.ref pb,.ref Lc]/\H pr=some (.tup (Ts ak))/\Blk r w ak/\1<=r/\r<=9/\1<=w/\w<=9/\(∀l∈ak,∀c∈l,rG c)/\H pb=some (.tup [.int bi,.int bj])/\H Lc=some (.lst (cs.map V.ref))/\Oz H cs cc/\cc.length<=7/\
 ∀H',aA H H'->Q (.bl (Py ak r w bi bj cc)) H'
open Classical in
theorem YC (D:aK K mg "_law_joined" yx ["_law_rows_here","_law_begin_here","_law_cells"])(bx:mg "len"=none)(Bc:bO P w K mg base "_law_is_near" 1 ["_law_rows_here","_law_row","_law_column"] Jp):bO P w K mg base "_law_joined" 2 ["_law_rows_here","_law_begin_here","_law_cells"] PJ:=by
 refine D.dz Xn (λvs H Q E h=>?_) (λf bL A outer s H vs Q E hr h=>?_)
 ·obtain⟨pr,pb,Lc,ak,r,w,bi,bj,cs,cc,rfl,_⟩:=h
  rfl
 ·obtain⟨pr,pb,Lc,ak,r,w,bi,bj,cs,cc,rfl,hpr,hb,r1,r9,w1,w9,rK,hpb,hLc,hcs,h7,q⟩:=h
  have jx:(Ts ak).length=r:=by rw[aa,hb.len]
  have hcl:=hcs.len;refine⟨_,(aD (bW (bw (Gz hr.units) (fJ (ns:=["_law_text"]) rfl (fH.of ["_law_rows_here","_law_begin_here","_law_cells"] [] (by kernel_rfl)) (dW (qv 0)) (λ_ _ _ _ _=>(oG (show (["_law_text","_law_rows_here","_law_begin_here","_law_cells"]:List Str).Nodup by decide +kernel) rfl (by rfl))) (λ_ _ _ _ _=>(xr (bw lU (qv 0) (bB Im (bZ [46] (by decide +kernel)) (aO cJ (by rfl) bx aI (aj (qv 0) aq))) (aZ _)))) (λ_ _ _ _ _=>(qv 0))) (d7 aq) (aZ _)) (aF (aY (dU (R5 hr.units) (qv 1) (qv 2) rfl))) bC) (aF (aY (dU (Ag hr.units) (fJ (ns:=["_law_cell"]) rfl (fH.of ["_law_rows_here","_law_begin_here","_law_cells"] [] (by kernel_rfl)) (gF (qv 2)) (λ_ _ _ _ _=>(oG (show (["_law_cell","_law_rows_here","_law_begin_here","_law_cells"]:List Str).Nodup by decide +kernel) rfl (by rfl))) (λ_ _ _ _ _=>(xr (dj (aV Bc hr.mono rfl (aj (qv 1) (aj (aP (mK K) (qv 0) aB (λ_ _=>rfl)) (aj (aP (mK K) (qv 0) aB (λ_ _=>rfl)) aq))))))) (λ_ _ _ _ _=>(qv 0))) (d7 aq) (aZ _))))),?_⟩;refine⟨_,rfl,pr,rfl,⟨_,aM.of hpr⟩,λN hN=>sV (K:=K) (a:=pr) (f:=eU [] 0) (tt:=xY (sy ae7 (gY 0) (sy ab1 (tC (V.str (S [46]))) (M7 T8 (j4 (gY 0) oW))))) (te:=gY 0) (xs:=Ts ak) (λn ys H2=>ys=Ts ((ak.take n).filter lq)/\H2 N=some (.lst ys)/\aA H H2)
   ⟨rfl,au,aA.upd hN⟩ (λn ys H2 _ h=>aM.of (h.2.2 _ _ hpr)) ?_ ?_⟩
  ·rintro n x ys H2 hx ⟨rfl,YD,sm⟩
   obtain⟨l,hl,rfl⟩:=uL hx;have hn:n < (Ts ak).length:=(af.mp hx).1;have pq:l.length=w:=hb.iQ _ (bc hl);refine⟨_,rfl,_,rfl,l,rfl,aE (aH (by lia)),[46],l.length,rfl,rfl,by lia,by lia,by decide,l,_,rfl,rfl,_,rfl,?_⟩;have et:(ak.take (n+1)).filter lq=(ak.take n).filter lq++[l].filter lq:=by rw[bo,hl,dS];rfl
   cases hf:lq l with
   | true=>
    rw[show (!decide (l=(List.replicate l.length [46]).flatten))=true from hf];refine bI ⟨_,rfl,YD,?_,dZ.mk hn ⟨?_,au,sm.cD hN⟩⟩
    ·rw[aa]
     exact aH (b9 (ft _ _) (by rw[ay];lia))
    ·rw[et,mW];simp[hf]
   | false=>
    rw[show (!decide (l=(List.replicate l.length [46]).flatten))=false from hf];refine aX (dZ.mk hn ⟨?_,YD,sm⟩);rw[et];simp[hf]
  ·rintro ys H2 ⟨rfl,YD,sm⟩
   rw[aa,bz]at YD;refine⟨zsz 0,λZ hZ=>?_⟩;have sZ:aA H2 (upd H2 Z (HO.lst [])):=aA.upd hZ;have eZ:upd H2 Z (HO.lst []) Z=some (.lst []):=au;have oN:=sZ _ _ YD;have s3:=sm.trans sZ;generalize upd H2 Z (HO.lst [])=H3 at sZ eZ oN s3 ⊢;have ahL:∀l∈ak.filter lq,∀c∈l,c < 128:=λl hl c hc=>by
    rcases rK l (fT.mp hl).1 c hc with e | e
    ·lia
    ·exact e.lt
   refine⟨2,.lst ((ak.filter lq).map Dt.str),.lst [],by decide,.lst (aU.of oN) (dw.tQ ahL),.lst (aU.of eZ) .nil,_,rfl,?_⟩;simp only[cn,if_false];by_cases hf:isFree ak=true
   ·have he:Dt.lst ((ak.filter lq).map Dt.str)=Dt.lst []:=by rw[PB.mp hf];rfl
    rw[ah he];refine bI ⟨_,rfl,_,rfl,2,.tup [.int bi,.int bj],cc.map λc=>Dt.tup [.int c.1,.int c.2],by decide,.tup (aM.of (s3 _ _ hpb)) (.cons (.int _) (.cons (.int _) .nil)),.lst (aU.of (s3 _ _ hLc)) (dw.Yi (hcs.mv s3)),?_⟩;have hq:=q H3 s3;have e:Py ak r w bi bj cc=decide ((bi,bj)∈cc):=by unfold Py;rw[if_pos hf]
    rw[e]at hq;simp only[cn,if_false];by_cases hm:(bi,bj)∈cc
    ·rw[ah hm]at hq
     rw[ah (xR (c:=(bi,bj)).mpr hm)];exact hq
    ·rw[ae hm]at hq
     rw[ae (λz=>hm (xR (c:=(bi,bj)).mp z))];exact hq
   ·have he:¬Dt.lst ((ak.filter lq).map Dt.str)=Dt.lst []:=λz=>by
     injection z with z;exact hf (PB.mpr (kL.mp z))
    rw[ae he];refine aX ⟨_,rfl,Lc,rfl,⟨_,aU.of (s3 _ _ hLc)⟩,λM hM=>wu (K:=K) (a:=Lc) (f:=eU [] 0) (tt:=tB (Gs Jp [] E0 (j4 (gY 1) (j4 (sy (M9 K) (gY 0) (tC (V.int 0))) (j4 (sy (M9 K) (gY 0) (tC (V.int 1))) oW))))) (te:=gY 0) (xs:=cs.map V.ref) (λn ys H4=>∃ds:List Addr,ys=ds.map V.ref/\ds.length<=n/\H4 M=some (.lst ys)/\aA H3 H4/\Oz H4 ds ((cc.take n).filter λc=>iK ak r w c.1 c.2))
     ⟨[],rfl,al _,au,aA.upd hM,dJ.nil⟩ (λn ys H4 _ h=>by obtain⟨_,_,_,_,sm,_⟩:=h;exact aU.of (sm _ _ (s3 _ _ hLc))) ?_ ?_⟩
    ·rintro n x ys H4 hx ⟨ds,rfl,hdl,vD,nJ,YF⟩
     have hn:n < cs.length:=by have:=(af.mp hx).1;simpa using this
     rw[aS,ac hn]at hx;have hx:V.ref cs[n]=x:=ap hx;subst hx;have Bj:=s3.trans nJ;obtain⟨u,eu,hu⟩:=(hcs.mv Bj).get hn;refine⟨_,rfl,_,rfl,cs[n],_,_,_,rfl,rfl,aM.of hu,aG (j:=0) rfl,_,rfl,cs[n],_,_,_,rfl,rfl,aM.of hu,aG (j:=1) rfl,pr,ak,r,w,_,_,rfl,Bj _ _ hpr,hb,r1,r9,w9,λH5 s5=>⟨_,rfl,?_⟩⟩;have et:(cc.take (n+1)).filter (λc=>iK ak r w c.1 c.2)=(cc.take n).filter (λc=>iK ak r w c.1 c.2)++[u].filter (λc=>iK ak r w c.1 c.2):=by rw[bo,eu,dS];rfl
     cases hf2:iK ak r w u.1 u.2 with
     | true=>
      have K_:=s5 _ _ vD;refine bI ⟨_,rfl,K_,by rw[aa];exact aH (by lia),dZ.mk (by rw[aa];exact hn) ⟨ds++[cs[n]],by simp,by simp;lia,by rw[au],(nJ.trans s5).cD hM,?_⟩⟩;rw[et];have e2:[u].filter (λc=>iK ak r w c.1 c.2)=[u]:=by simp[hf2]
      rw[e2];exact((YF.mv s5).app (dJ.one (s5 _ _ hu))).iu (lZ K_)
     | false=>
      refine aX (dZ.mk (by rw[aa];exact hn) ⟨ds,rfl,by lia,s5 _ _ vD,nJ.trans s5,?_⟩);rw[et];have e2:[u].filter (λc=>iK ak r w c.1 c.2)=[]:=by simp[hf2]
      rw[e2,eQ];exact YF.mv s5
    ·rintro ys H4 ⟨ds,rfl,hdl,vD,nJ,YF⟩
     rw[aa,hcl,bz]at YF;refine⟨zsz 0,λZ2 hZ2=>?_⟩;have sZ2:aA H4 (upd H4 Z2 (HO.lst [])):=aA.upd hZ2;have eZ2:upd H4 Z2 (HO.lst []) Z2=some (.lst []):=au;have K_:=sZ2 _ _ vD;have hP5:=YF.mv sZ2;generalize upd H4 Z2 (HO.lst [])=H5 at sZ2 eZ2 K_ hP5 ⊢;refine⟨2,.lst _,.lst [],by decide,.lst (aU.of K_) (dw.Yi hP5),.lst (aU.of eZ2) .nil,?_⟩;have hq:=q H5 (s3.trans (nJ.trans sZ2));have e:Py ak r w bi bj cc=cc.any λc=>iK ak r w c.1 c.2:=by unfold Py;rw[if_neg hf]
     rw[e]at hq;simp only[if_true];cases ha:(cc.any λc=>iK ak r w c.1 c.2) with
     | true=>
      rw[ha]at hq;have:¬(Dt.lst (((cc.filter λc=>iK ak r w c.1 c.2)).map λc=>Dt.tup [.int c.1,.int c.2])=Dt.lst []):=λz=>by
       injection z with z;have z:=kL.mp z;obtain⟨c,hc1,hc2⟩:=kd.mp ha;exact absurd hc2 (jI.mp z c hc1)
      rw[ae this];exact hq
     | false=>
      rw[ha]at hq;have:Dt.lst (((cc.filter λc=>iK ak r w c.1 c.2)).map λc=>Dt.tup [.int c.1,.int c.2])=Dt.lst []:=by
       rw[jI.mpr λc hc=>by have:=lh.mp ha c hc;exact this];rfl
      rw[ah this];exact hq
inductive Jq (ak:AA) (r w bi bj:Nat) (ts:List bA):Nat->Nat->Nat->Prop
 | jK {u:bA} (h:ni ak ts=some u):Jq ak r w bi bj ts 1 u.1 u.2.1
 | mz (h1:ni ak ts=none) (h:(jG ts||kO ts)=false):Jq ak r w bi bj ts 2 0 0
 | gap {i j:Nat} (h1:ni ak ts=none) (h2:(jG ts||kO ts)=true) (h:Dv (b_ ak ts) (gD ts).1 (fP ts).1 (gD ts).2.1 (fP ts).2.1 i j):Jq ak r w bi bj ts 3 i j
 | mC (h1:ni ak ts=none) (h2:(jG ts||kO ts)=true) (h3:qW (b_ ak ts) (gD ts).1 (fP ts).1 (gD ts).2.1 (fP ts).2.1) (h:pR ak r w bi bj ts=false):Jq ak r w bi bj ts 4 0 0
 | ok (h1:ni ak ts=none) (h2:(jG ts||kO ts)=true) (h3:qW (b_ ak ts) (gD ts).1 (fP ts).1 (gD ts).2.1 (fP ts).2.1) (h:pR ak r w bi bj ts=true):Jq ak r w bi bj ts 9 0 0
theorem YG {ts:List bA}(h0:0 < ts.length){g:bA->Nat}{m M:Int}(hm:m∈ts.map λt=>(g t:Int))(h1:∀x∈ts.map (λt=>(g t:Int)),m<=x)(hM:M∈ts.map λt=>(g t:Int))(h2:∀x∈ts.map (λt=>(g t:Int)),M>=x) :
  decide (V.int m=V.int M)=ts.all λt=>decide (g t=g (ts.headD (0,0,0))):=by
 rw[kY h0];cases e:(ts.all λt=>decide (g t=g ts[0])) with
 | true=>
  rw[cz]at e;have key:∀x∈ts.map (λt=>(g t:Int)),x=(g ts[0]:Int):=λx hx=>by
   obtain⟨t,ht,rfl⟩:=bp.mp hx;have:=cq (e t ht);rw[this]
  rw[key m hm,key M hM];simp
 | false=>
  refine ae λz=>?_;injection z with z;have:(ts.all λt=>decide (g t=g ts[0]))=true:=cz.mpr λt ht=>by
   have a1:=h1 _ (bp.mpr ⟨t,ht,rfl⟩);have a2:=h2 _ (bp.mpr ⟨t,ht,rfl⟩);have b1:=h1 _ (bp.mpr ⟨ts[0],ai h0,rfl⟩);have b2:=h2 _ (bp.mpr ⟨ts[0],ai h0,rfl⟩);exact ah (by lia)
  rw[this]at e;cases e
theorem yO {f:St->St}{σ:St}(ix:Nat){Hs H':Hp}{cs:List Addr}{cc:List (Nat × Nat)}{n:Nat}{x:V}{ys:List V}{N:Addr}(hx:(cs.map V.ref)[n]?=some x)
  (hh:ys=((cc.take n).map λc=>(((if ix=0 then c.1 else c.2:Nat)):Int)).map V.int/\H' N=some (.lst ys)/\aA Hs H') (hcs:Oz Hs cs cc) (h7:cc.length<=7) (hN:Hs N=none) (hix:ix=0\/ix=1) :
  qK (cs.map V.ref).length n N (λv H Q=>∃a p q,v=.ref a/\aM K H a [p,q]/\Q [some p,some q]) f σ iB (gY ix) x H' ys (λys H'=>ys=((cc.take (n+1)).map λc=>(((if ix=0 then c.1 else c.2:Nat)):Int)).map V.int/\H' N=some (.lst ys)/\aA Hs H'):=by
 obtain⟨rfl,hN',sm⟩:=hh;have hn:n < cs.length:=by have:=(af.mp hx).1;simpa using this
 have hcl:=hcs.len;rw[aS,ac hn]at hx;have hx:V.ref cs[n]=x:=ap hx;obtain⟨u,eu,hu⟩:=(hcs.mv sm).get hn;refine Uh hx.symm (aM.of hu) ?_;have hz:(((cc.take n).map λc=>(((if ix=0 then c.1 else c.2:Nat)):Int)).map V.int).length < sizeLine:=by rw[aa,aa,ay];exact aH (by lia)
 rcases hix with rfl | rfl
 ·refine⟨_,rfl,hN',hz,dZ.mk (by rw[aa];exact hn) ⟨?_,au,sm.cD hN⟩⟩
  rw[take_snoc eu,bS];rfl
 ·refine⟨_,rfl,hN',hz,dZ.mk (by rw[aa];exact hn) ⟨?_,au,sm.cD hN⟩⟩
  rw[take_snoc eu,bS];rfl
def PK:Sp:=λvs H Q _=>∃(pr pb t:Addr) (ak:AA) (r w bi bj:Nat) (as:List Addr) (ts:List bA),vs=[.ref pr,.ref pb,.ref t]/\H pr=some (.tup (Ts ak))/\Blk r w ak/\1<=r/\r<=9/\1<=w/\w<=9/\(∀l∈ak,∀c∈l,rG c)/\H pb=some (.tup [.int bi,.int bj])/\H t=some (.tup (as.map V.ref))/\cT H as ts/\(∀t∈ts,inB r w t)/\0 < ts.length/\ts.length<=7/\
 ∀(T:Addr) (d x y:Nat) (H':Hp),aA H H'->Jq ak r w bi bj ts d x y->H' T=some (.tup [.int d,.int x,.int y])->Q (.ref T) H'
open Classical in
theorem PL (D:aK K mg "_law_cells_due" qT ["_law_rows_here","_law_begin_here","_law_laying"])(cR:mg "range"=none)(Dz:mg "min"=none)(DG:mg "max"=none)(aaX:bO P w K mg base "_law_joined" 2 ["_law_rows_here","_law_begin_here","_law_cells"] PJ):bO P w K mg base "_law_cells_due" 3 ["_law_rows_here","_law_begin_here","_law_laying"] PK:=by
 refine D.dz jV (λvs H Q E h=>?_) (λf bL A outer s H vs Q E hr h=>?_)
 ·obtain⟨pr,pb,t,ak,r,w,bi,bj,as,ts,rfl,_⟩:=h
  rfl
 ·obtain⟨pr,pb,t,ak,r,w,bi,bj,as,ts,rfl,hpr,hb,r1,r9,w1,w9,rK,hpb,ht,hL,bT,h0,h7,q⟩:=h
  have hal:=hL.len;refine⟨_,(aD (xu (ix:=3) (ns:=["_law_row","_law_column","_law_sign_here"]) jV.nd rfl (Or.inl rfl) rfl (fH.of ["_law_rows_here","_law_begin_here","_law_laying","_law_cells",".4",".5"] [4,5] (by kernel_rfl)) (dW (qv 2)) (λ_ _ _ _ _=>(ql K rfl (show (["_law_row","_law_column","_law_sign_here","_law_rows_here","_law_begin_here","_law_laying","_law_cells",".4",".5"]:List Str).Nodup by decide +kernel) rfl rfl rfl (by rfl) (by rfl) (by rfl))) (λ_ _ _ _ _=>cZ) (λ_ _ _ _ _=>(cH (aj (qv 0) (aj (qv 1) aq))))) (aD (dh bu rfl (gF (qv 3)) (lu rfl (bV (bH (i:=4) jV.nd rfl (Or.inl rfl)) (bV (bH (i:=5) jV.nd rfl (Or.inl rfl)) iU))) (aF (bW (bw lU (aP m5 (aP bf (qv 0) (qv 4) (λ_ _=>rfl)) (qv 5) (λ_ _=>rfl)) (bZ [46] (by decide +kernel)) (aZ _)) (aF (aY (cH (aj aB (aj (qv 4) (aj (qv 5) aq)))))) bC))) (aD (gn (bW (bw oV (aO (Ks rfl) (by rfl) Dz PyProof.Rows.boot_min (aj (fJ (ns:=["_law_row","_law_column"]) rfl (fH.of ["_law_rows_here","_law_begin_here","_law_laying","_law_cells",".4",".5"] [4,5] (by kernel_rfl)) (gF (qv 3)) (λ_ _ _ _ _=>(tY K rfl (show (["_law_row","_law_column","_law_rows_here","_law_begin_here","_law_laying","_law_cells",".4",".5"]:List Str).Nodup by decide +kernel) rfl rfl (by rfl) (by rfl))) (λ_ _ _ _ _=>cZ) (λ_ _ _ _ _=>(qv 0))) aq)) (aO (Ku rfl) (by rfl) DG PyProof.Rows.boot_max (aj (fJ (ns:=["_law_row","_law_column"]) rfl (fH.of ["_law_rows_here","_law_begin_here","_law_laying","_law_cells",".4",".5"] [4,5] (by kernel_rfl)) (gF (qv 3)) (λ_ _ _ _ _=>(tY K rfl (show (["_law_row","_law_column","_law_rows_here","_law_begin_here","_law_laying","_law_cells",".4",".5"]:List Str).Nodup by decide +kernel) rfl rfl (by rfl) (by rfl))) (λ_ _ _ _ _=>cZ) (λ_ _ _ _ _=>(qv 0))) aq)) (aZ _)) (aF (bW (bw oV (aO (Ks rfl) (by rfl) Dz PyProof.Rows.boot_min (aj (fJ (ns:=["_law_row","_law_column"]) rfl (fH.of ["_law_rows_here","_law_begin_here","_law_laying","_law_cells",".4",".5"] [4,5] (by kernel_rfl)) (gF (qv 3)) (λ_ _ _ _ _=>(tY K rfl (show (["_law_row","_law_column","_law_rows_here","_law_begin_here","_law_laying","_law_cells",".4",".5"]:List Str).Nodup by decide +kernel) rfl rfl (by rfl) (by rfl))) (λ_ _ _ _ _=>cZ) (λ_ _ _ _ _=>(qv 1))) aq)) (aO (Ku rfl) (by rfl) DG PyProof.Rows.boot_max (aj (fJ (ns:=["_law_row","_law_column"]) rfl (fH.of ["_law_rows_here","_law_begin_here","_law_laying","_law_cells",".4",".5"] [4,5] (by kernel_rfl)) (gF (qv 3)) (λ_ _ _ _ _=>(tY K rfl (show (["_law_row","_law_column","_law_rows_here","_law_begin_here","_law_laying","_law_cells",".4",".5"]:List Str).Nodup by decide +kernel) rfl rfl (by rfl) (by rfl))) (λ_ _ _ _ _=>cZ) (λ_ _ _ _ _=>(qv 1))) aq)) (aZ _)) (aF (aY (cH (aj aB (aj aB (aj aB aq)))))) bC)) bC)) (aD (dh bu rfl (u6 (by rfl) cR (aj (aP bf (aP dB (qv 3) aB (λ_ _=>rfl)) aB (λ_ _=>rfl)) (aj (bB dN (aP bf (aP dB (qv 3) (yj ug aB) (λ_ _=>rfl)) aB (λ_ _=>rfl)) aB) aq))) (bH (i:=4) jV.nd rfl (Or.inl rfl)) (aF (dh bu rfl (u6 (by rfl) cR (aj (aP bf (aP dB (qv 3) aB (λ_ _=>rfl)) aB (λ_ _=>rfl)) (aj (bB dN (aP bf (aP dB (qv 3) (yj ug aB) (λ_ _=>rfl)) aB (λ_ _=>rfl)) aB) aq))) (bH (i:=5) jV.nd rfl (Or.inl rfl)) (aF (bW (QW.qt (jq (bw rm (aP m5 (aP bf (qv 0) (qv 4) (λ_ _=>rfl)) (qv 5) (λ_ _=>rfl)) (bZ [46] (by decide +kernel)) (aZ _)) (lD (bw (Uq hr.units) (cH (aj (qv 4) (aj (qv 5) aq))) (qv 3) rfl)))) (aF (aY (cH (aj aB (aj (qv 4) (aj (qv 5) aq)))))) bC))))) (aD (bW (eO (dj (aV aaX hr.mono rfl (aj (qv 0) (aj (qv 1) (aj (qv 3) aq)))))) (aF (aY (cH (aj aB (aj aB (aj aB aq)))))) bC) (aF (aY (cH (aj aB (aj aB (aj aB aq))))))))))),?_⟩;refine⟨_,rfl,t,rfl,⟨_,aM.of ht⟩,λLc afX=>j9 (K:=K) (KT:=K) (a:=t) (f:=eU [4,5] 0) (tt:=iB) (xs:=as.map V.ref) (λn ys H5=>∃cs:List Addr,ys=cs.map V.ref/\cs.length=n/\H5 Lc=some (.lst ys)/\aA H H5/\Oz H5 cs ((ts.take n).map eY))
   ⟨[],rfl,rfl,au,aA.upd afX,dJ.nil⟩ (λn ys H5 _ h=>by obtain⟨_,_,_,_,sm,_⟩:=h;exact aM.of (sm _ _ ht)) ?_ ?_⟩
  ·rintro n x ys H5 hx ⟨cs,rfl,hcl,pC,iR,vI⟩
   have hn:n < as.length:=by have:=(af.mp hx).1;simpa using this
   have hnt:n < ts.length:=by lia
   rw[aS,ac hn]at hx;have hx:V.ref as[n]=x:=ap hx;obtain⟨_,en⟩:=fV (hL.mv iR) hnt;refine yq hx.symm (aM.of en) ?_;refine⟨_,rfl,_,rfl,zsz 2,λg hg=>?_⟩;have kg:aA H5 (upd H5 g (HO.tup [.int ts[n].1,.int ts[n].2.1])):=aA.upd hg;have KQ:=kg _ _ pC;refine⟨KQ,by rw[aa];exact aH (by lia),dZ.mk (by rw[aa];exact hn) ⟨cs++[g],by simp,by simp[hcl],by rw[au],(iR.trans kg).cD afX,?_⟩⟩;rw[take_snoc (ac hnt)];exact((vI.mv kg).app (dJ.one (x:=(ts[n].1,ts[n].2.1)) au)).iu (lZ KQ)
  rintro ys H1 ⟨cs,rfl,hcl,hLc,s1,hcs⟩;rw[aa]at hcl;rw[aa,hal,bz]at hcs;have PN:cs.length=ts.length:=by lia
  have Vh:∀n,(h:n < ts.length)->(ts.map eY)[n]?=some (ts[n].1,ts[n].2.1):=λn h=>by rw[aS,ac h];rfl
  have Vi:=s1 _ _ hpr;have PX:(ts.map eY).length<=7:=by rw[aa];exact h7
  refine⟨_,rfl,Lc,rfl,⟨_,aU.of hLc⟩,nZ (K:=K) (a:=Lc) (xs:=cs.map V.ref) (λn σ H'=>∃v4 v5:Option V,σ=[some (.ref pr),some (.ref pb),some (.ref t),some (.ref Lc),v4,v5]/\aA H1 H'/\∀x∈ts.take n,Yd ak x=false)
   ⟨none,none,rfl,aA.refl _,λx hx=>by simp at hx⟩ (λn σ H' _ h=>by obtain⟨_,_,_,sm,_⟩:=h;exact aU.of (sm _ _ hLc)) ?_ ?_⟩
  ·rintro n x σ H' hx ⟨v4,v5,rfl,sm,hfr⟩
   have hn:n < cs.length:=by have:=(af.mp hx).1;simpa using this
   have hnt:n < ts.length:=by lia
   rw[aS,ac hn]at hx;have hx:V.ref cs[n]=x:=ap hx;subst hx;have en:=(hcs.mv sm).at_ n _ _ (ac hn) (Vh n hnt);obtain⟨c1,c2,_⟩:=bT _ (ai hnt);have g1:ts[n].1 < ak.length:=by rw[hb.len];exact c1
   have hwi:ak[ts[n].1].length=w:=hb.iQ _ (ai _);have g2:ts[n].2.1 < ak[ts[n].1].length:=by lia
   have hce:=cell_eq g1 g2;refine⟨cs[n],_,rfl,aM.of en,rfl,_,_,rfl,_,_,rfl,rfl,?_⟩;refine⟨_,rfl,_,rfl,pr,_,_,.str (S ak[ts[n].1]),rfl,rfl,aM.of (sm _ _ Vi),aG (fY (by simp[g1])),_,rfl,ak[ts[n].1],_,ak[ts[n].1][ts[n].2.1],rfl,rfl,aE (aH (by lia)),aG (by simp[g2]),[ak[ts[n].1][ts[n].2.1]],[46],rfl,rfl,_,rfl,?_⟩;rw[<- hce];cases ht0:Yd ak ts[n] with
   | true=>
    rw[show (!decide ([cell ak ts[n].1 ts[n].2.1]=[46]))=true from ht0];exact bI ⟨_,rfl,_,rfl,zsz 3,λT hT=>q T 1 _ _ _ ((s1.trans sm).trans (aA.upd hT)) (.jK (Dr hnt hfr ht0)) au⟩
   | false=>
    rw[show (!decide ([cell ak ts[n].1 ts[n].2.1]=[46]))=false from ht0];refine aX ⟨_,_,rfl,sm,λx hx=>?_⟩;rw[bo,ac hnt]at hx;rcases a7.mp hx with z | z
    ·exact hfr x z
    ·rw[aw.mp z];exact ht0
  rintro σ H2 ⟨v4,v5,rfl,sm,hfr⟩;rw[aa,PN,bz]at hfr;have d1:ni ak ts=none:=Du hfr;have s2:=s1.trans sm;refine⟨λσ H'=>aA H2 H'/\σ=[some (.ref pr),some (.ref pb),some (.ref t),some (.ref Lc),v4,v5]/\(jG ts||kO ts)=true,?_,?_⟩
  ·refine⟨_,rfl,Lc,rfl,⟨_,aU.of (sm _ _ hLc)⟩,λA1 hA1=>nH (K:=K) (KT:=K) (a:=Lc) (f:=eU [4,5] 0) (tt:=iB) (te:=gY 0) (xs:=cs.map V.ref) (λn ys H'=>ys=(((ts.map eY).take n).map λc=>(((if 0=0 then c.1 else c.2:Nat)):Int)).map V.int/\H' A1=some (.lst ys)/\aA H2 H')
    ⟨rfl,au,aA.upd hA1⟩ (λn ys H' _ h=>aU.of (h.2.2 _ _ (sm _ _ hLc))) (λn x ys H' hx hh=>yO 0 hx hh (hcs.mv sm) PX hA1 (by decide)) ?_⟩
   rintro ys H3 ⟨rfl,YH,k3⟩;rw[aa,PN,be (by rw[aa];exact al _),show ((ts.map eY).map λc=>(((if 0=0 then c.1 else c.2:Nat)):Int))=ts.map (λt=>(t.1:Int)) by rw[eD];rfl]at YH;refine⟨A1,ts.map λt=>(t.1:Int),rfl,aU.of YH,by rw[aa];exact h0,λm hm hmn=>?_⟩;refine⟨_,rfl,Lc,rfl,⟨_,aU.of ((sm.trans k3) _ _ hLc)⟩,λA2 hA2=>nH (K:=K) (KT:=K) (a:=Lc) (f:=eU [4,5] 0) (tt:=iB) (te:=gY 0) (xs:=cs.map V.ref) (λn ys H'=>ys=(((ts.map eY).take n).map λc=>(((if 0=0 then c.1 else c.2:Nat)):Int)).map V.int/\H' A2=some (.lst ys)/\aA H3 H')
    ⟨rfl,au,aA.upd hA2⟩ (λn ys H' _ h=>aU.of (h.2.2 _ _ ((sm.trans k3) _ _ hLc))) (λn x ys H' hx hh=>yO 0 hx hh (hcs.mv (sm.trans k3)) PX hA2 (by decide)) ?_⟩
   rintro ys H4 ⟨rfl,YJ,k4⟩;rw[aa,PN,be (by rw[aa];exact al _),show ((ts.map eY).map λc=>(((if 0=0 then c.1 else c.2:Nat)):Int))=ts.map (λt=>(t.1:Int)) by rw[eD];rfl]at YJ;refine⟨A2,ts.map λt=>(t.1:Int),rfl,aU.of YJ,by rw[aa];exact h0,λM hM hmx=>?_⟩;refine⟨rfl,_,rfl,?_⟩;have Ed:=k3.trans k4;rw[YG (g:=λt=>t.1) h0 hm hmn hM hmx];cases ha:jG ts with
   | true=>
    rw[show (ts.all λt=>decide (t.1=(ts.headD (0,0,0)).1))=true from ha];exact aX ⟨Ed,rfl,by rw[Bool.true_or]⟩
   | false=>
    rw[show (ts.all λt=>decide (t.1=(ts.headD (0,0,0)).1))=false from ha];refine bI ?_;refine⟨_,rfl,Lc,rfl,⟨_,aU.of ((sm.trans Ed) _ _ hLc)⟩,λA3 YH=>nH (K:=K) (KT:=K) (a:=Lc) (f:=eU [4,5] 0) (tt:=iB) (te:=gY 1) (xs:=cs.map V.ref) (λn ys H'=>ys=(((ts.map eY).take n).map λc=>(((if 1=0 then c.1 else c.2:Nat)):Int)).map V.int/\H' A3=some (.lst ys)/\aA H4 H')
     ⟨rfl,au,aA.upd YH⟩ (λn ys H' _ h=>aU.of (h.2.2 _ _ ((sm.trans Ed) _ _ hLc))) (λn x ys H' hx hh=>yO 1 hx hh (hcs.mv (sm.trans Ed)) PX YH (by decide)) ?_⟩
    rintro ys H5 ⟨rfl,vI,k5⟩;rw[aa,PN,be (by rw[aa];exact al _),show ((ts.map eY).map λc=>(((if 1=0 then c.1 else c.2:Nat)):Int))=ts.map (λt=>(t.2.1:Int)) by rw[eD];rfl]at vI;refine⟨A3,ts.map λt=>(t.2.1:Int),rfl,aU.of vI,by rw[aa];exact h0,λm2 hm2 ahM=>?_⟩;refine⟨_,rfl,Lc,rfl,⟨_,aU.of ((sm.trans (Ed.trans k5)) _ _ hLc)⟩,λA4 YJ=>nH (K:=K) (KT:=K) (a:=Lc) (f:=eU [4,5] 0) (tt:=iB) (te:=gY 1) (xs:=cs.map V.ref) (λn ys H'=>ys=(((ts.map eY).take n).map λc=>(((if 1=0 then c.1 else c.2:Nat)):Int)).map V.int/\H' A4=some (.lst ys)/\aA H5 H')
     ⟨rfl,au,aA.upd YJ⟩ (λn ys H' _ h=>aU.of (h.2.2 _ _ ((sm.trans (Ed.trans k5)) _ _ hLc))) (λn x ys H' hx hh=>yO 1 hx hh (hcs.mv (sm.trans (Ed.trans k5))) PX YJ (by decide)) ?_⟩
    rintro ys H6 ⟨rfl,hA6,k6⟩;rw[aa,PN,be (by rw[aa];exact al _),show ((ts.map eY).map λc=>(((if 1=0 then c.1 else c.2:Nat)):Int))=ts.map (λt=>(t.2.1:Int)) by rw[eD];rfl]at hA6;refine⟨A4,ts.map λt=>(t.2.1:Int),rfl,aU.of hA6,by rw[aa];exact h0,λM2 oM ahN=>?_⟩;refine⟨rfl,_,rfl,?_⟩;have vQ:=Ed.trans (k5.trans k6);rw[YG (g:=λt=>t.2.1) h0 hm2 ahM oM ahN];cases hd:kO ts with
    | true=>
     rw[show (ts.all λt=>decide (t.2.1=(ts.headD (0,0,0)).2.1))=true from hd];exact aX ⟨vQ,rfl,rfl⟩
    | false=>
     rw[show (ts.all λt=>decide (t.2.1=(ts.headD (0,0,0)).2.1))=false from hd];exact bI ⟨zsz 3,λT hT=>q T 2 0 0 _ ((s2.trans vQ).trans (aA.upd hT)) (.mz d1 (by rw[ha,hd];rfl)) au⟩
  rintro σ H3 ⟨k3,rfl,d2⟩;have s3:=s2.trans k3;have s13:=sm.trans k3;have Jr:=s13 _ _ hLc;have Vj:=hcs.mv s13;have z0:0 < cs.length:=by lia
  have zl:cs.length-1 < cs.length:=by lia
  have e0:=Vj.at_ 0 _ _ (ac z0) (Vh 0 h0);have el:=Vj.at_ (cs.length-1) _ _ (ac zl) (by rw[show cs.length-1=ts.length-1 by lia];exact Vh _ (by lia));have yH:oE (cs.map V.ref) (-1)=some (.ref cs[cs.length-1]):=Jh z0;obtain⟨a1,a2,_⟩:=bT _ (ai h0);obtain⟨l1,l2,_⟩:=bT _ (ai (show ts.length-1 < ts.length by lia));have ef:gD ts=ts[0]:=kY h0;have eg:=O5 h0;generalize hff:ts[0]=ff at e0 a1 a2 ef;generalize hll:ts[ts.length-1]=ll at el l1 l2 eg;have hR:∀i j,i < r->j < w->(cell (b_ ak ts) i j=46↔cell ak i j=46/\(i,j)∉ts.map eY):=λi j hi hj=>YB hi hj hb bT;have hDs:∀H',aA H3 H'->jR K H' 2 (.lst ((ts.map eY).map λc=>Dt.tup [.int c.1,.int c.2])) (.ref Lc):=λH' sH=>.lst (aU.of (sH _ _ Jr)) (dw.Yi (Vj.mv sH));generalize hRR:b_ ak ts=R at hR;refine⟨_,rfl,Lc,_,_,.ref cs[0],rfl,rfl,aU.of Jr,aG (j:=0) (by simp[z0]),cs[0],_,_,_,rfl,rfl,aM.of e0,aG (j:=0) rfl,_,rfl,_,rfl,Lc,_,_,.ref cs[cs.length-1],rfl,rfl,aU.of Jr,yH,cs[cs.length-1],_,_,_,rfl,rfl,aM.of el,aG (j:=0) rfl,_,_,rfl,rfl,(ff.1:Int),(ll.1:Int)+1,rfl,⟨by lia,by lia,by lia,by lia⟩,?_⟩;refine gH (lo:=(ff.1:Int)) (λn σ H'=>∃v4 v5:Option V,σ=[some (.ref pr),some (.ref pb),some (.ref t),some (.ref Lc),v4,v5]/\aA H3 H'/\∀i j,ff.1<=i->i < ff.1+n->ff.2.1<=j->j<=ll.2.1->cell R i j≠46)
   ⟨_,_,rfl,aA.refl _,λi j z1 z2=>by lia⟩ ?_ ?_
  ·rintro n σ H' hn ⟨v4,v5,rfl,nJ,hup⟩
   have hn2:ff.1+n<=ll.1:=by lia
   have en:(ff.1:Int)+(n:Int)=((ff.1+n:Nat):Int):=by lia
   rw[en];refine⟨_,rfl,Lc,_,_,.ref cs[0],rfl,rfl,aU.of (nJ _ _ Jr),aG (j:=0) (by simp[z0]),cs[0],_,_,_,rfl,rfl,aM.of (nJ _ _ e0),aG (j:=1) rfl,_,rfl,_,rfl,Lc,_,_,.ref cs[cs.length-1],rfl,rfl,aU.of (nJ _ _ Jr),yH,cs[cs.length-1],_,_,_,rfl,rfl,aM.of (nJ _ _ el),aG (j:=1) rfl,_,_,rfl,rfl,(ff.2.1:Int),(ll.2.1:Int)+1,rfl,⟨by lia,by lia,by lia,by lia⟩,?_⟩;refine gH (lo:=(ff.2.1:Int)) (λm σ H'=>∃v5:Option V,σ=[some (.ref pr),some (.ref pb),some (.ref t),some (.ref Lc),some (.int ((ff.1+n:Nat):Int)),v5]/\aA H3 H'/\∀j,ff.2.1<=j->j < ff.2.1+m->cell R (ff.1+n) j≠46)
    ⟨_,rfl,nJ,λj z1 z2=>by lia⟩ ?_ ?_
   ·rintro m σ H5 hm ⟨v5,rfl,iR,hle⟩
    have hm2:ff.2.1+m<=ll.2.1:=by lia
    have em:(ff.2.1:Int)+(m:Int)=((ff.2.1+m:Nat):Int):=by lia
    rw[em];have ci:ff.1+n < r:=by lia
    have cj:ff.2.1+m < w:=by lia
    generalize hii:ff.1+n=ii at ci hle hn2 hup ⊢;generalize hjj:ff.2.1+m=jj at cj hle hm2 ⊢;have g1:ii < ak.length:=by rw[hb.len];exact ci
    have hwi:ak[ii].length=w:=hb.iQ _ (ai _);have g2:jj < ak[ii].length:=by lia
    have hce:=cell_eq g1 g2;refine⟨_,rfl,_,rfl,pr,_,_,.str (S ak[ii]),rfl,rfl,aM.of (s3.trans iR _ _ hpr),aG (fY (by simp[g1])),_,rfl,ak[ii],_,ak[ii][jj],rfl,rfl,aE (aH (by lia)),aG (by simp[g2]),[ak[ii][jj]],[46],rfl,rfl,_,rfl,?_⟩;rw[<- hce];have nx:cell R ii jj≠46->∀H',aA H3 H'->∃v5:Option V,([some (.ref pr),some (.ref pb),some (.ref t),some (.ref Lc),some (.int (ii:Int)),some (.int (jj:Int))]:St)=[some (.ref pr),some (.ref pb),some (.ref t),some (.ref Lc),some (.int (ii:Int)),v5]/\aA H3 H'/\∀j,ff.2.1<=j->j < ff.2.1+(m+1)->cell R ii j≠46:=λz H' sH=>⟨_,rfl,sH,λj y1 y2=>by
     by_cases y:j=jj
     ·rw[y];exact z
     ·exact hle j y1 (by lia)⟩
    by_cases hc:cell ak ii jj=46
    ·rw[ah (show [cell ak ii jj]=[46] by rw[hc])]
     refine bI ⟨_,rfl,_,rfl,zsz 2,λg hg=>?_⟩;have kg:aA H5 (upd H5 g (HO.tup [.int (ii:Int),.int (jj:Int)])):=aA.upd hg;have eg2:upd H5 g (HO.tup [.int (ii:Int),.int (jj:Int)]) g=some (.tup [.int (ii:Int),.int (jj:Int)]):=au;have sg:=iR.trans kg;generalize upd H5 g (HO.tup [.int (ii:Int),.int (jj:Int)])=H6 at kg eg2 sg ⊢;refine⟨_,rfl,2,.tup [.int (ii:Int),.int (jj:Int)],_,by decide,.tup (aM.of eg2) (.cons (.int _) (.cons (.int _) .nil)),hDs H6 sg,_,rfl,?_⟩;simp only[if_true];by_cases YK:(ii,jj)∈ts.map eY
     ·rw[ah (xR (c:=(ii,jj)).mpr YK)]
      exact aX (nx (λz=>((hR ii jj ci cj).mp z).2 YK) H6 sg)
     ·rw[ae (λz=>YK (xR (c:=(ii,jj)).mp z))]
      refine bI ⟨_,rfl,_,rfl,zsz 3,λT hT=>?_⟩;refine q T 3 ii jj _ ((s3.trans sg).trans (aA.upd hT)) (.gap d1 d2 ?_) au;rw[hRR,ef,eg];exact⟨by lia,hn2,by lia,hm2,(hR ii jj ci cj).mpr ⟨hc,YK⟩,hup,λj y1 y2=>hle j y1 (by lia)⟩
    ·rw[ae (show ¬[cell ak ii jj]=[46] from λz=>hc (by injection z))]
     exact aX (aX (nx (λz=>hc ((hR ii jj ci cj).mp z).1) H5 iR))
   ·rintro σ H5 ⟨v5,rfl,iR,hle⟩
    refine⟨_,_,rfl,iR,λi j z1 z2 z3 z4=>?_⟩;by_cases z:i=ff.1+n
    ·rw[z];exact hle j z3 (by lia)
    ·exact hup i j z1 (by lia) z3 z4
  ·rintro σ H4 ⟨v4,v5,rfl,nJ,hup⟩
   have d3:qW (b_ ak ts) (gD ts).1 (fP ts).1 (gD ts).2.1 (fP ts).2.1:=by
    rw[hRR,ef,eg];exact λi j z1 z2 z3 z4=>hup i j z1 (by lia) z3 z4
   have s4:=s3.trans nJ;refine⟨_,rfl,_,rfl,_,rfl,pr,pb,Lc,ak,r,w,bi,bj,cs,ts.map eY,rfl,s4 _ _ hpr,hb,r1,r9,w1,w9,rK,s4 _ _ hpb,nJ _ _ Jr,Vj.mv nJ,PX,λH5 k5=>⟨_,rfl,?_⟩⟩;rw[afW];have s5:=s4.trans k5;cases hj:pR ak r w bi bj ts with
   | true=>exact aX ⟨zsz 3,λT hT=>q T 9 0 0 _ (s5.trans (aA.upd hT)) (.ok d1 d2 d3 hj) au⟩
   | false=>exact bI ⟨zsz 3,λT hT=>q T 4 0 0 _ (s5.trans (aA.upd hT)) (.mC d1 d2 d3 hj) au⟩
theorem adI {c:Nat}(h:Yl c):(([c].map PyProof.Rows.lo1=[c])->iy c=c)/\(¬([c].map PyProof.Rows.lo1=[c])->iy c=63):=by
 unfold iy PyProof.Rows.lo1;rw[iX];rcases h with h | h
 ·have h1:=h.1
  have h2:=h.2;rw[if_neg (by lia),if_neg (by lia)];exact⟨λ_=>rfl,λz=>absurd rfl z⟩
 ·rw[if_pos h,if_pos h]
  exact⟨λz=>by injection z with z;lia,λ_=>rfl⟩
def YL:Sp:=λvs H Q _=>∃(bY:List Nat) (t:Addr) (as:List Addr) (ts:List bA) (r w:Nat),vs=[.str (S bY),.ref t]/\bY.length<=63/\H t=some (.tup (as.map V.ref))/\cT H as ts/\(∀t∈ts,inB r w t)/\
 (∀tl,sO (bY.map λc=>[c]) (ts.map (·.2.2))=.inl tl->∀H',aA H H'->Q (.str (S [tl])) H')/\
 (∀left,sO (bY.map λc=>[c]) (ts.map (·.2.2))=.inr left->∀H',aA H H'->Q .non H')
theorem Js (D:aK K mg "_law_lacking" vA ["_law_rack_here","_law_laying"])(gP:mg "list"=none):bO P w K mg base "_law_lacking" 1 ["_law_rack_here","_law_laying"] YL:=by
 refine D.dz kI (λvs H Q E h=>?_) (λf bL A outer s H vs Q E hr h=>?_)
 ·obtain⟨bY,t,as,ts,r,w,rfl,_⟩:=h
  rfl
 ·obtain⟨bY,t,as,ts,r,w,rfl,h63,ht,hL,bT,qE,q⟩:=h
  have hal:=hL.len;refine⟨_,(aD (aQ (i:=2) kI.nd rfl (Or.inl rfl) (dR (sW rfl) (by rfl) gP e_ (aj (qv 0) aq))) (aD (dh bu rfl (dW (qv 1)) (lu rfl (bV (bH (i:=3) kI.nd rfl (Or.inl rfl)) (bV (bH (i:=4) kI.nd rfl (Or.inl rfl)) (bV (bH (i:=5) kI.nd rfl (Or.inl rfl)) iU)))) (aD (aQ (i:=6) kI.nd rfl (Or.inl rfl) (qv 5)) (aD (gn (bW (bw lU (qv 5) (lB bg c8 c_ nG (qv 5)) (aZ _)) (aF (aQ (i:=6) kI.nd rfl (Or.inl rfl) (bZ [63] (by decide +kernel)))) bC)) (aD (bW (bw oX (qv 6) (qv 2) rfl) (aF (aY (qv 6))) bC) (aF (dD (fX bX PySem.F.slot_list_remove PySem.F.type_list_remove Kl (qv 2) (aj (qv 6) aq)))))))) (aF (aY ur)))),?_⟩;refine⟨_,rfl,bY,rfl,by lia,λL hL0=>?_⟩;have s1:aA H (upd H L (.lst (Ts (bY.map λc=>[c])))):=aA.upd hL0;refine⟨_,rfl,t,rfl,⟨_,aM.of (s1 _ _ ht)⟩,jN (K:=K) (a:=t) (xs:=as.map V.ref) (λn σ H2=>∃(v3 v4 v5 v6:Option V) (us:AA),σ=[some (.str (S bY)),some (.ref t),some (.ref L),v3,v4,v5,v6]/\aA H H2/\H2 L=some (.lst (Ts us))/\us.length<=63/\sO (bY.map λc=>[c]) (ts.map (·.2.2))=sO us ((ts.map (·.2.2)).drop n))
   ⟨none,none,none,none,bY.map λc=>[c],rfl,s1,au,by rw[aa];exact h63,by rw[gu]⟩ (λn σ H2 _ h=>by obtain⟨_,_,_,_,_,_,sm,_⟩:=h;exact aM.of (sm _ _ ht)) ?_ ?_⟩
  ·rintro n x σ H2 hx ⟨v3,v4,v5,v6,us,rfl,sm,hL2,zZ,hgo⟩
   have hn:n < as.length:=by have:=(af.mp hx).1;simpa using this
   have hnt:n < ts.length:=by lia
   rw[aS,ac hn]at hx;have hx:V.ref as[n]=x:=ap hx;subst hx;obtain⟨_,en⟩:=fV (hL.mv sm) hnt;have hsg:=(bT _ (ai hnt)).2.2;have hdrop:(ts.map (·.2.2)).drop n=ts[n].2.2::(ts.map (·.2.2)).drop (n+1):=by rw[fv (by rw[aa];exact hnt),fh]
   rw[hdrop]at hgo;generalize hz:ts[n]=z at en hsg hgo;refine⟨as[n],_,rfl,aM.of en,rfl,_,_,rfl,_,_,rfl,_,_,rfl,rfl,?_⟩;refine⟨_,rfl,?_⟩;refine⟨λσ' H'=>H'=H2/\σ'=[some (.str (S bY)),some (.ref t),some (.ref L),some (.int z.1),some (.int z.2.1),some (.str (S [z.2.2])),some (.str (S [iy z.2.2]))],?_,?_⟩
   ·obtain⟨k1,k2⟩:=adI (Pq hsg)
    refine⟨_,rfl,_,rfl,rfl,[z.2.2],rfl,rfl,by show 1<=1000;decide,λd hd=>by rw[aw.mp hd];exact hsg.lt,[z.2.2],_,rfl,rfl,_,rfl,?_⟩;by_cases e:[z.2.2]=[z.2.2].map PyProof.Rows.lo1
    ·rw[ah e]
     exact aX ⟨rfl,by rw[k1 e.symm];rfl⟩
    ·rw[ae e]
     exact bI ⟨rfl,by rw[k2 λy=>e y.symm];rfl⟩
   ·rintro σ' H' ⟨rfl,rfl⟩
    refine⟨_,rfl,_,rfl,L,Ts us,rfl,.inl (aU.of hL2),rfl,Dw us,?_⟩;rw[Pg];by_cases hm:[iy z.2.2]∈us
    ·rw[ah hm]
     refine⟨_,rfl,aX ⟨_,rfl,.inl ⟨rfl,_,aU.of hL2⟩,_,rfl,L,us,[iy z.2.2],rfl,rfl,hL2,hm,by lia,?_⟩⟩;refine⟨_,_,_,_,us.erase [iy z.2.2],rfl,sm.cD hL0,au,?_,?_⟩
     ·have:=(List.erase_sublist (a:=[iy z.2.2]) (l:=us)).length_le;lia
     ·rw[hgo];show (if _ then _ else _)=_;rw[if_pos hm]
    ·rw[ae hm]
     have e:sO (bY.map λc=>[c]) (ts.map (·.2.2))=.inl (iy z.2.2):=by rw[hgo];show (if _ then _ else _)=_;rw[if_neg hm]
     exact⟨_,rfl,bI ⟨_,rfl,qE _ e _ sm⟩⟩
  ·rintro σ H2 ⟨v3,v4,v5,v6,us,rfl,sm,hL2,zZ,hgo⟩
   rw[aa,hal,fN (by rw[aa];exact al _)]at hgo;exact q us hgo _ sm
theorem Ro {ak:AA}{ts:List bA}(h:ts.length<=7):(iH ak ts).length<=8:=by
 refine b9 (ft _ _) ?_;rw[aa];unfold qx;rw[a_,aa,aa,ay];lia
theorem oh.lt {l:List Nat}(h:oh l):∀c∈l,c < 128:=λc hc=>by have:=(h.az c hc).2;lia
theorem YM {r w:Nat}{R:AA}(hb:Blk r w R)(r9:r<=9)(w9:w<=9){i j wy:Nat}(hi:i < r):(m_ R i j wy).2.2.2.length<=9:=by
 have hll:=pB hb hi (j:=j) (way:=(wy:Int));have h9:(lineOf R i j (wy:Int)).length<=9:=by rw[hll];split <;> assumption
 show (dM _++fG _).length<=9;have a1:=oK ((lineOf R i j (wy:Int)).take (placeOf i j (wy:Int)));have a2:=vH ((lineOf R i j (wy:Int)).drop (placeOf i j (wy:Int)));rw[ay]at a1;rw[bt]at a2;rw[a_];lia
theorem afY {c:Nat}(h:pP c):isLet (PyProof.Rows.lo1 c):=by
 unfold PyProof.Rows.lo1;rcases Pq h with h | h
 ·have h1:=h.1
  have h2:=h.2;rw[if_neg (by lia)];exact h
 ·rw[if_pos h];exact⟨by lia,by lia⟩
theorem aaY {r w:Nat}{ak:AA}{ts:List bA}(hb:Blk r w (b_ ak ts))(hp:∀l∈b_ ak ts,∀c∈l,rG c)(r9:r<=9)(w9:w<=9)(bT:∀t∈ts,inB r w t):∀q∈iH ak ts,oh (Bp q):=λq hq=>by
 have hsg:=yL hb hp bT q hq;obtain⟨hm,hl⟩:=fT.mp hq;obtain⟨a,ha,e⟩:=bp.mp hm;have hi:a.1 < r:=by
  rcases a7.mp ha with z | z
  ·obtain⟨u,hu,rfl⟩:=bp.mp z
   exact(bT u (cE hu)).1
  ·obtain⟨u,hu,rfl⟩:=bp.mp z
   exact(bT u hu).1
 have h9:q.2.2.2.length<=9:=by rw[<- e];exact YM hb r9 w9 hi
 have h2:=cq hl;unfold Bp;refine⟨by rw[aa];lia,by rw[aa];exact h9,λc hc=>?_⟩;obtain⟨d,hd,rfl⟩:=bp.mp hc;exact afY (hsg d hd)
def YQ:Sp:=λvs H Q _=>∃(pr t Lw:Addr) (ak ws:AA) (r w:Nat) (as:List Addr) (ts:List bA),vs=[.ref pr,.ref t,.ref Lw]/\H pr=some (.tup (Ts ak))/\Blk r w ak/\r<=9/\w<=9/\(∀l∈ak,∀c∈l,rG c)/\H t=some (.tup (as.map V.ref))/\cT H as ts/\(∀t∈ts,inB r w t)/\0 < ts.length/\ts.length<=7/\H Lw=some (.lst (Ts ws))/\
 (∀l,oO ak ws ts=some l->∀H',aA H H'->Q (.str (S l)) H')/\(oO ak ws ts=none->∀H',aA H H'->Q .non H')
open Classical in
theorem Vk (D:aK K mg "_law_missing" vB ["_law_rows_here","_law_laying","_law_words_here"])(Jt:bO P w K mg base "_law_words" 2 ["_law_rows_here","_law_laying"] E_):bO P w K mg base "_law_missing" 3 ["_law_rows_here","_law_laying","_law_words_here"] YQ:=by
 refine D.dz mV (λvs H Q E h=>?_) (λf bL A outer s H vs Q E hr h=>?_)
 ·obtain⟨pr,t,Lw,ak,ws,r,w,as,ts,rfl,_⟩:=h
  rfl
 ·obtain⟨pr,t,Lw,ak,ws,r,w,as,ts,rfl,hpr,hb,r9,w9,rK,ht,hL,bT,h0,h7,hLw,qS,q⟩:=h
  have hb':=jE hb bT;have hp':=uM hb bT rK;have hsg:=yL hb' hp' bT;have K8:=wD hb' r9 w9 bT;have hwl:=Hx (ak:=ak) h7;have hlt:∀q∈iH ak ts,∀c∈q.2.2.2,c < 128:=λq hq c hc=>(hsg q hq c hc).lt;refine⟨_,(aD (aQ (i:=3) mV.nd rfl (Or.inl rfl) (aV Jt hr.mono rfl (aj (qv 0) (aj (qv 1) aq)))) (aD (dh bu rfl (dW (qv 3)) (lu rfl (bV (bH (i:=4) mV.nd rfl (Or.inl rfl)) (bV (bH (i:=5) mV.nd rfl (Or.inl rfl)) (bV (bH (i:=6) mV.nd rfl (Or.inl rfl)) (bV (bH (i:=7) mV.nd rfl (Or.inl rfl)) iU))))) (aF (bW (bw oX (lB bg c8 c_ nG (qv 7)) (qv 2) rfl) (aF (aY (lB bg c8 c_ nG (qv 7)))) bC))) (aD (bW (bw (Gz hr.units) (qv 3) (cH aq) (aZ _)) (aF (aY (lB bg c8 c_ nG (aP bf (aP bf (qv 1) aB (λ_ _=>rfl)) aB (λ_ _=>rfl))))) bC) (aF (aY ur))))),?_⟩;refine⟨_,rfl,_,rfl,pr,t,as,ts,r,w,ak,rfl,hpr,hb,r9,w9,ht,hL,bT,h0,h7,λT1 b1 H1 s1 hT1 Bq=>?_⟩;generalize hW:iH ak ts=W at hsg K8 hwl hlt Bq;have pQ:=Bq.len;refine⟨_,rfl,T1,rfl,⟨_,aM.of hT1⟩,jN (K:=K) (a:=T1) (xs:=b1.map V.ref) (λn σ H'=>∃v4 v5 v6 v7:Option V,σ=[some (.ref pr),some (.ref t),some (.ref Lw),some (.ref T1),v4,v5,v6,v7]/\aA H1 H'/\∀x∈W.take n,yM ws x=false)
   ⟨none,none,none,none,rfl,aA.refl _,λx hx=>by simp at hx⟩ (λn σ H' _ h=>by obtain⟨_,_,_,_,_,sm,_⟩:=h;exact aM.of (sm _ _ hT1)) ?_ ?_⟩
  ·rintro n x σ H' hx ⟨v4,v5,v6,v7,rfl,sm,hfr⟩
   have hn:n < b1.length:=by have:=(af.mp hx).1;simpa using this
   have vO:n < W.length:=by lia
   rw[aS,ac hn]at hx;have hx:V.ref b1[n]=x:=ap hx;subst hx;have en:=(Bq.mv sm).at_ n _ _ (ac hn) (ac vO);have hm:=ai vO;have afV:=K8 _ hm;have P0:=hlt _ hm;refine⟨b1[n],_,rfl,aM.of en,rfl,_,_,rfl,_,_,rfl,_,_,rfl,_,_,rfl,rfl,?_⟩;refine⟨_,rfl,rfl,W[n].2.2.2,rfl,rfl,by lia,P0,_,rfl,Lw,Ts ws,rfl,.inl (aU.of ((s1.trans sm) _ _ hLw)),rfl,Dw ws,_,rfl,?_⟩;rw[Pg];cases hq0:yM ws W[n] with
   | true=>
    rw[show (!decide (W[n].2.2.2.map PyProof.Rows.lo1∈ws))=true from hq0];refine bI ⟨_,rfl,rfl,W[n].2.2.2,rfl,rfl,by lia,P0,qS _ ?_ _ (s1.trans sm)⟩;unfold oO;rw[hW,if_neg (λz=>by rw[z]at vO;exact absurd vO (Nat.not_lt_zero _)),Dr vO hfr hq0];rfl
   | false=>
    rw[show (!decide (W[n].2.2.2.map PyProof.Rows.lo1∈ws))=false from hq0];refine aX ⟨_,_,_,_,rfl,sm,λx hx=>?_⟩;rw[bo,ac vO]at hx;rcases a7.mp hx with z | z
    ·exact hfr x z
    ·rw[aw.mp z];exact hq0
  ·rintro σ H2 ⟨v4,v5,v6,v7,rfl,sm,hfr⟩
   rw[aa,pQ,bz]at hfr;refine⟨_,rfl,zsz 0,λZ hZ=>?_⟩;have sZ:aA H2 (upd H2 Z (HO.tup [])):=aA.upd hZ;have eZ:upd H2 Z (HO.tup []) Z=some (.tup []):=au;have hT2:=sZ _ _ (sm _ _ hT1);have Pk:=(Bq.mv sm).mv sZ;have jJ:=(s1.trans sm).trans sZ;generalize upd H2 Z (HO.tup [])=H3 at sZ eZ hT2 Pk jJ ⊢;refine⟨2,.tup (W.map dQ),.tup [],by decide,.tup (aM.of hT2) (dw.ofQ Pk hlt),.tup (aM.of eZ) .nil,_,rfl,?_⟩;cases Hz:W with
   | nil=>
    simp only[kx,decide_true];obtain⟨g0,e0⟩:=fV (hL.mv jJ) h0;have hh:gD ts=ts[0]:=kY h0;have hs0:=(bT _ (ai h0)).2.2;refine bI ⟨_,rfl,t,_,_,.ref as[0],rfl,rfl,aM.of (jJ _ _ ht),aG (j:=0) (by simp[g0]),as[0],_,_,_,rfl,rfl,aM.of e0,aG (j:=2) rfl,rfl,[ts[0].2.2],rfl,rfl,by show 1<=1000;decide,λd hd=>by rw[aw.mp hd];exact hs0.lt,qS _ ?_ _ jJ⟩;unfold oO;rw[if_pos (hW.trans Hz),hh]
   | cons q0 Wr=>
    have hne:¬(Dt.tup (W.map dQ)=Dt.tup []):=λz=>by rw[Hz]at z;injection z with z;cases z
    rw[<- Hz,ae hne];refine aX (q ?_ _ jJ);unfold oO;rw[if_neg (by rw[hW,Hz];simp),hW,Du hfr];rfl
theorem adJ {xs:List V}{b:Nat}(h:b<=xs.length):n6 xs none (some (b:Int))=xs.take b:=by
 unfold n6;rw[HT.qe,HT.uh,ia h];simp
theorem YS {xs:List V}{a:Nat}(h:a<=xs.length):n6 xs (some (a:Int)) none=xs.drop a:=by
 unfold n6;rw[HT.qe,HT.uh,ia h,be (by rw[bt];lia)]
abbrev S9:=List (List Key × V)
def DK (R W:Nat)(kv:List Key × V):Prop:=∃r c z:Nat,kv=([Sum.inl (r:Int),Sum.inl (c:Int)],.str (S [z]))/\r < R/\c < W/\pP z
theorem aaZ {R W:Nat}{kvs:S9}{k:List Key}{v:V}(h:∀kv∈kvs,DK R W kv)(hk:DK R W (k,v)):∀kv∈putK kvs k v,DK R W kv:=by
 unfold putK;intro kv hkv
 split at hkv
 ·obtain⟨p,hp,rfl⟩:=bp.mp hkv
  split
  ·rename_i e
   rw[e];exact hk
  ·exact h p hp
 ·rcases a7.mp hkv with z | z
  ·exact h _ z
  ·rw[aw.mp z];exact hk
theorem adK (kvs:S9)(k:List Key)(v:V):0 < (putK kvs k v).length:=by
 unfold putK
 split
 ·rename_i e
  rw[aa];cases kvs with
  | nil=>simp at e
  | cons=>simp
 ·simp
theorem adL {kvs:S9}{k:List Key}(h:k∈kvs.map (·.1)):∃v,j5 kvs k=some v/\(k,v)∈kvs:=by
 induction kvs with
 | nil=>simp at h
 | cons p r ih=>
  by_cases e:p.1=k
  ·exact⟨p.2,um e,by rw[<- e];exact bE⟩
  ·rw[bv]at h
   rcases bq.mp h with z | z
   ·exact absurd z.symm e
   ·obtain⟨v,a,b⟩:=ih z
    exact⟨v,by rw[uo e];exact a,bb _ b⟩
def rkK (k:List Key):Nat:=match k with
 | [.inl x,.inl y]=>x.toNat*1000+y.toNat
 | _=>0
def P_ (H:Hp)(a:Addr):Nat:=match H a with
 | some (.tup [.int x,.int y])=>x.toNat*1000+y.toNat
 | _=>0
theorem adM {R W:Nat}{H:Hp}:∀{kvs:S9} {bs:List Addr},(∀kv∈kvs,DK R W kv)->Paired (λ(k:List Key) (b:Addr)=>H b=some (.tup (k.map kV))) (kvs.map (·.1)) bs->
  bs.map (P_ H)=(kvs.map (·.1)).map rkK/\∀b∈bs,∃r c:Nat,[Sum.inl (r:Int),Sum.inl (c:Int)]∈kvs.map (·.1)/\H b=some (.tup [.int r,.int c])/\P_ H b=r*1000+c/\r < R/\c < W:=by
 intro kvs
 induction kvs with
 | nil=>
  intro bs _ p;cases p;exact⟨rfl,λb hb=>by simp at hb⟩
 | cons kv kvs ih=>
  intro bs g p;cases p with
  | @cons _ b _ bs hb p=>
   obtain⟨i1,i2⟩:=ih (λx hx=>g x (bb _ hx)) p;obtain⟨r,c,z,rfl,r9,c9,z9⟩:=g kv bE;have hb':H b=some (.tup [.int r,.int c]):=hb;have e1:P_ H b=r*1000+c:=by unfold P_;rw[hb'];rfl
   refine⟨by rw[bv,bv,bv,i1,e1];rfl,λx hx=>?_⟩;rcases bq.mp hx with y | y
   ·subst y
    exact⟨r,c,bE,hb',e1,r9,c9⟩
   ·obtain⟨r,c,a1,a2⟩:=i2 x y
    exact⟨r,c,bb _ a1,a2⟩
theorem ag1 {R W:Nat}(hW:W<=9):∀{kvs:S9},(∀kv∈kvs,DK R W kv)->(kvs.map (·.1)).Nodup->((kvs.map (·.1)).map rkK).Nodup:=by
 intro kvs
 induction kvs with
 | nil=>exact λ_ _=>gt
 | cons kv kvs ih=>
  intro g nd;rw[bv]at nd;obtain⟨n1,n2⟩:=eR.mp nd;rw[bv,bv];refine eR.mpr ⟨λhm=>n1 ?_,ih (λx hx=>g x (bb _ hx)) n2⟩;obtain⟨k,hk,e⟩:=bp.mp hm;obtain⟨kv',hkv',rfl⟩:=bp.mp hk;obtain⟨r,c,z,rfl,r9,c9,_⟩:=g kv bE;obtain⟨r',c',z',e',r9',c9',_⟩:=g kv' (bb _ hkv');rw[e']at e;have e2:r'*1000+c'=r*1000+c:=e;have er:r'=r:=by lia
  have ec:c'=c:=by lia
  have:kv'.1=[Sum.inl (r:Int),Sum.inl (c:Int)]:=by rw[e',er,ec]
  rw[<- this];exact hk
structure mY (H0 H:Hp)(ps:List Addr)(ts:List bA):Prop where
 len:ps.length=ts.length
 nd:ps.Nodup
 fr:∀p∈ps,H0 p=none
 at_:∀(i:Nat) (p:Addr) (t:bA),ps[i]?=some p->ts[i]?=some t->H p=some (.lst [.int t.1,.int t.2.1,.str (S [t.2.2])])
theorem mY.mv {H0 H H':Hp}{ps:List Addr}{ts:List bA}(h:mY H0 H ps ts)(k:∀p∈ps,H' p=H p):mY H0 H' ps ts:=
 ⟨h.len,h.nd,h.fr,λi p t h1 h2=>by rw[k p (bc h1)];exact h.at_ i p t h1 h2⟩
theorem mY.KH {H0 H H':Hp}{ps:List Addr}{ts:List bA}(h:mY H0 H ps ts)(k:aA H H'):mY H0 H' ps ts:=
 ⟨h.len,h.nd,h.fr,λi p t h1 h2=>k _ _ (h.at_ i p t h1 h2)⟩
theorem mY.set {H0 H:Hp}{ps:List Addr}{ts:List bA}(h:mY H0 H ps ts){k:Nat}(hk:k < ps.length)(t':bA):mY H0 (upd H ps[k] (.lst [.int t'.1,.int t'.2.1,.str (S [t'.2.2])])) ps (ts.set k t'):=by
 refine⟨by rw[dP];exact h.len,h.nd,h.fr,λi p t h1 h2=>?_⟩;by_cases e:i=k
 ·subst e
  rw[ac hk]at h1;rw[e8 (by rw[<- h.len];exact hk)]at h2;rw[<- ap h1,<- ap h2,au]
 ·rw[eJ (λz=>e z.symm)]at h2
  have hi:i < ps.length:=(af.mp h1).1;have e1:p=ps[i]:=by rw[ac hi]at h1;exact(ap h1).symm
  rw[aN (by rw[e1];exact λz=>e ((lI h.nd).mp z))];exact h.at_ i p t h1 h2
theorem mY.get {H0 H:Hp}{ps:List Addr}{ts:List bA}(h:mY H0 H ps ts){k:Nat}(hk:k < ps.length):∃hk2:k < ts.length,H ps[k]=some (.lst [.int ts[k].1,.int ts[k].2.1,.str (S [ts[k].2.2])]):=
 ⟨by rw[<- h.len];exact hk,h.at_ k _ _ (ac hk) (ac _)⟩
theorem mY.sub {H0 H:Hp}{ps:List Addr}{ts:List bA}(h:mY H0 H ps ts)(a b:Nat)(hab:a<=b):mY H0 H (ps.take a++ps.drop b) (ts.take a++ts.drop b):=by
 refine⟨by rw[a_,a_,ay,ay,bt,bt,h.len],?_,λp hp=>?_,λi p t h1 h2=>?_⟩
 ·have:(ps.take a++ps.drop b).Sublist ps:=by
   have e:=km a ps;rw[show ps.drop b=(ps.drop a).drop (b-a) by rw[List.drop_drop];congr 1;lia];exact(List.Sublist.append (List.Sublist.refl _) (List.drop_sublist _ _)).trans (by rw[e];exact List.Sublist.refl _)
  exact this.nodup h.nd
 ·rcases a7.mp hp with z | z
  ·exact h.fr p (cE z)
  ·exact h.fr p (gp z)
 ·have hl:=h.len
  by_cases c:i < (ps.take a).length
  ·rw[cy c,iO (by rw[ay]at c;lia)]at h1
   rw[cy (by rw[ay]at c ⊢;lia),iO (by rw[ay]at c;lia)]at h2;exact h.at_ i p t h1 h2
  ·rw[ck (by lia),eI]at h1
   rw[ck (by rw[ay]at c ⊢;lia),eI]at h2;have e:(ps.take a).length=(ts.take a).length:=by rw[ay,ay,hl]
   rw[<- e]at h2;exact h.at_ _ p t h1 h2
theorem YT {R:Addr}{H H1:Hp}{x y1 y2 y3:Int}{ps:List Addr}{ts:List bA}(hR:H R=some (.lst [.int x]))(s:aA H H1)(hl:mY H H1 ps ts) :
  aA (upd H R (.lst [.int y3])) (upd (upd (upd H1 R (.lst [.int y1])) R (.lst [.int y2])) R (.lst [.int y3]))/\mY (upd H R (.lst [.int y3])) (upd (upd (upd H1 R (.lst [.int y1])) R (.lst [.int y2])) R (.lst [.int y3])) ps ts:=by
 have ne:∀p∈ps,p≠R:=λp hp z=>by have:=hl.fr p hp;rw[z,hR]at this;cases this
 refine⟨λb o e=>?_,hl.len,hl.nd,λp hp=>?_,λi p t h1 h2=>?_⟩
 ·by_cases z:b=R
  ·rw[z,au]at e;rw[z,au];exact e
  ·rw[aN z]at e;rw[aN z,aN z,aN z];exact s _ _ e
 ·rw[aN (ne p hp)];exact hl.fr p hp
 ·have n:=ne p (bc h1)
  rw[aN n,aN n,aN n];exact hl.at_ i p t h1 h2
def YW:Sp:=λvs H Q _=>∃(t R pr:Addr) (x:Int) (ak:AA) (r w:Nat) (as:List Addr) (ts:List bA),vs=[.ref t,.ref R,.ref pr]/\H R=some (.lst [.int x])/\H pr=some (.tup (Ts ak))/\Blk r w ak/\1<=r/\r<=9/\1<=w/\w<=9/\H t=some (.tup (as.map V.ref))/\cT H as ts/\(∀t∈ts,inB r w t)/\0 < ts.length/\ts.length<=7/\
 ∀(p:Addr) (as:List Addr) (ts:List bA) (H':Hp),Kp R H H'->H' p=some (.tup (as.map V.ref))->cT H' as ts->(∀t∈ts,inB r w t)->(ts.map rk).Pairwise (· < ·)->0 < ts.length->ts.length<=7->Q (.ref p) H'
theorem adN (D:aK K mg "_law_bent" G_ ["_law_laying","_law_rest_here","_law_rows_here"])(bx:mg "len"=none)(gP:mg "list"=none)(cF:mg "tuple"=none)(k_:mg "sorted"=none)(cL:bO P w K mg base "_law_take" 1 ["_law_rest_here","_law_base"] lC):bO P w K mg base "_law_bent" 2 ["_law_laying","_law_rest_here","_law_rows_here"] YW:=by
 refine D.dz lF (λvs H Q E h=>?_) (λf bL A outer s H vs Q E hr h=>?_)
 ·obtain⟨t,R,pr,x,ak,r,w,as,ts,rfl,_⟩:=h
  rfl
 ·obtain⟨t,R,pr,x,ak,r,w,as,ts,rfl,hR,hpr,hb,r1,r9,w1,w9,ht,hL,bT,h0,h7,q⟩:=h
  have hu:=T7 hr;have hal:=hL.len;have jx:(Ts ak).length=r:=by rw[aa,hb.len]
  have hr0:0 < ak.length:=by rw[hb.len];lia
  have hw0:ak[0].length=w:=hb.iQ _ (ai _);have hrw:r*w<=81:=eK r9 w9;have aia:1<=r*w:=eK r1 w1;have KJ:pr≠R:=λz=>by rw[z,hR]at hpr;cases hpr
  refine⟨_,(aD (xu (ix:=3) (ns:=["_law_one"]) lF.nd rfl (Or.inl rfl) rfl (fH.of ["_law_laying","_law_rest_here","_law_rows_here","_law_some","_law_bend","_law_at","_law_spot","_law_found","_law_row","_law_column","_law_sign_here"] [] (by kernel_rfl)) (dW (qv 0)) (λ_ _ _ _ _=>(oG (show (["_law_one","_law_laying","_law_rest_here","_law_rows_here","_law_some","_law_bend","_law_at","_law_spot","_law_found","_law_row","_law_column","_law_sign_here"]:List Str).Nodup by decide +kernel) rfl (by rfl))) (λ_ _ _ _ _=>cZ) (λ_ _ _ _ _=>(dR (Lj K) (by rfl) gP e_ (aj (qv 0) aq)))) (aD (aQ (i:=4) lF.nd rfl (Or.inl rfl) (aV cL hr.mono rfl (aj (qv 1) (aj aB aq)))) (aD (aQ (i:=5) lF.nd rfl (Or.inl rfl) (aV cL hr.mono rfl (aj (qv 1) (aj (aO bQ (by rfl) bx aI (aj (qv 3) aq)) aq)))) (aD (aQ (i:=6) lF.nd rfl (Or.inl rfl) (aV cL hr.mono rfl (aj (qv 1) (aj (bB qY (aO bQ (by rfl) bx aI (aj (qv 2) aq)) (aO cJ (by rfl) bx aI (aj (aP bf (qv 2) aB (λ_ _=>rfl)) aq))) aq)))) (aD (gn (bW (QW.qt (j7 (bw fW (qv 4) aB (aZ _)) (jc (bw fW (qv 4) aB (aZ _))))) (aF (rB (bB pZ (qv 6) (aO cJ (by rfl) bx aI (aj (aP bf (qv 2) aB (λ_ _=>rfl)) aq))) (uF (aP dB (qv 3) (qv 5) (λ_ _=>rfl)) aB set_list))) bC)) (aD (gn (bW (QW.qt (j7 (bw fW (qv 4) aB (aZ _)) (jc (bw fW (qv 4) aB (aZ _))))) (aF (rB (bB oU (qv 6) (aO cJ (by rfl) bx aI (aj (aP bf (qv 2) aB (λ_ _=>rfl)) aq))) (uF (aP dB (qv 3) (qv 5) (λ_ _=>rfl)) aB set_list))) bC)) (aD (gn (bW (QW.qt (jq (bw fW (qv 4) aB (aZ _)) (lD (bw Gq (aO bQ (by rfl) bx aI (aj (qv 3) aq)) aB (aZ _))))) (aF (aQ (i:=3) lF.nd rfl (Or.inl rfl) (bB Gv (j8 xg (qv 3) oF (lE (bB dN aB (bB oU (qv 5) (bB iD (aO bQ (by rfl) bx aI (aj (qv 3) aq)) aB))))) (j8 xg (qv 3) (lE (bB dN aB (bB oU (qv 5) (bB iD (aO bQ (by rfl) bx aI (aj (qv 3) aq)) aB)))) oF)))) bC)) (aD (aQ (i:=7) lF.nd rfl (Or.inr rfl) aal) (aD (dh bu rfl (gF (qv 3)) (afC rfl (bV (bH (i:=8) lF.nd rfl (Or.inl rfl)) (bV (bH (i:=9) lF.nd rfl (Or.inl rfl)) (bV (bH (i:=10) lF.nd rfl (Or.inl rfl)) iU)))) (aF (RQ hu (qv 7) (cH (aj (qv 8) (aj (qv 9) aq))) (qv 10) rfl))) (aF (aY (dR gJ (by rfl) cF cv (aj (fJ (ns:=["_law_row","_law_column"]) rfl (fH.of ["_law_laying","_law_rest_here","_law_rows_here","_law_some","_law_bend","_law_at","_law_spot","_law_found",".8",".9","_law_sign_here"] [8,9] (by kernel_rfl)) (gF (aO Nz (by rfl) k_ i6 (aj (dR (Ul rfl) (by rfl) gP e_ (aj (qv 7) aq)) aq))) (λ_ _ _ _ _=>(tY K rfl (show (["_law_row","_law_column","_law_laying","_law_rest_here","_law_rows_here","_law_some","_law_bend","_law_at","_law_spot","_law_found",".8",".9","_law_sign_here"]:List Str).Nodup by decide +kernel) rfl rfl (by rfl) (by rfl))) (λ_ _ _ _ _=>cZ) (λ_ _ _ _ _=>(cH (aj (qv 0) (aj (qv 1) (aj (ac2 hu (qv 9) (cH (aj (qv 0) (aj (qv 1) aq))) (λ_ _=>rfl)) aq)))))) aq))))))))))))),?_⟩;refine⟨_,rfl,t,rfl,⟨_,aM.of ht⟩,λL hL0=>sV (K:=K) (a:=t) (f:=eU [] 0) (tt:=iB) (xs:=as.map V.ref) (λn ys H'=>∃ps:List Addr,ys=ps.map V.ref/\H' L=some (.lst ys)/\aA H H'/\mY H H' ps (ts.take n)/\L∉ps)
   ⟨[],rfl,au,aA.upd hL0,⟨by simp,gt,λp h=>by simp at h,λi p t h=>by simp at h⟩,by simp⟩ (λn ys H' _ h=>by obtain⟨_,_,_,sm,_⟩:=h;exact aM.of (sm _ _ ht)) ?_ ?_⟩
  ·rintro n x ys H' hx ⟨ps,rfl,hL',sm,hl3,nL⟩
   have hn:n < as.length:=by have:=(af.mp hx).1;simpa using this
   have hnt:n < ts.length:=by lia
   rw[aS,ac hn]at hx;have hx:V.ref as[n]=x:=ap hx;subst hx;obtain⟨_,en⟩:=fV (hL.mv sm) hnt;have hpl:ps.length=n:=by rw[hl3.len,ay];lia
   refine Ug ⟨_,rfl,as[n],_,rfl,.inr (aM.of en),λp hp=>?_⟩;have nLp:L≠p:=λz=>by rw[<- z,hL']at hp;cases hp
   have npp:p∉ps:=λz=>by
    obtain⟨k,hk,e⟩:=dm.mp z;obtain⟨_,e2⟩:=hl3.get hk;rw[e,hp]at e2;cases e2
   have kp:aA H' (upd H' p (HO.lst [.int ts[n].1,.int ts[n].2.1,.str (S [ts[n].2.2])])):=aA.upd hp;refine⟨by rw[aN nLp];exact hL',by rw[aa];exact aH (by lia),dZ.mk (by rw[aa];exact hn) ⟨ps++[p],by simp,au,(sm.trans kp).cD hL0,?_,?_⟩⟩
   ·rw[show ts.take (n+1)=ts.take n++[ts[n]] by rw[bo,ac hnt];rfl]
    refine mY.mv (H:=upd H' p (HO.lst [.int ts[n].1,.int ts[n].2.1,.str (S [ts[n].2.2])])) ⟨by simp[hl3.len];lia,?_,λy hy=>?_,λi y u h1 h2=>?_⟩ λy hy=>aN λz=>?_
    ·rw[List.nodup_append]
     refine⟨hl3.nd,by simp,λa ha b hb=>?_⟩;rw[aw.mp hb];exact λz=>npp (z ▸ ha)
    ·rcases a7.mp hy with z | z
     ·exact hl3.fr y z
     ·rw[aw.mp z];exact sm.free hp
    ·by_cases ci:i < ps.length
     ·rw[cy ci]at h1
      rw[cy (by rw[<- hl3.len];exact ci)]at h2;exact kp _ _ (hl3.at_ i y u h1 h2)
     ·rw[ck (by lia)]at h1
      rw[ck (by rw[<- hl3.len];lia),<- hl3.len]at h2
      match i-ps.length,h1,h2 with
      | 0,h1,h2=>
       rw[<- ap h1,<- ap h2];exact au
      | m+1,h1,_=>simp at h1
    ·rcases a7.mp hy with u | u
     ·exact nL (z ▸ u)
     ·exact nLp (z.symm.trans (aw.mp u))
   ·intro z
    rcases a7.mp z with u | u
    ·exact nL u
    ·exact nLp (aw.mp u)
  rintro ys H1 ⟨ps,rfl,hL1,s1,hl3,nL⟩;rw[aa,hal,bz]at hl3;have hpl:ps.length=ts.length:=hl3.len;have hpm:(ps.map V.ref).length=ps.length:=aa ..;have Bs:L≠R:=λz=>by rw[z,hR]at hL0;cases hL0
  have xO:=s1 _ _ hR;have afZ:=s1 _ _ hpr;refine⟨_,rfl,R,x,6,rfl,xO,by decide,by decide,λbd y1 hbd=>?_⟩;refine⟨_,rfl,_,rfl,L,_,rfl,.inl (aU.of (by rw[aN Bs];exact hL1)),R,y1,(ps.map V.ref).length,rfl,au,by lia,by lia,λk y2 hk0=>?_⟩;have hk:k < ps.length:=by lia
  have em:((Ts ak).length:Int)*((ak[0].length:Nat):Int)=((r*w:Nat):Int):=by rw[jx,hw0];exact(Int.natCast_mul r w).symm
  have aa0:upd (upd H1 R (.lst [.int y1])) R (.lst [.int y2]) pr=some (.tup (Ts ak)):=by rw[aN KJ,aN KJ];exact afZ
  refine⟨_,rfl,_,rfl,pr,_,rfl,.inr (aM.of aa0),_,rfl,pr,_,_,.str (S ak[0]),rfl,rfl,aM.of aa0,aG (j:=0) (fY (by simp[hr0])),_,rfl,aE (aH (by lia)),_,_,rfl,rfl,.inl ⟨by lia,by lia⟩,R,y2,r*w,by show [V.ref R,V.int (((Ts ak).length:Int)*((ak[0].length:Nat):Int))]=_;rw[em],au,by lia,by lia,λsp y3 hsp=>?_⟩;obtain⟨sn,aa1⟩:=YT (y1:=y1) (y2:=y2) (y3:=y3) hR s1 hl3;have lN:upd (upd (upd H1 R (.lst [.int y1])) R (.lst [.int y2])) R (.lst [.int y3]) L=some (.lst (ps.map V.ref)):=by rw[aN Bs,aN Bs,aN Bs];exact hL1
  have af0:upd H R (.lst [.int y3]) pr=some (.tup (Ts ak)):=by rw[aN KJ];exact hpr
  have kn:Kp R H (upd H R (.lst [.int y3])):=Kp.up y3;generalize upd (upd (upd H1 R (.lst [.int y1])) R (.lst [.int y2])) R (.lst [.int y3])=Hm at sn aa1 lN ⊢;generalize upd H R (.lst [.int y3])=Hn at sn aa1 af0 kn;clear hl3 hL1 s1 hpr hR xO afZ aa0 ht hL hL0;have hpr:=af0;have hl3:=aa1;have hL1:=lN;have s1:=sn;have Vi:=s1 _ _ hpr;generalize Hm=H1 at *
  have hdiv:sp/w < r:=kD (by rw[lS];exact hsp);have hmod:sp%w < w:=Nat.mod_lt _ (by lia);have ediv:(sp:Int)/((ak[0].length:Nat):Int)=((sp/w:Nat):Int):=by rw[hw0];exact(Int.natCast_ediv sp w).symm
  have emod:(sp:Int)%((ak[0].length:Nat):Int)=((sp%w:Nat):Int):=by rw[hw0];exact(Int.natCast_emod sp w).symm
  have St1:∃S1:St->Hp->Prop,S1=λσ H'=>∃pJ:List bA,σ=[some (.ref t),some (.ref R),some (.ref pr),some (.ref L),some (.int bd),some (.int (k:Int)),some (.int (sp:Int)),none,none,none,none]/\aA Hn H'/\H' L=some (.lst (ps.map V.ref))/\mY Hn H' ps pJ/\(∀t∈pJ,inB r w t)/\pJ.length=ts.length:=⟨_,rfl⟩
  obtain⟨S1,S_⟩:=St1;have nLk:L≠ps[k]:=λz=>nL (by rw[z];exact ai _);have Qa:∀(pJ:List bA) (H':Hp),aA Hn H'->H' L=some (.lst (ps.map V.ref))->mY Hn H' ps pJ->(∀t∈pJ,inB r w t)->pJ.length=ts.length->∀(i0 j0:Nat),i0 < r->j0 < w->∀(hk2:k < pJ.length),S1 [some (.ref t),some (.ref R),some (.ref pr),some (.ref L),some (.int bd),some (.int (k:Int)),some (.int (sp:Int)),none,none,none,none] (upd H' ps[k] (.lst [.int (i0:Int),.int (j0:Int),.str (S [pJ[k].2.2])])):=by
   intro pJ H' sm hL' af2 yP hlen2 i0 j0 hi0 hj0 hk2;rw[S_];refine⟨pJ.set k (i0,j0,pJ[k].2.2),rfl,sm.cD (af2.fr _ (ai _)),by rw[aN nLk];exact hL',af2.set hk (i0,j0,pJ[k].2.2),λu hu=>?_,by rw[dP];exact hlen2⟩;rcases dv hu with z | z
   ·exact yP u z
   ·rw[z];exact⟨hi0,hj0,(yP _ (ai hk2)).2.2⟩
  have lz:ak[0].length<=sizeLine:=aE (aH (by lia));have lk3:∀x y z:V,([x,y,z]:List V).length=3:=λ_ _ _=>rfl;refine⟨S1,?_,?_⟩
  ·have stay:S1 [some (.ref t),some (.ref R),some (.ref pr),some (.ref L),some (.int bd),some (.int (k:Int)),some (.int (sp:Int)),none,none,none,none] H1:=by rw[S_];exact⟨ts,rfl,s1,hL1,hl3,bT,rfl⟩
   obtain⟨hk2,ekk⟩:=hl3.get hk;refine⟨_,rfl,rfl,_,rfl,iZ (λ_=>?_) (λ_=>⟨_,rfl,rfl,_,rfl,iZ (λ_=>?_) (λ_=>stay)⟩)⟩
   ·refine⟨_,rfl,_,rfl,pr,_,_,.str (S ak[0]),rfl,rfl,aM.of (Vi),aG (j:=0) (fY (by simp[hr0])),_,rfl,lz,_,_,rfl,rfl,⟨by lia,by lia⟩,_,rfl,_,rfl,L,_,_,.ref ps[k],rfl,rfl,aU.of hL1,aG (by simp[hk]),ps[k],_,_,0,rfl,rfl,ekk,rfl,?_⟩
    dsimp only;rw[ediv];exact Qa ts H1 s1 hL1 hl3 bT rfl (sp/w) ts[k].2.1 hdiv (bT _ (ai hk2)).2.1 hk2
   ·refine⟨_,rfl,_,rfl,pr,_,_,.str (S ak[0]),rfl,rfl,aM.of (Vi),aG (j:=0) (fY (by simp[hr0])),_,rfl,lz,_,_,rfl,rfl,⟨by lia,by lia⟩,_,rfl,_,rfl,L,_,_,.ref ps[k],rfl,rfl,aU.of hL1,aG (by simp[hk]),ps[k],_,_,0,rfl,rfl,ekk,rfl,?_⟩
    dsimp only;rw[ediv];exact Qa ts H1 s1 hL1 hl3 bT rfl (sp/w) ts[k].2.1 hdiv (bT _ (ai hk2)).2.1 hk2
  intro σ2 H2 hS;rw[S_]at hS;obtain⟨pJ,rfl,s2,hL2,Qc,yP,hlen2⟩:=hS;refine⟨S1,?_,?_⟩
  ·have stay:S1 [some (.ref t),some (.ref R),some (.ref pr),some (.ref L),some (.int bd),some (.int (k:Int)),some (.int (sp:Int)),none,none,none,none] H2:=by rw[S_];exact⟨pJ,rfl,s2,hL2,Qc,yP,hlen2⟩
   obtain⟨hk2,ekk⟩:=Qc.get hk;refine⟨_,rfl,rfl,_,rfl,iZ (λ_=>?_) (λ_=>⟨_,rfl,rfl,_,rfl,iZ (λ_=>?_) (λ_=>stay)⟩)⟩
   ·refine⟨_,rfl,_,rfl,pr,_,_,.str (S ak[0]),rfl,rfl,aM.of (s2 _ _ hpr),aG (j:=0) (fY (by simp[hr0])),_,rfl,lz,_,_,rfl,rfl,(by show (0:Int) < ((ak[0].length:Nat):Int);lia),_,rfl,_,rfl,L,_,_,.ref ps[k],rfl,rfl,aU.of hL2,aG (by simp[hk]),ps[k],_,_,1,rfl,rfl,ekk,rfl,?_⟩
    dsimp only;rw[emod];exact Qa pJ H2 s2 hL2 Qc yP hlen2 pJ[k].1 (sp%w) (yP _ (ai hk2)).1 hmod hk2
   ·refine⟨_,rfl,_,rfl,pr,_,_,.str (S ak[0]),rfl,rfl,aM.of (s2 _ _ hpr),aG (j:=0) (fY (by simp[hr0])),_,rfl,lz,_,_,rfl,rfl,(by show (0:Int) < ((ak[0].length:Nat):Int);lia),_,rfl,_,rfl,L,_,_,.ref ps[k],rfl,rfl,aU.of hL2,aG (by simp[hk]),ps[k],_,_,1,rfl,rfl,ekk,rfl,?_⟩
    dsimp only;rw[emod];exact Qa pJ H2 s2 hL2 Qc yP hlen2 pJ[k].1 (sp%w) (yP _ (ai hk2)).1 hmod hk2
  intro σ4 H4 hS;rw[S_]at hS;obtain⟨ts4,rfl,s4,jX,aa2,Vl,ag2⟩:=hS;clear Qa S_;refine⟨λσ H'=>∃(M:Addr) (qs:List Addr) (Bt:List bA),σ=[some (.ref t),some (.ref R),some (.ref pr),some (.ref M),some (.int bd),some (.int (k:Int)),some (.int (sp:Int)),none,none,none,none]/\aA Hn H'/\H' M=some (.lst (qs.map V.ref))/\mY Hn H' qs Bt/\(∀t∈Bt,inB r w t)/\0 < Bt.length/\Bt.length<=7,?_,?_⟩
  ·refine⟨_,rfl,rfl,_,rfl,?_⟩
   have stay:∃(M:Addr) (qs:List Addr) (Bt:List bA),([some (.ref t),some (.ref R),some (.ref pr),some (.ref L),some (.int bd),some (.int (k:Int)),some (.int (sp:Int)),none,none,none,none]:St)=[some (.ref t),some (.ref R),some (.ref pr),some (.ref M),some (.int bd),some (.int (k:Int)),some (.int (sp:Int)),none,none,none,none]/\aA Hn H4/\H4 M=some (.lst (qs.map V.ref))/\mY Hn H4 qs Bt/\(∀t∈Bt,inB r w t)/\0 < Bt.length/\Bt.length<=7:=⟨L,ps,ts4,rfl,s4,jX,aa2,Vl,by lia,by lia⟩
   refine iZ (λ_=>?_) (λ_=>aX stay);refine⟨_,rfl,L,_,rfl,.inl (aU.of jX),_,_,rfl,rfl,_,rfl,?_⟩;by_cases h2:(2:Int) < (((ps.map V.ref).length:Nat):Int)
   ·rw[ah h2]
    obtain⟨m,em2,hm2⟩:∃m:Nat,(k:Int)%((((ps.map V.ref).length:Nat):Int)-2)=(m:Int)/\m+2 < ps.length:=by
     have a1:=Int.emod_nonneg (k:Int) (show (((ps.map V.ref).length:Nat):Int)-2≠0 by lia);have a2:=Int.emod_lt_of_pos (k:Int) (show (0:Int) < (((ps.map V.ref).length:Nat):Int)-2 by lia);exact⟨((k:Int)%((((ps.map V.ref).length:Nat):Int)-2)).toNat,by lia,by lia⟩
    refine bI ⟨_,rfl,_,rfl,_,rfl,L,_,rfl,.inl (aU.of jX),_,_,rfl,rfl,_,_,rfl,rfl,(by show (0:Int) < (((ps.map V.ref).length:Nat):Int)-2;lia),_,_,rfl,rfl,_,rfl,L,_,rfl,aU.of jX,λM1 hM1=>?_⟩;dsimp only;rw[em2,show (1:Int)+(m:Int)=((1+m:Nat):Int) by lia,adJ (by lia),<- List.map_take];have k1:aA H4 (upd H4 M1 (HO.lst ((ps.take (1+m)).map V.ref))):=aA.upd hM1;have e1:upd H4 M1 (HO.lst ((ps.take (1+m)).map V.ref)) M1=some (.lst ((ps.take (1+m)).map V.ref)):=au;generalize upd H4 M1 (HO.lst ((ps.take (1+m)).map V.ref))=H5 at k1 e1 ⊢;refine⟨_,rfl,_,rfl,_,rfl,L,_,rfl,.inl (aU.of (k1 _ _ jX)),_,_,rfl,rfl,_,_,rfl,rfl,(by show (0:Int) < (((ps.map V.ref).length:Nat):Int)-2;lia),_,_,rfl,rfl,_,rfl,L,_,rfl,aU.of (k1 _ _ jX),λM2 oM=>?_⟩;dsimp only;rw[em2,show (2:Int)+(m:Int)=((2+m:Nat):Int) by lia,YS (by lia),<- List.map_drop];have k2:aA H5 (upd H5 M2 (HO.lst ((ps.drop (2+m)).map V.ref))):=aA.upd oM;have e2:upd H5 M2 (HO.lst ((ps.drop (2+m)).map V.ref)) M2=some (.lst ((ps.drop (2+m)).map V.ref)):=au;have e1':=k2 _ _ e1;generalize upd H5 M2 (HO.lst ((ps.drop (2+m)).map V.ref))=H6 at k2 e2 e1' ⊢;refine⟨M1,M2,_,_,rfl,rfl,e1',e2,aE (aH (by rw[aa,aa,ay,bt];lia)),λM3 lY=>?_⟩;have k3:aA H6 (upd H6 M3 (HO.lst ((ps.take (1+m)).map V.ref++(ps.drop (2+m)).map V.ref))):=aA.upd lY;have s47:=(k1.trans k2).trans k3;refine⟨M3,ps.take (1+m)++ps.drop (2+m),ts4.take (1+m)++ts4.drop (2+m),rfl,s4.trans s47,by rw[au,bS],(aa2.KH s47).sub _ _ (by lia),λu hu=>?_,?_,?_⟩
    ·rcases a7.mp hu with z | z
     ·exact Vl u (cE z)
     ·exact Vl u (gp z)
    ·rw[a_,ay];lia
    ·rw[a_,ay,bt];lia
   ·rw[ae h2]
    exact aX stay
  clear jX aa2 Vl ag2 s4 Qc hL2 yP hlen2 s2;rintro σ5 H5 ⟨M,qs,Bt,rfl,s5,K_,af3,ahO,h05,h75⟩;have hql:=af3.len;intro d hd;have s6:aA H5 (upd H5 d (.dT [])):=aA.upd hd;have hd0:Hn d=none:=s5.free hd;refine⟨_,rfl,M,rfl,⟨_,aU.of (s6 _ _ K_)⟩,nZ (K:=K) (a:=M) (xs:=qs.map V.ref) (λn σ H'=>∃(v7 v8 v9:Option V) (kvs:S9),σ=[some (.ref t),some (.ref R),some (.ref pr),some (.ref M),some (.int bd),some (.int (k:Int)),some (.int (sp:Int)),some (.ref d),v7,v8,v9]/\aA H5 H'/\H' d=some (.dT kvs)/\(∀kv∈kvs,DK r w kv)/\kvs.length<=n/\(0 < n->0 < kvs.length))
   ⟨none,none,none,[],rfl,s6,au,λkv h=>by simp at h,al _,λz=>absurd z (by decide)⟩ (λn σ H' _ h=>by obtain⟨_,_,_,_,_,sm,_⟩:=h;exact aU.of (sm _ _ K_)) ?_ ?_⟩
  ·rintro n x σ H6 hx ⟨v7,v8,v9,kvs,rfl,sm,hd6,hg,hkl,_⟩
   have hn:n < qs.length:=by have:=(af.mp hx).1;simpa using this
   rw[aS,ac hn]at hx;have hx:V.ref qs[n]=x:=ap hx;subst hx;obtain⟨hn5,en⟩:=af3.get hn;obtain⟨b1,b2,b3⟩:=ahO _ (ai hn5);generalize Bt[n]=z at en b1 b2 b3;refine⟨qs[n],_,rfl,aU.of (sm _ _ en),rfl,_,_,rfl,_,_,rfl,_,_,rfl,rfl,?_⟩;refine⟨_,rfl,_,rfl,_,rfl,_,rfl,zsz 2,λb hb=>?_⟩;have ndb:d≠b:=λy=>by rw[<- y,hd6]at hb;cases hb
   refine⟨d,_,rfl,yd.t (k:=[Sum.inl (z.1:Int),Sum.inl (z.2.1:Int)]) (by rw[aN ndb];exact hd6) au (aH (by lia)),?_⟩;refine⟨_,_,_,putK kvs [Sum.inl (z.1:Int),Sum.inl (z.2.1:Int)] (.str (S [z.2.2])),rfl,(sm.cD (sm.free hb)).cD hd,au,aaZ hg ⟨z.1,z.2.1,z.2.2,rfl,b1,b2,b3⟩,?_,λ_=>adK _ _ _⟩;have:=wk kvs [Sum.inl (z.1:Int),Sum.inl (z.2.1:Int)] (.str (S [z.2.2]));lia
  ·rintro σ H2 ⟨v7,v8,v9,kvs,rfl,sm,hd2,hg,hkl,hkp⟩
   rw[aa]at hkl hkp;refine⟨_,rfl,d,kvs,rfl,hd2,λnd L bs hL pb=>?_⟩;obtain⟨e1,e2⟩:=adM hg pb;have pQ:bs.length=kvs.length:=by have:=congrArg List.length e1;simpa using this
   have hk7:kvs.length<=7:=by lia
   have hk1:1<=kvs.length:=hkp (by lia);have s3:aA H2 (upd H2 L (.lst (bs.map V.ref))):=aA.upd hL;refine⟨L,bs,P_ H2,rfl,aU.of au,by lia,λb hb=>?_,by rw[e1];exact ag1 w9 hg nd,λL2 bs' hL2 pm pw=>?_⟩
   ·obtain⟨r',c',_,a2,a3,r9',c9'⟩:=e2 b hb
    exact⟨r',c',[],s3 _ _ a2,by lia,a3,.inl rfl⟩
   ·have s4:=s3.cD (o:=.lst (bs'.map V.ref)) (s3.free hL2)
    refine⟨L2,rfl,⟨_,aU.of au⟩,λM hM=>nH (f:=eU [8,9] 0) (tt:=iB) (xs:=bs'.map V.ref) (λi ys H6=>∃(as:List Addr) (ts:List bA),ys=as.map V.ref/\as.length=i/\H6 M=some (.lst ys)/\aA (upd (upd H2 L (.lst (bs.map V.ref))) L2 (.lst (bs'.map V.ref))) H6/\cT H6 as ts/\ts.map rk=(bs'.take i).map (P_ H2)/\∀t∈ts,inB r w t)
     ⟨[],[],rfl,rfl,au,aA.upd hM,cT.nil,rfl,λt h=>by simp at h⟩ (λi ys H6 _ h=>by obtain⟨_,_,_,_,_,rH,_⟩:=h;exact aU.of (rH _ _ au)) ?_ ?_⟩
    ·rintro i x ys H6 hx ⟨as,ts,rfl,hal,hM6,rH,hB,hrk,aa3⟩
     rw[aS]at hx;have hi:i < bs'.length:=by
      rcases kG i bs'.length with z | z
      ·exact z
      ·rw[fq z]at hx;cases hx
     rw[ac hi]at hx;have hx:V.ref bs'[i]=x:=ap hx;obtain⟨r',c',hkey,a2,a3,r9',c9'⟩:=e2 bs'[i] (pm.mem_iff.mp (ai _));obtain⟨v,hv,Oo⟩:=adL hkey;obtain⟨r'',c'',z,ez,_,_,z9⟩:=hg _ Oo;have ev:v=.str (S [z]):=(Prod.mk.inj ez).2;subst ev;have sd:aA H2 H6:=s4.trans rH;refine Uh hx.symm (aM.of (sd _ _ a2)) ?_;refine⟨_,rfl,_,rfl,_,rfl,_,rfl,_,rfl,zsz 2,λb hb=>?_⟩;have ndb:d≠b:=λy=>by rw[<- y,sd _ _ hd2]at hb;cases hb
     refine⟨d,.str (S [z]),rfl,hv ▸ uq.t (k:=[Sum.inl (r':Int),Sum.inl (c':Int)]) (by rw[aN ndb];exact sd _ _ hd2) au,zsz 3,λg YX=>?_⟩;have s7:aA H6 (upd H6 b (.tup [.int r',.int c'])):=aA.upd hb;have s8:=s7.cD (o:=.tup [.int r',.int c',.str (S [z])]) (s7.free YX);have hM8:=s8 _ _ hM6;refine⟨hM8,by rw[aa,hal];exact aH (by have:=pm.length_eq;lia),dZ.mk (by rw[aa];exact hi) ⟨as++[g],ts++[(r',c',z)],by simp,by simp[hal],by rw[au],?_,?_,?_,?_⟩⟩
     ·exact(rH.trans s8).cD hM
     ·refine cT.snoc ((hB.mv s8).iu (Oi hM8)) ?_
      exact Oi hM8 _ _ au
     ·rw[bS,hrk,List.take_succ,ac hi]
      rw[bS];show _++[r'*1000+c']=_++[P_ H2 bs'[i]]
      rw[a3]
     ·intro t ht
      rcases a7.mp ht with y | y
      ·exact aa3 t y
      ·rw[aw.mp y];exact⟨r9',c9',z9⟩
    ·rintro ys H6 ⟨as,ts,rfl,hal,hM6,rH,hB,hrk,aa3⟩
     rw[aa]at hal;rw[be (by rw[aa];exact al _)]at hrk;have aib:=pm.length_eq;have aic:=hB.len;refine⟨M,_,rfl,.inl ⟨aU.of hM6,λl hl=>?_⟩⟩;have sl:aA H6 (upd H6 l (.tup (as.map V.ref))):=aA.upd hl;exact q l as ts _ (kn.same (((s5.trans sm).trans (s4.trans rH)).trans sl)) au (hB.mv sl) aa3 (by rw[hrk];exact pw) (by lia) (by lia)
def Tc:Sp:=λvs H Q _=>∃(t R:Addr) (x:Int) (as:List Addr) (ts:List bA) (ls:List Nat) (r w:Nat),vs=[.ref t,.ref R,.str (S ls)]/\H R=some (.lst [.int x])/\H t=some (.tup (as.map V.ref))/\cT H as ts/\(∀t∈ts,inB r w t)/\0 < ts.length/\ts.length<=7/\IV ls/\
 ∀(l:List Nat) (H':Hp),Kp R H H'->l.length<=7->Q (.str (S l)) H'
theorem aa4 (D:aK K mg "_law_rack" Hf ["_law_laying","_law_rest_here","_law_letters_here"])(bx:mg "len"=none)(jy:mg "int"=none)(cL:bO P w K mg base "_law_take" 1 ["_law_rest_here","_law_base"] lC):bO P w K mg base "_law_rack" 2 ["_law_laying","_law_rest_here","_law_letters_here"] Tc:=by
 refine D.dz ig (λvs H Q E h=>?_) (λf bL A outer s H vs Q E hr h=>?_)
 ·obtain⟨t,R,x,as,ts,ls,r,w,rfl,_⟩:=h
  rfl
 ·obtain⟨t,R,x,as,ts,ls,r,w,rfl,hR,ht,hL,bT,h0,h7,hA,q⟩:=h
  have hal:=hL.len;have hl2:=hA.lo;have af4:=hA.hi;have Bk:ls.length<=sizeLine:=aE (aH (by lia));refine⟨_,(aD (aQ (i:=3) ig.nd rfl (Or.inl rfl) (d7 aq)) (aD (dh bu rfl (dW (qv 0)) (lu rfl (bV (bH (i:=4) ig.nd rfl (Or.inl rfl)) (bV (bH (i:=5) ig.nd rfl (Or.inl rfl)) (bV (bH (i:=6) ig.nd rfl (Or.inl rfl)) iU)))) (aF (dD (fX bX de df gK (qv 3) (aj (aP dB (d7 (aj (qv 6) (aj (bZ [63] (by decide +kernel)) aq))) (dR uZ (by rfl) jy gc (aj (dU lU (qv 6) (lB bg c8 c_ nG (qv 6)) (aZ _)) aq)) (λ_ _=>rfl)) aq))))) (aD (aQ (i:=7) ig.nd rfl (Or.inl rfl) (aV cL hr.mono rfl (aj (qv 1) (aj aB aq)))) (aD (gn (bW (bw fW (qv 7) aB (aZ _)) (aF (aQ (i:=3) ig.nd rfl (Or.inl rfl) (j8 xg (qv 3) oF (lE (aV cL hr.mono rfl (aj (qv 1) (aj (bB dN (aO bQ (by rfl) bx aI (aj (qv 3) aq)) aB) aq))))))) bC)) (aD (gn (bW (bw fW (qv 7) aB (aZ _)) (aD (aQ (i:=8) ig.nd rfl (Or.inl rfl) (bB iT (qv 2) (bZ [63] (by decide +kernel)))) (aF (rB (aP m5 (qv 8) (aV cL hr.mono rfl (aj (qv 1) (aj (aO cJ (by rfl) bx aI (aj (qv 8) aq)) aq))) (λ_ _=>rfl)) (uF (qv 3) (aV cL hr.mono rfl (aj (qv 1) (aj (aO bQ (by rfl) bx aI (aj (qv 3) aq)) aq))) set_list)))) bC)) (aD (gn (bW (bw fW (qv 7) aB (aZ _)) (aF (dD (lB bX PySem.F.slot_list_reverse PySem.F.type_list_reverse T6 (qv 3)))) bC)) (aD (aQ (i:=9) ig.nd rfl (Or.inl rfl) (bZ [] (by decide +kernel))) (aD (dh bu rfl (gF (qv 3)) (bH (i:=10) ig.nd rfl (Or.inl rfl)) (aF (gn (bW (QW.qt (j7 (bw lU (qv 10) (bZ [63] (by decide +kernel)) (aZ _)) (jc (bw jo (fX bg PySem.F.slot_str_count PySem.F.type_str_count Xa (qv 9) (aj (bZ [63] (by decide +kernel)) aq)) aB (aZ _))))) (aF (aQ (i:=9) ig.nd rfl (Or.inl rfl) (bB iT (qv 9) (qv 10)))) bC)))) (aD (aQ (i:=11) ig.nd rfl (Or.inl rfl) (aV cL hr.mono rfl (aj (qv 1) (aj aB aq)))) (aD (gn (yh bu (QW.qt (jq (bw jo (aO cJ (by rfl) bx aI (aj (qv 9) aq)) aB (aZ _)) (lD (bw Gq (qv 11) aB (aZ _))))) (aD (aQ (i:=9) ig.nd rfl (Or.inl rfl) (bB iT (qv 9) (aP m5 (qv 2) (aV cL hr.mono rfl (aj (qv 1) (aj (aO cJ (by rfl) bx aI (aj (qv 2) aq)) aq))) (λ_ _=>rfl)))) (aF (aQ (i:=11) ig.nd rfl (Or.inl rfl) (bB pZ (qv 11) aB)))))) (aF (aY (qv 9))))))))))))),?_⟩;refine⟨zsz 0,λL hL0=>?_⟩;have s1:aA H (upd H L (HO.lst [])):=aA.upd hL0;refine⟨_,rfl,t,rfl,⟨_,aM.of (s1 _ _ ht)⟩,jN (K:=K) (a:=t) (xs:=as.map V.ref) (λn σ H2=>∃(v4 v5 v6:Option V) (us:AA),σ=[some (.ref t),some (.ref R),some (.str (S ls)),some (.ref L),v4,v5,v6,none,none,none,none,none]/\aA H H2/\H2 L=some (.lst (Ts us))/\us.length=n/\∀u∈us,u.length=1)
   ⟨none,none,none,[],rfl,s1,au,rfl,λu hu=>by simp at hu⟩ (λn σ H2 _ h=>by obtain⟨_,_,_,_,_,sm,_⟩:=h;exact aM.of (sm _ _ ht)) ?_ ?_⟩
  ·rintro n x σ H2 hx ⟨v4,v5,v6,us,rfl,sm,hL2,zZ,hu1⟩
   have hn:n < as.length:=by have:=(af.mp hx).1;simpa using this
   have hnt:n < ts.length:=by lia
   rw[aS,ac hn]at hx;have hx:V.ref as[n]=x:=ap hx;subst hx;obtain⟨_,en⟩:=fV (hL.mv sm) hnt;have hsg:=(bT _ (ai hnt)).2.2;generalize hz:ts[n]=z at en hsg;refine⟨as[n],_,rfl,aM.of en,rfl,_,_,rfl,_,_,rfl,_,_,rfl,rfl,?_⟩;refine⟨_,rfl,.inl ⟨rfl,_,aU.of hL2⟩,_,rfl,zsz 2,λZ hZ=>?_⟩;have kZ:aA H2 (upd H2 Z (HO.lst [.str (S [z.2.2]),.str (S [63])])):=aA.upd hZ;have eZ:upd H2 Z (HO.lst [.str (S [z.2.2]),.str (S [63])]) Z=some (.lst [.str (S [z.2.2]),.str (S [63])]):=au;have sE:=kZ _ _ hL2;have s3:=sm.trans kZ;generalize upd H2 Z (HO.lst [.str (S [z.2.2]),.str (S [63])])=H3 at kZ eZ sE s3 ⊢;obtain⟨a,ha⟩:∃a:Nat,oE [V.str (S [z.2.2]),V.str (S [63])] (if (!decide ([z.2.2]=[z.2.2].map PyProof.Rows.lo1))=true then 1 else 0)=some (.str (S [a])):=by
    by_cases e:(!decide ([z.2.2]=[z.2.2].map PyProof.Rows.lo1))=true
    ·rw[if_pos e];exact⟨63,rfl⟩
    ·rw[if_neg e];exact⟨z.2.2,rfl⟩
   refine⟨_,rfl,_,rfl,rfl,[z.2.2],rfl,rfl,by show 1<=1000;decide,λd hd=>by rw[aw.mp hd];exact hsg.lt,_,_,rfl,rfl,.inr ⟨_,rfl,Z,_,_,.str (S [a]),rfl,rfl,aU.of eZ,ha,L,_,_,rfl,rfl,sE,by rw[aa];exact aH (by lia),?_⟩⟩;exact⟨_,_,_,us++[[a]],rfl,s3.cD hL0,by rw[au,mW],by simp[zZ],λu hu=>by
     rcases a7.mp hu with y | y
     ·exact hu1 u y
     ·rw[aw.mp y];rfl⟩
  rintro σ H2 ⟨v4,v5,v6,us,rfl,sm,hL2,zZ,hu1⟩;rw[aa]at zZ;have ahP:us.length<=7:=by lia
  have ahQ:1<=us.length:=by lia
  have ner:∀M:Addr,H M=none->M≠R:=λM hM z=>by rw[z,hR]at hM;cases hM
  have Bs:=ner L hL0;refine⟨_,rfl,R,x,4,rfl,sm _ _ hR,by decide,by decide,λtn y1 htn=>?_⟩;have k3:Kp R H (upd H2 R (.lst [.int y1])):=(Kp.of hR sm).trans (Kp.up y1);have sI:upd H2 R (.lst [.int y1]) R=some (.lst [.int y1]):=au;have sE:upd H2 R (.lst [.int y1]) L=some (.lst (Ts us)):=by rw[aN Bs];exact hL2
  generalize upd H2 R (.lst [.int y1])=H3 at k3 sI sE ⊢;have ahR:∀(H':Hp) (M:Addr) (o:HO),Kp R H H'->H' M=none->Kp R H (upd H' M o)/\H M=none:=λH' M o k hM=>by
   obtain⟨a,b⟩:=k.free hM;exact⟨k.new a b,a⟩
  refine⟨λσ' H'=>∃(L':Addr) (vs:AA),σ'=[some (.ref t),some (.ref R),some (.str (S ls)),some (.ref L'),v4,v5,v6,some (.int tn),none,none,none,none]/\Kp R H H'/\H L'=none/\H' L'=some (.lst (Ts vs))/\vs.length<=7/\(∀u∈vs,u.length=1)/\(tn=2->1<=vs.length),?_,?_⟩
  ·refine⟨_,rfl,rfl,_,rfl,?_⟩
   by_cases e:tn=1
   ·rw[ah (show V.int (tn:Int)=V.int 1 by rw[e];rfl)]
    refine bI ⟨_,rfl,_,rfl,_,rfl,L,_,rfl,.inl (aU.of sE),_,_,rfl,rfl,R,y1,(Ts us).length+1,by show [V.ref R,V.int (((Ts us).length:Int)+1)]=_;rw[show ((Ts us).length:Int)+1=(((Ts us).length+1:Nat):Int) by lia],sI,by lia,by rw[aa];lia,λdd y2 hdd=>?_⟩;have k4:Kp R H (upd H3 R (.lst [.int y2])):=k3.trans (Kp.up y2);have jX:upd H3 R (.lst [.int y2]) L=some (.lst (Ts us)):=by rw[aN Bs];exact sE
    generalize upd H3 R (.lst [.int y2])=H4 at k4 jX ⊢;refine⟨_,rfl,L,_,rfl,aU.of jX,λM hM=>?_⟩;obtain⟨vs,evs,hvl,hvm⟩:∃vs:List (List Nat),n6 (Ts us) none (some (dd:Int))=Ts vs/\vs.length<=us.length/\∀x∈vs,x∈us:=by
     refine⟨_,by unfold n6 Ts;rw[<- List.map_drop,<- List.map_take],?_,λx hx=>gp (cE hx)⟩;rw[ay,bt];lia
    rw[evs];obtain⟨k5,hM0⟩:=ahR H4 M (.lst (Ts vs)) k4 hM;exact⟨M,vs,rfl,k5,hM0,au,by lia,λu hu=>hu1 u (hvm u hu),λz=>by lia⟩
   ·rw[ae (show ¬V.int (tn:Int)=V.int 1 from λz=>e (by injection z with z;lia))]
    exact aX ⟨L,us,rfl,k3,hL0,sE,ahP,hu1,λ_=>ahQ⟩
  rintro σ' H4 ⟨L',vs,rfl,k4,nL',jX,hv7,hv1,hv2⟩;have Vm:=ner L' nL';refine⟨λσ' H'=>∃(v7:Option V) (us:AA),σ'=[some (.ref t),some (.ref R),some (.str (S ls)),some (.ref L'),v4,v5,v6,some (.int tn),v7,none,none,none]/\Kp R H H'/\H' L'=some (.lst (Ts us))/\us.length<=7/\∀u∈us,u.length=1,?_,?_⟩
  ·refine⟨_,rfl,rfl,_,rfl,?_⟩
   by_cases e:tn=2
   ·rw[ah (show V.int (tn:Int)=V.int 2 by rw[e];rfl)]
    have hvp:=hv2 e;have af5:(ls++[63]).length<=sizeLine:=aE (aH (by rw[a_];simp;lia));obtain⟨y4,Eb⟩:=k4.2;refine bI ⟨_,rfl,ls,[63],rfl,rfl,aE (aH (by show ls.length+1<=1000;lia)),?_⟩;refine⟨_,rfl,_,rfl,_,rfl,ls++[63],rfl,af5,R,y4,(ls++[63]).length,rfl,Eb,by simp,by rw[a_];simp;lia,λd1 y5 hd1=>?_⟩;have k5:Kp R H (upd H4 R (.lst [.int y5])):=k4.trans (Kp.up y5);have Kv:upd H4 R (.lst [.int y5]) R=some (.lst [.int y5]):=au;have mj:upd H4 R (.lst [.int y5]) L'=some (.lst (Ts vs)):=by rw[aN Vm];exact jX
    generalize upd H4 R (.lst [.int y5])=H5 at k5 Kv mj ⊢;refine⟨ls++[63],_,(ls++[63])[d1],rfl,rfl,af5,aG (ac hd1),?_⟩;generalize (ls++[63])[d1]=y;refine⟨_,rfl,_,rfl,_,rfl,L',_,rfl,.inl (aU.of mj),R,y5,(Ts vs).length,rfl,Kv,by rw[aa];exact hvp,by rw[aa];lia,λk y6 hk0=>?_⟩;have hk:k < vs.length:=by rw[aa]at hk0;exact hk0
    have k6:Kp R H (upd H5 R (.lst [.int y6])):=k5.trans (Kp.up y6);have YZ:upd H5 R (.lst [.int y6]) L'=some (.lst (Ts vs)):=by rw[aN Vm];exact mj
    generalize upd H5 R (.lst [.int y6])=H6 at k6 YZ ⊢;refine⟨L',_,_,k,rfl,rfl,YZ,?_,?_⟩
    ·unfold u0
     rw[aa,if_pos (by lia),if_pos (by lia)];rfl
    ·have eS:(Ts vs).set k (.str (S [y]))=Ts (vs.set k [y]):=by
      show ((vs.map λl=>V.str (S l)).set k (V.str (S [y])))=(vs.set k [y]).map λl=>V.str (S l);rw[l_]
     rw[eS];exact⟨_,vs.set k [y],rfl,k6.new nL' Vm.symm,au,by rw[dP];exact hv7,λu hu=>by
      rcases dv hu with z | z
      ·exact hv1 u z
      ·rw[z];rfl⟩
   ·rw[ae (show ¬V.int (tn:Int)=V.int 2 from λz=>e (by injection z with z;lia))]
    exact aX ⟨_,vs,rfl,k4,jX,hv7,hv1⟩
  rintro σ' H5 ⟨v7,us,rfl,k5,mj,hu7,hu1⟩;refine⟨λσ' H'=>∃us:List (List Nat),σ'=[some (.ref t),some (.ref R),some (.str (S ls)),some (.ref L'),v4,v5,v6,some (.int tn),v7,none,none,none]/\Kp R H H'/\H' L'=some (.lst (Ts us))/\us.length<=7/\∀u∈us,u.length=1,?_,?_⟩
  ·refine⟨_,rfl,rfl,_,rfl,iZ (λ_=>?_) (λ_=>⟨us,rfl,k5,mj,hu7,hu1⟩)⟩
   refine⟨_,rfl,.inl ⟨rfl,_,aU.of mj⟩,L',_,rfl,rfl,mj,us.reverse,rfl,k5.new nL' Vm.symm,?_,by rw[iL];exact hu7,λu hu=>hu1 u (ma.mp hu)⟩;rw[au];show some (HO.lst ((us.map λl=>V.str (S l)).reverse))=some (.lst (us.reverse.map λl=>V.str (S l)));rw[List.map_reverse]
  clear mj hu7 hu1 k5;rintro σ' H5 ⟨us,rfl,k5,mj,hu7,hu1⟩;refine⟨_,rfl,L',rfl,⟨_,aU.of mj⟩,nZ (K:=K) (a:=L') (xs:=Ts us) (λn σ H'=>∃(v10:Option V) (l:List Nat),σ=[some (.ref t),some (.ref R),some (.str (S ls)),some (.ref L'),v4,v5,v6,some (.int tn),v7,some (.str (S l)),v10,none]/\H'=H5/\l.length<=n)
   ⟨_,[],rfl,rfl,al _⟩ (λn σ H' _ h=>by obtain⟨_,_,_,e,_⟩:=h;rw[e];exact aU.of mj) ?_ ?_⟩
  ·rintro n x σ H' hx ⟨v10,l,rfl,rfl,hl⟩
   obtain⟨y,hy,rfl⟩:=uL hx;have hn2:n < us.length:=(af.mp hy).1;have hy1:y.length=1:=hu1 y (bc hy);have fin:∀m:List Nat,m.length<=n+1->∃(v10:Option V) (l:List Nat),([some (.ref t),some (.ref R),some (.str (S ls)),some (.ref L'),v4,v5,v6,some (.int tn),v7,some (.str (S m)),some (.str (S y)),none]:St)=[some (.ref t),some (.ref R),some (.str (S ls)),some (.ref L'),v4,v5,v6,some (.int tn),v7,some (.str (S l)),v10,none]/\H'=H'/\l.length<=n+1:=λm hm=>⟨_,m,rfl,rfl,hm⟩
   refine⟨λσ' mX=>∃(v10:Option V) (l:List Nat),σ'=[some (.ref t),some (.ref R),some (.str (S ls)),some (.ref L'),v4,v5,v6,some (.int tn),v7,some (.str (S l)),v10,none]/\mX=H'/\l.length<=n+1,?_,λσ' mX h=>h⟩;refine⟨_,rfl,y,[63],rfl,rfl,_,rfl,?_⟩;refine iZ (λ_=>?_) (λ_=>?_)
   ·exact⟨_,rfl,_,rfl,l,y,rfl,rfl,aE (aH (by lia)),fin _ (by rw[a_];lia)⟩
   ·refine⟨_,rfl,rfl,l,[63],rfl,rfl,λm=>⟨_,_,rfl,rfl,_,rfl,?_⟩⟩
    refine iZ (λ_=>?_) (λ_=>?_)
    ·exact⟨_,rfl,_,rfl,l,y,rfl,rfl,aE (aH (by lia)),fin _ (by rw[a_];lia)⟩
    ·exact fin l (by lia)
  rintro σ' H' ⟨v10,l,rfl,rfl,hl⟩;rw[aa]at hl;obtain⟨y7,hR7⟩:=k5.2;refine⟨_,rfl,R,y7,8,rfl,hR7,by decide,by decide,λmo y8 hmo=>?_⟩;have k8:Kp R H (upd H' R (.lst [.int y8])):=k5.trans (Kp.up y8);generalize upd H' R (.lst [.int y8])=H8 at k8 ⊢;refine⟨λσ' mX=>∃(l:List Nat) (v11:Option V),σ'=[some (.ref t),some (.ref R),some (.str (S ls)),some (.ref L'),v4,v5,v6,some (.int tn),v7,some (.str (S l)),v10,v11]/\Kp R H mX/\l.length<=7,?_,?_⟩
  ·refine⟨λmm σ mX=>∃(l:List Nat) (mo:Int),σ=[some (.ref t),some (.ref R),some (.str (S ls)),some (.ref L'),v4,v5,v6,some (.int tn),v7,some (.str (S l)),v10,some (.int mo)]/\Kp R H mX/\l.length<=7/\mm=7-l.length,⟨_,l,_,rfl,k8,by lia,rfl⟩,?_⟩
   rintro mm σ mX ⟨l,mo,rfl,k9,hl7,rfl⟩;have hzL:l.length<=sizeLine:=aE (aH (by lia));refine⟨_,rfl,l,rfl,hzL,_,_,rfl,rfl,_,rfl,?_⟩;by_cases c1:(l.length:Int) < 7
   ·rw[ah c1]
    refine bI ⟨_,rfl,_,_,rfl,rfl,_,rfl,?_⟩;refine iZ (λ_=>?_) (λ_=>⟨l,_,rfl,k9,hl7⟩);refine⟨λσ' af6=>∃(l2:List Nat) (mo:Int),σ'=[some (.ref t),some (.ref R),some (.str (S ls)),some (.ref L'),v4,v5,v6,some (.int tn),v7,some (.str (S l2)),v10,some (.int mo)]/\Kp R H af6/\l2.length=l.length+1,?_,?_⟩
    ·rintro σ' af6 ⟨l2,mo2,rfl,k10,e2⟩
     exact⟨7-l2.length,by lia,l2,_,rfl,k10,by lia,rfl⟩
    ·obtain⟨y9,hR9⟩:=k9.2
     refine⟨_,rfl,_,rfl,_,rfl,_,rfl,ls,rfl,Bk,R,y9,ls.length,rfl,hR9,by lia,by lia,λd y10 hd=>?_⟩;refine⟨ls,_,ls[d],rfl,rfl,Bk,aG (ac hd),l,[ls[d]],rfl,rfl,aE (aH (by show l.length+1<=1000;lia)),?_⟩;exact⟨_,rfl,_,_,rfl,rfl,⟨by decide,by decide⟩,l++[ls[d]],_,rfl,k9.trans (Kp.up y10),by simp⟩
   ·rw[ae c1]
    exact aX (aX ⟨l,_,rfl,k9,hl7⟩)
  rintro σ' mX ⟨l,v11,rfl,k9,hl7⟩;exact⟨_,rfl,q l _ k9 hl7⟩
theorem Td {α β:Type}(f:α->β):∀(l:List α) (j:Nat),(l.map f).eraseIdx j=(l.eraseIdx j).map f
 | [],_=>rfl
 | _::_,0=>rfl
 | a::l,j+1=>congrArg (f a :: ·) (Td f l j)
def Tf:Sp:=λvs H Q _=>∃(pr t R:Addr) (x:Int) (ls:List Nat) (ak:AA) (r w:Nat) (as:List Addr) (ts:List bA),vs=[.ref pr,.ref t,.ref R,.str (S ls)]/\H R=some (.lst [.int x])/\IV ls/\H pr=some (.tup (Ts ak))/\Blk r w ak/\r<=9/\w<=9/\(∀l∈ak,∀c∈l,rG c)/\H t=some (.tup (as.map V.ref))/\cT H as ts/\(∀t∈ts,inB r w t)/\0 < ts.length/\ts.length<=7/\
 ∀(p:Addr) (ws:AA) (H':Hp),Kp R H H'->H' p=some (.lst (Ts ws))->(∀w∈ws,oh w)->ws.length<=20->Q (.ref p) H'
open Classical in
theorem aa5 (D:aK K mg "_law_known" Dl ["_law_rows_here","_law_laying","_law_rest_here","_law_letters_here"])(bx:mg "len"=none)(cR:mg "range"=none)(cL:bO P w K mg base "_law_take" 1 ["_law_rest_here","_law_base"] lC)(Jt:bO P w K mg base "_law_words" 2 ["_law_rows_here","_law_laying"] E_):bO P w K mg base "_law_known" 3 ["_law_rows_here","_law_laying","_law_rest_here","_law_letters_here"] Tf:=by
 refine D.dz n_ (λvs H Q E h=>?_) (λf bL A outer s H vs Q E hr h=>?_)
 ·obtain⟨pr,t,R,x,ls,ak,r,w,as,ts,rfl,_⟩:=h
  rfl
 ·obtain⟨pr,t,R,x,ls,ak,r,w,as,ts,rfl,hR,hA,hpr,hb,r9,w9,rK,ht,hL,bT,h0,h7,q⟩:=h
  have hb':=jE hb bT;have hp':=uM hb bT rK;have hsg:=yL hb' hp' bT;have K8:=wD hb' r9 w9 bT;have Qd:=aaY hb' hp' r9 w9 bT;have hwl:=Ro (ak:=ak) h7;have hl2:=hA.lo;have af4:=hA.hi;have Bk:ls.length<=sizeLine:=aE (aH (by lia));refine⟨_,(aD (aQ (i:=4) n_.nd rfl (Or.inl rfl) (d7 aq)) (aD (dh bu rfl (dW (aV Jt hr.mono rfl (aj (qv 0) (aj (qv 1) aq)))) (lu rfl (bV (bH (i:=5) n_.nd rfl (Or.inl rfl)) (bV (bH (i:=6) n_.nd rfl (Or.inl rfl)) (bV (bH (i:=7) n_.nd rfl (Or.inl rfl)) (bV (bH (i:=8) n_.nd rfl (Or.inl rfl)) iU))))) (aF (gn (bW (bw oX (lB bg c8 c_ nG (qv 8)) (qv 4) rfl) (aF (dD (fX bX de df gK (qv 4) (aj (lB bg c8 c_ nG (qv 8)) aq)))) bC)))) (aD (dh bu rfl (jW (by rfl) cR (aj (aV cL hr.mono rfl (aj (qv 2) (aj aB aq))) aq)) (bH (i:=9) n_.nd rfl (Or.inl rfl)) (aF (gn (bW (bw (Ag hr.units) (qv 4) (d7 aq) (aZ _)) (aF (dD (fX bX PySem.F.slot_list_pop PySem.F.type_list_pop ZS (qv 4) (aj (aV cL hr.mono rfl (aj (qv 2) (aj (aO bQ (by rfl) bx aI (aj (qv 4) aq)) aq))) aq)))) bC)))) (aF (aY (bB Gv (qv 4) (d7 (aj (bB iT (aP m5 (qv 3) aB (λ_ _=>rfl)) (aP m5 (qv 3) aB (λ_ _=>rfl))) (aj (bB Im (aP m5 (qv 3) aB (λ_ _=>rfl)) aB) aq))))))))),?_⟩;refine⟨zsz 0,λL hL0=>?_⟩;have k1:aA H (upd H L (HO.lst [])):=aA.upd hL0;have e1:upd H L (HO.lst []) L=some (.lst (Ts [])):=au;generalize upd H L (HO.lst [])=H1 at k1 e1 ⊢;refine⟨_,rfl,_,rfl,pr,t,as,ts,r,w,ak,rfl,k1 _ _ hpr,hb,r9,w9,k1 _ _ ht,hL.mv k1,bT,h0,h7,λT1 b1 H2 s2 hT1 Bq=>?_⟩;generalize hW:iH ak ts=W at hsg K8 hwl Qd Bq;have pQ:=Bq.len;refine⟨T1,rfl,⟨_,aM.of hT1⟩,jN (K:=K) (a:=T1) (xs:=b1.map V.ref) (λn σ H'=>∃(v5 v6 v7 v8:Option V) (us:AA),σ=[some (.ref pr),some (.ref t),some (.ref R),some (.str (S ls)),some (.ref L),v5,v6,v7,v8,none]/\aA H H'/\H' T1=some (.tup (b1.map V.ref))/\QL H' b1 W/\H' L=some (.lst (Ts us))/\(∀u∈us,oh u)/\us.length<=n)
   ⟨none,none,none,none,[],rfl,k1.trans s2,hT1,Bq,s2 _ _ e1,λu hu=>by simp at hu,al _⟩ (λn σ H' _ h=>by obtain⟨_,_,_,_,_,_,_,e,_⟩:=h;exact aM.of e) ?_ ?_⟩
  ·rintro n x σ H' hx ⟨v5,v6,v7,v8,us,rfl,sm,hT',hQ',hL',Ef,zZ⟩
   have hn:n < b1.length:=by have:=(af.mp hx).1;simpa using this
   have vO:n < W.length:=by lia
   rw[aS,ac hn]at hx;have hx:V.ref b1[n]=x:=ap hx;subst hx;have en:=hQ'.at_ n _ _ (ac hn) (ac vO);have hm:=ai vO;have afV:=K8 _ hm;have P0:∀c∈W[n].2.2.2,c < 128:=λc hc=>(hsg _ hm c hc).lt;refine⟨b1[n],_,rfl,aM.of en,rfl,_,_,rfl,_,_,rfl,_,_,rfl,_,_,rfl,rfl,?_⟩;refine⟨λσ' mX=>∃(v5 v6 v7 v8:Option V) (us:AA),σ'=[some (.ref pr),some (.ref t),some (.ref R),some (.str (S ls)),some (.ref L),v5,v6,v7,v8,none]/\aA H mX/\mX T1=some (.tup (b1.map V.ref))/\QL mX b1 W/\mX L=some (.lst (Ts us))/\(∀u∈us,oh u)/\us.length<=n+1,?_,λσ' mX h=>h⟩;refine⟨_,rfl,rfl,W[n].2.2.2,rfl,rfl,by lia,P0,_,rfl,L,Ts us,rfl,.inl (aU.of hL'),rfl,Dw us,_,rfl,?_⟩;refine iZ (λ_=>?_) (λ_=>⟨_,_,_,_,us,rfl,sm,hT',hQ',hL',Ef,by lia⟩);refine⟨_,rfl,.inl ⟨rfl,_,aU.of hL'⟩,_,rfl,rfl,W[n].2.2.2,rfl,rfl,by lia,P0,L,_,_,rfl,rfl,hL',by rw[aa];exact aH (by lia),?_⟩;refine⟨_,_,_,_,us++[Bp W[n]],rfl,sm.cD hL0,lZ hL' _ _ hT',hQ'.iu (lZ hL'),by rw[au,mW];rfl,λu hu=>?_,by simp;lia⟩;rcases a7.mp hu with z | z
   ·exact Ef u z
   ·rw[aw.mp z];exact Qd _ hm
  rintro σ H3 ⟨v5,v6,v7,v8,us,rfl,s3,_,_,sE,Ef,zZ⟩;rw[aa,pQ]at zZ;have Bs:L≠R:=λz=>by rw[z,hR]at hL0;cases hL0
  refine⟨_,rfl,R,x,3,rfl,s3 _ _ hR,by decide,by decide,λm y1 YK=>⟨_,rfl,by lia,by lia,?_⟩⟩;have k3:Kp R H (upd H3 R (.lst [.int y1])):=(Kp.of hR s3).trans (Kp.up y1);have af7:upd H3 R (.lst [.int y1]) L=some (.lst (Ts us)):=by rw[aN Bs];exact sE
  generalize upd H3 R (.lst [.int y1])=H3' at k3 af7 ⊢;refine gH (lo:=0) (λn σ H'=>∃(v9:Option V) (us:AA),σ=[some (.ref pr),some (.ref t),some (.ref R),some (.str (S ls)),some (.ref L),v5,v6,v7,v8,v9]/\Kp R H H'/\H' L=some (.lst (Ts us))/\(∀u∈us,oh u)/\us.length<=8)
   ⟨_,us,rfl,k3,af7,Ef,by lia⟩ ?_ ?_
  ·rintro n σ H4 hn ⟨v9,us,rfl,s4,jX,Ef,zZ⟩
   refine⟨λσ' H'=>∃(v9:Option V) (us:AA),σ'=[some (.ref pr),some (.ref t),some (.ref R),some (.str (S ls)),some (.ref L),v5,v6,v7,v8,v9]/\Kp R H H'/\H' L=some (.lst (Ts us))/\(∀u∈us,oh u)/\us.length<=8,?_,λσ' H' h=>h⟩;refine⟨_,rfl,zsz 0,λZ hZ=>?_⟩;have kZ:aA H4 (upd H4 Z (HO.lst [])):=aA.upd hZ;have eZ:upd H4 Z (HO.lst []) Z=some (.lst []):=au;have mj:=kZ _ _ jX;have s5:=s4.same kZ;generalize upd H4 Z (HO.lst [])=H5 at kZ eZ mj s5 ⊢;refine⟨2,.lst (us.map Dt.str),.lst [],by decide,.lst (aU.of mj) (dw.tQ λl hl=>(Ef l hl).lt),.lst (aU.of eZ) .nil,_,rfl,?_⟩;simp only[if_true];by_cases hu0:us=[]
   ·subst hu0
    rw[ah (show Dt.lst (([]:AA).map Dt.str)=Dt.lst [] from rfl)];exact aX ⟨_,[],rfl,s5,mj,Ef,by decide⟩
   ·rw[ae (show ¬Dt.lst (us.map Dt.str)=Dt.lst [] from λz=>by injection z with z;exact hu0 (kL.mp z))]
    have hup:0 < us.length:=kK.mpr hu0;have hlu:(Ts us).length=us.length:=aa ..;obtain⟨y5,Kv⟩:=s5.2;refine bI ⟨_,rfl,.inl ⟨rfl,_,aU.of mj⟩,_,rfl,_,rfl,L,_,rfl,.inl (aU.of mj),R,y5,(Ts us).length,rfl,Kv,by lia,by lia,λj y6 hj0=>?_⟩;have hj:j < us.length:=by lia
    have k6:Kp R H (upd H5 R (.lst [.int y6])):=s5.trans (Kp.up y6);have YZ:upd H5 R (.lst [.int y6]) L=some (.lst (Ts us)):=by rw[aN Bs];exact mj
    generalize upd H5 R (.lst [.int y6])=H6 at k6 YZ ⊢;refine⟨L,_,_,j,.str (S us[j]),rfl,rfl,YZ,by lia,by lia,?_,?_,?_⟩
    ·rw[hlu];exact(PySem.StrLaws.seqIndex_nonneg (by lia) (by lia)).trans (congrArg some (by lia))
    ·exact fY (ac hj)
    ·have eE:(Ts us).eraseIdx j=Ts (us.eraseIdx j):=by
      show (us.map λl=>V.str (S l)).eraseIdx j=_;rw[Td]
     rw[eE];exact⟨_,us.eraseIdx j,rfl,k6.new hL0 Bs.symm,au,λu hu=>Ef u ((List.eraseIdx_sublist us j).subset hu),by rw[List.length_eraseIdx];split <;> lia⟩
  ·rintro σ H4 ⟨v9,us,rfl,s4,jX,Ef,zZ⟩
   have l0:0 < ls.length:=by lia
   have l1:1 < ls.length:=by lia
   refine⟨_,rfl,_,rfl,ls,_,ls[0],rfl,rfl,Bk,aG (j:=0) (by simp[l0]),_,rfl,ls,_,ls[1],rfl,rfl,Bk,aG (j:=1) (by simp[l1]),[ls[0]],[ls[1]],rfl,rfl,zsz 2,_,rfl,ls,_,ls[1],rfl,rfl,Bk,aG (j:=1) (by simp[l1]),[ls[1]],3,rfl,rfl,by decide,by decide,by show 1 < 1000;decide,zsz 2,λM hM=>?_⟩;have kM:aA H4 (upd H4 M (HO.lst [.str (S ([ls[0]]++[ls[1]])),.str (S (List.replicate 3 [ls[1]]).flatten)])):=aA.upd hM;have eM:upd H4 M (HO.lst [.str (S ([ls[0]]++[ls[1]])),.str (S (List.replicate 3 [ls[1]]).flatten)]) M=some (.lst (Ts [[ls[0],ls[1]],[ls[1],ls[1],ls[1]]])):=au;have mj:=kM _ _ jX;generalize upd H4 M (HO.lst [.str (S ([ls[0]]++[ls[1]])),.str (S (List.replicate 3 [ls[1]]).flatten)])=H5 at kM eM mj ⊢;refine⟨L,M,_,_,rfl,rfl,mj,eM,aE (aH (by rw[aa,aa];simp;lia)),λp hp=>?_⟩;have ee:Ts us++Ts [[ls[0],ls[1]],[ls[1],ls[1],ls[1]]]=Ts (us++[[ls[0],ls[1]],[ls[1],ls[1],ls[1]]]):=by simp[Ts]
   rw[ee];have a0:=hA.az _ (ai l0);have a1:=hA.az _ (ai l1);refine q p _ _ ((s4.same kM).same (aA.upd hp)) au (λu hu=>?_) (by simp;lia);rcases a7.mp hu with z | z
   ·exact Ef u z
   ·rcases bq.mp z with z | z
    ·rw[z]
     refine⟨by show 2<=2;decide,by show 2<=9;decide,λc hc=>?_⟩;rcases bq.mp hc with y | y
     ·rw[y];exact a0
     ·rw[aw.mp y];exact a1
    ·rw[aw.mp z]
     refine⟨by show 2<=3;decide,by show 3<=9;decide,λc hc=>?_⟩;simp only[bq,gI,or_false,or_self]at hc;rw[hc];exact a1
theorem aa6 {R:AA}{a b c d i j i' j':Nat}(h:Dv R a b c d i j)(g:Dv R a b c d i' j'):i=i'/\j=j':=by
 have e:i=i':=by
  rcases ja i i' with z | z | z
  ·exact absurd h.fr (g.up i j h.i1 z h.j1 h.j2)
  ·exact z
  ·exact absurd g.fr (h.up i' j' g.i1 z g.j1 g.j2)
 subst e;refine⟨rfl,?_⟩;rcases ja j j' with z | z | z
 ·exact absurd h.fr (g.le j h.j1 z)
 ·exact z
 ·exact absurd g.fr (h.le j' g.j1 z)
theorem aa7 {ak:AA}{ts:List bA}{bs ws:AA}(h:∀x,x∈bs↔x∈ws):oO ak bs ts=oO ak ws ts:=by
 have e:yM bs=yM ws:=funext λq=>by
  unfold yM;rw[decide_eq_decide.mpr (h (Bp q))]
 unfold oO;rw[e]
theorem Tg {ak:AA}{r w bi bj:Nat}{ws:AA}{bY:List Nat}{ts:List bA}{u v:Vd}(h:pU ak r w bi bj ws bY ts u)(g:pU ak r w bi bj ws bY ts v):u=v:=by
 have ng:∀{R:AA} {a b c d i j:Nat},Dv R a b c d i j->qW R a b c d->False:=λz y=>y _ _ z.i1 z.i2 z.j1 z.j2 z.fr;cases h <;> cases g <;> first | rfl | exact(ng ‹_› ‹_›).elim | (simp_all;done) | (simp_all;exact aa6 ‹_› ‹_›)
theorem Qe {ak:AA}{r w bi bj:Nat}{ws bs:AA}{bY:List Nat}{ts:List bA}{u:Vd}(e:oO ak bs ts=oO ak ws ts)(h:pU ak r w bi bj bs bY ts u):pU ak r w bi bj ws bY ts u:=by
 cases h <;> (constructor <;> first | assumption | exact e ▸ ‹_›)
def aa8:Vd->List V
 | .ok=>[.int (9:Nat),.int (0:Nat),.int (0:Nat)]
 | .jK i j=>[.int (1:Nat),.int i,.int j]
 | .mz=>[.int (2:Nat),.int (0:Nat),.int (0:Nat)]
 | .gap i j=>[.int (3:Nat),.int i,.int j]
 | .mC=>[.int (4:Nat),.int (0:Nat),.int (0:Nat)]
 | .lQ t=>[.int (5:Nat),.str (S [t]),.int (0:Nat)]
 | .nw l=>[.int (6:Nat),.str (S l),.int (0:Nat)]
def ach:Sp:=λvs H Q _=>∃(pr pb t Lw:Addr) (ak ws:AA) (r w bi bj:Nat) (as:List Addr) (ts:List bA) (bY:List Nat),vs=[.ref pr,.ref pb,.ref t,.str (S bY),.ref Lw]/\H pr=some (.tup (Ts ak))/\Blk r w ak/\1<=r/\r<=9/\1<=w/\w<=9/\(∀l∈ak,∀c∈l,rG c)/\H pb=some (.tup [.int bi,.int bj])/\H t=some (.tup (as.map V.ref))/\cT H as ts/\(∀t∈ts,inB r w t)/\0 < ts.length/\ts.length<=7/\bY.length<=63/\H Lw=some (.lst (Ts ws))/\
 ∀(T:Addr) (v:Vd) (H':Hp),aA H H'->pU ak r w bi bj ws bY ts v->H' T=some (.tup (aa8 v))->Q (.ref T) H'
theorem af8 (D:aK K mg "_law_due" Mu ["_law_rows_here","_law_begin_here","_law_laying","_law_rack_here","_law_words_here"])(wG:bO P w K mg base "_law_cells_due" 3 ["_law_rows_here","_law_begin_here","_law_laying"] PK)(La:bO P w K mg base "_law_lacking" 1 ["_law_rack_here","_law_laying"] YL)(Ld:bO P w K mg base "_law_missing" 3 ["_law_rows_here","_law_laying","_law_words_here"] YQ):bO P w K mg base "_law_due" 4 ["_law_rows_here","_law_begin_here","_law_laying","_law_rack_here","_law_words_here"] ach:=by
 refine D.dz Xo (λvs H Q E h=>?_) (λf bL A outer s H vs Q E hr h=>?_)
 ·obtain⟨pr,pb,t,Lw,ak,ws,r,w,bi,bj,as,ts,bY,rfl,_⟩:=h
  rfl
 ·obtain⟨pr,pb,t,Lw,ak,ws,r,w,bi,bj,as,ts,bY,rfl,hpr,hb,r1,r9,w1,w9,rK,hpb,ht,hL,bT,h0,h7,h63,hLw,q⟩:=h
  refine⟨_,(aD (aQ (i:=5) Xo.nd rfl (Or.inl rfl) (aV wG hr.mono rfl (aj (qv 0) (aj (qv 1) (aj (qv 2) aq))))) (aD (bW (bw jo (aP bf (qv 5) aB (λ_ _=>rfl)) aB (aZ _)) (aF (aY (qv 5))) bC) (aD (bW (bw Rv (aV La hr.mono rfl (aj (qv 3) (aj (qv 2) aq))) ur (aZ _)) (aF (aY (cH (aj aB (aj (aV La hr.mono rfl (aj (qv 3) (aj (qv 2) aq))) (aj aB aq)))))) bC) (aD (bW (bw Rv (aV Ld hr.mono rfl (aj (qv 0) (aj (qv 2) (aj (qv 4) aq)))) ur (aZ _)) (aF (aY (cH (aj aB (aj (aV Ld hr.mono rfl (aj (qv 0) (aj (qv 2) (aj (qv 4) aq)))) (aj aB aq)))))) bC) (aF (aY (qv 5))))))),?_⟩;refine⟨_,rfl,_,rfl,_,rfl,pr,pb,t,ak,r,w,bi,bj,as,ts,rfl,hpr,hb,r1,r9,w1,w9,rK,hpb,ht,hL,bT,h0,h7,λT d x y H1 s1 hdr hT=>?_⟩;refine⟨_,rfl,T,_,_,.int d,rfl,rfl,aM.of hT,aG (j:=0) rfl,_,_,rfl,rfl,_,rfl,?_⟩;have less:d≠9->∃v,pU ak r w bi bj ws bY ts v/\aa8 v=[.int d,.int x,.int y]:=λh9=>by
   cases hdr with
   | jK h=>exact⟨_,.jK h,rfl⟩
   | mz h1 h=>exact⟨_,.mz h1 h,rfl⟩
   | gap h1 h2 h=>exact⟨_,.gap h1 h2 h,rfl⟩
   | mC h1 h2 h3 h=>exact⟨_,.mC h1 h2 h3 h,rfl⟩
   | ok=>exact absurd rfl h9
  by_cases h9:d=9
  ·subst h9
   rw[ae (show ¬((9:Nat):Int) < 9 by decide)];obtain⟨d1,d2,d3,d4⟩:ni ak ts=none/\(jG ts||kO ts)=true/\qW (b_ ak ts) (gD ts).1 (fP ts).1 (gD ts).2.1 (fP ts).2.1/\pR ak r w bi bj ts=true:=by
    cases hdr with
    | ok h1 h2 h3 h=>exact⟨h1,h2,h3,h⟩
   have exy:x=0/\y=0:=by cases hdr with | ok=>exact⟨rfl,rfl⟩
   obtain⟨rfl,rfl⟩:=exy;have done:∀(H':Hp),aA H1 H'->(∃left,sO (bY.map λc=>[c]) (ts.map (·.2.2))=.inr left)->oO ak ws ts=none->Q (.ref T) H':=λH' sH hl hm=>q T .ok H' (s1.trans sH) (.ok d1 d2 d3 d4 hl hm) (sH _ _ hT);refine aX ?_;cases hg:sO (bY.map λc=>[c]) (ts.map (·.2.2)) with
   | inl tl=>
    refine⟨_,rfl,_,rfl,bY,t,as,ts,r,w,rfl,h63,s1 _ _ ht,hL.mv s1,bT,λtl' e H2 s2=>?_,λleft e=>(by rw[hg]at e;cases e)⟩;obtain rfl:tl=tl':=by rw[hg]at e;exact Sum.inl.inj e
    refine⟨rfl,_,rfl,?_⟩;rw[ae (show ¬V.str (S [tl])=V.non from λz=>nomatch z)];have jJ:=s1.trans s2;refine bI ⟨_,rfl,_,rfl,bY,t,as,ts,r,w,rfl,h63,jJ _ _ ht,hL.mv jJ,bT,λtl2 e H3 s3=>?_,λleft e=>(by rw[hg]at e;cases e)⟩;obtain rfl:tl=tl2:=by rw[hg]at e;exact Sum.inl.inj e
    refine⟨zsz 3,λg YX=>?_⟩;exact q g (.lQ tl) _ ((jJ.trans s3).trans (aA.upd YX)) (.lQ d1 d2 d3 d4 hg) au
   | inr left=>
    refine⟨_,rfl,_,rfl,bY,t,as,ts,r,w,rfl,h63,s1 _ _ ht,hL.mv s1,bT,λtl' e=>(by rw[hg]at e;cases e),λleft' e H2 s2=>?_⟩;refine⟨rfl,_,rfl,?_⟩;rw[ah (show V.non=V.non from rfl)];have jJ:=s1.trans s2;refine aX ⟨_,rfl,_,rfl,_,rfl,pr,t,Lw,ak,ws,r,w,as,ts,rfl,jJ _ _ hpr,hb,r9,w9,rK,jJ _ _ ht,hL.mv jJ,bT,h0,h7,jJ _ _ hLw,λl hm H3 s3=>?_,λhm H3 s3=>?_⟩
    ·refine⟨rfl,_,rfl,?_⟩
     rw[ae (show ¬V.str (S l)=V.non from λz=>nomatch z)];have sJ:=jJ.trans s3;refine bI ⟨_,rfl,_,rfl,_,rfl,pr,t,Lw,ak,ws,r,w,as,ts,rfl,sJ _ _ hpr,hb,r9,w9,rK,sJ _ _ ht,hL.mv sJ,bT,h0,h7,sJ _ _ hLw,λl2 hm2 H4 s4=>?_,λhm2=>(by rw[hm]at hm2;cases hm2)⟩;obtain rfl:l=l2:=by rw[hm]at hm2;exact ap hm2
     refine⟨zsz 3,λg YX=>?_⟩;exact q g (.nw l) _ ((sJ.trans s4).trans (aA.upd YX)) (.nw d1 d2 d3 d4 ⟨_,hg⟩ hm) au
    ·refine⟨rfl,_,rfl,?_⟩
     rw[ah (show V.non=V.non from rfl)];exact aX ⟨_,rfl,done H3 (s2.trans s3) ⟨_,hg⟩ hm⟩
  ·have hd:(d:Int) < 9:=by cases hdr <;> first | decide | exact absurd rfl h9
   rw[ah hd];obtain⟨v,hv,ev⟩:=less h9;exact bI ⟨_,rfl,q T v H1 s1 hv (by rw[ev];exact hT)⟩
theorem Y4 (i j:Nat):List.lookup ("row":Str) (K4 i j)=some (V.int (i:Int)):=by
 rw[nu,if_neg (by decide)];rfl
theorem Y5 (i j:Nat):List.lookup ("column":Str) (K4 i j)=some (V.int (j:Int)):=by
 rw[nu,if_pos rfl]
structure ag3 (K:W.Frag)(c:rJ):Prop where
 tr:W.hasDictIn K c.jK=true/\W.findIn K (.ref c.jK) "row"=some none/\W.findIn K (.ref c.jK) "column"=some none
 gr:W.hasDictIn K c.gap=true/\W.findIn K (.ref c.gap) "row"=some none/\W.findIn K (.ref c.gap) "column"=some none
 lt:W.hasDictIn K c.lQ=true/\W.findIn K (.ref c.lQ) "tile"=some none
 nw:W.hasDictIn K c.nw=true/\W.findIn K (.ref c.nw) "word"=some none
def rJ.all (c:rJ):List Addr:=[c.lay,c.jK,c.mz,c.gap,c.mC,c.lQ,c.nw]
structure VdF (K:W.Frag)(c:rJ)(os:List Addr):Prop where
 lay:vP K c.all os c.lay 0
 jK:vP K c.all os c.jK 1
 mz:vP K c.all os c.mz 2
 gap:vP K c.all os c.gap 3
 mC:vP K c.all os c.mC 4
 lQ:vP K c.all os c.lQ 5
 nw:vP K c.all os c.nw 6
 non:W.kitOne K (.type "NoneType") (.ref c.lay)=some false
inductive Ti (c:rJ) (H:Hp):V->Vd->Prop
 | ok:Ti c H .non .ok
 | no {a:Addr} {cls:Value} {dd:Option Addr} {v:Vd} (hx:Br c H cls dd v) (ha:H a=some (.ext (rP a cls dd))):Ti c H (.ref a) v
theorem Br.kn {c:rJ}{H:Hp}{cls:Value}{dd:Option Addr}{v:Vd}(h:Br c H cls dd v):jT H dd:=by
 cases v with
 | ok=>exact h.elim
 | jK i j=>obtain⟨_,dx,rfl,e⟩:=h;exact⟨_,e⟩
 | mz=>obtain⟨_,rfl⟩:=h;trivial
 | gap i j=>obtain⟨_,dx,rfl,e⟩:=h;exact⟨_,e⟩
 | mC=>obtain⟨_,rfl⟩:=h;trivial
 | lQ t=>obtain⟨_,dx,rfl,e⟩:=h;exact⟨_,e⟩
 | nw l=>obtain⟨_,dx,rfl,e⟩:=h;exact⟨_,e⟩
def Ju (c:rJ):Sp:=λvs H Q _=>∃(x:V) (T:Addr) (v:Vd),vs=[x,.ref T]/\H T=some (.tup (aa8 v))/\Ti c H x v/\∀H',aA H H'->Q (.bl true) H'
open Classical in
theorem aa9 {c:rJ}{os:List Addr}(D:aK K mg "_law_right" Dm ["_law_caught_here","_law_due_here"])(VF:VdF K c os)(FO:ag3 K c)
  (adO:bO P w K mg base "_law_class" 1 ["_law_error"] (S8 K c.all os)):bO P w K mg base "_law_right" 2 ["_law_caught_here","_law_due_here"] (Ju c):=by
 refine D.dz aau (λvs H Q E h=>?_) (λf bL A outer s H vs Q E hr h=>?_)
 ·obtain⟨x,T,v,rfl,_⟩:=h
  rfl
 ·obtain⟨x,T,v,rfl,hT,hc,q⟩:=h
  refine⟨_,(aD (bW (QW.qt (j7 (bw fW (aP bf (qv 1) aB (λ_ _=>rfl)) aB (aZ _)) (jc (bw Wh (qv 0) ur (aZ _))))) (aF (aY (lV (dU Wh (qv 0) ur (aZ _)) (jP (dU fW (aP bf (qv 1) aB (λ_ _=>rfl)) aB (aZ _)))))) bC) (aD (bW (bw oV (aV adO hr.mono rfl (aj (qv 0) aq)) (aP bf (qv 1) aB (λ_ _=>rfl)) (aZ _)) (aF (aY iI)) bC) (aD (bW (QW.qt (j7 (bw fW (aP bf (qv 1) aB (λ_ _=>rfl)) aB (aZ _)) (jc (bw fW (aP bf (qv 1) aB (λ_ _=>rfl)) aB (aZ _))))) (aF (aY (dU (Gz hr.units) (cH (aj (Dg (qv 0) rfl) (aj (Dg (qv 0) rfl) aq))) (cH (aj (aP bf (qv 1) aB (λ_ _=>rfl)) (aj (aP bf (qv 1) aB (λ_ _=>rfl)) aq))) (aZ _)))) bC) (aD (bW (bw fW (aP bf (qv 1) aB (λ_ _=>rfl)) aB (aZ _)) (aF (aY (dU rm (Dg (qv 0) rfl) (aP bf (qv 1) aB (λ_ _=>rfl)) (aZ _)))) bC) (aF (aY (T_ (dU oV (aP bf (qv 1) aB (λ_ _=>rfl)) aB (aZ _)) (jP (dU rm (Dg (qv 0) rfl) (aP bf (qv 1) aB (λ_ _=>rfl)) (aZ _)))))))))),?_⟩;have dI:∀(a b:Nat),decide (V.int (a:Int)=V.int (b:Int))=decide (a=b):=λa b=>by
   by_cases e:a=b
   ·rw[ah e,e,ah rfl]
   ·rw[ae e,ae λz=>e (by injection z with z;lia)]
  cases hc with
  | ok=>
   refine⟨_,rfl,T,_,_,.int (9:Nat),rfl,rfl,aM.of hT,aG (j:=0) rfl,rfl,_,rfl,?_⟩;rw[ah (show V.int ((9:Nat):Int)=V.int 9 from rfl)];refine bI ⟨_,rfl,rfl,_,rfl,?_⟩;rw[ah (show V.non=V.non from rfl)];refine bI ⟨_,rfl,T,_,_,.int (9:Nat),rfl,rfl,aM.of hT,aG (j:=0) rfl,rfl,?_⟩;rw[ah (show V.int ((9:Nat):Int)=V.int 9 from rfl)];exact q H (aA.refl _)
  | @no a cls dd v hx ha=>
   have hk:=hx.kn;cases v with
   | ok=>exact hx.elim
   | jK i j=>
    obtain⟨rfl,dx,rfl,hdx⟩:=hx;refine⟨_,rfl,T,_,_,.int (1:Nat),rfl,rfl,aM.of hT,aG (j:=0) rfl,rfl,_,rfl,?_⟩;rw[ae (show ¬V.int ((1:Nat):Int)=V.int 9 from λz=>nomatch z)];refine aX ⟨_,rfl,rfl,_,rfl,?_⟩;rw[ae (show ¬V.ref a=V.non from λz=>nomatch z)];refine aX ⟨_,rfl,a,_,_,1,rfl,ha,hk,VF.jK,λH1 s1=>?_⟩;have hT1:=s1 _ _ hT;refine⟨_,rfl,T,_,_,.int (1:Nat),rfl,rfl,aM.of hT1,aG (j:=0) rfl,rfl,_,rfl,oY rfl ?_⟩;refine⟨_,rfl,T,_,_,.int (1:Nat),rfl,rfl,aM.of hT1,aG (j:=0) rfl,rfl,_,rfl,?_⟩;rw[ah (show V.int ((1:Nat):Int)=V.int 1 from rfl)];refine bI ?_;obtain⟨hd,nr,nc⟩:=FO.tr;have ha1:=s1 _ _ ha;have Qf:=s1 _ _ hdx;refine⟨_,rfl,a,_,dx,_,_,rfl,ha1,Qf,VF.jK.is,hd,nr,Y4 i j,_,rfl,a,_,dx,_,_,rfl,ha1,Qf,VF.jK.is,hd,nc,Y5 i j,zsz 2,λg1 hg1=>?_⟩;have k1:aA H1 (upd H1 g1 (HO.tup [.int (i:Int),.int (j:Int)])):=aA.upd hg1;have e1:upd H1 g1 (HO.tup [.int (i:Int),.int (j:Int)]) g1=some (.tup [.int (i:Int),.int (j:Int)]):=au;generalize upd H1 g1 (HO.tup [.int (i:Int),.int (j:Int)])=H2 at k1 e1 ⊢;refine⟨_,rfl,T,_,_,.int i,rfl,rfl,aM.of (k1 _ _ hT1),aG (j:=1) rfl,_,rfl,T,_,_,.int j,rfl,rfl,aM.of (k1 _ _ hT1),aG (j:=2) rfl,zsz 2,λg2 hg2=>?_⟩;have k2:aA H2 (upd H2 g2 (HO.tup [.int (i:Int),.int (j:Int)])):=aA.upd hg2;have e2:upd H2 g2 (HO.tup [.int (i:Int),.int (j:Int)]) g2=some (.tup [.int (i:Int),.int (j:Int)]):=au;have e1':=k2 _ _ e1;generalize upd H2 g2 (HO.tup [.int (i:Int),.int (j:Int)])=H3 at k2 e2 e1' ⊢;refine⟨2,.tup [.int i,.int j],.tup [.int i,.int j],by decide,.tup (aM.of e1') (.cons (.int _) (.cons (.int _) .nil)),.tup (aM.of e2) (.cons (.int _) (.cons (.int _) .nil)),?_⟩;simp only[cn,if_false,decide_true];exact q _ (s1.trans (k1.trans k2))
   | mz=>
    obtain⟨rfl,rfl⟩:=hx;refine⟨_,rfl,T,_,_,.int (2:Nat),rfl,rfl,aM.of hT,aG (j:=0) rfl,rfl,_,rfl,?_⟩;rw[ae (show ¬V.int ((2:Nat):Int)=V.int 9 from λz=>nomatch z)];refine aX ⟨_,rfl,rfl,_,rfl,?_⟩;rw[ae (show ¬V.ref a=V.non from λz=>nomatch z)];refine aX ⟨_,rfl,a,_,_,2,rfl,ha,hk,VF.mz,λH1 s1=>?_⟩;have hT1:=s1 _ _ hT;refine⟨_,rfl,T,_,_,.int (2:Nat),rfl,rfl,aM.of hT1,aG (j:=0) rfl,rfl,_,rfl,oY rfl ?_⟩;refine⟨_,rfl,T,_,_,.int (2:Nat),rfl,rfl,aM.of hT1,aG (j:=0) rfl,rfl,_,rfl,?_⟩;rw[ae (show ¬V.int ((2:Nat):Int)=V.int 1 from λz=>nomatch z)];refine aX ⟨_,rfl,T,_,_,.int (2:Nat),rfl,rfl,aM.of hT1,aG (j:=0) rfl,rfl,_,rfl,?_⟩;rw[ae (show ¬V.int ((2:Nat):Int)=V.int 3 from λz=>nomatch z)];refine aX ⟨_,rfl,T,_,_,.int (2:Nat),rfl,rfl,aM.of hT1,aG (j:=0) rfl,rfl,_,rfl,?_⟩;rw[ae (show ¬V.int ((2:Nat):Int)=V.int 5 from λz=>nomatch z)];refine aX ⟨_,rfl,T,_,_,.int (2:Nat),rfl,rfl,aM.of hT1,aG (j:=0) rfl,rfl,?_⟩;rw[ae (show ¬V.int ((2:Nat):Int)=V.int 6 from λz=>nomatch z)];exact⟨_,rfl,bI (q H1 s1)⟩
   | gap i j=>
    obtain⟨rfl,dx,rfl,hdx⟩:=hx;refine⟨_,rfl,T,_,_,.int (3:Nat),rfl,rfl,aM.of hT,aG (j:=0) rfl,rfl,_,rfl,?_⟩;rw[ae (show ¬V.int ((3:Nat):Int)=V.int 9 from λz=>nomatch z)];refine aX ⟨_,rfl,rfl,_,rfl,?_⟩;rw[ae (show ¬V.ref a=V.non from λz=>nomatch z)];refine aX ⟨_,rfl,a,_,_,3,rfl,ha,hk,VF.gap,λH1 s1=>?_⟩;have hT1:=s1 _ _ hT;refine⟨_,rfl,T,_,_,.int (3:Nat),rfl,rfl,aM.of hT1,aG (j:=0) rfl,rfl,_,rfl,oY rfl ?_⟩;refine⟨_,rfl,T,_,_,.int (3:Nat),rfl,rfl,aM.of hT1,aG (j:=0) rfl,rfl,_,rfl,?_⟩;rw[ae (show ¬V.int ((3:Nat):Int)=V.int 1 from λz=>nomatch z)];refine aX ⟨_,rfl,T,_,_,.int (3:Nat),rfl,rfl,aM.of hT1,aG (j:=0) rfl,rfl,_,rfl,?_⟩;rw[ah (show V.int ((3:Nat):Int)=V.int 3 from rfl)];refine bI ?_;obtain⟨hd,nr,nc⟩:=FO.gr;have ha1:=s1 _ _ ha;have Qf:=s1 _ _ hdx;refine⟨_,rfl,a,_,dx,_,_,rfl,ha1,Qf,VF.gap.is,hd,nr,Y4 i j,_,rfl,a,_,dx,_,_,rfl,ha1,Qf,VF.gap.is,hd,nc,Y5 i j,zsz 2,λg1 hg1=>?_⟩;have k1:aA H1 (upd H1 g1 (HO.tup [.int (i:Int),.int (j:Int)])):=aA.upd hg1;have e1:upd H1 g1 (HO.tup [.int (i:Int),.int (j:Int)]) g1=some (.tup [.int (i:Int),.int (j:Int)]):=au;generalize upd H1 g1 (HO.tup [.int (i:Int),.int (j:Int)])=H2 at k1 e1 ⊢;refine⟨_,rfl,T,_,_,.int i,rfl,rfl,aM.of (k1 _ _ hT1),aG (j:=1) rfl,_,rfl,T,_,_,.int j,rfl,rfl,aM.of (k1 _ _ hT1),aG (j:=2) rfl,zsz 2,λg2 hg2=>?_⟩;have k2:aA H2 (upd H2 g2 (HO.tup [.int (i:Int),.int (j:Int)])):=aA.upd hg2;have e2:upd H2 g2 (HO.tup [.int (i:Int),.int (j:Int)]) g2=some (.tup [.int (i:Int),.int (j:Int)]):=au;have e1':=k2 _ _ e1;generalize upd H2 g2 (HO.tup [.int (i:Int),.int (j:Int)])=H3 at k2 e2 e1' ⊢;refine⟨2,.tup [.int i,.int j],.tup [.int i,.int j],by decide,.tup (aM.of e1') (.cons (.int _) (.cons (.int _) .nil)),.tup (aM.of e2) (.cons (.int _) (.cons (.int _) .nil)),?_⟩;simp only[cn,if_false,decide_true];exact q _ (s1.trans (k1.trans k2))
   | mC=>
    obtain⟨rfl,rfl⟩:=hx;refine⟨_,rfl,T,_,_,.int (4:Nat),rfl,rfl,aM.of hT,aG (j:=0) rfl,rfl,_,rfl,?_⟩;rw[ae (show ¬V.int ((4:Nat):Int)=V.int 9 from λz=>nomatch z)];refine aX ⟨_,rfl,rfl,_,rfl,?_⟩;rw[ae (show ¬V.ref a=V.non from λz=>nomatch z)];refine aX ⟨_,rfl,a,_,_,4,rfl,ha,hk,VF.mC,λH1 s1=>?_⟩;have hT1:=s1 _ _ hT;refine⟨_,rfl,T,_,_,.int (4:Nat),rfl,rfl,aM.of hT1,aG (j:=0) rfl,rfl,_,rfl,oY rfl ?_⟩;refine⟨_,rfl,T,_,_,.int (4:Nat),rfl,rfl,aM.of hT1,aG (j:=0) rfl,rfl,_,rfl,?_⟩;rw[ae (show ¬V.int ((4:Nat):Int)=V.int 1 from λz=>nomatch z)];refine aX ⟨_,rfl,T,_,_,.int (4:Nat),rfl,rfl,aM.of hT1,aG (j:=0) rfl,rfl,_,rfl,?_⟩;rw[ae (show ¬V.int ((4:Nat):Int)=V.int 3 from λz=>nomatch z)];refine aX ⟨_,rfl,T,_,_,.int (4:Nat),rfl,rfl,aM.of hT1,aG (j:=0) rfl,rfl,_,rfl,?_⟩;rw[ae (show ¬V.int ((4:Nat):Int)=V.int 5 from λz=>nomatch z)];refine aX ⟨_,rfl,T,_,_,.int (4:Nat),rfl,rfl,aM.of hT1,aG (j:=0) rfl,rfl,?_⟩;rw[ae (show ¬V.int ((4:Nat):Int)=V.int 6 from λz=>nomatch z)];exact⟨_,rfl,bI (q H1 s1)⟩
   | lQ tl=>
    obtain⟨rfl,dx,rfl,hdx⟩:=hx;refine⟨_,rfl,T,_,_,.int (5:Nat),rfl,rfl,aM.of hT,aG (j:=0) rfl,rfl,_,rfl,?_⟩;rw[ae (show ¬V.int ((5:Nat):Int)=V.int 9 from λz=>nomatch z)];refine aX ⟨_,rfl,rfl,_,rfl,?_⟩;rw[ae (show ¬V.ref a=V.non from λz=>nomatch z)];refine aX ⟨_,rfl,a,_,_,5,rfl,ha,hk,VF.lQ,λH1 s1=>?_⟩;have hT1:=s1 _ _ hT;refine⟨_,rfl,T,_,_,.int (5:Nat),rfl,rfl,aM.of hT1,aG (j:=0) rfl,rfl,_,rfl,oY rfl ?_⟩;refine⟨_,rfl,T,_,_,.int (5:Nat),rfl,rfl,aM.of hT1,aG (j:=0) rfl,rfl,_,rfl,?_⟩;rw[ae (show ¬V.int ((5:Nat):Int)=V.int 1 from λz=>nomatch z)];refine aX ⟨_,rfl,T,_,_,.int (5:Nat),rfl,rfl,aM.of hT1,aG (j:=0) rfl,rfl,_,rfl,?_⟩;rw[ae (show ¬V.int ((5:Nat):Int)=V.int 3 from λz=>nomatch z)];refine aX ⟨_,rfl,T,_,_,.int (5:Nat),rfl,rfl,aM.of hT1,aG (j:=0) rfl,rfl,_,rfl,?_⟩;rw[ah (show V.int ((5:Nat):Int)=V.int 5 from rfl)];refine bI ⟨_,rfl,a,_,dx,_,_,rfl,s1 _ _ ha,s1 _ _ hdx,VF.lQ.is,FO.lt.1,FO.lt.2,rfl,_,rfl,T,_,_,.str (S [tl]),rfl,rfl,aM.of hT1,aG (j:=1) rfl,[tl],[tl],rfl,rfl,?_⟩;rw[ah (show [tl]=[tl] from rfl)];exact q H1 s1
   | nw l=>
    obtain⟨rfl,dx,rfl,hdx⟩:=hx;refine⟨_,rfl,T,_,_,.int (6:Nat),rfl,rfl,aM.of hT,aG (j:=0) rfl,rfl,_,rfl,?_⟩;rw[ae (show ¬V.int ((6:Nat):Int)=V.int 9 from λz=>nomatch z)];refine aX ⟨_,rfl,rfl,_,rfl,?_⟩;rw[ae (show ¬V.ref a=V.non from λz=>nomatch z)];refine aX ⟨_,rfl,a,_,_,6,rfl,ha,hk,VF.nw,λH1 s1=>?_⟩;have hT1:=s1 _ _ hT;refine⟨_,rfl,T,_,_,.int (6:Nat),rfl,rfl,aM.of hT1,aG (j:=0) rfl,rfl,_,rfl,oY rfl ?_⟩;refine⟨_,rfl,T,_,_,.int (6:Nat),rfl,rfl,aM.of hT1,aG (j:=0) rfl,rfl,_,rfl,?_⟩;rw[ae (show ¬V.int ((6:Nat):Int)=V.int 1 from λz=>nomatch z)];refine aX ⟨_,rfl,T,_,_,.int (6:Nat),rfl,rfl,aM.of hT1,aG (j:=0) rfl,rfl,_,rfl,?_⟩;rw[ae (show ¬V.int ((6:Nat):Int)=V.int 3 from λz=>nomatch z)];refine aX ⟨_,rfl,T,_,_,.int (6:Nat),rfl,rfl,aM.of hT1,aG (j:=0) rfl,rfl,_,rfl,?_⟩;rw[ae (show ¬V.int ((6:Nat):Int)=V.int 5 from λz=>nomatch z)];refine aX ⟨_,rfl,T,_,_,.int (6:Nat),rfl,rfl,aM.of hT1,aG (j:=0) rfl,rfl,?_⟩;rw[ah (show V.int ((6:Nat):Int)=V.int 6 from rfl)];refine⟨_,rfl,aX ?_⟩;refine⟨_,rfl,a,_,dx,_,_,rfl,s1 _ _ ha,s1 _ _ hdx,VF.nw.is,FO.nw.1,FO.nw.2,rfl,_,rfl,T,_,_,.str (S l),rfl,rfl,aM.of hT1,aG (j:=1) rfl,l,l,rfl,rfl,?_⟩;rw[ah (show l=l from rfl)];exact q H1 s1
theorem adP {ts:List bA}(h:(ts.map rk).Pairwise (· < ·)):pD (ts.map eY)=true:=by
 unfold pD;rw[cz];intro p hp;obtain⟨i,hi,e⟩:=dm.mp hp;have hl:=hi;rw[List.length_zip,bt,aa]at hl;rw[List.getElem_zip,List.getElem_drop,fh,fh]at e;rw[<- e];refine ah ?_;have:=dn.mp h i (1+i) (by rw[aa];lia) (by rw[aa];lia) (by lia);rw[fh,fh]at this;exact this
theorem adQ {ds:List Int}{lo hi:Option Int}{v:V}(h:v∈n6 (ds.map V.int) lo hi):∃d:Int,v=.int d:=by
 unfold n6 at h;have h2:=gp (cE h);obtain⟨d,hd,e⟩:=bp.mp h2;exact⟨d,e.symm⟩
theorem aA.kp {R:Addr}{H H1 H2:Hp}(s:aA H H1)(n:H R=none)(k:Kp R H1 H2):aA H H2:=λb o e=>k.1 b o (s b o e) (bU e n)
theorem aa_ {a b:AA}(p:a.Perm b)(h1:a.Pairwise (λx y=>decide (y < x)=false))(h2:b.Pairwise (λx y=>decide (y < x)=false)):a=b:=
 p.eq_of_pairwise (le:=λx y=>decide (y < x)=false) (λx y _ _ z1 z2=>List.le_antisymm (List.not_lt.mp (of_decide_eq_false z1)) (List.not_lt.mp (of_decide_eq_false z2))) h1 h2
theorem Jv {name:Str}{k:Nat}{ps:List Str}{sp M4:Sp}(D:bO P w K mg base name k ps sp)(h:∀vs H Q E,M4 vs H Q E->sp vs H Q E):bO P w K mg base name k ps M4:=by
 obtain⟨f,fd,a,b,c,d⟩:=D.ex;exact⟨f,fd,a.imp h,b,c,d⟩
theorem af9 {ts:List bA}(hl:Dq ts)(h0:0 < ts.length):jG ts=decide (gA ts=0):=by
 rw[<- X7 hl h0,all_map];unfold jG;rw[kY h0];congr 1;funext t;rw[aaL]
theorem af_ {C CB f g0 g1 f1:Addr}{c:rJ}{fd fe0 fe1 iw:FuncData}(F:gM K "law" "law" Mv f fd)(cR:mg "range"=none)
  (fQ:gW K C) (Ez:mg "Board"=some (.ref C)) (Je:Mk K C g0) (Jf:cP P w K mg base fZ 5 g0 fe0 ["self","rows","marks","begin"] (Ja C)) (Jg:cO K fe0 ["self","rows","marks","begin"] [])
  (Hy:uc K CB) (adR:mg "Book"=some (.ref CB)) (aga:Mk K CB g1) (agb:cP P w K mg base fZ 3 g1 fe1 ["self","words"] (Yj K CB)) (agc:cO K fe1 ["self","words"] [])
  (Bu:Meth K CB "words" f1) (Bv:cP P w K mg base fZ 1 f1 iw ["self"] (SQ CB)) (Bw:cO K iw ["self"] [])
  (Bx:bO P w K mg base "_law_cell_at" 1 ["_law_script","_law_k"] (Xp K)) (HD:bO P w K mg base "_law_rest" 1 ["_law_cell"] Xu) (Y6:bO P w K mg base "_law_letters" 2 ["_law_rest_here"] Xv)
  (agd:bO P w K mg base "_law_rows" 3 ["_law_rest_here","_law_letters_here","_law_most"] Sq) (adS:bO P w K mg base "_law_begin" 2 ["_law_rest_here","_law_rows_here"] Og) (adT:bO P w K mg base "_law_marks" 2 ["_law_rest_here","_law_rows_here"] Oe)
  (Vn:bO P w K mg base "_law_straight" 3 ["_law_rows_here","_law_rest_here","_law_letters_here"] Ec) (agf:bO P w K mg base "_law_bent" 2 ["_law_laying","_law_rest_here","_law_rows_here"] YW) (agg:bO P w K mg base "_law_rack" 2 ["_law_laying","_law_rest_here","_law_letters_here"] Tc)
  (wG:bO P w K mg base "_law_cells_due" 3 ["_law_rows_here","_law_begin_here","_law_laying"] PK) (adU:bO P w K mg base "_law_known" 3 ["_law_rows_here","_law_laying","_law_rest_here","_law_letters_here"] Tf)
  (ag4:bO P w K mg base "_law_due" 4 ["_law_rows_here","_law_begin_here","_law_laying","_law_rack_here","_law_words_here"] ach) (abb:bO P w K mg base "_law_caught" 16 ["_law_board","_law_book","_law_rack_here","_law_laying"] (Px K C CB c)) (adV:bO P w K mg base "_law_right" 2 ["_law_caught_here","_law_due_here"] (Ju c)):cP P w K mg base fZ 18 f fd ["_law_script"] (Mr K):=by
 refine F.dz iG (λvs H Q E h=>?_) (λbL A outer s H vs Q E hr h=>?_)
 ·obtain⟨a,ns,rfl,_⟩:=h
  rfl
 ·obtain⟨a,ns,rfl,hS,hn,q⟩:=h
  refine⟨_,(aD (aQ (i:=1) iG.nd rfl (Or.inl rfl) (aV Y6 hr.mono rfl (aj (aV HD hr.mono rfl (aj (aV Bx hr.mono rfl (aj (qv 0) (aj aB aq))) aq)) aq))) (aD (aQ (i:=2) iG.nd rfl (Or.inl rfl) (aV agd hr.mono rfl (aj (aV HD hr.mono rfl (aj (aV Bx hr.mono rfl (aj (qv 0) (aj aB aq))) aq)) (aj (qv 1) (aj aB aq))))) (aD (aQ (i:=3) iG.nd rfl (Or.inl rfl) (aV HD hr.mono rfl (aj (aV Bx hr.mono rfl (aj (qv 0) (aj aB aq))) aq))) (aD (aQ (i:=4) iG.nd rfl (Or.inl rfl) (aV adS hr.mono rfl (aj (qv 3) (aj (qv 2) aq)))) (aD (aQ (i:=5) iG.nd rfl (Or.inl rfl) (Io Je Jf hr.mono rfl Ez Jg .nil lK (aj (qv 2) (aj (aV adT hr.mono rfl (aj (qv 3) (aj (qv 2) aq))) (aj (qv 4) aq))))) (aD (dh bu rfl (gF (j8 xg (qv 0) (lE aB) (lE aB))) (bH (i:=6) iG.nd rfl (Or.inl rfl)) (aD (aQ (i:=3) iG.nd rfl (Or.inl rfl) (aV HD hr.mono rfl (aj (qv 6) aq))) (aD (aQ (i:=7) iG.nd rfl (Or.inl rfl) (aV agf hr.mono rfl (aj (aV Vn hr.mono rfl (aj (qv 2) (aj (qv 3) (aj (qv 1) aq)))) (aj (qv 3) (aj (qv 2) aq))))) (aD (aQ (i:=8) iG.nd rfl (Or.inl rfl) (aV agg hr.mono rfl (aj (qv 7) (aj (qv 3) (aj (qv 1) aq))))) (aD (aQ (i:=9) iG.nd rfl (Or.inl rfl) (d7 (aj (bB iT (aP m5 (qv 1) aB (λ_ _=>rfl)) (aP m5 (qv 1) aB (λ_ _=>rfl))) aq))) (aD (gn (bW (bw Gq (aP bf (aV wG hr.mono rfl (aj (qv 2) (aj (qv 4) (aj (qv 7) aq)))) aB (λ_ _=>rfl)) aB (aZ _)) (aF (aQ (i:=9) iG.nd rfl (Or.inl rfl) (aV adU hr.mono rfl (aj (qv 2) (aj (qv 7) (aj (qv 3) (aj (qv 1) aq))))))) bC)) (aD (aQ (i:=10) iG.nd rfl (Or.inl rfl) (Io aga agb hr.mono rfl adR agc .nil lK (aj (qv 9) aq))) (aD (aQ (i:=11) iG.nd rfl (Or.inl rfl) (Ep (qv 10) Hy.cl Bu Bv hr.mono Bw .nil lK)) (aD (aQ (i:=12) iG.nd rfl (Or.inl rfl) (aV ag4 hr.mono rfl (aj (qv 2) (aj (qv 4) (aj (qv 7) (aj (qv 8) (aj (qv 9) aq))))))) (aD (dh bu rfl (jW (by rfl) cR (aj aB aq)) (bH (i:=13) iG.nd rfl (Or.inl rfl)) (aF (bW (QW.qt (j7 (eO (dj (aV adV hr.mono rfl (aj (aV abb hr.mono rfl (aj (qv 5) (aj (qv 10) (aj (qv 8) (aj (qv 7) aq))))) (aj (qv 12) aq))))) (jc (bw (Ag hr.units) (jr (qv 5) rfl) (qv 2) (aZ _))))) (aF (aY iI)) bC))) (aF (bW (bw (Ag hr.units) (Ep (qv 10) Hy.cl Bu Bv hr.mono Bw .nil lK) (qv 11) (aZ _)) (aF (aY iI)) bC)))))))))))) (aF (aY iI)))))))),?_⟩;refine⟨_,rfl,a,ns,0,rfl,hS,λc0=>⟨c0,rfl,λR1 x1 H1 s1 xO ahS=>⟨R1,x1,rfl,xO,λls H2 k2 hA=>?_⟩⟩⟩;have S2:aA H H2:=aA.kp s1 ahS k2;refine⟨_,rfl,a,ns,1,rfl,S2.seq hS,λc1=>⟨c1,rfl,λR2 x4 H12 s12 ahT ahU=>⟨_,rfl,R2,x4,ls,6,rfl,ahT,hA,by decide,by decide,λpr ak r w H13 k13 hpr hb r1 r9 w1 w9 rK hfree=>?_⟩⟩⟩;have S13:aA H H13:=S2.trans (aA.kp s12 ahU k13);have hl2:=hA.lo;have af4:=hA.hi;have Bk:ls.length<=sizeLine:=aE (aH (by lia));have l0:0 < ls.length:=by lia
  have l1:1 < ls.length:=by lia
  refine⟨_,rfl,a,ns,2,rfl,S13.seq hS,λc2=>⟨c2,rfl,λR3 x5 H14 s14 ahV agh=>?_⟩⟩;have KJ:pr≠R3:=bU hpr agh;refine⟨_,rfl,_,rfl,R3,x5,pr,ak,r,w,rfl,ahV,s14 _ _ hpr,hb,r1,r9,w1,w9,λpg bi bj H15 k15 hpg hbi hbj=>?_⟩;obtain⟨x6,agi⟩:=k15.2;refine⟨_,rfl,_,rfl,_,rfl,R3,x6,pr,ak,r,w,rfl,agi,k15.1 _ _ (s14 _ _ hpr) KJ,hb,r1,r9,w9,λpm aW H16 k16 hpm hbm hmk=>?_⟩;have s16:aA H13 H16:=aA.kp s14 agh (k15.trans k16);have Vo:=s16 _ _ hpr;have Vp:=k16.tup agi _ _ hpg;have B:R_ r w ak aW bi bj:=⟨r1,r9,w1,w9,hb,hbm,rK,hmk,hbi,hbj⟩
  refine⟨_,rfl,λb dx nx ndx uH=>?_⟩;have t2:aA H16 (upd (upd H16 dx (HO.own b)) b (HO.ins C dx [])):=λc o e=>by rw[aN (bU e nx),aN (bU e ndx)];exact e
  refine⟨b,dx,pr,pm,pg,r,w,ak,aW,bi,bj,rfl,au,t2 _ _ Vo,t2 _ _ hpm,t2 _ _ Vp,B,λQg kp ahW=>⟨rfl,?_⟩⟩;have t3:aA H16 Qg:=λc o e=>kp c o (t2 c o e) (bU e nx);have BA:fD C Qg b r w ak aW bi bj:=⟨⟨dx,pr,pm,pg,ahW,t3 _ _ Vo,t3 _ _ hpm,t3 _ _ Vp⟩,B⟩
  have S18:aA H Qg:=(S13.trans s16).trans t3;have aci:=t3 _ _ Vo;have acj:=t3 _ _ Vp;refine⟨_,rfl,_,rfl,_,rfl,a,_,rfl,S18.seq hS,λta hta=>?_⟩;generalize hxs:n6 (ns.map V.int) (some 3) (some 63)=xs;have kta:aA Qg (upd Qg ta (HO.lst xs)):=aA.upd hta;have abd:upd Qg ta (HO.lst xs) ta=some (.lst xs):=au;generalize upd Qg ta (HO.lst xs)=H19 at kta abd ⊢;refine⟨ta,rfl,⟨_,aU.of abd⟩,nZ (K:=K) (a:=ta) (xs:=xs) (λn σ H'=>∃v3 v6 v7 v8 v9 v10 v11 v12 Tj:Option V,σ=[some (.ref a),some (.str (S ls)),some (.ref pr),v3,some (.ref pg),some (.ref b),v6,v7,v8,v9,v10,v11,v12,Tj]/\aA H19 H')
   ⟨_,none,none,none,none,none,none,none,none,rfl,aA.refl _⟩ (λn σ H' _ h=>by obtain⟨_,_,_,_,_,_,_,_,_,_,sm⟩:=h;exact aU.of (sm _ _ abd)) ?_ ?_⟩
  ·rintro n1 x σ H20 hx ⟨v3,v6,v7,v8,v9,v10,v11,v12,Tj,rfl,s20⟩
   obtain⟨cc,rfl⟩:∃cc:Int,x=.int cc:=by
    have:=bc hx;rw[<- hxs]at this;exact adQ this
   have k20:=kta.trans s20;have HF:=k20 _ _ aci;refine⟨_,rfl,cc,rfl,λR x7 H21 s21 ahX hRn=>?_⟩;refine⟨_,rfl,_,rfl,_,rfl,pr,ak,r,w,R,x7,ls,rfl,ahX,s21 _ _ HF,hb,r1,r9,w1,w9,hfree,hA,λt0 as0 ts0 H22 k22 ht0 hL0 ahY hne0 h70 _=>?_⟩;obtain⟨x8,ahZ⟩:=k22.2;have s22:aA H20 H22:=aA.kp s21 hRn k22;refine⟨_,rfl,_,rfl,t0,R,pr,x8,ak,r,w,as0,ts0,rfl,ahZ,s22 _ _ HF,hb,r1,r9,w1,w9,ht0,hL0,ahY,kK.mpr hne0,h70,λt as ts H23 k23 ht hL bT hrk h0 h7=>?_⟩;obtain⟨x9,abe⟩:=k23.2;have s23:aA H20 H23:=aA.kp s22 hRn k23;have Hj:=adP hrk;refine⟨_,rfl,_,rfl,_,rfl,t,R,x9,as,ts,ls,r,w,rfl,abe,ht,hL,bT,h0,h7,hA,λbY Y7 k24 hrl=>?_⟩;obtain⟨x10,ah0⟩:=k24.2;have Ed:aA H20 Y7:=aA.kp s23 hRn k24;have ah1:=k24.tup abe _ _ ht;have ah2:=hL.iu (k24.tup abe);clear ht hL;refine⟨_,rfl,ls,_,ls[0],rfl,rfl,Bk,aG (j:=0) (by simp[l0]),_,rfl,ls,_,ls[1],rfl,rfl,Bk,aG (j:=1) (by simp[l1]),[ls[0]],[ls[1]],rfl,rfl,zsz 2,zsz 1,λY8 ah3=>?_⟩;have kW:aA Y7 (upd Y7 Y8 (HO.lst [.str (S ([ls[0]]++[ls[1]]))])):=aA.upd ah3;have eW:upd Y7 Y8 (HO.lst [.str (S ([ls[0]]++[ls[1]]))]) Y8=some (.lst (Ts [[ls[0],ls[1]]])):=au;generalize upd Y7 Y8 (HO.lst [.str (S ([ls[0]]++[ls[1]]))])=H25 at kW eW ⊢;have s25:=Ed.trans kW;have Vq:=kW _ _ ah1;have Vr:=ah2.mv kW;have abf:=kW _ _ ah0;have wd0:∀l∈[[ls[0],ls[1]]],oh l:=λl hl=>by
    rw[aw.mp hl];refine⟨by show 2<=2;decide,by show 2<=9;decide,λc hc=>?_⟩;rcases bq.mp hc with y | y
    ·rw[y];exact hA.az _ (ai l0)
    ·rw[aw.mp y];exact hA.az _ (ai l1)
   refine⟨λσ' H'=>∃(Lw:Addr) (ws:AA),σ'=[some (.ref a),some (.str (S ls)),some (.ref pr),some (.ref R),some (.ref pg),some (.ref b),some (.int cc),some (.ref t),some (.str (S bY)),some (.ref Lw),v10,v11,v12,Tj]/\aA H20 H'/\H' t=some (.tup (as.map V.ref))/\cT H' as ts/\H' Lw=some (.lst (Ts ws))/\(∀l∈ws,oh l)/\ws.length<=20,?_,?_⟩
   ·refine⟨_,rfl,_,rfl,_,rfl,pr,pg,t,ak,r,w,bi,bj,as,ts,rfl,s25 _ _ HF,hb,r1,r9,w1,w9,rK,s25 _ _ (k20 _ _ acj),Vq,Vr,bT,h0,h7,λT d x y H26 vQ hdr hT=>?_⟩
    have abg:=s25.trans vQ;refine⟨T,_,_,.int d,rfl,rfl,aM.of hT,aG (j:=0) rfl,_,_,rfl,rfl,_,rfl,iZ (λ_=>?_) (λ_=>?_)⟩
    ·refine⟨_,rfl,_,rfl,_,rfl,_,rfl,pr,t,R,x10,ls,ak,r,w,as,ts,rfl,vQ _ _ abf,hA,abg _ _ HF,hb,r9,w9,rK,vQ _ _ Vq,Vr.mv vQ,bT,h0,h7,λp ws H27 k27 hp Qd agj=>?_⟩
     exact⟨p,ws,rfl,aA.kp abg hRn k27,k27.tup (vQ _ _ abf) _ _ (vQ _ _ Vq),(Vr.mv vQ).iu (k27.tup (vQ _ _ abf)),hp,Qd,agj⟩
    ·exact⟨Y8,_,rfl,abg,vQ _ _ Vq,Vr.mv vQ,vQ _ _ eW,wd0,by show 1<=20;decide⟩
   rintro σ' H28 ⟨Lw,ws,rfl,s28,ht,hL,hLw,Qd,agj⟩;refine⟨_,rfl,λk dk nk ndk nek=>?_⟩;have t4:aA H28 (upd (upd H28 dk (HO.own k)) k (HO.ins CB dk [])):=λc o e=>by rw[aN (bU e nk),aN (bU e ndk)];exact e
   refine⟨k,dk,Lw,ws,rfl,au,.inl (aU.of (t4 _ _ hLw)),Qd,by lia,λd bs H29 hdn BK hbs pQ kp=>⟨rfl,?_⟩⟩;have s29:aA H28 H29:=λc o e=>kp c o (t4 c o e) (bU e nk);have b64:bs.length < 64:=by lia
   obtain⟨dk1,ek1⟩:=BK.ob;refine⟨_,rfl,k,dk1,_,rfl,ek1,rfl,k,d,bs,rfl,BK,b64,λtk us H30 s30 ntk etk pm rs=>?_⟩;have uw:∀l∈us,oh l:=λl hl=>Qd l ((hbs l).mp (pm.mem_iff.mp hl));have hmc:oO ak bs ts=oO ak ws ts:=aa7 hbs;have HJ:=s29.trans s30;have acn:=s28.trans HJ;refine⟨_,rfl,_,rfl,_,rfl,_,rfl,_,rfl,pr,pg,t,Lw,ak,ws,r,w,bi,bj,as,ts,bY,rfl,acn _ _ HF,hb,r1,r9,w1,w9,rK,(k20.trans acn) _ _ acj,HJ _ _ ht,hL.mv HJ,bT,h0,h7,by lia,HJ _ _ hLw,λT v H31 s31 hv hT=>?_⟩;have aco:=HJ.trans s31;have acp:=s28.trans aco;have agk:=BK.mv (s30.trans s31);have Vs:∀l∈ak,∀c∈l,c < 128:=λl hl c hc=>by
    rcases rK l hl c hc with z | z
    ·lia
    ·exact z.lt
   refine⟨2,rfl,by decide,by decide,?_⟩;refine gH (lo:=0) (λi2 σ H'=>∃Tj:Option V,σ=[some (.ref a),some (.str (S ls)),some (.ref pr),some (.ref R),some (.ref pg),some (.ref b),some (.int cc),some (.ref t),some (.str (S bY)),some (.ref Lw),some (.ref k),some (.ref tk),some (.ref T),Tj]/\aA H31 H') ⟨_,rfl,aA.refl _⟩ ?_ ?_
   ·rintro i2 σ H32 hi2 ⟨w13,rfl,HN⟩
    have acq:=aco.trans HN;have k32:=k20.trans (acp.trans HN);have fin:∀(xv:V) (Eh:Hp),aA H32 Eh->Ti c Eh xv v->∀(Q':VK) (E':XK),(∀H',aA Eh H'->Q' (.bl true) H')->Ju c [xv,.ref T] Eh Q' E':=λxv Eh Ei hc Q' E' hq=>⟨xv,T,v,rfl,Ei _ _ (HN _ _ hT),hc,hq⟩
    have rest:∀(HS:Hp),aA H32 HS->aA H31 HS/\fD C HS b r w ak aW bi bj/\HS pr=some (.tup (Ts ak)):=λHS Qh=>⟨HN.trans Qh,BA.mv (k32.trans Qh),(k32.trans Qh) _ _ aci⟩
    refine⟨_,rfl,_,rfl,_,rfl,_,rfl,b,k,d,bs,bY,.ref t,r,w,ak,aW,bi,bj,rfl,BA.mv k32,agk.mv HN,by lia,.inr ⟨t,as,ts,rfl,acq _ _ ht,hL.mv acq,bT,h0,h7,Hj,λvd cls dd e Eh hv1 hv2 Ei he=>?_,λhv1 Eh Ei=>?_⟩⟩
    ·refine⟨_,rfl,?_⟩
     dsimp only[oW,j4];obtain rfl:vd=v:=Tg (Qe hmc hv1) hv;refine fin (.ref e) Eh Ei (Ti.no hv2 he) _ _ λHS Qh=>⟨_,rfl,aX ?_⟩
     obtain⟨j31,abh,Vt⟩:=rest HS (Ei.trans Qh);obtain⟨abj,pr2,Qi,pb2,abk,abl,_,_⟩:=id abh.ex;refine⟨_,rfl,b,C,abj,_,_,rfl,abk,fQ.cl,fQ.nr,rfl,_,rfl,2,.tup (ak.map Dt.str),.tup (ak.map Dt.str),by decide,.tup (aM.of abl) (dw.tQ Vs),.tup (aM.of Vt) (dw.tQ Vs),_,rfl,?_⟩;simp only[if_true,decide_true];exact aX ⟨_,rfl,j31⟩
    ·refine⟨_,rfl,?_⟩
     dsimp only[oW,j4];obtain rfl:Vd.ok=v:=Tg (Qe hmc hv1) hv;refine fin .non Eh Ei (Ti.ok) _ _ λHS Qh=>⟨_,rfl,aX ?_⟩
     obtain⟨j31,abh,Vt⟩:=rest HS (Ei.trans Qh);obtain⟨abj,pr2,Qi,pb2,abk,abl,_,_⟩:=id abh.ex;refine⟨_,rfl,b,C,abj,_,_,rfl,abk,fQ.cl,fQ.nr,rfl,_,rfl,2,.tup (ak.map Dt.str),.tup (ak.map Dt.str),by decide,.tup (aM.of abl) (dw.tQ Vs),.tup (aM.of Vt) (dw.tQ Vs),_,rfl,?_⟩;simp only[if_true,decide_true];exact aX ⟨_,rfl,j31⟩
   ·rintro σ H32 ⟨w13,rfl,HN⟩
    have agl:=agk.mv HN;obtain⟨dk6,ek6⟩:=agl.ob;refine⟨_,rfl,k,dk6,_,rfl,ek6,rfl,k,d,bs,rfl,agl,b64,λt6 us2 Eh Ei nt6 et6 Qi rs2=>?_⟩;have eu:us2=us:=aa_ (Qi.trans pm.symm) rs2 rs;subst eu;have ag5:=s31.trans (HN.trans Ei);refine⟨_,rfl,2,_,_,by decide,.tup (aM.of et6) (dw.tQ λl hl=>(uw l hl).lt),.tup (aM.of (ag5 _ _ etk)) (dw.tQ λl hl=>(uw l hl).lt),_,rfl,?_⟩;simp only[if_true,decide_true];exact aX ⟨_,_,_,_,_,_,_,_,_,rfl,s20.trans (acp.trans (HN.trans Ei))⟩
  ·rintro σ H9 ⟨v3,v6,v7,v8,v9,v10,v11,v12,Tj,rfl,s9⟩
   exact q _
end
end My
end
namespace My
open PySem L2
section
variable {P:Program}{w:World}{K:W.Frag}{mg:Str->Option Value}{base:Heap}
structure yQ (K:W.Frag)(mg:Str->Option Value)(C f0 f1 f2 f3 f4:Addr)(jH iw fd2 Tn Tp:FuncData):Prop where
 T:gW K C
 GK:mg "Board"=some (.ref C)
 M:Mk K C f0
 F0:gM K "__init__" "Board.__init__" je f0 jH
 b0:cO K jH ["self","rows","marks","begin"] []
 F1:gM K "at" "Board.at" kh f1 iw
 b1:cO K iw ["self","row","column"] []
 m1:Meth K C "at" f1
 F2:gM K "is_free" "Board.is_free" gw f2 fd2
 b2:cO K fd2 ["self"] []
 m2:Meth K C "is_free" f2
 F3:gM K "run" "Board.run" jC f3 Tn
 b3:cO K Tn ["self","row","column","way"] []
 m3:Meth K C "run" f3
 F4:gM K "laid" "Board.laid" jf f4 Tp
 b4:cO K Tp ["self","laying"] []
 m4:Meth K C "laid" f4
theorem abm {h:Heap}{C f0 f1 f2 f3 f4:Addr}(X:K.In h)(G:h.Ns mainGlobals mg)
  {od0 an0 od1 an1 od2 an2 od3 an3 od4 an4:Option Addr} {sl0 sl1 sl2 Xd sl4:Array (Option Value)} {oc0 kV0 dc0 pm0 Y9 ct0 oc1 kV1 dc1 pm1 Y_ ct1 oc2 kV2 dc2 Qi Za ct2 oc3 kV3 dc3 pm3 cd3 ct3 oc4 kV4 dc4 pm4 cd4 ct4:Value}
  (aC:W.nsIn K mainGlobals "Board"=some (some (.ref C)))
  (a0:W.findIn K (.ref C) "__init__"=some (some (.ref f0))) (i0:W.isFn K (.ref f0)=true) (l0:K.lookup f0=some ⟨oc0,od0,.func (W.fnOf "__init__" "Board.__init__" (fB je) (dg je) (aJ je) .none kV0 dc0 pm0 an0 Y9 ct0),sl0⟩) (c0:W.codeIn K Y9 "Board.__init__"=true) (k0:W.keepIn K (.ref f0)=true)
  (a1:W.findIn K (.ref C) "at"=some (some (.ref f1))) (i1:W.isFn K (.ref f1)=true) (l1:K.lookup f1=some ⟨oc1,od1,.func (W.fnOf "at" "Board.at" (fB kh) (dg kh) (aJ kh) .none kV1 dc1 pm1 an1 Y_ ct1),sl1⟩) (c1:W.codeIn K Y_ "Board.at"=true) (k1:W.keepIn K (.ref f1)=true)
  (a2:W.findIn K (.ref C) "is_free"=some (some (.ref f2))) (i2:W.isFn K (.ref f2)=true) (l2:K.lookup f2=some ⟨oc2,od2,.func (W.fnOf "is_free" "Board.is_free" (fB gw) (dg gw) (aJ gw) .none kV2 dc2 Qi an2 Za ct2),sl2⟩) (c2:W.codeIn K Za "Board.is_free"=true) (k2:W.keepIn K (.ref f2)=true)
  (a3:W.findIn K (.ref C) "run"=some (some (.ref f3))) (i3:W.isFn K (.ref f3)=true) (l3:K.lookup f3=some ⟨oc3,od3,.func (W.fnOf "run" "Board.run" (fB jC) (dg jC) (aJ jC) .none kV3 dc3 pm3 an3 cd3 ct3),Xd⟩) (c3:W.codeIn K cd3 "Board.run"=true) (k3:W.keepIn K (.ref f3)=true)
  (a4:W.findIn K (.ref C) "laid"=some (some (.ref f4))) (i4:W.isFn K (.ref f4)=true) (l4:K.lookup f4=some ⟨oc4,od4,.func (W.fnOf "laid" "Board.laid" (fB jf) (dg jf) (aJ jf) .none kV4 dc4 pm4 an4 cd4 ct4),sl4⟩) (c4:W.codeIn K cd4 "Board.laid"=true) (k4:W.keepIn K (.ref f4)=true)
  (pg:W.plainGet K C Str.empty=true) (hd:W.hasDictIn K C=true) (po:W.plainOver K C=true) (sa:W.findIn K (.ref C) "__setattr__"=some (some (.builtin "object.__setattr__"))) (mk:W.makesIn K C=true) (kc:W.keepIn K (.ref C)=true) (Qj:W.findIn K (.ref C) "rows"=some none) (nf1:W.findIn K (.ref C) "marks"=some none) (nf2:W.findIn K (.ref C) "begin"=some none):∃C f0 f1 f2 f3 f4 jH iw fd2 Tn Tp,yQ K mg C f0 f1 f2 f3 f4 jH iw fd2 Tn Tp:=by
 have F0:=iY (st:=je) l0 c0 k0;have F1:=iY (st:=kh) l1 c1 k1;have F2:=iY (st:=gw) l2 c2 k2;have F3:=iY (st:=jC) l3 c3 k3;have F4:=iY (st:=jf) l4 c4 k4;exact⟨C,f0,f1,f2,f3,f4,_,_,_,_,_,⟨⟨pg,hd,po,sa⟩,Qj,nf1,nf2⟩,b6 X G aC,⟨mk,a0,i0,kc⟩,F0,F0.binds (ps:=["self","rows","marks","begin"]) (λ_ _ _ _ _ _ us hl=>L2.e4 (λ_ _ _ _=>rfl) us hl),F1,F1.binds (ps:=["self","row","column"]) (λ_ _ _ _ _ _ us hl=>L2.e3 (λ_ _ _=>rfl) us hl),⟨a1,i1,k1⟩,F2,F2.binds (ps:=["self"]) (λ_ _ _ _ _ _ us hl=>L2.e1 (λ_=>rfl) us hl),⟨a2,i2,k2⟩,F3,F3.binds (ps:=["self","row","column","way"]) (λ_ _ _ _ _ _ us hl=>L2.e4 (λ_ _ _ _=>rfl) us hl),⟨a3,i3,k3⟩,F4,F4.binds (ps:=["self","laying"]) (λ_ _ _ _ _ _ us hl=>L2.e2 (λ_ _=>rfl) us hl),⟨a4,i4,k4⟩⟩
structure BJ (K:W.Frag)(mg:Str->Option Value)(C f0 f1 f2:Addr)(jH iw fd2:FuncData):Prop where
 T:uc K C
 GK:mg "Book"=some (.ref C)
 M:Mk K C f0
 F0:gM K "__init__" "Book.__init__" jD f0 jH
 b0:cO K jH ["self","words"] []
 F1:gM K "has" "Book.has" kE f1 iw
 b1:cO K iw ["self","text"] []
 m1:Meth K C "has" f1
 F2:gM K "words" "Book.words" jg f2 fd2
 b2:cO K fd2 ["self"] []
 m2:Meth K C "words" f2
theorem adW {h:Heap}{C f0 f1 f2:Addr}(X:K.In h)(G:h.Ns mainGlobals mg)
  {od0 an0 od1 an1 od2 an2:Option Addr} {sl0 sl1 sl2:Array (Option Value)} {oc0 kV0 dc0 pm0 Y9 ct0 oc1 kV1 dc1 pm1 Y_ ct1 oc2 kV2 dc2 Qi Za ct2:Value}
  (aC:W.nsIn K mainGlobals "Book"=some (some (.ref C)))
  (a0:W.findIn K (.ref C) "__init__"=some (some (.ref f0))) (i0:W.isFn K (.ref f0)=true) (l0:K.lookup f0=some ⟨oc0,od0,.func (W.fnOf "__init__" "Book.__init__" (fB jD) (dg jD) (aJ jD) .none kV0 dc0 pm0 an0 Y9 ct0),sl0⟩) (c0:W.codeIn K Y9 "Book.__init__"=true) (k0:W.keepIn K (.ref f0)=true)
  (a1:W.findIn K (.ref C) "has"=some (some (.ref f1))) (i1:W.isFn K (.ref f1)=true) (l1:K.lookup f1=some ⟨oc1,od1,.func (W.fnOf "has" "Book.has" (fB kE) (dg kE) (aJ kE) .none kV1 dc1 pm1 an1 Y_ ct1),sl1⟩) (c1:W.codeIn K Y_ "Book.has"=true) (k1:W.keepIn K (.ref f1)=true)
  (a2:W.findIn K (.ref C) "words"=some (some (.ref f2))) (i2:W.isFn K (.ref f2)=true) (l2:K.lookup f2=some ⟨oc2,od2,.func (W.fnOf "words" "Book.words" (fB jg) (dg jg) (aJ jg) .none kV2 dc2 Qi an2 Za ct2),sl2⟩) (c2:W.codeIn K Za "Book.words"=true) (k2:W.keepIn K (.ref f2)=true)
  (pg:W.plainGet K C Str.empty=true) (hd:W.hasDictIn K C=true) (po:W.plainOver K C=true) (sa:W.findIn K (.ref C) "__setattr__"=some (some (.builtin "object.__setattr__"))) (mk:W.makesIn K C=true) (kc:W.keepIn K (.ref C)=true) (Qj:W.findIn K (.ref C) "held"=some none):∃C f0 f1 f2 jH iw fd2,BJ K mg C f0 f1 f2 jH iw fd2:=by
 have F0:=iY (st:=jD) l0 c0 k0;have F1:=iY (st:=kE) l1 c1 k1;have F2:=iY (st:=jg) l2 c2 k2;exact⟨C,f0,f1,f2,_,_,_,⟨⟨pg,hd,po,sa⟩,Qj⟩,b6 X G aC,⟨mk,a0,i0,kc⟩,F0,F0.binds (ps:=["self","words"]) (λ_ _ _ _ _ _ us hl=>L2.e2 (λ_ _=>rfl) us hl),F1,F1.binds (ps:=["self","text"]) (λ_ _ _ _ _ _ us hl=>L2.e2 (λ_ _=>rfl) us hl),⟨a1,i1,k1⟩,F2,F2.binds (ps:=["self"]) (λ_ _ _ _ _ _ us hl=>L2.e1 (λ_=>rfl) us hl),⟨a2,i2,k2⟩⟩
structure abn (K:W.Frag)(mg:Str->Option Value)(bG bR bM cG cg bD bK cU cM cV dF cW d8 cX dG CR gG jL eG fK:Addr)(mF rM jz jY:FuncData):Prop where
 HW:mg "NoLaying"=some (.ref bG)
 adX:mg "Taken"=some (.ref bR)
 Le:mg "Crooked"=some (.ref bM)
 ag6:mg "Gap"=some (.ref cG)
 Tq:mg "Apart"=some (.ref cg)
 Zb:mg "Lacking"=some (.ref bD)
 abo:mg "NoWord"=some (.ref bK)
 abp:mg "NoBack"=some (.ref cU)
 Zc:mg "NoBoard"=some (.ref cM)
 abq:mg "NoDeed"=some (.ref cV)
 adY:mg "NoRow"=some (.ref dF)
 abr:mg "NoText"=some (.ref cW)
 agm:mg "Over"=some (.ref d8)
 abt:mg "TooFew"=some (.ref cX)
 adZ:mg "Twice"=some (.ref dG)
 mR:mg "RackError"=some (.ref CR)
 I:InitOf K CR
 pK:W.excIn K bG iJ "ValueError.__new__"=true
 rN:W.excIn K bM iJ "ValueError.__new__"=true
 xT:W.excIn K cg iJ "ValueError.__new__"=true
 qy:m8 K mg "Taken" bR gG ["row","column"]
 DN:gM K "__init__" "Taken.__init__" jd gG mF
 Jj:cO K mF ["self","row","column"] []
 yR:m8 K mg "Gap" cG jL ["row","column"]
 Mx:gM K "__init__" "Gap.__init__" j_ jL rM
 U5:cO K rM ["self","row","column"] []
 oR:m8 K mg "Lacking" bD eG ["tile"]
 vR:gM K "__init__" "Lacking.__init__" gR eG jz
 Bm:cO K jz ["self","tile"] []
 qz:m8 K mg "NoWord" bK fK ["word"]
 yS:gM K "__init__" "NoWord.__init__" iC fK jY
 yN:cO K jY ["self","word"] []
 M:VdM K ⟨bG,bR,bM,cG,cg,bD,bK⟩ CR
 V:VdF K ⟨bG,bR,bM,cG,cg,bD,bK⟩ [cU,cM,cV,dF,cW,d8,cX,dG]
theorem qC {C:Addr}{Cs:List Addr}{j:Nat}(h:(Cs.zipIdx.all λp=>W.kitOne K (.ref C) (.ref p.1)==some (decide (p.2=j)))=true):∀i D,Cs[i]?=some D->W.kitOne K (.ref C) (.ref D)=some (decide (i=j)):=λi D e=>
 beq_iff_eq.mp (cz.mp h (D,i) (List.mem_zipIdx_iff_getElem?.mpr e))
theorem ad0 {h:Heap}{bG bR bM cG cg bD bK cU cM cV dF cW d8 cX dG CR gG jL eG fK:Addr}(X:K.In h)(G:h.Ns mainGlobals mg)
  {abu abv agn ago Vu Vv Zd Ze:Option Addr} {abw agp Vw Zf:Array (Option Value)} {abx aby abz abA Qk abB agq agr ags agt Zg agu Vx Vy Vz VB HX VD Zh Zi Zj Zk Lf Zm:Value}
  (yU:W.nsIn K mainGlobals "NoLaying"=some (some (.ref bG)))
  (DP:W.nsIn K mainGlobals "Taken"=some (some (.ref bR)))
  (BL:W.nsIn K mainGlobals "Crooked"=some (some (.ref bM)))
  (Mz:W.nsIn K mainGlobals "Gap"=some (some (.ref cG)))
  (Jw:W.nsIn K mainGlobals "Apart"=some (some (.ref cg)))
  (vU:W.nsIn K mainGlobals "Lacking"=some (some (.ref bD)))
  (yV:W.nsIn K mainGlobals "NoWord"=some (some (.ref bK)))
  (Fo:W.nsIn K mainGlobals "NoBack"=some (some (.ref cU)))
  (BP:W.nsIn K mainGlobals "NoBoard"=some (some (.ref cM)))
  (Fp:W.nsIn K mainGlobals "NoDeed"=some (some (.ref cV)))
  (Jx:W.nsIn K mainGlobals "NoRow"=some (some (.ref dF)))
  (Fq:W.nsIn K mainGlobals "NoText"=some (some (.ref cW)))
  (Ql:W.nsIn K mainGlobals "Over"=some (some (.ref d8)))
  (Ft:W.nsIn K mainGlobals "TooFew"=some (some (.ref cX)))
  (Jy:W.nsIn K mainGlobals "Twice"=some (some (.ref dG)))
  (aR:W.nsIn K mainGlobals "RackError"=some (some (.ref CR)))
  (pK:W.excIn K bG iJ "ValueError.__new__"=true)
  (rN:W.excIn K bM iJ "ValueError.__new__"=true)
  (xT:W.excIn K cg iJ "ValueError.__new__"=true)
  (yW:W.exmOne K (.ref bG) (.ref CR)=some true)
  (Jz:W.exmOne K (.ref bR) (.ref CR)=some true)
  (BR:W.exmOne K (.ref bM) (.ref CR)=some true)
  (VG:W.exmOne K (.ref cG) (.ref CR)=some true)
  (JB:W.exmOne K (.ref cg) (.ref CR)=some true)
  (BW:W.exmOne K (.ref bD) (.ref CR)=some true)
  (Fv:W.exmOne K (.ref bK) (.ref CR)=some true)
  (Qm:W.findIn K (.ref bR) "__init__"=some (some (.ref gG)))
  (Fw:W.isFn K (.ref gG)=true)
  (Fx:K.lookup gG=some ⟨abx,abu,.func (W.fnOf "__init__" "Taken.__init__" (fB jd) (dg jd) (aJ jd) .none aby abz abA abv Qk abB),abw⟩)
  (Fy:W.codeIn K Qk "Taken.__init__"=true)
  (Fz:W.keepIn K (.ref gG)=true)
  (BX:u9 K bR gG=true)
  (FJ:W.keepIn K (.ref bR)=true)
  (FN:((W.clsIn K bR).any λcd=>cd.hasDict&&qu cd.mro)=true)
  (FP:W.findIn K (.ref bR) "__setattr__"=some (some (.builtin "object.__setattr__")))
  (FQ:W.hasDictIn K bR=true)
  (wH:W.findIn K (.ref bR) "row"=some none)
  (qD:W.findIn K (.ref bR) "column"=some none)
  (Zn:W.findIn K (.ref cG) "__init__"=some (some (.ref jL)))
  (Qn:W.isFn K (.ref jL)=true)
  (Qo:K.lookup jL=some ⟨agq,agn,.func (W.fnOf "__init__" "Gap.__init__" (fB j_) (dg j_) (aJ j_) .none agr ags agt ago Zg agu),agp⟩)
  (Qp:W.codeIn K Zg "Gap.__init__"=true)
  (Qq:W.keepIn K (.ref jL)=true)
  (JC:u9 K cG jL=true)
  (Qs:W.keepIn K (.ref cG)=true)
  (Qt:((W.clsIn K cG).any λcd=>cd.hasDict&&qu cd.mro)=true)
  (Qu:W.findIn K (.ref cG) "__setattr__"=some (some (.builtin "object.__setattr__")))
  (Qv:W.hasDictIn K cG=true)
  (BZ:W.findIn K (.ref cG) "row"=some none)
  (uR:W.findIn K (.ref cG) "column"=some none)
  (HY:W.findIn K (.ref bD) "__init__"=some (some (.ref eG)))
  (yX:W.isFn K (.ref eG)=true)
  (yZ:K.lookup eG=some ⟨Vx,Vu,.func (W.fnOf "__init__" "Lacking.__init__" (fB gR) (dg gR) (aJ gR) .none Vy Vz VB Vv HX VD),Vw⟩)
  (za:W.codeIn K HX "Lacking.__init__"=true)
  (zc:W.keepIn K (.ref eG)=true)
  (wI:u9 K bD eG=true)
  (zf:W.keepIn K (.ref bD)=true)
  (zj:((W.clsIn K bD).any λcd=>cd.hasDict&&qu cd.mro)=true)
  (zm:W.findIn K (.ref bD) "__setattr__"=some (some (.builtin "object.__setattr__")))
  (zp:W.hasDictIn K bD=true)
  (qF:W.findIn K (.ref bD) "tile"=some none)
  (Lg:W.findIn K (.ref bK) "__init__"=some (some (.ref fK)))
  (B_:W.isFn K (.ref fK)=true)
  (Ca:K.lookup fK=some ⟨Zh,Zd,.func (W.fnOf "__init__" "NoWord.__init__" (fB iC) (dg iC) (aJ iC) .none Zi Zj Zk Ze Lf Zm),Zf⟩)
  (Cd:W.codeIn K Lf "NoWord.__init__"=true)
  (Ce:W.keepIn K (.ref fK)=true)
  (zq:u9 K bK fK=true)
  (Cg:W.keepIn K (.ref bK)=true)
  (Ci:((W.clsIn K bK).any λcd=>cd.hasDict&&qu cd.mro)=true)
  (Cj:W.findIn K (.ref bK) "__setattr__"=some (some (.builtin "object.__setattr__")))
  (Ck:W.hasDictIn K bK=true)
  (rQ:W.findIn K (.ref bK) "word"=some none)
  (hn:W.specialIn K (.builtin "object.__class__") "__get__"=some (some (.builtin "getset_descriptor.__get__")))
  (ht:W.takesIn K (.builtin "object.__class__")=some true)
  (wJ:(W.clsIn K bG).isSome=true)
  (wK:W.findIn K (.ref bG) "__getattribute__"=some (some (.builtin "BaseException.__getattribute__")))
  (wL:W.findIn K (.ref bG) "__getattr__"=some none)
  (wM:W.findIn K (.ref bG) "__class__"=some (some (.builtin "object.__class__")))
  (wN:W.mroIn K bG (.type "object")=some true)
  (wO:W.mroIn K bG (.type "BaseException")=some true)
  (zu:W.kitOne K (.ref bG) (.type "ValueError")=some true)
  (zx:(([bG,bR,bM,cG,cg,bD,bK]:List Addr).zipIdx.all λp=>W.kitOne K (.ref bG) (.ref p.1)==some (decide (p.2=0)))=true)
  (zy:W.kitAny K (.ref bG) (([cU,cM,cV,dF,cW,d8,cX,dG]:List Addr).map Value.ref)=some false)
  (zA:(W.clsIn K bR).isSome=true)
  (zB:W.findIn K (.ref bR) "__getattribute__"=some (some (.builtin "BaseException.__getattribute__")))
  (zE:W.findIn K (.ref bR) "__getattr__"=some none)
  (zF:W.findIn K (.ref bR) "__class__"=some (some (.builtin "object.__class__")))
  (uT:W.mroIn K bR (.type "object")=some true)
  (zG:W.mroIn K bR (.type "BaseException")=some true)
  (JD:W.kitOne K (.ref bR) (.type "ValueError")=some true)
  (JF:(([bG,bR,bM,cG,cg,bD,bK]:List Addr).zipIdx.all λp=>W.kitOne K (.ref bR) (.ref p.1)==some (decide (p.2=1)))=true)
  (JG:W.kitAny K (.ref bR) (([cU,cM,cV,dF,cW,d8,cX,dG]:List Addr).map Value.ref)=some false)
  (zH:(W.clsIn K bM).isSome=true)
  (zJ:W.findIn K (.ref bM) "__getattribute__"=some (some (.builtin "BaseException.__getattribute__")))
  (zK:W.findIn K (.ref bM) "__getattr__"=some none)
  (zL:W.findIn K (.ref bM) "__class__"=some (some (.builtin "object.__class__")))
  (zM:W.mroIn K bM (.type "object")=some true)
  (zN:W.mroIn K bM (.type "BaseException")=some true)
  (Cm:W.kitOne K (.ref bM) (.type "ValueError")=some true)
  (Cp:(([bG,bR,bM,cG,cg,bD,bK]:List Addr).zipIdx.all λp=>W.kitOne K (.ref bM) (.ref p.1)==some (decide (p.2=2)))=true)
  (Cq:W.kitAny K (.ref bM) (([cU,cM,cV,dF,cW,d8,cX,dG]:List Addr).map Value.ref)=some false)
  (H_:(W.clsIn K cG).isSome=true)
  (Ia:W.findIn K (.ref cG) "__getattribute__"=some (some (.builtin "BaseException.__getattribute__")))
  (Ib:W.findIn K (.ref cG) "__getattr__"=some none)
  (Ie:W.findIn K (.ref cG) "__class__"=some (some (.builtin "object.__class__")))
  (Cr:W.mroIn K cG (.type "object")=some true)
  (Ig:W.mroIn K cG (.type "BaseException")=some true)
  (VH:W.kitOne K (.ref cG) (.type "ValueError")=some true)
  (VJ:(([bG,bR,bM,cG,cg,bD,bK]:List Addr).zipIdx.all λp=>W.kitOne K (.ref cG) (.ref p.1)==some (decide (p.2=3)))=true)
  (VL:W.kitAny K (.ref cG) (([cU,cM,cV,dF,cW,d8,cX,dG]:List Addr).map Value.ref)=some false)
  (FT:(W.clsIn K cg).isSome=true)
  (FW:W.findIn K (.ref cg) "__getattribute__"=some (some (.builtin "BaseException.__getattribute__")))
  (FZ:W.findIn K (.ref cg) "__getattr__"=some none)
  (Ga:W.findIn K (.ref cg) "__class__"=some (some (.builtin "object.__class__")))
  (Gb:W.mroIn K cg (.type "object")=some true)
  (Gd:W.mroIn K cg (.type "BaseException")=some true)
  (JH:W.kitOne K (.ref cg) (.type "ValueError")=some true)
  (JK:(([bG,bR,bM,cG,cg,bD,bK]:List Addr).zipIdx.all λp=>W.kitOne K (.ref cg) (.ref p.1)==some (decide (p.2=4)))=true)
  (JL:W.kitAny K (.ref cg) (([cU,cM,cV,dF,cW,d8,cX,dG]:List Addr).map Value.ref)=some false)
  (tR:(W.clsIn K bD).isSome=true)
  (tU:W.findIn K (.ref bD) "__getattribute__"=some (some (.builtin "BaseException.__getattribute__")))
  (tV:W.findIn K (.ref bD) "__getattr__"=some none)
  (tW:W.findIn K (.ref bD) "__class__"=some (some (.builtin "object.__class__")))
  (pL:W.mroIn K bD (.type "object")=some true)
  (tX:W.mroIn K bD (.type "BaseException")=some true)
  (Cu:W.kitOne K (.ref bD) (.type "ValueError")=some true)
  (Cv:(([bG,bR,bM,cG,cg,bD,bK]:List Addr).zipIdx.all λp=>W.kitOne K (.ref bD) (.ref p.1)==some (decide (p.2=5)))=true)
  (Cw:W.kitAny K (.ref bD) (([cU,cM,cV,dF,cW,d8,cX,dG]:List Addr).map Value.ref)=some false)
  (vV:(W.clsIn K bK).isSome=true)
  (vW:W.findIn K (.ref bK) "__getattribute__"=some (some (.builtin "BaseException.__getattribute__")))
  (vX:W.findIn K (.ref bK) "__getattr__"=some none)
  (vY:W.findIn K (.ref bK) "__class__"=some (some (.builtin "object.__class__")))
  (rO:W.mroIn K bK (.type "object")=some true)
  (vZ:W.mroIn K bK (.type "BaseException")=some true)
  (Ge:W.kitOne K (.ref bK) (.type "ValueError")=some true)
  (Gf:(([bG,bR,bM,cG,cg,bD,bK]:List Addr).zipIdx.all λp=>W.kitOne K (.ref bK) (.ref p.1)==some (decide (p.2=6)))=true)
  (Gg:W.kitAny K (.ref bK) (([cU,cM,cV,dF,cW,d8,cX,dG]:List Addr).map Value.ref)=some false)
  (nn:W.kitOne K (.type "NoneType") (.ref bG)=some false)
  (g2:W.specialIn K (.ref CR) "__getattribute__"=some (some (.builtin "type.__getattribute__")))
  (rd:W.readsIn K CR (.type "type")=true)
  (fc:W.findCls K (.ref CR) (.type "type") "__init__"=some (.val (.builtin "ValueError.__init__")))
  : ∃bG bR bM cG cg bD bK cU cM cV dF cW d8 cX dG CR gG jL eG fK mF rM jz jY,abn K mg bG bR bM cG cg bD bK cU cM cV dF cW d8 cX dG CR gG jL eG fK mF rM jz jY:=by
 have DN:=iY (st:=jd) Fx Fy Fz;have Mx:=iY (st:=j_) Qo Qp Qq;have vR:=iY (st:=gR) yZ za zc;have yS:=iY (st:=iC) Ca Cd Ce;have qy:m8 K mg "Taken" bR gG ["row","column"]:=⟨b6 X G DP,⟨BX,Fw,FJ⟩,⟨FN,uT,FP⟩,⟨zA,zB,zE,zF,hn,ht,uT,zG⟩,FQ,λg hg=>by
  rcases bq.mp hg with z | z
  ·rw[z];exact wH
  ·rw[aw.mp z];exact qD⟩
 have yR:m8 K mg "Gap" cG jL ["row","column"]:=⟨b6 X G Mz,⟨JC,Qn,Qs⟩,⟨Qt,Cr,Qu⟩,⟨H_,Ia,Ib,Ie,hn,ht,Cr,Ig⟩,Qv,λg hg=>by
  rcases bq.mp hg with z | z
  ·rw[z];exact BZ
  ·rw[aw.mp z];exact uR⟩
 have oR:m8 K mg "Lacking" bD eG ["tile"]:=⟨b6 X G vU,⟨wI,yX,zf⟩,⟨zj,pL,zm⟩,⟨tR,tU,tV,tW,hn,ht,pL,tX⟩,zp,λg hg=>by
  rw[aw.mp hg];exact qF⟩
 have qz:m8 K mg "NoWord" bK fK ["word"]:=⟨b6 X G yV,⟨zq,B_,Cg⟩,⟨Ci,rO,Cj⟩,⟨vV,vW,vX,vY,hn,ht,rO,vZ⟩,Ck,λg hg=>by
  rw[aw.mp hg];exact rQ⟩
 exact⟨bG,bR,bM,cG,cg,bD,bK,cU,cM,cV,dF,cW,d8,cX,dG,CR,gG,jL,eG,fK,_,_,_,_,⟨b6 X G yU,b6 X G DP,b6 X G BL,b6 X G Mz,b6 X G Jw,b6 X G vU,b6 X G yV,b6 X G Fo,b6 X G BP,b6 X G Fp,b6 X G Jx,b6 X G Fq,b6 X G Ql,b6 X G Ft,b6 X G Jy,b6 X G aR,⟨g2,rd,fc⟩,pK,rN,xT,qy,DN,DN.binds (ps:=["self","row","column"]) (λ_ _ _ _ _ _ us hl=>L2.e3 (λ_ _ _=>rfl) us hl),yR,Mx,Mx.binds (ps:=["self","row","column"]) (λ_ _ _ _ _ _ us hl=>L2.e3 (λ_ _ _=>rfl) us hl),oR,vR,vR.binds (ps:=["self","tile"]) (λ_ _ _ _ _ _ us hl=>L2.e2 (λ_ _=>rfl) us hl),qz,yS,yS.binds (ps:=["self","word"]) (λ_ _ _ _ _ _ us hl=>L2.e2 (λ_ _=>rfl) us hl),⟨yW,Jz,BR,VG,JB,BW,Fv⟩,⟨⟨⟨wJ,wK,wL,wM,hn,ht,wN,wO⟩,zu,qC zx,zy,by decide⟩,⟨⟨zA,zB,zE,zF,hn,ht,uT,zG⟩,JD,qC JF,JG,by decide⟩,⟨⟨zH,zJ,zK,zL,hn,ht,zM,zN⟩,Cm,qC Cp,Cq,by decide⟩,⟨⟨H_,Ia,Ib,Ie,hn,ht,Cr,Ig⟩,VH,qC VJ,VL,by decide⟩,⟨⟨FT,FW,FZ,Ga,hn,ht,Gb,Gd⟩,JH,qC JK,JL,by decide⟩,⟨⟨tR,tU,tV,tW,hn,ht,pL,tX⟩,Cu,qC Cv,Cw,by decide⟩,⟨⟨vV,vW,vX,vY,hn,ht,rO,vZ⟩,Ge,qC Gf,Gg,by decide⟩,nn⟩⟩⟩
theorem ad1 (bx:mg "len"=none)(cR:mg "range"=none)(cF:mg "tuple"=none)(gP:mg "list"=none)(k_:mg "sorted"=none)(bJ:mg "isinstance"=none)(Bg:mg "bool"=none)(jy:mg "int"=none)(Dp:mg "str"=none)(fM:mg "all"=none)(vM:mg "any"=none)(Hq:mg "zip"=none)(Dz:mg "min"=none)(DG:mg "max"=none)(mD:mg "ValueError"=none)
  (eV:∃t,mg "FREE"=some (.str (S [46]) t)) (xM:∃t,mg "MARKS"=some (.str (S MK) t)) (xK:∃t,mg "MOST"=some (.int 9 t)) (mq:∃t,mg "MOST_TILES"=some (.int 7 t)) (zO:aK K mg "is_whole" tu ["thing"]) (Cy:aK K mg "is_sign" u_ ["thing"]) (wQ:aK K mg "letter_of" qM ["sign"]) (Cz:aK K mg "tile_of" vf ["sign"]) (CJ:aK K mg "left_of" vg ["rack","signs"]) (zP:aK K mg "is_block" tE ["thing"]) (zQ:aK K mg "are_rows" tG ["thing"]) (wR:aK K mg "are_marks" qO ["thing"]) (pN:aK K mg "is_cell_of" lW ["rows","row","column"]) (rR:aK K mg "is_begin_of" nP ["rows","thing"]) (zR:aK K mg "is_board" tH ["rows","marks","begin"]) (rT:aK K mg "column_text" nQ ["rows","column"]) (wU:aK K mg "is_triple" qP ["board","thing"]) (wV:aK K mg "is_laying" qQ ["board","thing"]) (zT:aK K mg "cells_of" tK ["laying"]) (wW:aK K mg "is_across" qR ["laying"]) (CK:aK K mg "is_down" vh ["laying"]) (mG:aK K mg "is_next_to_taken" ju ["board","row","column"]) (Gh:aK K mg "formed" yt ["board","laying"]) (uU:aK K mg "check_free" o7 ["board","laying"]) (ou:aK K mg "check_straight" kj ["laying"]) (uV:aK K mg "check_gaps" o8 ["board","laying"]) (qG:aK K mg "check_joined" mO ["board","laying"]) (rW:aK K mg "check_words" nW ["board","book","laying"]) (qH:aK K mg "check_laying" mQ ["board","book","rack","laying"]) (CN:aK K mg "is_word" vm ["text"]) (uW:aK K mg "check_word" o_ ["text"]) (CP:aK K mg "_law_cell_at" vo ["_law_script","_law_k"]) (Qw:aK K mg "_law_take" G4 ["_law_rest_here","_law_base"]) (Qx:aK K mg "_law_rest" G5 ["_law_cell"]) (CQ:aK K mg "_law_letters" vp ["_law_rest_here"]) (Qy:aK K mg "_law_sign" G6 ["_law_rest_here","_law_letters_here","_law_great"]) (Qz:aK K mg "_law_rows" G7 ["_law_rest_here","_law_letters_here","_law_most"]) (JM:aK K mg "_law_marks" Dh ["_law_rest_here","_law_rows_here"]) (JN:aK K mg "_law_begin" Di ["_law_rest_here","_law_rows_here"]) (QB:aK K mg "_law_grid" G8 ["_law_rows_here","_law_laying"]) (VN:aK K mg "_law_run" Mt ["_law_grid_here","_law_row","_law_column","_law_way"]) (JQ:aK K mg "_law_words" Dj ["_law_rows_here","_law_laying"]) (CV:aK K mg "_law_is_near" vq ["_law_rows_here","_law_row","_law_column"]) (Gi:aK K mg "_law_starts" yw ["_law_rows_here","_law_rest_here"]) (zU:aK K mg "_law_straight" tL ["_law_rows_here","_law_rest_here","_law_letters_here"]) (Gj:aK K mg "_law_joined" yx ["_law_rows_here","_law_begin_here","_law_cells"]) (wX:aK K mg "_law_cells_due" qT ["_law_rows_here","_law_begin_here","_law_laying"]) (CZ:aK K mg "_law_lacking" vA ["_law_rack_here","_law_laying"]) (C_:aK K mg "_law_missing" vB ["_law_rows_here","_law_laying","_law_words_here"]) (JR:aK K mg "_law_class" Dk ["_law_error"]) (Gk:aK K mg "_law_caught" yD ["_law_board","_law_book","_law_rack_here","_law_laying"]) (QD:aK K mg "_law_bent" G_ ["_law_laying","_law_rest_here","_law_rows_here"]) (QF:aK K mg "_law_rack" Hf ["_law_laying","_law_rest_here","_law_letters_here"]) (JT:aK K mg "_law_known" Dl ["_law_rows_here","_law_laying","_law_rest_here","_law_letters_here"]) (VP:aK K mg "_law_due" Mu ["_law_rows_here","_law_begin_here","_law_laying","_law_rack_here","_law_words_here"]) (JV:aK K mg "_law_right" Dm ["_law_caught_here","_law_due_here"]) {ad2 ad3 ad4 ad5 ad6 ad7:Addr} {abC abD abE abF abG:FuncData} (cB:yQ K mg ad2 ad3 ad4 ad5 ad6 ad7 abC abD abE abF abG) {agv agw agx agy:Addr} {ad8 ad9 ad_:FuncData} (jh:BJ K mg agv agw agx agy ad8 ad9 ad_) {bG bR bM cG cg bD bK cU cM cV dF cW d8 cX dG CR gG jL eG fK:Addr} {mF rM jz jY:FuncData} (R:abn K mg bG bR bM cG cg bD bK cU cM cV dF cW d8 cX dG CR gG jL eG fK mF rM jz jY)
  {f:Addr} {fd:FuncData} (F:gM K "law" "law" Mv f fd):cP P w K mg base fZ 20 f fd ["_law_script"] (Mr K):=by
 have c1:=Ux (P:=P) (w:=w) (base:=base) CP bx;have r1:=adh (P:=P) (w:=w) (base:=base) Qw;have r2:=adi (P:=P) (w:=w) (base:=base) Qx cR;have r3:=Rc CQ bx cR r1;have r4:=aaw Qy bx r1;have r5:=aax Qz jy cR cF r1 r4;have r6:=XF JM cF r1;have r7:=XH JN bx r1;have p1:=Uw (P:=P) (w:=w) (base:=base) Cy bx Dp bJ;have y1:=Ow (P:=P) (w:=w) (base:=base) zO jy Bg bJ;have p2:=Jv y1 λ_ _ _ _ h=>.inl h;have p3:=Q9 (P:=P) (w:=w) (base:=base) zP bx cF Dp fM bJ xK;have p4:=Q_ zQ fM eV p3 p1;have p5:=Ob wR fM xM p3;have p6:=Ly pN bx p2;have p7:=I_ rR bx cF bJ p6;have p8:=Ra zR bx p4 p5 p7;have p9:=Jc (P:=P) (w:=w) (base:=base) rT;have g0:=LC cB.F0 cB.T p8;have g1:=agV cB.F1 cB.T eV p6;have g2:=UW (P:=P) (w:=w) (base:=base) cB.F2 cB.T fM eV;have g3:=afL cB.F3 cB.T bx eV p9;have g4:=ado cB.F4 cB.T gP cF cB.GK cB.M g0 cB.b0;have w1:=U6 (P:=P) (w:=w) (base:=base) CN bx fM;have w2:=Mf uW w1;have k0:=adz jh.F0 jh.T w2;have k1:=afU (P:=P) (w:=w) (mg:=mg) (base:=base) jh.F1 jh.T;have l3:=Rn (P:=P) (w:=w) (base:=base) CV bx;have c7:=Jv (M4:=Ss) l3 λ_ _ _ _ ⟨p,ak,r,w,i,j,a,b,c,d,e,f,q⟩=>⟨p,ak,r,w,i,j,a,b,c,d,e,f,λH s=>q _ H s⟩
 have r8:=UJ Gi bx cR r1 c7;have r9:=Om zU bx jy cF r1 r8 r4;have k2:=aaO (P:=P) (w:=w) (base:=base) jh.F2 jh.T k_ cF;have x1:=adp (P:=P) (w:=w) (base:=base) QB gP;have x2:=U0 (P:=P) (w:=w) (base:=base) VN bx;have x3:=Ot JQ bx jy cF x1 x2;have z1:=LQ (P:=P) (w:=w) (base:=base) wW fM;have x4:=Jv (M4:=Ou) z1 λ_ _ _ _ ⟨t,as,ts,a,b,c,d,e,f,q⟩=>⟨t,as,ts,a,b,c,d,e,λH s=>by rw[af9 f d];exact q H s⟩
 have x5:=X_ Gh bx cF cB.T cB.m4 g4 cB.b4 cB.m3 g3 cB.b3 x4;have y2:=Ji pN bx y1;have y3:=Ox wU bx cF bJ cB.T y2 p1;have y4:=Ri (P:=P) (w:=w) (base:=base) zT;have y5:=OJ wV bx cF bJ fM Hq mq y3 y4;have e1:=adt (P:=P) (w:=w) (base:=base) R.DN R.mR R.I R.qy;have e2:=afS (P:=P) (w:=w) (base:=base) R.Mx R.mR R.I R.yR;have e3:=U8 (P:=P) (w:=w) (base:=base) R.vR R.mR R.I R.oR;have e4:=Yr (P:=P) (w:=w) (base:=base) R.yS R.mR R.I R.qz;have z2:=U4 (P:=P) (w:=w) (base:=base) CK fM;have z3:=LR mG vM eV cB.T cB.m1 g1 cB.b1;have z4:=O2 (P:=P) (w:=w) (base:=base) wQ;have z5:=U7 (P:=P) (w:=w) (base:=base) Cz;have q1:=L_ uU eV cB.T cB.m1 g1 cB.b1 R.qy e1 R.Jj;have q2:=DR ou R.Le R.rN z1 z2;have q3:=Ma uV cR eV cB.T cB.m1 g1 cB.b1 cB.m4 g4 cB.b4 R.yR e2 R.U5;have q4:=Ht qG vM cB.T cB.m2 g2 cB.b2 R.Tq R.xT y4 z3;have q5:=U9 CJ gP k_ R.oR e3 R.Bm z5;have q6:=Jl rW jh.T jh.m1 k1 jh.b1 R.qz e4 R.yN x5 z4;have q7:=HB (c:=⟨bG,bR,bM,cG,cg,bD,bK⟩) qH R.HW R.pK y5 q1 q2 q3 q4 q5 q6;have l1:=aaR (P:=P) (w:=w) (base:=base) JR bx bJ mD R.HW R.adX R.Le R.ag6 R.Tq R.Zb R.abo R.abp R.Zc R.abq R.adY R.abr R.agm R.abt R.adZ;have l2:=Yz Gk R.mR R.M q7;have l4:=YC Gj bx l3;have l5:=PL wX cR Dz DG l4;have l6:=Js (P:=P) (w:=w) (base:=base) CZ gP;have l7:=adN QD bx gP cF k_ r1;have l8:=aa4 QF bx jy r1;have l9:=aa5 JT bx cR r1 x3;have m1:=Vk C_ x3;have m2:=af8 VP l5 l6 m1;have m3:=aa9 JV R.V ⟨⟨R.qy.hd,R.qy.no _ (by simp),R.qy.no _ (by simp)⟩,⟨R.yR.hd,R.yR.no _ (by simp),R.yR.no _ (by simp)⟩,⟨R.oR.hd,R.oR.no _ (by simp)⟩,⟨R.qz.hd,R.qz.no _ (by simp)⟩⟩ l1;exact(af_ (c:=⟨bG,bR,bM,cG,cg,bD,bK⟩) F cR cB.T cB.GK cB.M g0 cB.b0 jh.T jh.GK jh.M k0 jh.b0 jh.m2 k2 jh.b2 c1 r2 r3 r5 r7 r6 r9 l7 l8 l5 l9 m2 l2 m3).mono (by decide)
end
end My
namespace PySem.W.Fast
abbrev U:=True
def tw13022484004419623387:=U
def tw11167535560605728548:=U
def tw9256219505249690364:=U
def tw224810408446856437:=U
def tw2397392686325330180:=U
def tw4623065443552198283:=U
def tw6109803612799814409:=U
def tw17452230403651743410:=U
def tw13081957790766708427:=U
def tw14550322574768237613:=U
def tw12129459611951421603:=U
def tw4244534091266351072:=U
def tw14092973065475333202:=U
def tw736331137122442714:=U
def tw11075060796537534662:=U
def tw1012111535369429909:=U
def tw14627596321809990041:=U
def tw2661633824734607406:=U
def tw10765142064067231533:=U
def tw16814105217119743742:=U
def tw12208888114180716747:=U
def tw12468017103378304502:=U
def tw7907815003379650383:=U
def tw11998018125637681723:=U
def tw2465055904286767260:=U
def tw13037371721819046199:=U
def tw6368525217808835472:=U
def tw12035291405237575722:=U
def tw17678158689343972629:=U
def tw16219429125059897409:=U
def tw13290053496151204804:=U
def tw2621128865056403103:=U
def tw7489489061185465418:=U
def tw15633803898922702209:=U
def tw15437793093586656027:=U
def tw1573243318907557458:=U
def tw7104588100518756821:=U
def tw4863787480872275012:=U
def tw6017534010407990550:=U
def tw1690465517641787794:=U
def tw924936443261236153:=U
def tw5034855978431502362:=U
def tw10914618846275498499:=U
def tw18344029754838634595:=U
def tw1777423741936736504:=U
def tw8341438609597824961:=U
def tw16376715900355847493:=U
def tw11266340106747851027:=U
def tw3047880731354854212:=U
def tw12897629741392858425:=U
def tw16454990858816682470:=U
def tw6023821201912598969:=U
def tw10492289003368745520:=U
def tw16903517383003865228:=U
def tw8553559084179127456:=U
def tw15229471575355460180:=U
def tw3491616556065481952:=U
def tw9807984257582412703:=U
def tw963133538250020598:=U
def tw12645343576973689359:=U
def tw2707122348235526480:=U
def tw7448393841676624335:=U
def tw11984055829405314877:=U
def tw18443185405470203754:=U
def tw5313978169439082068:=U
def tw10286091001410954937:=U
def tw2323485644782058558:=U
def tw11361489942964900310:=U
def tw15086062738669261146:=U
def tw5619317877527668377:=U
def tw13035023549588814935:=U
def tw1165383701991810709:=U
def tw6261591114946831933:=U
def tw10321875666880073270:=U
def tw4456712232274634015:=U
def tw9682239180084549344:=U
def tw17638867890954856225:=U
def tw2541183775390081450:=U
def tw2616763207645101118:=U
def tw4607859273623611677:=U
def tw1204793465888150962:=U
def tw11676126823264720478:=U
def tw5174252479845735837:=U
def tw12041733838870939729:=U
def tw134062422846691358:=U
def tw10406359101826276879:=U
def tw17043190307126471251:=U
def tw16496454905003118896:=U
def tw2704506347692816609:=U
def tw2467336038980942400:=U
def tw15735429806159597044:=U
def tw5470229761740187453:=U
def tw2389580017013891910:=U
def tw2882853800262204274:=U
def tw6449571295856366563:=U
def tw15802071590215881079:=U
def tw4412264796921987809:=U
def tw14480622588692666570:=U
def tw1344314936247588263:=U
def tw10100132868451638792:=U
def tw8481699545403696799:=U
def tw4847849809635919577:=U
def tw17191913836281729667:=U
def tw1041510036401080485:=U
def tw3686565381896138218:=U
def tw12114010346207963360:=U
def tw18066841877710808231:=U
def tw13352337793096494244:=U
def tw4538247419274391841:=U
def tw408891792338818456:=U
def tw6098966949524625271:=U
def tw595168787884532083:=U
def tw15515702164382644489:=U
def tw503019881077070534:=U
def tw9773223043198977287:=U
def tw1438398711390981929:=U
def tw17089070940414021463:=U
def tw553683370444620536:=U
def tw6680782654078717551:=U
def tw14672455281852634458:=U
def tw3746746119363391830:=U
def tw7205809130692843086:=U
def tw15105412453054278746:=U
def tw6462321320183127697:=U
def tw14870977440881946991:=U
def tw2557540066312553726:=U
def tw12164120951809120226:=U
def tw12136242925721509519:=U
def tw12812618144343057668:=U
def tw2844254952288264139:=U
def tw10850588326264464944:=U
def tw7660199130544281084:=U
def tw14604658875072991459:=U
def tw4102165726325102992:=U
def tw10103425652842619741:=U
def tw1563589312486773005:=U
def tw4138878548619185391:=U
def tw12064068061498225729:=U
def tw8760219784590907079:=U
def tw14584085285015018974:=U
def tw12674745558593841610:=U
def tw12273756302673413523:=U
def tw16106420322616352377:=U
def tw6110093888029303506:=U
def tw8376673251886294969:=U
def tw14170013603351429671:=U
def tw576480758626364692:=U
def tw4985258741794367610:=U
def tw8466466538059074378:=U
def tw17307582318755999273:=U
def tw15078323995605716987:=U
def tw13738971554343256741:=U
def tw7971796774928303104:=U
def tw13084673214810075902:=U
def tw17130385051827518265:=U
def tw15009008592258116454:=U
def tw2078721684945198889:=U
def tw10267878552555590711:=U
def tw11670969488071621872:=U
def tw14478226034372719206:=U
def tw11074572170893436937:=U
def tw9911460048161292912:=U
def tw17612031588390407323:=U
def tw2222644854411561181:=U
def tw14530762595821200093:=U
def tw11242655268025962001:=U
def tw17395746788934206934:=U
def tw4164395148707508064:=U
def tw5338470787867991138:=U
def tw11075601934673986235:=U
def tw653846683380899552:=U
def tw5721824602025483845:=U
def tw11145322752618012476:=U
def tw352342643077105355:=U
def tw6263859180187826560:=U
def tw3260012035949924164:=U
def tw16362016861787451684:=U
def tw1486889640350807594:=U
def tw3888081194318798920:=U
def tw14122649918629747831:=U
def tw12936146700935078027:=U
def tw9369653406523741716:=U
def tw13076872059819248804:=U
def tw13603709487500269826:=U
def tw13705466252391319819:=U
def tw1654680910634987773:=U
def tw2029266567208320024:=U
def tw12915412497331148966:=U
def tw8138409524516271359:=U
def tw15508496002373000283:=U
def tw10121081681541216274:=U
def tw14966932590495816881:=U
def tw11280936067127251054:=U
def tw14330163630013699505:=U
def tw11588552209901703148:=U
def tw3763917212662609538:=U
def tw11893860117810235878:=U
def tw6946993475472998900:=U
def tw11123559679517359176:=U
def tw830192084121513859:=U
def tw5459850193461075798:=U
def tw100235019443387715:=U
def tw11883492369738732032:=U
def tw4952846265155238484:=U
def tw4585978655432370006:=U
def tw13128189500524713395:=U
def tw15518367110938729770:=U
def tw12917102383585261062:=U
def tw4990863948687516803:=U
def tw4509649783605630962:=U
def tw7202727323336061504:=U
def tw6468773321976610817:=U
def tw18188769625299675493:=U
def tw8686817049901407205:=U
def tw3929153833162875794:=U
def tw2830938559187951465:=U
def tw2605721486428993523:=U
def tw17107219976126358479:=U
def tw4863193792238600725:=U
def tw3987617122796279916:=U
def tw4508516509888851713:=U
def tw4041991115425632921:=U
def tw3992337167323315816:=U
def tw16107385184328942743:=U
def tw1338225135702742486:=U
def tw11135770508843419729:=U
def tw5804693680884909839:=U
def tw3733127760041808360:=U
def tw227815830599463328:=U
def tw2114728193378027782:=U
def tw13259831457917375032:=U
def tw10350184737502782519:=U
def tw16862040350353923008:=U
def tw16382346563091141794:=U
def tw2332748375090511675:=U
def tw16616329575802228543:=U
def tw8516295359555889363:=U
def tw5373533983760808967:=U
def tw2884071214653132628:=U
def tw2942455316724642018:=U
def tw9533358262446964808:=U
def tw9882554964028035348:=U
def tw3435393350262631519:=U
def tw7821131340190449770:=U
def tw5733650139357866810:=U
def tw4126381117998565872:=U
def tw2065179413772351502:=U
def tw17428539896685755247:=U
def tw16503672434724431329:=U
def tw15385488523276524369:=U
def tw12464911380425811710:=U
def tw11890660222056852632:=U
def tw11496326675364588490:=U
def tw10581601137630049583:=U
def tw12109935788482611260:=U
def tw15350130984740650170:=U
def tw8780658323153995387:=U
def tw3225224652426223604:=U
def tw15032357852512930106:=U
def tw1295649530661539725:=U
def tw168572662728270970:=U
def tw14596289679237928129:=U
def tw17603703495560365468:=U
def tw8638488219348206311:=U
def tw1686361117629313785:=U
def tw11951904328497770137:=U
def tw15697658995858352600:=U
def tw15609313322262214454:=U
def tw10604943118125675438:=U
def tw15230296757714789541:=U
def tw133639134278529908:=U
def tw7256745010176394506:=U
def tw6354730476191897596:=U
def tw4772675919034155312:=U
def tw10673874446560275163:=U
def tw6263371779916699865:=U
def tw2749867705145270123:=U
def tw11854967325225579576:=U
def tw3760130179192056240:=U
def tw14601865400953636912:=U
def tw14401558725625118626:=U
def tw18191335006505223760:=U
def tw5153523438969445045:=U
def tw3050850995975992445:=U
def tw10683188520854810368:=U
def tw8717913640774712219:=U
def tw8324624099830787793:=U
def tw11387681567275453162:=U
def tw10301077874448540344:=U
def tw6777066011268230555:=U
def tw11912854006195830393:=U
def tw11011592728051297787:=U
def tw13806487298502710660:=U
def tw11069401000456220919:=U
def tw10881234534442002321:=U
def tw7974864372734224766:=U
def tw5259244892013892874:=U
def tw2755197301239276780:=U
def tw8415372351279890182:=U
def tw14982534394639650699:=U
def tw16784657445911016269:=U
def tw15867237468025479613:=U
def tw8627908620544192575:=U
def tw12247731126173419415:=U
def tw5663045080727837914:=U
def tw9009878157872016564:=U
def tw2367304290404587067:=U
def tw18049258524038083585:=U
def tw128978231469412736:=U
def tw10040048928122588252:=U
def tw13274255813078335889:=U
def tw10479384575165298831:=U
def tw8580063073910786878:=U
def tw13391447481658396734:=U
def tw940926728022619841:=U
def tw8000266396870020059:=U
def tw1790095660293382764:=U
def tw13261697822292578352:=U
def tw11261267408829999247:=U
def tw524890485057952778:=U
def tw9511326657187325160:=U
def tw1104531835453359316:=U
def tw989215920038053544:=U
def tw17897379624166361042:=U
def tw12685307515740927794:=U
def tw9483095510332792810:=U
def tw659286413907081530:=U
def tw1871079588013749482:=U
def tw1503040143553052146:=U
def tw916921706666625827:=U
def tw8020167421668282637:=U
def tw17779519589093417394:=U
def tw1071438707013456254:=U
def tw10209306497655275049:=U
def tw4105778614477544739:=U
def tw275113252405162533:=U
def tw7791712657535510309:=U
def tw1299944256887356546:=U
def tw11198027480897416104:=U
def tw11006789000228702858:=U
def tw4824974735118009959:=U
def tw18022408281718235837:=U
def tw10272568810237035324:=U
def tw4450245798106636728:=U
def tw16722996991384705003:=U
def tw13816560417946968832:=U
def tw17479842698536294034:=U
def tw12608227927994719844:=U
def tw5273576112419588245:=U
def tw10364371578262571633:=U
def tw14911870323693018510:=U
def tw4390713909052521076:=U
def tw16343681360245816016:=U
def tw12746950715329204816:=U
def tw11022462784084462928:=U
def tw16024468086410420572:=U
def tw12945762481109789740:=U
def tw9231346551255832739:=U
def tw3163159750691268225:=U
def tw18368746673370338070:=U
def tw15325052756235228420:=U
def tw14329480879965283542:=U
def tw4106565043712408692:=U
def tw12992949335012480859:=U
def tw6858132733770082873:=U
def tw4932621309174505918:=U
def tw4489227475202056629:=U
def tw10902931442641099372:=U
def tw10372953501590131547:=U
def tw6292026731515809131:=U
def tw5839032334917728910:=U
def tw1858823128623772543:=U
def tw16179067571458504763:=U
def tw10575855118602058245:=U
def tw6097229910742148339:=U
def tw5008083005555311156:=U
def tw4043782582382270948:=U
def tw8030404989505122937:=U
def tw15532448862281582392:=U
def tw6038916737097834853:=U
def tw17642945649779167713:=U
def tw9438171572367679268:=U
def tw4933229187789411777:=U
def tw548163856033026939:=U
def tw18101537156135913634:=U
def tw7652708044215776487:=U
def tw9884888615469974230:=U
def tw14599325900938078461:=U
def tw10177230947432440844:=U
def tw4418107556876418349:=U
def tw13117800309983823439:=U
def tw4208474182459203998:=U
def tw17111311839647150220:=U
def tw14802876543929793989:=U
def tw5649257182259116574:=U
def tw5874470224245357736:=U
def tw8592463998841034567:=U
def tw17685622221586398652:=U
def tw4360210769936889277:=U
def tw4047787670845282543:=U
def tw3927964762079307590:=U
def tw301427919317258334:=U
def tw6404272476737601504:=U
def tw5405210384379243987:=U
def tw15202397667374109227:=U
def tw4336733536769951522:=U
def tw4862766354952638428:=U
def tw13058085718272085275:=U
def tw2065192840489687215:=U
def tw2731809934399828234:=U
def tw16046325017853885325:=U
def tw5973854655525864830:=U
def tw8860748268602148653:=U
def tw12982510384091856338:=U
def tw9462773073267135192:=U
def tw9262954696524840144:=U
def tw9143899668723616360:=U
def tw8864609454477841580:=U
def tw7402330266123635230:=U
def tw6466269537800325029:=U
def tw6071496010954988005:=U
def tw4198965491401700508:=U
def tw3460928541933802808:=U
def tw3325510927635555226:=U
def tw2295169337787841209:=U
def tw18370115689664002559:=U
def tw1624732043204188169:=U
def tw13603884626526215674:=U
def tw12756062358454406207:=U
def tw10611836239910761172:=U
def tw2582127402097105199:=U
def tw8953626706883526214:=U
def tw10022445116451569434:=U
def tw4479871722999557147:=U
def tw2492021381719916240:=U
def tw2461154187791977707:=U
def tw18306744605022683934:=U
def tw14518152849226274:=U
def tw10801943957130120203:=U
def tw16399274253640408434:=U
def tw10771366110070773913:=U
def tw5301790982090010213:=U
def tw12935669967659566372:=U
def tw7746515965746013102:=U
def tw12735777555129478090:=U
def tw9312157048611076192:=U
def tw11611301298494541616:=U
def tw9532193150064948748:=U
def tw7062976674401105465:=U
def tw6639697937311425061:=U
def tw5394402061754431481:=U
def tw16127656635136829118:=U
def tw15071847971742370032:=U
def tw12132813556728416361:=U
def tw10644611163091932970:=U
def tw1054533036302517320:=U
def tw7366894757022891523:=U
def tw14159723489891290960:=U
def tw9151522196453511950:=U
def tw9002258099204743372:=U
def tw8911758517375463527:=U
def tw8834799684135965375:=U
def tw7176889276732506431:=U
def tw6124455695951542520:=U
def tw5970119934186402317:=U
def tw4956116549084433806:=U
def tw2357578164966015265:=U
def tw18150894360971057278:=U
def tw18030692283592068101:=U
def tw15536338241169289343:=U
def tw14904252340888941754:=U
def tw14781717357823578575:=U
def tw13753577678193573642:=U
def tw12241931745218924250:=U
def tw1210720741586809249:=U
def tw10377293848963935940:=U
def tw5212350157536157762:=U
def tw7988560152046283640:=U
def tw7540112973882574753:=U
def tw6829300810609885113:=U
def tw6590081380439103392:=U
def tw6136686848421351189:=U
def tw6046177899372531054:=U
def tw5432991383710430780:=U
def tw5403389280882281640:=U
def tw4441591455856041667:=U
def tw2814300618730342597:=U
def tw2025518972673529284:=U
def tw18228211932601974074:=U
def tw1726456362843487774:=U
def tw16827497815622558803:=U
def tw16043307013524693669:=U
def tw15864644951195785381:=U
def tw11193464018539544689:=U
def tw10581136121041119663:=U
def tw4788364138051756964:=U
def tw9973191812045121575:=U
def tw8382507276366554487:=U
def tw7832660147102674303:=U
def tw7162796024264334227:=U
def tw7126054805483820721:=U
def tw6451007889389352711:=U
def tw5667402478168942321:=U
def tw5152712743466350630:=U
def tw2530360610537595206:=U
def tw14697309418673652998:=U
def tw14575582326166824731:=U
def tw14541237096832055122:=U
def tw14535044429261319717:=U
def tw14292979637125928383:=U
def tw11286344445092062708:=U
def tw9926625914575280217:=U
def tw8757357745703000114:=U
def tw8564333080494074163:=U
def tw7992552781455890828:=U
def tw6831353612486535489:=U
def tw6730277942189306770:=U
def tw5603509084779083336:=U
def tw5092136979989171609:=U
def tw4647529989011746996:=U
def tw23763635201361673:=U
def tw18445428355262559854:=U
def tw16895912565802796377:=U
def tw15567729307412620159:=U
def tw14442217000203398759:=U
def tw1339746998031566055:=U
def tw13371648196859071834:=U
def tw12703742684637568536:=U
def tw11900891218295966470:=U
def tw9508833663886244239:=U
def tw9500272752384585725:=U
def tw946633511415174699:=U
def tw9449780529219733309:=U
def tw9406039475946468435:=U
def tw9385021234366731907:=U
def tw9349830775796980378:=U
def tw9260670148279949622:=U
def tw922419172621034518:=U
def tw9062365373842739452:=U
def tw893378444608430053:=U
def tw8848370145867385358:=U
def tw8710783475347963486:=U
def tw8656061293755009125:=U
def tw8616185461706260479:=U
def tw8391155993154403399:=U
def tw8273129776024561947:=U
def tw8247742077047387563:=U
def tw8071270883412890309:=U
def tw7814297194693976229:=U
def tw7808337089994616999:=U
def tw7468537748251966212:=U
def tw7372036648811043181:=U
def tw7335065944250414706:=U
def tw731713097012082486:=U
def tw7310411073551960655:=U
def tw7271302169055485487:=U
def tw7231683920386681812:=U
def tw7192237831072202733:=U
def tw7147341993775527574:=U
def tw708604180145036903:=U
def tw7036596327747741319:=U
def tw7029071080309229499:=U
def tw6955030334112623476:=U
def tw686604455487203425:=U
def tw6810339411760530828:=U
def tw6185438335419202287:=U
def tw5959053924995547130:=U
def tw5920029438628413553:=U
def tw590490787998425094:=U
def tw5902870647865765460:=U
def tw5766578370275520090:=U
def tw573841995435370423:=U
def tw5523851852780985873:=U
def tw5238222554291493718:=U
def tw5182632898484755061:=U
def tw5113581527443098307:=U
def tw498017840117887170:=U
def tw4965744788265555567:=U
def tw4637660744017815584:=U
def tw4464783673667653198:=U
def tw4424343434627891257:=U
def tw4400827000618941292:=U
def tw4288084981827262114:=U
def tw3917796419718946905:=U
def tw3882351344335860865:=U
def tw3737498159160134399:=U
def tw3718159259301332318:=U
def tw3659197466852477803:=U
def tw3647031719408801306:=U
def tw3593848583681183478:=U
def tw3571814198447086406:=U
def tw3475289345184336635:=U
def tw34300711522414233:=U
def tw3379528281057275848:=U
def tw3156891089703977651:=U
def tw3041003466498262651:=U
def tw2887065050387842696:=U
def tw2836738240840497572:=U
def tw2656056194550127214:=U
def tw2612057454265669569:=U
def tw2409351413916007721:=U
def tw2305614083667269764:=U
def tw2112938874672990345:=U
def tw1934043375373411888:=U
def tw18355774216019376231:=U
def tw18315882226316821382:=U
def tw18099643240845241059:=U
def tw18078279759530708222:=U
def tw18021499366252957246:=U
def tw17858034481576433192:=U
def tw17772794545514525641:=U
def tw17739224904039975951:=U
def tw17542706718329562781:=U
def tw17181741369232934665:=U
def tw17090948177119970864:=U
def tw16872632672081444288:=U
def tw16737171581606977169:=U
def tw16506742464286828043:=U
def tw16099944997394103843:=U
def tw15902916652733291519:=U
def tw15838236561092108972:=U
def tw15823522523742634551:=U
def tw15821905521462314166:=U
def tw15775082018909454737:=U
def tw15743202114334768900:=U
def tw15739581309895273066:=U
def tw15559684066990040409:=U
def tw15492288998910139289:=U
def tw15458577055572219669:=U
def tw15377664396888861305:=U
def tw1525623843984097581:=U
def tw15108736773590299921:=U
def tw14731163006575095368:=U
def tw14552836766528241338:=U
def tw14518871846189831713:=U
def tw1445164079296478349:=U
def tw14410386436979789343:=U
def tw14336405253486822207:=U
def tw14328413016916919799:=U
def tw13920010717861062:=U
def tw1380382731835609533:=U
def tw13742895877721057224:=U
def tw13727366168482181872:=U
def tw13609918833707236730:=U
def tw13597996186064565704:=U
def tw13536713757278962774:=U
def tw13385524721329063146:=U
def tw1329637670556957631:=U
def tw13285769601309323717:=U
def tw13018159071723648753:=U
def tw12992558344446646690:=U
def tw12658875680246985929:=U
def tw12653036072267275389:=U
def tw12551645887561531304:=U
def tw12497239970093368646:=U
def tw1247367116683662134:=U
def tw12443575864114150874:=U
def tw1241903638471863878:=U
def tw1239916041562712292:=U
def tw12338011522364890948:=U
def tw11816173695111413986:=U
def tw11745047327046117225:=U
def tw11716186727922991671:=U
def tw1167846807317084268:=U
def tw11642840048533269958:=U
def tw11481671737595230060:=U
def tw11473984947551230474:=U
def tw1143400540235061880:=U
def tw11344181957211181621:=U
def tw11321404018024969725:=U
def tw11250644001251948821:=U
def tw1101594492417387477:=U
def tw10947658966441622722:=U
def tw10879258738356638421:=U
def tw10678553163563791448:=U
def tw1066727603961186965:=U
def tw10654411398236856676:=U
def tw10561646325869207693:=U
def tw10545096886919442632:=U
def tw10470665471640327685:=U
def tw10217057866115247143:=U
end PySem.W.Fast
open PySem PySem.W PyProof.Rows
set_option maxRecDepth 100000 in
set_option maxHeartbeats 0 in
theorem PySem.Challenge.cw_letterrack_k25_whole_the_first_rule_holds : PySem.Challenge.rw_letterrack_k25_whole_the_first_rule.Holds := by
 w_on;o_law;k_head;(case hw=>w_witness2)
 k_fill
 refine L2.acV (x:="_law_script") (l:=PySem.Challenge.rw_letterrack_k25_whole_the_first_rule) rfl rfl (λw h Y=>W.kIn_of Y) ?F
 case F=>
  intro w mg fa h KX G hmg;have bx:mg "len"=none:=by
   refine' cw KX G ?z
   (case z=>k_is)
  have cR:mg "range"=none:=by
   refine' cw KX G ?z
   (case z=>k_is)
  have cF:mg "tuple"=none:=by
   refine' cw KX G ?z
   (case z=>k_is)
  have gP:mg "list"=none:=by
   refine' cw KX G ?z
   (case z=>k_is)
  have k_:mg "sorted"=none:=by
   refine' cw KX G ?z
   (case z=>k_is)
  have bJ:mg "isinstance"=none:=by
   refine' cw KX G ?z
   (case z=>k_is)
  have Bg:mg "bool"=none:=by
   refine' cw KX G ?z
   (case z=>k_is)
  have jy:mg "int"=none:=by
   refine' cw KX G ?z
   (case z=>k_is)
  have Dp:mg "str"=none:=by
   refine' cw KX G ?z
   (case z=>k_is)
  have fM:mg "all"=none:=by
   refine' cw KX G ?z
   (case z=>k_is)
  have vM:mg "any"=none:=by
   refine' cw KX G ?z
   (case z=>k_is)
  have Hq:mg "zip"=none:=by
   refine' cw KX G ?z
   (case z=>k_is)
  have Dz:mg "min"=none:=by
   refine' cw KX G ?z
   (case z=>k_is)
  have DG:mg "max"=none:=by
   refine' cw KX G ?z
   (case z=>k_is)
  have mD:mg "ValueError"=none:=by
   refine' cw KX G ?z
   (case z=>k_is)
  have eV:∃t,mg "FREE"=some (.str (L2.S [46]) t):=by
   refine' L2.Nm KX G ?z
   (case z=>k_is)
  have xM:∃t,mg "MARKS"=some (.str (L2.S My.MK) t):=by
   refine' L2.Nm KX G ?z
   (case z=>k_is)
  have xK:∃t,mg "MOST"=some (.int 9 t):=by
   refine' L2.Np KX G ?z
   (case z=>k_is)
  have mq:∃t,mg "MOST_TILES"=some (.int 7 t):=by
   refine' L2.Np KX G ?z
   (case z=>k_is)
  have zO:L2.aK (L2.KOf KX) mg "is_whole" My.tu ["thing"]:=by
   dsimp only[L2.KOf];refine' L2.bF KX G ?a ?l ?c ?k ?b
   case a|l|c|k=>k_is
   (case b=>exact λ_ _ _ _ _ _ us hl=>L2.e1 (λ_=>rfl) us hl)
  have Cy:L2.aK (L2.KOf KX) mg "is_sign" My.u_ ["thing"]:=by
   dsimp only[L2.KOf];refine' L2.bF KX G ?a ?l ?c ?k ?b
   case a|l|c|k=>k_is
   (case b=>exact λ_ _ _ _ _ _ us hl=>L2.e1 (λ_=>rfl) us hl)
  have wQ:L2.aK (L2.KOf KX) mg "letter_of" My.qM ["sign"]:=by
   dsimp only[L2.KOf];refine' L2.bF KX G ?a ?l ?c ?k ?b
   case a|l|c|k=>k_is
   (case b=>exact λ_ _ _ _ _ _ us hl=>L2.e1 (λ_=>rfl) us hl)
  have Cz:L2.aK (L2.KOf KX) mg "tile_of" My.vf ["sign"]:=by
   dsimp only[L2.KOf];refine' L2.bF KX G ?a ?l ?c ?k ?b
   case a|l|c|k=>k_is
   (case b=>exact λ_ _ _ _ _ _ us hl=>L2.e1 (λ_=>rfl) us hl)
  have CJ:L2.aK (L2.KOf KX) mg "left_of" My.vg ["rack","signs"]:=by
   dsimp only[L2.KOf];refine' L2.bF KX G ?a ?l ?c ?k ?b
   case a|l|c|k=>k_is
   (case b=>exact λ_ _ _ _ _ _ us hl=>L2.e2 (λ_ _=>rfl) us hl)
  have zP:L2.aK (L2.KOf KX) mg "is_block" My.tE ["thing"]:=by
   dsimp only[L2.KOf];refine' L2.bF KX G ?a ?l ?c ?k ?b
   case a|l|c|k=>k_is
   (case b=>exact λ_ _ _ _ _ _ us hl=>L2.e1 (λ_=>rfl) us hl)
  have zQ:L2.aK (L2.KOf KX) mg "are_rows" My.tG ["thing"]:=by
   dsimp only[L2.KOf];refine' L2.bF KX G ?a ?l ?c ?k ?b
   case a|l|c|k=>k_is
   (case b=>exact λ_ _ _ _ _ _ us hl=>L2.e1 (λ_=>rfl) us hl)
  have wR:L2.aK (L2.KOf KX) mg "are_marks" My.qO ["thing"]:=by
   dsimp only[L2.KOf];refine' L2.bF KX G ?a ?l ?c ?k ?b
   case a|l|c|k=>k_is
   (case b=>exact λ_ _ _ _ _ _ us hl=>L2.e1 (λ_=>rfl) us hl)
  have pN:L2.aK (L2.KOf KX) mg "is_cell_of" My.lW ["rows","row","column"]:=by
   dsimp only[L2.KOf];refine' L2.bF KX G ?a ?l ?c ?k ?b
   case a|l|c|k=>k_is
   (case b=>exact λ_ _ _ _ _ _ us hl=>L2.e3 (λ_ _ _=>rfl) us hl)
  have rR:L2.aK (L2.KOf KX) mg "is_begin_of" My.nP ["rows","thing"]:=by
   dsimp only[L2.KOf];refine' L2.bF KX G ?a ?l ?c ?k ?b
   case a|l|c|k=>k_is
   (case b=>exact λ_ _ _ _ _ _ us hl=>L2.e2 (λ_ _=>rfl) us hl)
  have zR:L2.aK (L2.KOf KX) mg "is_board" My.tH ["rows","marks","begin"]:=by
   dsimp only[L2.KOf];refine' L2.bF KX G ?a ?l ?c ?k ?b
   case a|l|c|k=>k_is
   (case b=>exact λ_ _ _ _ _ _ us hl=>L2.e3 (λ_ _ _=>rfl) us hl)
  have rT:L2.aK (L2.KOf KX) mg "column_text" My.nQ ["rows","column"]:=by
   dsimp only[L2.KOf];refine' L2.bF KX G ?a ?l ?c ?k ?b
   case a|l|c|k=>k_is
   (case b=>exact λ_ _ _ _ _ _ us hl=>L2.e2 (λ_ _=>rfl) us hl)
  have wU:L2.aK (L2.KOf KX) mg "is_triple" My.qP ["board","thing"]:=by
   dsimp only[L2.KOf];refine' L2.bF KX G ?a ?l ?c ?k ?b
   case a|l|c|k=>k_is
   (case b=>exact λ_ _ _ _ _ _ us hl=>L2.e2 (λ_ _=>rfl) us hl)
  have wV:L2.aK (L2.KOf KX) mg "is_laying" My.qQ ["board","thing"]:=by
   dsimp only[L2.KOf];refine' L2.bF KX G ?a ?l ?c ?k ?b
   case a|l|c|k=>k_is
   (case b=>exact λ_ _ _ _ _ _ us hl=>L2.e2 (λ_ _=>rfl) us hl)
  have zT:L2.aK (L2.KOf KX) mg "cells_of" My.tK ["laying"]:=by
   dsimp only[L2.KOf];refine' L2.bF KX G ?a ?l ?c ?k ?b
   case a|l|c|k=>k_is
   (case b=>exact λ_ _ _ _ _ _ us hl=>L2.e1 (λ_=>rfl) us hl)
  have wW:L2.aK (L2.KOf KX) mg "is_across" My.qR ["laying"]:=by
   dsimp only[L2.KOf];refine' L2.bF KX G ?a ?l ?c ?k ?b
   case a|l|c|k=>k_is
   (case b=>exact λ_ _ _ _ _ _ us hl=>L2.e1 (λ_=>rfl) us hl)
  have CK:L2.aK (L2.KOf KX) mg "is_down" My.vh ["laying"]:=by
   dsimp only[L2.KOf];refine' L2.bF KX G ?a ?l ?c ?k ?b
   case a|l|c|k=>k_is
   (case b=>exact λ_ _ _ _ _ _ us hl=>L2.e1 (λ_=>rfl) us hl)
  have mG:L2.aK (L2.KOf KX) mg "is_next_to_taken" My.ju ["board","row","column"]:=by
   dsimp only[L2.KOf];refine' L2.bF KX G ?a ?l ?c ?k ?b
   case a|l|c|k=>k_is
   (case b=>exact λ_ _ _ _ _ _ us hl=>L2.e3 (λ_ _ _=>rfl) us hl)
  have Gh:L2.aK (L2.KOf KX) mg "formed" My.yt ["board","laying"]:=by
   dsimp only[L2.KOf];refine' L2.bF KX G ?a ?l ?c ?k ?b
   case a|l|c|k=>k_is
   (case b=>exact λ_ _ _ _ _ _ us hl=>L2.e2 (λ_ _=>rfl) us hl)
  have uU:L2.aK (L2.KOf KX) mg "check_free" My.o7 ["board","laying"]:=by
   dsimp only[L2.KOf];refine' L2.bF KX G ?a ?l ?c ?k ?b
   case a|l|c|k=>k_is
   (case b=>exact λ_ _ _ _ _ _ us hl=>L2.e2 (λ_ _=>rfl) us hl)
  have ou:L2.aK (L2.KOf KX) mg "check_straight" My.kj ["laying"]:=by
   dsimp only[L2.KOf];refine' L2.bF KX G ?a ?l ?c ?k ?b
   case a|l|c|k=>k_is
   (case b=>exact λ_ _ _ _ _ _ us hl=>L2.e1 (λ_=>rfl) us hl)
  have uV:L2.aK (L2.KOf KX) mg "check_gaps" My.o8 ["board","laying"]:=by
   dsimp only[L2.KOf];refine' L2.bF KX G ?a ?l ?c ?k ?b
   case a|l|c|k=>k_is
   (case b=>exact λ_ _ _ _ _ _ us hl=>L2.e2 (λ_ _=>rfl) us hl)
  have qG:L2.aK (L2.KOf KX) mg "check_joined" My.mO ["board","laying"]:=by
   dsimp only[L2.KOf];refine' L2.bF KX G ?a ?l ?c ?k ?b
   case a|l|c|k=>k_is
   (case b=>exact λ_ _ _ _ _ _ us hl=>L2.e2 (λ_ _=>rfl) us hl)
  have rW:L2.aK (L2.KOf KX) mg "check_words" My.nW ["board","book","laying"]:=by
   dsimp only[L2.KOf];refine' L2.bF KX G ?a ?l ?c ?k ?b
   case a|l|c|k=>k_is
   (case b=>exact λ_ _ _ _ _ _ us hl=>L2.e3 (λ_ _ _=>rfl) us hl)
  have qH:L2.aK (L2.KOf KX) mg "check_laying" My.mQ ["board","book","rack","laying"]:=by
   dsimp only[L2.KOf];refine' L2.bF KX G ?a ?l ?c ?k ?b
   case a|l|c|k=>k_is
   (case b=>exact λ_ _ _ _ _ _ us hl=>L2.e4 (λ_ _ _ _=>rfl) us hl)
  have CN:L2.aK (L2.KOf KX) mg "is_word" My.vm ["text"]:=by
   dsimp only[L2.KOf];refine' L2.bF KX G ?a ?l ?c ?k ?b
   case a|l|c|k=>k_is
   (case b=>exact λ_ _ _ _ _ _ us hl=>L2.e1 (λ_=>rfl) us hl)
  have uW:L2.aK (L2.KOf KX) mg "check_word" My.o_ ["text"]:=by
   dsimp only[L2.KOf];refine' L2.bF KX G ?a ?l ?c ?k ?b
   case a|l|c|k=>k_is
   (case b=>exact λ_ _ _ _ _ _ us hl=>L2.e1 (λ_=>rfl) us hl)
  have CP:L2.aK (L2.KOf KX) mg "_law_cell_at" My.vo ["_law_script","_law_k"]:=by
   dsimp only[L2.KOf];refine' L2.bF KX G ?a ?l ?c ?k ?b
   case a|l|c|k=>k_is
   (case b=>exact λ_ _ _ _ _ _ us hl=>L2.e2 (λ_ _=>rfl) us hl)
  have Qw:L2.aK (L2.KOf KX) mg "_law_take" My.G4 ["_law_rest_here","_law_base"]:=by
   dsimp only[L2.KOf];refine' L2.bF KX G ?a ?l ?c ?k ?b
   case a|l|c|k=>k_is
   (case b=>exact λ_ _ _ _ _ _ us hl=>L2.e2 (λ_ _=>rfl) us hl)
  have Qx:L2.aK (L2.KOf KX) mg "_law_rest" My.G5 ["_law_cell"]:=by
   dsimp only[L2.KOf];refine' L2.bF KX G ?a ?l ?c ?k ?b
   case a|l|c|k=>k_is
   (case b=>exact λ_ _ _ _ _ _ us hl=>L2.e1 (λ_=>rfl) us hl)
  have CQ:L2.aK (L2.KOf KX) mg "_law_letters" My.vp ["_law_rest_here"]:=by
   dsimp only[L2.KOf];refine' L2.bF KX G ?a ?l ?c ?k ?b
   case a|l|c|k=>k_is
   (case b=>exact λ_ _ _ _ _ _ us hl=>L2.e1 (λ_=>rfl) us hl)
  have Qy:L2.aK (L2.KOf KX) mg "_law_sign" My.G6 ["_law_rest_here","_law_letters_here","_law_great"]:=by
   dsimp only[L2.KOf];refine' L2.bF KX G ?a ?l ?c ?k ?b
   case a|l|c|k=>k_is
   (case b=>exact λ_ _ _ _ _ _ us hl=>L2.e3 (λ_ _ _=>rfl) us hl)
  have Qz:L2.aK (L2.KOf KX) mg "_law_rows" My.G7 ["_law_rest_here","_law_letters_here","_law_most"]:=by
   dsimp only[L2.KOf];refine' L2.bF KX G ?a ?l ?c ?k ?b
   case a|l|c|k=>k_is
   (case b=>exact λ_ _ _ _ _ _ us hl=>L2.e3 (λ_ _ _=>rfl) us hl)
  have JM:L2.aK (L2.KOf KX) mg "_law_marks" My.Dh ["_law_rest_here","_law_rows_here"]:=by
   dsimp only[L2.KOf];refine' L2.bF KX G ?a ?l ?c ?k ?b
   case a|l|c|k=>k_is
   (case b=>exact λ_ _ _ _ _ _ us hl=>L2.e2 (λ_ _=>rfl) us hl)
  have JN:L2.aK (L2.KOf KX) mg "_law_begin" My.Di ["_law_rest_here","_law_rows_here"]:=by
   dsimp only[L2.KOf];refine' L2.bF KX G ?a ?l ?c ?k ?b
   case a|l|c|k=>k_is
   (case b=>exact λ_ _ _ _ _ _ us hl=>L2.e2 (λ_ _=>rfl) us hl)
  have QB:L2.aK (L2.KOf KX) mg "_law_grid" My.G8 ["_law_rows_here","_law_laying"]:=by
   dsimp only[L2.KOf];refine' L2.bF KX G ?a ?l ?c ?k ?b
   case a|l|c|k=>k_is
   (case b=>exact λ_ _ _ _ _ _ us hl=>L2.e2 (λ_ _=>rfl) us hl)
  have VN:L2.aK (L2.KOf KX) mg "_law_run" My.Mt ["_law_grid_here","_law_row","_law_column","_law_way"]:=by
   dsimp only[L2.KOf];refine' L2.bF KX G ?a ?l ?c ?k ?b
   case a|l|c|k=>k_is
   (case b=>exact λ_ _ _ _ _ _ us hl=>L2.e4 (λ_ _ _ _=>rfl) us hl)
  have JQ:L2.aK (L2.KOf KX) mg "_law_words" My.Dj ["_law_rows_here","_law_laying"]:=by
   dsimp only[L2.KOf];refine' L2.bF KX G ?a ?l ?c ?k ?b
   case a|l|c|k=>k_is
   (case b=>exact λ_ _ _ _ _ _ us hl=>L2.e2 (λ_ _=>rfl) us hl)
  have CV:L2.aK (L2.KOf KX) mg "_law_is_near" My.vq ["_law_rows_here","_law_row","_law_column"]:=by
   dsimp only[L2.KOf];refine' L2.bF KX G ?a ?l ?c ?k ?b
   case a|l|c|k=>k_is
   (case b=>exact λ_ _ _ _ _ _ us hl=>L2.e3 (λ_ _ _=>rfl) us hl)
  have Gi:L2.aK (L2.KOf KX) mg "_law_starts" My.yw ["_law_rows_here","_law_rest_here"]:=by
   dsimp only[L2.KOf];refine' L2.bF KX G ?a ?l ?c ?k ?b
   case a|l|c|k=>k_is
   (case b=>exact λ_ _ _ _ _ _ us hl=>L2.e2 (λ_ _=>rfl) us hl)
  have zU:L2.aK (L2.KOf KX) mg "_law_straight" My.tL ["_law_rows_here","_law_rest_here","_law_letters_here"]:=by
   dsimp only[L2.KOf];refine' L2.bF KX G ?a ?l ?c ?k ?b
   case a|l|c|k=>k_is
   (case b=>exact λ_ _ _ _ _ _ us hl=>L2.e3 (λ_ _ _=>rfl) us hl)
  have Gj:L2.aK (L2.KOf KX) mg "_law_joined" My.yx ["_law_rows_here","_law_begin_here","_law_cells"]:=by
   dsimp only[L2.KOf];refine' L2.bF KX G ?a ?l ?c ?k ?b
   case a|l|c|k=>k_is
   (case b=>exact λ_ _ _ _ _ _ us hl=>L2.e3 (λ_ _ _=>rfl) us hl)
  have wX:L2.aK (L2.KOf KX) mg "_law_cells_due" My.qT ["_law_rows_here","_law_begin_here","_law_laying"]:=by
   dsimp only[L2.KOf];refine' L2.bF KX G ?a ?l ?c ?k ?b
   case a|l|c|k=>k_is
   (case b=>exact λ_ _ _ _ _ _ us hl=>L2.e3 (λ_ _ _=>rfl) us hl)
  have CZ:L2.aK (L2.KOf KX) mg "_law_lacking" My.vA ["_law_rack_here","_law_laying"]:=by
   dsimp only[L2.KOf];refine' L2.bF KX G ?a ?l ?c ?k ?b
   case a|l|c|k=>k_is
   (case b=>exact λ_ _ _ _ _ _ us hl=>L2.e2 (λ_ _=>rfl) us hl)
  have C_:L2.aK (L2.KOf KX) mg "_law_missing" My.vB ["_law_rows_here","_law_laying","_law_words_here"]:=by
   dsimp only[L2.KOf];refine' L2.bF KX G ?a ?l ?c ?k ?b
   case a|l|c|k=>k_is
   (case b=>exact λ_ _ _ _ _ _ us hl=>L2.e3 (λ_ _ _=>rfl) us hl)
  have JR:L2.aK (L2.KOf KX) mg "_law_class" My.Dk ["_law_error"]:=by
   dsimp only[L2.KOf];refine' L2.bF KX G ?a ?l ?c ?k ?b
   case a|l|c|k=>k_is
   (case b=>exact λ_ _ _ _ _ _ us hl=>L2.e1 (λ_=>rfl) us hl)
  have Gk:L2.aK (L2.KOf KX) mg "_law_caught" My.yD ["_law_board","_law_book","_law_rack_here","_law_laying"]:=by
   dsimp only[L2.KOf];refine' L2.bF KX G ?a ?l ?c ?k ?b
   case a|l|c|k=>k_is
   (case b=>exact λ_ _ _ _ _ _ us hl=>L2.e4 (λ_ _ _ _=>rfl) us hl)
  have QD:L2.aK (L2.KOf KX) mg "_law_bent" My.G_ ["_law_laying","_law_rest_here","_law_rows_here"]:=by
   dsimp only[L2.KOf];refine' L2.bF KX G ?a ?l ?c ?k ?b
   case a|l|c|k=>k_is
   (case b=>exact λ_ _ _ _ _ _ us hl=>L2.e3 (λ_ _ _=>rfl) us hl)
  have QF:L2.aK (L2.KOf KX) mg "_law_rack" My.Hf ["_law_laying","_law_rest_here","_law_letters_here"]:=by
   dsimp only[L2.KOf];refine' L2.bF KX G ?a ?l ?c ?k ?b
   case a|l|c|k=>k_is
   (case b=>exact λ_ _ _ _ _ _ us hl=>L2.e3 (λ_ _ _=>rfl) us hl)
  have JT:L2.aK (L2.KOf KX) mg "_law_known" My.Dl ["_law_rows_here","_law_laying","_law_rest_here","_law_letters_here"]:=by
   dsimp only[L2.KOf];refine' L2.bF KX G ?a ?l ?c ?k ?b
   case a|l|c|k=>k_is
   (case b=>exact λ_ _ _ _ _ _ us hl=>L2.e4 (λ_ _ _ _=>rfl) us hl)
  have VP:L2.aK (L2.KOf KX) mg "_law_due" My.Mu ["_law_rows_here","_law_begin_here","_law_laying","_law_rack_here","_law_words_here"]:=by
   dsimp only[L2.KOf];refine' L2.bF KX G ?a ?l ?c ?k ?b
   case a|l|c|k=>k_is
   (case b=>exact λ_ _ _ _ _ _ us hl=>L2.e5 (λ_ _ _ _ _=>rfl) us hl)
  have JV:L2.aK (L2.KOf KX) mg "_law_right" My.Dm ["_law_caught_here","_law_due_here"]:=by
   dsimp only[L2.KOf];refine' L2.bF KX G ?a ?l ?c ?k ?b
   case a|l|c|k=>k_is
   (case b=>exact λ_ _ _ _ _ _ us hl=>L2.e2 (λ_ _=>rfl) us hl)
  have Zo:∃C f0 f1 f2 f3 f4 jH iw fd2 Tn Tp,My.yQ (L2.KOf KX) mg C f0 f1 f2 f3 f4 jH iw fd2 Tn Tp:=by
   dsimp only[L2.KOf];refine' My.abm KX G ?aC ?a0 ?i0 ?l0 ?c0 ?k0 ?a1 ?i1 ?l1 ?c1 ?k1 ?a2 ?i2 ?l2 ?c2 ?k2 ?a3 ?i3 ?l3 ?c3 ?k3 ?a4 ?i4 ?l4 ?c4 ?k4 ?pg ?hd ?po ?sa ?mk ?kc ?Qj ?nf1 ?nf2
   (case aC=>k_is)
   (case a0=>k_is)
   (case i0=>k_is)
   (case l0=>k_is)
   (case c0=>k_is)
   (case k0=>k_is)
   (case a1=>k_is)
   (case i1=>k_is)
   (case l1=>k_is)
   (case c1=>k_is)
   (case k1=>k_is)
   (case a2=>k_is)
   (case i2=>k_is)
   (case l2=>k_is)
   (case c2=>k_is)
   (case k2=>k_is)
   (case a3=>k_is)
   (case i3=>k_is)
   (case l3=>k_is)
   (case c3=>k_is)
   (case k3=>k_is)
   (case a4=>k_is)
   (case i4=>k_is)
   (case l4=>k_is)
   (case c4=>k_is)
   (case k4=>k_is)
   (case pg=>k_is)
   (case hd=>k_is)
   (case po=>k_is)
   (case sa=>k_is)
   (case mk=>k_is)
   (case kc=>k_is)
   (case Qj=>k_is)
   (case nf1=>k_is)
   (case nf2=>k_is)
  obtain⟨_,_,_,_,_,_,_,_,_,_,_,abH⟩:=Zo;have abI:∃C f0 f1 f2 jH iw fd2,My.BJ (L2.KOf KX) mg C f0 f1 f2 jH iw fd2:=by
   dsimp only[L2.KOf];refine' My.adW KX G ?aC ?a0 ?i0 ?l0 ?c0 ?k0 ?a1 ?i1 ?l1 ?c1 ?k1 ?a2 ?i2 ?l2 ?c2 ?k2 ?pg ?hd ?po ?sa ?mk ?kc ?Qj
   (case aC=>k_is)
   (case a0=>k_is)
   (case i0=>k_is)
   (case l0=>k_is)
   (case c0=>k_is)
   (case k0=>k_is)
   (case a1=>k_is)
   (case i1=>k_is)
   (case l1=>k_is)
   (case c1=>k_is)
   (case k1=>k_is)
   (case a2=>k_is)
   (case i2=>k_is)
   (case l2=>k_is)
   (case c2=>k_is)
   (case k2=>k_is)
   (case pg=>k_is)
   (case hd=>k_is)
   (case po=>k_is)
   (case sa=>k_is)
   (case mk=>k_is)
   (case kc=>k_is)
   (case Qj=>k_is)
  obtain⟨_,_,_,_,_,_,_,aea⟩:=abI;have xer:∃bG bR bM cG cg bD bK cU cM cV dF cW d8 cX dG CR gG jL eG fK mF rM jz jY,My.abn (L2.KOf KX) mg bG bR bM cG cg bD bK cU cM cV dF cW d8 cX dG CR gG jL eG fK mF rM jz jY:=by
   dsimp only[L2.KOf];refine' My.ad0 KX G ?yU ?DP ?BL ?Mz ?Jw ?vU ?yV ?Fo ?BP ?Fp ?Jx ?Fq ?Ql ?Ft ?Jy ?aR ?pK ?rN ?xT ?yW ?Jz ?BR ?VG ?JB ?BW ?Fv ?Qm ?Fw ?Fx ?Fy ?Fz ?BX ?FJ ?FN ?FP ?FQ ?wH ?qD ?Zn ?Qn ?Qo ?Qp ?Qq ?JC ?Qs ?Qt ?Qu ?Qv ?BZ ?uR ?HY ?yX ?yZ ?za ?zc ?wI ?zf ?zj ?zm ?zp ?qF ?Lg ?B_ ?Ca ?Cd ?Ce ?zq ?Cg ?Ci ?Cj ?Ck ?rQ ?hn ?ht ?wJ ?wK ?wL ?wM ?wN ?wO ?zu ?zx ?zy ?zA ?zB ?zE ?zF ?uT ?zG ?JD ?JF ?JG ?zH ?zJ ?zK ?zL ?zM ?zN ?Cm ?Cp ?Cq ?H_ ?Ia ?Ib ?Ie ?Cr ?Ig ?VH ?VJ ?VL ?FT ?FW ?FZ ?Ga ?Gb ?Gd ?JH ?JK ?JL ?tR ?tU ?tV ?tW ?pL ?tX ?Cu ?Cv ?Cw ?vV ?vW ?vX ?vY ?rO ?vZ ?Ge ?Gf ?Gg ?nn ?g2 ?rd ?fc
   (case yU=>k_is)
   (case DP=>k_is)
   (case BL=>k_is)
   (case Mz=>k_is)
   (case Jw=>k_is)
   (case vU=>k_is)
   (case yV=>k_is)
   (case Fo=>k_is)
   (case BP=>k_is)
   (case Fp=>k_is)
   (case Jx=>k_is)
   (case Fq=>k_is)
   (case Ql=>k_is)
   (case Ft=>k_is)
   (case Jy=>k_is)
   (case aR=>k_is)
   (case pK=>k_exc)
   (case rN=>k_exc)
   (case xT=>k_exc)
   (case yW=>kernel_rfl)
   (case Jz=>kernel_rfl)
   (case BR=>kernel_rfl)
   (case VG=>kernel_rfl)
   (case JB=>kernel_rfl)
   (case BW=>kernel_rfl)
   (case Fv=>kernel_rfl)
   (case Qm=>k_is)
   (case Fw=>k_is)
   (case Fx=>k_is)
   (case Fy=>k_is)
   (case Fz=>k_is)
   (case BX=>kernel_rfl)
   (case FJ=>k_is)
   (case FN=>kernel_rfl)
   (case FP=>k_is)
   (case FQ=>k_is)
   (case wH=>k_is)
   (case qD=>k_is)
   (case Zn=>k_is)
   (case Qn=>k_is)
   (case Qo=>k_is)
   (case Qp=>k_is)
   (case Qq=>k_is)
   (case JC=>kernel_rfl)
   (case Qs=>k_is)
   (case Qt=>kernel_rfl)
   (case Qu=>k_is)
   (case Qv=>k_is)
   (case BZ=>k_is)
   (case uR=>k_is)
   (case HY=>k_is)
   (case yX=>k_is)
   (case yZ=>k_is)
   (case za=>k_is)
   (case zc=>k_is)
   (case wI=>kernel_rfl)
   (case zf=>k_is)
   (case zj=>kernel_rfl)
   (case zm=>k_is)
   (case zp=>k_is)
   (case qF=>k_is)
   (case Lg=>k_is)
   (case B_=>k_is)
   (case Ca=>k_is)
   (case Cd=>k_is)
   (case Ce=>k_is)
   (case zq=>kernel_rfl)
   (case Cg=>k_is)
   (case Ci=>kernel_rfl)
   (case Cj=>k_is)
   (case Ck=>k_is)
   (case rQ=>k_is)
   (case hn=>k_is)
   (case ht=>k_is)
   (case wJ=>kernel_rfl)
   (case wK=>k_is)
   (case wL=>k_is)
   (case wM=>k_is)
   (case wN=>k_is)
   (case wO=>k_is)
   (case zu=>kernel_rfl)
   (case zx=>kernel_rfl)
   (case zy=>kernel_rfl)
   (case zA=>kernel_rfl)
   (case zB=>k_is)
   (case zE=>k_is)
   (case zF=>k_is)
   (case uT=>k_is)
   (case zG=>k_is)
   (case JD=>kernel_rfl)
   (case JF=>kernel_rfl)
   (case JG=>kernel_rfl)
   (case zH=>kernel_rfl)
   (case zJ=>k_is)
   (case zK=>k_is)
   (case zL=>k_is)
   (case zM=>k_is)
   (case zN=>k_is)
   (case Cm=>kernel_rfl)
   (case Cp=>kernel_rfl)
   (case Cq=>kernel_rfl)
   (case H_=>kernel_rfl)
   (case Ia=>k_is)
   (case Ib=>k_is)
   (case Ie=>k_is)
   (case Cr=>k_is)
   (case Ig=>k_is)
   (case VH=>kernel_rfl)
   (case VJ=>kernel_rfl)
   (case VL=>kernel_rfl)
   (case FT=>kernel_rfl)
   (case FW=>k_is)
   (case FZ=>k_is)
   (case Ga=>k_is)
   (case Gb=>k_is)
   (case Gd=>k_is)
   (case JH=>kernel_rfl)
   (case JK=>kernel_rfl)
   (case JL=>kernel_rfl)
   (case tR=>kernel_rfl)
   (case tU=>k_is)
   (case tV=>k_is)
   (case tW=>k_is)
   (case pL=>k_is)
   (case tX=>k_is)
   (case Cu=>kernel_rfl)
   (case Cv=>kernel_rfl)
   (case Cw=>kernel_rfl)
   (case vV=>kernel_rfl)
   (case vW=>k_is)
   (case vX=>k_is)
   (case vY=>k_is)
   (case rO=>k_is)
   (case vZ=>k_is)
   (case Ge=>kernel_rfl)
   (case Gf=>kernel_rfl)
   (case Gg=>kernel_rfl)
   (case nn=>kernel_rfl)
   (case g2=>k_is)
   (case rd=>k_is)
   (case fc=>k_is)
  obtain⟨_,_,_,_,_,_,_,_,_,_,_,_,_,_,_,_,_,_,_,_,_,_,_,_,er⟩:=xer;have lw:∃fd:FuncData,L2.gM (L2.KOf KX) "law" "law" My.Mv fa fd/\∀(s:Shared) (v:Value),BindsTo s fd ⟨[v],[]⟩ [("_law_script",v)]:=by
   dsimp only[L2.KOf];refine' L2.ae_ KX G hmg ?a ?l ?c ?k ?b
   case a|l|c|k=>k_is
   (case b=>exact λ_ _ _ _ _ _ _=>rfl)
  obtain⟨fd,F,hb⟩:=lw;exact⟨fd,hb,λbase _ _=>My.ad1 bx cR cF gP k_ bJ Bg jy Dp fM vM Hq Dz DG mD eV xM xK mq zO Cy wQ Cz CJ zP zQ wR pN rR zR rT wU wV zT wW CK mG Gh uU ou uV qG rW qH CN uW CP Qw Qx CQ Qy Qz JM JN QB VN JQ CV Gi zU Gj wX CZ C_ JR Gk QD QF JT VP JV abH aea er F⟩

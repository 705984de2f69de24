import PyProof.Rows.All
import Wide.All
import OpenK.AllK
import Wide.FinOn
import Lean
import PyProof.EqAt
import PyProof.EqKinds
import PyProof.TupleCall
import KE.KRevIter
import PyProof.JoinWalk
import PyProof.CollectIter
import KE.KDictSum
import KE.KSortTup
import OpenK.KRaise
import PyProof.StationsW
import OpenK.KOwn
import KE.KTryMore
import KE.KIsNot
import PyProof.NsDelKeeps
import KE.KIsAll
import PyProof.ExcArgs
import PyProof.ListMulRoad
import PyProof.Rows.SeqMore
import PyProof.FactsAll.tuple_2
import PyProof.ExcInit
import OpenK.KCls
import PyProof.WalkInts
import PyProof.SeqI3
import KE.KIntText
import KE.KEqDict
import KE.KDictOf
import PySem.Challenge.RW_letterrack_k26_whole_the_board_turned
set_option Elab.async false
set_option linter.all false
set_option maxRecDepth 100000
set_option maxHeartbeats 4000000

set_option bootstrap.genMatcherCode false
theorem zsz (n:Nat)(h:n<=1000:=by decide):n<=PySem.sizeLine:=Nat.le_trans h (by decide)
abbrev aa:=@List.length_map
abbrev ac:=@List.getElem?_eq_getElem
abbrev ae:=@PySem.wpAny_bind
abbrev af:=@List.getElem?_eq_some_iff
abbrev ag:=@PySem.Heap.get?_push_of_some
abbrev ah:=@List.getElem_mem
abbrev ai:=@List.getD_eq_getElem?_getD
abbrev al:=@decide_eq_false
abbrev am:=@decide_eq_true
abbrev ap:=@Nat.le_refl
abbrev av:=@PySem.wpAny_pure
abbrev aw:=@Option.some.inj
abbrev ax:=@PySem.Heap.lt_size
abbrev ay:=@List.mem_singleton
abbrev aE:=@List.mem_map
abbrev aI:=@List.length_take
abbrev aS:=@PySem.boot_len
abbrev aT:=@Nat.le_of_lt
abbrev a7:=@List.getElem?_map
abbrev a8:=@List.mem_append
abbrev a9:=@PySem.Heap.get?_push_size
abbrev a_:=@List.mem_cons_of_mem
abbrev ba:=@Nat.ne_of_lt
abbrev bb:=@List.size_toArray
abbrev bc:=@List.length_append
abbrev be:=@List.mem_of_getElem?
abbrev bg:=@List.take_of_length_le
abbrev bn:=@Bool.false_ne_true
abbrev bo:=@List.mem_cons
abbrev bp:=@PyProof.Rows.boot_isinstance
abbrev bq:=@List.mem_cons_self
abbrev bt:=@List.length_drop
abbrev bu:=@List.take_add_one
abbrev bv:=@of_decide_eq_true
abbrev bz:=@List.map_append
abbrev bE:=@PySem.F.plainAttrs_str
abbrev bP:=@List.map_cons
abbrev bS:=@PySem.PassesOwn.never
abbrev bX:=@List.take_length
abbrev b6:=@List.mem_append_right
abbrev b7:=@Nat.zero_le
abbrev b8:=@List.map_map
abbrev b9:=@Nat.lt_of_lt_of_le
abbrev ce:=@PySem.W.mg_of
abbrev ck:=@List.length_replicate
abbrev cn:=@List.pairwise_iff_getElem
abbrev cq:=@Nat.le_trans
abbrev cv:=@PySem.F.plainAttrs_list
abbrev cw:=@Bool.and_eq_true
abbrev cy:=@List.all_eq_true
abbrev cz:=@List.getElem?_append_right
abbrev cE:=@Bool.false_eq_true
abbrev cK:=@PyProof.Rows.boot_tuple
abbrev cS:=@PySem.W.mg_none_of
abbrev c6:=@List.mem_of_mem_take
abbrev c8:=@List.getElem?_append_left
abbrev c_:=@List.mem_iff_getElem
abbrev de:=@List.getElem_map
abbrev df:=@Int.toNat_natCast
abbrev di:=@List.pairwise_map
abbrev dm:=@PySem.F.slot_list_append
abbrev dq:=@PySem.F.type_list_append
abbrev dr:=@PySem.Heap.size_push
abbrev du:=@Array.length_toList
abbrev dv:=@List.length_cons
abbrev dA:=@PySem.wpAny_mono
abbrev dC:=@List.getElem?_set_self
abbrev dE:=@Option.map_eq_some_iff
abbrev dL:=@PySem.wpAny_holding
abbrev dP:=@Nat.lt_irrefl
abbrev dS:=@List.getElem?_set_ne
abbrev d6:=@PySem.SeqAt.EqAt.int_int
abbrev d9:=@List.mem_or_eq_of_mem_set
abbrev ed:=@PySem.wpAny_truthy_bool
abbrev eh:=@PySem.F.slot_str_join
abbrev eB:=@PySem.F.type_str_join
abbrev eD:=@PySem.W.kia_one
abbrev eI:=@List.length_set
abbrev eJ:=@List.filter_append
abbrev eK:=@List.mem_range
abbrev eP:=@PySem.Heap.get?_update_other
abbrev eQ:=@List.map_congr_left
abbrev eR:=@List.mem_filter
abbrev e6:=@Bool.eq_iff_iff
abbrev e7:=@List.getElem?_eq_none
abbrev e8:=@Nat.le_of_eq
abbrev e9:=@List.getElem?_drop
abbrev e_:=@Nat.mul_le_mul
abbrev fb:=@PySem.F.slot_dict_keyiterator_next
abbrev fe:=@PySem.wpAny_pyIter_list
abbrev fg:=@Nat.lt_succ_of_lt
abbrev fh:=@List.append_nil
abbrev fi:=@List.nodup_cons
abbrev fk:=@Array.getD_eq_getD_getElem?
abbrev fm:=@PySem.wpAny_field
abbrev fq:=@PyProof.Rows.boot_list
abbrev ft:=@PySem.F.slot_str_lower
abbrev fv:=@PySem.F.type_str_lower
abbrev fw:=@Array.getElem?_eq_some_iff
abbrev fz:=@PySem.F.excBase_ValueError
abbrev fA:=@List.lookup_cons
abbrev fE:=@List.ext_getElem
abbrev fF:=@PySem.wpAny_call_entry
abbrev fN:=@PySem.Heap.get?_update_self
abbrev fR:=@List.length_filter_le
abbrev fS:=@List.forIn_cons
abbrev fT:=@PyProof.Rows.boot_sorted
abbrev f6:=@List.Pairwise.imp_of_mem
abbrev f7:=@Ne.symm
abbrev f8:=@PySem.wpAny_newObj_type
abbrev f_:=@PySem.wpAny_typeNameOfWhole_keyiter
abbrev gc:=@Nat.lt_succ_self
abbrev gf:=@PyProof.Rows.callWith_type1
abbrev gg:=@PySem.wpAny_Call_Name_kw
abbrev gh:=@Int.zero_add
abbrev gm:=@PySem.wpAny_passesOwn
abbrev gp:=@List.mem_iff_getElem?
abbrev gr:=@PySem.Obj.isFreed_of_fields
abbrev gt:=@PyProof.Rows.boot_int
abbrev gu:=@List.any_cons
abbrev gy:=@PySem.StrLaws.subAt_one
abbrev gE:=@PySem.wpAny_loadPart_at
abbrev gI:=@Array.getElem?_eq_getElem
abbrev gL:=@List.drop_eq_getElem_cons
abbrev gN:=@List.mem_of_mem_drop
abbrev gS:=@List.nodup_nil
abbrev gT:=@Option.isSome_iff_exists
abbrev gX:=@PySem.wpAny_typeNameOf_keyiter
abbrev g6:=@List.not_mem_nil
abbrev g9:=@List.mem_flatten
abbrev hJ:=@PySem.mem_of_lookup
abbrev hV:=@List.replicate_succ
abbrev hX:=@PySem.Heap.get?_update_ne
abbrev h8:=@Array.getElem?_setIfInBounds_ne
abbrev ia:=@Nat.add_sub_cancel_left
abbrev ib:=@PySem.wpAny_callSpecial?_slot
abbrev ic:=@PySem.wpAny_call
abbrev ie:=@PySem.W.callWith_K
abbrev ik:=@List.find?_cons
abbrev im:=@Nat.min_eq_left
abbrev io:=@PySem.Obj.data_mapFields
abbrev ip:=@PySem.wpAny_setField_rec
abbrev iq:=@Nat.le_succ
abbrev ir:=@List.drop_of_length_le
abbrev iA:=@List.eq_nil_of_length_eq_zero
abbrev iE:=@List.flatten_cons
abbrev iF:=@PySem.PassesOwn.leaving
abbrev iL:=@List.drop_zero
abbrev iN:=@PySem.wpAny_setField
abbrev iO:=@PySem.wpAny_seqItems
abbrev iP:=@List.cons_lt_cons_iff
abbrev iS:=@PySem.wpAny_standAt
abbrev iX:=@PySem.wpAny_attempt
abbrev i6:=@Bool.not_true
abbrev i7:=@List.filterMap_cons
abbrev i8:=@List.length_reverse
abbrev i9:=@List.map_eq_nil_iff
abbrev ja:=@PySem.codeAny_mono
abbrev jb:=@List.getElem?_take_of_lt
abbrev jp:=@PySem.wpAny_comprehension_free
abbrev js:=@PySem.wpAny_tupleItemsOf
abbrev jv:=@Nat.lt_or_ge
abbrev jI:=@List.getElem?_take
abbrev jS:=@Nat.succ_pos
abbrev j3:=@PySem.Heap.IsList.at
abbrev ka:=@List.getElem?_replicate
abbrev kd:=@List.eraseIdx_cons_succ
abbrev ke:=@List.pairwise_singleton
abbrev kf:=@PySem.Heap.get?_push_ne
abbrev kl:=@List.length_range
abbrev km:=@PySem.codeAny_compStart_list
abbrev ko:=@PySem.wpAny_nextOf_list_item
abbrev kq:=@List.head?_eq_getElem?
abbrev kr:=@List.filter_eq_nil_iff
abbrev ku:=@Int.ofNat.inj
abbrev kx:=@Array.toList_inj
abbrev ky:=@PySem.wpAny_isInstance
abbrev kz:=@List.any_eq_true
abbrev kA:=@Array.getElem?_toList
abbrev kC:=@List.eq_replicate_iff
abbrev kD:=@List.take_append_drop
abbrev kG:=@List.mem_append_left
abbrev kH:=@PySem.wpAny_execs_nil
abbrev kK:=@Nat.ne_of_gt
abbrev kN:=@PyProof.Rows.callWith_builtin1
abbrev kP:=@PySem.wpAny_newFunctionEnv
abbrev kQ:=@PySem.F.slot_tuple_lt
abbrev kR:=@PySem.codeAny_call_builtin
abbrev kS:=@PySem.wpAny_updateSeq_pair
abbrev kU:=@PySem.F.slot_zip_next
abbrev kX:=@Nat.div_lt_of_lt_mul
abbrev lh:=@PySem.W.plainGet_of
abbrev lj:=@List.length_pos_iff
abbrev lm:=@List.getElem?_range
abbrev lp:=@PySem.wpAny_loadPart
abbrev lv:=@List.mem_filterMap
abbrev lx:=@Nat.lt_of_le_of_lt
abbrev ly:=@List.map_singleton
abbrev lI:=@List.takeWhile_cons_of_pos
abbrev lL:=@Array.perm_iff_toList_perm
abbrev lP:=@PySem.F.excAttr_ValueError
abbrev lS:=@PySem.wpAny_onRaise
abbrev lT:=@PySem.wpAny_assign_Name
abbrev l6:=@List.any_eq_false
abbrev l_:=@PySem.Within.cons
abbrev ma:=@Option.isSome_map
abbrev me:=@Nat.lt_trichotomy
abbrev mf:=@Nat.le_succ_of_le
abbrev mh:=@PySem.wpAny_dictEntries
abbrev mi:=@PySem.Obj.cls_mapFields
abbrev ml:=@List.nodup_append
abbrev mn:=@List.find?_isSome
abbrev mr:=@List.getLast?_eq_getElem?
abbrev mx:=@List.getElem?_zip_eq_some
abbrev my:=@List.getElem_inj
abbrev mB:=@Nat.min_le_right
abbrev mE:=@Nat.succ_le_succ
abbrev mI:=@List.map_nil
abbrev mM:=@Nat.mul_comm
abbrev mP:=@Nat.min_eq_right
abbrev mS:=@List.map_set
abbrev mT:=@List.mem_reverse
abbrev nc:=@List.of_mem_zip
abbrev nl:=@Bool.or_eq_true
abbrev nv:=@Bool.not_false
abbrev ny:=@List.forIn_nil
abbrev nB:=@List.take_succ
abbrev nE:=@List.Perm.refl
abbrev AA:=List (List Nat)
abbrev AB:=PySem.Value->PySem.Shared->Prop
abbrev AC:=List (PySem.Addr × PySem.Obj)
noncomputable section
namespace L2
open PySem PySem.Spec PyProof.Rows
abbrev Key:=Sum Int Str
def DW:Key->Value->Bool
 | .inl k,v=>Value.isInt k v
 | .inr x,v=>Value.isStrOf x v
def ahD (w:World):Key->Int
 | .inl k=>hashInt k
 | .inr x=>hashStr w x
theorem iy:∀{k:Key} {v:Value},DW k v=true->(∃i t,k=Sum.inl i/\v=Value.int i t)\/(∃x t,k=Sum.inr x/\v=Value.str x t)
 | .inl i,v,h=>by
  obtain⟨t,e⟩:=Value.isInt_shape (k:=i) (v:=v) h;exact .inl ⟨i,t,rfl,e⟩
 | .inr x,v,h=>by
  obtain⟨t,e⟩:=Value.isStrOf_shape (x:=x) (v:=v) h;exact .inr ⟨x,t,rfl,e⟩
theorem Wq (i:Int)(t:Tok):DW (.inl i) (.int i t)=true:=by simp[DW,Value.isInt]
theorem Ws (x:Str)(t:Tok):DW (.inr x) (.str x t)=true:=by simp[DW,Value.isStrOf]
theorem aeI (a b:Int):decide ((Sum.inl a:Key)=Sum.inl b)=(a==b):=by
 by_cases e:a=b
 ·subst e;simp
 ·have h:¬(Sum.inl a:Key)=Sum.inl b:=λq=>e (Sum.inl.inj q)
  rw[al h];exact(beq_eq_false_iff_ne.mpr e).symm
theorem aeJ (a b:Str):decide ((Sum.inr a:Key)=Sum.inr b)=decide (a=b):=by
 by_cases e:a=b
 ·subst e;simp
 ·have h:¬(Sum.inr a:Key)=Sum.inr b:=λq=>e (Sum.inr.inj q)
  rw[al h,al e]
theorem aeK (a:Int)(b:Str):decide ((Sum.inl a:Key)=Sum.inr b)=false:=al (λq=>nomatch q)
theorem aeL (a:Str)(b:Int):decide ((Sum.inr a:Key)=Sum.inl b)=false:=al (λq=>nomatch q)
noncomputable def iI (prog:Program)(w:World):PySem.KeyKind prog w Key where
 is:=DW
 hash:=ahD w
 inj:=λv a b ha hb=>by
  rcases iy ha with⟨i,t,rfl,rfl⟩ | ⟨x,t,rfl,rfl⟩
  ·rcases iy hb with⟨j,u,rfl,e⟩ | ⟨y,u,rfl,e⟩
   ·injection e with e1 _;rw[e1]
   ·exact nomatch e
  ·rcases iy hb with⟨j,u,rfl,e⟩ | ⟨y,u,rfl,e⟩
   ·exact nomatch e
   ·injection e with e1 _;rw[e1]
 byValue:=λk v h=>by
  rcases iy h with⟨i,t,rfl,rfl⟩ | ⟨x,t,rfl,rfl⟩ <;> rfl
 pyHash:=λhv h=>by
  rcases iy hv with⟨i,t,rfl,rfl⟩ | ⟨x,t,rfl,rfl⟩
  ·exact wpAny_pyHash_int h
  ·exact wpAny_pyHash_str h
 eqBool:=λhu hv h=>by
  rcases iy hu with⟨i,t,rfl,rfl⟩ | ⟨x,t,rfl,rfl⟩
  ·rcases iy hv with⟨j,u,rfl,rfl⟩ | ⟨y,u,rfl,rfl⟩
   ·rw[aeI]at h;exact wpAny_eqBool_int h
   ·rw[aeK]at h;exact SeqAt.EqAt.int_str i t y u _ _ _ _ h
  ·rcases iy hv with⟨j,u,rfl,rfl⟩ | ⟨y,u,rfl,rfl⟩
   ·rw[aeL]at h;exact SeqAt.EqAt.str_int x t j u _ _ _ _ h
   ·rw[aeJ]at h;exact wpAny_eqBool_str h
 «strs»:=λk x t v h=>by
  rcases iy h with⟨i,u,rfl,e⟩ | ⟨y,u,rfl,e⟩
  ·exact nomatch e
  ·injection e with e1 _
   subst e1;cases v <;> rfl
theorem Rf (prog:Program)(w:World)(i:Int)(t:Tok):(iI prog w).is (.inl i) (.int i t)=true:=Wq i t
theorem Rg (prog:Program)(w:World)(x:Str)(t:Tok):(iI prog w).is (.inr x) (.str x t)=true:=Ws x t
inductive V where
 | non | bl (b:Bool) | int (i:Int) | str (x:Str) | Ax (b:Array UInt8) | flt (b:UInt64) | ref (a:Addr) | ty (n:String)
 deriving DecidableEq
def cA:V->Value->Prop
 | .non,u=>u=Value.none
 | .bl b,u=>u=Value.bool b
 | .int i,u=>∃t,u=Value.int i t
 | .str x,u=>∃t,u=Value.str x t
 | .Ax b,u=>∃t,u=Value.bytes b t
 | .flt b,u=>∃t,u=Value.float b t
 | .ref a,u=>u=Value.ref a
 | .ty n,u=>u=Value.type n
abbrev Vals:List V->List Value->Prop:=Paired cA
theorem Vals.length {xs:List V}{us:List Value}(r:Vals xs us):xs.length=us.length:=Paired.length r
theorem Vals.get:∀{xs:List V} {us:List Value} {i:Nat} {x:V},Vals xs us->xs[i]?=some x->∃u,us[i]?=some u/\cA x u
 | _,_,_,_,.nil,e=>by simp at e
 | _,_,0,_,.cons r _,e=>by simp at e;subst e;exact⟨_,rfl,r⟩
 | _,_,i+1,x,.cons _ t,e=>by
  obtain⟨u,h1,h2⟩:=Vals.get (i:=i) (x:=x) t (by simpa using e);exact⟨u,by simpa using h1,h2⟩
theorem Vals.set {x:V}{u:Value}(r:cA x u):∀{xs:List V} {us:List Value} (i:Nat),Vals xs us->Vals (xs.set i x) (us.set i u)
 | _,_,_,.nil=>.nil
 | _,_,0,.cons _ t=>.cons r t
 | _,_,i+1,.cons q t=>.cons q (Vals.set r i t)
theorem Vals.append:∀{xs ys:List V} {us ws:List Value},Vals xs us->Vals ys ws->Vals (xs++ys) (us++ws)
 | _,_,_,_,.nil,s=>s
 | _,_,_,_,.cons r t,s=>.cons r (Vals.append t s)
theorem Vals.take:∀{xs:List V} {us:List Value} (n:Nat),Vals xs us->Vals (xs.take n) (us.take n)
 | _,_,0,_=>.nil
 | _,_,_+1,.nil=>.nil
 | _,_,n+1,.cons r t=>.cons r (Vals.take n t)
theorem Vals.drop:∀{xs:List V} {us:List Value} (n:Nat),Vals xs us->Vals (xs.drop n) (us.drop n)
 | _,_,0,r=>r
 | _,_,_+1,.nil=>.nil
 | _,_,n+1,.cons _ t=>Vals.drop n t
def j9:Option V->Option Value->Prop
 | some v,some u=>cA v u
 | none,none=>True
 | _,_=>False
def KV {κ:Type}:List (κ × V)->List (κ × Value)->Prop:=Paired λ(p:κ × V) (q:κ × Value)=>p.1=q.1/\cA p.2 q.2
def kV:Key->V
 | .inl i=>.int i
 | .inr x=>.str x
inductive HO where
 | lst (xs:List V)
 | tup (xs:List V)
 | dK (kvs:List (Key × V)) | dT (kvs:List (List Key × V))
 | set (S:Int->Bool) (n:Nat)
 | ins (C dx:Addr) (fs:List (Str × V))
 | own (x:Addr)
 | xd (fs:List (Str × V))
 | met (f x:Addr)
 | rng (lo hi:Int)
 | nC (o:Obj) (u:HO)
 | Ks (ps:Array Value)
 | ext (φ:Heap->Prop)
abbrev Hp:=Addr->Option HO
def upd (H:Hp)(a:Addr)(o:HO):Hp:=λb=>if b=a then some o else H b
theorem au {H:Hp}{a:Addr}{o:HO}:upd H a o a=some o:=by unfold upd;rw[if_pos rfl]
theorem aM {H:Hp}{a b:Addr}{o:HO}(h:b≠a):upd H a o b=H b:=by unfold upd;rw[if_neg h]
theorem ag6 {H:Hp}{a b:Addr}{o u:HO}(h:H a=some o)(h':H b=some u)(d:o≠u):a≠b:=by
 intro e;subst e;rw[h]at h';exact d (aw h')
theorem bJ {H:Hp}{a b:Addr}{o:HO}(h:H a=some o)(h':H b=none):a≠b:=by
 intro e;subst e;rw[h]at h';cases h'
section
variable (P:Program)(w:World)
def dH (H:Hp)(h:Heap)(a:Addr):HO->Prop
 | .lst xs=>xs.length<=sizeLine/\∃(its:List Value) (n:Nat),Vals xs its/\h.get? a=some { cls:=.type "list",data:=.seq its.toArray n }
 | .tup xs=>xs.length<=sizeLine/\∃its:List Value,Vals xs its/\IsTup h a its.toArray
 | .dK kvs=>kvs.length<=sizeLine/\(a==sysModules)=false/\∃vs,KV kvs vs/\h.DictOf (iI P w) a vs
 | .dT kvs=>kvs.length<=sizeLine/\(a==sysModules)=false/\∃xs:List (List Key × Addr × Value),
   Paired (λ(p:List Key × V) (q:List Key × Addr × Value)=>p.1=q.1/\H q.2.1=some (.tup (p.1.map kV))/\cA p.2 q.2.2) kvs xs/\
   ∃o es ep,h.get? a=some o/\o.ExactDict/\o.data=.dict es ep/\es.toList=xs.map (entryOfKey (tupleKind (iI P w)))/\(xs.map (·.1)).Nodup
 | .set S n=>h.SetOf (intKind P w) a S n
 | .ins C dx fs=>H dx=some (.own a)/\fs.length<=1000/\dx≠a/\h.get? a=some (W.instObj C dx)/\
   ∃mA,h.Ns1 dx mA/\(∀f,j9 (fs.lookup f) (mA f))/\PySem.Within mA (fs.map (·.1))
 | .own _=>∃o,h.get? a=some o
 | .xd fs=>∃mA,h.Ns1 a mA/\∀f,j9 (fs.lookup f) (mA f)
 | .rng lo hi=>∃t u v,h.get? a=some { cls:=.type "range",data:=.fields #[.int lo t,.int hi u,.int 1 v] }
 | .nC o u=>h.get? a=some o/\dH H h a u
 | .Ks ps=>h.get? a=some { cls:=.none,data:=.fields ps }
 | .met f x=>h.get? a=some (W.methodObj (.ref f) (.ref x))
 | .ext φ=>φ h/\(∃o,h.get? a=some o)/\∀h1 h2:Heap,φ h1->(∀o,h1.get? a=some o->h2.get? a=some o)->φ h2
def jh (H:Hp)(h:Heap):Prop:=∀a o,H a=some o->dH P w H h a o
end
section
variable {P:Program}{w:World}{H H':Hp}{h h':Heap}{a:Addr}{o:HO}
theorem dH.lt (x:dH P w H h a o):a < h.objs.size:=by
 cases o with
 | lst xs=>obtain⟨_,_,_,_,e⟩:=x;exact ax e
 | tup xs=>obtain⟨_,_,_,p⟩:=x;exact p.lt
 | dK kvs=>obtain⟨_,_,_,_,o,_,_,e,_⟩:=x;exact ax e
 | dT kvs=>obtain⟨_,_,_,_,o,_,_,e,_⟩:=x;exact ax e
 | set S n=>obtain⟨o,_,_,_,e,_⟩:=x;exact ax e
 | ins C dx fs=>obtain⟨_,_,_,e,_⟩:=x;exact ax e
 | own y=>obtain⟨_,e⟩:=x;exact ax e
 | xd fs=>obtain⟨_,⟨_,_,_,e,_⟩,_⟩:=x;exact ax e
 | rng lo hi=>obtain⟨_,_,_,e⟩:=x;exact ax e
 | nC ob u=>obtain⟨e,_⟩:=x;exact ax e
 | Ks ps=>exact ax (show h.get? a=some _ from x)
 | met f y=>exact ax (show h.get? a=some _ from x)
 | ext φ=>obtain⟨_,⟨_,e⟩,_⟩:=x;exact ax e
theorem Paired.aae {α β:Type}{F G:α->β->Prop}:∀{l₁:List α} {l₂:List β},Paired F l₁ l₂->(∀a b,F a b->G a b)->Paired G l₁ l₂
 | _,_,.nil,_=>.nil
 | _,_,.cons r t,f=>.cons (f _ _ r) (Paired.aae t f)
theorem dH.stay (x:dH P w H h a o)(k:∀b u,(b=a\/H b=some (.own a))->h.get? b=some u->h'.get? b=some u)
  (ho:∀b,H b=some (.own a)->H' b=some (.own a)) (ht:∀b xs,H b=some (.tup xs)->H' b=some (.tup xs)):dH P w H' h' a o:=by
 induction o with
 | lst xs=>obtain⟨z,its,n,r,e⟩:=x;exact⟨z,its,n,r,k _ _ (.inl rfl) e⟩
 | tup xs=>obtain⟨z,its,r,ob,e,c⟩:=x;exact⟨z,its,r,ob,k _ _ (.inl rfl) e,c⟩
 | dK kvs=>obtain⟨z,y,vs,r,ob,es,ep,e,c⟩:=x;exact⟨z,y,vs,r,ob,es,ep,k _ _ (.inl rfl) e,c⟩
 | dT kvs=>
  obtain⟨z,y,xs,r,ob,es,ep,e,c⟩:=x;exact⟨z,y,xs,Paired.aae r λp q z=>⟨z.1,ht _ _ z.2.1,z.2.2⟩,ob,es,ep,k _ _ (.inl rfl) e,c⟩
 | set S n=>obtain⟨ob,es,ep,t,e,c⟩:=x;exact⟨ob,es,ep,t,k _ _ (.inl rfl) e,c⟩
 | ins C dx fs=>
  obtain⟨d,z,ne,e,mA,⟨od,es,ep,e2,c⟩,r⟩:=x;exact⟨ho _ d,z,ne,k _ _ (.inl rfl) e,mA,⟨od,es,ep,k _ _ (.inr d) e2,c⟩,r⟩
 | own y=>obtain⟨ob,e⟩:=x;exact⟨ob,k _ _ (.inl rfl) e⟩
 | xd fs=>obtain⟨mA,⟨od,es,ep,e,c⟩,r⟩:=x;exact⟨mA,⟨od,es,ep,k _ _ (.inl rfl) e,c⟩,r⟩
 | rng lo hi=>obtain⟨t,u,v,e⟩:=x;exact⟨t,u,v,k _ _ (.inl rfl) e⟩
 | nC ob u ih=>obtain⟨e,q⟩:=x;exact⟨k _ _ (.inl rfl) e,ih q⟩
 | Ks ps=>
  have e:h.get? a=some { cls:=.none,data:=.fields ps }:=x;show h'.get? a=some { cls:=.none,data:=.fields ps };exact k a _ (.inl rfl) e
 | met f y=>
  have e:h.get? a=some (W.methodObj (.ref f) (.ref y)):=x;show h'.get? a=some (W.methodObj (.ref f) (.ref y));exact k a _ (.inl rfl) e
 | ext φ=>obtain⟨p,⟨o,e⟩,st⟩:=x;exact⟨st _ _ p λo q=>k _ _ (.inl rfl) q,⟨o,k _ _ (.inl rfl) e⟩,st⟩
theorem jh.lt (x:jh P w H h)(e:H a=some o):a < h.objs.size:=(x a o e).lt
theorem jh.fresh (x:jh P w H h)(e:h.objs.size<=a):H a=none:=by
 cases q:H a with
 | none=>rfl
 | some u=>exact absurd (b9 (x.lt q) e) (dP _)
theorem jh.kept (x:jh P w H h)(k:∀b u,h.get? b=some u->h'.get? b=some u):jh P w H h':=λa o e=>
 (x a o e).stay (λb u _ q=>k b u q) (λ_ q=>q) λ_ _ q=>q
theorem jh.laid (x:jh P w H h)(k:∀b u,h.get? b=some u->h'.get? b=some u)(hp:h.objs.size<=a)(new:dH P w (upd H a o) h' a o):jh P w (upd H a o) h':=λb u e=>by
 have hn:=x.fresh hp;by_cases hb:b=a
 ·subst hb;rw[au]at e;cases e;exact new
 ·rw[aM hb]at e
  exact(x b u e).stay (λc v _ q=>k c v q) (λc q=>by rw[aM (bJ q hn)];exact q) λc xs q=>by rw[aM (bJ q hn)];exact q
end
def Rd (H:Hp)(a:Addr)(u:HO):Prop:=H a=some u\/∃o,H a=some (.nC o u)
theorem Rd.ok {P:Program}{w:World}{H:Hp}{h:Heap}{a:Addr}{u:HO}(r:Rd H a u)(x:jh P w H h):dH P w H h a u:=by
 rcases r with r | ⟨o,r⟩
 ·exact x a u r
 ·obtain⟨_,q⟩:=x a _ r
  exact q
def Wt:Option HO->Prop
 | some (.lst _)=>True
 | some (.dK _)=>True
 | some (.dT _)=>True
 | some (.set _ _)=>True
 | some (.ins _ _ _)=>True
 | some (.ext _)=>True
 | _=>False
section
variable {P:Program}{w:World}{H:Hp}{h h':Heap}{x e:Addr}{o':HO}
theorem jh.write (ok:jh P w H h)(mu:Wt (H x))(he:e=x\/H e=some (.own x))(k:∀b u,b≠e->h.get? b=some u->h'.get? b=some u)(heo:∃u,h'.get? e=some u)
  (new:dH P w (upd H x o') h' x o'):jh P w (upd H x o') h':=λb u q=>by
 have aeM:∀c y,H c=some (.own y)->c≠x:=λc y r z=>by subst z;rw[r]at mu;exact mu
 have ahE:∀c xs,H c=some (.tup xs)->c≠x:=λc xs r z=>by subst z;rw[r]at mu;exact mu
 by_cases hb:b=x
 ·subst hb;rw[au]at q;cases q;exact new
 ·rw[aM hb]at q
  by_cases hbe:b=e
  ·have q':H b=some (.own x):=by
    rcases he with z | z
    ·exact absurd (hbe.trans z) hb
    ·rw[hbe];exact z
   rw[q]at q';cases q';obtain⟨v,hv⟩:=heo;exact⟨v,by rw[hbe];exact hv⟩
  ·refine(ok b u q).stay (λc v hc r=>k c v ?_ r) (λc r=>by rw[aM (aeM c b r)];exact r) λc xs r=>by rw[aM (ahE c xs r)];exact r
   rcases hc with rfl | hc
   ·exact hbe
   ·rintro rfl
    rcases he with z | z
    ·exact aeM c b hc z
    ·rw[hc]at z;cases z;exact hb rfl
end
structure Un (fs ex:List Addr)(H H':Hp)(h h':Heap):Prop where
 keep:∀b o,h.get? b=some o->H b=none->b∉fs->b∉ex->h'.get? b=some o
 slot:∀b o,h.get? b=some o->H b=none->b∈fs->b∉ex->∃sl,h'.get? b=some { o with slots:=sl }
 free:∀b o,h.get? b=some o->H b=none->b∉ex->H' b=none
 there:∀b o,h.get? b=some o->b∉ex->∃o',h'.get? b=some o'
 tups:∀b xs,H b=some (.tup xs)->H' b=some (.tup xs)
 lG:∀b o u,H b=some (.nC o u)->H' b=some (.nC o u)
 lV:∀b ps,H b=some (.Ks ps)->∃more,H' b=some (.Ks (ps++more))
section
variable {fs ex:List Addr}{H H1:Hp}{h h1 h':Heap}{a x e:Addr}{o:HO}
theorem Un.any (u:Un fs ex H H1 h h1){b:Addr}{ob:Obj}(q:h.get? b=some ob)(n:H b=none)(hx:b∉ex):∃sl,h1.get? b=some { ob with slots:=sl }:=by
 by_cases hb:b∈fs
 ·exact u.slot b ob q n hb hx
 ·exact⟨ob.slots,u.keep b ob q n hb hx⟩
theorem Un.kept (k:∀b u,h.get? b=some u->h'.get? b=some u):Un fs ex H H h h':=
 ⟨λb ob q _ _ _=>k b ob q,λb ob q _ _ _=>⟨ob.slots,k b ob q⟩,λ_ _ _ n _=>n,λb ob q _=>⟨ob,k b ob q⟩,λ_ _ q=>q,λ_ _ _ q=>q,λ_ ps q=>⟨#[],by rw[q];simp⟩⟩
theorem Un.refl:Un fs ex H H h h:=Un.kept λ_ _ q=>q
theorem Un.laid (k:∀b u,h.get? b=some u->h'.get? b=some u)(hp:h.objs.size<=a)(hn:H a=none):Un fs ex H (upd H a o) h h' where
 keep:=λb u q _ _ _=>k b u q
 slot:=λb u q _ _ _=>⟨u.slots,k b u q⟩
 free:=λb u q n _=>by rw[aM (ba (b9 (ax q) hp))];exact n
 there:=λb u q _=>⟨u,k b u q⟩
 tups:=λb xs q=>by rw[aM (bJ q hn)];exact q
 lG:=λb u xs q=>by rw[aM (bJ q hn)];exact q
 lV:=λb ps q=>⟨#[],by rw[aM (bJ q hn),q];simp⟩
theorem Un.write (mu:Wt (H x))(he:e=x\/H e=some (.own x))(k:∀b u,b≠e->h.get? b=some u->h'.get? b=some u)(heo:∃u,h'.get? e=some u):Un fs ex H (upd H x o) h h':=by
 have hx:∀b,H b=none->b≠x:=λb n z=>by subst z;rw[n]at mu;exact mu
 have hb:∀b,H b=none->b≠e:=λb n z=>by
  subst z;rcases he with r | r
  ·exact hx b n r
  ·rw[n]at r;cases r
 have hm:∀b u,H b=some u->¬Wt (some u)->b≠x:=λb u q nm z=>by subst z;rw[q]at mu;exact nm mu
 refine⟨λb u q n _ _=>k b u (hb b n) q,λb u q n _ _=>⟨u.slots,k b u (hb b n) q⟩,λb u q n _=>by rw[aM (hx b n)];exact n,λb u q _=>?_,
  λb xs q=>by rw[aM (hm b _ q λz=>z)];exact q,λb u xs q=>by rw[aM (hm b _ q λz=>z)];exact q,λb ps q=>⟨#[],by rw[aM (hm b _ q λz=>z),q];simp⟩⟩
 by_cases hbe:b=e
 ·subst hbe;exact heo
 ·exact⟨u,k b u hbe q⟩
end
def Ku (h:Heap)(H:Hp):List Addr:=(List.range h.objs.size).filter λa=>(H a).isSome
def yH (h:Heap)(H:Hp):Heap:=W.hideAll h (Ku h H)
theorem Wu (h:Heap)(H:Hp):(yH h H).objs.size=h.objs.size:=W.hideAll_size _ _
theorem aaf {h:Heap}{H:Hp}{b:Addr}{o:Obj}(e:h.get? b=some o)(n:H b=none):(yH h H).get? b=some o:=
 W.hideAll_get _ e λhm=>by
  have q:(H b).isSome=true:=(eR.mp hm).2;rw[n]at q;simp at q
theorem acU {h:Heap}{H:Hp}{b:Addr}{o:Obj}(e:(yH h H).get? b=some o):h.get? b=some o/\H b=none:=by
 have e':h.get? b=some o:=W.of_hideAll (Ku h H) e;refine⟨e',?_⟩;cases q:H b with
 | none=>rfl
 | some x=>
  have hm:b∈Ku h H:=eR.mpr ⟨eK.mpr (ax e'),by simp[q]⟩;have z:(yH h H).get? b=none:=W.hideAll_none (Ku h H) hm;rw[z]at e;cases e
structure Mod (K:W.Frag)(mg:Str->Option Value)(base:Heap):Prop where
 Hg:K.In base
 glob:base.Ns mainGlobals mg
 blt:∃mb,base.Ns builtinsNs mb/\∀x:Str,x≠"__name__"->mb x=bootBuiltins x
 nolimit:base.NoLimit
structure Cx where
 prog:Program
 w:World
 K:W.Frag
 mg:Str->Option Value
 base:Heap
 A:Around
 N:List Str
 s₀:Shared
 H₀:Hp
 env:Env
 outer:List Env
 stack:List Env
 ex:List Addr
 fn:Str->Bool
 calm:Bool
 pn:List (Addr × Obj)
 xe:Value->Shared->Prop
def frs (l:List Env):List Addr:=l.filterMap (·.frame)
abbrev Cx.fs (X:Cx):List Addr:=frs X.outer
def Vis (sc:Scope)(x:Str):Prop:=sc.names.lookup x=some .local\/sc.names.lookup x=some .cell\/sc.names.lookup x=some .free
def Loc (sc:Scope)(x:Str):Prop:=sc.names.lookup x=some .local\/sc.names.lookup x=some .cell
def Look (env:Env)(h:Heap)(m:Str->Option Value)(x:Str)(u:Value):Prop:=
 (env.kindOf x=some .local/\m x=some u)\/((env.kindOf x=some .cell\/env.kindOf x=some .free)/\∃c,env.cells.lookup x=some c/\h.IsCell c (some u))
structure Cx.Ok (X:Cx):Prop where
 mod:Mod X.K X.mg X.base
 kind:X.env.scope.kind=.function
 glob:X.env.globals=mainGlobals
 blt:X.env.builtins=builtinsNs
 above:X.s₀.heap.objs.size<=X.env.locals
 inj:∀x y c,X.env.cells.lookup x=some c->X.env.cells.lookup y=some c->x=y
 has:∀x,(X.env.kindOf x=some .cell\/X.env.kindOf x=some .free)->∃c,X.env.cells.lookup x=some c
 cab:∀x c,X.fn x=true->X.env.cells.lookup x=some c->X.s₀.heap.objs.size<=c
 hd:X.calm=true->X.A.handled=none
 frames:X.A.frames=some X.stack
 stk:X.stack=X.outer\/(X.stack=X.env::X.outer/\X.env.frame=some X.env.locals)
 Wv:∀b∈X.ex,b≠X.env.locals/\∀x c,X.env.cells.lookup x=some c->c≠b
 bs:∀b o,X.base.get? b=some o->X.s₀.heap.get? b=some o/\X.H₀ b=none
 sE:X.base.objs.size<=X.s₀.heap.objs.size
 wO:∀b o,X.base.get? b=some o->b∉X.ex
 Fx:∀b∈X.ex,b∉X.fs
 ni:X.s₀.heap.FunFrames X.base X.outer
 Bc:∀b∈X.fs,X.H₀ b=none
structure aL (X:Cx)(ao:AC)(σ:List (Option V))(H:Hp)(s:Shared):Prop where
 ok:X.Ok
 os:s.os=X.s₀.os
 bare:AllBare s.gens
 base:Un X.fs X.ex X.H₀ H X.s₀.heap s.heap
 loc:∃m,s.heap.Ns X.env.locals m/\∀(i:Nat) (x:Str) (v:V),X.N[i]?=some x->σ[i]?=some (some v)->Vis X.env.scope x->∃u,cA v u/\Look X.env s.heap m x u
 cell:∀x c,X.env.cells.lookup x=some c->∃v,s.heap.IsCell c v
 free:H X.env.locals=none
 ju:∀x c,X.env.cells.lookup x=some c->H c=none
 pin:∀p∈X.pn++ao,s.heap.get? p.1=some p.2/\H p.1=none/\p.1≠X.env.locals/\p.1∉X.fs/\∀v,p.2.data≠.cell v
 hok:jh X.prog X.w H s.heap
 len:σ.length=X.N.length
section
variable {X:Cx}{ao:AC}{σ:List (Option V)}{H H':Hp}{s:Shared}{h':Heap}
theorem Cx.Ok.ahF (ok:X.Ok){b:Addr}{o:Obj}(e:X.base.get? b=some o):b∉X.fs:=λhb=>by
 have:=(ok.ni.mem hb).1;rw[e]at this;cases this
theorem aL.bs (I:aL X ao σ H s):∀b o,X.base.get? b=some o->s.heap.get? b=some o/\H b=none:=λb o e=>
 ⟨I.base.keep b o (I.ok.bs b o e).1 (I.ok.bs b o e).2 (I.ok.ahF e) (I.ok.wO b o e),I.base.free b o (I.ok.bs b o e).1 (I.ok.bs b o e).2 (I.ok.wO b o e)⟩
theorem aL.bk (I:aL X ao σ H s):∀b o,X.base.get? b=some o->s.heap.get? b=some o:=λb o e=>(I.bs b o e).1
theorem aL.mod (I:aL X ao σ H s):Mod X.K X.mg X.base:=I.ok.mod
theorem aL.gO (I:aL X ao σ H s):X.K.In s.heap:=I.ok.mod.Hg.keeps I.bk
theorem aL.lt (I:aL X ao σ H s):X.env.locals < s.heap.objs.size:=let ⟨_,hn,_⟩:=I.loc;hn.lt
theorem aL.sz (I:aL X ao σ H s):X.s₀.heap.objs.size<=s.heap.objs.size:=cq I.ok.above (aT I.lt)
theorem aL.ahG (I:aL X ao σ H s){a:Addr}(h:s.heap.objs.size<=a):a∉X.fs:=λhb=>by
 obtain⟨_,o,ho,_⟩:=I.ok.ni.mem hb;exact absurd (b9 (ax ho) (cq I.sz h)) (dP _)
theorem aL.Hh (I:aL X ao σ H s):∀x c,X.env.cells.lookup x=some c->c≠X.env.locals:=λx c e z=>by
 obtain⟨v,o,ho,hd⟩:=I.cell x c e;obtain⟨m,⟨o',es,ep,ho',hd',_⟩,_⟩:=I.loc;rw[z,ho']at ho;cases ho;rw[hd']at hd;cases hd
theorem aL.ni (I:aL X ao σ H s):s.heap.FunFrames X.base X.outer:=by
 have all:∀(l:List Env),(∀b∈frs l,b∈X.fs)->X.s₀.heap.FunFrames X.base l->s.heap.FunFrames X.base l:=by
  intro l
  induction l with
  | nil=>intro _ _;trivial
  | cons env r ih=>
   intro hs hl;obtain⟨hk,⟨L,o,hf,hn,ho,hd⟩,hr⟩:=hl;have hL:L∈X.fs:=hs L (by unfold frs;rw[i7,hf];exact bq);obtain⟨sl,e⟩:=I.base.slot L o ho (I.ok.Bc L hL) hL λz=>I.ok.Fx L z hL;exact⟨hk,⟨L,_,hf,hn,e,hd⟩,ih (λb hb=>hs b (by unfold frs;rw[i7,hf];exact a_ _ hb)) hr⟩
 exact all X.outer (λ_ hb=>hb) I.ok.ni
theorem aL.stack (I:aL X ao σ H s):s.heap.FunFrames X.base X.stack:=by
 rcases I.ok.stk with e | ⟨e,hf⟩
 ·rw[e];exact I.ni
 ·rw[e]
  obtain⟨m,hn,_⟩:=I.loc;refine .cons (by rw[I.ok.kind];decide) hf hn ?_ I.ni;exact Heap.get?_none_of_le (cq I.ok.sE I.ok.above)
theorem aL.xR (I:aL X ao σ H s):∀b∈frs X.stack,b∈X.env.locals::X.fs:=λb hb=>by
 rcases I.ok.stk with e | ⟨e,hf⟩
 ·rw[e]at hb;exact a_ _ hb
 ·rw[e]at hb
  unfold frs at hb;rw[i7,hf]at hb;exact hb
theorem aL.qg (I:aL X ao σ H s):∀b∈frs X.stack,H b=none:=λb hb=>by
 rcases bo.mp (I.xR b hb) with e | hb
 ·rw[e];exact I.free
 ·obtain⟨_,o,ho,_⟩:=I.ok.ni.mem hb
  exact I.base.free b o ho (I.ok.Bc b hb) λz=>I.ok.Fx b z hb
theorem aL.step {g':Array GenState}{t':Nat}{d':Drawn}{ch:List Addr}(I:aL X ao σ H s)
  (hch:∀b∈ch,(b∈X.ex\/X.s₀.heap.objs.size<=b)/\b≠X.env.locals/\(∀x c,X.env.cells.lookup x=some c->c≠b)/\∀p∈X.pn++ao,p.1≠b)
  (keep:∀b o,b≠X.env.locals->b∉X.fs->b∉ch->s.heap.get? b=some o->H b=none->h'.get? b=some o)
  (slot:∀b o,b≠X.env.locals->b∈X.fs->b∉ch->s.heap.get? b=some o->H b=none->∃sl,h'.get? b=some { o with slots:=sl }) (free:∀b o,b∉ch->s.heap.get? b=some o->H b=none->H' b=none)
  (there:∀b o,b∉ch->s.heap.get? b=some o->∃o',h'.get? b=some o')
  (tups:∀b xs,H b=some (.tup xs)->H' b=some (.tup xs)) (lG:∀b o u,H b=some (.nC o u)->H' b=some (.nC o u)) (lV:∀b ps,H b=some (.Ks ps)->∃more,H' b=some (.Ks (ps++more)))
  (ns:∀m,s.heap.Ns X.env.locals m->h'.Ns X.env.locals m) (hok:jh X.prog X.w H' h') (hg:AllBare g') :
  aL X ao σ H' { s with heap:=h',gens:=g',drawn:=d',toks:=t' }:=by
 have neL:∀b o,X.s₀.heap.get? b=some o->b≠X.env.locals:=λb o e=>ba (b9 (ax e) I.ok.above);have sI:∀b o,X.s₀.heap.get? b=some o->b∉X.ex->b∉ch:=λb o e hx hb=>by
  rcases(hch b hb).1 with z | z
  ·exact hx z
  ·exact absurd (b9 (ax e) z) (dP _)
 have cellK:∀x c,X.env.cells.lookup x=some c->∀v,s.heap.IsCell c v->h'.IsCell c v:=λx c e v ⟨o,ho,hd⟩=>by
  have Ww:c∉ch:=λz=>(hch c z).2.2.1 x c e rfl;by_cases hc:c∈X.fs
  ·obtain⟨sl,q⟩:=slot c o (I.Hh x c e) hc Ww ho (I.ju x c e)
   exact⟨_,q,hd⟩
  ·exact⟨o,keep c o (I.Hh x c e) hc Ww ho (I.ju x c e),hd⟩
 refine⟨I.ok,I.os,hg,⟨λb o e n hb hx=>?_,λb o e n hb hx=>?_,λb o e n hx=>?_,λb o e hx=>?_,λb xs e=>tups b xs (I.base.tups b xs e),λb o xs e=>lG b o xs (I.base.lG b o xs e),λb ps e=>?_⟩,?_,λx c e=>?_,?_,λx c e=>?_,λp hp=>?_,hok,I.len⟩
 ·exact keep b o (neL b o e) hb (sI b o e hx) (I.base.keep b o e n hb hx) (I.base.free b o e n hx)
 ·obtain⟨sl,e1⟩:=I.base.slot b o e n hb hx
  obtain⟨sl',e2⟩:=slot b _ (neL b o e) hb (sI b o e hx) e1 (I.base.free b o e n hx);exact⟨sl',e2⟩
 ·obtain⟨o',e1⟩:=I.base.there b o e hx
  exact free b o' (sI b o e hx) e1 (I.base.free b o e n hx)
 ·obtain⟨o',e1⟩:=I.base.there b o e hx
  exact there b o' (sI b o e hx) e1
 ·obtain⟨m1,e1⟩:=I.base.lV b ps e
  obtain⟨m2,e2⟩:=lV b _ e1;exact⟨m1++m2,by rw[e2,Array.append_assoc]⟩
 ·obtain⟨m,hn,hl⟩:=I.loc
  refine⟨m,ns m hn,λi x v e1 e2 e3=>?_⟩;obtain⟨u,r,l⟩:=hl i x v e1 e2 e3;refine⟨u,r,?_⟩;rcases l with l | ⟨k,c,e,z⟩
  ·exact .inl l
  ·exact .inr ⟨k,c,e,cellK x c e _ z⟩
 ·obtain⟨v,z⟩:=I.cell x c e
  exact⟨v,cellK x c e v z⟩
 ·obtain⟨m,⟨o,_,_,ho,_⟩,_⟩:=I.loc
  exact free _ o (λz=>(hch _ z).2.1 rfl) ho I.free
 ·obtain⟨v,o,ho,hd⟩:=I.cell x c e
  exact free c o (λz=>(hch c z).2.2.1 x c e rfl) ho (I.ju x c e)
 ·obtain⟨e,n,ne,nf,d⟩:=I.pin p hp
  have Ww:p.1∉ch:=λz=>(hch p.1 z).2.2.2 p hp rfl;exact⟨keep p.1 p.2 ne nf Ww e n,free p.1 p.2 Ww e n,ne,nf,d⟩
theorem aL.un {t':Nat}(I:aL X ao σ H s)(u:Un X.fs [] H H' s.heap h')(hok:jh X.prog X.w H' h'):aL X ao σ H' { s with heap:=h',toks:=t' }:=by
 obtain⟨m,⟨o,es,ep,ho,r⟩,_⟩:=id I.loc;obtain⟨sl,hL⟩:=u.any ho I.free (by simp);exact I.step (g':=s.gens) (d':=s.drawn) (ch:=[]) (λ_ z=>nomatch z) (λb o _ hb _ e n=>u.keep b o e n hb (by simp)) (λb o _ hb _ e n=>u.slot b o e n hb (by simp)) (λb o _ e n=>u.free b o e n (by simp)) (λb o _ e=>u.there b o e (by simp)) u.tups u.lG u.lV (λm' hm=>by
  obtain⟨o',es',ep',ho',r'⟩:=hm;rw[ho]at ho';cases ho';exact⟨_,es',ep',hL,r'⟩) hok I.bare
theorem aL.call {g':Array GenState}{t':Nat}{d':Drawn}{ch:List Addr}(I:aL X ao σ H s)(u:Un (frs X.stack) ch H H' s.heap h')(hok:jh X.prog X.w H' h')(hg:AllBare g')
  (hch:∀b∈ch,(b∈X.ex\/X.s₀.heap.objs.size<=b)/\b≠X.env.locals/\(∀x c,X.env.cells.lookup x=some c->c≠b)/\∀p∈X.pn++ao,p.1≠b) :
  aL X ao σ H' { s with heap:=h',gens:=g',drawn:=d',toks:=t' }:=by
 obtain⟨m,⟨o,es,ep,ho,r⟩,_⟩:=id I.loc;obtain⟨sl,hL⟩:=u.any ho I.free λz=>(hch _ z).2.1 rfl;exact I.step (ch:=ch) hch (λb o hL hb hc e n=>u.keep b o e n (λz=>(bo.mp (I.xR b z)).elim hL hb) hc) (λb o _ _ hc e n=>u.any e n hc) (λb o hc e n=>u.free b o e n hc) (λb o hc e=>u.there b o e hc) u.tups u.lG u.lV (λm' hm=>by
  obtain⟨o',es',ep',ho',r'⟩:=hm;rw[ho]at ho';cases ho';exact⟨_,es',ep',hL,r'⟩) hok hg
theorem aL.turned {t':Nat}{it:Addr}(I:aL X ao σ H s)(k:∀b o,b≠it->s.heap.get? b=some o->h'.get? b=some o)(hn:H it=none)(hL:it≠X.env.locals)
  (h1:it∈X.ex\/X.s₀.heap.objs.size<=it) (h2:∀x c,X.env.cells.lookup x=some c->c≠it) (h3:∀p∈X.pn++ao,p.1≠it):aL X ao σ H { s with heap:=h',toks:=t' }:=by
 have Wx:∀b u,H b=some u->b≠it:=λb u e z=>by rw[z,hn]at e;cases e
 refine I.step (g':=s.gens) (d':=s.drawn) (ch:=[it]) (λb hb=>?_) (λb o _ _ hc e _=>k b o (λz=>hc (by simp[z])) e) (λb o _ _ hc e _=>⟨o.slots,k b o (λz=>hc (by simp[z])) e⟩) (λ_ _ _ _ n=>n)
  (λb o hc e=>⟨o,k b o (λz=>hc (by simp[z])) e⟩) (λ_ _ e=>e) (λ_ _ _ e=>e) (λb ps e=>⟨#[],by rw[e];simp⟩) (λm hm=>?_) (λb u e=>?_) I.bare
 ·have e:b=it:=by simpa using hb
  subst e;exact⟨h1,hL,h2,h3⟩
 ·obtain⟨o,es,ep,ho,r⟩:=hm
  exact⟨o,es,ep,k _ o (f7 hL) ho,r⟩
 ·refine(I.hok b u e).stay (λc v hc q=>k c v ?_ q) (λ_ q=>q) λ_ _ q=>q
  rcases hc with z | z
  ·rw[z];exact Wx b u e
  ·exact Wx c _ z
theorem aL.tok (I:aL X ao σ H s)(t:Nat):aL X ao σ H { s with toks:=t }:=I.un (h':=s.heap) (t':=t) Un.refl I.hok
theorem aL.kept {t':Nat}(I:aL X ao σ H s)(k:∀b u,s.heap.get? b=some u->h'.get? b=some u):aL X ao σ H { s with heap:=h',toks:=t' }:=I.un (Un.kept k) (I.hok.kept k)
theorem aL.laid {a:Addr}{o:HO}{t':Nat}(I:aL X ao σ H s)(k:∀b u,s.heap.get? b=some u->h'.get? b=some u)(hp:s.heap.objs.size<=a)(new:dH X.prog X.w (upd H a o) h' a o) :
  aL X ao σ (upd H a o) { s with heap:=h',toks:=t' }:=I.un (Un.laid k hp (I.hok.fresh hp)) (I.hok.laid k hp new)
theorem aL.write {x e:Addr}{o:HO}{t':Nat}(I:aL X ao σ H s)(mu:Wt (H x))(he:e=x\/H e=some (.own x))(k:∀b u,b≠e->s.heap.get? b=some u->h'.get? b=some u)(heo:∃u,h'.get? e=some u)
  (new:dH X.prog X.w (upd H x o) h' x o):aL X ao σ (upd H x o) { s with heap:=h',toks:=t' }:=I.un (Un.write mu he k heo) (I.hok.write mu he k heo new)
theorem aL.RN {DX:AC}(I:aL X ao σ H s)(h:∀p∈DX,s.heap.get? p.1=some p.2/\H p.1=none/\p.1≠X.env.locals/\p.1∉X.fs/\∀v,p.2.data≠.cell v):aL X DX σ H s:=
 ⟨I.ok,I.os,I.bare,I.base,I.loc,I.cell,I.free,I.ju,λp hp=>(a8.mp hp).elim (λz=>I.pin p (kG _ z)) (h p),I.hok,I.len⟩
theorem Fy {N:List Str}(hN:N.Nodup){i j:Nat}{x:Str}(a:N[i]?=some x)(b:N[j]?=some x):i=j:=by
 obtain⟨h1,e1⟩:=af.mp a;obtain⟨h2,e2⟩:=af.mp b;exact(my hN).mp (e1.trans e2.symm)
theorem Kv {M:Model}{A:Around}{E:AB}{i:Nat}{x:Str}{v:V}{u:Value}{Q:Unit->Shared->Prop}(I:aL X ao σ H s)(hN:X.N.Nodup)(hi:X.N[i]?=some x)(hx:Loc X.env.scope x)(r:cA v u)
  (h:∀s',aL X ao (σ.set i (some v)) H s'->(∃a,Heap.SameBut a s.heap s'.heap/\(a=X.env.locals\/X.env.cells.lookup x=some a))->Q () s') (hf:X.fn x=true\/X.env.scope.names.lookup x=some .local:=by first | exact .inl rfl | exact .inr rfl | assumption):wpAny M A (storeName X.env x u) Q E s:=by
 obtain⟨m,hn,hl⟩:=id I.loc;have hcls:(X.env.scope.kind == .class||(X.env.scope.kind == .module&&X.env.locals != X.env.globals))=false:=by rw[I.ok.kind];rfl
 have hiσ:i < σ.length:=by rw[I.len];exact(af.mp hi).1
 have Hh:=I.Hh;have tracked:∀{a:Addr} {h':Heap},(∃o,s.heap.get? a=some o/\H a=none)->Heap.SameBut a s.heap h'->jh X.prog X.w H h':=λ{a h'} ha hs b ob e=>by
  obtain⟨_,_,hfree⟩:=ha;refine(I.hok b ob e).stay (λc w' hc q=>(hs.2 c ?_).trans q) (λ_ q=>q) λ_ _ q=>q;rintro rfl;rcases hc with rfl | hc
  ·rw[hfree]at e;cases e
  ·rw[hfree]at hc;cases hc
 rcases hx with hk | hk
 ·refine wpAny_storeName_local hk hn (λh' hn' hs=>?_) hcls
  obtain⟨oL,_,_,hoL,_⟩:=id hn;refine h _ ⟨I.ok,I.os,I.bare,⟨λb o e n hb hx=>?_,λb o e n hb hx=>?_,I.base.free,λb o e hx=>?_,I.base.tups,I.base.lG,I.base.lV⟩,⟨_,hn',λj y v' e1 e2 e3=>?_⟩,λy c e=>?_,I.free,I.ju,λp hp=>?_,tracked ⟨oL,hoL,I.free⟩ hs,by simpa using I.len⟩ ⟨_,hs,.inl rfl⟩
  ·exact(hs.2 b (ba (b9 (ax e) I.ok.above))).trans (I.base.keep b o e n hb hx)
  ·obtain⟨sl,e1⟩:=I.base.slot b o e n hb hx
   exact⟨sl,(hs.2 b (ba (b9 (ax e) I.ok.above))).trans e1⟩
  ·obtain⟨o',e1⟩:=I.base.there b o e hx
   exact⟨o',(hs.2 b (ba (b9 (ax e) I.ok.above))).trans e1⟩
  ·by_cases hj:j=i
   ·subst hj
    rw[hi]at e1;cases e1;rw[dC hiσ]at e2;cases e2;exact⟨u,r,.inl ⟨hk,by simp⟩⟩
   ·rw[dS (f7 hj)]at e2
    obtain⟨u',r',q⟩:=hl j y v' e1 e2 e3;refine⟨u',r',?_⟩;rcases q with⟨k,e⟩ | ⟨k,c,e,z⟩
    ·refine .inl ⟨k,?_⟩
     have:y≠x:=λe=>hj (Fy hN e1 (e ▸ hi));simp[this,e]
    ·exact .inr ⟨k,c,e,z.sameBut hs (Hh y c e)⟩
  ·obtain⟨w',z⟩:=I.cell y c e
   exact⟨w',z.sameBut hs (Hh y c e)⟩
  ·obtain⟨e,n,ne,nf,d⟩:=I.pin p hp
   exact⟨(hs.2 p.1 ne).trans e,n,ne,nf,d⟩
 ·have hfn:X.fn x=true:=by
   rcases hf with z | z
   ·exact z
   ·rw[z]at hk;cases hk
  obtain⟨c,hc⟩:=I.ok.has x (.inl hk);obtain⟨w',z⟩:=I.cell x c hc;refine wpAny_storeName_cell I.ok.kind hk hc z (λh' hc' hs=>?_);obtain⟨oc,hoc,ahH⟩:=id z;refine h { s with heap:=h' } ⟨I.ok,I.os,I.bare,⟨λb o e n hb hx=>?_,λb o e n hb hx=>?_,I.base.free,λb o e hx=>?_,I.base.tups,I.base.lG,I.base.lV⟩,⟨m,hn.sameBut hs (f7 (Hh x c hc)),λj y v' e1 e2 e3=>?_⟩,λy c' e=>?_,I.free,I.ju,λp hp=>?_,tracked ⟨oc,hoc,I.ju x c hc⟩ hs,by simpa using I.len⟩ ⟨c,hs,.inr hc⟩
  ·exact(hs.2 b (ba (b9 (ax e) (I.ok.cab x c hfn hc)))).trans (I.base.keep b o e n hb hx)
  ·obtain⟨sl,e1⟩:=I.base.slot b o e n hb hx
   exact⟨sl,(hs.2 b (ba (b9 (ax e) (I.ok.cab x c hfn hc)))).trans e1⟩
  ·obtain⟨o',e1⟩:=I.base.there b o e hx
   exact⟨o',(hs.2 b (ba (b9 (ax e) (I.ok.cab x c hfn hc)))).trans e1⟩
  ·by_cases hj:j=i
   ·subst hj
    rw[hi]at e1;cases e1;rw[dC hiσ]at e2;cases e2;exact⟨u,r,.inr ⟨.inl hk,c,hc,hc'⟩⟩
   ·rw[dS (f7 hj)]at e2
    obtain⟨u',r',q⟩:=hl j y v' e1 e2 e3;refine⟨u',r',?_⟩;rcases q with q | ⟨k,c',e,z'⟩
    ·exact .inl q
    ·refine .inr ⟨k,c',e,z'.sameBut hs ?_⟩
     rintro rfl;exact hj (Fy hN e1 (I.ok.inj _ _ _ e hc ▸ hi))
  ·by_cases hcc:c'=c
   ·subst hcc;exact⟨_,hc'⟩
   ·obtain⟨w2,z2⟩:=I.cell y c' e
    exact⟨w2,z2.sameBut hs hcc⟩
  ·obtain⟨e,n,ne,nf,d⟩:=I.pin p hp
   refine⟨(hs.2 p.1 ?_).trans e,n,ne,nf,d⟩;intro q;rw[q,hoc]at e;have q':oc=p.2:=aw e;exact d w' (by rw[<- q'];exact ahH)
theorem yI {M:Model}{A:Around}{E:AB}{i:Nat}{x:Str}{v:V}{u:Value}{Q:Unit->Shared->Prop}(I:aL X ao σ H s)(hN:X.N.Nodup)(hi:X.N[i]?=some x)(hx:Loc X.env.scope x)(r:cA v u)
  (h:∀s',aL X ao (σ.set i (some v)) H s'->Q () s') (hf:X.fn x=true\/X.env.scope.names.lookup x=some .local:=by first | exact .inl rfl | exact .inr rfl | assumption):wpAny M A (storeName X.env x u) Q E s:=
 Kv I hN hi hx r (λs' I' _=>h s' I') hf
theorem aL.call' {s':Shared}{ch:List Addr}(I:aL X ao σ H s)(ho:s'.os=s.os)(u:Un (frs X.stack) ch H H' s.heap s'.heap)(hok:jh X.prog X.w H' s'.heap)(hg:AllBare s'.gens)
  (hch:∀b∈ch,(b∈X.ex\/X.s₀.heap.objs.size<=b)/\b≠X.env.locals/\(∀x c,X.env.cells.lookup x=some c->c≠b)/\∀p∈X.pn++ao,p.1≠b):aL X ao σ H' s':=by
 obtain⟨h',g',d',t',o'⟩:=s';have e:o'=s.os:=ho;subst e;exact I.call (g':=g') (t':=t') (d':=d') u hok hg hch
end
abbrev XK:=Value->Option Addr->Hp->Prop
abbrev St:=List (Option V)
abbrev VK:=V->Hp->Prop
abbrev TE:=St->Hp->VK->Prop
abbrev TT:=St->Hp->(Bool->Hp->Prop)->Prop
abbrev TA:=St->Hp->(List V->Hp->Prop)->Prop
structure Ends where
 nx:St->Hp->Prop
 rt:VK
 bk:St->Hp->Prop:=λ_ _=>False
 ct:St->Hp->Prop:=λ_ _=>False
abbrev TS:=Ends->St->Hp->Prop
def EP (X:Cx)(ao:AC)(σ:St)(Q:VK)(u:Value)(s':Shared):Prop:=∃v H',aL X ao σ H' s'/\cA v u/\Q v H'
def TP (X:Cx)(ao:AC)(σ:St)(Q:Bool->Hp->Prop)(b:Bool)(s':Shared):Prop:=∃H',aL X ao σ H' s'/\Q b H'
def AP (X:Cx)(ao:AC)(σ:St)(Q:List V->Hp->Prop)(us:List Value)(s':Shared):Prop:=∃vs H',aL X ao σ H' s'/\Vals vs us/\Q vs H'
def SP (X:Cx)(ao:AC)(D:Ends)(f:Flow)(s':Shared):Prop:=
 match f with
 | .next=>∃σ' H',aL X ao σ' H' s'/\D.nx σ' H'
 | .brk=>∃σ' H',aL X ao σ' H' s'/\D.bk σ' H'
 | .cont=>∃σ' H',aL X ao σ' H' s'/\D.ct σ' H'
 | .ret u=>∃v σ' H',aL X ao σ' H' s'/\cA v u/\D.rt v H'
def PE (X:Cx)(e:Expr)(t:TE):Prop:=
 ∀(ao:AC) (s:Shared) (σ:St) (H:Hp) (Q:VK),aL X ao σ H s->t σ H Q->wpAny (model X.prog X.w) X.A (eval e X.env) (EP X ao σ Q) X.xe s
def PT (X:Cx)(e:Expr)(t:TT):Prop:=
 ∀(ao:AC) (s:Shared) (σ:St) (H:Hp) (Q:Bool->Hp->Prop),aL X ao σ H s->t σ H Q->wpAny (model X.prog X.w) X.A (isTrue e X.env (eval e X.env)) (TP X ao σ Q) X.xe s
def PW (X:Cx)(e:Expr)(t:TT):Prop:=
 ∀(whole:Sem Value) (ao:AC) (s:Shared) (σ:St) (H:Hp) (Q:Bool->Hp->Prop),aL X ao σ H s->t σ H Q->wpAny (model X.prog X.w) X.A (isTrue e X.env whole) (TP X ao σ Q) X.xe s
theorem PW.pt {X:Cx}{e:Expr}{t:TT}(h:PW X e t):PT X e t:=h _
def PA (X:Cx)(es:List Expr)(t:TA):Prop:=
 ∀(pos:Pos) (ao:AC) (s:Shared) (σ:St) (H:Hp) (Q:List V->Hp->Prop),aL X ao σ H s->t σ H Q->wpAny (model X.prog X.w) X.A (spliced (backTo pos (starEach es X.env))) (AP X ao σ Q) X.xe s
def PS (X:Cx)(st:Stmt)(t:TS):Prop:=
 ∀(ao:AC) (s:Shared) (σ:St) (H:Hp) (D:Ends),aL X ao σ H s->t D σ H->wpAny (model X.prog X.w) X.A (exec st X.env) (SP X ao D) X.xe s
def sJ (X:Cx)(st:List Stmt)(t:TS):Prop:=
 ∀(ao:AC) (s:Shared) (σ:St) (H:Hp) (D:Ends),aL X ao σ H s->t D σ H->wpAny (model X.prog X.w) X.A (execs st X.env) (SP X ao D) X.xe s
theorem bR {α:Type}{t:Sem α}{Q Q':α->Shared->Prop}{M:Model}{A:Around}{E:AB}{s:Shared}(h:wpAny M A t Q E s)(hQ:∀a s,Q a s->Q' a s):wpAny M A t Q' E s:=dA h hQ λ_ _ x=>x
section
variable {X:Cx}
def iz (i:Nat):TE:=λσ H Q=>∃v,σ[i]?=some (some v)/\Q v H
def tC (v:V):TE:=λ_ H Q=>Q v H
theorem aeN {i:Nat}{x:Str}{pos:Pos}(hN:X.N[i]?=some x)(hv:Vis X.env.scope x)(hd:(x==("__debug__":Str))=false:=by decide)(hcd:(x==("__classdict__":Str))=false:=by decide):PE X (.Name x pos) (iz i):=by
 intro ao s σ H Q I h;obtain⟨v,e,h⟩:=h;obtain⟨m,hn,hl⟩:=I.loc;obtain⟨u,r,l⟩:=hl i x v hN e hv;have fin:EP X ao σ Q u s:=⟨v,H,I,r,h⟩
 rcases l with⟨hk,hm⟩ | ⟨hk,c,hc,hcell⟩
 ·exact wpAny_Name (wpAny_loadName_local I.ok.kind hk hn hm fin) hd
 ·rcases hk with hk | hk
  ·exact wpAny_Name (wpAny_loadName_cell I.ok.kind hk hc hcell fin) hd
  ·exact wpAny_Name (wpAny_loadName_free I.ok.kind hk hc hcell fin hcd) hd
theorem aeO {i j pos}:PE X (.Constant (.int i) j pos) (tC (.int i)):=λ_ _ _ H _ I h=>wpAny_Constant_int ⟨.int i,H,I.tok _,⟨_,rfl⟩,h⟩
theorem ag7 {b j pos}:PE X (.Constant (.bool b) j pos) (tC (.bl b)):=λ_ _ _ H _ I h=>Constant_bool ⟨.bl b,H,I,rfl,h⟩
theorem aeP {j pos}:PE X (.Constant .none j pos) (tC .non):=λ_ _ _ H _ I h=>Constant_none ⟨.non,H,I,rfl,h⟩
theorem aeQ {x j pos}:PE X (.Constant (.str x) j pos) (tC (.str x)):=λ_ _ _ H _ I h=>Calls.Constant_str ⟨.str x,H,I.tok _,⟨_,rfl⟩,h⟩
def Gl (X:Cx)(x:Str):Prop:=X.env.kindOf x=some .globalImplicit
theorem oJ {E:AB}{ao:AC}{s:Shared}{σ:St}{H:Hp}{x:Str}{u:Value}{pos:Pos}{Q:AB}(I:aL X ao σ H s)(hg:Gl X x)(hm:X.mg x=some u)(h:Q u s)
  (hd:(x==("__debug__":Str))=false:=by decide):wpAny (model X.prog X.w) X.A (eval (.Name x pos) X.env) Q E s:=
 Calls.Name_function_global I.ok.kind hg (Calls.loadGlobal_global (by rw[I.ok.glob];exact I.mod.glob.keeps I.bk) hm h) hd
theorem xT {E:AB}{ao:AC}{s:Shared}{σ:St}{H:Hp}{x:Str}{u:Value}{pos:Pos}{Q:AB}(I:aL X ao σ H s)(hg:Gl X x)(hm:X.mg x=none)(hv:bootBuiltins x=some u)(h:Q u s)
  (hn:x≠"__name__":=by decide) (hd:(x==("__debug__":Str))=false:=by decide):wpAny (model X.prog X.w) X.A (eval (.Name x pos) X.env) Q E s:=by
 obtain⟨mb,h1,h2⟩:=I.mod.blt;exact Calls.Name_function_global I.ok.kind hg (Calls.loadGlobal_builtin (by rw[I.ok.glob];exact I.mod.glob.keeps I.bk) hm (by rw[I.ok.blt];exact h1.keeps I.bk) ((h2 x hn).trans hv) h) hd
theorem acV {x:Str}{v:V}{u:Value}{pos:Pos}(hg:Gl X x)(hm:X.mg x=some u)(r:cA v u)(hd:(x==("__debug__":Str))=false:=by decide):PE X (.Name x pos) (tC v):=
 λ_ _ _ H _ I h=>oJ I hg hm ⟨v,H,I,r,h⟩ hd
theorem acW {x:Str}{v:V}{u:Value}{pos:Pos}(hg:Gl X x)(hm:X.mg x=none)(hv:bootBuiltins x=some u)(r:cA v u)(hn:x≠"__name__":=by decide)(hd:(x==("__debug__":Str))=false:=by decide):PE X (.Name x pos) (tC v):=
 λ_ _ _ H _ I h=>xT I hg hm hv ⟨v,H,I,r,h⟩ hn hd
variable {a b:Expr}{ta tb:TE}{pos:Pos}
def PC (X:Cx)(op:CmpOp)(a b:Expr)(t:TE):Prop:=
 ∀(ao:AC) (s:Shared) (σ:St) (H:Hp) (Q:VK),aL X ao σ H s->t σ H Q->
  wpAny (model X.prog X.w) X.A (eval a X.env) (λv s₁=>wpAny (model X.prog X.w) X.A (eval b X.env) (λu s₂=>wpAny (model X.prog X.w) X.A (compareOp op v u) (EP X ao σ Q) X.xe s₂) X.xe s₁) X.xe s
def tB (t:TE):TT:=λσ H Q=>t σ H λx H1=>∃c,x=.bl c/\Q c H1
theorem aeR {op:CmpOp}{t:TE}(h:PC X op a b t)(h1:behindInMarks op b=false:=by first | exact aag _ (by decide) (by decide) | rfl):PE X (.Compare a [op] [b] pos) t:=λao s σ H Q I hw=>wpAny_Compare1 (h ao s σ H Q I hw) h1
theorem aeS {e:Expr}{t:TE}(h:PE X e t)(he:∀whole,isTrue e X.env whole=(do let v <- whole;standAt e.pos;holding [v] (truthy v)):=by intro _;rfl):PT X e (tB t):=by
 intro ao s σ H Q I hw;refine isTrue_plain (bR (h ao s σ H _ I hw) λv s1 zz=>?_) (he _);obtain⟨x,H1,I1,r1,q1⟩:=zz;obtain⟨d,rfl,q⟩:=q1;cases r1;exact ed ⟨H1,I1,q⟩
variable {tA nD:TT}{rest:List Expr}
def aeT (t u:TT):TT:=λσ H Q=>t σ H λc H1=>if c=true then u σ H1 Q else Q false H1
def tOr (t u:TT):TT:=λσ H Q=>t σ H λc H1=>if c=true then Q true H1 else u σ H1 Q
def aeU (t:TT):TT:=λσ H Q=>t σ H λc H1=>Q (!c) H1
theorem acX (ha:PT X a tA):PW X (.BoolOp .And [a] pos) tA:=by
 intro wh ao s σ H Q I h;refine isTrue_and (bR (ha ao s σ H Q I h) λc s1 e=>?_);cases c with
 | true=>exact isTrue_and_nil e
 | false=>exact e
theorem aeV (ha:PT X a tA):PW X (.BoolOp .Or [a] pos) tA:=by
 intro wh ao s σ H Q I h;refine isTrue_or (bR (ha ao s σ H Q I h) λc s1 e=>?_);cases c with
 | false=>exact isTrue_or_nil e
 | true=>exact e
theorem aeW (ha:PT X a tA)(hb:PW X (.BoolOp .And (b::rest) pos) nD):PW X (.BoolOp .And (a::b::rest) pos) (aeT tA nD):=by
 intro wh ao s σ H Q I h;refine isTrue_and (bR (ha ao s σ H _ I h) λc s1 zz=>?_);obtain⟨H1,I1,q1⟩:=zz;cases c with
 | true=>exact hb wh ao s1 σ H1 Q I1 q1
 | false=>exact⟨H1,I1,q1⟩
theorem ag8 (ha:PT X a tA)(hb:PW X (.BoolOp .Or (b::rest) pos) nD):PW X (.BoolOp .Or (a::b::rest) pos) (tOr tA nD):=by
 intro wh ao s σ H Q I h;refine isTrue_or (bR (ha ao s σ H _ I h) λc s1 zz=>?_);obtain⟨H1,I1,q1⟩:=zz;cases c with
 | true=>exact⟨H1,I1,q1⟩
 | false=>exact hb wh ao s1 σ H1 Q I1 q1
theorem aeX (ha:PT X a tA):PT X (.UnaryOp .Not a pos) (aeU tA):=by
 intro ao s σ H Q I h;exact isTrue_not (ha ao s σ H (λc H1=>Q (!c) H1) I h)
def acg (ta tb:TE):TE:=λσ H Q=>ta σ H λx H1=>∃c,x=.bl c/\if c=true then tb σ H1 Q else Q (.bl false) H1
def aeY (ta tb:TE):TE:=λσ H Q=>ta σ H λx H1=>∃c,x=.bl c/\if c=true then Q (.bl true) H1 else tb σ H1 Q
def ach (ta:TE):TE:=λσ H Q=>ta σ H λx H1=>∃c,x=.bl c/\Q (.bl (!c)) H1
theorem aeZ {op}{t:TE}(h:PE X a t):PE X (.BoolOp op [a] pos) t:=λao s σ H Q I hw=>BoolOp_one (h ao s σ H Q I hw)
theorem ae0 (ha:PE X a ta)(hb:PE X (.BoolOp .And (b::rest) pos) tb):PE X (.BoolOp .And (a::b::rest) pos) (acg ta tb):=by
 intro ao s σ H Q I h;refine BoolOp_and (bR (ha ao s σ H _ I h) λv s1 zz=>?_);obtain⟨x,H1,I1,r1,q1⟩:=zz;obtain⟨c,rfl,q1⟩:=q1;cases r1;refine ed ?_;cases c with
 | true=>exact hb ao s1 σ H1 Q I1 q1
 | false=>exact⟨.bl false,H1,I1,rfl,q1⟩
theorem ag9 (ha:PE X a ta)(hb:PE X (.BoolOp .Or (b::rest) pos) tb):PE X (.BoolOp .Or (a::b::rest) pos) (aeY ta tb):=by
 intro ao s σ H Q I h;refine BoolOp_or (bR (ha ao s σ H _ I h) λv s1 zz=>?_);obtain⟨x,H1,I1,r1,q1⟩:=zz;obtain⟨c,rfl,q1⟩:=q1;cases r1;refine ed ?_;cases c with
 | false=>exact hb ao s1 σ H1 Q I1 q1
 | true=>exact⟨.bl true,H1,I1,rfl,q1⟩
theorem ae1 (ha:PE X a ta):PE X (.UnaryOp .Not a pos) (ach ta):=by
 intro ao s σ H Q I h;refine UnaryOp_ (bR (ha ao s σ H _ I h) λv s1 zz=>?_);obtain⟨x,H1,I1,r1,q1⟩:=zz;obtain⟨c,rfl,q1⟩:=q1;cases r1;exact not_of (ed ⟨.bl (!c),H1,I1,rfl,q1⟩)
def tIf (t:TT)(ta tb:TE):TE:=λσ H Q=>t σ H λc H1=>if c=true then ta σ H1 Q else tb σ H1 Q
theorem aah {c:Expr}(hc:PT X c tA)(ha:PE X a ta)(hb:PE X b tb):PE X (.IfExp c a b pos) (tIf tA ta tb):=by
 intro ao s σ H Q I h;refine wpAny_IfExp (bR (hc ao s σ H _ I h) λd s1 zz=>?_);obtain⟨H1,I1,q1⟩:=zz;cases d with
 | true=>exact ha ao s1 σ H1 Q I1 q1
 | false=>exact hb ao s1 σ H1 Q I1 q1
end
def aW (K:W.Frag)(H:Hp)(a:Addr)(xs:List V):Prop:=
 Rd H a (.lst xs)\/
  ∃(o:Obj) (its:Array Value) (n:Nat),K.lookup a=some o/\o.cls=.type "list"/\o.dict=none/\o.data=.seq its n/\its.size<=sizeLine/\Vals xs its.toList
def aP (K:W.Frag)(H:Hp)(a:Addr)(xs:List V):Prop:=
 Rd H a (.tup xs)\/
  ∃(o:Obj) (its:Array Value) (n:Nat),K.lookup a=some o/\o.cls=.type "tuple"/\o.data=.seq its n/\its.size<=sizeLine/\Vals xs its.toList
noncomputable def ahI:Value->Option V
 | .none=>some .non
 | .bool b=>some (.bl b)
 | .int i _=>some (.int i)
 | .str x _=>some (.str x)
 | .bytes b _=>some (.Ax b)
 | .float b _=>some (.flt b)
 | .ref a=>some (.ref a)
 | .type n=>some (.ty n)
 | _=>none
theorem cA.abs {x:V}{u:Value}(r:cA x u):ahI u=some x:=by
 cases x with
 | non=>cases r;rfl
 | bl _=>cases r;rfl
 | int _=>obtain⟨t,rfl⟩:=r;rfl
 | str _=>obtain⟨t,rfl⟩:=r;rfl
 | Ax _=>obtain⟨t,rfl⟩:=r;rfl
 | flt _=>obtain⟨t,rfl⟩:=r;rfl
 | ref _=>cases r;rfl
 | ty _=>cases r;rfl
theorem cA.inj {x y:V}{u:Value}(r:cA x u)(q:cA y u):x=y:=aw (r.abs.symm.trans q.abs)
theorem Vals.inj:∀{xs ys:List V} {us:List Value},Vals xs us->Vals ys us->xs=ys
 | _,_,_,.nil,.nil=>rfl
 | _,_,_,.cons r t,.cons r' t'=>by rw[r.inj r',Vals.inj t t']
section
variable {X:Cx}{ao:AC}{σ:St}{H:Hp}{s:Shared}{a:Addr}{xs ys:List V}
theorem aW.of {K:W.Frag}(h:H a=some (.lst xs)):aW K H a xs:=.inl (.inl h)
theorem aP.of {K:W.Frag}(h:H a=some (.tup xs)):aP K H a xs:=.inl (.inl h)
theorem aL.list (I:aL X ao σ H s)(h:aW X.K H a xs):∃its:List Value,Vals xs its/\PlainL s.heap a its.toArray/\xs.length<=sizeLine:=by
 rcases h with h | ⟨o,its,n,hk,hc,hd,hs,hz,r⟩
 ·obtain⟨z,its,n,r,e⟩:=h.ok I.hok
  exact⟨its,r,⟨_,n,e,rfl,rfl,rfl⟩,z⟩
 ·refine⟨its.toList,r,⟨o,n,I.gO a o hk,hc,hd,by simpa using hs⟩,?_⟩
  have e:=r.length;simp only[du]at e;lia
theorem aL.tuple (I:aL X ao σ H s)(h:aP X.K H a xs):∃its:List Value,Vals xs its/\IsTup s.heap a its.toArray/\xs.length<=sizeLine:=by
 rcases h with h | ⟨o,its,n,hk,hc,hs,hz,r⟩
 ·obtain⟨z,its,r,p⟩:=h.ok I.hok
  exact⟨its,r,p,z⟩
 ·refine⟨its.toList,r,⟨o,I.gO a o hk,hc,n,by simpa using hs⟩,?_⟩
  have e:=r.length;simp only[du]at e;lia
theorem aL.Fz (I:aL X ao σ H s)(h:aW X.K H a xs)(h':aW X.K H a ys):xs=ys:=by
 obtain⟨its,r,⟨o,n,e,_,_,d⟩,_⟩:=I.list h;obtain⟨its',r',⟨o',n',e',_,_,d'⟩,_⟩:=I.list h';rw[e]at e';cases e';rw[d]at d';injection d' with d1 _;have:its=its':=by simpa using congrArg Array.toList d1
 subst this;exact r.inj r'
theorem aL.Wy (I:aL X ao σ H s)(h:aP X.K H a xs)(h':aP X.K H a ys):xs=ys:=by
 obtain⟨its,r,⟨o,e,_,n,d⟩,_⟩:=I.tuple h;obtain⟨its',r',⟨o',e',_,n',d'⟩,_⟩:=I.tuple h';rw[e]at e';cases e';rw[d]at d';injection d' with d1 _;have:its=its':=by simpa using congrArg Array.toList d1
 subst this;exact r.inj r'
end
abbrev Cx.wish (X:Cx)(E:AB):Cx:={ X with xe:=E }
abbrev Cx.Ny (X:Cx):Cx:=X.wish λ_ _=>False
theorem Cx.Ok.wish {X:Cx}(ok:X.Ok)(E:AB):(X.wish E).Ok:=
 ⟨ok.mod,ok.kind,ok.glob,ok.blt,ok.above,ok.inj,ok.has,ok.cab,ok.hd,ok.frames,ok.stk,ok.Wv,ok.bs,ok.sE,ok.wO,ok.Fx,ok.ni,ok.Bc⟩
theorem Cx.Ok.qZ {X:Cx}{E:AB}(ok:(X.wish E).Ok):X.Ok:=
 ⟨ok.mod,ok.kind,ok.glob,ok.blt,ok.above,ok.inj,ok.has,ok.cab,ok.hd,ok.frames,ok.stk,ok.Wv,ok.bs,ok.sE,ok.wO,ok.Fx,ok.ni,ok.Bc⟩
section
variable {X:Cx}{ao:AC}{σ:St}{H:Hp}{s:Shared}{E:AB}
variable {st:Stmt}{rest:List Stmt}{t u:TS}{e:Expr}{te:TE}{pos:Pos}
theorem aL.wish (I:aL X ao σ H s)(E:AB):aL (X.wish E) ao σ H s:=⟨I.ok.wish E,I.os,I.bare,I.base,I.loc,I.cell,I.free,I.ju,I.pin,I.hok,I.len⟩
theorem aL.qZ (I:aL (X.wish E) ao σ H s):aL X ao σ H s:=⟨I.ok.qZ,I.os,I.bare,I.base,I.loc,I.cell,I.free,I.ju,I.pin,I.hok,I.len⟩
theorem SP.qZ {D:Ends}{f:Flow}{s':Shared}(h:SP (X.wish E) ao D f s'):SP X ao D f s':=by
 cases f with
 | next=>obtain⟨σ',H',I,q⟩:=h;exact⟨σ',H',I.qZ,q⟩
 | brk=>obtain⟨σ',H',I,q⟩:=h;exact⟨σ',H',I.qZ,q⟩
 | cont=>obtain⟨σ',H',I,q⟩:=h;exact⟨σ',H',I.qZ,q⟩
 | ret u=>obtain⟨v,σ',H',I,r,q⟩:=h;exact⟨v,σ',H',I.qZ,r,q⟩
theorem sJ.Ny {st:List Stmt}{t:TS}(h:sJ X.Ny st t):sJ X st t:=λao s σ H D I hw=>
 dA (h ao s σ H D (I.wish _) hw) (λ_ _ q=>q.qZ) λ_ _ z=>False.elim z
def aci:TS:=λD σ H=>D.nx σ H
def ae2 (t u:TS):TS:=λD σ H=>t { D with nx:=u D } σ H
theorem acY:sJ X [] aci:=λ_ _ σ H _ I h=>kH ⟨σ,H,I,h⟩
theorem aai (h1:PS X st t)(h2:sJ X rest u):sJ X (st::rest) (ae2 t u):=by
 intro ao s σ H D I h;refine wpAny_execs_cons (bR (h1 ao s σ H { D with nx:=u D } I h) λf s1 q=>?_);cases f with
 | next=>
  obtain⟨σ',H',I',q⟩:=q;exact h2 ao s1 σ' H' D I' q
 | ret v=>exact q
 | brk=>exact q
 | cont=>exact q
theorem acZ (h1:PS X st t):sJ X [st] t:=by
 intro ao s σ H D I h;refine wpAny_execs_cons (bR (h1 ao s σ H D I h) λf s1 q=>?_);cases f with
 | next=>exact kH q
 | ret v=>exact q
 | brk=>exact q
 | cont=>exact q
theorem aL.quiet {ao:AC}{σ:St}{H:Hp}{s:Shared}(I:aL X ao σ H s):interactive X.env=false:=by simp[interactive,I.ok.kind]
def acj (te:TE):TS:=λD σ H=>te σ H λ_ H1=>D.nx σ H1
theorem ac0 (he:PE X e te)(hs:swapsWith e none pos.line X.env=pure false:=by rfl):PS X (.Expr e pos) (acj te):=by
 intro ao s σ H D I h;exact wpAny_Expr_any (bR (he ao s σ H _ I h) λv s1 ⟨x,H1,I1,r1,q1⟩=>⟨σ,H1,I1,q1⟩) I.quiet hs
def aaj (te:TE):TS:=λD σ H=>te σ H D.rt
theorem ae3 (he:PE X e te):PS X (.Return (some e) pos) (aaj te):=by
 intro ao s σ H D I h;exact wpAny_Return_some (bR (he ao s σ H _ I h) λv s1 ⟨x,H1,I1,r1,q1⟩=>⟨x,σ,H1,I1,r1,q1⟩)
def ae4 (c:TT)(t u:TS):TS:=λD σ H=>c σ H λb H1=>if b=true then t D σ H1 else u D σ H1
theorem aha {c:Expr}{a b:List Stmt}{tc:TT}(hc:PT X c tc)(ha:sJ X a t)(hb:sJ X b u):PS X (.If c a b pos) (ae4 tc t u):=by
 intro ao s σ H D I h;refine wpAny_If (bR (hc ao s σ H _ I h) λd s1 zz=>?_);obtain⟨H1,I1,q1⟩:=zz;cases d with
 | true=>exact ha ao s1 σ H1 D I1 q1
 | false=>exact hb ao s1 σ H1 D I1 q1
def Wz:TS:=λ_ _ _=>False
theorem WD {sts:List Stmt}:sJ X sts Wz:=λ_ _ _ _ _ _ h=>h.elim
end
abbrev TG:=V->St->Hp->(St->Hp->Prop)->Prop
abbrev Ay:=List V->St->Hp->(St->Hp->Prop)->Prop
def PG (X:Cx)(target:Expr)(t:TG):Prop:=
 ∀(ao:AC) (s:Shared) (σ:St) (H:Hp) (v:V) (u:Value) (Q:St->Hp->Prop),aL X ao σ H s->cA v u->t v σ H Q->
  wpAny (model X.prog X.w) X.A (assign target X.env u) (λ_ s'=>∃σ' H',aL X ao σ' H' s'/\Q σ' H') X.xe s
def WK (X:Cx)(ts:List Expr)(t:Ay):Prop:=
 ∀(ao:AC) (s:Shared) (σ:St) (H:Hp) (vs:List V) (us:List Value) (Q:St->Hp->Prop),aL X ao σ H s->Vals vs us->t vs σ H Q->
  wpAny (model X.prog X.w) X.A (assignInOrder ((assignEach ts X.env).map (·.2)) us) (λ_ s'=>∃σ' H',aL X ao σ' H' s'/\Q σ' H') X.xe s
abbrev Uh:=V->V->V->Hp->(Hp->Prop)->Prop
def aak (X:Cx)(t:Uh):Prop:=
 ∀(ao:AC) (s:Shared) (σ:St) (H:Hp) (o i v:V) (ov iv u:Value) (Q:Hp->Prop),aL X ao σ H s->cA o ov->cA i iv->cA v u->t o i v H Q->
  wpAny (model X.prog X.w) X.A (setItem ov iv u) (λ_ s'=>∃H',aL X ao σ H' s'/\Q H') X.xe s
section
variable {X:Cx}{pos:Pos}
def jz (i:Nat):TG:=λv σ H Q=>Q (σ.set i (some v)) H
theorem jU {i:Nat}{x:Str}(hN:X.N.Nodup)(hi:X.N[i]?=some x)(hx:Loc X.env.scope x)(hf:X.fn x=true\/X.env.scope.names.lookup x=some .local:=by first | exact .inl rfl | exact .inr rfl | assumption):PG X (.Name x pos) (jz i):=by
 intro ao s σ H v u Q I r h;exact lT (yI I hN hi hx r (λs' I'=>⟨_,H,I',h⟩) hf)
def Nz:Ay:=λvs σ H Q=>vs=[]/\Q σ H
def o8 (t:TG)(u:Ay):Ay:=λvs σ H Q=>∃v r,vs=v::r/\t v σ H λσ' H'=>u r σ' H' Q
theorem DY:WK X [] Nz:=by
 intro ao s σ H vs us Q I r h;obtain⟨e,h⟩:=h;subst e;cases r;exact assignInOrder_nil ⟨σ,H,I,h⟩
theorem jK {e:Expr}{es:List Expr}{t:TG}{u:Ay}(h1:PG X e t)(h2:WK X es u)
  (hs:(assignEach (e::es) X.env).map (·.2)=assign e X.env::(assignEach es X.env).map (·.2):=by rfl):WK X (e::es) (o8 t u):=by
 intro ao s σ H vs us Q I r h;obtain⟨v,vr,e1,h⟩:=h;subst e1;cases r with
 | cons r rr=>
  rw[hs];refine assignInOrder_cons (bR (h1 ao s σ H _ _ _ I r h) λ_ s1 zz=>?_);obtain⟨σ1,H1,I1,q1⟩:=zz;exact h2 ao s1 σ1 H1 _ _ Q I1 rr q1
def NK (K:W.Frag)(n:Nat)(t:Ay):TG:=λv σ H Q=>∃a xs,v=.ref a/\aP K H a xs/\xs.length=n/\t xs σ H Q
theorem Hi {es:List Expr}{k:Nat}{t:Ay}{n:Nat}(hc:X.calm=true)(h:WK X es t)
  (hn:(assignEach es X.env).length=n:=by rfl) (hst:(assignEach es X.env).findIdx? (·.1)=none:=by rfl):PG X (.Tuple es k pos) (NK X.K n t):=by
 intro ao s σ H v u Q I r hw;obtain⟨a,xs,e1,hq,hl,hw⟩:=hw;subst e1;cases r;obtain⟨its,rv,ht,hz⟩:=I.tuple hq;refine assign_Tuple_tuple (I.ok.hd hc) ht (by simp[hn,<- hl,rv.length]) hst λh' hx=>?_;have I1:aL X ao σ H { s with heap:=h' }:=I.kept (t':=s.toks) λb o e=>hx b o (ba (ax e)) e;exact h ao _ σ H xs _ Q I1 (by simpa using rv) hw
def ae5 (to ti:TE)(t:Uh):TG:=λv σ H Q=>to σ H λo H1=>ti σ H1 λi H2=>t o i v H2 λH3=>Q σ H3
theorem ae6 {o i:Expr}{to ti:TE}{t:Uh}(ho:PE X o to)(hi:PE X i ti)(hs:aak X t)
  (ha:∀v,assign (.Subscript o i pos) X.env v=(do
   let ov <- holding [v] (eval o X.env)
   let iv <- holding [v,ov] (eval i X.env)
   standAt pos
   holding [v,ov,iv] (setItem ov iv v)
   release [v,ov,iv] []):=by intro _;rfl):PG X (.Subscript o i pos) (ae5 to ti t):=by
 intro ao s σ H v u Q I r h;rw[ha];refine ae (dL (bR (ho ao s σ H _ I h) λov s1 zz=>?_));obtain⟨x,H1,I1,r1,q1⟩:=zz;refine ae (dL (bR (hi ao s1 σ H1 _ I1 q1) λiv s2 zz=>?_));obtain⟨y,H2,I2,r2,q2⟩:=zz;refine ae (iS (ae (dL (bR (hs ao s2 σ H2 x y v ov iv u _ I2 r1 r2 r q2) λ_ s3 zz=>?_))));obtain⟨H3,I3,q3⟩:=zz;exact wpAny_release ⟨σ,H3,I3,q3⟩
def Js (te:TE)(g:TG):TS:=λD σ H=>te σ H λx H1=>g x σ H1 D.nx
theorem ae7 {tg e:Expr}{te:TE}{g:TG}(he:PE X e te)(hg:PG X tg g)(hs:swapsWithSole [tg] e pos.line X.env=pure false:=by rfl)(hw:swappedStores [tg] e X.env=pure none:=by rfl)
  (h1:(assignEach [tg] X.env).map (·.2)=[assign tg X.env]:=by rfl):PS X (.Assign [tg] e pos) (Js te g):=by
 intro ao s σ H D I h;refine wpAny_Assign_stores (bR (he ao s σ H _ I h) λv s1 zz=>?_) hs hw;obtain⟨x,H1,I1,r1,q1⟩:=zz;rw[h1];exact bR (hg ao s1 σ H1 x v _ I1 r1 q1) λ_ s2 q=>q
theorem ae8 {i:Nat}{x:Str}{e:Expr}{te:TE}{pos':Pos}(hN:X.N.Nodup)(hi:X.N[i]?=some x)(hx:Loc X.env.scope x)(he:PE X e te)(hs:swapsWith e (some (.Name x pos')) pos.line X.env=pure false:=by rfl)(hf:X.fn x=true\/X.env.scope.names.lookup x=some .local:=by first | exact .inl rfl | exact .inr rfl | assumption) :
  PS X (.Assign [.Name x pos'] e pos) (Js te (jz i)):=by
 intro ao s σ H D I h;refine wpAny_Assign_Name (bR (he ao s σ H _ I h) λv s1 zz=>?_) hs;obtain⟨y,H1,I1,r1,q1⟩:=zz;exact yI I1 hN hi hx r1 (λs2 I2=>⟨_,H1,I2,q1⟩) hf
def WL (c:TT)(tb:TS):TS:=λD σ H=>∃W:Nat->St->Hp->Prop,(∃m,W m σ H)/\∀m σ H,W m σ H->
 c σ H λb H1=>if b=true then ∃N:St->Hp->Prop,(∀σ' H',N σ' H'->∃m',m' < m/\W m' σ' H')/\tb { D with nx:=N,ct:=N,bk:=D.nx } σ H1 else D.nx σ H1
theorem aal {c:Expr}{body:List Stmt}{tc:TT}{tb:TS}(hp:PassesOwn (model X.prog X.w) X.A X.env X.xe)(hc:PT X c tc)(hb:sJ X body tb):PS X (.While c body [] pos) (WL tc tb):=by
 intro ao s σ H D I h;obtain⟨W,⟨m0,w0⟩,turn⟩:=h;refine wpAny_While (codeAny_whileLoop (λn s'=>∃σ' H',aL X ao σ' H' s'/\W n σ' H') ?_ m0 ⟨σ,H,I,w0⟩);rintro n s1 ⟨σ1,H1,I1,w1⟩;refine gm hp (bR (hc ao s1 σ1 H1 _ I1 (turn n σ1 H1 w1)) λb s2 zz=>?_);obtain⟨H2,I2,q2⟩:=zz;cases b with
 | true=>
  obtain⟨N,hN,q2⟩:=q2;rw[if_pos rfl];refine gm hp (bR (hb ao s2 σ1 H2 _ I2 q2) λf s3 q3=>?_);cases f with
  | next=>
   obtain⟨σ3,H3,I3,n3⟩:=q3;obtain⟨m',hm,w3⟩:=hN σ3 H3 n3;exact⟨m',hm,σ3,H3,I3,w3⟩
  | cont=>
   obtain⟨σ3,H3,I3,n3⟩:=q3;obtain⟨m',hm,w3⟩:=hN σ3 H3 n3;exact⟨m',hm,σ3,H3,I3,w3⟩
  | brk=>exact q3
  | ret v=>exact q3
 | false=>
  rw[if_neg bn];exact kH ⟨σ1,H2,I2,q2⟩
end
structure It where
 go:Nat->Hp->Prop
 oK:Nat->Hp->V->Hp->Prop
 stop:Nat->Hp->Prop
def ou (X:Cx)(ao:AC)(H:Hp)(b:Addr):Prop:=
 H b=none/\b≠X.env.locals/\b∉X.fs/\(b∈X.ex\/X.s₀.heap.objs.size<=b)/\(∀x c,X.env.cells.lookup x=some c->c≠b)/\∀p∈X.pn++ao,p.1≠b
theorem aL.Jt {X:Cx}{ao:AC}{σ:St}{H H':Hp}{s:Shared}{b:Addr}(I:aL X ao σ H s)(hb:s.heap.objs.size<=b)(hn:H' b=none):ou X ao H' b:=by
 refine⟨hn,kK (b9 I.lt hb),I.ahG hb,.inr (cq I.sz hb),λx c e z=>?_,λp hp z=>?_⟩
 ·obtain⟨v,q⟩:=I.cell x c e
  exact absurd (b9 q.lt (by rw[z];exact hb)) (dP _)
 ·exact absurd (b9 (ax (I.pin p hp).1) (by rw[z];exact hb)) (dP _)
structure Turn (P:Program)(w:World)(K:W.Frag)(tg:Expr)(J:It)(fp:List Addr)(it:Addr)(tn:Nat->Heap->Prop):Prop where
 mem:it∈fp
 obj:∀i h,tn i h->∀b∈fp,∃o,h.get? b=some o/\∀v,o.data≠.cell v
 keep:∀i h h',tn i h->(∀b∈fp,∀o,h.get? b=some o->h'.get? b=some o)->tn i h'
 item:∀(X:Cx),X.prog=P->X.w=w->X.K=K->X.calm=true->∀(i:Nat) (ao:AC) (s:Shared) (σ:St) (H:Hp) (E:AB),aL X ao σ H s->(∀b∈fp,ou X ao H b)->tn i s.heap->J.go i H->
  wpAny (model P w) X.A (pyNext (.ref it)) (λr s1=>∃u,r=some u/\
   wpAny (model P w) X.A (letOwnedTupleGo tg (.ref it) u) (λ_ s2=>∃x H',aL X ao σ H' s2/\cA x u/\J.oK i H x H'/\tn (i+1) s2.heap/\∀b∈fp,H' b=none) E s1) E s
 done:∀(X:Cx),X.prog=P->X.w=w->X.K=K->X.calm=true->∀(i:Nat) (ao:AC) (s:Shared) (σ:St) (H:Hp) (E:AB),aL X ao σ H s->(∀b∈fp,ou X ao H b)->tn i s.heap->J.stop i H->
  wpAny (model P w) X.A (pyNext (.ref it)) (λr s1=>r=none/\aL X ao σ H s1) E s
 self:∀(A:Around) (i:Nat) (s:Shared) (Q:AB) (E:AB),tn i s.heap->Q (.ref it) s->wpAny (model P w) A (pyIter (.ref it)) Q E s
abbrev TI:=St->Hp->(It->Hp->Prop)->Prop
def PIE (X:Cx)(ao:AC)(σ:St)(tg:Expr)(R:It->Hp->Prop)(itv:Value)(s2:Shared):Prop:=
 ∃(it:Addr) (fp:List Addr) (tn:Nat->Heap->Prop) (J:It) (H':Hp),itv=.ref it/\aL X ao σ H' s2/\Turn X.prog X.w X.K tg J fp it tn/\tn 0 s2.heap/\(∀b∈fp,ou X ao H' b)/\R J H'
def PI (X:Cx)(tg iter:Expr)(wi:TI):Prop:=
 ∀(ao:AC) (s:Shared) (σ:St) (H:Hp) (R:It->Hp->Prop),aL X ao σ H s->wi σ H R->
  wpAny (model X.prog X.w) X.A (eval iter X.env) (λv s1=>wpAny (model X.prog X.w) X.A (pyIter v) (PIE X ao σ tg R) X.xe s1) X.xe s
theorem M_ {M : Model}{A : Around}{E : Value -> Shared -> Prop}{s : Shared}{tg : Expr}{it : Addr}{u : Value}{o : Obj}{n : String}{vs : Array Value}{Q : Unit -> Shared -> Prop}(ho : s.heap.get? it = some o)(hc : o.cls = .type n)(hd : o.data = .fields vs)
    (hn : ["enumerate", "zip", "dict_itemiterator", "dict_reverseitemiterator", "odict_iterator", "itertools.zip_longest", "itertools.pairwise"].contains n = false) (hQ : Q () s) : wpAny M A (letOwnedTupleGo tg (.ref it) u) Q E s := by
  unfold letOwnedTupleGo;cases tg <;> first
    | exact av hQ
    | (cases u <;> first
        | exact av hQ
        | (refine ae (wpAny_load ho ?_)
           rw[hc, hd];show wpAny M A (if (["enumerate", "zip", "dict_itemiterator", "dict_reverseitemiterator", "odict_iterator", "itertools.zip_longest", "itertools.pairwise"].contains n&&vs[0]? == some (rawInt _)) = true then _ else _) Q E s;rw[if_neg (by intro h; rw[hn, Bool.false_and]at h; cases h)];exact av hQ))
def vB (K:W.Frag)(a:Addr):It:=
 ⟨λi H=>∃xs x,aW K H a xs/\xs[i]?=some x,λi H x H'=>H'=H/\∀xs,aW K H a xs->xs[i]?=some x,λi H=>∃xs,aW K H a xs/\xs.length<=i⟩
def q_ (K:W.Frag)(a:Addr):It:=
 ⟨λi H=>∃xs x,aP K H a xs/\xs[i]?=some x,λi H x H'=>H'=H/\∀xs,aP K H a xs->xs[i]?=some x,λi H=>∃xs,aP K H a xs/\xs.length<=i⟩
def Ez (lo:Int)(n:Nat):It:=⟨λi _=>i < n,λi H x H'=>H'=H/\x=.int (lo+i),λi _=>n<=i⟩
theorem WM {P:Program}{w:World}{K:W.Frag}{tg:Expr}(a it:Addr):Turn P w K tg (vB K a) [it] it (λi h=>h.IsListIter it a i) where
 mem:=by simp
 obj:=λi h st b hb=>by
  have e:b=it:=by simpa using hb
  subst e;obtain⟨o,e,c,d⟩:=st;exact⟨o,e,λv z=>by rw[d]at z;cases z⟩
 keep:=λi h h' st k=>st.at λo e=>k it (by simp) o e
 item:=by
  intro X hP hw hK hc i ao s σ H E I hf st hg;subst hP hw hK;obtain⟨xs,x,hq,hx⟩:=hg;obtain⟨its,rv,p,hz⟩:=I.list hq;obtain⟨u,hu,ru⟩:=rv.get hx;obtain⟨f0,f1,f2,f3,f4,f5⟩:=hf it (by simp);refine wpAny_pyNext_list_item st p.isList (x:=u) (by simpa using hu) λh' st' sb=>?_;have I1:aL X ao σ H { s with heap:=h' }:=I.turned (t':=s.toks) (λb o hb e=>(sb.2 b hb).trans e) f0 f1 f3 f4 f5;obtain⟨o,e,c,d⟩:=id st';exact⟨u,rfl,M_ (s:={ s with heap:=h' }) e c d (by decide) ⟨x,H,I1,ru,⟨rfl,λys hy=>by rw[I.Fz hy hq];exact hx⟩,st',λb hb=>(hf b hb).1⟩⟩
 done:=by
  intro X hP hw hK hc i ao s σ H E I hf st hg;subst hP hw hK;obtain⟨xs,hq,hx⟩:=hg;obtain⟨its,rv,p,hz⟩:=I.list hq;obtain⟨f0,f1,f2,f3,f4,f5⟩:=hf it (by simp);have hl:=rv.length;exact wpAny_pyNext_list_end (I.ok.hd hc) st p.isList (by simp;lia) λh' eb=>⟨rfl,I.turned (t':=s.toks) (λb o hb e=>eb b o hb e) f0 f1 f3 f4 f5⟩
 self:=λ_ _ _ _ _ st h=>wpAny_pyIter_listiter st h
theorem Ui {P:Program}{w:World}{K:W.Frag}{tg:Expr}(a it:Addr):Turn P w K tg (q_ K a) [it] it (λi h=>h.IsTupleIter it a i) where
 mem:=by simp
 obj:=λi h st b hb=>by
  have e:b=it:=by simpa using hb
  subst e;obtain⟨o,e,c,d⟩:=st;exact⟨o,e,λv z=>by rw[d]at z;cases z⟩
 keep:=λi h h' st k=>st.at λo e=>k it (by simp) o e
 item:=by
  intro X hP hw hK hc i ao s σ H E I hf st hg;subst hP hw hK;obtain⟨xs,x,hq,hx⟩:=hg;obtain⟨its,rv,p,hz⟩:=I.tuple hq;obtain⟨u,hu,ru⟩:=rv.get hx;obtain⟨f0,f1,f2,f3,f4,f5⟩:=hf it (by simp);refine wpAny_pyNext_tuple_item st (show s.heap.IsTuple a its.toArray from p) (x:=u) (by simpa using hu) λh' st' sb=>?_;have I1:aL X ao σ H { s with heap:=h' }:=I.turned (t':=s.toks) (λb o hb e=>(sb.2 b hb).trans e) f0 f1 f3 f4 f5;obtain⟨o,e,c,d⟩:=id st';exact⟨u,rfl,M_ (s:={ s with heap:=h' }) e c d (by decide) ⟨x,H,I1,ru,⟨rfl,λys hy=>by rw[I.Wy hy hq];exact hx⟩,st',λb hb=>(hf b hb).1⟩⟩
 done:=by
  intro X hP hw hK hc i ao s σ H E I hf st hg;subst hP hw hK;obtain⟨xs,hq,hx⟩:=hg;obtain⟨its,rv,p,hz⟩:=I.tuple hq;obtain⟨f0,f1,f2,f3,f4,f5⟩:=hf it (by simp);have hl:=rv.length;exact wpAny_pyNext_tuple_end (I.ok.hd hc) st (show s.heap.IsTuple a its.toArray from p) (by simp;lia) λh' eb=>⟨rfl,I.turned (t':=s.toks) (λb o hb e=>eb b o hb e) f0 f1 f3 f4 f5⟩
 self:=λ_ _ _ _ _ st h=>wpAny_pyIter_tupleiter st h
theorem Uj {P:Program}{w:World}{K:W.Frag}{tg:Expr}(it:Addr)(lo:Int)(n:Nat):Turn P w K tg (Ez lo n) [it] it (λi h=>IsRangeIter h it (lo+(i:Nat)*1) ((n:Int)-(i:Nat)) 1) where
 mem:=by simp
 obj:=λi h st b hb=>by
  have e:b=it:=by simpa using hb
  subst e;exact⟨_,st,λv z=>by
   have z':Data.fields _=Data.cell v:=z;cases z'⟩
 keep:=λi h h' st k=>k it (by simp) _ st
 item:=by
  intro X hP hw hK hc i ao s σ H E I hf st hg;subst hP hw hK;obtain⟨f0,f1,f2,f3,f4,f5⟩:=hf it (by simp);have W:=Walks.range (prog:=X.prog) (w:=X.w) (I.ok.hd hc) it lo 1 n;refine W.item i s _ _ hg st λv h' tk hv st' kk=>?_;obtain⟨t,rfl⟩:=hv;have I1:aL X ao σ H { s with heap:=h',toks:=tk }:=I.turned (λb o hb e=>kk b o (by simpa using hb) e) f0 f1 f3 f4 f5;refine⟨_,rfl,M_ (s:={ s with heap:=h',toks:=tk }) (n:="range_iterator") st' rfl rfl (by decide) ⟨.int (lo+i),H,I1,⟨t,?_⟩,⟨rfl,rfl⟩,st',λb hb=>(hf b hb).1⟩⟩;rw[Int.mul_one]
 done:=by
  intro X hP hw hK hc i ao s σ H E I hf st hg;subst hP hw hK;obtain⟨f0,f1,f2,f3,f4,f5⟩:=hf it (by simp);exact wpAny_pyNext_range_end (I.ok.hd hc) st (by have:n<=i:=hg;lia) λh' eb=>⟨rfl,I.turned (t':=s.toks) (λb o hb e=>eb b o hb e) f0 f1 f3 f4 f5⟩
 self:=λ_ _ _ _ _ st h=>wpAny_pyIter_rangeiter st h
section
variable {X:Cx}{tg:Expr}
def acn (K:W.Frag)(tl:TE):TI:=λσ H R=>tl σ H λx H1=>∃a,x=.ref a/\(∃xs,aW K H1 a xs)/\R (vB K a) H1
def ae9 (K:W.Frag)(tl:TE):TI:=λσ H R=>tl σ H λx H1=>∃a,x=.ref a/\(∃xs,aP K H1 a xs)/\R (q_ K a) H1
theorem ac1 {l:Expr}{tl:TE}(hl:PE X l tl):PI X tg l (acn X.K tl):=by
 intro ao s σ H R I h;refine bR (hl ao s σ H _ I h) λv s1 zz=>?_;obtain⟨x,H1,I1,r1,q1⟩:=zz;obtain⟨a,e,⟨xs,hq⟩,q⟩:=q1;subst e;cases r1;obtain⟨its,rv,p,hz⟩:=I1.list hq;refine fe p.isList ?_;refine⟨s1.heap.objs.size,[s1.heap.objs.size],_,_,H1,rfl,I1.kept (t':=s1.toks) λb o e=>ag _ e,WM a _,⟨_,a9 _ rfl,rfl,rfl⟩,λb hb=>?_,q⟩;have e:b=s1.heap.objs.size:=by simpa using hb
 subst e;exact I1.Jt (ap _) (I1.hok.fresh (ap _))
theorem ae_ {l:Expr}{tl:TE}(hl:PE X l tl):PI X tg l (ae9 X.K tl):=by
 intro ao s σ H R I h;refine bR (hl ao s σ H _ I h) λv s1 zz=>?_;obtain⟨x,H1,I1,r1,q1⟩:=zz;obtain⟨a,e,⟨xs,hq⟩,q⟩:=q1;subst e;cases r1;obtain⟨its,rv,p,hz⟩:=I1.tuple hq;refine wpAny_pyIter_tuple (show s1.heap.IsTuple a its.toArray from p) ?_;refine⟨s1.heap.objs.size,[s1.heap.objs.size],_,_,H1,rfl,I1.kept (t':=s1.toks) λb o e=>ag _ e,Ui a _,⟨_,a9 _ rfl,rfl,rfl⟩,λb hb=>?_,q⟩;have e:b=s1.heap.objs.size:=by simpa using hb
 subst e;exact I1.Jt (ap _) (I1.hok.fresh (ap _))
theorem NP {ao:AC}{σ:St}{H:Hp}{s:Shared}{R:It->Hp->Prop}{E:AB}{lo hi:Int}{t u v:Tok}{tk:Nat}(I:aL X ao σ H s)(h1:-(2^62)<=lo)(h2:lo < 2^62)(h3:-(2^62)<=hi)(h4:hi < 2^62)
  (q:R (Ez lo (hi-lo).toNat) H):wpAny (model X.prog X.w) X.A (pyIter (.ref s.heap.objs.size)) (PIE X ao σ tg R) E { s with heap:=s.heap.push { cls:=.type "range",data:=.fields #[.int lo t,.int hi u,.int 1 v] },toks:=tk }:=by
 refine wpAny_pyIter_range (IsRange.new ..) (small_one h1 h2 h3 h4) ?_;have I1:aL X ao σ H { s with heap:=s.heap.push { cls:=.type "range",data:=.fields #[.int lo t,.int hi u,.int 1 v] },toks:=tk }:=I.kept λb o e=>ag _ e;refine⟨(s.heap.push { cls:=.type "range",data:=.fields #[.int lo t,.int hi u,.int 1 v] }).objs.size,[(s.heap.push { cls:=.type "range",data:=.fields #[.int lo t,.int hi u,.int 1 v] }).objs.size],_,_,H,rfl,
  I1.kept (t':=tk) λb o e=>ag _ e,Uj _ lo (hi-lo).toNat,?_,λb hb=>?_,q⟩
 ·have e1:lo+((0:Nat):Int)*1=lo:=by simp
  have e2:(((hi-lo).toNat:Nat):Int)-((0:Nat):Int)=Builtin.Range.rangeSize lo hi 1:=by rw[rangeSize_one];split <;> lia
  show IsRangeIter _ _ (lo+((0:Nat):Int)*1) ((((hi-lo).toNat:Nat):Int)-((0:Nat):Int)) 1;rw[e1,e2];exact a9 _ rfl
 ·have e:b=(s.heap.push { cls:=.type "range",data:=.fields #[.int lo t,.int hi u,.int 1 v] }).objs.size:=by simpa using hb
  subst e;exact I1.Jt (ap _) (I1.hok.fresh (ap _))
def aco (ta:TA):TI:=λσ H R=>ta σ H λvs H1=>∃j:Int,vs=[.int j]/\-(2^62)<=j/\j < 2^62/\R (Ez 0 j.toNat) H1
def acp (ta:TA):TI:=λσ H R=>ta σ H λvs H1=>∃i j:Int,vs=[.int i,.int j]/\(-(2^62)<=i/\i < 2^62/\-(2^62)<=j/\j < 2^62)/\R (Ez i (j-i).toNat) H1
theorem WQ {a:Expr}{ta:TA}{p pos:Pos}(hg:Gl X "range")(hm:X.mg "range"=none)(ha:PA X [a] ta)(hs:starEach [a] X.env=[(false,eval a X.env)]:=by rfl):PI X tg (.Call (.Name "range" p) [a] [] pos) (aco ta):=by
 intro ao s σ H R I h;refine Call_ (xT I hg hm boot_range (gf (bR (ha pos ao s σ H _ I h) λus s1 zz=>?_) hs rfl));obtain⟨vs,H1,I1,r1,q1⟩:=zz;obtain⟨j,e,q1,q2,q⟩:=q1;subst e;cases r1 with
 | cons r rr=>
  cases rr;obtain⟨t,rfl⟩:=r;exact call_range_1 (NP I1 (by lia) (by lia) q1 q2 (by simpa using q))
theorem WR {a b:Expr}{ta:TA}{p pos:Pos}(hg:Gl X "range")(hm:X.mg "range"=none)(ha:PA X [a,b] ta)(hs:starEach [a,b] X.env=[(false,eval a X.env),(false,eval b X.env)]:=by rfl)(hs2:starEach [b] X.env=[(false,eval b X.env)]:=by rfl) :
  PI X tg (.Call (.Name "range" p) [a,b] [] pos) (acp ta):=by
 intro ao s σ H R I h;refine Call_ (xT I hg hm boot_range (gf (bR (ha pos ao s σ H _ I h) λus s1 zz=>?_) (by rw[hs,hs2]) (by rw[hs2];rfl)));obtain⟨vs,H1,I1,r1,q1⟩:=zz;obtain⟨i,j,e,⟨q1,q2,q3,q4⟩,q⟩:=q1;subst e;cases r1 with
 | cons r rr=>
  cases rr with
  | cons r' rr=>
   cases rr;obtain⟨t,rfl⟩:=r;obtain⟨t',rfl⟩:=r';exact call_range_2 (NP I1 q1 q2 q3 q4 q)
def afa (wi:TI)(g:TG)(tb:TS):TS:=λD σ H=>wi σ H λJ H1=>∃W:Nat->Nat->St->Hp->Prop,(∃m,W 0 m σ H1)/\∀i m σ H,W i m σ H->
 (J.stop i H/\D.nx σ H)\/(J.go i H/\∃N:St->Hp->Prop,(∀σ' H',N σ' H'->∃m',m' < m/\W (i+1) m' σ' H')/\∀x H',J.oK i H x H'->g x σ H' λσ2 H2=>tb { D with nx:=N,ct:=N,bk:=D.nx } σ2 H2)
noncomputable def ux (fp:List Addr)(h:Heap):List (Addr × Obj):=fp.filterMap λb=>(h.get? b).map λo=>(b,o)
theorem jA {fp:List Addr}{h:Heap}{b:Addr}{o:Obj}(hb:b∈fp)(e:h.get? b=some o):(b,o)∈ux fp h:=lv.mpr ⟨b,hb,by rw[e];rfl⟩
theorem WT {fp:List Addr}{h:Heap}{p:Addr × Obj}(hp:p∈ux fp h):p.1∈fp/\h.get? p.1=some p.2:=by
 obtain⟨b,hb,e⟩:=lv.mp hp;cases q:h.get? b with
 | none=>rw[q]at e;cases e
 | some o=>
  rw[q]at e;have e':(b,o)=p:=aw e;subst e';exact⟨hb,q⟩
theorem aL.pinned {ao:AC}{σ:St}{H:Hp}{s:Shared}{fp:List Addr}(I:aL X ao σ H s)(hf:∀b∈fp,ou X ao H b)(ho:∀b∈fp,∃o,s.heap.get? b=some o/\∀v,o.data≠.cell v):aL X (ao++ux fp s.heap) σ H s:=
 I.RN λp hp=>(a8.mp hp).elim (λz=>I.pin p (b6 _ z)) λz=>by
  obtain⟨hb,e⟩:=WT z;obtain⟨f0,f1,f2,_⟩:=hf p.1 hb;obtain⟨o,e',d⟩:=ho p.1 hb;rw[e]at e';cases e';exact⟨e,f0,f1,f2,d⟩
theorem aL.j_ {ao pl:AC}{σ:St}{H:Hp}{s:Shared}(I:aL X (ao++pl) σ H s):aL X ao σ H s:=I.RN λp hp=>I.pin p (b6 _ (kG _ hp))
theorem afb {iter:Expr}{body:List Stmt}{wi:TI}{g:TG}{tb:TS}{pos:Pos}(hp:PassesOwn (model X.prog X.w) X.A X.env X.xe)(hc:X.calm=true)(hi:PI X tg iter wi)(hg:PG X tg g)(hb:sJ X body tb)
  (hs:∀x,foldedSetIterable iter X.env x=pure x:=by intro _;rfl):PS X (.For tg iter body [] pos) (afa wi g tb):=by
 intro ao s σ H D I h;refine wpAny_For (bR (hi ao s σ H _ I h) λv s1 h1=>bR h1 λitv s2 h2=>?_) hs;obtain⟨it,fp,tn,J,H2,e,I2,T,st2,f2,W,⟨m0,w0⟩,turn⟩:=h2;subst e;have stat:∀{H':Hp},(∀b∈fp,H' b=none)->∀b∈fp,ou X ao H' b:=λhn b hb=>⟨hn b hb,(f2 b hb).2⟩
 refine codeAny_forLoop_any (λn s'=>∃i σ' H',aL X ao σ' H' s'/\tn i s'.heap/\(∀b∈fp,H' b=none)/\W i n σ' H') ?_ m0 ⟨0,σ,H2,I2,st2,λb hb=>(f2 b hb).1,w0⟩;rintro n s3 ⟨i,σ3,H3,I3,st3,fr3,w3⟩;rcases turn i n σ3 H3 w3 with⟨stop,qn⟩ | ⟨go,N,hN,step⟩
 ·refine gm hp (bR (T.done X rfl rfl rfl hc i ao s3 σ3 H3 X.xe I3 (stat fr3) st3 stop) λr s4 ⟨hr,I4⟩=>?_)
  subst hr;exact kH ⟨σ3,H3,I4,qn⟩
 ·refine gm hp (bR (T.item X rfl rfl rfl hc i ao s3 σ3 H3 X.xe I3 (stat fr3) st3 go) λr s4 zz=>?_);obtain⟨u,hr,h4⟩:=zz
  subst hr;refine gm hp (bR h4 λ_ s5 zz=>?_);obtain⟨x,H5,I5,r5,y5,st5,fr5⟩:=zz;have RP:=I5.pinned (stat fr5) (T.obj _ _ st5);refine gm hp (bR (hg _ s5 σ3 H5 x u _ RP r5 (step x H5 y5)) λ_ s6 zz=>?_);obtain⟨σ6,H6,I6,q6⟩:=zz;refine gm hp (bR (hb _ s6 σ6 H6 _ I6 q6) λf s7 q7=>?_);have again:∀{σ7:St} {H7:Hp},aL X (ao++ux fp s5.heap) σ7 H7 s7->N σ7 H7->∃m,m < n/\∃i σ' H',aL X ao σ' H' s7/\tn i s7.heap/\(∀b∈fp,H' b=none)/\W i m σ' H':=λ{σ7 H7} I7 n7=>by
   obtain⟨m',hm,w7⟩:=hN σ7 H7 n7;refine⟨m',hm,i+1,σ7,H7,I7.j_,T.keep _ _ _ st5 λb hb o e=>(I7.pin (b,o) (b6 _ (b6 _ (jA hb e)))).1,λb hb=>?_,w7⟩;obtain⟨o,e,d⟩:=T.obj _ _ st5 b hb;exact(I7.pin (b,o) (b6 _ (b6 _ (jA hb e)))).2.1
  cases f with
  | next=>obtain⟨σ7,H7,I7,n7⟩:=q7;exact again I7 n7
  | cont=>obtain⟨σ7,H7,I7,n7⟩:=q7;exact again I7 n7
  | brk=>obtain⟨σ7,H7,I7,q7⟩:=q7;exact⟨σ7,H7,I7.j_,q7⟩
  | ret v=>obtain⟨x7,σ7,H7,I7,r7,q7⟩:=q7;exact⟨x7,σ7,H7,I7.j_,r7,q7⟩
end
theorem oA {K:W.Frag}{a:Addr}{xs:List V}{g:TG}{tb:TS}{D:Ends}{σ:St}{H:Hp}(Pv:Nat->St->Hp->Prop)(h0:Pv 0 σ H)(hl:∀i σ H,i<=xs.length->Pv i σ H->aW K H a xs)
  (hs:∀i x σ H,xs[i]?=some x->Pv i σ H->g x σ H λσ2 H2=>tb { D with nx:=Pv (i+1),ct:=Pv (i+1),bk:=D.nx } σ2 H2) (hd:∀σ H,Pv xs.length σ H->D.nx σ H) :
  ∃W:Nat->Nat->St->Hp->Prop,(∃m,W 0 m σ H)/\∀i m σ H,W i m σ H->
   ((vB K a).stop i H/\D.nx σ H)\/((vB K a).go i H/\∃N:St->Hp->Prop,(∀σ' H',N σ' H'->∃m',m' < m/\W (i+1) m' σ' H')/\∀x H',(vB K a).oK i H x H'->g x σ H' λσ2 H2=>tb { D with nx:=N,ct:=N,bk:=D.nx } σ2 H2):=by
 refine⟨λi m σ H=>m=xs.length-i/\i<=xs.length/\Pv i σ H,⟨xs.length,by simp,b7 _,h0⟩,?_⟩;rintro i m σ H ⟨rfl,hi,p⟩;have q:=hl i σ H hi p;by_cases hlt:i < xs.length
 ·refine .inr ⟨⟨xs,xs[i],q,by simp[hlt]⟩,Pv (i+1),λσ' H' p'=>⟨xs.length-(i+1),by lia,rfl,hlt,p'⟩,λx H' y=>?_⟩
  obtain⟨e,y⟩:=y;subst e;exact hs i x σ _ (y xs q) p
 ·have e:i=xs.length:=by lia
  subst e;exact .inl ⟨⟨xs,q,ap _⟩,hd σ H p⟩
theorem mO {K:W.Frag}{a:Addr}{xs:List V}{g:TG}{tb:TS}{D:Ends}{σ:St}{H:Hp}(Pv:Nat->St->Hp->Prop)(h0:Pv 0 σ H)(hl:∀i σ H,i<=xs.length->Pv i σ H->aP K H a xs)
  (hs:∀i x σ H,xs[i]?=some x->Pv i σ H->g x σ H λσ2 H2=>tb { D with nx:=Pv (i+1),ct:=Pv (i+1),bk:=D.nx } σ2 H2) (hd:∀σ H,Pv xs.length σ H->D.nx σ H) :
  ∃W:Nat->Nat->St->Hp->Prop,(∃m,W 0 m σ H)/\∀i m σ H,W i m σ H->
   ((q_ K a).stop i H/\D.nx σ H)\/((q_ K a).go i H/\∃N:St->Hp->Prop,(∀σ' H',N σ' H'->∃m',m' < m/\W (i+1) m' σ' H')/\∀x H',(q_ K a).oK i H x H'->g x σ H' λσ2 H2=>tb { D with nx:=N,ct:=N,bk:=D.nx } σ2 H2):=by
 refine⟨λi m σ H=>m=xs.length-i/\i<=xs.length/\Pv i σ H,⟨xs.length,by simp,b7 _,h0⟩,?_⟩;rintro i m σ H ⟨rfl,hi,p⟩;have q:=hl i σ H hi p;by_cases hlt:i < xs.length
 ·refine .inr ⟨⟨xs,xs[i],q,by simp[hlt]⟩,Pv (i+1),λσ' H' p'=>⟨xs.length-(i+1),by lia,rfl,hlt,p'⟩,λx H' y=>?_⟩
  obtain⟨e,y⟩:=y;subst e;exact hs i x σ _ (y xs q) p
 ·have e:i=xs.length:=by lia
  subst e;exact .inl ⟨⟨xs,q,ap _⟩,hd σ H p⟩
theorem iB {lo:Int}{n:Nat}{g:TG}{tb:TS}{D:Ends}{σ:St}{H:Hp}(Pv:Nat->St->Hp->Prop)(h0:Pv 0 σ H)
  (hs:∀i σ H,i < n->Pv i σ H->g (.int (lo+i)) σ H λσ2 H2=>tb { D with nx:=Pv (i+1),ct:=Pv (i+1),bk:=D.nx } σ2 H2) (hd:∀σ H,Pv n σ H->D.nx σ H) :
  ∃W:Nat->Nat->St->Hp->Prop,(∃m,W 0 m σ H)/\∀i m σ H,W i m σ H->
   ((Ez lo n).stop i H/\D.nx σ H)\/((Ez lo n).go i H/\∃N:St->Hp->Prop,(∀σ' H',N σ' H'->∃m',m' < m/\W (i+1) m' σ' H')/\∀x H',(Ez lo n).oK i H x H'->g x σ H' λσ2 H2=>tb { D with nx:=N,ct:=N,bk:=D.nx } σ2 H2):=by
 refine⟨λi m σ H=>m=n-i/\i<=n/\Pv i σ H,⟨n,by simp,b7 _,h0⟩,?_⟩;rintro i m σ H ⟨rfl,hi,p⟩;by_cases hlt:i < n
 ·refine .inr ⟨hlt,Pv (i+1),λσ' H' p'=>⟨n-(i+1),by lia,rfl,hlt,p'⟩,λx H' y=>?_⟩
  obtain⟨e,y⟩:=y;subst e y;exact hs i σ _ hlt p
 ·have e:i=n:=by lia
  subst e;exact .inl ⟨ap _,hd σ H p⟩
abbrev R2:=V->V->Hp->VK->Prop
def fJ (X:Cx)(f:Value->Value->Sem Value)(r:R2):Prop:=
 ∀(ao:AC) (s:Shared) (σ:St) (H:Hp) (x y:V) (v u:Value) (Q:VK),aL X ao σ H s->cA x v->cA y u->r x y H Q->
  wpAny (model X.prog X.w) X.A (f v u) (EP X ao σ Q) X.xe s
def UnR (X:Cx)(f:Value->Sem Value)(r:V->Hp->VK->Prop):Prop:=
 ∀(ao:AC) (s:Shared) (σ:St) (H:Hp) (x:V) (v:Value) (Q:VK),aL X ao σ H s->cA x v->r x H Q->
  wpAny (model X.prog X.w) X.A (f v) (EP X ao σ Q) X.xe s
def gq (X:Cx)(f:Value)(r:List V->Hp->VK->Prop):Prop:=
 ∀(ao:AC) (s:Shared) (σ:St) (H:Hp) (xs:List V) (us:List Value) (Q:VK),aL X ao σ H s->Vals xs us->r xs H Q->
  wpAny (model X.prog X.w) X.A (call f us) (EP X ao σ Q) X.xe s
def sO (r:R2)(ta tb:TE):TE:=λσ H Q=>ta σ H λx H1=>tb σ H1 λy H2=>r x y H2 Q
def tUn (r:V->Hp->VK->Prop)(ta:TE):TE:=λσ H Q=>ta σ H λx H1=>r x H1 Q
def rI (C:Int->Int->Prop)(g:Int->Int->V):R2:=λx y H Q=>∃i j,x=.int i/\y=.int j/\C i j/\Q (g i j) H
def Hj (g:Int->Int->V):R2:=λx y H Q=>∃i j,x=.int i/\y=.int j/\Q (g i j) H
def rU (g:Int->V):V->Hp->VK->Prop:=λx H Q=>∃i,x=.int i/\Q (g i) H
section
variable {X:Cx}{a b:Expr}{ta tb:TE}{pos:Pos}
theorem aam (ha:PE X a ta)(hb:PE X b tb){ao:AC}{s:Shared}{σ:St}{H:Hp}{R:V->V->Hp->Prop}(I:aL X ao σ H s)
  (h:ta σ H λx H1=>tb σ H1 λy H2=>R x y H2) {Q:AB} {f:Value->Value->Sem Value}
  (hf:∀v u s2 x y H2,aL X ao σ H2 s2->cA x v->cA y u->R x y H2->wpAny (model X.prog X.w) X.A (f v u) Q X.xe s2) :
  wpAny (model X.prog X.w) X.A (eval a X.env) (λv s₁=>wpAny (model X.prog X.w) X.A (eval b X.env) (λu s₂=>wpAny (model X.prog X.w) X.A (f v u) Q X.xe s₂) X.xe s₁) X.xe s:=by
 refine bR (ha ao s σ H _ I h) λv s1 zz=>?_;obtain⟨x,H1,I1,r1,q1⟩:=zz;refine bR (hb ao s1 σ H1 _ I1 q1) λu s2 zz=>?_;obtain⟨y,H2,I2,r2,q2⟩:=zz;exact hf v u s2 x y H2 I2 r1 r2 q2
theorem ahb {op:Operator}{r:R2}(ho:fJ X (binaryOp op) r)(ha:PE X a ta)(hb:PE X b tb):PE X (.BinOp a op b pos) (sO r ta tb):=by
 intro ao s σ H Q I h;exact wpAny_BinOp (aam ha hb I h λv u s2 x y H2 I2 rx ry q=>ho ao s2 σ H2 x y v u Q I2 rx ry q)
theorem ahc {op:UnaryOp}{r:V->Hp->VK->Prop}(ho:UnR X (unaryOp op) r)(ha:PE X a ta):PE X (.UnaryOp op a pos) (tUn r ta):=by
 intro ao s σ H Q I h;exact UnaryOp_ (bR (ha ao s σ H _ I h) λv s1 ⟨x,H1,I1,r1,q1⟩=>ho ao s1 σ H1 x v Q I1 r1 q1)
theorem opI {f:Value->Value->Sem Value}{C:Int->Int->Prop}{g:Int->Int->Int}
  (rule:∀(i j:Int) (t u:Tok) (s:Shared) (Q:AB) (E:AB),C i j->Q (.int (g i j) s.toks) { s with toks:=s.toks+1 }->wpAny (model X.prog X.w) X.A (f (.int i t) (.int j u)) Q E s) :
  fJ X f (rI C λi j=>.int (g i j)):=by
 intro ao s σ H x y v u Q I rx ry h;obtain⟨i,j,rfl,rfl,hc,q⟩:=h;obtain⟨t,rfl⟩:=rx;obtain⟨t',rfl⟩:=ry;exact rule i j t t' s _ _ hc ⟨.int (g i j),H,I.tok _,⟨_,rfl⟩,q⟩
theorem afc {f:Value->Value->Sem Value}{g:Int->Int->Int}
  (rule:∀(i j:Int) (t u:Tok) (s:Shared) (Q:AB) (E:AB),Q (.int (g i j) s.toks) { s with toks:=s.toks+1 }->wpAny (model X.prog X.w) X.A (f (.int i t) (.int j u)) Q E s) :
  fJ X f (Hj λi j=>.int (g i j)):=by
 intro ao s σ H x y v u Q I rx ry h;obtain⟨i,j,rfl,rfl,q⟩:=h;obtain⟨t,rfl⟩:=rx;obtain⟨t',rfl⟩:=ry;exact rule i j t t' s _ _ ⟨.int (g i j),H,I.tok _,⟨_,rfl⟩,q⟩
theorem Uk {f:Value->Value->Sem Value}{g:Int->Int->Bool}
  (rule:∀(i j:Int) (t u:Tok) (s:Shared) (Q:AB) (E:AB),Q (.bool (g i j)) s->wpAny (model X.prog X.w) X.A (f (.int i t) (.int j u)) Q E s) :
  fJ X f (Hj λi j=>.bl (g i j)):=by
 intro ao s σ H x y v u Q I rx ry h;obtain⟨i,j,rfl,rfl,q⟩:=h;obtain⟨t,rfl⟩:=rx;obtain⟨t',rfl⟩:=ry;exact rule i j t t' s _ _ ⟨.bl (g i j),H,I,rfl,q⟩
def ahJ (i j:Int):Prop:=0 < j/\j < 1073741824
def aan (i j:Int):Prop:=(-(2^64) < i/\i < 2^64)\/(-(2^64) < j/\j < 2^64)
theorem aan.ok {i j:Int}(h:aan i j):IntMulOk i j:=by
 rcases h with⟨h1,h2⟩ | ⟨h1,h2⟩
 ·exact .of_left (intBits_le_64 h1 h2)
 ·exact .of_right (intBits_le_64 h1 h2)
theorem dU:fJ X (binaryOp .Add) (Hj λi j=>.int (i+j)):=afc λ_ _ _ _ _ _ _ q=>add_int q
theorem iC:fJ X (binaryOp .Sub) (Hj λi j=>.int (i-j)):=afc λ_ _ _ _ _ _ _ q=>sub_int q
theorem rm:fJ X (binaryOp .Mult) (rI aan λi j=>.int (i*j)):=opI λ_ _ _ _ _ _ _ hc q=>mul_int q hc.ok
theorem qj:fJ X (binaryOp .FloorDiv) (rI ahJ λi j=>.int (i/j)):=opI λi j _ _ _ _ _ hc q=>by
 have h1:(0:Int) < j:=hc.1;have h2:j < 1073741824:=hc.2;exact floordiv_int (by lia) (by rw[Int.fdiv_eq_ediv_of_nonneg i (by lia)];exact q) (.inl (PyProof.noPylong_small (by lia)))
theorem o9:fJ X (binaryOp .Mod) (rI (λ_ j=>0 < j) λi j=>.int (i%j)):=opI λi j _ _ _ _ _ hc q=>by
 have h1:(0:Int) < j:=hc;exact mod_int' (by lia) (by rw[Int.fmod_eq_emod_of_nonneg i (by lia)];exact q)
theorem unI {f:Value->Sem Value}{g:Int->Int}
  (rule:∀(i:Int) (t:Tok) (s:Shared) (Q:AB) (E:AB),Q (.int (g i) s.toks) { s with toks:=s.toks+1 }->wpAny (model X.prog X.w) X.A (f (.int i t)) Q E s) :
  UnR X f (rU λi=>.int (g i)):=by
 intro ao s σ H x v Q I rx h;obtain⟨i,rfl,q⟩:=h;obtain⟨t,rfl⟩:=rx;exact rule i t s _ _ ⟨.int (g i),H,I.tok _,⟨_,rfl⟩,q⟩
theorem uy:UnR X (unaryOp .USub) (rU λi=>.int (-i)):=unI λ_ _ _ _ _ q=>neg_int q
end
noncomputable def afd:V->V->Bool
 | .non,.non=>true | .non,.int _=>true | .int _,.non=>true | .non,.bl _=>true | .bl _,.non=>true | .non,.str _=>true | .str _,.non=>true
 | .int _,.int _=>true | .bl _,.bl _=>true | .str _,.str _=>true | .Ax _,.Ax _=>true
 | .int _,.str _=>true | .str _,.int _=>true | .bl _,.str _=>true | .str _,.bl _=>true
 | _,_=>false
def rEq:R2:=λx y H Q=>afd x y=true/\Q (.bl (decide (x=y))) H
def rNe:R2:=λx y H Q=>afd x y=true/\Q (.bl (!decide (x=y))) H
theorem RQ {i j:Int}:decide (V.int i=V.int j)=(i==j):=by
 rw[e6];simp
theorem WW {i j:Bool}:decide (V.bl i=V.bl j)=(i==j):=by
 rw[e6];simp
theorem RT {i j:Str}:decide (V.str i=V.str j)=(i==j):=by
 rw[e6];simp
theorem RW {i j:Array UInt8}:decide (V.Ax i=V.Ax j)=(i.toList==j.toList):=by
 rw[e6];cases i;cases j;simp
section
variable {X:Cx}{a b c:Expr}{ta tb tc:TE}{pos:Pos}
theorem dh {ao:AC}{σ:St}{H:Hp}{s:Shared}{Q:VK}{k k':Bool}(I:aL X ao σ H s)(q:Q (.bl k) H)(e:k=k'):EP X ao σ Q (.bool k') s:=by
 subst e;exact⟨.bl k,H,I,rfl,q⟩
theorem iJ:fJ X (compareOp .Eq) rEq:=by
 intro ao s σ H x y v u Q I rx ry h;obtain⟨hs,q⟩:=h;cases x with
 | non=>
  cases rx;cases y with
  | non=>cases ry;exact PySem.EqNone.eq_none_none (dh I q (by simp))
  | bl j=>cases ry;exact PySem.EqNone.eq_none_bool (dh I q (by simp))
  | int j=>obtain⟨t',rfl⟩:=ry;exact PySem.EqNone.eq_none_int (dh I q (by simp))
  | str j=>obtain⟨t',rfl⟩:=ry;exact PySem.EqNone.eq_none_str (dh I q (by simp))
  | _=>exact absurd (show false=true from hs) bn
 | bl i=>
  cases rx;cases y with
  | non=>cases ry;exact PySem.EqNone.eq_bool_none (dh I q (by simp))
  | bl j=>cases ry;exact eq_bool (dh I q WW)
  | str j=>obtain⟨t',rfl⟩:=ry;exact PySem.EqMixed.eq_bool_str (dh I q (by simp))
  | _=>exact absurd (show false=true from hs) bn
 | int i=>
  obtain⟨t,rfl⟩:=rx;cases y with
  | non=>cases ry;exact PySem.EqNone.eq_int_none (dh I q (by simp))
  | int j=>obtain⟨t',rfl⟩:=ry;exact eq_int (dh I q RQ)
  | str j=>obtain⟨t',rfl⟩:=ry;exact PySem.EqMixed.eq_int_str (dh I q (by simp))
  | _=>exact absurd (show false=true from hs) bn
 | str i=>
  obtain⟨t,rfl⟩:=rx;cases y with
  | non=>cases ry;exact PySem.EqNone.eq_str_none (dh I q (by simp))
  | bl j=>cases ry;exact PySem.EqMixed.eq_str_bool (dh I q (by simp))
  | int j=>obtain⟨t',rfl⟩:=ry;exact PySem.EqMixed.eq_str_int (dh I q (by simp))
  | str j=>obtain⟨t',rfl⟩:=ry;exact eq_str (dh I q RT)
  | _=>exact absurd (show false=true from hs) bn
 | Ax i=>
  obtain⟨t,rfl⟩:=rx;cases y with
  | Ax j=>obtain⟨t',rfl⟩:=ry;exact W.eq_bytes (dh I q RW)
  | _=>exact absurd (show false=true from hs) bn
 | _=>cases y <;> exact absurd (show false=true from hs) bn
theorem o_:fJ X (compareOp .NotEq) rNe:=by
 intro ao s σ H x y v u Q I rx ry h;obtain⟨hs,q⟩:=h;cases x with
 | non=>
  cases rx;cases y with
  | non=>cases ry;exact PySem.EqNone.ne_none_none (dh I q (by simp))
  | bl j=>cases ry;exact PySem.EqNone.ne_none_bool (dh I q (by simp))
  | int j=>obtain⟨t',rfl⟩:=ry;exact PySem.EqNone.ne_none_int (dh I q (by simp))
  | str j=>obtain⟨t',rfl⟩:=ry;exact PySem.EqNone.ne_none_str (dh I q (by simp))
  | _=>exact absurd (show false=true from hs) bn
 | bl i=>
  cases rx;cases y with
  | non=>cases ry;exact PySem.EqNone.ne_bool_none (dh I q (by simp))
  | bl j=>cases ry;exact ne_bool (dh I q (congrArg not WW))
  | str j=>obtain⟨t',rfl⟩:=ry;exact PySem.EqMixed.ne_bool_str (dh I q (by simp))
  | _=>exact absurd (show false=true from hs) bn
 | int i=>
  obtain⟨t,rfl⟩:=rx;cases y with
  | non=>cases ry;exact PySem.EqNone.ne_int_none (dh I q (by simp))
  | int j=>obtain⟨t',rfl⟩:=ry;exact ne_int (dh I q (congrArg not RQ))
  | str j=>obtain⟨t',rfl⟩:=ry;exact PySem.EqMixed.ne_int_str (dh I q (by simp))
  | _=>exact absurd (show false=true from hs) bn
 | str i=>
  obtain⟨t,rfl⟩:=rx;cases y with
  | non=>cases ry;exact PySem.EqNone.ne_str_none (dh I q (by simp))
  | bl j=>cases ry;exact PySem.EqMixed.ne_str_bool (dh I q (by simp))
  | int j=>obtain⟨t',rfl⟩:=ry;exact PySem.EqMixed.ne_str_int (dh I q (by simp))
  | str j=>obtain⟨t',rfl⟩:=ry;exact ne_str (dh I q (congrArg not RT))
  | _=>exact absurd (show false=true from hs) bn
 | Ax i=>
  obtain⟨t,rfl⟩:=rx;cases y with
  | Ax j=>obtain⟨t',rfl⟩:=ry;exact W.ne_bytes (dh I q (congrArg not RW))
  | _=>exact absurd (show false=true from hs) bn
 | _=>cases y <;> exact absurd (show false=true from hs) bn
theorem jQ:fJ X (compareOp .Lt) (Hj λi j=>.bl (decide (i < j))):=Uk λ_ _ _ _ _ _ _ q=>lt_int q
theorem lK:fJ X (compareOp .LtE) (Hj λi j=>.bl (decide (i<=j))):=Uk λ_ _ _ _ _ _ _ q=>le_int q
theorem Hl:fJ X (compareOp .Gt) (Hj λi j=>.bl (decide (j < i))):=Uk λ_ _ _ _ _ _ _ q=>gt_int q
theorem Ul:fJ X (compareOp .GtE) (Hj λi j=>.bl (decide (j<=i))):=Uk λ_ _ _ _ _ _ _ q=>ge_int q
theorem WX:fJ X (compareOp .In) (λx y H Q=>∃i j,x=.str i/\y=.str j/\Q (.bl (!(Builtin.Str.occurrences j i 0 j.length 1).isEmpty)) H):=by
 intro ao s σ H x y v u Q I rx ry h;obtain⟨i,j,rfl,rfl,q⟩:=h;obtain⟨t,rfl⟩:=rx;obtain⟨t',rfl⟩:=ry;exact in_str (dh I q rfl)
theorem WY:fJ X (compareOp .Is) (λx y H Q=>y=.non/\Q (.bl (decide (x=.non))) H):=by
 intro ao s σ H x y v u Q I rx ry h;obtain⟨rfl,q⟩:=h;cases ry;refine is_none_gen (dh I q ?_);cases x <;> first
  | (cases rx;rfl)
  | (obtain⟨t,rfl⟩:=rx;rfl)
theorem ac2:fJ X (compareOp .IsNot) (λx y H Q=>y=.non/\Q (.bl (!decide (x=.non))) H):=by
 intro ao s σ H x y v u Q I rx ry h;obtain⟨rfl,q⟩:=h;cases ry;refine isnot_none_gen (dh I q ?_);cases x <;> first
  | (cases rx;rfl)
  | (obtain⟨t,rfl⟩:=rx;rfl)
theorem bw (b:Expr){op:CmpOp}(h:op≠.In:=by decide)(h2:op≠.NotIn:=by decide):behindInMarks op b=false:=by
 have e1:(op==CmpOp.In)=false:=by cases op <;> first | rfl | exact absurd rfl h
 have e2:(op==CmpOp.NotIn)=false:=by cases op <;> first | rfl | exact absurd rfl h2
 cases b <;> simp[behindInMarks,e1,e2]
theorem ac3 {op:CmpOp}{r:R2}(ho:fJ X (compareOp op) r)(ha:PE X a ta)(hb:PE X b tb)(hm:behindInMarks op b=false):PE X (.Compare a [op] [b] pos) (sO r ta tb):=by
 intro ao s σ H Q I h;exact wpAny_Compare1 (aam ha hb I h λv u s2 x y H2 I2 rx ry q=>ho ao s2 σ H2 x y v u Q I2 rx ry q) hm
def yJ (t:TE):TT:=λσ H Q=>t σ H λx H'=>∃k,x=.bl k/\Q k H'
theorem ac4 {op:CmpOp}{r:R2}(ho:fJ X (compareOp op) r)(ha:PE X a ta)(hb:PE X b tb)(hm:behindInMarks op b=false):PT X (.Compare a [op] [b] pos) (yJ (sO r ta tb)):=by
 intro ao s σ H Q I h;refine wpAny_isTrue_Compare1 (bR (ha ao s σ H _ I h) λv s1 ⟨x,H1,I1,r1,q1⟩=>bR (hb ao s1 σ H1 _ I1 q1) λu s2 ⟨y,H2,I2,r2,q2⟩=>
  bR (ho ao s2 σ H2 x y v u _ I2 r1 r2 q2) λc s3 ⟨z,H3,I3,r3,k,e,q3⟩=>?_) hm
 subst e;cases r3;exact ed ⟨H3,I3,q3⟩
def Bd (r r':R2)(ta tb tc:TE):TE:=λσ H Q=>ta σ H λx H1=>tb σ H1 λy H2=>r x y H2 λz H3=>∃k,z=.bl k/\
 (if k=true then tc σ H3 λw' H4=>r' y w' H4 Q else Q (.bl false) H3)
theorem aao {op op':CmpOp}{r r':R2}(ho:fJ X (compareOp op) r)(ho':fJ X (compareOp op') r')(ha:PE X a ta)(hb:PE X b tb)(hc:PE X c tc)
  (hm:lastMarks [op,op'] [b,c]=false:=by with_unfolding_all rfl):PE X (.Compare a [op,op'] [b,c] pos) (Bd r r' ta tb tc):=by
 intro ao s σ H Q I h;refine Compare_chain (bR (ha ao s σ H _ I h) λv s1 ⟨x,H1,I1,r1,q1⟩=>chain_link (bR (hb ao s1 σ H1 _ I1 q1) λu s2 ⟨y,H2,I2,r2,q2⟩=>
  bR (ho ao s2 σ H2 x y v u _ I2 r1 r2 q2) λd s3 ⟨z,H3,I3,r3,k,e,q3⟩=>?_)) hm
 subst e;cases r3;refine ed ?_;cases k with
 | false=>exact ite_ff ⟨.bl false,H3,I3,rfl,q3⟩
 | true=>exact ite_tt (chain_last (bR (hc ao s3 σ H3 _ I3 q3) λw' s4 ⟨z',H4,I4,r4,q4⟩=>ho' ao s4 σ H4 y z' u w' Q I4 r2 r4 q4))
theorem aap {op op':CmpOp}{r r':R2}(ho:fJ X (compareOp op) r)(ho':fJ X (compareOp op') r')(ha:PE X a ta)(hb:PE X b tb)(hc:PE X c tc)
  (hm:lastMarks [op,op'] [b,c]=false:=by with_unfolding_all rfl):PT X (.Compare a [op,op'] [b,c] pos) (yJ (Bd r r' ta tb tc)):=by
 intro ao s σ H Q I h;refine isTrue_chain (bR (ha ao s σ H _ I h) λv s1 ⟨x,H1,I1,r1,q1⟩=>test_link (bR (hb ao s1 σ H1 _ I1 q1) λu s2 ⟨y,H2,I2,r2,q2⟩=>
  bR (ho ao s2 σ H2 x y v u _ I2 r1 r2 q2) λd s3 ⟨z,H3,I3,r3,k,e,q3⟩=>?_)) hm
 subst e;cases r3;refine ed ?_;cases k with
 | false=>
  obtain⟨k',e',q'⟩:=q3;cases e';exact ite_ff ⟨H3,I3,q'⟩
 | true=>
  refine ite_tt (test_last (bR (hc ao s3 σ H3 _ I3 q3) λw' s4 zz=>?_));obtain⟨z',H4,I4,r4,q4⟩:=zz;refine bR (ho' ao s4 σ H4 y z' u w' _ I4 r2 r4 q4) λd' s5 zz=>?_;obtain⟨z2,H5,I5,r5,k2,e2,q5⟩:=zz;subst e2;cases r5;exact ed ⟨H5,I5,q5⟩
theorem xU:(sizeLine:Nat) < 2^63:=by rw[sizeLine_eq];decide
theorem Um:fJ X (binaryOp .Add) (λx y H Q=>∃i j,x=.str i/\y=.str j/\i.length+j.length<=sizeLine/\Q (.str (i++j)) H):=by
 intro ao s σ H x y v u Q I rx ry h;obtain⟨i,j,rfl,rfl,hz,q⟩:=h;obtain⟨t,rfl⟩:=rx;obtain⟨t',rfl⟩:=ry;exact add_str (λt' tk=>⟨.str (i++j),H,I.tok _,⟨_,rfl⟩,q⟩) hz
theorem vals1 {x:V}{us:List Value}(r:Vals [x] us):∃u,us=[u]/\cA x u:=by
 cases r with
 | cons r1 r2=>cases r2;exact⟨_,rfl,r1⟩
theorem vals2 {x y:V}{us:List Value}(r:Vals [x,y] us):∃u w',us=[u,w']/\cA x u/\cA y w':=by
 cases r with
 | cons r1 r2=>
  cases r2 with
  | cons r3 r4=>cases r4;exact⟨_,_,rfl,r1,r3⟩
theorem vC:gq X (.type "int") (λxs H Q=>(∃i,xs=[.int i]/\Q (.int i) H)\/∃k,xs=[.bl k]/\Q (.int (if k then 1 else 0)) H):=by
 intro ao s σ H xs us Q I r h;rcases h with⟨i,rfl,q⟩ | ⟨k,rfl,q⟩
 ·obtain⟨u,rfl,t,rfl⟩:=vals1 r
  exact call_int_int ⟨.int i,H,I,⟨_,rfl⟩,q⟩
 ·obtain⟨u,rfl,r1⟩:=vals1 r
  cases r1;exact call_int_bool ⟨.int (if k then 1 else 0),H,I.tok _,⟨_,rfl⟩,q⟩
end
structure FJ (h:Heap)(x dx C:Addr)(mA:Str->Option Value):Prop where
 obj:h.get? x=some (W.instObj C dx)
 ns:h.Ns1 dx mA
 ne:dx≠x
theorem W0 {h:Heap}{dx:Addr}{mA:Str->Option Value}(n:h.Ns1 dx mA):∃od,h.get? dx=some od/\∀name,W.lookIn name od=some (mA name):=by
 obtain⟨o,es,ep,ho,hd,hk,_,hm⟩:=n;refine⟨o,ho,λname=>?_⟩;have e:=hm name;unfold nsFind findBy at e;rw[<- Array.find?_toList]at e;unfold W.lookIn;rw[hd];dsimp only
 split
 ·rename_i y q
  rw[q]at e;exact congrArg some e
 ·rename_i q
  rw[q]at e;have a:es.toList.any (·.refKey)=false:=by
   rw[l6];intro y hy;obtain⟨z,t,hkey⟩:=hk y (Array.mem_toList_iff.mp hy);simp[DictEntry.refKey,hkey]
  have a':¬es.toList.any (·.refKey)=true:=by rw[a];exact bn
  rw[if_neg a'];exact congrArg some e
theorem FJ.look {h:Heap}{x dx C:Addr}{mA:Str->Option Value}(I:FJ h x dx C mA):∃od,W.InstAt h x (W.instObj C dx) C (some od)/\∀name,W.lookIn name od=some (mA name):=
 let ⟨od,ho,hl⟩:=W0 I.ns
 ⟨od,⟨I.obj,rfl,rfl,ho⟩,hl⟩
section
variable {prog:Program}{w:World}{A:Around}{E:AB}{s:Shared}{K:W.Frag}{x dx C f:Addr}{mA:Str->Option Value}{name:Str}{v:Value}
theorem get_map {expr:Bool}{Q:AB}(X:K.In s.heap)(I:FJ s.heap x dx C mA)(hg:W.plainGet K C name=true)(hh:W.hasDictIn K C=true)
  (ha:W.findIn K (.ref C) name=some none) (hv:mA name=some v) (hv':W.handedIn v=true) (h:Q v { s with toks:=s.toks+1 }) :
  wpAny (model prog w) A (getAttr (.ref x) name expr) Q E s:=by
 obtain⟨od,J,hl⟩:=I.look;exact W.get_value X J (lh hg).1 (W.findObj_own hh ha rfl (by rw[hl,hv])) hv' h
theorem aaq {pl:Sem Bool}{Q:Value × List Value->Shared->Prop}(X:K.In s.heap)(I:FJ s.heap x dx C mA)(hg:W.plainGet K C name=true)
  (hf:W.findIn K (.ref C) name=some (some (.ref f))) (ht:W.isFn K (.ref f)=true) (hv:mA name=none) (h:Q (.ref f,[.ref x]) s) :
  wpAny (model prog w) A (getMethod (.ref x) name pl) Q E s:=by
 obtain⟨od,J,hl⟩:=I.look;exact W.method_fn X J (lh hg).1 (lh hg).2 hf (beq_iff_eq.mp ht) (by show (W.lookIn name od).map (·.isSome)=some false;rw[hl,hv];rfl) h
theorem ac5 {ns:List Str}{Q:Unit->Shared->Prop}(X:K.In s.heap)(I:FJ s.heap x dx C mA)
  (hs:W.findIn K (.ref C) "__setattr__"=some (some (.builtin "object.__setattr__"))) (hp:W.plainOver K C=true) (ht:W.takerIn K C name=some none) (hh:W.hasDictIn K C=true)
  (hw:PySem.Within mA ns) (hsz:ns.length<=sizeLine)
  (h:∀h',FJ h' x dx C (λy=>if y=name then some v else mA y)->Heap.SameBut dx s.heap h'->Q () { s with heap:=h',toks:=s.toks+2 }) :
  wpAny (model prog w) A (setAttr (.ref x) name v) Q E s:=by
 obtain⟨od,J,hl⟩:=I.look;refine W.set_plain X J hs (W.osa_open (s:={ s with toks:=s.toks+1 }) (r:=none) X J hp ht λb=>?_);obtain⟨cd,hc,hd'⟩:=W.any_some hh;have hx:s.heap.get? x=some ⟨.ref C,some dx,.plain,#[]⟩:=I.obj;refine ae (av (ae (ae (lp hx (ae (W.Looks.here (s:={ s with toks:=s.toks+1 }) (W.looks_clsIn X hc) ?_))))));rw[hd'];refine av (a:=some dx) (ae (av (ae ?_)));refine wpAny_nsSet1 (s:={ s with toks:=s.toks+1 }) I.ns λh' hn2 hs2=>?_;obtain⟨oD,esD,epD,hoD,hdD,hcD⟩:=hn2.count (l_ name v hw);refine ae (wpAny_lookBehind hoD (by rw[hdD];exact pastItsLine_dict (cq hcD (by rw[dv];lia))) ?_);exact av (h _ ⟨(hs2.2 _ (f7 I.ne)).trans I.obj,hn2,I.ne⟩ hs2)
theorem aar {R:Result->Shared->Prop}{vs:List Value}{kw:List (Str × Value)}(X:K.In s.heap)(hm:W.makesIn K C=true)
  (hi:W.findIn K (.ref C) "__init__"=some (some (.ref f))) (hf:W.typeIn K (.ref f)=some (.type "function"))
  (h:codeAny (model prog w) (A.under (.builtin "type.__call__" ⟨.ref C::vs,kw⟩)) (.call (.ref f) ⟨.ref (s.heap.objs.size+1)::vs,kw⟩) (W.InitBack (s.heap.objs.size+1) R)
   { s with heap:=(s.heap.push W.emptyDict).push (W.instObj C s.heap.objs.size) }) :
  codeAny (model prog w) A (.call (.ref C) ⟨vs,kw⟩) R s:=by
 obtain⟨hh,g,d,t,os⟩:=s;exact W.make_core (W.makes_of X hm) (W.looks_findIn X hi) (λself=>W.bind_fn X self hf) (.inl rfl) h
end
noncomputable def iU (f:Str)(v:V):List (Str × V)->List (Str × V)
 | []=>[(f,v)]
 | (g,x)::r=>if g=f then (g,v)::r else (g,x)::iU f v r
theorem wQ (f g:Str)(v:V):∀fs:List (Str × V),(iU f v fs).lookup g=if g=f then some v else fs.lookup g
 | []=>by
  show List.lookup g [(f,v)]=_;by_cases h:g=f
  ·have hb:(g==f)=true:=beq_iff_eq.mpr h
   simp only[List.lookup,hb,if_pos h]
  ·have hb:(g==f)=false:=beq_eq_false_iff_ne.mpr h
   simp only[List.lookup,hb,if_neg h]
 | (k,x)::r=>by
  have ih:=wQ f g v r;rw[show iU f v ((k,x)::r)=(if k=f then (k,v)::r else (k,x)::iU f v r) from rfl];by_cases hk:k=f
  ·rw[if_pos hk]
   by_cases h:g=k
   ·have hb:(g==k)=true:=beq_iff_eq.mpr h
    simp only[List.lookup,hb,if_pos (h.trans hk)]
   ·have hb:(g==k)=false:=beq_eq_false_iff_ne.mpr h
    simp only[List.lookup,hb,if_neg (λe:g=f=>h (e.trans hk.symm))]
  ·rw[if_neg hk]
   by_cases h:g=k
   ·have hb:(g==k)=true:=beq_iff_eq.mpr h
    simp only[List.lookup,hb,if_neg (λe:g=f=>hk (h.symm.trans e))]
   ·have hb:(g==k)=false:=beq_eq_false_iff_ne.mpr h
    simp only[List.lookup,hb];exact ih
theorem rz (f:Str)(v:V):∀fs:List (Str × V),f∈(iU f v fs).map (·.1)/\∀g,g∈fs.map (·.1)->g∈(iU f v fs).map (·.1)
 | []=>⟨by simp[iU],λg h=>by simp at h⟩
 | (k,x)::r=>by
  obtain⟨i1,i2⟩:=rz f v r;rw[show iU f v ((k,x)::r)=(if k=f then (k,v)::r else (k,x)::iU f v r) from rfl];by_cases hk:k=f
  ·rw[if_pos hk]
   subst hk;exact⟨by simp,λg h=>by simpa using h⟩
  ·rw[if_neg hk]
   refine⟨?_,λg h=>?_⟩
   ·rw[bP]
    exact a_ _ i1
   ·rw[bP]at h ⊢
    rcases bo.mp h with e | e
    ·exact bo.mpr (.inl e)
    ·exact a_ _ (i2 g e)
theorem wR (f:Str)(v:V):∀fs:List (Str × V),(iU f v fs).length<=fs.length+1
 | []=>by simp[iU]
 | (k,x)::r=>by
  have ih:=wR f v r;rw[show iU f v ((k,x)::r)=(if k=f then (k,v)::r else (k,x)::iU f v r) from rfl];by_cases hk:k=f
  ·rw[if_pos hk,dv,dv];lia
  ·rw[if_neg hk,dv,dv];lia
theorem j9.some_of {v:V}{o:Option Value}(r:j9 (some v) o):∃u,o=some u/\cA v u:=by
 cases o with
 | none=>exact(show False from r).elim
 | some u=>exact⟨u,rfl,r⟩
theorem j9.none_of {o:Option Value}(r:j9 none o):o=none:=by
 cases o with
 | none=>rfl
 | some u=>exact(show False from r).elim
theorem W2 {v:V}{u:Value}(r:cA v u):W.handedIn u=true:=by
 cases v with
 | non=>cases(show u=Value.none from r);rfl
 | bl b=>cases(show u=Value.bool b from r);rfl
 | int i=>obtain⟨t,e⟩:=(show ∃t,u=Value.int i t from r);cases e;rfl
 | str x=>obtain⟨t,e⟩:=(show ∃t,u=Value.str x t from r);cases e;rfl
 | Ax b=>obtain⟨t,e⟩:=(show ∃t,u=Value.bytes b t from r);cases e;rfl
 | flt b=>obtain⟨t,e⟩:=(show ∃t,u=Value.float b t from r);cases e;rfl
 | ref a=>cases(show u=Value.ref a from r);rfl
 | ty n=>cases(show u=Value.type n from r);rfl
section
variable {P:Program}{w:World}{H:Hp}{h:Heap}{a C dx:Addr}{fs:List (Str × V)}
theorem D_ (hok:jh P w H h)(e:H a=some (.ins C dx fs)):∃mA,FJ h a dx C mA/\(∀f,j9 (fs.lookup f) (mA f))/\PySem.Within mA (fs.map (·.1))/\fs.length<=1000/\H dx=some (.own a):=by
 obtain⟨d,z,ne,ob,mA,n,r,q⟩:=(show dH P w H h a (.ins C dx fs) from hok a _ e)
 exact⟨mA,⟨ob,n,ne⟩,r,q,z,d⟩
end
structure Cls (K:W.Frag)(C:Addr):Prop where
 pg:W.plainGet K C Str.empty=true
 hd:W.hasDictIn K C=true
 po:W.plainOver K C=true
 sa:W.findIn K (.ref C) "__setattr__"=some (some (.builtin "object.__setattr__"))
theorem Cls.get {K:W.Frag}{C:Addr}(c:Cls K C)(f:Str):W.plainGet K C f=true:=c.pg
def nG (K:W.Frag)(C:Addr)(f:Str):Prop:=W.findIn K (.ref C) f=some none
theorem nG.taker {K:W.Frag}{C:Addr}{f:Str}(n:nG K C f):W.takerIn K C f=some none:=by
 unfold W.takerIn;rw[show W.findIn K (.ref C) f=some none from n];rfl
structure Con (K:W.Frag)(C:Addr)(f:Str)(v:V)(u:Value):Prop where
 at_:W.findIn K (.ref C) f=some (some u)
 rel:cA v u
 get:W.specialIn K u "__get__"=some none
 cp:W.copiedNames.contains f=false
structure Meth (K:W.Frag)(C:Addr)(m:Str)(f:Addr):Prop where
 at_:W.findIn K (.ref C) m=some (some (.ref f))
 fn:W.isFn K (.ref f)=true
 kp:W.keepIn K (.ref f)=true
section
variable {X:Cx}{ao:AC}{σ:St}{H:Hp}{s:Shared}{a C dx:Addr}{fs:List (Str × V)}{f:Str}{v:V}{A:Around}{E:AB}
theorem Uo {b:Bool}{Q:AB}(I:aL X ao σ H s)(e:H a=some (.ins C dx fs))(c:Cls X.K C)(n:nG X.K C f)(l:fs.lookup f=some v)
  (h:∀u s',aL X ao σ H s'->cA v u->Q u s'):wpAny (model X.prog X.w) A (getAttr (.ref a) f b) Q E s:=by
 obtain⟨mA,O,r,_,_,_⟩:=D_ I.hok e;obtain⟨u,hu,ru⟩:=j9.some_of (v:=v) (o:=mA f) (by rw[<- l];exact r f);exact get_map I.gO O (c.get f) c.hd n hu (W2 ru) (h u _ (I.tok _) ru)
theorem Ho {m:Str}{g:Addr}{pl:Sem Bool}{Q:Value × List Value->Shared->Prop}(I:aL X ao σ H s)(e:H a=some (.ins C dx fs))(c:Cls X.K C)(k:Meth X.K C m g)(l:fs.lookup m=none)
  (h:Q (.ref g,[.ref a]) s):wpAny (model X.prog X.w) A (getMethod (.ref a) m pl) Q E s:=by
 obtain⟨mA,O,r,_,_,_⟩:=D_ I.hok e;have hn:mA m=none:=j9.none_of (by rw[<- l];exact r m);exact aaq I.gO O (c.get m) k.at_ k.fn hn h
theorem Uq {y:V}{u:Value}{Q:Unit->Shared->Prop}(I:aL X ao σ H s)(e:H a=some (.ins C dx fs))(c:Cls X.K C)(n:nG X.K C f)(hl:fs.length < 1000)(ry:cA y u)
  (h:∀s',aL X ao σ (upd H a (.ins C dx (iU f y fs))) s'->Q () s'):wpAny (model X.prog X.w) A (setAttr (.ref a) f u) Q E s:=by
 obtain⟨mA,O,r,wi,_,ho⟩:=D_ I.hok e;have hz:(fs.map (·.1)).length<=sizeLine:=by rw[aa,sizeLine_eq];lia
 refine ac5 I.gO O c.sa c.po n.taker c.hd wi hz λh' O' sb=>h _ ?_;have hd:∃o,h'.get? dx=some o:=let ⟨o,_,_,e',_⟩:=O'.ns;⟨o,e'⟩
 refine I.write (x:=a) (e:=dx) (by rw[e];exact True.intro) (.inr ho) (λb q hb z=>(sb.2 b hb).trans z) hd ?_;refine⟨by rw[aM O.ne];exact ho,?_,O.ne,O'.obj,_,O'.ns,λg=>?_,λg hg=>?_⟩
 ·have:=wR f y fs;lia
 ·show j9 ((iU f y fs).lookup g) (if g=f then some u else mA g)
  rw[wQ];by_cases q:g=f
  ·rw[if_pos q,if_pos q];exact ry
  ·rw[if_neg q,if_neg q];exact r g
 ·by_cases q:g=f
  ·rw[q];exact(rz f y fs).1
  ·refine(rz f y fs).2 g (wi g λz=>hg ?_)
   show (if g=f then some u else mA g)=none;rw[if_neg q];exact z
theorem aL.made (I:aL X ao σ H s):aL X ao σ (upd (upd H s.heap.objs.size (.own (s.heap.objs.size+1))) (s.heap.objs.size+1) (.ins C s.heap.objs.size []))
  { s with heap:=(s.heap.push W.emptyDict).push (W.instObj C s.heap.objs.size) }:=by
 have e1:(s.heap.push W.emptyDict).get? s.heap.objs.size=some W.emptyDict:=a9 s.heap rfl;have e2:((s.heap.push W.emptyDict).push (W.instObj C s.heap.objs.size)).get? (s.heap.objs.size+1)=some (W.instObj C s.heap.objs.size):=by
  have:=a9 (s.heap.push W.emptyDict) (o:=W.instObj C s.heap.objs.size) rfl
  rwa [dr]at this
 have e3:(s.heap.push W.emptyDict).Ns s.heap.objs.size (λ_=>none):=⟨W.emptyDict,#[],_,e1,rfl,(λe he=>absurd he (by simp)),λ_=>rfl⟩
 have I1:=I.laid (a:=s.heap.objs.size) (o:=.own (s.heap.objs.size+1)) (h':=s.heap.push W.emptyDict) (t':=s.toks) (λb u q=>ag _ q) (ap _) ⟨_,e1⟩;refine I1.laid (a:=s.heap.objs.size+1) (o:=.ins C s.heap.objs.size []) (t':=s.toks) (λb u q=>ag _ q) (e8 (dr _ _)) ?_;have ne:s.heap.objs.size≠s.heap.objs.size+1:=ba (gc _);refine⟨by rw[aM ne,au],b7 _,ne,e2,λ_=>none,(Heap.Ns1.of_empty e3).at λo q=>ag _ q,λ_=>True.intro,λy hy=>absurd rfl hy⟩
theorem ac6 {prog:Program}{w:World}{env:Env}{e:Expr}{f:Str}{pos:Pos}{s:Shared}{Q:AB}(hb:attributeBase e f env (eval e env)=eval e env)
  (h:wpAny (model prog w) A (eval e env) (λo s₁=>wpAny (model prog w) A (getAttr o f true) Q E s₁) E s):wpAny (model prog w) A (eval (.Attribute e f pos) env) Q E s:=
 Attribute_any_ h (by rw[arm_eval_Attribute,hb])
end
def afe (K:W.Frag)(ta:TE)(f:Str):TE:=λσ H Q=>ta σ H λx H1=>∃a C dx fs v,x=.ref a/\H1 a=some (.ins C dx fs)/\Cls K C/\nG K C f/\fs.lookup f=some v/\Q v H1
def afg (K:W.Frag)(ta tv:TE)(f:Str):TS:=λD σ H=>tv σ H λy H1=>ta σ H1 λx H2=>∃a C dx fs,x=.ref a/\H2 a=some (.ins C dx fs)/\Cls K C/\nG K C f/\fs.length < 1000/\
 D.nx σ (upd H2 a (.ins C dx (iU f y fs)))
section
variable {X:Cx}{o e value:Expr}{f:Str}{pos pos':Pos}{ta tv:TE}
variable {ao:AC}{σ:St}{H:Hp}{s:Shared}{A:Around}{E Q:AB}{c:Value}{b:Bool}
theorem afh (he:PE X e ta)(hb:attributeBase e f X.env (eval e X.env)=eval e X.env):PE X (.Attribute e f pos) (afe X.K ta f):=by
 intro ao s σ H Q I h;refine ac6 hb (bR (he ao s σ H _ I h) λu s1 zz=>?_);obtain⟨x,H1,I1,rx,a,C,dx,fs,v,ex,ea,c,n,l,q⟩:=zz;subst ex;obtain rfl:u=Value.ref a:=rx;exact Uo I1 ea c n l λu' s2 I2 ru=>⟨v,H1,I2,ru,q⟩
theorem afi (ha:PE X o ta)(hv:PE X value tv)(hs:swapsWith value (some (.Attribute o f pos')) pos.line X.env=pure false):PS X (.Assign [.Attribute o f pos'] value pos) (afg X.K ta tv f):=by
 intro ao s σ H D I h;refine plainObj_wpAny_Assign_Attribute (bR (hv ao s σ H _ I h) λu s1 zz=>?_) hs;obtain⟨y,H1,I1,ry,q⟩:=zz;refine bR (ha ao s1 σ H1 _ I1 q) λov s2 zz=>?_;obtain⟨x,H2,I2,rx,a,C,dx,fs,ex,ea,c,n,l,q2⟩:=zz;subst ex;obtain rfl:ov=Value.ref a:=rx;exact Uq I2 ea c n l ry λs3 I3=>⟨σ,_,I3,q2⟩
inductive jV (K:W.Frag) (H:Hp):V->Value->Prop where
 | non:jV K H .non (.type "NoneType")
 | bl (x:Bool):jV K H (.bl x) (.type "bool")
 | int (i:Int):jV K H (.int i) (.type "int")
 | str (x:Str):jV K H (.str x) (.type "str")
 | flt (x:UInt64):jV K H (.flt x) (.type "float")
 | lst {a:Addr} {xs:List V} (e:H a=some (.lst xs)):jV K H (.ref a) (.type "list")
 | nC {a:Addr} {o:Obj} {xs:List V} (e:H a=some (.nC o (.lst xs))):jV K H (.ref a) (.type "list")
 | tup {a:Addr} {xs:List V} (e:H a=some (.tup xs)):jV K H (.ref a) (.type "tuple")
 | dK {a:Addr} {kvs:List (Key × V)} (e:H a=some (.dK kvs)):jV K H (.ref a) (.type "dict")
 | dT {a:Addr} {kvs:List (List Key × V)} (e:H a=some (.dT kvs)):jV K H (.ref a) (.type "dict")
 | ins {a C dx:Addr} {fs:List (Str × V)} (e:H a=some (.ins C dx fs)) (cl:Cls K C) (ha:W.findIn K (.ref C) "__class__"=some (some (.builtin "object.__class__")))
   (hn:W.specialIn K (.builtin "object.__class__") "__get__"=some (some (.builtin "getset_descriptor.__get__"))) (htk:W.takesIn K (.builtin "object.__class__")=some true)
   (hm:W.mroIn K C (.type "object")=some true):jV K H (.ref a) (.ref C)
theorem W3 {x:V}{u t:Value}(I:aL X ao σ H s)(rx:cA x u)(ty:jV X.K H x t)(e:W.kitOne X.K t c=some b)(h:∀tk,Q (.bool b) { s with toks:=tk }) :
  wpAny (model X.prog X.w) A (call (.builtin "isinstance") [u,c]) Q E s:=by
 cases ty with
 | non=>cases(show u=Value.none from rx);exact eD W.kitx_none I.gO True.intro e (λz=>nomatch z) h
 | bl y=>cases(show u=Value.bool y from rx);exact eD W.kitx_bool I.gO True.intro e (λz=>nomatch z) h
 | int i=>obtain⟨t,q⟩:=(show ∃t,u=Value.int i t from rx);cases q;exact eD W.kitx_int I.gO True.intro e (λz=>nomatch z) h
 | str y=>obtain⟨t,q⟩:=(show ∃t,u=Value.str y t from rx);cases q;exact eD W.kitx_str I.gO True.intro e (λz=>nomatch z) h
 | flt y=>obtain⟨t,q⟩:=(show ∃t,u=Value.float y t from rx);cases q;exact eD W.kitx_float I.gO True.intro e (λz=>nomatch z) h
 | @lst a xs ea=>
  cases(show u=Value.ref a from rx);obtain⟨_,_,n,_,h1⟩:=(show dH X.prog X.w H s.heap a (.lst xs) from I.hok a _ ea)
  exact eD W.kitx_list I.gO ⟨_,h1,rfl⟩ e (λz=>nomatch z) h
 | @nC a ob xs ea=>
  cases(show u=Value.ref a from rx);obtain⟨_,_,_,n,_,h1⟩:=(show dH X.prog X.w H s.heap a (.nC ob (.lst xs)) from I.hok a _ ea)
  exact eD W.kitx_list I.gO ⟨_,h1,rfl⟩ e (λz=>nomatch z) h
 | @tup a xs ea=>
  cases(show u=Value.ref a from rx);obtain⟨_,_,_,p⟩:=(show dH X.prog X.w H s.heap a (.tup xs) from I.hok a _ ea)
  obtain⟨o,h1,h2,_⟩:=p;exact eD W.kitx_tuple I.gO ⟨o,h1,h2⟩ e (λz=>nomatch z) h
 | @dK a kvs ea=>
  cases(show u=Value.ref a from rx);obtain⟨_,_,vs,_,p⟩:=(show dH X.prog X.w H s.heap a (.dK kvs) from I.hok a _ ea)
  obtain⟨o,es,ep,h1,h2,_⟩:=p;exact eD W.kitx_dict I.gO ⟨o,h1,h2.1⟩ e (λz=>nomatch z) h
 | @dT a kvs ea=>
  cases(show u=Value.ref a from rx);obtain⟨_,_,xs,_,o,es,ep,h1,h2,_⟩:=(show dH X.prog X.w H s.heap a (.dT kvs) from I.hok a _ ea)
  exact eD W.kitx_dict I.gO ⟨o,h1,h2.1⟩ e (λz=>nomatch z) h
 | @ins a C dx fs ea cl ha hn htk hm=>
  cases(show u=Value.ref a from rx);obtain⟨mA,O,_⟩:=D_ I.hok ea;obtain⟨od,J,_⟩:=O.look;exact eD (W.kitx_own (cl.get _) cl.hd ha hn htk hm) I.gO J e (λz=>nomatch z) h
end
structure d7 (k:Nat)(A:Around):Prop where
 hd:A.handled=none
 dp:A.depth+3*k+5 < recursionLimit
 un:A.units+16*k+200 < cLine
theorem d7.mono {j k:Nat}{A:Around}(r:d7 k A)(h:j<=k:=by decide):d7 j A:=⟨r.hd,by have:=r.dp;lia,by have:=r.un;lia⟩
theorem d7.deeper {k:Nat}{A:Around}(r:d7 (k+1) A)(env:Env):d7 k (A.deeper env):=
 ⟨r.hd,by have:=r.dp;show A.depth+1+3*k+5 < _;lia,by have:=r.un;show A.units+3+16*k+200 < _;lia⟩
theorem Ur {A:Around}{C:Addr}{us:List Value}{kw:List (Str × Value)}:(A.under (.builtin "type.__call__" ⟨.ref C::us,kw⟩)).depth=A.depth+1:=by
 first | rfl | simp[Around.under,Code.weight,Code.isCreation,Code.isGuard,Code.isCaller,Code.frames,Code.isFrame,guardIds]
theorem Us {A:Around}{C:Addr}{us:List Value}{kw:List (Str × Value)}:(A.under (.builtin "type.__call__" ⟨.ref C::us,kw⟩)).units=A.units+1:=by
 first | rfl | simp[Around.under,Code.cUnits,Code.frames,Code.isFrame]
theorem d7.make {k:Nat}{A:Around}(r:d7 (k+1) A)(C:Addr)(us:List Value)(kw:List (Str × Value)):d7 k (A.under (.builtin "type.__call__" ⟨.ref C::us,kw⟩)):=
 ⟨r.hd,by have:=r.dp;rw[Ur];lia,by have:=r.un;rw[Us];lia⟩
theorem d7.depth {k:Nat}{A:Around}(r:d7 k A):A.depth < recursionLimit:=by have:=r.dp;lia
theorem d7.units {k:Nat}{A:Around}(r:d7 k A):A.units+64 < cLine:=by have:=r.un;lia
theorem d7.afj {k:Nat}{A:Around}(r:d7 k A):A.units < cLine:=by have:=r.un;lia
def rQ:TA:=λ_ H Q=>Q [] H
def mQ (ta:TE)(tr:TA):TA:=λσ H Q=>ta σ H λx H1=>tr σ H1 λxs H2=>Q (x::xs) H2
section
variable {X:Cx}{e:Expr}{es:List Expr}{te:TE}{t:TA}{pos:Pos}
theorem afk:PA X [] rQ:=λ_ _ _ _ H Q I h=>Calls.spliced_nil ⟨[],H,I,.nil,h⟩
theorem ac7 (ha:PE X e te)(hr:PA X es t)(hs:starEach (e::es) X.env=(false,eval e X.env)::starEach es X.env:=by rfl):PA X (e::es) (mQ te t):=by
 intro pos ao s σ H Q I h;rw[hs];show wpAny _ _ (spliced ((false,eval e X.env)::backTo pos (starEach es X.env))) _ _ s;refine Calls.spliced_cons (bR (ha ao s σ H _ I h) λu s1 zz=>?_);obtain⟨x,H1,I1,r1,q1⟩:=zz;exact bR (hr pos ao s1 σ H1 _ I1 q1) λus s2 ⟨xs,H2,I2,r2,q2⟩=>⟨x::xs,H2,I2,.cons r1 r2,q2⟩
def afl (t:TA):TE:=λσ H Q=>t σ H λxs H1=>xs.length<=sizeLine/\∀p,H1 p=none->Q (.ref p) (upd H1 p (.tup xs))
def afm (t:TA):TE:=λσ H Q=>t σ H λxs H1=>xs.length<=sizeLine/\∀p,H1 p=none->Q (.ref p) (upd H1 p (.lst xs))
theorem afn {x1}(h:PA X es t):PE X (.Tuple es x1 pos) (afl t):=by
 intro ao s σ H Q I hq;refine wpAny_Tuple_spliced (bR (h pos ao s σ H _ I hq) λus s1 ⟨xs,H1,I1,r,z,q⟩=>⟨by rw[<- r.length];exact z,?_⟩);have hf:H1 s1.heap.objs.size=none:=I1.hok.fresh (ap _);refine⟨.ref s1.heap.objs.size,upd H1 s1.heap.objs.size (.tup xs),I1.laid (t':=s1.toks) (λb u e=>ag _ e) (ap _) ?_,rfl,q _ hf⟩;exact⟨z,us,r,⟨_,a9 _ rfl,rfl,_,rfl⟩⟩
theorem afo (h:PA X es t):PE X (.List es pos) (afm t):=by
 intro ao s σ H Q I hq;refine wpAny_List_spliced (bR (h pos ao s σ H _ I hq) λus s1 ⟨xs,H1,I1,r,z,q⟩=>⟨by rw[<- r.length];exact z,?_⟩);have hf:H1 s1.heap.objs.size=none:=I1.hok.fresh (ap _);refine⟨.ref s1.heap.objs.size,upd H1 s1.heap.objs.size (.lst xs),I1.laid (t':=s1.toks) (λb u e=>ag _ e) (ap _) ?_,rfl,q _ hf⟩;exact⟨z,us,0,r,a9 _ rfl⟩
end
abbrev Sp:=List V->Hp->VK->XK->Prop
abbrev nH:=List Env->Hp->Shared->XK->Value->Shared->Prop
structure FN (P:Program)(w:World)(K:W.Frag)(mg:Str->Option Value)(base:Heap)(A:Around)(outer:List Env)(s:Shared)(H:Hp):Prop where
 frames:A.frames=some outer
 mod:Mod K mg base
 bs:∀b o,base.get? b=some o->s.heap.get? b=some o/\H b=none
 sE:base.objs.size<=s.heap.objs.size
 ni:s.heap.FunFrames base outer
 Bc:∀b∈frs outer,H b=none
 hok:jh P w H s.heap
 bare:AllBare s.gens
def CE (outer:List Env)(P:Program)(w:World)(H:Hp)(s:Shared)(Q:VK)(u:Value)(s':Shared):Prop:=
 ∃v H',s'.os=s.os/\AllBare s'.gens/\Un (frs outer) [] H H' s.heap s'.heap/\jh P w H' s'.heap/\cA v u/\Q v H'
def CR (CX:nH)(outer:List Env)(P:Program)(w:World)(H:Hp)(s:Shared)(Q:VK)(E:XK)(r:Result)(s':Shared):Prop:=
 match r with
 | .ok (.ret u)=>CE outer P w H s Q u s'
 | .ok _=>False
 | .error e=>CX outer H s E e s'
structure cM (P:Program)(w:World)(K:W.Frag)(mg:Str->Option Value)(base:Heap)(CX:nH)(k:Nat)(f:Addr)(fd:FuncData)(ps:List Str)(sp:Sp):Prop where
 len:∀vs H Q E,sp vs H Q E->vs.length=ps.length
 run:∀(A:Around) (outer:List Env) (s:Shared) (H:Hp) (args:Args) (us:List Value) (vs:List V) (Q:VK) (E:XK),d7 k A->FN P w K mg base A outer s H->BindsTo s fd args (ps.zip us)->Vals vs us->sp vs H Q E->
  codeAny (model P w) A (.call (.ref f) args) (CR CX outer P w H s Q E) s
theorem cM.mono {P:Program}{w:World}{K:W.Frag}{mg:Str->Option Value}{base:Heap}{CX:nH}{j k:Nat}{f:Addr}{fd:FuncData}{ps:List Str}{sp:Sp}(F:cM P w K mg base CX j f fd ps sp)(h:j<=k) :
  cM P w K mg base CX k f fd ps sp:=⟨F.len,λA outer s H args us vs Q E hr=>F.run A outer s H args us vs Q E (hr.mono h)⟩
theorem cM.imp {P:Program}{w:World}{K:W.Frag}{mg:Str->Option Value}{base:Heap}{CX:nH}{k:Nat}{f:Addr}{fd:FuncData}{ps:List Str}{sp NQ:Sp}(F:cM P w K mg base CX k f fd ps sp)
  (h:∀vs H Q E,NQ vs H Q E->sp vs H Q E):cM P w K mg base CX k f fd ps NQ:=
 ⟨λvs H Q E q=>F.len vs H Q E (h _ _ _ _ q),λA outer s H args us vs Q E hr he hb hv hs=>F.run A outer s H args us vs Q E hr he hb hv (h _ _ _ _ hs)⟩
theorem FN.make {P:Program}{w:World}{K:W.Frag}{mg:Str->Option Value}{base:Heap}{A:Around}{outer:List Env}{s:Shared}{H:Hp}(e:FN P w K mg base A outer s H)(C:Addr)(us:List Value)(kw:List (Str × Value)) :
  FN P w K mg base (A.under (.builtin "type.__call__" ⟨.ref C::us,kw⟩)) outer s H:=⟨by first | exact e.frames | (simpa [Around.under,Code.envs,Code.isFrame,pushEnvs] using e.frames),e.mod,e.bs,e.sE,e.ni,e.Bc,e.hok,e.bare⟩
section
variable {X:Cx}{ao:AC}{σ:St}{H:Hp}{s s':Shared}
theorem aL.env0 (I:aL X ao σ H s):FN X.prog X.w X.K X.mg X.base X.A X.stack s H:=
 ⟨I.ok.frames,I.ok.mod,I.bs,cq I.ok.sE I.sz,I.stack,I.qg,I.hok,I.bare⟩
theorem aL.after {Q:VK}{u:Value}(I:aL X ao σ H s)(h:CE X.stack X.prog X.w H s Q u s'):EP X ao σ Q u s':=by
 obtain⟨v,H',os,bare,un,hok,r,q⟩:=h;obtain⟨hh,g,d,t,os'⟩:=s';obtain rfl:os'=s.os:=os;exact⟨v,H',I.call (h':=hh) (g':=g) (d':=d) (t':=t) (ch:=[]) un hok bare (λb z=>absurd z (by simp)),r,q⟩
end
def Hq (sp:Sp)(ji:List V)(E:XK)(t:TA):TE:=λσ H Q=>t σ H λvs H1=>sp (vs++ji) H1 Q E
def Nb (C:Addr)(m:Str)(sp:Sp)(ji:List V)(E:XK)(ta:TE)(t:TA):TE:=λσ H Q=>ta σ H λx H1=>∃a dx fs,x=.ref a/\H1 a=some (.ins C dx fs)/\fs.lookup m=none/\
 t σ H1 λvs H2=>sp (x::(vs++ji)) H2 Q E
def acq (C:Addr)(sp:Sp)(ji:List V)(E:XK)(t:TA):TE:=λσ H Q=>t σ H λvs H1=>∀x dx,H1 x=none->H1 dx=none->dx≠x->
 sp (.ref x::(vs++ji)) (upd (upd H1 dx (.own x)) x (.ins C dx [])) (λv H2=>v=.non/\Q (.ref x) H2) E
def cJ (K:W.Frag)(fd:FuncData)(ps:List Str)(ds:List Value):Prop:=
 ∀(s:Shared) (us:List Value),K.In s.heap->(us++ds).length=ps.length->BindsTo s fd ⟨us,[]⟩ (ps.zip (us++ds))
theorem cJ.all {K:W.Frag}{fd:FuncData}{ps:List Str}(h:∀us:List Value,us.length=ps.length->bindArgs fd ⟨us,[]⟩=pure (ps.zip us)):cJ K fd ps []:=λs us _ hl=>by
 rw[fh]at hl ⊢;exact .of_eq (h us hl)
def Passes (CX:nH)(X:Cx)(E:XK):Prop:=∀(ao:AC) (σ:St) (H:Hp) (s:Shared) (e:Value) (s':Shared),aL X ao σ H s->CX X.stack H s E e s'->X.xe e s'
section
variable {X:Cx}{CX:nH}{k:Nat}{f C:Addr}{fd:FuncData}{ps:List Str}{sp:Sp}{ji:List V}{ds:List Value}{E:XK}{x m:Str}{p pos apos:Pos}{e o:Expr}{es:List Expr}{ta:TE}{t:TA}
variable {ks:List Str}
theorem NT {ao:AC}{σ:St}{H:Hp}{s:Shared}{Q:VK}{us:List Value}{vs:List V}(F:cM X.prog X.w X.K X.mg X.base CX k f fd ps sp)(hr:d7 k X.A)(hb:cJ X.K fd ps ds)(hd:Vals ji ds)(hx:Passes CX X E)
  (I:aL X ao σ H s) (r:Vals vs us) (h:sp (vs++ji) H Q E):wpAny (model X.prog X.w) X.A (call (.ref f) us) (EP X ao σ Q) X.xe s:=by
 have r2:Vals (vs++ji) (us++ds):=r.append hd;have hl:(us++ds).length=ps.length:=by rw[<- r2.length];exact F.len _ _ _ _ h
 refine ic (ja (F.run X.A X.stack s H ⟨us,[]⟩ (us++ds) (vs++ji) Q E hr I.env0 (hb s us I.gO hl) r2 h) λr s' hq=>?_);cases r with
 | error e=>exact hx ao σ H s e s' I hq
 | ok fl=>
  cases fl with
  | ret u=>exact I.after hq
  | next=>exact False.elim hq
  | brk=>exact False.elim hq
  | cont=>exact False.elim hq
theorem ac8 (F:cM X.prog X.w X.K X.mg X.base CX k f fd ps sp)(hr:d7 k X.A)(hg:Gl X x)(hm:X.mg x=some (.ref f))(hk:W.keepIn X.K (.ref f)=true)(hb:cJ X.K fd ps ds)(hd:Vals ji ds)(hx:Passes CX X E)
  (ha:PA X (e::es) t) (hdb:(x==("__debug__":Str))=false:=by decide) (he:starEach (e::es) X.env=(false,eval e X.env)::starEach es X.env:=by rfl) (hpl:(backTo pos (starEach es X.env)).any (·.1)=false:=by rfl) :
  PE X (.Call (.Name x p) (e::es) [] pos) (Hq sp ji E t):=by
 intro ao s σ H Q I h;refine gg (oJ I hg hm ?_ hdb);refine ie (h₀:=X.base) I.ok.mod.Hg hk (bR (ha pos ao s σ H _ I h) λus s1 ⟨vs,H1,I1,r,q⟩=>⟨I1.gO,?_⟩) he hpl;exact NT F hr hb hd hx I1 r q
theorem ac9 {pl:Sem Bool}(he:PE X o ta)(c:Cls X.K C)(hm:Meth X.K C m f)(F:cM X.prog X.w X.K X.mg X.base CX k f fd ps sp)(hr:d7 k X.A)(hb:cJ X.K fd ps ds)(hd:Vals ji ds)(hx:Passes CX X E)(ha:PA X (e::es) t)
  (hst:starEach (e::es) X.env=(false,eval e X.env)::starEach es X.env:=by rfl) (hpl:(backTo pos (starEach es X.env)).any (·.1)=false:=by rfl)
  (ht:eval (.Call (.Attribute o m apos) (e::es) [] pos) X.env=(do
   let ov <- eval o X.env
   standAt apos.atName
   let (f,first) <- holding [ov] (getMethod ov m pl)
   callWith pos f first (backTo pos (starEach (e::es) X.env)) (backToKw pos (keywordEach [] X.env))):=by rfl) :
  PE X (.Call (.Attribute o m apos) (e::es) [] pos) (Nb C m sp ji E ta t):=by
 intro ao s σ H Q I h;refine W.methodCall_KW (pl:=pl) (bR (he ao s σ H _ I h) λu s1 zz=>?_) ht;obtain⟨x,H1,I1,rx,a,dx,fs,ex,ea,l,q⟩:=zz;subst ex;obtain rfl:u=Value.ref a:=rx;refine Ho I1 ea c hm l ?_;refine ie (first:=[.ref a]) (h₀:=X.base) I.ok.mod.Hg hm.kp (bR (ha pos ao s1 σ H1 _ I1 q) λus s2 ⟨vs,H2,I2,r,q2⟩=>⟨I2.gO,?_⟩) hst hpl;exact NT (us:=.ref a::us) (vs:=.ref a::vs) F hr hb hd hx I2 (.cons rfl r) q2
theorem aas {pl:Sem Bool}(he:PE X o ta)(c:Cls X.K C)(hm:Meth X.K C m f)(F:cM X.prog X.w X.K X.mg X.base CX k f fd ps sp)(hr:d7 k X.A)(hb:cJ X.K fd ps ds)(hd:Vals ji ds)(hx:Passes CX X E)
  (ht:eval (.Call (.Attribute o m apos) [] [] pos) X.env=(do
   let ov <- eval o X.env
   standAt apos.atName
   let (f,first) <- holding [ov] (getMethod ov m pl)
   callWith pos f first (backTo pos (starEach [] X.env)) (backToKw pos (keywordEach [] X.env))):=by rfl) :
  PE X (.Call (.Attribute o m apos) [] [] pos) (Nb C m sp ji E ta rQ):=by
 intro ao s σ H Q I h;refine W.methodCall_KW (pl:=pl) (bR (he ao s σ H _ I h) λu s1 zz=>?_) ht;obtain⟨x,H1,I1,rx,a,dx,fs,ex,ea,l,q⟩:=zz;subst ex;obtain rfl:u=Value.ref a:=rx;refine Ho I1 ea c hm l ?_;exact W.callWith_K0 (first:=[.ref a]) I1.gO hm.kp (NT (us:=[.ref a]) (vs:=[.ref a]) F hr hb hd hx I1 (.cons rfl .nil) q)
structure Mk (K:W.Frag)(C f:Addr):Prop where
 makes:W.makesIn K C=true
 init:W.findIn K (.ref C) "__init__"=some (some (.ref f))
 fn:W.isFn K (.ref f)=true
 kp:W.keepIn K (.ref C)=true
theorem aat {ao:AC}{σ:St}{H:Hp}{s:Shared}{Q:VK}{us:List Value}{vs:List V}(M:Mk X.K C f)(F:cM X.prog X.w X.K X.mg X.base CX k f fd ps sp)(hr:d7 (k+1) X.A)(hb:cJ X.K fd ps ds)(hd:Vals ji ds)
  (hx:Passes CX X E) (I:aL X ao σ H s) (r:Vals vs us)
  (h:∀x dx,H x=none->H dx=none->dx≠x->sp (.ref x::(vs++ji)) (upd (upd H dx (.own x)) x (.ins C dx [])) (λv H2=>v=.non/\Q (.ref x) H2) E) :
  wpAny (model X.prog X.w) X.A (call (.ref C) us) (EP X ao σ Q) X.xe s:=by
 have hq:=h (s.heap.objs.size+1) s.heap.objs.size (I.hok.fresh (iq _)) (I.hok.fresh (ap _)) (ba (gc _));have I2:=aL.made (C:=C) I;have r2:Vals (V.ref (s.heap.objs.size+1)::(vs++ji)) (Value.ref (s.heap.objs.size+1)::(us++ds)):=.cons rfl (r.append hd);have hl:(Value.ref (s.heap.objs.size+1)::us++ds).length=ps.length:=by
  have e:=r2.length;rw[F.len _ _ _ _ hq]at e;exact e.symm
 refine ic (aar (f:=f) I.gO M.makes M.init (beq_iff_eq.mp M.fn) (ja (F.run _ X.stack _ _ ⟨Value.ref (s.heap.objs.size+1)::us,[]⟩ (Value.ref (s.heap.objs.size+1)::(us++ds)) _ _ E (hr.make C us [])
  (I2.env0.make C us []) (hb _ (Value.ref (s.heap.objs.size+1)::us) I2.gO hl) r2 hq) λr s' hq'=>?_))
 cases r with
 | error e=>exact hx ao σ _ _ e s' I2 hq'
 | ok fl=>
  cases fl with
  | ret u=>
   obtain⟨v,H',I3,rv,ev,q3⟩:=I2.after hq';subst ev;exact⟨rv,⟨V.ref (s.heap.objs.size+1),H',I3,rfl,q3⟩⟩
  | next=>exact False.elim hq'
  | brk=>exact False.elim hq'
  | cont=>exact False.elim hq'
theorem ac_ (M:Mk X.K C f)(F:cM X.prog X.w X.K X.mg X.base CX k f fd ps sp)(hr:d7 (k+1) X.A)(hg:Gl X x)(hm:X.mg x=some (.ref C))(hb:cJ X.K fd ps ds)(hd:Vals ji ds)(hx:Passes CX X E)
  (ha:PA X (e::es) t) (hdb:(x==("__debug__":Str))=false:=by decide) (he:starEach (e::es) X.env=(false,eval e X.env)::starEach es X.env:=by rfl) (hpl:(backTo pos (starEach es X.env)).any (·.1)=false:=by rfl) :
  PE X (.Call (.Name x p) (e::es) [] pos) (acq C sp ji E t):=by
 intro ao s σ H Q I h;refine gg (oJ I hg hm ?_ hdb);refine ie (h₀:=X.base) I.ok.mod.Hg M.kp (bR (ha pos ao s σ H _ I h) λus s1 ⟨vs,H1,I1,r,q⟩=>⟨I1.gO,?_⟩) he hpl;exact aat M F hr hb hd hx I1 r q
structure aiE (K:W.Frag)(fd:FuncData)(ps ks:List Str)(g:List Value->List Value->List Value)(gV:List V->List V->List V):Prop where
 to:∀(s:Shared) (us ws:List Value),K.In s.heap->(g us ws).length=ps.length->BindsTo s fd ⟨us,ks.zip ws⟩ (ps.zip (g us ws))
 rel:∀{vs:List V} {us:List Value} {zs:List V} {ws:List Value},Vals vs us->Vals zs ws->Vals (gV vs zs) (g us ws)
end
structure aZ (N P:List Str)(sc:Scope):Prop where
 kind:sc.kind=.function:=by rfl
 co:sc.isCoroutine=false:=by rfl
 gen:sc.isGenerator=false:=by rfl
 nd:N.Nodup:=by decide +kernel
 pre:N.take P.length=P:=by rfl
 par:∀x∈P,sc.names.lookup x=some .local\/sc.names.lookup x=some .cell:=by decide +kernel
 afp:∀y∈sc.names,y.2≠.free:=by decide +kernel
theorem Kw {kindOf:Str->Option NameKind}{x:Str}:∀{binds:List (Str × Value)} {m:Str->Option Value},(∀v,(x,v)∉binds)->bindL kindOf binds m x=m x
 | [],_,_=>rfl
 | (n,v)::r,m,h=>by
  unfold bindL;rw[Kw λw hw=>h w (a_ _ hw)]
  split
  ·have:x≠n:=by rintro rfl;exact h v bq
   simp[this]
  ·rfl
theorem Ky {kindOf:Str->Option NameKind}{x:Str}:∀{binds:List (Str × Value)} {m:Str->Option Value},(∀v,(x,v)∉binds)->bindC kindOf binds m x=m x
 | [],_,_=>rfl
 | (n,v)::r,m,h=>by
  unfold bindC;rw[Ky λw hw=>h w (a_ _ hw)]
  split
  ·rfl
  ·have:x≠n:=by rintro rfl;exact h v bq
   simp[this]
theorem Kz {kindOf:Str->Option NameKind}{x:Str}{v:Value}:∀{P:List Str} {vs:List Value} {i:Nat} {m:Str->Option Value},P.Nodup->P[i]?=some x->vs[i]?=some v->kindOf x=some .local->
  bindL kindOf (P.zip vs) m x=some v
 | [],_,_,_,_,h,_,_=>by simp at h
 | _::_,[],_,_,_,_,h,_=>by simp at h
 | p::P,w::vs,0,m,nd,h1,h2,hk=>by
  simp at h1 h2;subst h1;subst h2;show bindL kindOf ((p,w)::P.zip vs) m p=_;unfold bindL;rw[Kw λv hv=>(fi.mp nd).1 (nc hv).1,if_pos hk];simp
 | p::P,w::vs,i+1,m,nd,h1,h2,hk=>by
  show bindL kindOf ((p,w)::P.zip vs) m x=_;unfold bindL;exact Kz (i:=i) (fi.mp nd).2 (by simpa using h1) (by simpa using h2) hk
theorem KC {kindOf:Str->Option NameKind}{x:Str}{v:Value}:∀{P:List Str} {vs:List Value} {i:Nat} {m:Str->Option Value},P.Nodup->P[i]?=some x->vs[i]?=some v->kindOf x≠some .local->
  bindC kindOf (P.zip vs) m x=some v
 | [],_,_,_,_,h,_,_=>by simp at h
 | _::_,[],_,_,_,_,h,_=>by simp at h
 | p::P,w::vs,0,m,nd,h1,h2,hk=>by
  simp at h1 h2;subst h1;subst h2;show bindC kindOf ((p,w)::P.zip vs) m p=_;unfold bindC;rw[Ky λv hv=>(fi.mp nd).1 (nc hv).1,if_neg hk];simp
 | p::P,w::vs,i+1,m,nd,h1,h2,hk=>by
  show bindC kindOf ((p,w)::P.zip vs) m x=_;unfold bindC;exact KC (i:=i) (fi.mp nd).2 (by simpa using h1) (by simpa using h2) hk
noncomputable def start (N:List Str)(vs:List V):St:=vs.map some++List.replicate (N.length-vs.length) none
noncomputable def ql (CX:nH)(P:Program)(w:World)(K:W.Frag)(mg:Str->Option Value)(base:Heap)(N:List Str)(qual:Str)(scope:Scope)(f:Addr)(cd:Value)(A:Around)(outer:List Env)(s:Shared)(H:Hp)(E:XK):Cx where
 prog:=P
 w:=w
 K:=K
 mg:=mg
 base:=base
 A:=A.deeper (envOfC qual scope s.heap.objs.size f cd)
 N:=N
 s₀:=s
 H₀:=H
 env:=envOfC qual scope s.heap.objs.size f cd
 outer:=outer
 stack:=envOfC qual scope s.heap.objs.size f cd::outer
 ex:=[]
 calm:=true
 fn:=λ_=>true
 pn:=[]
 xe:=λe s'=>wpAny (model P w) (A.deeper (envOfC qual scope s.heap.objs.size f cd)) (leaving (envOfC qual scope s.heap.objs.size f cd) e) (λ_ s''=>CX outer H s E e s'') (λe' s''=>CX outer H s E e' s'') s'
theorem NZ {sc:Scope}{n:Nat}{x:Str}(h:sc.names.lookup x=some .cell):∃c,(cellsFrom n sc.names []).lookup x=some c:=by
 have q:=W.cellsFrom_some sc.names n [] (.inl h);exact gT.mp q
theorem W4 {CX:nH}{P:Program}{w:World}{K:W.Frag}{mg:Str->Option Value}{base:Heap}{N ps:List Str}{qual:Str}{scope:Scope}{f:Addr}{cd:Value}{A:Around}{outer:List Env}{s s1:Shared}{H:Hp}{E:XK}{us:List Value}{vs:List V}
  (S:aZ N ps scope) (hd:A.handled=none) (e0:FN P w K mg base A outer s H) (hl:vs.length=ps.length) (r:Vals vs us)
  (x:InCallC s s.heap.objs.size (bindL (envOfC qual scope s.heap.objs.size f cd).kindOf (ps.zip us) λ_=>none) (cellsFrom (s.heap.objs.size+1) scope.names []) (bindC (envOfC qual scope s.heap.objs.size f cd).kindOf (ps.zip us) λ_=>none) s1) :
  aL (ql CX P w K mg base N qual scope f cd A outer s H E) [] (start N vs) H s1:=by
 have hpl:ps.length<=N.length:=by have:=congrArg List.length S.pre;rw[aI]at this;lia
 obtain⟨h1,tk,rfl,hk⟩:=x.done;have W5:∀b:Addr,b∉(ql CX P w K mg base N qual scope f cd A outer s H E).ex:=λb z=>absurd (show b∈([]:List Addr) from z) (by simp);refine⟨⟨e0.mod,S.kind,rfl,rfl,ap _,λy z c h1 h2=>?_,λy hy=>?_,λy c _ h=>?_,λ_=>hd,Around.frames_deeper e0.frames,.inr ⟨rfl,rfl⟩,λb z=>absurd z (W5 b),e0.bs,e0.sE,λb _ _=>W5 b,λb z=>absurd z (W5 b),e0.ni,e0.Bc⟩,
  rfl,e0.bare,Un.kept hk,⟨_,x.toInCall.ns,λi y v h1 h2 h3=>?_⟩,λy c h=>⟨_,x.cell y c h⟩,e0.hok.fresh (ap _),λy c h=>?_,λp hp=>absurd (show p∈([]:AC) from hp) (by simp),e0.hok.kept hk,?_⟩
 ·exact name_of_addr x.apart (hJ h1) (hJ h2)
 ·have hy:scope.names.lookup y=some .cell\/scope.names.lookup y=some .free:=hy
  rcases hy with hy | hy
  ·exact NZ hy
  ·exact absurd rfl (S.afp _ (hJ hy))
 ·exact aT (x.above y c (hJ h))
 ·have hi:i < vs.length:=by
   unfold start at h2;by_cases hi:i < vs.length
   ·exact hi
   ·rw[cz (by simpa using hi)]at h2
    rw[ka]at h2
    split at h2 <;> cases h2
  have ha:vs[i]?=some v:=by
   unfold start at h2;rw[c8 (by simpa using hi),a7]at h2;cases e:vs[i]? with
   | none=>rw[e]at h2;cases h2
   | some a=>rw[e]at h2;cases h2;rfl
  obtain⟨u,hu,rv⟩:=r.get ha;have hp:ps[i]?=some y:=by
   rw[<- S.pre,jb (by lia)];exact h1
  have ndP:ps.Nodup:=by rw[<- S.pre];exact S.nd.sublist (List.take_sublist _ _)
  refine⟨u,rv,?_⟩;rcases S.par y (be hp) with k | k
  ·exact .inl ⟨k,Kz ndP hp hu k⟩
  ·obtain⟨c,e⟩:=NZ (n:=s.heap.objs.size+1) k
   refine .inr ⟨.inl k,c,e,?_⟩;have q:=x.cell y c e;rw[KC ndP hp hu (by show scope.names.lookup y≠_;rw[k];decide)]at q;exact q
 ·exact e0.hok.fresh (aT (x.above y c (hJ h)))
 ·unfold start
  show _=N.length;rw[bc,aa,ck];lia
theorem acr {CX:nH}{P:Program}{w:World}{K:W.Frag}{mg:Str->Option Value}{base:Heap}{k:Nat}{f:Addr}{name qual:Str}{params:Arguments}{body:List Stmt}{scope:Scope}{dV kV doc pm bL ct oc:Value}{an od:Option Addr}
  {osl:Array (Option Value)} {N ps:List Str} {sp:Sp} (lk:K.lookup f=some ⟨oc,od,.func (W.fnOf name qual params body scope dV kV doc pm an bL ct),osl⟩) (hcd:W.codeIn K bL qual=true) (S:aZ N ps scope)
  (len:∀vs H Q E,sp vs H Q E->vs.length=ps.length)
  (hbody:∀(A:Around) (outer:List Env) (s:Shared) (H:Hp) (vs:List V) (Q:VK) (E:XK),d7 k (A.deeper (envOfC qual scope s.heap.objs.size f bL))->sp vs H Q E->
   ∃t,sJ (ql CX P w K mg base N qual scope f bL A outer s H E) body t/\t { nx:=λ_ H'=>Q .non H',rt:=Q } (start N vs) H) :
  cM P w K mg base CX (k+1) f (W.fnOf name qual params body scope dV kV doc pm an bL ct) ps sp:=by
 refine⟨len,λA outer s H args us vs Q E hr e0 hb r hsp=>?_⟩;have hl:=len _ _ _ _ hsp;have KX:K.In s.heap:=e0.mod.Hg.keeps λb o e=>(e0.bs b o e).1;have lim:s.heap.NoLimit:=e0.mod.nolimit.keeps λb o e=>(e0.bs b o e).1;have hkind:∀y∈ps.zip us,scope.names.lookup y.1=some .local\/(scope.names.lookup y.1=some .cell/\((cellsFrom (s.heap.objs.size+1) scope.names []).lookup y.1).isSome=true):=λ⟨n,v⟩ hy=>by
  rcases S.par n (nc hy).1 with q | q
  ·exact .inl q
  ·exact .inr ⟨q,W.cellsFrom_some _ _ _ (.inl q)⟩
 refine codeAny_call_function hr.depth (KX _ _ lk) rfl S.co S.gen rfl (W.codeRec_of KX hcd) (hb _ _ _ _ ?_);refine wpAny_newFunctionEnv_cells S.kind hkind λenv he s1 x=>?_;subst he;refine⟨lim.keeps x.toInCall.keep,codeAny_func ?_⟩;obtain⟨t,ht,hq⟩:=hbody A outer s H vs Q E (hr.deeper _) hsp;have I:aL (ql CX P w K mg base N qual scope f bL A outer s H E) [] (start N vs) H s1:=W4 S hr.hd e0 hl r x;refine dA (ht [] s1 (start N vs) H _ I hq) (λfl s' hs=>?_) λe s' hs=>hs;have fin:∀{σ':St} {H':Hp} {v:V} {u:Value},aL (ql CX P w K mg base N qual scope f bL A outer s H E) [] σ' H' s'->cA v u->Q v H'->CE outer P w H s Q u s':=
  λ{σ' H' v u} J rv q=>⟨v,H',J.os,J.bare,J.base,J.hok,rv,q⟩
 cases fl with
 | ret u=>
  obtain⟨v,σ',H',J,rv,q⟩:=hs;exact fin J rv q
 | next=>
  obtain⟨σ',H',J,q⟩:=hs;exact fin (v:=V.non) (u:=Value.none) J rfl q
 | brk=>
  obtain⟨_,_,_,q⟩:=hs;exact False.elim q
 | cont=>
  obtain⟨_,_,_,q⟩:=hs;exact False.elim q
section
variable {X:Cx}{x:Str}{p pos:Pos}{e:Expr}{es:List Expr}{t:TA}{id T:String}{r:List V->Hp->VK->Prop}
def N5 (r:List V->Hp->VK->Prop)(t:TA):TE:=λσ H Q=>t σ H λvs H1=>r vs H1 Q
theorem aau (hc:gq X (.builtin id) r)(hg:Gl X x)(hm:X.mg x=none)(hv:bootBuiltins x=some (.builtin id))(ha:PA X (e::es) t)(hn:x≠"__name__":=by decide)(hdb:(x==("__debug__":Str))=false:=by decide)
  (he:starEach (e::es) X.env=(false,eval e X.env)::starEach es X.env:=by rfl) (hpl:(backTo pos (starEach es X.env)).any (·.1)=false:=by rfl):PE X (.Call (.Name x p) (e::es) [] pos) (N5 r t):=by
 intro ao s σ H Q I h;refine gg (xT I hg hm hv ?_ hn hdb);exact kN (bR (ha pos ao s σ H _ I h) λus s1 ⟨vs,H1,I1,r1,q1⟩=>hc ao s1 σ H1 vs us Q I1 r1 q1) he hpl
theorem W6 (hc:gq X (.type T) r)(hg:Gl X x)(hm:X.mg x=none)(hv:bootBuiltins x=some (.type T))(ha:PA X (e::es) t)(hn:x≠"__name__":=by decide)(hdb:(x==("__debug__":Str))=false:=by decide)
  (he:starEach (e::es) X.env=(false,eval e X.env)::starEach es X.env:=by rfl) (hpl:(backTo pos (starEach es X.env)).any (·.1)=false:=by rfl):PE X (.Call (.Name x p) (e::es) [] pos) (N5 r t):=by
 intro ao s σ H Q I h;refine gg (xT I hg hm hv ?_ hn hdb);exact gf (bR (ha pos ao s σ H _ I h) λus s1 ⟨vs,H1,I1,r1,q1⟩=>hc ao s1 σ H1 vs us Q I1 r1 q1) he hpl
end
end L2
namespace HT
open PySem PyProof.Rows
section
noncomputable def gZ (n d:Nat):Option Int->Nat
 | none=>d
 | some v=>if v < 0 then (v+(n:Int)).toNat else min v.toNat n
theorem uz (n d:Nat):gZ n d none=d:=rfl
theorem qm (n d k:Nat):gZ n d (some (k:Int))=min k n:=by
 show (if (k:Int) < 0 then ((k:Int)+(n:Int)).toNat else min (k:Int).toNat n)=min k n;rw[if_neg (by lia),df]
theorem afq (n d:Nat)(hd:d<=n)(o:Option Int):gZ n d o<=n:=by
 cases o with
 | none=>exact hd
 | some v=>
  show (if v < 0 then (v+(n:Int)).toNat else min v.toNat n)<=n;by_cases hv:v < 0
  ·rw[if_pos hv];lia
  ·rw[if_neg hv];exact mB _ _
theorem ada (v:Int)(n d:Nat):(if v < 0 then max (v+(n:Int)) 0 else min v (n:Int))=((gZ n d (some v):Nat):Int):=by
 show (if v < 0 then max (v+(n:Int)) 0 else min v (n:Int))=(((if v < 0 then (v+(n:Int)).toNat else min v.toNat n):Nat):Int)
 by_cases hv:v < 0
 ·simp only[if_pos hv];lia
 ·simp only[if_neg hv];lia
end
end HT
namespace L2
open PySem PySem.Spec PyProof.Rows
abbrev TO:=St->Hp->(Option Int->Hp->Prop)->Prop
def PO (X:Cx)(e:Option Expr)(t:TO):Prop:=
 ∀(ao:AC) (s:Shared) (σ:St) (H:Hp) (Q:Option Int->Hp->Prop),aL X ao σ H s->t σ H Q->
  wpAny (model X.prog X.w) X.A (evalPart e X.env) (λu s'=>∃o H',aL X ao σ H' s'/\IsPart u o/\Q o H') X.xe s
def RX:TO:=λ_ H Q=>Q none H
def acs (t:TE):TO:=λσ H Q=>t σ H λx H1=>∃i,x=.int i/\Q (some i) H1
section
variable {X:Cx}{e:Expr}{te:TE}{lo hi:Option Expr}{tl th:TO}{pos p2:Pos}
theorem adb:PO X none RX:=by
 intro ao s σ H Q I h;rw[evalPart_none];exact av ⟨none,H,I,.none,h⟩
theorem ade (h:PE X e te):PO X (some e) (acs te):=by
 intro ao s σ H Q I hw;rw[evalPart_some];refine bR (h ao s σ H _ I hw) λu s1 zz=>?_;obtain⟨x,H1,I1,r1,q1⟩:=zz;obtain⟨i,rfl,q⟩:=q1;obtain⟨t,rfl⟩:=r1;exact⟨some i,H1,I1,.int i t,q⟩
def SlR (X:Cx)(r:V->Option Int->Option Int->Hp->VK->Prop):Prop:=
 ∀(ao:AC) (s:Shared) (σ:St) (H:Hp) (x:V) (v vl vu:Value) (lo hi:Option Int) (sl:Addr) (Q:VK),aL X ao σ H s->cA x v->s.heap.IsSliceOf sl vl vu .none->IsPart vl lo->IsPart vu hi->r x lo hi H Q->
  ∃T id,typeLookup (.type T) "__getitem__"=pure (some (.builtin id))/\s.TypeIs v T/\wpAny (model X.prog X.w) X.A (getItem v (.ref sl)) (EP X ao σ Q) X.xe s
def tSl (r:V->Option Int->Option Int->Hp->VK->Prop)(te:TE)(tl th:TO):TE:=λσ H Q=>te σ H λx H1=>tl σ H1 λl H2=>th σ H2 λu H3=>r x l u H3 Q
theorem aav {r:V->Option Int->Option Int->Hp->VK->Prop}(hr:SlR X r)(he:PE X e te)(hl:PO X lo tl)(hu:PO X hi th):PE X (.Subscript e (.Slice lo hi none p2) pos) (tSl r te tl th):=by
 intro ao s σ H Q I h;refine Subscript_ (bR (he ao s σ H _ I h) λv s1 zz=>?_);obtain⟨x,H1,I1,r1,q1⟩:=zz;refine wpAny_Slice (bR (hl ao s1 σ H1 _ I1 q1) λvl s2 zz=>?_);obtain⟨l,H2,I2,pl,q2⟩:=zz;refine bR (hu ao s2 σ H2 _ I2 q2) λvu s3 zz=>?_;obtain⟨u,H3,I3,pu,q3⟩:=zz;rw[evalPart_none];refine av ?_;have I4:aL X ao σ H3 { s3 with heap:=s3.heap.push { cls:=.type "slice",data:=.fields #[vl,vu,.none] } }:=I3.kept (t':=s3.toks) λb ob q=>ag _ q;obtain⟨T,id,hT,ht,hg⟩:=hr ao { s3 with heap:=s3.heap.push { cls:=.type "slice",data:=.fields #[vl,vu,.none] } } σ H3 x v vl vu l u s3.heap.objs.size Q I4 r1 (Heap.IsSliceOf.new ..) pl pu q3;show wpAny (model X.prog X.w) X.A (subscriptTail e (.Slice lo hi none p2) v (.ref s3.heap.objs.size)) (EP X ao σ Q) X.xe { s3 with heap:=s3.heap.push { cls:=.type "slice",data:=.fields #[vl,vu,.none] } };exact tail_any (ops:=[.ref s3.heap.objs.size,v]) ht hT hg (by with_unfolding_all rfl)
noncomputable def oE (xs:List V)(lo hi:Option Int):List V:=(xs.drop (HT.gZ xs.length 0 lo)).take (HT.gZ xs.length xs.length hi-HT.gZ xs.length 0 lo)
theorem Rh (xs:List V)(lo hi:Option Int):(oE xs lo hi).length<=xs.length:=by
 unfold oE;rw[aI,bt];lia
end
noncomputable def vD (n:Nat)(i:Int):Option Nat:=if 0<=i then (if i < n then some i.toNat else none) else if -(n:Int)<=i then some (i+n).toNat else none
def oM {α:Type}(xs:List α)(i:Int):Option α:=(vD xs.length i).bind λj=>xs[j]?
theorem RZ {n:Nat}{i:Int}{j:Nat}(h:vD n i=some j):seqIndex? i n=some j/\j < n/\-(n:Int)<=i/\i < n:=by
 unfold vD at h;by_cases h0:0<=i
 ·rw[if_pos h0]at h
  by_cases h1:i < n
  ·rw[if_pos h1]at h
   have e:i.toNat=j:=aw h;exact⟨by rw[seqIndex_of h0 h1,e],by lia,by lia,h1⟩
  ·rw[if_neg h1]at h;cases h
 ·rw[if_neg h0]at h
  by_cases h1:-(n:Int)<=i
  ·rw[if_pos h1]at h
   have e:(i+n).toNat=j:=aw h;exact⟨by rw[seqIndex_neg (by lia) h1,e],by lia,h1,by lia⟩
  ·rw[if_neg h1]at h;cases h
theorem Ju {α:Type}{xs:List α}{i:Int}{v:α}(h:oM xs i=some v):∃j,seqIndex? i xs.length=some j/\xs[j]?=some v/\j < xs.length/\-(xs.length:Int)<=i/\i < xs.length:=by
 unfold oM at h;cases e:vD xs.length i with
 | none=>rw[e]at h;cases h
 | some j=>
  rw[e]at h;obtain⟨h1,h2,h3,h4⟩:=RZ e;exact⟨j,h1,h,h2,h3,h4⟩
theorem aH {α:Type}{xs:List α}{j:Nat}{v:α}(h:xs[j]?=some v):oM xs (j:Int)=some v:=by
 have hj:j < xs.length:=(af.mp h).1;have e:vD xs.length (j:Int)=some j:=by
  unfold vD;rw[if_pos (by lia),if_pos (by lia)];simp
 unfold oM;rw[e];exact h
theorem aaw {α:Type}(xs:List α)(v:α):oM (xs++[v]) (-1)=some v:=by
 have hl:(xs++[v]).length=xs.length+1:=by simp
 have e:vD (xs++[v]).length (-1)=some xs.length:=by
  unfold vD;rw[hl,if_neg (by decide),if_pos (by lia)];congr 1;lia
 unfold oM;rw[e];show (xs++[v])[xs.length]?=some v;simp
def R0 (b:Expr):Prop:=∀o i,subscripted b false o i=operate [o,i] (getItem o i)
def N6 (X:Cx)(r:R2):Prop:=
 ∀(value slice:Expr) (ao:AC) (s:Shared) (σ:St) (H:Hp) (x y:V) (v u:Value) (Q:VK),aL X ao σ H s->cA x v->cA y u->r x y H Q->
  subscripted slice false v u=operate [v,u] (getItem v u)->wpAny (model X.prog X.w) X.A (subscriptTail value slice v u) (EP X ao σ Q) X.xe s
def xV (X:Cx)(id:String)(r:V->List V->Hp->VK->Prop):Prop:=
 ∀(ao:AC) (s:Shared) (σ:St) (H:Hp) (x:V) (xs:List V) (v:Value) (us:List Value) (Q:VK),aL X ao σ H s->cA x v->Vals xs us->r x xs H Q->
  wpAny (model X.prog X.w) X.A (call (.builtin id) (v::us)) (EP X ao σ Q) X.xe s
section
variable {X:Cx}{a b:Expr}{ta tb:TE}{pos:Pos}
theorem ahd {r:R2}(hr:N6 X r)(ha:PE X a ta)(hb:PE X b tb)(hs:R0 b):PE X (.Subscript a b pos) (sO r ta tb):=by
 intro ao s σ H Q I h;exact Subscript_ (aam ha hb I h λv u s2 x y H2 I2 rx ry q=>hr a b ao s2 σ H2 x y v u Q I2 rx ry q (hs _ _))
def afr (K:W.Frag):R2:=λx y H Q=>∃p xs i v,x=.ref p/\y=.int i/\aW K H p xs/\oM xs i=some v/\Q v H
def N7 (K:W.Frag):R2:=λx y H Q=>∃p xs i v,x=.ref p/\y=.int i/\aP K H p xs/\oM xs i=some v/\Q v H
def ahK:R2:=λx y H Q=>∃z i c,x=.str z/\y=.int i/\z.length<=sizeLine/\oM z.cps.toList i=some c/\Q (.str ⟨#[c]⟩) H
theorem dD:N6 X (afr X.K):=by
 intro value slice ao s σ H x y v u Q I rx ry h hs;obtain⟨p,xs,i,z,rfl,rfl,hq,he,q⟩:=h;cases rx;obtain⟨t,rfl⟩:=ry;obtain⟨its,r,pl,hz⟩:=I.list hq;obtain⟨j,h1,h2,h3,h4,h5⟩:=Ju he;obtain⟨w,ew,Bf⟩:=r.get h2;have hl:=r.length;have hn:=xU;have fin:EP X ao σ Q w s:=⟨z,H,I,Bf,q⟩
 by_cases h0:0<=i
 ·have hj:i.toNat=j:=by
   rw[seqIndex_of h0 h5]at h1;exact aw h1
  exact item_listR pl.isList h0 (by lia) (by rw[hj];simpa using ew) fin hs
 ·have hj:(i+(its.toArray.size:Int)).toNat=j:=by
   rw[seqIndex_neg (by lia) h4]at h1;rw[bb,<- hl];exact aw h1
  exact subscriptTail_builtinR (x:=w) pl.isList.typeIs slot_list_getitem.lookup
   (wpAny_getItem_list_neg (Q:=λr s'=>r=w/\EP X ao σ Q r s') pl.isList (by lia) (by rw[bb] <;> lia) (by lia) (by rw[hj];simpa using ew) ⟨rfl,fin⟩) hs
theorem bh:N6 X (N7 X.K):=by
 intro value slice ao s σ H x y v u Q I rx ry h hs;obtain⟨p,xs,i,z,rfl,rfl,hq,he,q⟩:=h;cases rx;obtain⟨t,rfl⟩:=ry;obtain⟨its,r,pl,hz⟩:=I.tuple hq;obtain⟨j,h1,h2,h3,h4,h5⟩:=Ju he;obtain⟨w,ew,Bf⟩:=r.get h2;have hl:=r.length;have hn:=xU;have fin:EP X ao σ Q w s:=⟨z,H,I,Bf,q⟩
 exact subscriptTail_builtinR (x:=w) pl.typeIs slot_tuple_getitem.lookup
  (getItem_tuple (j:=j) (Q:=λr s'=>r=w/\EP X ao σ Q r s') pl (by lia) (by lia) (by rw[bb,<- hl];exact h1) (by simpa using ew) ⟨rfl,fin⟩) hs
theorem afs:N6 X ahK:=by
 intro value slice ao s σ H x y v u Q I rx ry h hs;obtain⟨z,i,c,rfl,rfl,hz,he,q⟩:=h;obtain⟨t,rfl⟩:=rx;obtain⟨t',rfl⟩:=ry;obtain⟨j,h1,h2,h3,h4,h5⟩:=Ju he;have hl:z.cps.toList.length=z.length:=by simp[Str.length]
 rw[hl]at h1 h4 h5;have hn:=xU;exact tail_any (typeIs_str s z t) slot_str_getitem.lookup (getItem_str (c:=c) (by
  have e1:decide (i < -(2^63:Int))=false:=al (by lia);have e2:decide (i>=2^63)=false:=al (by lia);rw[e1,e2,Bool.or_false]) (by rw[h1];simpa using h2) ⟨.str ⟨#[c]⟩,H,I.tok _,⟨_,rfl⟩,q⟩) hs
theorem Ut (its:List Value)(n j:Nat)(u:Value):Obj.mapSeq (·.setIfInBounds j u) { cls:=.type "list",data:=.seq its.toArray n }={ cls:=.type "list",data:=.seq (its.set j u).toArray n }:=by
 simp[Obj.mapSeq]
theorem aL.lst {ao:AC}{σ:St}{H:Hp}{s:Shared}{p:Addr}{xs:List V}(I:aL X ao σ H s)(h:H p=some (.lst xs)) :
  ∃(its:List Value) (n:Nat),Vals xs its/\s.heap.get? p=some { cls:=.type "list",data:=.seq its.toArray n }/\xs.length<=sizeLine:=by
 obtain⟨z,its,n,r,e⟩:=I.hok p _ h;exact⟨its,n,r,e,z⟩
theorem aL.aft {ao:AC}{σ:St}{H:Hp}{s:Shared}{p:Addr}{xs ys:List V}{its its':List Value}{n n':Nat}{f:Obj->Obj}(I:aL X ao σ H s)(h:H p=some (.lst xs))
  (ho:s.heap.get? p=some { cls:=.type "list",data:=.seq its.toArray n }) (hf:f { cls:=.type "list",data:=.seq its.toArray n }={ cls:=.type "list",data:=.seq its'.toArray n' }) (r:Vals ys its') (hz:ys.length<=sizeLine) (t:Nat) :
  aL X ao σ (upd H p (.lst ys)) { s with heap:=s.heap.update p f,toks:=t }:=by
 have e:(s.heap.update p f).get? p=some { cls:=.type "list",data:=.seq its'.toArray n' }:=by
  rw[fN f ho (by rw[hf] <;> rfl),hf]
 refine I.write (x:=p) (e:=p) (by rw[h];trivial) (.inl rfl) (λb u hb q=>(eP _ _ (f7 hb)).trans q) ⟨_,e⟩ ?_;exact⟨hz,its',n',r,e⟩
def ahe:V->V->V->Hp->(Hp->Prop)->Prop:=λo i v H Q=>∃p xs k j,o=.ref p/\i=.int k/\H p=some (.lst xs)/\vD xs.length k=some j/\Q (upd H p (.lst (xs.set j v)))
theorem set_list:aak X ahe:=by
 intro ao s σ H o i v ov iv u Q I ro ri rv h;obtain⟨p,xs,k,j,rfl,rfl,hp,hj,q⟩:=h;cases ro;obtain⟨t,rfl⟩:=ri;obtain⟨its,n,r,ho,hz⟩:=I.lst hp;obtain⟨h1,h2,h3,h4⟩:=RZ hj;have hl:=r.length;have hn:=xU;have I':aL X ao σ (upd H p (.lst (xs.set j v))) { s with heap:=s.heap.update p (Obj.mapSeq (·.setIfInBounds j u)) }:=
  I.aft hp ho (Ut its n j u) (r.set rv j) (by rw[eI];exact hz) s.toks
 by_cases h0:0<=k
 ·have hk:k.toNat=j:=by
   rw[seqIndex_of h0 h4]at h1;exact aw h1
  exact W.ki_setAt ho h0 (by lia) (by rw[bb,<- hl];exact h4) (by rw[hk];exact⟨_,I',q⟩)
 ·have hk:(k+(its.toArray.size:Int)).toNat=j:=by
   rw[seqIndex_neg (by lia) h3]at h1;rw[bb,<- hl];exact aw h1
  exact W.ki_setBack ho (by lia) (by rw[bb,<- hl];exact h3) (by lia) (by rw[hk];exact⟨_,I',q⟩)
theorem N8 (lo hi:Option Int)(n:Nat):(sliceBounds lo hi none n).1=((HT.gZ n 0 lo:Nat):Int)/\(sliceBounds lo hi none n).2.1=((HT.gZ n n hi:Nat):Int)/\(sliceBounds lo hi none n).2.2=1:=by
 refine⟨?_,?_,rfl⟩
 ·cases lo with
  | none=>simp[sliceBounds,HT.gZ]
  | some i=>
   simp only[sliceBounds,HT.gZ,Option.getD_none,show (1:Int) > 0 by decide,if_true];by_cases h:i < 0
   ·simp only[h,if_true] <;> lia
   ·simp only[h,if_false] <;> lia
 ·cases hi with
  | none=>simp[sliceBounds,HT.gZ]
  | some i=>
   simp only[sliceBounds,HT.gZ,Option.getD_none,show (1:Int) > 0 by decide,if_true];by_cases h:i < 0
   ·simp only[h,if_true] <;> lia
   ·simp only[h,if_false] <;> lia
theorem Ms (its:List Value)(lo hi:Option Int):slicePick its.toArray lo hi none=((its.drop (HT.gZ its.length 0 lo)).take (HT.gZ its.length its.length hi-HT.gZ its.length 0 lo)).toArray:=by
 obtain⟨h1,h2,h3⟩:=N8 lo hi its.toArray.size;unfold slicePick;rw[h1,h2,h3];simp only[sliceRange_one,pick_run,bb] <;> rfl
def ahL (K:W.Frag):V->Option Int->Option Int->Hp->VK->Prop:=λx lo hi H Q=>∃a xs,x=.ref a/\aW K H a xs/\∀p,H p=none->Q (.ref p) (upd H p (.lst (oE xs lo hi)))
theorem xW:SlR X (ahL X.K):=by
 intro ao s σ H x v vl vu lo hi sl Q I rx hs pl pu h;obtain⟨a,xs,rfl,hx,q⟩:=h;cases rx;obtain⟨its,r,ht,hz⟩:=I.list hx;have bY:=r.length;refine⟨"list",_,slot_list_getitem.lookup,ht.isList.typeIs,?_⟩;refine wpAny_getItem_list_slice ht.isList hs pl pu .none (by simp) ?_ (by rw[bb] <;> lia);rw[Ms,<- bY];refine⟨.ref s.heap.objs.size,_,I.laid (t':=s.toks) (o:=.lst (oE xs lo hi)) (λb ob q=>ag _ q) (ap _) ?_,rfl,q _ (I.hok.fresh (ap _))⟩;exact⟨cq (Rh xs lo hi) hz,_,0,(r.drop (HT.gZ xs.length 0 lo)).take (HT.gZ xs.length xs.length hi-HT.gZ xs.length 0 lo),a9 _ rfl⟩
def tE:V->Bool
 | .non=>true
 | .bl _=>true
 | .int _=>true
 | .str _=>true
 | _=>false
noncomputable def EY:V->V->Bool
 | .non,.non=>true
 | .bl a,.bl b=>a==b
 | .bl a,.int b=>(if a then 1 else 0)==b
 | .int a,.bl b=>a==(if b then 1 else 0)
 | .int a,.int b=>a==b
 | .str a,.str b=>a==b
 | _,_=>false
theorem afu {A:Around}{s:Shared}{y x:V}{u v:Value}(ry:cA y u)(rx:cA x v)(fy:tE y=true)(fx:tE x=true):SeqAt.EqAt A s u v (EY y x):=by
 cases y with
 | non=>
  cases ry;cases x with
  | non=>cases rx;exact SeqAt.EqAt.same _
  | bl b=>cases rx;exact SeqAt.EqAt.none_bool b
  | int b=>obtain⟨t,rfl⟩:=rx;exact SeqAt.EqAt.none_int b t
  | str b=>obtain⟨t,rfl⟩:=rx;exact SeqAt.EqAt.none_str b t
  | _=>exact absurd (show false=true from fx) bn
 | bl a=>
  cases ry;cases x with
  | non=>cases rx;exact SeqAt.EqAt.bool_none a
  | bl b=>cases rx;exact SeqAt.EqAt.bool_bool a b
  | int b=>obtain⟨t,rfl⟩:=rx;exact SeqAt.EqAt.bool_int a b t
  | str b=>obtain⟨t,rfl⟩:=rx;exact SeqAt.EqAt.bool_str a b t
  | _=>exact absurd (show false=true from fx) bn
 | int a=>
  obtain⟨t',rfl⟩:=ry;cases x with
  | non=>cases rx;exact SeqAt.EqAt.int_none a t'
  | bl b=>cases rx;exact SeqAt.EqAt.int_bool a t' b
  | int b=>obtain⟨t,rfl⟩:=rx;exact d6 a t' b t
  | str b=>obtain⟨t,rfl⟩:=rx;exact SeqAt.EqAt.int_str a t' b t
  | _=>exact absurd (show false=true from fx) bn
 | str a=>
  obtain⟨t',rfl⟩:=ry;cases x with
  | non=>cases rx;exact SeqAt.EqAt.str_none a t'
  | bl b=>cases rx;exact SeqAt.EqAt.str_bool a t' b
  | int b=>obtain⟨t,rfl⟩:=rx;exact SeqAt.EqAt.str_int a t' b t
  | str b=>obtain⟨t,rfl⟩:=rx;exact SeqAt.EqAt.str_str a t' b t
  | _=>exact absurd (show false=true from fx) bn
 | _=>exact absurd (show false=true from fy) bn
noncomputable def Hr (x:V)(u:Value):Bool:=match u with
 | .none=>EY .non x
 | .bool b=>EY (.bl b) x
 | .int i _=>EY (.int i) x
 | .str z _=>EY (.str z) x
 | _=>false
theorem W7 {x y:V}{u:Value}(r:cA y u)(f:tE y=true):Hr x u=EY y x:=by
 cases y with
 | non=>cases r;rfl
 | bl b=>cases r;rfl
 | int i=>obtain⟨t,rfl⟩:=r;rfl
 | str z=>obtain⟨t,rfl⟩:=r;rfl
 | _=>exact absurd (show false=true from f) bn
theorem Jv {x:V}:∀{xs:List V} {us:List Value},Vals xs us->xs.all tE=true->us.any (Hr x)=xs.any λy=>EY y x
 | _,_,.nil,_=>rfl
 | y::xs,u::us,.cons r t,f=>by
  rw[List.all_cons,cw]at f;rw[gu,gu,W7 r f.1,Jv t f.2]
theorem FP {A:Around}{s:Shared}{x:V}{v:Value}(rx:cA x v)(fx:tE x=true):∀{xs:List V} {us:List Value},Vals xs us->xs.all tE=true->∀u∈us,SeqAt.EqAt A s u v (Hr x u)
 | _,_,.nil,_=>λu hu=>by cases hu
 | y::xs,u::us,.cons r t,f=>λu' hu=>by
  rw[List.all_cons,cw]at f;rcases bo.mp hu with rfl | hu
  ·rw[W7 r f.1];exact afu r rx f.1 fx
  ·exact FP rx fx t f.2 u' hu
def inV (x:V)(xs:List V):Bool:=xs.any λy=>EY y x
def rIn (K:W.Frag)(neg:Bool):R2:=λx y H Q=>∃p xs,y=.ref p/\(aW K H p xs\/aP K H p xs)/\tE x=true/\xs.all tE=true/\Q (.bl (if neg then !inV x xs else inV x xs)) H
theorem Bg:fJ X (compareOp .NotIn) (rIn X.K true):=by
 intro ao s σ H x y v u Q I rx ry h;obtain⟨p,xs,rfl,hq,fx,fs,q⟩:=h;cases ry;rcases hq with hq | hq
 ·obtain⟨its,r,pl,hz⟩:=I.list hq
  refine SeqAt.notIn_listAt (Hr x) pl.isList (λw hw=>FP rx fx r fs w (by simpa using hw)) ⟨.bl _,H,I,rfl,?_⟩;rw[show its.toArray.any (Hr x)=its.any (Hr x) by simp,Jv r fs];exact q
 ·obtain⟨its,r,pl,hz⟩:=I.tuple hq
  refine SeqAt.notIn_tupleAt (Hr x) pl (λw hw=>FP rx fx r fs w (by simpa using hw)) ⟨.bl _,H,I,rfl,?_⟩;rw[show its.toArray.any (Hr x)=its.any (Hr x) by simp,Jv r fs];exact q
theorem N_:fJ X (compareOp .NotIn) (λx y H Q=>∃i j,x=.str i/\y=.str j/\Q (.bl (!(!(Builtin.Str.occurrences j i 0 j.length 1).isEmpty))) H):=by
 intro ao s σ H x y v u Q I rx ry h;obtain⟨i,j,rfl,rfl,q⟩:=h;obtain⟨t,rfl⟩:=rx;obtain⟨t',rfl⟩:=ry;exact notIn_str ⟨.bl _,H,I,rfl,q⟩
theorem bU:gq X (.builtin "len") (λxs H Q=>∃p ys,xs=[.ref p]/\(aW X.K H p ys\/aP X.K H p ys)/\Q (.int ys.length) H):=by
 intro ao s σ H xs us Q I r h;obtain⟨p,ys,rfl,hq,q⟩:=h;obtain⟨u,rfl,rx⟩:=vals1 r;cases rx;have hn:=xU;rcases hq with hq | hq
 ·obtain⟨its,r',pl,hz⟩:=I.list hq
  have bY:=r'.length;exact Calls.call_len_list pl.isList (by simp only[bb] <;> lia) ⟨.int ys.length,H,I.tok _,⟨s.toks+1,by rw[bb,bY]⟩,q⟩
 ·obtain⟨its,r',pl,hz⟩:=I.tuple hq
  have bY:=r'.length;exact len_tuple pl (by simp only[bb] <;> lia) ⟨.int ys.length,H,I.tok _,⟨s.toks+1,by rw[bb,bY]⟩,q⟩
theorem Oa:gq X (.builtin "len") (λxs H Q=>∃z,xs=[.str z]/\z.length<=sizeLine/\Q (.int z.length) H):=by
 intro ao s σ H xs us Q I r h;obtain⟨z,rfl,hz,q⟩:=h;obtain⟨u,rfl,t,rfl⟩:=vals1 r;have hn:=xU;exact len_str (by lia) ⟨.int z.length,H,I.tok _,⟨_,rfl⟩,q⟩
theorem Bh:gq X (.type "list") (λxs H Q=>∃p ys,xs=[.ref p]/\(aW X.K H p ys\/aP X.K H p ys)/\∀l,H l=none->Q (.ref l) (upd H l (.lst ys))):=by
 intro ao s σ H xs us Q I r h;obtain⟨p,ys,rfl,hq,q⟩:=h;obtain⟨u,rfl,rx⟩:=vals1 r;cases rx;have fin:∀(its:List Value),Vals ys its->ys.length<=sizeLine->∀(h':Heap) (c':Nat),(∀b o',s.heap.get? b=some o'->h'.get? b=some o')->
   h'.get? s.heap.objs.size=some { cls:=.type "list",dict:=none,data:=.seq its.toArray c',slots:=#[] }->EP X ao σ Q (.ref s.heap.objs.size) { s with heap:=h' }:=λits r' hz h' c' kp e=>
  ⟨.ref s.heap.objs.size,_,I.laid (t':=s.toks) kp (ap _) (show dH X.prog X.w _ h' _ (.lst ys) from ⟨hz,its,c',r',e⟩),rfl,q _ (I.hok.fresh (ap _))⟩
 rcases hq with hq | hq
 ·obtain⟨its,r',pl,hz⟩:=I.list hq
  have bY:=r'.length;obtain⟨o,ho,hc,n,hd⟩:=pl.isList;exact call_list_seq p (.inl rfl) ho hc hd (λh' c' kp e=>fin its r' hz h' c' kp e) (by simp only[bb] <;> lia)
 ·obtain⟨its,r',pl,hz⟩:=I.tuple hq
  have bY:=r'.length;obtain⟨o,ho,hc,n,hd⟩:=pl;exact call_list_seq p (.inr rfl) ho hc hd (λh' c' kp e=>fin its r' hz h' c' kp e) (by simp only[bb] <;> lia)
theorem f9:gq X (.type "tuple") (λxs H Q=>∃p ys,xs=[.ref p]/\((aW X.K H p ys/\∀l,H l=none->Q (.ref l) (upd H l (.tup ys)))\/(aP X.K H p ys/\Q (.ref p) H))):=by
 intro ao s σ H xs us Q I r h;obtain⟨p,ys,rfl,h⟩:=h;obtain⟨u,rfl,rx⟩:=vals1 r;cases rx;rcases h with⟨hq,q⟩ | ⟨hq,q⟩
 ·obtain⟨its,r',pl,hz⟩:=I.list hq
  have bY:=r'.length;refine call_tuple_list pl.isList (λh' kp=>?_) (by simp only[bb] <;> lia);have I1:aL X ao σ H { s with heap:=h' }:=I.kept (t':=s.toks) kp;have I2:aL X ao σ (upd H h'.objs.size (.tup ys)) { s with heap:=h'.push { cls:=.type "tuple",data:=.seq its.toArray } }:=
   I1.laid (t':=s.toks) (λb o e=>ag _ e) (ap _) (show dH X.prog X.w _ _ _ (.tup ys) from ⟨hz,its,r',IsTup.new _ _⟩)
  exact⟨.ref h'.objs.size,_,I2,rfl,q _ (I1.hok.fresh (ap _))⟩
 ·obtain⟨its,r',pl,hz⟩:=I.tuple hq
  exact call_tuple_same pl ⟨.ref p,H,I,rfl,q⟩
def tyV (K:W.Frag)(T:String)(x:V)(H:Hp):Prop:=match x with
 | .str _=>T="str"
 | .int _=>T="int"
 | .ref p=>(T="list"/\∃xs,aW K H p xs)\/(T="tuple"/\∃o,K.lookup p=some o/\o.cls=.type "tuple"/\o.dict=none)\/
   (T="dict"/\((∃kvs,H p=some (.dK kvs))\/∃kvs,H p=some (.dT kvs)))\/(T="set"/\∃S n,H p=some (.set S n))
 | _=>False
theorem W8 {ao:AC}{σ:St}{H:Hp}{s:Shared}{T:String}{x:V}{v:Value}(I:aL X ao σ H s)(r:cA x v)(ty:tyV X.K T x H) :
  s.TypeIs v T/\∀a,v=.ref a->∃ob,s.heap.get? a=some ob/\ob.dict=none:=by
 cases x with
 | str z=>
  obtain⟨t,rfl⟩:=r;cases(show T="str" from ty);exact⟨typeIs_str s z t,λ_ e=>nomatch e⟩
 | int i=>
  obtain⟨t,rfl⟩:=r;cases(show T="int" from ty);exact⟨typeIs_int s i t,λ_ e=>nomatch e⟩
 | ref p=>
  cases r;rcases ty with⟨rfl,xs,hq⟩ | ⟨rfl,o,hk,hc,hd⟩ | ⟨rfl,hk⟩ | ⟨rfl,S,n,hk⟩
  ·obtain⟨its,_,pl,_⟩:=I.list hq
   refine⟨pl.isList.typeIs,λa e=>?_⟩;cases e;obtain⟨o,n,e,c,hd,_⟩:=pl;exact⟨o,e,hd⟩
  ·refine⟨⟨o,I.gO p o hk,hc⟩,λa e=>?_⟩
   cases e;exact⟨o,I.gO _ o hk,hd⟩
  ·have z:∃o,s.heap.get? p=some o/\o.ExactDict:=by
    rcases hk with⟨kvs,hk⟩ | ⟨kvs,hk⟩
    ·obtain⟨_,_,_,_,o,_,_,e,ex,_⟩:=I.hok p _ hk
     exact⟨o,e,ex⟩
    ·obtain⟨_,_,_,_,o,_,_,e,ex,_⟩:=I.hok p _ hk
     exact⟨o,e,ex⟩
   obtain⟨o,e,ex⟩:=z;refine⟨⟨o,e,ex.1⟩,λa e2=>?_⟩;cases e2;exact⟨o,e,ex.2.1⟩
  ·obtain⟨o,_,_,_,e,ex,_⟩:=I.hok p _ hk
   refine⟨⟨o,e,ex.1⟩,λa e2=>?_⟩;cases e2;exact⟨o,e,ex.2.1⟩
 | _=>exact False.elim ty
def afv (K:W.Frag)(T:String)(r:V->List V->Hp->VK->Prop)(to:TE):TE:=λσ H Q=>to σ H λx H1=>tyV K T x H1/\r x [] H1 Q
def tBM (K:W.Frag)(T:String)(r:V->List V->Hp->VK->Prop)(to:TE)(t:TA):TE:=λσ H Q=>to σ H λx H1=>tyV K T x H1/\t σ H1 λxs H2=>r x xs H2 Q
variable {o e:Expr}{es:List Expr}{to:TE}{t:TA}{name:Str}{apos cpos:Pos}{T id:String}{r:V->List V->Hp->VK->Prop}
theorem afw (pa:PlainAttrs T)(slot:Slot T name id)(hty:typeOf (.builtin id)=pure (.type "method_descriptor"))(hm:xV X id r)(ho:PE X o to)
  (hbase:attributeBase o name X.env (eval o X.env)=eval o X.env:=by rfl) (hline:(apos.endLine==cpos.line)=true:=by rfl):PE X (.Call (.Attribute o name apos) [] [] cpos) (afv X.K T r to):=by
 intro ao s σ H Q I h;refine wpAny_Call_method0_late hbase hline (bR (ho ao s σ H _ I h) λv s1 zz=>?_);obtain⟨x,H1,I1,r1,ty,q1⟩:=zz;obtain⟨h1,h2⟩:=W8 I1 r1 ty;exact⟨T,id,pa,slot,hty,h1,h2,Calls.callWith_builtin rfl (PySem.evalArgs_none (hm ao s1 σ H1 x [] v [] Q I1 r1 .nil q1))⟩
theorem ahf (pa:PlainAttrs T)(slot:Slot T name id)(hty:typeOf (.builtin id)=pure (.type "method_descriptor"))(hm:xV X id r)(ho:PE X o to)(ha:PA X (e::es) t)
  (hbase:attributeBase o name X.env (eval o X.env)=eval o X.env:=by rfl)
  (hfew:((backTo cpos (starEach (e::es) X.env)).all (λx=>!x.1)&&(backToKw cpos (keywordEach [] X.env)).all (λx=>x.1.isSome)
   && decide ((e::es).length+([]:List Keyword).length+(if ([]:List Keyword).isEmpty then 0 else 1) < 30))=true:=by rfl)
  (hline:(apos.endLine==cpos.line)=true:=by rfl) (hs:starEach (e::es) X.env=(false,eval e X.env)::starEach es X.env:=by rfl) (hplain:(backTo cpos (starEach es X.env)).any (·.1)=false:=by rfl) :
  PE X (.Call (.Attribute o name apos) (e::es) [] cpos) (tBM X.K T r to t):=by
 intro ao s σ H Q I h;refine wpAny_Call_method_late hbase hfew hline rfl (bR (ho ao s σ H _ I h) λv s1 zz=>?_);obtain⟨x,H1,I1,r1,ty,q1⟩:=zz;obtain⟨h1,h2⟩:=W8 I1 r1 ty;refine⟨T,id,pa,slot,hty,h1,h2,?_⟩;have hA:=ha cpos ao s1 σ H1 _ I1 q1;rw[hs]at hA ⊢;refine Calls.callWith_builtin (by show (false||(backTo cpos (starEach es X.env)).any (·.1))=false;rw[hplain] <;> rfl) (Calls.evalArgs_plain ?_);exact bR hA λus s2 ⟨vs,H2,I2,r2,q2⟩=>hm ao s2 σ H2 x vs v us Q I2 r1 r2 q2
end
def R4 (X:Cx)(id:String)(r:V->List V->Hp->VK->Prop):Prop:=
 ∀(ao:AC) (s:Shared) (σ:St) (H:Hp) (x:V) (xs:List V) (v:Value) (us:List Value) (Q:VK),aL X ao σ H s->cA x v->Vals xs us->r x xs H Q->
  wpAny (model X.prog X.w) X.A (call (.builtin id) (v::us)) (EP X ao σ Q) X.xe s
theorem Vals.one:∀{x:V} {us:List Value},Vals [x] us->∃u,us=[u]/\cA x u
 | _,_,.cons r .nil=>⟨_,rfl,r⟩
theorem Vals.zero:∀{us:List Value},Vals [] us->us=[]
 | _,.nil=>rfl
theorem Vals.eraseIdx:∀{xs:List V} {us:List Value} (i:Nat),Vals xs us->Vals (xs.eraseIdx i) (us.eraseIdx i)
 | _,_,_,.nil=>.nil
 | _,_,0,.cons _ t=>t
 | _,_,i+1,.cons r t=>.cons r (Vals.eraseIdx i t)
theorem Vals.reverse {xs:List V}{us:List Value}(h:Vals xs us):Vals xs.reverse us.reverse:=by
 induction h with
 | nil=>exact .nil
 | cons r t ih=>rw[List.reverse_cons,List.reverse_cons];exact Vals.append ih (.cons r .nil)
theorem KD {α:Type}:∀(l:List α) (i:Nat),(l.eraseIdx i).length<=l.length
 | [],_=>ap _
 | _::_,0=>iq _
 | _::r,i+1=>mE (KD r i)
section
variable {X:Cx}{ao:AC}{σ:St}{H:Hp}{s:Shared}{l:Addr}{xs ys:List V}
theorem aL.Ob {its its':List Value}{n:Nat}{f:Array Value->Array Value}{t':Nat}(I:aL X ao σ H s)(hH:H l=some (.lst xs))
  (e:s.heap.get? l=some { cls:=.type "list",data:=.seq its.toArray n }) (hf:f its.toArray=its'.toArray) (hv:Vals ys its') (hz:ys.length<=sizeLine) :
  aL X ao σ (upd H l (.lst ys)) { s with heap:=s.heap.update l (Obj.mapSeq f),toks:=t' }:=by
 have q:=PySem.IsL.update e f;rw[hf]at q;refine I.write (x:=l) (e:=l) (by rw[hH];exact trivial) (.inl rfl) (λb' u hb hu=>(eP s.heap (Obj.mapSeq f) (f7 hb)).trans hu) ⟨_,q⟩ ?_;exact⟨hz,its',_,hv,q⟩
theorem aL.Uu {its:List Value}{t':Nat}(I:aL X ao σ H s)(hv:Vals ys its)(hz:ys.length<=sizeLine) :
  aL X ao σ (upd H s.heap.objs.size (.lst ys)) { s with heap:=s.heap.push { cls:=.type "list",data:=.seq its.toArray },toks:=t' }:=
 I.laid (λ_ _ q=>ag _ q) (ap _) ⟨hz,its,0,hv,a9 _ rfl⟩
theorem aL.fresh (I:aL X ao σ H s):H s.heap.objs.size=none:=I.hok.fresh (ap _)
theorem aL.yK (I:aL X ao σ H s)(hH:H l=some (.lst xs)):xs.length<=sizeLine/\∃(its:List Value) (n:Nat),Vals xs its/\xs.length=its.length/\s.heap.get? l=some { cls:=.type "list",data:=.seq its.toArray n }:=by
 obtain⟨z,its,n,r,e⟩:=I.hok l _ hH;exact⟨z,its,n,r,r.length,e⟩
theorem aax {n:Nat}(h:n<=sizeLine):Builtin.List.listTooLong n=false:=by
 unfold Builtin.List.listTooLong;exact al (by lia)
def adf:V->List V->Hp->VK->Prop:=λx vs H Q=>∃l xs y,x=.ref l/\vs=[y]/\H l=some (.lst xs)/\xs.length < sizeLine/\Q .non (upd H l (.lst (xs++[y])))
theorem gP:R4 X "list.append" adf:=by
 intro ao s σ H x vs v us Q I rx rv h;obtain⟨l,xs,y,rfl,rfl,hH,hz,q⟩:=h;cases rx;obtain⟨u,rfl,ru⟩:=rv.one;obtain⟨z,its,n,r,hl,e⟩:=I.yK hH;refine call_meets F.slot_list_append ⟨_,e,rfl⟩ F.entry_list_append (F.args_list_append_2 _ _) (PySem.list_append l its.toArray n u (by rw[bb];lia)) ⟨e,?_⟩;refine⟨.non,_,I.Ob (its':=its++[u]) hH e (by simp) (r.append (.cons ru .nil)) ?_,rfl,q⟩;rw[bc,List.length_singleton];lia
def adg:V->List V->Hp->VK->Prop:=λx vs H Q=>∃l b xs zs,x=.ref l/\vs=[.ref b]/\H l=some (.lst xs)/\H b=some (.lst zs)/\xs.length+zs.length<=sizeLine/\Q .non (upd H l (.lst (xs++zs)))
theorem W9:R4 X "list.extend" adg:=by
 intro ao s σ H x vs v us Q I rx rv h;obtain⟨l,b,xs,zs,rfl,rfl,hH,hB,hz,q⟩:=h;cases rx;obtain⟨u,rfl,ru⟩:=rv.one;cases ru;obtain⟨z,its,n,r,hl,e⟩:=I.yK hH;obtain⟨z2,its2,n2,r2,hl2,e2⟩:=I.yK hB;have hsz:its.toArray.size+its2.toArray.size<=sizeLine:=by rw[bb,bb];lia
 have ahg:¬(!its.toArray.isEmpty&&Builtin.List.listTooLong (its.toArray.size+its2.toArray.size))=true:=by
  rw[aax hsz,Bool.and_false];exact bn
 refine call_meets F.slot_list_extend ⟨_,e,rfl⟩ F.entry_list_extend (F.args_list_extend_2 _ _)
  (AutoSeq1.list_extend_list_list_0 l its.toArray n b its2.toArray n2 ahg (by rw[bb];lia) (by lia)) ⟨e,e2,?_⟩
 refine⟨.non,_,I.Ob (its':=its++its2) hH e (by simp) (r.append r2) ?_,rfl,q⟩;rw[bc];lia
def afx:V->List V->Hp->VK->Prop:=λx vs H Q=>∃l xs i k y,x=.ref l/\vs=[.int i]/\H l=some (.lst xs)/\-(2^63)<=i/\i < 2^63/\seqIndex? i xs.length=some k/\xs[k]?=some y/\Q y (upd H l (.lst (xs.eraseIdx k)))
theorem aay:R4 X "list.pop" afx:=by
 intro ao s σ H x vs v us Q I rx rv h;obtain⟨l,xs,i,k,y,rfl,rfl,hH,h1,h2,hk,hy,q⟩:=h;cases rx;obtain⟨u,rfl,ru⟩:=rv.one;obtain⟨t,rfl⟩:=ru;obtain⟨z,its,n,r,hl,e⟩:=I.yK hH;obtain⟨w,hw,Bf⟩:=r.get hy;refine call_meets F.slot_list_pop ⟨_,e,rfl⟩ F.entry_list_pop (F.args_list_pop_2 _ _)
  (MeetsSeq.list_pop_at l its.toArray n i t k w (fitsIndex_both h1 h2) (by rw[bb,<- hl];exact hk) (by rw[<- kA];exact hw) (by rw[bb];lia)) ⟨e,?_⟩
 refine⟨y,_,I.Ob (its':=its.eraseIdx k) hH e ?_ (r.eraseIdx k) ?_,Bf,q⟩
 ·show its.toArray.eraseIdxIfInBounds k=(its.eraseIdx k).toArray
  rw[List.eraseIdxIfInBounds_toArray]
 ·have:=KD xs k
  lia
def aaz:V->List V->Hp->VK->Prop:=λx vs H Q=>∃l xs,x=.ref l/\vs=[]/\H l=some (.lst xs)/\Q .non (upd H l (.lst xs.reverse))
theorem Uv:R4 X "list.reverse" aaz:=by
 intro ao s σ H x vs v us Q I rx rv h;obtain⟨l,xs,rfl,rfl,hH,q⟩:=h;cases rx;have hus:=rv.zero;subst hus;obtain⟨z,its,n,r,hl,e⟩:=I.yK hH;refine call_meets F.slot_list_reverse ⟨_,e,rfl⟩ F.entry_list_reverse (F.args_list_reverse_1 _) (AutoSeq1.list_reverse_list_0 l its.toArray n (by rw[bb];lia)) ⟨e,?_⟩;refine⟨.non,_,I.Ob (its':=its.reverse) hH e (by simp) r.reverse ?_,rfl,q⟩;rw[i8];lia
def ahM:R2:=λx y H Q=>∃l b xs zs,x=.ref l/\y=.ref b/\H l=some (.lst xs)/\H b=some (.lst zs)/\xs.length+zs.length<=sizeLine/\∀p,H p=none->Q (.ref p) (upd H p (.lst (xs++zs)))
theorem Ht:fJ X (binaryOp .Add) ahM:=by
 intro ao s σ H x y v u Q I rx ry h;obtain⟨l,b,xs,zs,rfl,rfl,hH,hB,hz,q⟩:=h;cases rx;cases ry;obtain⟨z,its,n,r,hl,e⟩:=I.yK hH;obtain⟨z2,its2,n2,r2,hl2,e2⟩:=I.yK hB;refine PySem.P.add_list e e2 ?_ (by rw[bb,bb];lia);have ea:its.toArray++its2.toArray=(its++its2).toArray:=by simp
 rw[ea];exact⟨.ref _,_,I.Uu (t':=s.toks) (r.append r2) (by rw[bc];lia),rfl,q _ I.fresh⟩
theorem len_rep {α:Type}(xs:List α)(k:Nat):(List.replicate k xs).flatten.length=k*xs.length:=by
 induction k with
 | zero=>simp
 | succ k ih=>rw[hV,iE,bc,ih,Nat.succ_mul,Nat.add_comm]
end
section
variable {κ:Type}[DecidableEq κ]
def kh (kvs:List (κ × V))(k:κ):Option V:=(kvs.find? λkv=>decide (kv.1=k)).map (·.2)
noncomputable def putK (kvs:List (κ × V))(k:κ)(v:V):List (κ × V):=
 if (kvs.any λkv=>decide (kv.1=k))=true then kvs.map (λkv=>if kv.1=k then (kv.1,v) else kv) else kvs++[(k,v)]
theorem uD {p:κ × V}{r:List (κ × V)}{k:κ}(e:p.1=k):kh (p::r) k=some p.2:=by simp[kh,ik,e]
theorem uE {p:κ × V}{r:List (κ × V)}{k:κ}(e:¬p.1=k):kh (p::r) k=kh r k:=by simp[kh,ik,e]
theorem yL (k:κ):∀kvs:List (κ × V),(kvs.any λkv=>decide (kv.1=k))=(kh kvs k).isSome
 | []=>rfl
 | p::r=>by
  rw[gu];by_cases e:p.1=k
  ·simp only[uD e,am e,Bool.true_or,Option.isSome_some]
  ·rw[uE e,al e,Bool.false_or];exact yL k r
theorem wU (kvs:List (κ × V))(k:κ)(v:V):(putK kvs k v).length<=kvs.length+1:=by
 unfold putK
 split
 ·rw[aa];lia
 ·rw[bc,dv,List.length_nil];lia
theorem aaA {kvs:List (κ × V)}{k:κ}(v:V)(h:kh kvs k=none):putK kvs k v=kvs++[(k,v)]:=by
 unfold putK;rw[yL,h];exact if_neg (by decide)
theorem j9.Bj {o:Option V}{u:Option Value}(r:j9 o u):o.isSome=u.isSome:=by
 cases o with
 | none=>cases u with
  | none=>rfl
  | some _=>exact(show False from r).elim
 | some _=>cases u with
  | none=>exact(show False from r).elim
  | some _=>rfl
theorem KV.val {kvs:List (κ × V)}{vs:List (κ × Value)}(r:KV kvs vs)(k:κ):j9 (kh kvs k) (valueAt vs k):=by
 unfold KV at r
 induction r with
 | nil=>exact True.intro
 | @cons p q ps qs h t ih=>
  obtain⟨h1,h2⟩:=h;by_cases e:p.1=k
  ·have e':q.1=k:=h1.symm.trans e
   have b:valueAt (q::qs) k=some q.2:=by simp[valueAt,ik,e']
   rw[uD e,b];exact h2
  ·have e':¬q.1=k:=λz=>e (h1.trans z)
   have b:valueAt (q::qs) k=valueAt qs k:=by simp[valueAt,ik,e']
   rw[uE e,b];exact ih
theorem KV.any {kvs:List (κ × V)}{vs:List (κ × Value)}(r:KV kvs vs)(k:κ):(kvs.any λkv=>decide (kv.1=k))=vs.any λkv=>decide (kv.1=k):=by
 unfold KV at r
 induction r with
 | nil=>rfl
 | cons h t ih=>rw[gu,gu,ih,h.1]
theorem KV.repl {kvs:List (κ × V)}{vs:List (κ × Value)}(r:KV kvs vs)(k:κ){y:V}{u:Value}(ry:cA y u) :
  KV (kvs.map λkv=>if kv.1=k then (kv.1,y) else kv) (vs.map λkv=>if kv.1=k then (kv.1,u) else kv):=by
 unfold KV at r ⊢
 induction r with
 | nil=>exact .nil
 | @cons p q ps qs h t ih=>
  rw[bP,bP];refine .cons ?_ ih;obtain⟨h1,h2⟩:=h;by_cases e:p.1=k
  ·rw[if_pos e,if_pos (h1.symm.trans e)];exact⟨h1,ry⟩
  ·rw[if_neg e,if_neg (λz=>e (h1.trans z))];exact⟨h1,h2⟩
theorem KV.put {kvs:List (κ × V)}{vs:List (κ × Value)}(r:KV kvs vs)(k:κ){y:V}{u:Value}(ry:cA y u):KV (putK kvs k y) (stored vs k u):=by
 unfold putK stored;rw[r.any k];by_cases e:(vs.any λkv=>decide (kv.1=k))=true
 ·rw[if_pos e,if_pos e];exact r.repl k ry
 ·rw[if_neg e,if_neg e];exact Paired.snoc r ⟨rfl,ry⟩
theorem KV.length {kvs:List (κ × V)}{vs:List (κ × Value)}(r:KV kvs vs):kvs.length=vs.length:=Paired.length r
end
theorem Nf {P:Program}{w:World}{k:Key}{u:Value}(r:cA (kV k) u):(iI P w).is k u=true:=by
 cases k with
 | inl i=>obtain⟨t,e⟩:=(show ∃t,u=Value.int i t from r);subst e;exact Rf P w i t
 | inr x=>obtain⟨t,e⟩:=(show ∃t,u=Value.str x t from r);subst e;exact Rg P w x t
theorem KH {P:Program}{w:World}:∀{ks:List Key} {us:List Value},Vals (ks.map kV) us->ItemsAre (iI P w) ks us
 | [],_,r=>by rw[mI]at r;cases r;exact .nil
 | k::ks,_,r=>by
  rw[bP]at r;cases r with
  | cons h t=>exact .cons (Nf h) (KH t)
abbrev KT (H:Hp):List (List Key × V)->List (List Key × Addr × Value)->Prop:=Paired λp q=>p.1=q.1/\H q.2.1=some (.tup (p.1.map kV))/\cA p.2 q.2.2
theorem KT.val {H:Hp}{kvs:List (List Key × V)}{xs:List (List Key × Addr × Value)}(r:KT H kvs xs)(k:List Key):j9 (kh kvs k) ((atKey xs k).map (·.2)):=by
 induction r with
 | nil=>exact True.intro
 | @cons p q ps qs h t ih=>
  obtain⟨h1,_,h2⟩:=h;by_cases e:p.1=k
  ·have e':q.1=k:=h1.symm.trans e
   have b:atKey (q::qs) k=some q.2:=by simp[atKey,ik,e']
   rw[uD e,b];exact h2
  ·have e':¬q.1=k:=λz=>e (h1.trans z)
   have b:atKey (q::qs) k=atKey qs k:=by simp[atKey,ik,e']
   rw[uE e,b];exact ih
theorem KT.repl {H:Hp}{kvs:List (List Key × V)}{xs:List (List Key × Addr × Value)}(r:KT H kvs xs)(k:List Key){y:V}{u:Value}(ry:cA y u) :
  KT H (kvs.map λkv=>if kv.1=k then (kv.1,y) else kv) (xs.map (putAt k u)):=by
 induction r with
 | nil=>exact .nil
 | @cons p q ps qs h t ih=>
  rw[bP,bP];refine .cons ?_ ih;obtain⟨h1,h2,h3⟩:=h;unfold putAt;by_cases e:p.1=k
  ·rw[if_pos e,if_pos (h1.symm.trans e)];exact⟨h1,h2,ry⟩
  ·rw[if_neg e,if_neg (λz=>e (h1.trans z))];exact⟨h1,h2,h3⟩
theorem KT.put {H:Hp}{kvs:List (List Key × V)}{xs:List (List Key × Addr × Value)}(r:KT H kvs xs)(k:List Key){b:Addr}{y:V}{u:Value}(hb:H b=some (.tup (k.map kV)))(ry:cA y u) :
  KT H (putK kvs k y) (storedH xs k b u):=by
 have e:(kvs.any λkv=>decide (kv.1=k))=(atKey xs k).isSome:=by
  rw[yL,(r.val k).Bj,ma]
 unfold putK storedH;rw[e];by_cases q:(atKey xs k).isSome=true
 ·rw[if_pos q,if_pos q];exact r.repl k ry
 ·rw[if_neg q,if_neg q];exact Paired.snoc r ⟨rfl,hb,ry⟩
theorem KT.keeps {H H':Hp}{kvs:List (List Key × V)}{xs:List (List Key × Addr × Value)}(r:KT H kvs xs)(ht:∀b ys,H b=some (.tup ys)->H' b=some (.tup ys)):KT H' kvs xs:=
 Paired.aae r λ_ _ z=>⟨z.1,ht _ _ z.2.1,z.2.2⟩
section
variable {P:Program}{w:World}{H:Hp}{h:Heap}{a:Addr}
theorem acu {u:HO}(ok:jh P w H h)(e:Rd H a u):dH P w H h a u:=e.ok ok
theorem Ng {kvs:List (Key × V)}(ok:jh P w H h)(e:Rd H a (.dK kvs)):kvs.length<=sizeLine/\(a==sysModules)=false/\∃vs,KV kvs vs/\h.DictOf (iI P w) a vs:=
 show dH P w H h a (.dK kvs) from acu ok e
theorem ahh {kvs:List (Key × V)}(ok:jh P w H h)(e:H a=some (.dK kvs)):kvs.length<=sizeLine/\(a==sysModules)=false/\∃vs,KV kvs vs/\h.DictOf (iI P w) a vs:=Ng ok (.inl e)
theorem Hu {ks:List Key}(ok:jh P w H h)(e:H a=some (.tup (ks.map kV))):(tupleKind (iI P w)).is h ks a:=by
 obtain⟨_,its,r,o,h1,h2,n,h3⟩:=(show dH P w H h a (.tup (ks.map kV)) from ok a _ e)
 exact⟨o,its.toArray,n,h1,h2,h3,by simpa using KH r⟩
theorem Nh {kvs:List (List Key × V)}(ok:jh P w H h)(e:Rd H a (.dT kvs)):kvs.length<=sizeLine/\(a==sysModules)=false/\
  ∃xs,KT H kvs xs/\h.DictOfH (tupleKind (iI P w)) a xs:=by
 obtain⟨z,y,xs,r,o,es,ep,h1,h2,h3,h4,h5⟩:=(show dH P w H h a (.dT kvs) from acu ok e)
 refine⟨z,y,xs,r,o,es,ep,h1,h2,h3,h4,λx hx=>?_,h5⟩;have all:∀{l:List (List Key × V)} {m:List (List Key × Addr × Value)},KT H l m->∀x∈m,(tupleKind (iI P w)).is h x.1 x.2.1:=by
  intro l m q
  induction q with
  | nil=>intro x hx;exact nomatch hx
  | @cons p q ps qs hq t ih=>
   intro x hx;rcases bo.mp hx with e | hx
   ·subst e
    exact Hu ok (by rw[<- hq.1];exact hq.2.1)
   ·exact ih x hx
 exact all r x hx
theorem ahi {kvs:List (List Key × V)}(ok:jh P w H h)(e:H a=some (.dT kvs)):kvs.length<=sizeLine/\(a==sysModules)=false/\
  ∃xs,KT H kvs xs/\h.DictOfH (tupleKind (iI P w)) a xs:=Nh ok (.inl e)
end
def uF (H:Hp)(a:Addr)(y:V)(r:Option V):Prop:=
 (∃kvs k,Rd H a (.dK kvs)/\y=kV k/\r=kh kvs k)\/∃kvs k b,Rd H a (.dT kvs)/\y=.ref b/\H b=some (.tup (k.map kV))/\r=kh kvs k
def yM (H:Hp)(a:Addr)(y v:V)(H':Hp):Prop:=
 (∃kvs k,H a=some (.dK kvs)/\y=kV k/\kvs.length < sizeLine/\H'=upd H a (.dK (putK kvs k v)))\/
 ∃kvs k b,H a=some (.dT kvs)/\y=.ref b/\H b=some (.tup (k.map kV))/\kvs.length < sizeLine/\H'=upd H a (.dT (putK kvs k v))
theorem uF.k {H:Hp}{a:Addr}{kvs:List (Key × V)}{k:Key}(e:H a=some (.dK kvs)):uF H a (kV k) (kh kvs k):=.inl ⟨kvs,k,.inl e,rfl,rfl⟩
theorem uF.t {H:Hp}{a b:Addr}{kvs:List (List Key × V)}{k:List Key}(e:H a=some (.dT kvs))(eb:H b=some (.tup (k.map kV))):uF H a (.ref b) (kh kvs k):=.inr ⟨kvs,k,b,.inl e,rfl,eb,rfl⟩
theorem yM.k {H:Hp}{a:Addr}{kvs:List (Key × V)}{k:Key}{v:V}(e:H a=some (.dK kvs))(hl:kvs.length < sizeLine):yM H a (kV k) v (upd H a (.dK (putK kvs k v))):=.inl ⟨kvs,k,e,rfl,hl,rfl⟩
theorem yM.t {H:Hp}{a b:Addr}{kvs:List (List Key × V)}{k:List Key}{v:V}(e:H a=some (.dT kvs))(eb:H b=some (.tup (k.map kV)))(hl:kvs.length < sizeLine) :
  yM H a (.ref b) v (upd H a (.dT (putK kvs k v))):=.inr ⟨kvs,k,b,e,rfl,eb,hl,rfl⟩
section
variable {X:Cx}{ao:AC}{σ:St}{H:Hp}{s:Shared}{a:Addr}{y v:V}{u r:Value}{o:Option V}{A:Around}{E:AB}
theorem aL.big (I:aL X ao σ H s):sysModules < s.heap.objs.size:=by
 have h:mainGlobals < s.heap.objs.size:=(I.mod.glob.keeps I.bk).lt;exact Nat.lt_trans (by decide) h
theorem W_ {Q:AB}(hu:A.units+1 < cLine)(I:aL X ao σ H s)(g:uF H a y (some v))(ry:cA y u)(h:∀w' s',aL X ao σ H s'->cA v w'->Q w' s') :
  wpAny (model X.prog X.w) A (getItem (.ref a) u) Q E s:=by
 rcases g with⟨kvs,k,e,ey,l⟩ | ⟨kvs,k,b,e,ey,eb,l⟩
 ·subst ey
  obtain⟨z,hd,vs,rel,dd⟩:=Ng I.hok e;obtain⟨w',hw,Bf⟩:=j9.some_of (v:=v) (o:=valueAt vs k) (by rw[l];exact rel.val k);exact wpAny_getItem_of (Nf ry) dd.mapOf hw (h w' _ (I.tok _) Bf)
 ·subst ey
  cases(show u=Value.ref b from ry);obtain⟨z,hd,xs,rel,dd⟩:=Nh I.hok e;obtain⟨w',hw,Bf⟩:=j9.some_of (v:=v) (o:=(atKey xs k).map (·.2)) (by rw[l];exact rel.val k);obtain⟨p,hp,hp2⟩:=dE.mp hw;refine wpAny_getItem_heap (tupleKind_room_in1 hu) (Hu I.hok eb) dd hp ?_;rw[hp2];exact h w' _ (I.tok _) Bf
theorem ahN {Q:AB}(hu:A.units+1 < cLine)(I:aL X ao σ H s)(g:uF H a y o)(ry:cA y u)(h:∀s',aL X ao σ H s'->Q (.bool o.isSome) s') :
  wpAny (model X.prog X.w) A (compareOp .In u (.ref a)) Q E s:=by
 rcases g with⟨kvs,k,e,ey,l⟩ | ⟨kvs,k,b,e,ey,eb,l⟩
 ·subst ey
  obtain⟨z,hd,vs,rel,dd⟩:=Ng I.hok e;refine wpAny_in_of (Nf ry) hd dd.mapOf ?_;rw[<- (rel.val k).Bj,<- l];exact h _ (I.tok _)
 ·subst ey
  cases(show u=Value.ref b from ry);obtain⟨z,hd,xs,rel,dd⟩:=Nh I.hok e;refine wpAny_in_heap (tupleKind_room_in1 hu) (Hu I.hok eb) hd dd ?_;have q:=(rel.val k).Bj;rw[ma]at q;rw[<- q,<- l];exact h _ (I.tok _)
theorem R5 {h':Heap}{t':Nat}{ob:HO}(I:aL X ao σ H s)(mu:Wt (H a))(hs:Heap.SameBut a s.heap h')(he:∃q,h'.get? a=some q)(new:dH X.prog X.w (upd H a ob) h' a ob) :
  aL X ao σ (upd H a ob) { s with heap:=h',toks:=t' }:=
 I.write (x:=a) (e:=a) mu (.inl rfl) (λb q hb z=>(hs.2 b hb).trans z) he new
theorem afy {P:Program}{w:World}{H':Hp}{h':Heap}{kvs:List (Key × V)}{vs:List (Key × Value)}(z:kvs.length<=sizeLine)(hd:(a==sysModules)=false)(rel:KV kvs vs)(dd:h'.DictOf (iI P w) a vs) :
  dH P w H' h' a (.dK kvs):=⟨z,hd,vs,rel,dd⟩
theorem Xa {H':Hp}{Q:Unit->Shared->Prop}(hu:A.units+1 < cLine)(I:aL X ao σ H s)(g:yM H a y v H')(ry:cA y u)(rv:cA v r)(h:∀s',aL X ao σ H' s'->Q () s') :
  wpAny (model X.prog X.w) A (setItem (.ref a) u r) Q E s:=by
 rcases g with⟨kvs,k,e,ey,l,eH⟩ | ⟨kvs,k,b,e,ey,eb,l,eH⟩
 ·subst ey eH
  obtain⟨z,hd,vs,rel,dd⟩:=ahh I.hok e;have hz:vs.length<=sizeLine:=by rw[<- rel.length];exact z
  have hl:(putK kvs k v).length<=sizeLine:=by have:=wU kvs k v;lia
  refine wpAny_setItem_pairs (hsz:=hz) (Nf ry) dd λh' Xb hs=>h _ ?_;have he:∃q,h'.get? a=some q:=let ⟨q,_,_,hq,_⟩:=Xb;⟨q,hq⟩
  exact R5 I (by rw[e];exact True.intro) hs he (afy hl hd (rel.put k rv) Xb)
 ·subst ey eH
  cases(show u=Value.ref b from ry);obtain⟨z,hd,xs,rel,dd⟩:=ahi I.hok e;have hz:xs.length<=sizeLine:=by rw[<- Paired.length rel];exact z
  have hl:(putK kvs k v).length<=sizeLine:=by have:=wU kvs k v;lia
  refine wpAny_setItem_heap (hsz:=hz) (tupleKind_room_in1 hu) (Hu I.hok eb) dd λh' Xb hs=>h _ ?_;obtain⟨q,es,ep,hq,h2,h3,h4,_,h5⟩:=Xb;refine R5 I (by rw[e];exact True.intro) hs ⟨q,hq⟩ ⟨hl,hd,_,(rel.put k eb rv).keeps λc ys ec=>?_,q,es,ep,hq,h2,h3,h4,h5⟩;rw[aM (ag6 ec e (λz=>nomatch z))];exact ec
end
def aaB (i:Expr):Prop:=∀ov iv,subscripted i false ov iv=operate [ov,iv] (getItem ov iv)
theorem adh {prog:Program}{w:World}{A:Around}{E:AB}{s:Shared}{env:Env}{value slice:Expr}{pos:Pos}{T id:String}{Q:AB}
  (hl:typeLookup (.type T) "__getitem__"=pure (some (.builtin id))) (hs:aaB slice)
  (h:wpAny (model prog w) A (eval value env) (λo s₁=>wpAny (model prog w) A (eval slice env) (λi s₂=>s₂.TypeIs o T/\wpAny (model prog w) A (getItem o i) Q E s₂) E s₁) E s) :
  wpAny (model prog w) A (eval (.Subscript value slice pos) env) Q E s:=by
 refine Subscript_ (dA h (λo s₁ h₁=>dA h₁ (λi s₂ h₂=>?_) λ_ _ x=>x) λ_ _ x=>x);obtain⟨hT,h₂⟩:=h₂;unfold subscriptTail;refine ae ?_;rw[getitemInPython_of_ne hT.not_modules];refine ae (wpAny_specialOf hT hl ?_);have fin:wpAny (model prog w) A (subscripted slice false o i) (λr s₃=>wpAny (model prog w) A (letTemporaryGo value o r >>= λ_=>pure r) Q E s₃) E s₂:=by
  rw[hs o i];exact wpAny_operating (dA h₂ (λr s₃ h₃=>ae (wpAny_letTemporaryGo (av h₃))) λ_ _ x=>x)
 first
  | exact av (ae fin)
  | exact ae (av (ae fin))
  | exact ae fin
theorem Ri {X:Cx}{ao:AC}{σ:St}{H:Hp}{s:Shared}{a:Addr}{y:V}{o:Option V}(I:aL X ao σ H s)(g:uF H a y o):s.TypeIs (.ref a) "dict":=by
 rcases g with⟨kvs,k,e,_,_⟩ | ⟨kvs,k,b,e,_,_,_⟩
 ·obtain⟨_,_,vs,_,dd⟩:=Ng I.hok e
  exact dd.typeIs
 ·obtain⟨_,_,xs,_,dd⟩:=Nh I.hok e
  exact dd.typeIs
def acv (td ty:TE):TE:=λσ H Q=>td σ H λx H1=>ty σ H1 λy H2=>∃a v,x=.ref a/\uF H2 a y (some v)/\Q v H2
def afz (ty td:TE):TE:=λσ H Q=>ty σ H λy H1=>td σ H1 λx H2=>∃a o,x=.ref a/\uF H2 a y o/\Q (.bl o.isSome) H2
def acw (td ty tv:TE):TS:=λD σ H=>tv σ H λv H1=>td σ H1 λx H2=>ty σ H2 λy H3=>∃a H4,x=.ref a/\yM H3 a y v H4/\D.nx σ H4
section
variable {X:Cx}{o i value:Expr}{pos pos':Pos}{td ty tv:TE}
theorem adi (hu:X.A.units+1 < cLine)(ho:PE X o td)(hi:PE X i ty)(hs:aaB i):PE X (.Subscript o i pos) (acv td ty):=by
 intro ao s σ H Q I h;refine adh PySem.F.slot_dict_getitem.lookup hs (bR (ho ao s σ H _ I h) λu s1 zz=>?_);obtain⟨x,H1,I1,rx,q1⟩:=zz;refine bR (hi ao s1 σ H1 _ I1 q1) λiv s2 zz=>?_;obtain⟨y,H2,I2,ry,a,v,ex,g,q2⟩:=zz;subst ex;obtain rfl:u=Value.ref a:=rx;exact⟨Ri I2 g,W_ hu I2 g ry λw' s3 I3 Bf=>⟨v,H2,I3,Bf,q2⟩⟩
theorem afA (hu:X.A.units+1 < cLine)(hi:PE X i ty)(ho:PE X o td):PC X .In i o (afz ty td):=by
 intro ao s σ H Q I h;refine bR (hi ao s σ H _ I h) λiv s1 zz=>?_;obtain⟨y,H1,I1,ry,q1⟩:=zz;refine bR (ho ao s1 σ H1 _ I1 q1) λu s2 zz=>?_;obtain⟨x,H2,I2,rx,a,ov,ex,g,q2⟩:=zz;subst ex;obtain rfl:u=Value.ref a:=rx;exact ahN hu I2 g ry λs3 I3=>⟨.bl ov.isSome,H2,I3,rfl,q2⟩
theorem adk (hu:X.A.units+1 < cLine)(ho:PE X o td)(hi:PE X i ty)(hv:PE X value tv)(hs:swapsWith value (some (.Subscript o i pos')) pos.line X.env=pure false) :
  PS X (.Assign [.Subscript o i pos'] value pos) (acw td ty tv):=by
 intro ao s σ H D I h;refine wpAny_Assign_Subscript (bR (hv ao s σ H _ I h) λr s1 zz=>?_) hs;obtain⟨v,H1,I1,rv,q1⟩:=zz;refine bR (ho ao s1 σ H1 _ I1 q1) λu s2 zz=>?_;obtain⟨x,H2,I2,rx,q2⟩:=zz;refine bR (hi ao s2 σ H2 _ I2 q2) λiv s3 zz=>?_;obtain⟨y,H3,I3,ry,a,H4,ex,g,q3⟩:=zz;subst ex;obtain rfl:u=Value.ref a:=rx;exact Xa hu I3 g ry rv λs4 I4=>⟨σ,H4,I4,q3⟩
end
theorem aaC {P:Program}{w:World}{H:Hp}(h:Heap)(hb:sysModules < h.objs.size):dH P w H (h.push { cls:=.type "dict",data:=.dict #[] }) h.objs.size (.dK []):=
 ⟨b7 _,beq_eq_false_iff_ne.mpr (f7 (ba hb)),[],.nil,Heap.DictOf.new h⟩
theorem aaD {P:Program}{w:World}{H:Hp}(h:Heap)(hb:sysModules < h.objs.size):dH P w H (h.push { cls:=.type "dict",data:=.dict #[] }) h.objs.size (.dT []):=
 ⟨b7 _,beq_eq_false_iff_ne.mpr (f7 (ba hb)),[],.nil,_,#[],0,a9 _ rfl,⟨rfl,rfl,rfl⟩,rfl,rfl,gS⟩
def Xc:TE:=λ_ H Q=>∀p,H p=none->Q (.ref p) (upd H p (.dK []))
def Xd:TE:=λ_ H Q=>∀p,H p=none->Q (.ref p) (upd H p (.dT []))
section
variable {X:Cx}{pos:Pos}
theorem aaE:PE X (.Dict [] [] pos) Xc:=λao s σ H Q I h=>
 wpAny_Dict_empty ⟨.ref s.heap.objs.size,_,I.laid (a:=s.heap.objs.size) (o:=.dK []) (t':=s.toks) (λ_ _ q=>ag _ q) (ap _) (aaC s.heap I.big),rfl,h _ (I.hok.fresh (ap _))⟩
theorem aaF:PE X (.Dict [] [] pos) Xd:=λao s σ H Q I h=>
 wpAny_Dict_empty ⟨.ref s.heap.objs.size,_,I.laid (a:=s.heap.objs.size) (o:=.dT []) (t':=s.toks) (λ_ _ q=>ag _ q) (ap _) (aaD s.heap I.big),rfl,h _ (I.hok.fresh (ap _))⟩
end
structure M1 (X:Cx)(o:Expr)(m:Str)(apos:Pos)(e:Expr)(cpos:Pos):Prop where
 base:attributeBase o m X.env (eval o X.env)=eval o X.env
 few:((backTo cpos (starEach [e] X.env)).all (λx=>!x.1)&&(backToKw cpos (keywordEach [] X.env)).all (λx=>x.1.isSome)
  && decide (([e]:List Expr).length+([]:List Keyword).length+(if ([]:List Keyword).isEmpty then 0 else 1) < 30))=true
 line:(apos.endLine==cpos.line)=true
 trees:backTo cpos (starEach [e] X.env)=[(false,eval e X.env)]
structure M2 (X:Cx)(o:Expr)(m:Str)(apos:Pos)(e f:Expr)(cpos:Pos):Prop where
 base:attributeBase o m X.env (eval o X.env)=eval o X.env
 few:((backTo cpos (starEach [e,f] X.env)).all (λx=>!x.1)&&(backToKw cpos (keywordEach [] X.env)).all (λx=>x.1.isSome)
  && decide (([e,f]:List Expr).length+([]:List Keyword).length+(if ([]:List Keyword).isEmpty then 0 else 1) < 30))=true
 line:(apos.endLine==cpos.line)=true
 trees:backTo cpos (starEach [e,f] X.env)=[(false,eval e X.env),(false,eval f X.env)]
end L2
namespace Att
open PySem PySem.W PySem.Calls PyProof.Rows
theorem Hv {P:Params}{h:Heap}:∀(ns:List Int) (vs:List Value),WellAll P h vs (ns.map WData.int)->IntsAre vs ns:=by
 intro ns
 induction ns with
 | nil=>
  intro vs w;rw[mI]at w;cases w;exact .nil
 | cons n ns ih=>
  intro vs w;rw[bP]at w;cases w with
  | cons a b=>
   cases a;exact .cons _ _ (ih _ b)
theorem Xe {l:OpenLaw}{n:Nat}(hn:l.most=some n){P:Params}{h:Heap}{args:List WData}{vals:List Value}
  (hpre:l.row.toRowW.claim.pre args=true) (hwl:WellAll P h vals args) :
  ∃a vs ns,vals=[Value.ref a]/\args=[WData.list (ns.map WData.int)]/\h.get? a=some { cls:=.type "list",data:=.seq vs.toArray }/\IntsAre vs ns/\ns.length<=n:=by
 have hsh:WShape.hasAll [] args [.list .int]=true:=(pre_splitW hpre).1;have hc:l.pre.holds [] { args:=args }=true:=(pre_splitW hpre).2;obtain⟨d,r,rfl,h1,h2⟩:=hasAllW_cons hsh;obtain rfl:=hasAllW_nil h2;obtain⟨xs,rfl,h3⟩:=hasW_list h1;obtain⟨ns,rfl⟩:=items_int h3;have bY:ns.length<=n:=by
  unfold OpenLaw.pre at hc;have h4:(WTm.not (.lt (.lit (.int (n:Int))) (.len (.arg 0)))).holds [] { args:=[.list (ns.map .int)] }=true:=by
   have h4:=(holds_andW hc).1;rw[hn]at h4;exact h4
  have h5:=condW_of h4 (w_not (w_lt w_lit (w_len_list (w_arg rfl))));rw[aa]at h5;refine Nat.le_of_not_lt λq=>?_;have q':(n:Int) < ((ns.length:Nat):Int):=by lia
  first
   | (rw[am q']at h5;exact absurd h5 (by decide))
   | (simp at h5;lia)
 cases hwl with
 | cons w1 w2=>
  cases w2;cases w1 with
  | list ho hall=>exact⟨_,_,ns,rfl,rfl,ho,Hv ns _ hall,bY⟩
theorem Xf (l:OpenLaw)(args:List WData):l.row.toRowW.claim.post args (.bool true) args=true:=
 postW_of (r:=l.row.toRowW) (X:=(true==true))
  (show WShape.has [] (.bool true) .bool=true by first | rfl | decide | simp[WShape.has,WShape.arms,WShape.armsAll])
  (show (WTm.eq .res (.lit (.bool true))).value [] { args:=args,res:=some (.bool true),after:=args }=some (.bool (true==true)) from w_eq_bool (w_res rfl) w_lit) rfl
theorem Rj {l:OpenLaw}{n:Nat}{q:Program}{loose:List Str}{XP:(Str->Option Value)->Heap->Prop}{YP:World->Heap->Prop}{d:DefRec}
  (hn:l.most=some n) (hdf:d.params.defaults=[])
  (call:∀(w:World) (s₀ s₁:Shared) (mg mb:Str->Option Value) (fa:Addr) (o:Obj) (pm cd doc:Value) (a:Addr) (vs:List Value) (ns:List Int),
   Ground q loose [] XP w s₀ mg mb s₁.heap->YP w s₁.heap->
   s₁.heap.get? fa=some o->o.data=.func (docDef d.name d.params d.body d.scope pm cd doc)->s₁.heap.CodeRec cd d.name->mg d.name=some (.ref fa)->
   s₁.heap.get? a=some { cls:=.type "list",data:=.seq vs.toArray }->IntsAre vs ns->ns.length<=n->s₁.gens=#[]->
   codeAny (model l.prog w) callerA (.call (.ref fa) ⟨[.ref a],[]⟩) (λr s'=>r=.ok (.ret (.bool true))/\OldK s₁.heap s'.heap/\s'.os=s₁.os/\AllBare s'.gens) s₁) :
  WalkO q loose XP YP l.row.toRowW d [] (λf vs=>PySem.call f vs):=by
 intro w s₀ s₁ mg mb G Y fa o pm cd doc dV kV ho hd hcd hD hmg hg args vals as hpre hlay hrd hwl hlo;obtain rfl:dV=.none:=Dflts.none hD hdf;obtain rfl:kV=.none:=Dflts.noKw hD;obtain⟨a,vs,ns,rfl,rfl,hobj,hints,bY⟩:=Xe hn hpre hwl;refine enter_call (ja (call w s₀ s₁ mg mb fa o pm cd doc a vs ns G Y ho (fd_plain hd) hcd hmg hobj hints bY hg) λr s' hq=>?_);obtain⟨rfl,h2,h3,h4⟩:=hq;exact⟨.inl ⟨.bool true,.bool true,[],rfl,λ_=>rfl,.bool true,Xf l _,λ_=>⟨List.Pairwise.nil,λ_ hm=>(nomatch hm)⟩⟩,h2,h3,h4⟩
end Att
namespace L2
open PySem PySem.Spec PyProof.Rows
theorem KJ:∀{vs:List Value} {ns:List Int},IntsAre vs ns->Vals (ns.map V.int) vs
 | _,_,.nil=>.nil
 | _,_,.cons n t h=>.cons ⟨t,rfl⟩ (KJ h)
def Only (H:Hp):Prop:=∀b,H b=none\/∃o xs,H b=some (.nC o (.lst xs))
theorem aaG {P:Program}{w:World}{K:W.Frag}{mg mb:Str->Option Value}{CX:nH}{k:Nat}{fa a:Addr}{fd:FuncData}{x:Str}{sp:Sp}{s₁:Shared}{vs:List Value}{ns:List Int}
  (KX:K.In s₁.heap) (hns:s₁.heap.Ns mainGlobals mg) (hb:s₁.heap.Ns builtinsNs mb) (hbb:∀x:Str,x≠"__name__"->mb x=bootBuiltins x) (hlim:s₁.heap.NoLimit) (hg:s₁.gens=#[])
  (ha:s₁.heap.get? a=some { cls:=.type "list",data:=.seq vs.toArray }) (hi:IntsAre vs ns) (hl:ns.length<=sizeLine) (hr:d7 k callerA)
  (F:∀base:Heap,K.In base->base.Ns mainGlobals mg->cM P w K mg base CX k fa fd [x] sp) (hbind:∀(s:Shared) (u:Value),BindsTo s fd ⟨[u],[]⟩ [(x,u)])
  (hsp:∀H:Hp,Only H->aW K H a (ns.map V.int)->sp [.ref a] H (λv _=>v=.bl true) λ_ _ _=>False)
  (hCX:∀H e s',CX [] H s₁ (λ_ _ _=>False) e s'->False) :
  codeAny (model P w) callerA (.call (.ref fa) ⟨[.ref a],[]⟩) (λr s'=>r=.ok (.ret (.bool true))/\OldK s₁.heap s'.heap/\s'.os=s₁.os/\AllBare s'.gens) s₁:=by
 have rv:=KJ hi;have lenV:=hi.length;have core:∀H:Hp,Only H->aW K H a (ns.map V.int)->jh P w H s₁.heap->(∀b,H b≠none->b=a)->(H a≠none->K.lookup a=none)->
   codeAny (model P w) callerA (.call (.ref fa) ⟨[.ref a],[]⟩) (λr s'=>r=.ok (.ret (.bool true))/\OldK s₁.heap s'.heap/\s'.os=s₁.os/\AllBare s'.gens) s₁:=by
  intro H hO hS hok hA hK;have R6:∀{b:Addr} {o:Obj},s₁.heap.get? b=some o->H b=none->(yH s₁.heap H).get? b=some o:=λe n=>aaf e n;have W5:∀{b:Addr} {o:Obj} {es:Array DictEntry} {ep:Nat},s₁.heap.get? b=some o->o.data=.dict es ep->H b=none:=λ{b o es ep} e d=>by
   cases q:H b with
   | none=>rfl
   | some u=>
    have e':b=a:=hA b (by rw[q];simp);subst e';rw[ha]at e;cases e;have d':Data.seq vs.toArray _=Data.dict es ep:=d;cases d'
  have nsK:∀{b:Addr} {m:Str->Option Value},s₁.heap.Ns b m->(yH s₁.heap H).Ns b m:=λ{b m} ⟨o,es,ep,e,d,r⟩=>⟨o,es,ep,R6 e (W5 e d),d,r⟩
  have hKb:K.In (yH s₁.heap H):=λb o e=>R6 (KX b o e) (by
   cases q:H b with
   | none=>rfl
   | some u=>
    have e':b=a:=hA b (by rw[q];simp);subst e';rw[hK (by rw[q];simp)]at e;cases e)
  have hM:Mod K mg (yH s₁.heap H):=⟨hKb,nsK hns,⟨mb,nsK hb,hbb⟩,let ⟨mc,h1,h2⟩:=hlim;⟨mc,nsK h1,h2⟩⟩
  have e0:FN P w K mg (yH s₁.heap H) callerA [] s₁ H:=⟨rfl,hM,λb o e=>acU e,e8 (Wu _ _),trivial,λb hb=>absurd (show b∈([]:List Addr) from hb) (by simp),hok,.of_eq hg⟩
  refine ja ((F _ hKb (nsK hns)).run callerA [] s₁ H ⟨[.ref a],[]⟩ [.ref a] [.ref a] _ _ hr e0 (hbind s₁ (.ref a)) (.cons rfl .nil) (hsp H hO hS)) λr s' h=>?_;cases r with
  | error e=>exact(hCX H e s' h).elim
  | ok fl=>
   cases fl with
   | next=>exact False.elim h
   | brk=>exact False.elim h
   | cont=>exact False.elim h
   | ret u=>
    obtain⟨v,H',os,bare,un,hok',r',q⟩:=h;have q':v=.bl true:=q;subst q';obtain rfl:u=Value.bool true:=r';refine⟨rfl,OldK.of_keep λb o e=>?_,os,bare⟩;cases q:H b with
    | none=>exact un.keep b o e q (by intro z;exact absurd (show b∈([]:List Addr) from z) (by simp)) (by simp)
    | some u=>
     rcases hO b with z | ⟨ob,xs,z⟩
     ·rw[q]at z;cases z
     ·have z2:=un.lG b ob _ z
      obtain⟨e1,_⟩:=hok b _ z;obtain⟨e2,_⟩:=hok' b _ z2;rw[e]at e1;cases e1;exact e2
 cases hk:K.lookup a with
 | some o=>
  have e:=KX a o hk;rw[ha]at e;cases e;refine core (λ_=>none) (λ_=>.inl rfl) (.inr ⟨_,vs.toArray,_,hk,rfl,rfl,rfl,by rw[bb,lenV];exact hl,by simpa using rv⟩) (λb u z=>by have z':(none:Option HO)=some u:=z;cases z') (λb z=>absurd rfl z) λz=>absurd rfl z
 | none=>
  refine core (λb=>if b=a then some (.nC { cls:=.type "list",data:=.seq vs.toArray } (.lst (ns.map V.int))) else none) (λb=>?_) (.inl (.inr ⟨{ cls:=.type "list",data:=.seq vs.toArray },if_pos rfl⟩)) (λb u z=>?_) (λb z=>?_) λ_=>hk
  ·by_cases hb:b=a
   ·exact .inr ⟨_,_,if_pos hb⟩
   ·exact .inl (if_neg hb)
  ·by_cases hb:b=a
   ·have z':=(if_pos hb).symm.trans z
    cases z';subst hb;exact⟨ha,by rw[aa];exact hl,vs,_,rv,ha⟩
   ·have z':=(if_neg hb).symm.trans z
    cases z'
  ·by_cases hb:b=a
   ·exact hb
   ·exact absurd (if_neg hb) z
abbrev KOf {K:W.Frag}{h:Heap}(_:K.In h):W.Frag:=K
theorem adl {l:W.OpenLaw}{n k:Nat}{q:Program}{loose:List Str}{XP:(Str->Option Value)->Heap->Prop}{YP:World->Heap->Prop}{d:DefRec}{K:Params->W.Frag}{CX:World->nH}{sp:World->Sp}{x:Str}
  (hn:l.most=some n) (hn2:n<=sizeLine) (hdf:d.params.defaults=[]) (hr:d7 k callerA)
  (hY:∀(w:World) (h:Heap),YP w h->(K w.params).In h)
  (F:∀(w:World) (mg:Str->Option Value) (fa:Addr) (h:Heap),(K w.params).In h->h.Ns mainGlobals mg->mg d.name=some (.ref fa)->
   ∃fd:FuncData,(∀(s:Shared) (u:Value),BindsTo s fd ⟨[u],[]⟩ [(x,u)])/\
    ∀base:Heap,(K w.params).In base->base.Ns mainGlobals mg->cM l.prog w (K w.params) mg base (CX w) k fa fd [x] (sp w))
  (hsp:∀(w:World) (H:Hp) (a:Addr) (ns:List Int),ns.length<=n->Only H->aW (K w.params) H a (ns.map V.int)->sp w [.ref a] H (λv _=>v=.bl true) λ_ _ _=>False)
  (hCX:∀(w:World) (H:Hp) (s:Shared) (e:Value) (s':Shared),CX w [] H s (λ_ _ _=>False) e s'->False) :
  W.WalkO q loose XP YP l.row.toRowW d [] (λf vs=>PySem.call f vs):=by
 refine Att.Rj hn hdf λw s₀ s₁ mg mb fa o pm cd doc a vs ns G Y ho hd hcd hmg hobj hints bY hg=>?_;have KX:=hY w _ Y;obtain⟨fd,hb,hF⟩:=F w mg fa _ KX G.T.g hmg;exact aaG KX G.T.g G.T.b G.T.builtins G.T.nolimit hg hobj hints (cq bY hn2) hr hF hb (λH hO hS=>hsp w H a ns bY hO hS) λH e s'=>hCX w H s₁ e s'
def inClass (s:Stmt)(j:Nat):Stmt:=match s with
 | .ClassDef _ _ _ body _ _ _ _ _ _ _=>body.getD j (.Pass ⟨0,0,0,0⟩)
 | _=>.Pass ⟨0,0,0,0⟩
noncomputable def fK (s:Stmt):Arguments:=match s with
 | .FunctionDef _ a _ _ _ _ _ _ _ _=>a
 | _=>{ posonlyargs:=[],args:=[],vararg:=none,kwonlyargs:=[],kw_defaults:=[],kwarg:=none,defaults:=[] }
def dw (s:Stmt):List Stmt:=match s with
 | .FunctionDef _ _ b _ _ _ _ _ _ _=>b
 | _=>[]
noncomputable def aJ (s:Stmt):Scope:=match s with
 | .FunctionDef _ _ _ _ _ _ sc _ _ _=>sc
 | _=>{ kind:=.function,names:=[],isGenerator:=false,isCoroutine:=false }
abbrev fU:nH:=λ_ _ _ _ _ _=>False
abbrev E0:XK:=λ_ _ _=>False
theorem kj {X:Cx}:Passes fU X E0:=λ_ _ _ _ _ _ _ h=>h.elim
structure gQ (K:W.Frag)(x qual:Str)(st:Stmt)(f:Addr)(fd:FuncData):Prop where
 ex:∃(oc:Value) (od:Option Addr) (kV doc pm:Value) (an:Option Addr) (bL ct:Value) (osl:Array (Option Value)),
  fd=W.fnOf x qual (fK st) (dw st) (aJ st) .none kV doc pm an bL ct/\K.lookup f=some ⟨oc,od,.func fd,osl⟩/\W.codeIn K bL qual=true
 kp:W.keepIn K (.ref f)=true
section
variable {P:Program}{w:World}{K:W.Frag}{mg:Str->Option Value}{base:Heap}
theorem gQ.ok {x qual:Str}{st:Stmt}{f:Addr}{fd:FuncData}{N ps:List Str}{k:Nat}{sp:Sp}(F:gQ K x qual st f fd)(S:aZ N ps (aJ st))(len:∀vs H Q E,sp vs H Q E->vs.length=ps.length)
  (hbody:∀(bL:Value) (A:Around) (outer:List Env) (s:Shared) (H:Hp) (vs:List V) (Q:VK) (E:XK),d7 k (A.deeper (envOfC qual (aJ st) s.heap.objs.size f bL))->sp vs H Q E->
   ∃t,sJ (ql fU P w K mg base N qual (aJ st) f bL A outer s H E).Ny (dw st) t/\t { nx:=λ_ H'=>Q .non H',rt:=Q } (start N vs) H):cM P w K mg base fU (k+1) f fd ps sp:=by
 obtain⟨oc,od,kV,doc,pm,an,bL,ct,osl,rfl,lk,hcd⟩:=F.ex;refine acr lk hcd S len λA outer s H vs Q E hr hsp=>?_;obtain⟨t,h,q⟩:=hbody bL A outer s H vs Q E hr hsp;exact⟨t,h.Ny,q⟩
theorem gQ.binds {x qual:Str}{st:Stmt}{f:Addr}{fd:FuncData}{ps:List Str}(F:gQ K x qual st f fd)
  (h:∀(kV doc pm:Value) (an:Option Addr) (bL ct:Value) (us:List Value),us.length=ps.length->bindArgs (W.fnOf x qual (fK st) (dw st) (aJ st) .none kV doc pm an bL ct) ⟨us,[]⟩=pure (ps.zip us)):cJ K fd ps []:=by
 obtain⟨oc,od,kV,doc,pm,an,bL,ct,osl,rfl,lk,hcd⟩:=F.ex;exact .all (h kV doc pm an bL ct)
theorem jk {x qual:Str}{st:Stmt}{f:Addr}{oc:Value}{od an:Option Addr}{osl:Array (Option Value)}{kV doc pm bL ct:Value}(l:K.lookup f=some ⟨oc,od,.func (W.fnOf x qual (fK st) (dw st) (aJ st) .none kV doc pm an bL ct),osl⟩)
  (c:W.codeIn K bL qual=true) (k:W.keepIn K (.ref f)=true):gQ K x qual st f (W.fnOf x qual (fK st) (dw st) (aJ st) .none kV doc pm an bL ct):=⟨⟨oc,od,kV,doc,pm,an,bL,ct,osl,rfl,l,c⟩,k⟩
end
theorem Uw {A:Around}{k:Nat}(hr:d7 k A):A.units+1 < cLine:=lx (Nat.add_le_add_left (by decide:1<=64) _) hr.units
theorem aG {n:Nat}(h:n<=1000):n < sizeLine:=lx h (by decide)
section
variable {X:Cx}
theorem pv (i:Nat){x:Str}{pos:Pos}(hN:X.N[i]?=some x:=by rfl)(hv:Vis X.env.scope x:=by first | exact Or.inl rfl | exact Or.inr (Or.inl rfl) | exact Or.inr (Or.inr rfl))(hd:(x==("__debug__":Str))=false:=by decide)
  (hcd:(x==("__classdict__":Str))=false:=by decide):PE X (.Name x pos) (iz i):=aeN hN hv hd hcd
end
theorem bB {A B:Prop}(h:B):if false=true then A else B:=by
 rw[if_neg bn];exact h
theorem bM {A B:Prop}(h:A):if true=true then A else B:=by
 rw[if_pos rfl];exact h
theorem jl {c A B:Prop} [Decidable c] (h1:c->A)(h2:¬c->B):if c then A else B:=by
 by_cases h:c
 ·rw[if_pos h]
  exact h1 h
 ·rw[if_neg h]
  exact h2 h
theorem vG {c A B:Prop} [Decidable c] (hc:c)(h:B):if (!decide c)=true then A else B:=by
 rw[am hc];exact bB h
def aA (H H':Hp):Prop:=∀b o,H b=some o->H' b=some o
theorem aA.refl (H:Hp):aA H H:=λ_ _ h=>h
theorem aA.trans {H H1 H2:Hp}(a:aA H H1)(b:aA H1 H2):aA H H2:=λc o h=>b c o (a c o h)
theorem aA.free {H H':Hp}(e:aA H H'){l:Addr}(h:H' l=Option.none):H l=Option.none:=by
 cases q:H l with
 | none=>rfl
 | some o=>
  rw[e l o q]at h;cases h
theorem aA.seq {K:W.Frag}{H H':Hp}{a:Addr}{xs:List V}(e:aA H H')(h:aW K H a xs):aW K H' a xs:=by
 rcases h with(h | ⟨o,h⟩) | h
 ·exact .inl (.inl (e _ _ h))
 ·exact .inl (.inr ⟨o,e _ _ h⟩)
 ·exact .inr h
section
variable {κ:Type}[DecidableEq κ]
theorem R7:∀{l:List κ} {k:κ},l.Nodup->¬k∈l->(l++[k]).Nodup
 | [],k,_,_=>by simp
 | a::r,k,h,hk=>by
  obtain⟨h1,h2⟩:=fi.mp h;show (a::(r++[k])).Nodup;refine fi.mpr ⟨λm=>?_,R7 h2 λm=>hk (bo.mpr (Or.inr m))⟩;rcases a8.mp m with q | q
  ·exact h1 q
  ·exact hk (bo.mpr (Or.inl (ay.mp q).symm))
end
noncomputable def blk (X:Cx)(scope:Scope)(cl:List (Str × Addr))(C:Addr)(x:Str)(s₀:Shared)(H₀:Hp)(fp:List Addr):Cx:=
 { X with N:=x::X.N,s₀:=s₀,H₀:=H₀,env:=compEnvC scope cl C X.env,outer:=X.stack,ex:=fp,fn:=λ_=>false,pn:=[],xe:=λ_ _=>False }
structure iZ (X:Cx)(scope:Scope)(x:Str):Prop where
 kind:scope.kind=.function
 qM:∀y∈scope.names,y.2≠.cell
 names:∀y∈scope.names,y.2=.local->scope.names.lookup y.1=some .local
 hx:scope.names.lookup x=some .local
 free:∀y∈scope.names,y.2=.free->X.env.kindOf y.1=some .cell\/X.env.kindOf y.1=some .free
 out:∀y∈X.N,scope.names.lookup y≠some .local
 nd:X.N.Nodup
noncomputable def R8 (sc:Scope)(N:List Str)(scope:Scope)(x:Str):Bool:=
 scope.kind == .function&&scope.names.all (λy=>y.2 != .cell)&&scope.names.all (λy=>y.2 != .local||scope.names.lookup y.1==some .local)&&scope.names.lookup x==some .local &&
 scope.names.all (λy=>y.2 != .free||sc.names.lookup y.1==some .cell||sc.names.lookup y.1==some .free)&&N.all (λy=>scope.names.lookup y != some .local)
theorem iZ.of {X:Cx}{scope:Scope}{x:Str}(hN:X.N.Nodup)(h:R8 X.env.scope X.N scope x=true):iZ X scope x:=by
 unfold R8 at h;simp only[cw,cy,nl,bne_iff_ne,beq_iff_eq,ne_eq]at h;obtain⟨⟨⟨⟨⟨h1,h2⟩,h3⟩,h4⟩,h5⟩,h6⟩:=h;refine⟨h1,λy hy=>h2 y hy,λy hy e=>(h3 y hy).resolve_left λz=>z e,h4,λy hy e=>?_,λy hy=>h6 y hy,hN⟩;rcases h5 y hy with(z | z) | z
 ·exact absurd e z
 ·exact .inl z
 ·exact .inr z
theorem cR {α:Type}:∀{l:List (Str × α)} {x:Str} {a:α},l.lookup x=some a->(x,a)∈l
 | [],_,_,h=>by simp at h
 | (y,b)::r,x,a,h=>by
  rw[fA]at h
  split at h
  ·rename_i e
   have e':x=y:=by simpa using e
   cases h;subst e';exact bq
  ·exact a_ _ (cR h)
theorem pq {env:Env}:∀(names:List (Str × NameKind)),(∀y∈names,y.2=.free->∃c,env.cells.lookup y.1=some c)->∀acc:List (Str × Addr),(∀n c,acc.lookup n=some c->env.cells.lookup n=some c)->
  ∃cl,(forIn names acc (λ(p:Str × NameKind) (cs:List (Str × Addr))=>if (p.2==NameKind.free)=true then (do let a <- cellOf env p.1;pure (ForInStep.yield ((p.1,a)::cs))) else (pure (ForInStep.yield cs):Sem _)):Sem (List (Str × Addr)))=pure cl/\
   (∀n c,cl.lookup n=some c->env.cells.lookup n=some c)/\(∀n,(∃c,acc.lookup n=some c)->∃c,cl.lookup n=some c)/\∀n,(n,NameKind.free)∈names->∃c,cl.lookup n=some c
 | [],_,acc,ha=>⟨acc,by simp,ha,λ_ h=>h,λ_ h=>by simp at h⟩
 | (n,k)::r,hf,acc,ha=>by
  have hr:∀y∈r,y.2=.free->∃c,env.cells.lookup y.1=some c:=λy hy=>hf y (a_ _ hy);by_cases hk:k=.free
  ·subst hk
   obtain⟨c,hc⟩:=hf (n,.free) bq rfl;obtain⟨cl,e,h1,h2,h3⟩:=pq r hr ((n,c)::acc) (λn' c' h=>by
    rw[fA]at h
    split at h
    ·rename_i q
     have q':n'=n:=by simpa using q
     cases h;subst q';exact hc
    ·exact ha n' c' h)
   refine⟨cl,?_,h1,λn' h=>h2 n' ?_,λn' h=>?_⟩
   ·rw[fS]
    simp only[beq_self_eq_true,if_true];have e2:cellOf env n=pure c:=by unfold cellOf;rw[hc]
    rw[e2];simp only[pure_bind];exact e
   ·obtain⟨c',hc'⟩:=h
    rw[fA]
    split
    ·exact⟨c,rfl⟩
    ·exact⟨c',hc'⟩
   ·rcases bo.mp h with q | q
    ·refine h2 n' ⟨c,?_⟩
     cases q;rw[fA,beq_self_eq_true]
    ·exact h3 n' q
  ·have hb:(k==NameKind.free)=false:=by simpa using hk
   obtain⟨cl,e,h1,h2,h3⟩:=pq r hr acc ha;refine⟨cl,?_,h1,h2,λn' h=>?_⟩
   ·rw[fS]
    simp only[hb,cE,if_false,pure_bind];exact e
   ·rcases bo.mp h with q | q
    ·cases q;exact absurd rfl hk
    ·exact h3 n' q
theorem cL {env:Env}:∀{names:List (Str × NameKind)} {x:Str} {k:NameKind},
  (names.map λ(n,k)=>if (k==NameKind.free&&env.scope.kind == .function&&env.kindOf n==some .cell) then (n,NameKind.cell) else (n,k)).lookup x=some k->names.lookup x=some k\/(k=.cell/\names.lookup x=some .free)
 | [],_,_,h=>by simp at h
 | (n,j)::r,x,k,h=>by
  have ih:=@cL env r x k;have h':List.lookup x ((if (j==NameKind.free&&env.scope.kind == .function&&env.kindOf n==some .cell)=true then (n,NameKind.cell) else (n,j))::_)=some k:=h;by_cases hc:(j==NameKind.free&&env.scope.kind == .function&&env.kindOf n==some .cell)=true
  ·rw[if_pos hc]at h'
   cases hx:x==n with
   | true=>
    simp only[fA,hx]at h' ⊢;cases h';have:j=.free:=by simp at hc;exact hc.1.1
    exact .inr ⟨rfl,by rw[this]⟩
   | false=>simp only[fA,hx]at h' ⊢;exact ih h'
  ·rw[if_neg hc]at h'
   cases hx:x==n with
   | true=>simp only[fA,hx]at h' ⊢;exact .inl h'
   | false=>simp only[fA,hx]at h' ⊢;exact ih h'
theorem yN {prog:Program}{w:World}{A:Around}{R:Result->Shared->Prop}{s:Shared}{elt target iter:Expr}{ifs:List Expr}{scope:Scope}{pos:Pos}{it acc:Value}{env:Env}(I:Nat->Shared->Prop)
  (turn:∀n s,I n s->wpAny (model prog w) A (pyNext it) (λr s₁=>match r with
   | none=>R (.ok .next) s₁
   | some v=>wpAny (model prog w) A (letOwnedTupleGo target it v) (λ_ s₀=>wpAny (model prog w) A (assign target env v) (λ_ s₂=>
     wpAny (model prog w) A (forIn ifs true λc r=>if r=true then do let ok <- isTrue c env (eval c env);pure (ForInStep.yield ok) else pure (ForInStep.yield r)) (λok s₃=>
      if ok=true then wpAny (model prog w) A (eval elt env) (λx s₄=>
       wpAny (model prog w) A (call (.builtin "list.append") [acc,x]) (λ_ s₅=>∃m,m < n/\I m s₅) (λ_ _=>False) s₄) (λ_ _=>False) s₃
      else ∃m,m < n/\I m s₃) (λ_ _=>False) s₂) (λ_ _=>False) s₀) (λ_ _=>False) s₁) (λ_ _=>False) s)
  (n:Nat) (h:I n s) :
  codeAny (model prog w) A (.compLoop (.ListComp elt [⟨target,iter,ifs,0⟩] scope pos) 0 it acc env) R s:=by
 refine codeAny_loop rfl I (λn s hI=>?_) n h;show wpAny _ A ((compTurn (.ListComp elt [⟨target,iter,ifs,0⟩] scope pos) 0 it acc env).onRaise (λx=>do noteFrame x env;theTreesLotGoes x)) _ _ s;refine wpAny_noted ?_;rw[compTurn_list];refine ae (iS (ae (dA (turn n s hI) (λr s₁ h₁=>?_) λ_ _ h'=>h'.elim)));cases r with
 | none=>exact av h₁
 | some v=>
  refine ae (dA h₁ (λ_ s₀ h₀=>?_) λ_ _ h'=>h'.elim);refine ae (dA h₀ (λ_ s₂ h₂=>ae (dA h₂ (λok s₃ h₃=>?_) λ_ _ h'=>h'.elim)) λ_ _ h'=>h'.elim);cases ok with
  | false=>exact av ⟨rfl,h₃⟩
  | true=>
   exact ae (ae (dA h₃ (λx s₄ h₄=>ae (dA h₄ (λ_ s₅ h₅=>av (av ⟨rfl,h₅⟩)) λ_ _ h'=>h'.elim)) λ_ _ h'=>h'.elim))
def R9 (X:Cx)(ifs:List Expr)(t:TT):Prop:=
 ∀(ao:AC) (s:Shared) (σ:St) (H:Hp) (Q:Bool->Hp->Prop),aL X ao σ H s->t σ H Q->
  wpAny (model X.prog X.w) X.A (forIn ifs true λc r=>if r=true then do let ok <- isTrue c X.env (eval c X.env);pure (ForInStep.yield ok) else pure (ForInStep.yield r)) (TP X ao σ Q) X.xe s
def gC:TT:=λ_ H Q=>Q true H
theorem adn {X:Cx}:R9 X [] gC:=λ_ _ _ H _ I h=>wpAny_tests_nil ⟨H,I,h⟩
theorem ado {X:Cx}{c:Expr}{t:TT}(h:PT X c t):R9 X [c] t:=λao s σ H Q I q=>wpAny_tests_one (h ao s σ H Q I q)
def acy (wi:TI)(tt:TT)(te:TE):TE:=λσ H Q=>wi σ H λJ H1=>∀D,H1 D=none->∃W:Nat->Nat->List V->Hp->Prop,(∃m,W 0 m [] (upd H1 D (.lst [])))/\
 ∀i m ys H,W i m ys H->(J.stop i H/\Q (.ref D) H)\/(J.go i H/\∀x H',J.oK i H x H'->tt (some x::σ) H' λb H2=>
  if b=true then te (some x::σ) H2 λy H3=>H3 D=some (.lst ys)/\ys.length < sizeLine/\∃m',m' < m/\W (i+1) m' (ys++[y]) (upd H3 D (.lst (ys++[y])))
  else ∃m',m' < m/\W (i+1) m' ys H2)
theorem adp {X:Cx}{elt iter:Expr}{x:Str}{px:Pos}{ifs:List Expr}{scope:Scope}{pos:Pos}{wi:TI}{tt:TT}{te:TE}(hc:X.calm=true)(ok:iZ X scope x)(hi:PI X (.Name x px) iter wi)
  (ht:∀cl C s₀ H₀ fp,R9 (blk X scope cl C x s₀ H₀ fp) ifs tt) (he:∀cl C s₀ H₀ fp,PE (blk X scope cl C x s₀ H₀ fp) elt te)
  (hs:∀x,foldedSetIterable iter X.env x=pure x:=by intro _;rfl):PE X (.ListComp elt [⟨.Name x px,iter,ifs,0⟩] scope pos) (acy wi tt te):=by
 intro ao s σ H Q I h;obtain⟨cl,hcl,hsub,_,hall⟩:=pq (env:=X.env) scope.names (λy hy e=>I.ok.has y.1 (ok.free y hy e)) [] (λ_ _ z=>by simp at z);have hclos:closureFor scope X.env=pure cl:=by
  unfold closureFor;simp only[bind_pure];exact hcl
 rw[eval_ListComp];refine jp (use:=none) (E:=X.xe) (cl:=cl) rfl hs hclos ok.kind ok.names (bR (hi ao s σ H _ I h) λv s1 h1=>bR h1 λitv s2 h2=>?_);obtain⟨it,fp,tn,J,H2,e,I2,T,st2,f2,R⟩:=h2;subst e;obtain⟨W,⟨m0,w0⟩,turn⟩:=R s2.heap.objs.size I2.fresh;refine f8 (kP ok.qM (by intro y hy;simp at hy) (λh₁ hns₁ hsb₁=>?_) ok.kind);dsimp only at hns₁ hsb₁ ⊢;have I3:aL X ao σ (upd H2 s2.heap.objs.size (.lst [])) { s2 with heap:=s2.heap.push { cls:=.type "list",data:=.seq ([]:List Value).toArray } }:=I2.Uu (t':=s2.toks) (ys:=[]) (its:=[]) .nil (b7 _);generalize Xg:upd H2 s2.heap.objs.size (HO.lst [])=H3 at *
 generalize hs3:s2.heap.push { cls:=.type "list",data:=.seq ([]:List Value).toArray }=hp3 at *
 generalize hD:s2.heap.objs.size=D at *
 generalize hC:hp3.objs.size=C at *
 have hDC:D < C:=by rw[<- hC,<- hs3,dr,hD];exact gc _
 have old:∀b o,hp3.get? b=some o->h₁.get? b=some o:=λb o e=>(hsb₁.2 b (by rw[<- hC];exact ba (ax e))).trans (ag _ e);have KN:∀b∈fp,b < C:=λb hb=>by
  obtain⟨o,e,_⟩:=T.obj _ _ st2 b hb;rw[<- hC,<- hs3,dr];exact fg (ax e)
 have f3:∀b∈fp,ou X ao H3 b:=λb hb=>by
  obtain⟨o,e,_⟩:=T.obj _ _ st2 b hb;refine⟨?_,(f2 b hb).2⟩;rw[<- Xg,aM (by rw[<- hD];exact ba (ax e))];exact(f2 b hb).1
 have Bk:∀b∈fp,b∉frs X.stack:=λb hb z=>by
  obtain⟨_,g1,g2,_⟩:=f3 b hb;rcases bo.mp (I3.xR b z) with q | q
  ·exact g1 q
  ·exact g2 q
 have Xh:(blk X scope cl C x { s2 with heap:=hp3 } H3 fp).Ok:=by
  refine⟨I.ok.mod,?_,I.ok.glob,I.ok.blt,e8 hC,?_,?_,?_,I.ok.hd,I.ok.frames,.inl rfl,?_,?_,?_,?_,?_,?_,?_⟩
  ·exact ok.kind
  ·exact λa b c h1 h2=>I.ok.inj a b c (hsub a c h1) (hsub b c h2)
  ·intro a ha
   refine hall a ?_;rcases ha with z | z
   ·rcases cL (env:=X.env) z with q | ⟨_,q⟩
    ·exact absurd rfl (ok.qM _ (cR q))
    ·exact cR q
   ·rcases cL (env:=X.env) z with q | ⟨q,_⟩
    ·exact cR q
    ·cases q
  ·intro a c hf;cases hf
  ·intro b hb
   refine⟨ba (KN b hb),λa c h1=>(f3 b hb).2.2.2.2.1 a c (hsub a c h1)⟩
  ·exact I3.bs
  ·exact cq I.ok.sE I3.sz
  ·intro b o e hb
   rcases(f3 b hb).2.2.2.1 with z | z
   ·exact I.ok.wO b o e z
   ·exact absurd (b9 (ax e) (cq I.ok.sE z)) (dP _)
  ·exact Bk
  ·exact I3.stack
  ·exact I3.qg
 have Y0:aL (blk X scope cl C x { s2 with heap:=hp3 } H3 fp) [] (none::σ) H3 { s2 with heap:=h₁,toks:=s2.toks+([]:List (Str × Value)).length }:=by
  refine⟨Xh,rfl,I3.bare,Un.kept old,⟨_,hns₁,?_⟩,?_,?_,?_,λp hp=>by simp[blk]at hp,I3.hok.kept old,?_⟩
  ·intro i y v e1 e2 e3
   cases i with
   | zero=>simp at e2
   | succ i=>
    have e1':X.N[i]?=some y:=by simpa [blk] using e1
    have e2':σ[i]?=some (some v):=by simpa using e2
    have hy:y∈X.N:=be e1';have hfree:(y,NameKind.free)∈scope.names:=by
     have key:∀k,(relabel scope X.env).names.lookup y=some k->k≠.local->k=.cell\/k=.free->(y,NameKind.free)∈scope.names:=λk q n hk=>by
      rcases cL (env:=X.env) q with z | ⟨_,z⟩
      ·rcases hk with rfl | rfl
       ·exact absurd rfl (ok.qM _ (cR z))
       ·exact cR z
      ·exact cR z
     rcases e3 with z | z | z
     ·rcases cL (env:=X.env) z with q | ⟨q,_⟩
      ·exact absurd q (ok.out y hy)
      ·cases q
     ·exact key _ z (by decide) (.inl rfl)
     ·exact key _ z (by decide) (.inr rfl)
    have hk:=ok.free _ hfree rfl;obtain⟨m,hn,hl⟩:=I3.loc;obtain⟨u,r,q⟩:=hl i y v e1' e2' (by rcases hk with z | z;exact .inr (.inl z);exact .inr (.inr z));refine⟨u,r,.inr ⟨?_,?_⟩⟩
    ·rcases e3 with z | z | z
     ·rcases cL (env:=X.env) z with q | ⟨q,_⟩
      ·exact absurd q (ok.out y hy)
      ·cases q
     ·exact .inl z
     ·exact .inr z
    ·rcases q with⟨z,_⟩ | ⟨_,c,hc',hcell⟩
     ·rcases hk with q | q <;> (rw[z]at q;cases q)
     ·obtain⟨c',hc2⟩:=hall y hfree
      have:c'=c:=by have:=hsub y c' hc2;rw[hc']at this;exact(aw this).symm
      subst this;obtain⟨o,ho,hd⟩:=hcell;exact⟨c',hc2,o,old _ _ ho,hd⟩
  ·intro a c h1
   obtain⟨v,o,ho,hd⟩:=I3.cell a c (hsub a c h1);exact⟨v,o,old _ _ ho,hd⟩
  ·show H3 C=none
   exact I3.hok.fresh (e8 hC)
  ·exact λa c h1=>I3.ju a c (hsub a c h1)
  ·show (none::σ).length=(x::X.N).length
   rw[dv,dv,I.len]
 have back:∀(s':Shared) (v:Option V) (H':Hp) (h':Heap),aL (blk X scope cl C x { s2 with heap:=hp3 } H3 fp) [] (v::σ) H' s'->Heap.SameBut C s'.heap h'->(∀b∈fp,H' b=none)->aL X ao σ H' { s' with heap:=h' }:=by
  intro s' v H' h' I' sb fr;have sI:∀b o,hp3.get? b=some o->b≠C:=λb o e=>by rw[<- hC];exact ba (ax e)
  have U:Un (frs X.stack) fp H3 H' hp3 s'.heap:=I'.base;refine I3.call' (ch:=fp) (H':=H') (s':={ s' with heap:=h' }) I'.os ⟨λb o e n h1 h2=>(sb.2 b (sI b o e)).trans (U.keep b o e n h1 h2),λb o e n h1 h2=>?_,U.free,λb o e h2=>?_,U.tups,U.lG,U.lV⟩ (λb ob e=>?_) I'.bare λb hb=>?_
  ·obtain⟨sl,q⟩:=U.slot b o e n h1 h2
   exact⟨sl,(sb.2 b (sI b o e)).trans q⟩
  ·obtain⟨o',q⟩:=U.there b o e h2
   exact⟨o',(sb.2 b (sI b o e)).trans q⟩
  ·have fC:H' C=none:=I'.free
   refine(I'.hok b ob e).stay (λc w' hc q=>(sb.2 c ?_).trans q) (λ_ q=>q) λ_ _ q=>q;rintro rfl;rcases hc with rfl | hc
   ·rw[fC]at e;cases e
   ·rw[fC]at hc;cases hc
  ·obtain⟨_,g1,_,g3,g4,g5⟩:=f3 b hb
   exact⟨g3,g1,g4,g5⟩
 have stat:∀{H':Hp},(∀b∈fp,H' b=none)->∀b∈fp,ou (blk X scope cl C x { s2 with heap:=hp3 } H3 fp) [] H' b:=λhn b hb=>
  ⟨hn b hb,ba (KN b hb),Bk b hb,.inl hb,λa c h1=>(f3 b hb).2.2.2.2.1 a c (hsub a c h1),λp hp=>by simp[blk]at hp⟩
 have st₁:tn 0 h₁:=T.keep _ _ _ st2 λb _ o e=>old b o (by rw[<- hs3];exact ag _ e);have loop:codeAny (model X.prog X.w) X.A (.compLoop (.ListComp elt [⟨.Name x px,iter,ifs,0⟩] scope pos) 0 (.ref it) (.ref D) (compEnvC scope cl C X.env)) (compPost (model X.prog X.w) X.A X.xe none (EP X ao σ Q) (.ref D) C)
   { s2 with heap:=h₁,toks:=s2.toks+([]:List (Str × Value)).length }:=by
  refine yN (λn s'=>∃i v ys H',aL (blk X scope cl C x { s2 with heap:=hp3 } H3 fp) [] (v::σ) H' s'/\tn i s'.heap/\(∀b∈fp,H' b=none)/\W i n ys H') ?_ m0 ⟨0,none,[],H3,Y0,st₁,λb hb=>(f3 b hb).1,w0⟩;rintro n s4 ⟨i,v,ys,H4,I4,KQ,Bl,w4⟩;rcases turn i n ys H4 w4 with⟨stop,qn⟩ | ⟨go,step⟩
  ·refine bR (T.done (blk X scope cl C x { s2 with heap:=hp3 } H3 fp) rfl rfl rfl hc i [] s4 (v::σ) H4 _ I4 (stat Bl) KQ stop) λr s5 ⟨hr,I5⟩=>?_
   subst hr;obtain⟨m,hn,_⟩:=id I5.loc;exact⟨m,hn,λh' sb=>⟨.ref D,H4,back s5 v H4 h' I5 sb Bl,rfl,qn⟩⟩
  ·refine bR (T.item (blk X scope cl C x { s2 with heap:=hp3 } H3 fp) rfl rfl rfl hc i [] s4 (v::σ) H4 _ I4 (stat Bl) KQ go) λr s5 zz=>?_;obtain⟨u,hr,h5⟩:=zz
   subst hr;refine bR h5 λ_ s6 zz=>?_;obtain⟨y,H6,I6,r6,y6,Bm,Xi⟩:=zz;have Xj:=I6.pinned (stat Xi) (T.obj _ _ Bm);refine lT (yI (X:=blk X scope cl C x { s2 with heap:=hp3 } H3 fp) (i:=0) Xj ?_ rfl (.inl (lookup_relabel_local ok.hx)) r6 (λs7 I7=>?_) (.inr (lookup_relabel_local ok.hx)))
   ·show (x::X.N).Nodup
    exact fi.mpr ⟨λz=>ok.out x z ok.hx,ok.nd⟩
   have Xk:aL (blk X scope cl C x { s2 with heap:=hp3 } H3 fp) _ (some y::σ) H6 s7:=I7;refine bR (ht cl C { s2 with heap:=hp3 } H3 fp _ s7 _ H6 _ Xk (step y H6 y6)) λb s8 zz=>?_;obtain⟨H8,I8,q8⟩:=zz;have rB:∀{σ':St} {H':Hp} {s':Shared},aL (blk X scope cl C x { s2 with heap:=hp3 } H3 fp) ([]++ux fp s6.heap) σ' H' s'->tn (i+1) s'.heap/\∀b∈fp,H' b=none:=λ{σ' H' s'} I9=>by
    refine⟨T.keep _ _ _ Bm λb hb o e=>(I9.pin (b,o) (b6 _ (b6 _ (jA hb e)))).1,λb hb=>?_⟩;obtain⟨o,e,d⟩:=T.obj _ _ Bm b hb;exact(I9.pin (b,o) (b6 _ (b6 _ (jA hb e)))).2.1
   cases b with
   | false=>
    obtain⟨m',hm,w'⟩:=q8;obtain⟨k1,k2⟩:=rB I8;exact⟨m',hm,i+1,some y,ys,H8,I8.j_,k1,k2,w'⟩
   | true=>
    have Xl:te (some y::σ) H8 _:=q8;show wpAny _ _ (eval elt _) _ _ _;refine bR (he cl C { s2 with heap:=hp3 } H3 fp _ s8 _ H8 _ I8 Xl) λz s9 zz=>?_;obtain⟨zv,H9,I9,r9,Xm,Xn,m',hm,w'⟩:=zz;refine bR (gP (X:=blk X scope cl C x { s2 with heap:=hp3 } H3 fp) _ s9 _ H9 (.ref D) [zv] (.ref D) [z] (λ_ H'=>H'=upd H9 D (.lst (ys++[zv]))) I9 rfl (.cons r9 .nil) ⟨D,ys,zv,rfl,rfl,Xm,Xn,rfl⟩) λ_ s10 zz=>?_;obtain⟨_,H10,KR,_,e10⟩:=zz;subst e10;obtain⟨k1,k2⟩:=rB KR;exact⟨m',hm,i+1,some y,ys++[zv],_,KR.j_,k1,k2,w'⟩
 exact km loop (T.self X.A 0 _ _ _ st₁ loop)
def dI (n i:Nat)(P:Prop):Prop:=∃m',m' < n-i/\m'=n-(i+1)/\i+1<=n/\P
theorem dI.mk {n i:Nat}{P:Prop}(h:i < n)(p:P):dI n i P:=⟨_,by lia,rfl,h,p⟩
theorem Xo {K:W.Frag}{a D:Addr}{xs:List V}{te:TE}{σ:St}{H:Hp}{R:Hp->Prop}(Pv:Nat->List V->Hp->Prop)(h0:Pv 0 [] (upd H D (.lst [])))(hl:∀i ys H,i<=xs.length->Pv i ys H->aW K H a xs)
  (hs:∀i x ys H,xs[i]?=some x->Pv i ys H->te (some x::σ) H λy H3=>H3 D=some (.lst ys)/\ys.length < sizeLine/\dI xs.length i (Pv (i+1) (ys++[y]) (upd H3 D (.lst (ys++[y])))))
  (hd:∀ys H,Pv xs.length ys H->R H) :
  ∃W:Nat->Nat->List V->Hp->Prop,(∃m,W 0 m [] (upd H D (.lst [])))/\
   ∀i m ys H,W i m ys H->((vB K a).stop i H/\R H)\/((vB K a).go i H/\∀x H',(vB K a).oK i H x H'->gC (some x::σ) H' λb H2=>
    if b=true then te (some x::σ) H2 λy H3=>H3 D=some (.lst ys)/\ys.length < sizeLine/\∃m',m' < m/\W (i+1) m' (ys++[y]) (upd H3 D (.lst (ys++[y])))
    else ∃m',m' < m/\W (i+1) m' ys H2):=by
 refine⟨λi m ys H=>m=xs.length-i/\i<=xs.length/\Pv i ys H,⟨xs.length,by simp,b7 _,h0⟩,?_⟩;rintro i m ys H ⟨rfl,hi,p⟩;have q:=hl i ys H hi p;by_cases hlt:i < xs.length
 ·refine .inr ⟨⟨xs,xs[i],q,by simp[hlt]⟩,λx H' y=>?_⟩
  obtain⟨e,y⟩:=y;subst e;exact hs i x ys H' (y xs q) p
 ·have e:i=xs.length:=by lia
  subst e;exact .inl ⟨⟨xs,q,ap _⟩,hd ys H p⟩
theorem Ux {lo:Int}{n:Nat}{D:Addr}{te:TE}{σ:St}{H:Hp}{R:Hp->Prop}(Pv:Nat->List V->Hp->Prop)(h0:Pv 0 [] (upd H D (.lst [])))
  (hs:∀i ys H,i < n->Pv i ys H->te (some (.int (lo+i))::σ) H λy H3=>H3 D=some (.lst ys)/\ys.length < sizeLine/\dI n i (Pv (i+1) (ys++[y]) (upd H3 D (.lst (ys++[y])))))
  (hd:∀ys H,Pv n ys H->R H) :
  ∃W:Nat->Nat->List V->Hp->Prop,(∃m,W 0 m [] (upd H D (.lst [])))/\
   ∀i m ys H,W i m ys H->((Ez lo n).stop i H/\R H)\/((Ez lo n).go i H/\∀x H',(Ez lo n).oK i H x H'->gC (some x::σ) H' λb H2=>
    if b=true then te (some x::σ) H2 λy H3=>H3 D=some (.lst ys)/\ys.length < sizeLine/\∃m',m' < m/\W (i+1) m' (ys++[y]) (upd H3 D (.lst (ys++[y])))
    else ∃m',m' < m/\W (i+1) m' ys H2):=by
 refine⟨λi m ys H=>m=n-i/\i<=n/\Pv i ys H,⟨n,by simp,b7 _,h0⟩,?_⟩;rintro i m ys H ⟨rfl,hi,p⟩;by_cases hlt:i < n
 ·refine .inr ⟨hlt,λx H' y=>?_⟩
  obtain⟨e,y⟩:=y;subst e y;exact hs i ys H' hlt p
 ·have e:i=n:=by lia
  subst e;exact .inl ⟨ap _,hd ys H p⟩
def S (l:List Nat):Str:=⟨l.toArray⟩
theorem acz (l:List Nat):(S l).cps.toList=l:=rfl
theorem qN (l:List Nat):(S l).length=l.length:=rfl
theorem Ni {a b:List Nat}(h:S a=S b):a=b:=congrArg (λs:Str=>s.cps.toList) h
theorem ahO (z:Str):S z.cps.toList=z:=by cases z;rfl
theorem ahj (a b:List Nat):S a++S b=S (a++b):=by
 show (⟨a.toArray++b.toArray⟩:Str)=⟨(a++b).toArray⟩
 simp
theorem acA (a b:List Nat):decide (V.str (S a)=V.str (S b))=decide (a=b):=by
 by_cases e:a=b
 ·subst e;simp
 ·rw[al e,al]
  intro z;injection z with z;exact e (Ni z)
section
variable {X:Cx}{a b c e o:Expr}{pos:Pos}
theorem adq (l:List Nat){x:Str}{j pos}(h:x=S l):PE X (.Constant (.str x) j pos) (tC (.str (S l))):=by rw[h];exact aeQ
def ahk:R2:=λx y H Q=>∃i j,x=.str (S i)/\y=.str (S j)/\i.length+j.length<=sizeLine/\Q (.str (S (i++j))) H
theorem jg:fJ X (binaryOp .Add) ahk:=by
 intro ao s σ H x y v u Q I rx ry h;obtain⟨i,j,rfl,rfl,hz,q⟩:=h;exact Um ao s σ H _ _ v u Q I rx ry ⟨S i,S j,rfl,rfl,hz,by rw[ahj];exact q⟩
def ahl:R2:=λx y H Q=>∃l i c,x=.str (S l)/\y=.int i/\l.length<=sizeLine/\oM l i=some c/\Q (.str (S [c])) H
theorem nj:N6 X ahl:=by
 intro value slice ao s σ H x y v u Q I rx ry h hs;obtain⟨l,i,c,rfl,rfl,hz,hc,q⟩:=h;exact afs value slice ao s σ H _ _ v u Q I rx ry ⟨S l,i,c,rfl,rfl,hz,hc,q⟩ hs
def Uy:List V->Hp->VK->Prop:=λxs H Q=>∃l,xs=[.str (S l)]/\l.length<=sizeLine/\Q (.int l.length) H
theorem cI:gq X (.builtin "len") Uy:=by
 intro ao s σ H xs us Q I r h;obtain⟨l,rfl,hz,q⟩:=h;exact Oa ao s σ H _ us Q I r ⟨S l,rfl,hz,q⟩
def ahP:R2:=λx y H Q=>∃i j,x=.str (S i)/\y=.str (S j)/\Q (.bl (decide (i=j))) H
theorem xX:fJ X (compareOp .Eq) ahP:=by
 intro ao s σ H x y v u Q I rx ry h;obtain⟨i,j,rfl,rfl,q⟩:=h;exact iJ ao s σ H _ _ v u Q I rx ry ⟨rfl,by rw[acA];exact q⟩
def afB:R2:=λx y H Q=>∃i j,x=.str (S i)/\y=.str (S j)/\Q (.bl (!decide (i=j))) H
theorem nJ:fJ X (compareOp .NotEq) afB:=by
 intro ao s σ H x y v u Q I rx ry h;obtain⟨i,j,rfl,rfl,q⟩:=h;exact o_ ao s σ H _ _ v u Q I rx ry ⟨rfl,by rw[acA];exact q⟩
def ahQ:R2:=λx y H Q=>∃c l,x=.str (S [c])/\y=.str (S l)/\Q (.bl (decide (c∈l))) H
theorem afC:fJ X (compareOp .In) ahQ:=by
 intro ao s σ H x y v u Q I rx ry h;obtain⟨c,l,rfl,rfl,q⟩:=h;exact WX ao s σ H _ _ v u Q I rx ry ⟨S [c],S l,rfl,rfl,by
  have e:=StrLaws.found_one (S l) c;rw[acz]at e;rw[show (S [c])=(⟨#[c]⟩:Str) from rfl,e];exact q⟩
noncomputable def nq (l:List Nat)(lo hi:Option Int):List Nat:=(l.drop (HT.gZ l.length 0 lo)).take (HT.gZ l.length l.length hi-HT.gZ l.length 0 lo)
theorem R_ (lo hi:Option Int)(n:Nat):Builtin.Str.strSliceIndices lo hi 1 n=(List.range (HT.gZ n n hi-HT.gZ n 0 lo)).map (λk=>HT.gZ n 0 lo+k):=by
 have clip:∀(v:Int) (d:Nat),max (0:Int) (min (if v < 0 then v+(n:Int) else v) (n:Int))=((HT.gZ n d (some v):Nat):Int):=λv d=>by
  rw[<- HT.ada];split <;> lia
 have key:∀a b:Nat,sliceRange (a:Int) (b:Int) 1=(List.range (b-a)).map (λk=>a+k):=λa b=>by
  simp only[sliceRange,show ((1:Int) > 0)=True from by simp,if_true];by_cases hlt:(a:Int) < b
  ·have e3:(((b:Int)-a+1-1)/1).toNat=b-a:=by first | lia | (simp;done) | (simp;lia)
   simp only[hlt,if_true,e3];refine eQ λk _=>?_;lia
  ·have:b-a=0:=by lia
   simp[hlt,this]
 unfold Builtin.Str.strSliceIndices;simp only[show ((1:Int) > 0)=True from by simp,if_true];cases lo with
 | none=>
  cases hi with
  | none=>exact key 0 n
  | some j=>dsimp only;rw[clip j n];exact key 0 _
 | some i=>
  cases hi with
  | none=>dsimp only;rw[clip i 0];exact key _ n
  | some j=>dsimp only;rw[clip i 0,clip j n];exact key _ _
theorem Xp (l:List Nat)(lo hi:Option Int):Txt.slice (S l) lo hi=S (nq l lo hi):=by
 have hle:HT.gZ l.length l.length hi<=l.length:=HT.afq _ _ (ap _) _;have key:((Builtin.Str.strSliceIndices lo hi 1 (S l).length).filterMap ((S l).cps[·]?))=nq l lo hi:=by
  rw[R_];have h:=StrLaws.picks l (HT.gZ l.length l.length hi-HT.gZ l.length 0 lo) (HT.gZ l.length 0 lo);unfold nq;by_cases hc:HT.gZ l.length 0 lo<=HT.gZ l.length l.length hi
  ·have h2:=h (by lia)
   rw[qN];simpa [S] using h2
  ·have e:HT.gZ l.length l.length hi-HT.gZ l.length 0 lo=0:=by lia
   rw[qN,e];simp
 unfold Txt.slice
 split
 ·rename_i hc
  have bY:(Builtin.Str.strSliceIndices lo hi 1 (S l).length).length=l.length:=by
   simp at hc;simpa [qN] using hc
  have hl2:HT.gZ l.length l.length hi-HT.gZ l.length 0 lo=l.length:=by rw[R_,qN]at bY;simpa using bY
  have h0:HT.gZ l.length 0 lo=0\/l.length=0:=by lia
  have e:nq l lo hi=l:=by
   unfold nq;rw[hl2];rcases h0 with z | z
   ·rw[z];simp
   ·have:l=[]:=List.length_eq_zero_iff.mp z
    subst this;simp
  rw[e]
 ·rw[key];rfl
def ahR:V->Option Int->Option Int->Hp->VK->Prop:=λx lo hi H Q=>∃l,x=.str (S l)/\l.length<=sizeLine/\Q (.str (S (nq l lo hi))) H
theorem part_of {v:Value}{o:Option Int}(p:IsPart v o):∃l:Option (Int × Tok),v=partValue l/\l.map (·.1)=o:=by
 cases p with
 | none=>exact⟨none,rfl,rfl⟩
 | int i t=>exact⟨some (i,t),rfl,rfl⟩
theorem Uz:SlR X ahR:=by
 intro ao s σ H x v vl vu lo hi sl Q I rx hs pl pu h;obtain⟨l,rfl,hz,q⟩:=h;obtain⟨t,rfl⟩:=rx;obtain⟨p1,rfl,rfl⟩:=part_of pl;obtain⟨p2,rfl,rfl⟩:=part_of pu;refine⟨"str",_,F.slot_str_getitem.lookup,typeIs_str _ _ _,?_⟩;refine wpAny_getItem_str_slice (l:=p1) (u:=p2) (st:=none) hs rfl ?_;have e:=Xp l (p1.map (·.1)) (p2.map (·.1));have hle:(Txt.slice (S l) (p1.map (·.1)) (p2.map (·.1))).length<=sizeLine:=cq (Txt.slice_le _ _ _) hz;refine post_val_or_str ⟨hle,λt' k=>?_⟩;have e':(if ((Option.map (λx:Int × Tok=>x.1) none).getD 1==1&&(slicePicked (S l) p1 p2 none).length==(S l).length)=true then S l else ⟨((slicePicked (S l) p1 p2 none).filterMap ((S l).cps[·]?)).toArray⟩)=S (nq l (p1.map (·.1)) (p2.map (·.1))):=e;exact⟨.str (S (nq l (p1.map (·.1)) (p2.map (·.1)))),H,I.tok _,⟨t',congrArg (λz=>Value.str z t') e'⟩,q⟩
abbrev Ts (ls:AA):List V:=ls.map λl=>V.str (S l)
def acB (K:W.Frag):List V->Hp->VK->Prop:=λxs H Q=>∃x n t b,xs=[x,.ty n]/\jV K H x t/\W.kitOne K t (.type n)=some b/\Q (.bl b) H
theorem jd:gq X (.builtin "isinstance") (acB X.K):=by
 intro ao s σ H xs us Q I r h;obtain⟨x,n,t,b,rfl,ty,k,q⟩:=h;obtain⟨u,w',rfl,r1,r2⟩:=vals2 r;cases r2;exact W3 I r1 ty k λtk=>⟨.bl b,H,I.tok tk,rfl,q⟩
def acC:R2:=λx y H Q=>∃l n,x=.str (S l)/\y=.int (n:Nat)/\1<=n/\n < 1000/\l.length < 1000/\Q (.str (S (List.replicate n l).flatten)) H
theorem Oc (l:List Nat):∀(n:Nat) (acc:Array Nat),((List.replicate n l.toArray).foldl (· ++ ·) acc).toList=acc.toList++(List.replicate n l).flatten
 | 0,acc=>by simp
 | n+1,acc=>by
  rw[hV,List.foldl_cons,Oc l n,hV];simp
theorem Jw:fJ X (binaryOp .Mult) acC:=by
 intro ao s σ H x y v u Q I rx ry h;obtain⟨l,n,rfl,rfl,h1,h2,h3,q⟩:=h;obtain⟨t,rfl⟩:=rx;obtain⟨t',rfl⟩:=ry;have hsmall:l.length*n<=1000*1000:=e_ (aT h3) (aT h2);have hbig:(1000*1000:Nat)<=sizeLine:=by decide
 refine PySem.P.mul_str ?_ ?_ ?_ ?_
 ·rw[al (by lia),al (by lia)];rfl
 ·intro _ _
  have e:(2^63-1:Int)/(n:Int)>=1000:=by
   refine Int.le_ediv_of_mul_le (by lia) ?_;have:(1000:Int)*(n:Int)<=1000*1000:=by lia
   lia
  rw[qN];lia
 ·intro _ _
  show decide (_ > _)=false;rw[al];rw[qN,df];lia
 ·rw[if_neg (by lia)]
  have hres:(⟨(List.replicate (n:Int).toNat (S l).cps).foldl (· ++ ·) #[]⟩:Str)=S (List.replicate n l).flatten:=by
   have e:=Oc l n #[];rw[df];unfold S;congr 1;apply kx.mp;simpa using e
  rw[hres]
  split
  ·rename_i hc
   have e:(List.replicate n l).flatten=l:=by
    simp at hc;rcases hc with z | z
    ·have:n=1:=by lia
     subst this;simp
    ·have:l=[]:=by simpa [S,Str.length] using z
     subst this;simp
   rw[e]at q;exact⟨.str (S l),H,I,⟨t,rfl⟩,q⟩
  ·refine⟨?_,.str (S (List.replicate n l).flatten),H,I.tok _,⟨_,rfl⟩,q⟩
   rw[qN,len_rep,mM];lia
theorem Sd (ls:AA):Txt.join (S []) (ls.map S)=S ls.flatten:=by
 unfold Txt.join Builtin.Str.glued;have key:∀(ls:AA) (acc:Array Nat),((ls.map S).foldl (λacc p=>acc++(S []).cps++p.cps) acc).toList=acc.toList++ls.flatten:=by
  intro ls
  induction ls with
  | nil=>intro acc;simp
  | cons l r ih=>intro acc;rw[bP,List.foldl_cons,ih];simp[S]
 unfold S;congr 1;apply kx.mp;cases ls with
 | nil=>rfl
 | cons l r=>
  have:=key r (S l).cps;have e:(List.map S (l::r)).drop 1=List.map S r:=rfl;show (((List.map S (l::r)).drop 1).foldl _ (S l).cps).toList=_;rw[e];exact this.trans (by simp[S])
def rJoin (K:W.Frag):V->List V->Hp->VK->Prop:=λx vs H Q=>∃p ls,x=.str (S [])/\vs=[.ref p]/\aW K H p (Ts ls)/\ls.flatten.length<=1000/\Q (.str (S ls.flatten)) H
theorem Ea:∀{ls:AA} {us:List Value},Vals (Ts ls) us->StrsAre us (ls.map S)
 | [],_,.nil=>.nil
 | l::r,_,.cons q t=>by
  obtain⟨t',rfl⟩:=q;exact .cons (S l) t' (Ea t)
theorem Sg (ls:AA):((ls.map S).map (·.length)).sum=ls.flatten.length:=by
 induction ls with
 | nil=>rfl
 | cons l r ih=>rw[bP,bP,List.sum_cons,ih,iE,bc,qN]
theorem xY:xV X "str.join" (rJoin X.K):=by
 intro ao s σ H x vs v us Q I rx rv h;obtain⟨p,ls,rfl,rfl,hq,hz,q⟩:=h;obtain⟨t,rfl⟩:=rx;obtain⟨u,rfl,ru⟩:=vals1 rv;cases ru;obtain⟨its,r,pl,_⟩:=I.list hq;refine join_list pl.isList (ys:=ls.map S) (by simpa using Ea r) ?_ λt' k=>?_
 ·rw[Sg];show _+_*0<=_;lia
 ·exact⟨.str (S ls.flatten),H,I.tok k,⟨t',congrArg (λz=>Value.str z t') (Sd ls)⟩,q⟩
end
structure aK (K:W.Frag)(mg:Str->Option Value)(name:Str)(st:Stmt)(ps:List Str):Prop where
 ex:∃f fd,gQ K name name st f fd/\cJ K fd ps []/\mg name=some (.ref f)
structure bT (P:Program)(w:World)(K:W.Frag)(mg:Str->Option Value)(base:Heap)(name:Str)(k:Nat)(ps:List Str)(sp:Sp):Prop where
 ex:∃f fd,cM P w K mg base fU k f fd ps sp/\cJ K fd ps []/\mg name=some (.ref f)/\W.keepIn K (.ref f)=true
theorem aK.ok {P:Program}{w:World}{K:W.Frag}{mg:Str->Option Value}{base:Heap}{name:Str}{st:Stmt}{N ps:List Str}{k:Nat}{sp:Sp}(D:aK K mg name st ps)(S:aZ N ps (aJ st))(len:∀vs H Q E,sp vs H Q E->vs.length=ps.length)
  (hbody:∀(f:Addr) (bL:Value) (A:Around) (outer:List Env) (s:Shared) (H:Hp) (vs:List V) (Q:VK) (E:XK),d7 k (A.deeper (envOfC name (aJ st) s.heap.objs.size f bL))->sp vs H Q E->
   ∃t,sJ (ql fU P w K mg base N name (aJ st) f bL A outer s H E).Ny (dw st) t/\t { nx:=λ_ H'=>Q .non H',rt:=Q } (start N vs) H):bT P w K mg base name (k+1) ps sp:=by
 obtain⟨f,fd,F,b,g⟩:=D.ex;exact⟨f,fd,F.ok S len (hbody f),b,g,F.kp⟩
section
variable {X:Cx}{x:Str}{p pos:Pos}{e:Expr}{es:List Expr}{t:TA}
theorem afD {k:Nat}{ps:List Str}{sp:Sp}(D:bT X.prog X.w X.K X.mg X.base x k ps sp)(hr:d7 k X.A)(hg:Gl X x)(ha:PA X (e::es) t)(hdb:(x==("__debug__":Str))=false:=by decide)
  (hs:starEach (e::es) X.env=(false,eval e X.env)::starEach es X.env:=by rfl) (hpl:(backTo pos (starEach es X.env)).any (·.1)=false:=by rfl) :
  PE X (.Call (.Name x p) (e::es) [] pos) (Hq sp [] E0 t):=by
 obtain⟨f,fd,G,b,g,kp⟩:=D.ex;exact ac8 G hr hg g kp b .nil kj ha hdb hs hpl
end
theorem aA.upd {H:Hp}{p:Addr}{o:HO}(h:H p=none):aA H (upd H p o):=λb o' e=>by rw[aM (bJ e h)];exact e
theorem aA.cB {H H':Hp}{p:Addr}{o:HO}(s:aA H H')(h:H p=none):aA H (L2.upd H' p o):=λb o' e=>by rw[aM (bJ e h)];exact s b o' e
theorem bG {K:W.Frag}{h:Heap}{mg:Str->Option Value}{name:Str}{st:Stmt}{ps:List Str}{f:Addr}{oc:Value}{od an:Option Addr}{osl:Array (Option Value)}{kV doc pm bL ct:Value}(X:K.In h)(G:h.Ns mainGlobals mg)
  (a:W.nsIn K mainGlobals name=some (some (.ref f))) (l:K.lookup f=some ⟨oc,od,.func (W.fnOf name name (fK st) (dw st) (aJ st) .none kV doc pm an bL ct),osl⟩)
  (c:W.codeIn K bL name=true) (k:W.keepIn K (.ref f)=true)
  (hb:∀(kV doc pm:Value) (an:Option Addr) (bL ct:Value) (us:List Value),us.length=ps.length->bindArgs (W.fnOf name name (fK st) (dw st) (aJ st) .none kV doc pm an bL ct) ⟨us,[]⟩=pure (ps.zip us)):aK K mg name st ps:=
 ⟨f,_,jk l c k,(jk l c k).binds hb,ce X G a⟩
theorem afE {K:W.Frag}{h:Heap}{mg:Str->Option Value}{st:Stmt}{x:Str}{f fa:Addr}{oc:Value}{od an:Option Addr}{osl:Array (Option Value)}{kV doc pm bL ct:Value}(X:K.In h)(G:h.Ns mainGlobals mg)(hfa:mg "law"=some (.ref fa))
  (a:W.nsIn K mainGlobals "law"=some (some (.ref f))) (l:K.lookup f=some ⟨oc,od,.func (W.fnOf "law" "law" (fK st) (dw st) (aJ st) .none kV doc pm an bL ct),osl⟩)
  (c:W.codeIn K bL "law"=true) (k:W.keepIn K (.ref f)=true)
  (hb:∀(kV doc pm:Value) (an:Option Addr) (bL ct v:Value),bindArgs (W.fnOf "law" "law" (fK st) (dw st) (aJ st) .none kV doc pm an bL ct) ⟨[v],[]⟩=pure [(x,v)]) :
  ∃fd:FuncData,gQ K "law" "law" st fa fd/\∀(s:Shared) (v:Value),BindsTo s fd ⟨[v],[]⟩ [(x,v)]:=by
 have e:=hfa.symm.trans (ce X G a);cases e;exact⟨_,jk l c k,λs v=>.of_eq (hb kV doc pm an bL ct v)⟩
def Nj (K:W.Frag):Sp:=λvs H Q _=>∃(a:Addr) (ns:List Int),vs=[.ref a]/\aW K H a (ns.map V.int)/\ns.length<=63/\∀H',Q (.bl true) H'
theorem adt {x:Str}{l:W.OpenLaw}{q:Program}{loose:List Str}{XP:(Str->Option Value)->Heap->Prop}{YP:World->Heap->Prop}{d:DefRec}{K:Params->W.Frag}(hn:l.most=some 63)(hdf:d.params.defaults=[])
  (hY:∀(w:World) (h:Heap),YP w h->(K w.params).In h)
  (F:∀(w:World) (mg:Str->Option Value) (fa:Addr) (h:Heap),(K w.params).In h->h.Ns mainGlobals mg->mg d.name=some (.ref fa)->
   ∃fd:FuncData,(∀(s:Shared) (u:Value),BindsTo s fd ⟨[u],[]⟩ [(x,u)])/\∀base:Heap,(K w.params).In base->base.Ns mainGlobals mg->cM l.prog w (K w.params) mg base fU 20 fa fd [x] (Nj (K w.params))) :
  W.WalkO q loose XP YP l.row.toRowW d [] (λf vs=>PySem.call f vs):=
 L2.adl (n:=63) (k:=20) (x:=x) (CX:=λ_=>fU) (sp:=λw=>Nj (K w.params)) hn (by decide) hdf ⟨rfl,by decide,by decide⟩ hY F (λ_ _ a ns hl _ hS=>⟨a,ns,rfl,hS,hl,λ_=>rfl⟩) λ_ _ _ _ _ z=>z
namespace RV
end RV
structure QE (X:Cx)(e:Expr)(t:TE):Prop where
 out:PE X e t
structure QT (X:Cx)(e:Expr)(t:TT):Prop where
 out:PT X e t
structure QW (X:Cx)(e:Expr)(t:TT):Prop where
 out:PW X e t
structure QA (X:Cx)(es:List Expr)(t:TA):Prop where
 out:PA X es t
structure QS (X:Cx)(st:Stmt)(t:TS):Prop where
 out:PS X st t
structure rC (X:Cx)(st:List Stmt)(t:TS):Prop where
 out:sJ X st t
structure QG (X:Cx)(e:Expr)(t:TG):Prop where
 out:PG X e t
structure Xq (X:Cx)(es:List Expr)(t:Ay):Prop where
 out:WK X es t
structure QI (X:Cx)(tg iter:Expr)(wi:TI):Prop where
 out:PI X tg iter wi
structure QO (X:Cx)(e:Option Expr)(t:TO):Prop where
 out:PO X e t
structure QC (X:Cx)(op:CmpOp)(a b:Expr)(t:TE):Prop where
 out:PC X op a b t
structure Xr (X:Cx)(ifs:List Expr)(t:TT):Prop where
 out:R9 X ifs t
theorem QW.qt {X:Cx}{e:Expr}{t:TT}(h:QW X e t):QT X e t:=⟨h.out.pt⟩
section
variable {X:Cx}{st:Stmt}{rest:List Stmt}{t u:TS}
variable {pos:Pos}
variable {e:Expr}{te:TE}
variable {tg:Expr}
variable {o value:Expr}{f:Str}{pos':Pos}{ta tv:TE}
variable {a b:Expr}{tb:TE}
variable {c:Expr}{tc:TE}
variable {tA:TT}
theorem bN  : rC X [] aci:=
 ⟨acY⟩
theorem aB (h1:QS X st t)(h2:rC X rest u):rC X (st::rest) (ae2 t u):=
 ⟨aai h1.out h2.out⟩
theorem aF (h1:QS X st t):rC X [st] t:=
 ⟨acZ h1.out⟩
theorem cF {c:Expr}{a b:List Stmt}{tc:TT}(hc:QT X c tc)(ha:rC X a t)(hb:rC X b u):QS X (.If c a b pos) (ae4 tc t u):=
 ⟨aha hc.out ha.out hb.out⟩
theorem bf (he:QE X e te):QS X (.Return (some e) pos) (aaj te):=
 ⟨ae3 he.out⟩
theorem dO (he:QE X e te)(hs:swapsWith e none pos.line X.env=pure false:=by rfl):QS X (.Expr e pos) (acj te):=
 ⟨ac0 he.out hs⟩
theorem dX {iter:Expr}{body:List Stmt}{wi:TI}{g:TG}{tb:TS}{pos:Pos}(hp:PassesOwn (model X.prog X.w) X.A X.env X.xe)(hc:X.calm=true)(hi:QI X tg iter wi)(hg:QG X tg g)(hb:rC X body tb)(hs:∀x,foldedSetIterable iter X.env x=pure x:=by intro _;rfl):QS X (.For tg iter body [] pos) (afa wi g tb):=
 ⟨afb hp hc hi.out hg.out hb.out hs⟩
theorem yO {c:Expr}{body:List Stmt}{tc:TT}{tb:TS}(hp:PassesOwn (model X.prog X.w) X.A X.env X.xe)(hc:QT X c tc)(hb:rC X body tb):QS X (.While c body [] pos) (WL tc tb):=
 ⟨aal hp hc.out hb.out⟩
theorem aU {i:Nat}{x:Str}{e:Expr}{te:TE}{pos':Pos}(hN:X.N.Nodup)(hi:X.N[i]?=some x)(hx:Loc X.env.scope x)(he:QE X e te)(hs:swapsWith e (some (.Name x pos')) pos.line X.env=pure false:=by rfl)(hf:X.fn x=true\/X.env.scope.names.lookup x=some .local:=by first | exact .inl rfl | exact .inr rfl | assumption):QS X (.Assign [.Name x pos'] e pos) (Js te (jz i)):=
 ⟨ae8 hN hi hx he.out hs hf⟩
theorem KY {sts:List Stmt}:rC X sts Wz:=
 ⟨WD⟩
theorem Hw (ha:QE X o ta)(hv:QE X value tv)(hs:swapsWith value (some (.Attribute o f pos')) pos.line X.env=pure false):QS X (.Assign [.Attribute o f pos'] value pos) (afg X.K ta tv f):=
 ⟨afi ha.out hv.out hs⟩
theorem rD {tg e:Expr}{te:TE}{g:TG}(he:QE X e te)(hg:QG X tg g)(hs:swapsWithSole [tg] e pos.line X.env=pure false:=by rfl)(hw:swappedStores [tg] e X.env=pure none:=by rfl)(h1:(assignEach [tg] X.env).map (·.2)=[assign tg X.env]:=by rfl):QS X (.Assign [tg] e pos) (Js te g):=
 ⟨ae7 he.out hg.out hs hw h1⟩
theorem bO {i:Nat}{x:Str}(hN:X.N.Nodup)(hi:X.N[i]?=some x)(hx:Loc X.env.scope x)(hf:X.fn x=true\/X.env.scope.names.lookup x=some .local:=by first | exact .inl rfl | exact .inr rfl | assumption):QG X (.Name x pos) (jz i):=
 ⟨jU hN hi hx hf⟩
theorem nO {es:List Expr}{k:Nat}{t:Ay}{n:Nat}(hc:X.calm=true)(h:Xq X es t)(hn:(assignEach es X.env).length=n:=by rfl)(hst:(assignEach es X.env).findIdx? (·.1)=none:=by rfl):QG X (.Tuple es k pos) (NK X.K n t):=
 ⟨Hi hc h.out hn hst⟩
theorem jW  : Xq X [] Nz:=
 ⟨DY⟩
theorem cD {e:Expr}{es:List Expr}{t:TG}{u:Ay}(h1:QG X e t)(h2:Xq X es u)(hs:(assignEach (e::es) X.env).map (·.2)=assign e X.env::(assignEach es X.env).map (·.2):=by rfl):Xq X (e::es) (o8 t u):=
 ⟨jK h1.out h2.out hs⟩
theorem aD {i j pos}:QE X (.Constant (.int i) j pos) (tC (.int i)):=
 ⟨aeO⟩
theorem jB {b j pos}:QE X (.Constant (.bool b) j pos) (tC (.bl b)):=
 ⟨ag7⟩
theorem Hx {j pos}:QE X (.Constant .none j pos) (tC .non):=
 ⟨aeP⟩
theorem bx {op:Operator}{r:R2}(ho:fJ X (binaryOp op) r)(ha:QE X a ta)(hb:QE X b tb):QE X (.BinOp a op b pos) (sO r ta tb):=
 ⟨ahb ho ha.out hb.out⟩
theorem yP {op:UnaryOp}{r:V->Hp->VK->Prop}(ho:UnR X (unaryOp op) r)(ha:QE X a ta):QE X (.UnaryOp op a pos) (tUn r ta):=
 ⟨ahc ho ha.out⟩
theorem d_ {op:CmpOp}{r:R2}(ho:fJ X (compareOp op) r)(ha:QE X a ta)(hb:QE X b tb)(hm:behindInMarks op b=false):QE X (.Compare a [op] [b] pos) (sO r ta tb):=
 ⟨ac3 ho ha.out hb.out hm⟩
theorem bD {op:CmpOp}{r:R2}(ho:fJ X (compareOp op) r)(ha:QE X a ta)(hb:QE X b tb)(hm:behindInMarks op b=false):QT X (.Compare a [op] [b] pos) (yJ (sO r ta tb)):=
 ⟨ac4 ho ha.out hb.out hm⟩
theorem kE {op op':CmpOp}{r r':R2}(ho:fJ X (compareOp op) r)(ho':fJ X (compareOp op') r')(ha:QE X a ta)(hb:QE X b tb)(hc:QE X c tc)(hm:lastMarks [op,op'] [b,c]=false:=by with_unfolding_all rfl):QE X (.Compare a [op,op'] [b,c] pos) (Bd r r' ta tb tc):=
 ⟨aao ho ho' ha.out hb.out hc.out hm⟩
theorem uG {op op':CmpOp}{r r':R2}(ho:fJ X (compareOp op) r)(ho':fJ X (compareOp op') r')(ha:QE X a ta)(hb:QE X b tb)(hc:QE X c tc)(hm:lastMarks [op,op'] [b,c]=false:=by with_unfolding_all rfl):QT X (.Compare a [op,op'] [b,c] pos) (yJ (Bd r r' ta tb tc)):=
 ⟨aap ho ho' ha.out hb.out hc.out hm⟩
theorem dj {e:Expr}{t:TE}(h:QE X e t)(he:∀whole,isTrue e X.env whole=(do let v <- whole;standAt e.pos;holding [v] (truthy v)):=by intro _;rfl):QT X e (tB t):=
 ⟨aeS h.out he⟩
theorem fB (ha:QT X a tA):QT X (.UnaryOp .Not a pos) (aeU tA):=
 ⟨aeX ha.out⟩
end
section
variable {X:Cx}{a b:Expr}{pos:Pos}{tA nD:TT}{rest:List Expr}
variable {ta tb:TE}
variable {e:Expr}{te:TE}{lo hi:Option Expr}{tl th:TO}{p2:Pos}
variable {es:List Expr}{t:TA}
variable {x:Str}{p:Pos}{id:String}{r:List V->Hp->VK->Prop}
variable {T:String}
theorem i_ (ha:QT X a tA)(hb:QW X (.BoolOp .And (b::rest) pos) nD):QW X (.BoolOp .And (a::b::rest) pos) (aeT tA nD):=
 ⟨aeW ha.out hb.out⟩
theorem jw (ha:QT X a tA):QW X (.BoolOp .And [a] pos) tA:=
 ⟨acX ha.out⟩
theorem mU (ha:QT X a tA)(hb:QW X (.BoolOp .Or (b::rest) pos) nD):QW X (.BoolOp .Or (a::b::rest) pos) (tOr tA nD):=
 ⟨ag8 ha.out hb.out⟩
theorem jX (ha:QT X a tA):QW X (.BoolOp .Or [a] pos) tA:=
 ⟨aeV ha.out⟩
theorem nP (ha:QE X a ta)(hb:QE X (.BoolOp .And (b::rest) pos) tb):QE X (.BoolOp .And (a::b::rest) pos) (acg ta tb):=
 ⟨ae0 ha.out hb.out⟩
theorem acD (ha:QE X a ta)(hb:QE X (.BoolOp .Or (b::rest) pos) tb):QE X (.BoolOp .Or (a::b::rest) pos) (aeY ta tb):=
 ⟨ag9 ha.out hb.out⟩
theorem lW {op}{t:TE}(h:QE X a t):QE X (.BoolOp op [a] pos) t:=
 ⟨aeZ h.out⟩
theorem afF (ha:QE X a ta):QE X (.UnaryOp .Not a pos) (ach ta):=
 ⟨ae1 ha.out⟩
theorem qp {c:Expr}(hc:QT X c tA)(ha:QE X a ta)(hb:QE X b tb):QE X (.IfExp c a b pos) (tIf tA ta tb):=
 ⟨aah hc.out ha.out hb.out⟩
theorem aQ {r:R2}(hr:N6 X r)(ha:QE X a ta)(hb:QE X b tb)(hs:R0 b):QE X (.Subscript a b pos) (sO r ta tb):=
 ⟨ahd hr ha.out hb.out hs⟩
theorem kI {r:V->Option Int->Option Int->Hp->VK->Prop}(hr:SlR X r)(he:QE X e te)(hl:QO X lo tl)(hu:QO X hi th):QE X (.Subscript e (.Slice lo hi none p2) pos) (tSl r te tl th):=
 ⟨aav hr he.out hl.out hu.out⟩
theorem oN  : QO X none RX:=
 ⟨adb⟩
theorem lD (h:QE X e te):QO X (some e) (acs te):=
 ⟨ade h.out⟩
theorem eU (h:QA X es t):QE X (.List es pos) (afm t):=
 ⟨afo h.out⟩
theorem cQ {x1}(h:QA X es t):QE X (.Tuple es x1 pos) (afl t):=
 ⟨afn h.out⟩
theorem aq  : QA X [] rQ:=
 ⟨afk⟩
theorem aj (ha:QE X e te)(hr:QA X es t)(hs:starEach (e::es) X.env=(false,eval e X.env)::starEach es X.env:=by rfl):QA X (e::es) (mQ te t):=
 ⟨ac7 ha.out hr.out hs⟩
theorem aN (hc:gq X (.builtin id) r)(hg:Gl X x)(hm:X.mg x=none)(hv:bootBuiltins x=some (.builtin id))(ha:QA X (e::es) t)(hn:x≠"__name__":=by decide)(hdb:(x==("__debug__":Str))=false:=by decide)(he:starEach (e::es) X.env=(false,eval e X.env)::starEach es X.env:=by rfl)(hpl:(backTo pos (starEach es X.env)).any (·.1)=false:=by rfl):QE X (.Call (.Name x p) (e::es) [] pos) (N5 r t):=
 ⟨aau hc hg hm hv ha.out hn hdb he hpl⟩
theorem dJ (hc:gq X (.type T) r)(hg:Gl X x)(hm:X.mg x=none)(hv:bootBuiltins x=some (.type T))(ha:QA X (e::es) t)(hn:x≠"__name__":=by decide)(hdb:(x==("__debug__":Str))=false:=by decide)(he:starEach (e::es) X.env=(false,eval e X.env)::starEach es X.env:=by rfl)(hpl:(backTo pos (starEach es X.env)).any (·.1)=false:=by rfl):QE X (.Call (.Name x p) (e::es) [] pos) (N5 r t):=
 ⟨W6 hc hg hm hv ha.out hn hdb he hpl⟩
end
section
variable {X:Cx}{o e:Expr}{es:List Expr}{to:TE}{t:TA}{name:Str}{apos cpos:Pos}{T id:String}{r:V->List V->Hp->VK->Prop}
variable {tg:Expr}
variable {f:Str}{pos:Pos}{ta:TE}
theorem gw (pa:PlainAttrs T)(slot:Slot T name id)(hty:typeOf (.builtin id)=pure (.type "method_descriptor"))(hm:xV X id r)(ho:QE X o to)(ha:QA X (e::es) t)(hbase:attributeBase o name X.env (eval o X.env)=eval o X.env:=by rfl)(hfew:((backTo cpos (starEach (e::es) X.env)).all (λx=>!x.1)&&(backToKw cpos (keywordEach [] X.env)).all (λx=>x.1.isSome)
   && decide ((e::es).length+([]:List Keyword).length+(if ([]:List Keyword).isEmpty then 0 else 1) < 30))=true:=by rfl) (hline:(apos.endLine==cpos.line)=true:=by rfl) (hs:starEach (e::es) X.env=(false,eval e X.env)::starEach es X.env:=by rfl) (hplain:(backTo cpos (starEach es X.env)).any (·.1)=false:=by rfl):QE X (.Call (.Attribute o name apos) (e::es) [] cpos) (tBM X.K T r to t):=
 ⟨ahf pa slot hty hm ho.out ha.out hbase hfew hline hs hplain⟩
theorem rE (pa:PlainAttrs T)(slot:Slot T name id)(hty:typeOf (.builtin id)=pure (.type "method_descriptor"))(hm:xV X id r)(ho:QE X o to)(hbase:attributeBase o name X.env (eval o X.env)=eval o X.env:=by rfl)(hline:(apos.endLine==cpos.line)=true:=by rfl):QE X (.Call (.Attribute o name apos) [] [] cpos) (afv X.K T r to):=
 ⟨afw pa slot hty hm ho.out hbase hline⟩
theorem mV {x:Str}{v:V}{u:Value}{pos:Pos}(hg:Gl X x)(hm:X.mg x=none)(hv:bootBuiltins x=some u)(r:cA v u)(hn:x≠"__name__":=by decide)(hd:(x==("__debug__":Str))=false:=by decide):QE X (.Name x pos) (tC v):=
 ⟨acW hg hm hv r hn hd⟩
theorem gn {x:Str}{v:V}{u:Value}{pos:Pos}(hg:Gl X x)(hm:X.mg x=some u)(r:cA v u)(hd:(x==("__debug__":Str))=false:=by decide):QE X (.Name x pos) (tC v):=
 ⟨acV hg hm r hd⟩
theorem gK {l:Expr}{tl:TE}(hl:QE X l tl):QI X tg l (acn X.K tl):=
 ⟨ac1 hl.out⟩
theorem dY {l:Expr}{tl:TE}(hl:QE X l tl):QI X tg l (ae9 X.K tl):=
 ⟨ae_ hl.out⟩
theorem j6 {a:Expr}{ta:TA}{p pos:Pos}(hg:Gl X "range")(hm:X.mg "range"=none)(ha:QA X [a] ta)(hs:starEach [a] X.env=[(false,eval a X.env)]:=by rfl):QI X tg (.Call (.Name "range" p) [a] [] pos) (aco ta):=
 ⟨WQ hg hm ha.out hs⟩
theorem vH {a b:Expr}{ta:TA}{p pos:Pos}(hg:Gl X "range")(hm:X.mg "range"=none)(ha:QA X [a,b] ta)(hs:starEach [a,b] X.env=[(false,eval a X.env),(false,eval b X.env)]:=by rfl)(hs2:starEach [b] X.env=[(false,eval b X.env)]:=by rfl):QI X tg (.Call (.Name "range" p) [a,b] [] pos) (acp ta):=
 ⟨WR hg hm ha.out hs hs2⟩
theorem iD (he:QE X e ta)(hb:attributeBase e f X.env (eval e X.env)=eval e X.env):QE X (.Attribute e f pos) (afe X.K ta f):=
 ⟨afh he.out hb⟩
end
section
variable {X:Cx}{CX:nH}{k:Nat}{f C:Addr}{fd:FuncData}{ps:List Str}{sp:Sp}{ji:List V}{ds:List Value}{E:XK}{m:Str}{pos apos:Pos}{e o:Expr}{es:List Expr}{ta:TE}{t:TA}
variable {x:Str}{p:Pos}
variable {i:Expr}{td ty:TE}
variable {value:Expr}{tv:TE}{pos':Pos}
variable {a b:Expr}
theorem qu {pl:Sem Bool}(he:QE X o ta)(c:Cls X.K C)(hm:Meth X.K C m f)(F:cM X.prog X.w X.K X.mg X.base CX k f fd ps sp)(hr:d7 k X.A)(hb:cJ X.K fd ps ds)(hd:Vals ji ds)(hx:Passes CX X E)(ha:QA X (e::es) t)(hst:starEach (e::es) X.env=(false,eval e X.env)::starEach es X.env:=by rfl)(hpl:(backTo pos (starEach es X.env)).any (·.1)=false:=by rfl)(ht:eval (.Call (.Attribute o m apos) (e::es) [] pos) X.env=(do
   let ov <- eval o X.env
   standAt apos.atName
   let (f,first) <- holding [ov] (getMethod ov m pl)
   callWith pos f first (backTo pos (starEach (e::es) X.env)) (backToKw pos (keywordEach [] X.env))):=by rfl):QE X (.Call (.Attribute o m apos) (e::es) [] pos) (Nb C m sp ji E ta t):=
 ⟨ac9 he.out c hm F hr hb hd hx ha.out hst hpl ht⟩
theorem FQ {pl:Sem Bool}(he:QE X o ta)(c:Cls X.K C)(hm:Meth X.K C m f)(F:cM X.prog X.w X.K X.mg X.base CX k f fd ps sp)(hr:d7 k X.A)(hb:cJ X.K fd ps ds)(hd:Vals ji ds)(hx:Passes CX X E)(ht:eval (.Call (.Attribute o m apos) [] [] pos) X.env=(do
   let ov <- eval o X.env
   standAt apos.atName
   let (f,first) <- holding [ov] (getMethod ov m pl)
   callWith pos f first (backTo pos (starEach [] X.env)) (backToKw pos (keywordEach [] X.env))):=by rfl):QE X (.Call (.Attribute o m apos) [] [] pos) (Nb C m sp ji E ta rQ):=
 ⟨aas he.out c hm F hr hb hd hx ht⟩
theorem Eb (M:Mk X.K C f)(F:cM X.prog X.w X.K X.mg X.base CX k f fd ps sp)(hr:d7 (k+1) X.A)(hg:Gl X x)(hm:X.mg x=some (.ref C))(hb:cJ X.K fd ps ds)(hd:Vals ji ds)(hx:Passes CX X E)(ha:QA X (e::es) t)(hdb:(x==("__debug__":Str))=false:=by decide)(he:starEach (e::es) X.env=(false,eval e X.env)::starEach es X.env:=by rfl)(hpl:(backTo pos (starEach es X.env)).any (·.1)=false:=by rfl):QE X (.Call (.Name x p) (e::es) [] pos) (acq C sp ji E t):=
 ⟨ac_ M F hr hg hm hb hd hx ha.out hdb he hpl⟩
theorem aaH  : QE X (.Dict [] [] pos) Xc:=
 ⟨aaE⟩
theorem afG (hu:X.A.units+1 < cLine)(hi:QE X i ty)(ho:QE X o td):QC X .In i o (afz ty td):=
 ⟨afA hu hi.out ho.out⟩
theorem Sh (hu:X.A.units+1 < cLine)(ho:QE X o td)(hi:QE X i ty)(hv:QE X value tv)(hs:swapsWith value (some (.Subscript o i pos')) pos.line X.env=pure false):QS X (.Assign [.Subscript o i pos'] value pos) (acw td ty tv):=
 ⟨adk hu ho.out hi.out hv.out hs⟩
theorem afH {op:CmpOp}{t:TE}(h:QC X op a b t)(h1:behindInMarks op b=false:=by first | exact aag _ (by decide) (by decide) | rfl):QE X (.Compare a [op] [b] pos) t:=
 ⟨aeR h.out h1⟩
theorem qv (i:Nat){x:Str}{pos:Pos}(hN:X.N[i]?=some x:=by rfl)(hv:Vis X.env.scope x:=by first | exact Or.inl rfl | exact Or.inr (Or.inl rfl) | exact Or.inr (Or.inr rfl))(hd:(x==("__debug__":Str))=false:=by decide)(hcd:(x==("__classdict__":Str))=false:=by decide):QE X (.Name x pos) (iz i):=
 ⟨pv i hN hv hd hcd⟩
theorem cU {X:Cx}:Xr X [] gC:=
 ⟨adn⟩
theorem xZ {X:Cx}{c:Expr}{t:TT}(h:QT X c t):Xr X [c] t:=
 ⟨ado h.out⟩
theorem b_ (l:List Nat){x:Str}{j pos}(h:x=S l):QE X (.Constant (.str x) j pos) (tC (.str (S l))):=
 ⟨adq l h⟩
theorem aX {k:Nat}{ps:List Str}{sp:Sp}(D:bT X.prog X.w X.K X.mg X.base x k ps sp)(hr:d7 k X.A)(hg:Gl X x)(ha:QA X (e::es) t)(hdb:(x==("__debug__":Str))=false:=by decide)(hs:starEach (e::es) X.env=(false,eval e X.env)::starEach es X.env:=by rfl)(hpl:(backTo pos (starEach es X.env)).any (·.1)=false:=by rfl):QE X (.Call (.Name x p) (e::es) [] pos) (Hq sp [] E0 t):=
 ⟨afD D hr hg ha.out hdb hs hpl⟩
end
theorem jx {X:Cx}{elt iter:Expr}{x:Str}{px:Pos}{ifs:List Expr}{scope:Scope}{pos:Pos}{wi:TI}{tt:TT}{te:TE}(hc:X.calm=true)(ok:iZ X scope x)(hi:QI X (.Name x px) iter wi)
  (ht:∀cl C s₀ H₀ fp,Xr (blk X scope cl C x s₀ H₀ fp) ifs tt) (he:∀cl C s₀ H₀ fp,QE (blk X scope cl C x s₀ H₀ fp) elt te)
  (hs:∀x,foldedSetIterable iter X.env x=pure x:=by intro _;rfl):QE X (.ListComp elt [⟨.Name x px,iter,ifs,0⟩] scope pos) (acy wi tt te):=
 ⟨adp hc ok hi.out (λcl C s₀ H₀ fp=>(ht cl C s₀ H₀ fp).out) (λcl C s₀ H₀ fp=>(he cl C s₀ H₀ fp).out) hs⟩
theorem aK.dM {P:Program}{w:World}{K:W.Frag}{mg:Str->Option Value}{base:Heap}{name:Str}{st:Stmt}{N ps:List Str}{k:Nat}{sp:Sp}(D:aK K mg name st ps)(S:aZ N ps (aJ st))(len:∀vs H Q E,sp vs H Q E->vs.length=ps.length)
  (hbody:∀(f:Addr) (bL:Value) (A:Around) (outer:List Env) (s:Shared) (H:Hp) (vs:List V) (Q:VK) (E:XK),d7 k (A.deeper (envOfC name (aJ st) s.heap.objs.size f bL))->sp vs H Q E->
   ∃t,rC (ql fU P w K mg base N name (aJ st) f bL A outer s H E).Ny (dw st) t/\t { nx:=λ_ H'=>Q .non H',rt:=Q } (start N vs) H):bT P w K mg base name (k+1) ps sp:=
 D.ok S len λf bL A outer s H vs Q E hr h=>let ⟨t,a,b⟩:=hbody f bL A outer s H vs Q E hr h;⟨t,a.out,b⟩
theorem gQ.dM {P:Program}{w:World}{K:W.Frag}{mg:Str->Option Value}{base:Heap}{x qual:Str}{st:Stmt}{f:Addr}{fd:FuncData}{N ps:List Str}{k:Nat}{sp:Sp}(F:gQ K x qual st f fd)(S:aZ N ps (aJ st))(len:∀vs H Q E,sp vs H Q E->vs.length=ps.length)
  (hbody:∀(bL:Value) (A:Around) (outer:List Env) (s:Shared) (H:Hp) (vs:List V) (Q:VK) (E:XK),d7 k (A.deeper (envOfC qual (aJ st) s.heap.objs.size f bL))->sp vs H Q E->
   ∃t,rC (ql fU P w K mg base N qual (aJ st) f bL A outer s H E).Ny (dw st) t/\t { nx:=λ_ H'=>Q .non H',rt:=Q } (start N vs) H):cM P w K mg base fU (k+1) f fd ps sp:=
 F.ok S len λbL A outer s H vs Q E hr h=>let ⟨t,a,b⟩:=hbody bL A outer s H vs Q E hr h;⟨t,a.out,b⟩
section
theorem Bo:∀{ss:List Str} {us:List Value},StrsAre us ss->Vals (ss.map V.str) us
 | _,_,.nil=>.nil
 | _,_,.cons x t r=>.cons ⟨t,rfl⟩ (Bo r)
end
def Its (l:List Nat):It:=⟨λi _=>i < l.length,λi H x H'=>H'=H/\∃c,l[i]?=some c/\x=.str (S [c]),λi _=>l.length<=i⟩
theorem aaI {P:Program}{w:World}{K:W.Frag}{tg:Expr}{ty:String}(hty:ty="str_ascii_iterator"\/ty="str_iterator")(l:List Nat)(t:Tok)(it:Addr) :
  Turn P w K tg (Its l) [it] it (λi h=>i<=l.length/\h.IsStrIter it ty (S l) t i) where
 mem:=by simp
 obj:=λi h st b hb=>by
  have e:b=it:=by simpa using hb
  subst e;obtain⟨_,o,e,c,d⟩:=st;exact⟨o,e,λv z=>by rw[d]at z;cases z⟩
 keep:=λi h h' st k=>⟨st.1,let ⟨o,ho,r⟩:=st.2;⟨o,k it (by simp) o ho,r⟩⟩
 item:=by
  intro X hP hw hK hc i ao s σ H E I hf st hg;subst hP hw hK;obtain⟨f0,f1,f2,f3,f4,f5⟩:=hf it (by simp);have hg':i < (S l).cps.size:=hg;have fin:∀(v:Value) (h':Heap) (tk:Nat),SignAt (S l) i v->h'.IsStrIter it ty (S l) t (i+1)->(∀b o,b∉[it]->s.heap.get? b=some o->h'.get? b=some o)->
    ∃u,some v=some u/\wpAny (model X.prog X.w) X.A (letOwnedTupleGo tg (.ref it) u) (λ_ s2=>∃x H',aL X ao σ H' s2/\cA x u/\(Its l).oK i H x H'/\(i+1<=l.length/\s2.heap.IsStrIter it ty (S l) t (i+1))/\∀b∈[it],H' b=none) E { s with heap:=h',toks:=tk }:=by
   intro v h' tk hv st' kk;obtain⟨c,u,hc',rfl⟩:=hv;have I1:aL X ao σ H { s with heap:=h',toks:=tk }:=I.turned (λb o hb e=>kk b o (by simpa using hb) e) f0 f1 f3 f4 f5;obtain⟨o,e,c2,d2⟩:=id st';refine⟨_,rfl,M_ (s:={ s with heap:=h',toks:=tk }) e c2 d2 (by rcases hty with rfl | rfl <;> decide) ⟨.str (S [c]),H,I1,⟨u,rfl⟩,⟨rfl,c,by simpa [S] using hc',rfl⟩,⟨hg,st'⟩,λb hb=>(hf b hb).1⟩⟩
  rcases hty with rfl | rfl
  ·exact(Walks.strAscii (prog:=X.prog) (w:=X.w) (I.ok.hd hc) it (S l) t).item i s _ _ hg' st.2 λv h' tk hv st' kk=>fin v h' tk hv st' kk
  ·exact(Walks.strWide (prog:=X.prog) (w:=X.w) (I.ok.hd hc) it (S l) t).item i s _ _ hg' st.2 λv h' tk hv st' kk=>fin v h' tk hv st' kk
 done:=by
  intro X hP hw hK hc i ao s σ H E I hf st hg;subst hP hw hK;obtain⟨f0,f1,f2,f3,f4,f5⟩:=hf it (by simp);have hi:i=(S l).cps.size:=Nat.le_antisymm st.1 hg;have st':=st.2;rw[hi]at st';rcases hty with rfl | rfl
  ·exact(Walks.strAscii (prog:=X.prog) (w:=X.w) (I.ok.hd hc) it (S l) t).done s _ _ st' λh' tk kk=>⟨rfl,I.turned (λb o hb e=>kk b o (by simpa using hb) e) f0 f1 f3 f4 f5⟩
  ·exact(Walks.strWide (prog:=X.prog) (w:=X.w) (I.ok.hd hc) it (S l) t).done s _ _ st' λh' tk kk=>⟨rfl,I.turned (λb o hb e=>kk b o (by simpa using hb) e) f0 f1 f3 f4 f5⟩
 self:=λA i s Q E st h=>by
  rcases hty with rfl | rfl
  ·exact wpAny_pyIter_striter_ascii st.2 h
  ·exact wpAny_pyIter_striter_wide st.2 h
theorem Xu {a b c:List Nat}(h1:¬b < a)(h2:¬c < b):¬c < a:=by
 have h1':a<=b:=h1;have h2':b<=c:=h2;exact List.le_trans h1' h2'
theorem KZ:∀(r:List Str) (p:Str),risingS p r=true->(∀x∈r,¬x.cps.toList < p.cps.toList)/\(r.map λy=>y.cps.toList).Pairwise (λa b=>decide (b < a)=false)
 | [],_,_=>⟨λ_ h=>by simp at h,List.Pairwise.nil⟩
 | y::r,p,h=>by
  rw[risingS,cw]at h;have h0:¬y.cps.toList < p.cps.toList:=by
   have:=h.1;simpa [ltCps_eq] using this
  obtain⟨h1,h2⟩:=KZ r y h.2;refine⟨λx hx=>?_,?_⟩
  ·rcases bo.mp hx with e | e
   ·rw[e];exact h0
   ·exact Xu h0 (h1 x e)
  ·rw[bP]
   refine List.Pairwise.cons (λb hb=>?_) h2;obtain⟨x,hx,rfl⟩:=aE.mp hb;exact al (h1 x hx)
theorem Xv (ss:List Str)(h:sortedS ss=true):(ss.map λy=>y.cps.toList).Pairwise (λa b=>decide (b < a)=false):=by
 cases ss with
 | nil=>exact List.Pairwise.nil
 | cons x r=>
  obtain⟨h1,h2⟩:=KZ r x h;rw[bP];refine List.Pairwise.cons (λb hb=>?_) h2;obtain⟨y,hy,rfl⟩:=aE.mp hb;exact al (h1 y hy)
section
variable {X:Cx}{tg:Expr}
def ahS (tl:TE):TI:=λσ H R=>tl σ H λx H1=>∃l,x=.str (S l)/\R (Its l) H1
theorem uH {l:Expr}{tl:TE}(hl:QE X l tl):QI X tg l (ahS tl):=⟨by
 intro ao s σ H R I h;refine bR (hl.out ao s σ H _ I h) λv s1 zz=>?_;obtain⟨x,H1,I1,r1,q1⟩:=zz;obtain⟨l,e,q⟩:=q1;subst e;obtain⟨t,rfl⟩:=r1;refine wpAny_pyIter_strU ?_;have hty:strIterType (S l)="str_ascii_iterator"\/strIterType (S l)="str_iterator":=by unfold strIterType;split <;> simp
 refine⟨s1.heap.objs.size,[s1.heap.objs.size],_,_,H1,rfl,I1.kept (t':=s1.toks) λb o e=>ag _ e,aaI hty l t _,⟨b7 _,_,a9 _ rfl,rfl,rfl⟩,λb hb=>?_,q⟩;have e:b=s1.heap.objs.size:=by simpa using hb
 subst e;exact I1.Jt (ap _) (I1.hok.fresh (ap _))⟩
theorem uI {l:List Nat}{D:Addr}{te:TE}{σ:St}{H:Hp}{R:Hp->Prop}(Pv:Nat->List V->Hp->Prop)(h0:Pv 0 [] (upd H D (.lst [])))
  (hs:∀i c ys H,l[i]?=some c->Pv i ys H->te (some (.str (S [c]))::σ) H λy H3=>H3 D=some (.lst ys)/\ys.length < sizeLine/\dI l.length i (Pv (i+1) (ys++[y]) (upd H3 D (.lst (ys++[y])))))
  (hd:∀ys H,Pv l.length ys H->R H) :
  ∃W:Nat->Nat->List V->Hp->Prop,(∃m,W 0 m [] (upd H D (.lst [])))/\
   ∀i m ys H,W i m ys H->((Its l).stop i H/\R H)\/((Its l).go i H/\∀x H',(Its l).oK i H x H'->gC (some x::σ) H' λb H2=>
    if b=true then te (some x::σ) H2 λy H3=>H3 D=some (.lst ys)/\ys.length < sizeLine/\∃m',m' < m/\W (i+1) m' (ys++[y]) (upd H3 D (.lst (ys++[y])))
    else ∃m',m' < m/\W (i+1) m' ys H2):=by
 refine⟨λi m ys H=>m=l.length-i/\i<=l.length/\Pv i ys H,⟨l.length,by simp,b7 _,h0⟩,?_⟩;rintro i m ys H ⟨rfl,hi,p⟩;by_cases hlt:i < l.length
 ·refine .inr ⟨hlt,λx H' y=>?_⟩
  obtain⟨e,c,hc,e2⟩:=y;subst e e2;exact hs i c ys H' hc p
 ·have e:i=l.length:=by lia
  subst e;exact .inl ⟨ap _,hd ys H p⟩
theorem jL (hc:X.calm=true):gq X (.builtin "all") (λxs H Q=>∃(p:Addr) (bs:List Bool),xs=[.ref p]/\aW X.K H p (bs.map V.bl)/\Q (.bl (bs.all id)) H):=by
 intro ao s σ H xs us Q I r h;obtain⟨p,bs,rfl,hq,q⟩:=h;obtain⟨u,rfl,ru⟩:=vals1 r;cases ru;obtain⟨its,rv,pl,hz⟩:=I.list hq;have hne:p≠s.heap.objs.size:=by
  obtain⟨o,ho,_⟩:=pl.isList;exact ba (ax ho)
 have hb:∀(i:Nat) (v:Value),its[i]?=some v->v=.bool (bs.getD i true):=λi v hv=>by
  have bY:=rv.length;have hi:i < bs.length:=by have:=(af.mp hv).1;simp at bY;lia
  obtain⟨u,hu,ru⟩:=rv.get (i:=i) (x:=.bl bs[i]) (by simp[hi]);rw[hv]at hu;cases hu;cases ru;simp[List.getD,hi]
 refine call_all_walk (fe pl.isList ?_);refine⟨s.heap.objs.size,_,_,_,_,_,λi=>bs.getD i true,rfl,Walks.list (A:=X.A.in1) (I.ok.hd hc) s.heap.objs.size p hne its.toArray,⟨⟨_,a9 _ rfl,rfl,rfl⟩,pl.isList.at λo e=>ag _ e⟩,?_,λh' tk kk=>?_⟩
 ·intro i v s' Q' E' hv hq'
  have e:=hb i v (by simpa using hv);subst e;exact ed hq'
 ·have I1:aL X ao σ H { s with heap:=h',toks:=tk }:=I.kept λb o e=>kk b o (by
   intro hm;have:b=s.heap.objs.size:=by simpa using hm
   subst this;exact absurd (ax e) (dP _)) (ag _ e)
  refine⟨.bl (bs.all id),H,I1,?_,q⟩;show Value.bool _=Value.bool _;have bY:its.toArray.size=bs.length:=by have:=rv.length;simp at this;simp[this]
  rw[bY];congr 1;have key:∀bs:List Bool,(List.range bs.length).all (λi=>bs.getD i true)=bs.all id:=λbs=>by
   rw[e6,cy,cy];constructor
   ·intro h x hx
    obtain⟨i,hi,rfl⟩:=c_.mp hx;have:=h i (eK.mpr hi);simpa [List.getD,hi] using this
   ·intro h i hi
    have hi':=eK.mp hi;have:=h bs[i] (ah _);simpa [List.getD,hi'] using this
  exact key bs
def aaJ:R2:=λx y H Q=>∃i j,x=.str (S i)/\y=.str (S j)/\Q (.bl (!decide (j < i))) H
theorem rF:fJ X (compareOp .LtE) aaJ:=by
 intro ao s σ H x y v u Q I rx ry h;obtain⟨i,j,rfl,rfl,q⟩:=h;obtain⟨t,rfl⟩:=rx;obtain⟨t',rfl⟩:=ry;exact PySem.P.le_str ⟨.bl _,H,I,rfl,q⟩
abbrev lH (l:List Nat):Key:=Sum.inr (S l)
theorem QI.or {iter:Expr}{w1 w2:TI}(h1:QI X tg iter w1)(h2:QI X tg iter w2):QI X tg iter (λσ H R=>w1 σ H R\/w2 σ H R):=⟨λao s σ H R I h=>by
 rcases h with h | h
 ·exact h1.out ao s σ H R I h
 ·exact h2.out ao s σ H R I h⟩
end
theorem aW.keep {K:W.Frag}{H H':Hp}{a p:Addr}{xs:List V}(k:∀b o,H b=some o->b≠p->H' b=some o)(hp:∀o,H p=some o->(∀ys,o≠.lst ys)/\∀u ys,o≠.nC u (.lst ys))(h:aW K H a xs):aW K H' a xs:=by
 rcases h with(h | ⟨o,h⟩) | h
 ·exact .inl (.inl (k _ _ h λe=>(hp _ (e ▸ h)).1 _ rfl))
 ·exact .inl (.inr ⟨o,k _ _ h λe=>(hp _ (e ▸ h)).2 _ _ rfl⟩)
 ·exact .inr h
theorem aP.keep {K:W.Frag}{H H':Hp}{a p:Addr}{xs:List V}(k:∀b o,H b=some o->b≠p->H' b=some o)(hp:∀o,H p=some o->(∀ys,o≠.tup ys)/\∀u ys,o≠.nC u (.tup ys))(h:aP K H a xs):aP K H' a xs:=by
 rcases h with(h | ⟨o,h⟩) | h
 ·exact .inl (.inl (k _ _ h λe=>(hp _ (e ▸ h)).1 _ rfl))
 ·exact .inl (.inr ⟨o,k _ _ h λe=>(hp _ (e ▸ h)).2 _ _ rfl⟩)
 ·exact .inr h
section
variable {X:Cx}
def ahT:V->List V->Hp->VK->Prop:=λx vs H Q=>∃l,x=.str (S l)/\vs=[]/\l.length<=1000/\(∀c∈l,c < 128)/\Q (.str (S (l.map up1))) H
theorem afI:xV X "str.upper" ahT:=by
 intro ao s σ H x vs v us Q I rx rv h;obtain⟨l,rfl,rfl,hz,ha,q⟩:=h;obtain⟨t,rfl⟩:=rx;have hus:=rv.zero;subst hus;have hfit:Builtin.Str.tooLong (Txt.upper (S l)).length=false:=fit_upper (by rw[qN];lia);refine call_gives F.slot_str_upper (typeIs_str s _ t) F.entry_str_upper (F.args_str_upper_1 _) (gives_str_upper (S l) t hfit) ⟨fit_le hfit,?_⟩;have e:Txt.upper (S l)=S (l.map up1):=by rw[upper_ascii (x:=S l) ha];simp[S]
 exact⟨.str (S (l.map up1)),H,I.tok _,⟨s.toks,congrArg (λz=>Value.str z s.toks) e⟩,q⟩
def ahU:V->List V->Hp->VK->Prop:=λx vs H Q=>∃l,x=.str (S l)/\vs=[]/\l.length<=1000/\(∀c∈l,c < 128)/\Q (.str (S (l.map lo1))) H
theorem yc:xV X "str.lower" ahU:=by
 intro ao s σ H x vs v us Q I rx rv h;obtain⟨l,rfl,rfl,hz,ha,q⟩:=h;obtain⟨t,rfl⟩:=rx;have hus:=rv.zero;subst hus;have hfit:Builtin.Str.tooLong (Txt.lower (S l)).length=false:=fit_lower (by rw[qN];lia);refine call_gives F.slot_str_lower (typeIs_str s _ t) F.entry_str_lower (F.args_str_lower_1 _) (gives_str_lower (S l) t hfit) ⟨fit_le hfit,?_⟩;have e:Txt.lower (S l)=S (l.map lo1):=by rw[lower_ascii (x:=S l) ha];simp[S]
 exact⟨.str (S (l.map lo1)),H,I.tok _,⟨s.toks,congrArg (λz=>Value.str z s.toks) e⟩,q⟩
end
theorem adu {l:List Nat}{g:TG}{tb:TS}{D:Ends}{σ:St}{H:Hp}(Pv:Nat->St->Hp->Prop)(h0:Pv 0 σ H)
  (hs:∀i c σ H,l[i]?=some c->Pv i σ H->g (.str (S [c])) σ H λσ2 H2=>tb { D with nx:=Pv (i+1),ct:=Pv (i+1),bk:=D.nx } σ2 H2) (hd:∀σ H,Pv l.length σ H->D.nx σ H) :
  ∃W:Nat->Nat->St->Hp->Prop,(∃m,W 0 m σ H)/\∀i m σ H,W i m σ H->
   ((Its l).stop i H/\D.nx σ H)\/((Its l).go i H/\∃N:St->Hp->Prop,(∀σ' H',N σ' H'->∃m',m' < m/\W (i+1) m' σ' H')/\∀x H',(Its l).oK i H x H'->g x σ H' λσ2 H2=>tb { D with nx:=N,ct:=N,bk:=D.nx } σ2 H2):=by
 refine⟨λi m σ H=>m=l.length-i/\i<=l.length/\Pv i σ H,⟨l.length,by simp,b7 _,h0⟩,?_⟩;rintro i m σ H ⟨rfl,hi,p⟩;by_cases hlt:i < l.length
 ·refine .inr ⟨hlt,Pv (i+1),λσ' H' p'=>⟨l.length-(i+1),by lia,rfl,hlt,p'⟩,λx H' y=>?_⟩
  obtain⟨e,c,hc,e2⟩:=y;subst e e2;exact hs i c σ _ hc p
 ·have e:i=l.length:=by lia
  subst e;exact .inl ⟨ap _,hd σ H p⟩
def AL:List Nat:=(List.range 26).map (97 + ·)
inductive Dt where
 | non | int (i:Int) | str (l:List Nat) | tup (ds:List Dt) | lst (ds:List Dt)
mutual
def toP:Dt->PyData
 | .non=>.none
 | .int i=>.int i
 | .str l=>.str (S l)
 | .tup ds=>.tuple (jM ds)
 | .lst ds=>.list (jM ds)
def jM:List Dt->List PyData
 | []=>[]
 | d::ds=>toP d::jM ds
end
mutual
theorem UG:∀d e:Dt,PyData.eqv (toP d) (toP e)=true↔d=e
 | .non,.non=>by simp[toP,PyData.eqv]
 | .non,.int _=>by simp[toP,PyData.eqv]
 | .non,.str _=>by simp[toP,PyData.eqv]
 | .non,.tup _=>by simp[toP,PyData.eqv]
 | .non,.lst _=>by simp[toP,PyData.eqv]
 | .int _,.non=>by simp[toP,PyData.eqv]
 | .int _,.int _=>by simp[toP,PyData.eqv]
 | .int _,.str _=>by simp[toP,PyData.eqv]
 | .int _,.tup _=>by simp[toP,PyData.eqv]
 | .int _,.lst _=>by simp[toP,PyData.eqv]
 | .str _,.non=>by simp[toP,PyData.eqv]
 | .str _,.int _=>by simp[toP,PyData.eqv]
 | .str a,.str b=>by
  simp only[toP,PyData.eqv,beq_iff_eq,Dt.str.injEq];exact⟨Ni,λz=>by rw[z]⟩
 | .str _,.tup _=>by simp[toP,PyData.eqv]
 | .str _,.lst _=>by simp[toP,PyData.eqv]
 | .tup _,.non=>by simp[toP,PyData.eqv]
 | .tup _,.int _=>by simp[toP,PyData.eqv]
 | .tup _,.str _=>by simp[toP,PyData.eqv]
 | .tup ds,.tup es=>by simp only[toP,PyData.eqv,Dt.tup.injEq];exact Od ds es
 | .tup _,.lst _=>by simp[toP,PyData.eqv]
 | .lst _,.non=>by simp[toP,PyData.eqv]
 | .lst _,.int _=>by simp[toP,PyData.eqv]
 | .lst _,.str _=>by simp[toP,PyData.eqv]
 | .lst _,.tup _=>by simp[toP,PyData.eqv]
 | .lst ds,.lst es=>by simp only[toP,PyData.eqv,Dt.lst.injEq];exact Od ds es
theorem Od:∀ds es:List Dt,PyData.eqvAll (jM ds) (jM es)=true↔ds=es
 | [],[]=>by simp[jM,PyData.eqvAll]
 | [],_::_=>by simp[jM,PyData.eqvAll]
 | _::_,[]=>by simp[jM,PyData.eqvAll]
 | d::ds,e::es=>by
  simp only[jM,PyData.eqvAll,cw,List.cons.injEq];rw[UG d e,Od ds es]
end
open Classical in
theorem Jx (d e:Dt):PyData.eqv (toP d) (toP e)=decide (d=e):=by
 by_cases h:d=e
 ·rw[am h];exact(UG d e).mpr h
 ·rw[al h]
  cases z:PyData.eqv (toP d) (toP e) with
  | false=>rfl
  | true=>exact absurd ((UG d e).mp z) h
mutual
inductive jY (K:W.Frag) (H:Hp):Nat->Dt->V->Prop
 | non {n}:jY K H n .non .non
 | int {n} (i:Int):jY K H n (.int i) (.int i)
 | str {n} (l:List Nat) (h:∀c∈l,c < 128):jY K H n (.str l) (.str (S l))
 | tup {n a ds xs} (h:aP K H a xs) (hs:dW K H n ds xs):jY K H (n+1) (.tup ds) (.ref a)
 | lst {n a ds xs} (h:aW K H a xs) (hs:dW K H n ds xs):jY K H (n+1) (.lst ds) (.ref a)
inductive dW (K:W.Frag) (H:Hp):Nat->List Dt->List V->Prop
 | nil {n}:dW K H n [] []
 | cons {n d ds x xs} (h:jY K H n d x) (hs:dW K H n ds xs):dW K H n (d::ds) (x::xs)
end
theorem adv {l:List Nat}(h:∀c∈l,c < 128):PyData.strOk (S l)=true:=by
 unfold PyData.strOk;show l.toArray.all _=true;rw[Array.all_eq_true_iff_forall_mem];intro x hx;have:=h x (by simpa using hx);exact am (by lia)
mutual
theorem jY.lay {K:W.Frag}{H:Hp}:∀{n:Nat} {d:Dt} {x:V},jY K H n d x->(toP d).canLay0=true/\(toP d).depth<=n
 | _,_,_,.non=>by simp[toP,PyData.canLay0,PyData.depth]
 | _,_,_,.int _=>by simp[toP,PyData.canLay0,PyData.depth]
 | _,_,_,.str l h=>by simp only[toP,PyData.canLay0,PyData.depth];exact⟨adv h,b7 _⟩
 | _,_,_,.tup _ hs=>by
  simp only[toP,PyData.canLay0,PyData.depth];have:=hs.lay;exact⟨this.1,mE this.2⟩
 | _,_,_,.lst _ hs=>by
  simp only[toP,PyData.canLay0,PyData.depth];have:=hs.lay;exact⟨this.1,mE this.2⟩
theorem dW.lay {K:W.Frag}{H:Hp}:∀{n:Nat} {ds:List Dt} {xs:List V},dW K H n ds xs->PyData.canLayAll0 (jM ds)=true/\PyData.depthAll (jM ds)<=n
 | _,_,_,.nil=>by simp[jM,PyData.canLayAll0,PyData.depthAll]
 | _,_,_,.cons h hs=>by
  have a:=h.lay;have b:=hs.lay;simp only[jM,PyData.canLayAll0,PyData.depthAll,cw];exact⟨⟨a.1,b.1⟩,Nat.max_le.mpr ⟨a.2,b.2⟩⟩
end
mutual
theorem jY.same {K:W.Frag}{H H':Hp}(sm:aA H H')(st:∀a xs,aP K H a xs->aP K H' a xs):∀{n:Nat} {d:Dt} {x:V},jY K H n d x->jY K H' n d x
 | _,_,_,.non=>.non
 | _,_,_,.int i=>.int i
 | _,_,_,.str l h=>.str l h
 | _,_,_,.tup h hs=>.tup (st _ _ h) (hs.same sm st)
 | _,_,_,.lst h hs=>.lst (sm.seq h) (hs.same sm st)
theorem dW.same {K:W.Frag}{H H':Hp}(sm:aA H H')(st:∀a xs,aP K H a xs->aP K H' a xs):∀{n:Nat} {ds:List Dt} {xs:List V},dW K H n ds xs->dW K H' n ds xs
 | _,_,_,.nil=>.nil
 | _,_,_,.cons h hs=>.cons (h.same sm st) (hs.same sm st)
end
section
variable {X:Cx}
mutual
theorem jY.reads {ao:AC}{σ:St}{H:Hp}{s:Shared}(I:aL X ao σ H s):∀{n:Nat} {d:Dt} {x:V} {u:Value},jY X.K H n d x->cA x u->∃as,Reads s.heap u (toP d) as
 | _,_,_,u,.non,r=>by cases r;exact⟨[],by rw[toP];exact .none⟩
 | _,_,_,u,.int i,r=>by obtain⟨t,rfl⟩:=r;exact⟨[],by rw[toP];exact .int i t⟩
 | _,_,_,u,.str l h,r=>by obtain⟨t,rfl⟩:=r;exact⟨[],by rw[toP];exact .str _ t⟩
 | _,_,_,u,.tup h hs,r=>by
  cases r;obtain⟨its,rv,pl,_⟩:=I.tuple h;obtain⟨as,ra⟩:=hs.reads I rv;obtain⟨o,ho,hc,n,hd⟩:=pl;exact⟨as,by rw[toP];exact .tuple ho hc hd (by simpa using ra)⟩
 | _,_,_,u,.lst h hs,r=>by
  cases r;obtain⟨its,rv,pl,_⟩:=I.list h;obtain⟨as,ra⟩:=hs.reads I rv;obtain⟨o,ho,hc,n,hd⟩:=pl.isList;exact⟨_::as,by rw[toP];exact .list ho hc hd (by simpa using ra)⟩
theorem dW.reads {ao:AC}{σ:St}{H:Hp}{s:Shared}(I:aL X ao σ H s):∀{n:Nat} {ds:List Dt} {xs:List V} {us:List Value},dW X.K H n ds xs->Vals xs us->∃as,ReadsAll s.heap us (jM ds) as
 | _,_,_,us,.nil,r=>by cases r;exact⟨[],by rw[jM];exact .nil⟩
 | _,_,_,us,.cons h hs,r=>by
  cases r with
  | cons q t=>
   obtain⟨as,a⟩:=h.reads I q;obtain⟨bs,b⟩:=hs.reads I t;exact⟨as++bs,by rw[jM];exact .cons a b⟩
end
theorem jY.shaped {K:W.Frag}{H:Hp}{n:Nat}{d:Dt}{x:V}(h:jY K H n d x)(hn:n<=64):SeqAt.shaped (toP d)=true:=by
 unfold SeqAt.shaped;rw[h.lay.1,am (cq h.lay.2 hn)];rfl
open Classical in
def afJ (K:W.Frag)(neg:Bool):R2:=λx y H Q=>∃n d e,n<=64/\jY K H n d x/\jY K H n e y/\Q (.bl (if neg then !decide (d=e) else decide (d=e))) H
theorem Hy (hu:X.A.units+64 < cLine):fJ X (compareOp .Eq) (afJ X.K false):=by
 intro ao s σ H x y v u Q I rx ry h;obtain⟨n,d,e,hn,hd,he,q⟩:=h;obtain⟨as,ra⟩:=hd.reads I rx;obtain⟨bs,rb⟩:=he.reads I ry;refine SeqAt.compareEq_shaped ra rb (hd.shaped hn) (he.shaped hn) hu ⟨.bl _,H,I,rfl,?_⟩;rw[Jx];exact q
theorem Oe (hu:X.A.units+64 < cLine):fJ X (compareOp .NotEq) (afJ X.K true):=by
 intro ao s σ H x y v u Q I rx ry h;obtain⟨n,d,e,hn,hd,he,q⟩:=h;obtain⟨as,ra⟩:=hd.reads I rx;obtain⟨bs,rb⟩:=he.reads I ry;refine SeqAt.compareNe_shaped ra rb (hd.shaped hn) (he.shaped hn) hu ⟨.bl _,H,I,rfl,?_⟩;rw[Jx];exact q
def afK (K:W.Frag):V->List V->Hp->VK->Prop:=λx vs H Q=>∃p ls,x=.str (S [])/\vs=[.ref p]/\aP K H p (Ts ls)/\ls.flatten.length<=1000/\Q (.str (S ls.flatten)) H
theorem FT:xV X "str.join" (afK X.K):=by
 intro ao s σ H x vs v us Q I rx rv h;obtain⟨p,ls,rfl,rfl,hq,hz,q⟩:=h;obtain⟨t,rfl⟩:=rx;obtain⟨u,rfl,ru⟩:=vals1 rv;cases ru;obtain⟨its,r,pl,_⟩:=I.tuple hq;refine join_tuple pl (ys:=ls.map S) (by simpa using Ea r) ?_ λt' k=>?_
 ·rw[Sg];show _+_*0<=_;lia
 ·exact⟨.str (S ls.flatten),H,I.tok k,⟨t',congrArg (λz=>Value.str z t') (Sd ls)⟩,q⟩
end
theorem uJ {K:W.Frag}{a D:Addr}{xs:List V}{te:TE}{σ:St}{H:Hp}{R:Hp->Prop}(Pv:Nat->List V->Hp->Prop)(h0:Pv 0 [] (upd H D (.lst [])))(hl:∀i ys H,i<=xs.length->Pv i ys H->aP K H a xs)
  (hs:∀i x ys H,xs[i]?=some x->Pv i ys H->te (some x::σ) H λy H3=>H3 D=some (.lst ys)/\ys.length < sizeLine/\dI xs.length i (Pv (i+1) (ys++[y]) (upd H3 D (.lst (ys++[y])))))
  (hd:∀ys H,Pv xs.length ys H->R H) :
  ∃W:Nat->Nat->List V->Hp->Prop,(∃m,W 0 m [] (upd H D (.lst [])))/\
   ∀i m ys H,W i m ys H->((q_ K a).stop i H/\R H)\/((q_ K a).go i H/\∀x H',(q_ K a).oK i H x H'->gC (some x::σ) H' λb H2=>
    if b=true then te (some x::σ) H2 λy H3=>H3 D=some (.lst ys)/\ys.length < sizeLine/\∃m',m' < m/\W (i+1) m' (ys++[y]) (upd H3 D (.lst (ys++[y])))
    else ∃m',m' < m/\W (i+1) m' ys H2):=by
 refine⟨λi m ys H=>m=xs.length-i/\i<=xs.length/\Pv i ys H,⟨xs.length,by simp,b7 _,h0⟩,?_⟩;rintro i m ys H ⟨rfl,hi,p⟩;have q:=hl i ys H hi p;by_cases hlt:i < xs.length
 ·refine .inr ⟨⟨xs,xs[i],q,by simp[hlt]⟩,λx H' y=>?_⟩
  obtain⟨e,y⟩:=y;subst e;exact hs i x ys H' (y xs q) p
 ·have e:i=xs.length:=by lia
  subst e;exact .inl ⟨⟨xs,q,ap _⟩,hd ys H p⟩
section
variable {X:Cx}{x:Str}{pos:Pos}
theorem tG {l:List Nat}(hg:Gl X x)(hm:∃t,X.mg x=some (.str (S l) t))(hd:(x==("__debug__":Str))=false:=by decide):QE X (.Name x pos) (tC (.str (S l))):=
 let ⟨t,e⟩:=hm;gn hg e ⟨t,rfl⟩ hd
theorem UJ {i:Int}(hg:Gl X x)(hm:∃t,X.mg x=some (.int i t))(hd:(x==("__debug__":Str))=false:=by decide):QE X (.Name x pos) (tC (.int i)):=
 let ⟨t,e⟩:=hm;gn hg e ⟨t,rfl⟩ hd
theorem uK {o i:Expr}{to ti:TE}{t:Uh}(ho:QE X o to)(hi:QE X i ti)(hs:aak X t)
  (ha:∀v,assign (.Subscript o i pos) X.env v=(do
   let ov <- holding [v] (eval o X.env)
   let iv <- holding [v,ov] (eval i X.env)
   standAt pos
   holding [v,ov,iv] (setItem ov iv v)
   release [v,ov,iv] []):=by intro _;rfl):QG X (.Subscript o i pos) (ae5 to ti t):=⟨ae6 ho.out hi.out hs ha⟩
end
theorem jC:bootBuiltins "all"=some (.builtin "all"):=by decide +kernel
theorem K4:bootBuiltins "any"=some (.builtin "any"):=by decide +kernel
theorem Og {K:W.Frag}{h:Heap}{mg:Str->Option Value}{x:Str}{l:List Nat}{t:Tok}(X:K.In h)(G:h.Ns mainGlobals mg)(a:W.nsIn K mainGlobals x=some (some (.str (S l) t))):∃t,mg x=some (.str (S l) t):=⟨t,ce X G a⟩
theorem Oh {K:W.Frag}{h:Heap}{mg:Str->Option Value}{x:Str}{i:Int}{t:Tok}(X:K.In h)(G:h.Ns mainGlobals mg)(a:W.nsIn K mainGlobals x=some (some (.int i t))):∃t,mg x=some (.int i t):=⟨t,ce X G a⟩
section
variable {X:Cx}
theorem mW (K:W.Frag)  (h:X.K=K:=by rfl):N6 X (N7 K):=by subst h;exact bh
theorem Oi (K:W.Frag)  (h:X.K=K:=by rfl):gq X (.builtin "isinstance") (acB K):=by subst h;exact jd
theorem aaK (K:W.Frag)  (h:X.K=K:=by rfl):xV X "str.join" (rJoin K):=by subst h;exact xY
theorem Mt (K:W.Frag)  (h:X.K=K:=by rfl):gq X (.type "list") (λxs H Q=>∃p ys,xs=[.ref p]/\(aW K H p ys\/aP K H p ys)/\∀l,H l=none->Q (.ref l) (upd H l (.lst ys))):=by subst h;exact Bh
theorem afL  {o e:Expr}{es:List Expr}{to:TE}{t:TA}{name:Str}{apos cpos:Pos}{T id:String}{r:V->List V->Hp->VK->Prop}(K:W.Frag)(pa:PlainAttrs T)(slot:Slot T name id)(hty:typeOf (.builtin id)=pure (.type "method_descriptor"))(hm:xV X id r)(ho:QE X o to)(ha:QA X (e::es) t)(hbase:attributeBase o name X.env (eval o X.env)=eval o X.env:=by rfl)(hfew:((backTo cpos (starEach (e::es) X.env)).all (λx=>!x.1)&&(backToKw cpos (keywordEach [] X.env)).all (λx=>x.1.isSome)
   && decide ((e::es).length+([]:List Keyword).length+(if ([]:List Keyword).isEmpty then 0 else 1) < 30))=true:=by rfl) (hline:(apos.endLine==cpos.line)=true:=by rfl) (hs:starEach (e::es) X.env=(false,eval e X.env)::starEach es X.env:=by rfl) (hplain:(backTo cpos (starEach es X.env)).any (·.1)=false:=by rfl) (h:X.K=K:=by rfl):QE X (.Call (.Attribute o name apos) (e::es) [] cpos) (tBM K T r to t):=by subst h;exact gw pa slot hty hm ho ha hbase hfew hline hs hplain
end
def fO (l:List Nat):List Nat:=l.takeWhile λc=>c != 46
def dR (l:List Nat):List Nat:=(l.reverse.takeWhile λc=>c != 46).reverse
theorem yQ:∀{l:List Nat} {i:Nat},l[i]?=some 46->(∀k,k < i->l[k]?≠some 46)->fO l=l.take i
 | [],i,h,_=>by simp at h
 | c::l,0,h,_=>by
  have:c=46:=by simpa using h
  subst this;simp[fO]
 | c::l,i+1,h,hk=>by
  have hc:c≠46:=λe=>hk 0 (by lia) (by simp[e]);have ih:=yQ (l:=l) (i:=i) (by simpa using h) (λk hk'=>by have:=hk (k+1) (by lia);simpa using this);unfold fO at ih ⊢;rw[lI (by simpa using hc),ih,List.take_succ_cons]
theorem Bp {l:List Nat}(h:46∉l):fO l=l:=by
 unfold fO
 induction l with
 | nil=>rfl
 | cons c r ih=>
  have hc:c≠46:=λe=>h (by rw[e];exact bq);rw[lI (by simpa using hc),ih λz=>h (a_ _ z)]
theorem Bq {l:List Nat}(h:46∉l):dR l=l:=by
 have:=Bp (l:=l.reverse) (by simpa using h);unfold fO at this;unfold dR;rw[this,List.reverse_reverse]
theorem Oj {l:List Nat}{i:Nat}(h:l[i]?=some 46)(hk:∀k,i < k->l[k]?≠some 46):dR l=l.drop (i+1):=by
 have hi:i < l.length:=(af.mp h).1;have e:fO l.reverse=l.reverse.take (l.length-(i+1)):=by
  refine yQ ?_ λk hk'=>?_
  ·rw[List.getElem?_reverse (by lia),show l.length-1-(l.length-(i+1))=i by lia];exact h
  ·rw[List.getElem?_reverse (by lia)]
   exact hk _ (by lia)
 unfold fO at e;unfold dR;rw[e,List.take_reverse,List.reverse_reverse,show l.length-(l.length-(i+1))=i+1 by lia]
theorem Xw (l:List Nat)(n:Nat):nq l none (some (n:Int))=l.take n:=by
 unfold nq;rw[HT.qm];show (l.drop 0).take (min n l.length-0)=_;rw[iL,Nat.sub_zero];by_cases h:n<=l.length
 ·rw[im h]
 ·rw[mP (by lia),bg (ap _),bg (by lia)]
theorem Ol (l:List Nat)(n:Nat):nq l (some (n:Int)) none=l.drop n:=by
 unfold nq;rw[HT.qm];show (l.drop (min n l.length)).take (l.length-min n l.length)=_;rw[bg (by rw[bt];lia)];by_cases h:n<=l.length
 ·rw[im h]
 ·rw[mP (by lia),ir (ap _),ir (by lia)]
theorem acE (l:List Nat)(i j:Nat):Builtin.Str.strSub (S l) i j=S ((l.take j).drop i):=by
 unfold Builtin.Str.strSub S;congr 1;apply kx.mp;simp[List.drop_take]
section
variable {X:Cx}
theorem Xx (l:List Nat):(Txt.partition (S l) (S [46])).1=S (fO l):=by
 rcases partition_head (S l) (S [46]) with⟨e,h⟩ | ⟨i,e,h,hk⟩
 ·rw[e,Bp λhm=>?_]
  obtain⟨i,hi⟩:=gp.mp hm;exact h i ((gy (S l) 46 i).mpr hi)
 ·rw[e,acE,iL,yQ (l:=l) ((gy (S l) 46 i).mp h) λk hk' z=>hk k hk' ((gy (S l) 46 k).mpr z)]
theorem UL (l:List Nat):(Txt.rpartition (S l) (S [46])).2.2=S (dR l):=by
 unfold Txt.rpartition;rcases StrLaws.last_spec (S l) (S [46]) with⟨e,h⟩ | ⟨i,e,h,hk⟩
 ·rw[e]
  show S l=_;rw[Bq λhm=>?_];obtain⟨i,hi⟩:=gp.mp hm;exact h i ((gy (S l) 46 i).mpr hi)
 ·rw[e]
  show Builtin.Str.strSub (S l) (i+1) l.length=_;rw[acE,bg (ap _),Oj (l:=l) ((gy (S l) 46 i).mp h) λk hk' z=>hk k hk' ((gy (S l) 46 k).mpr z)]
def ahm:V->List V->Hp->VK->Prop:=λx vs H Q=>∃l,x=.str (S l)/\vs=[.str (S [46])]/\l.length<=1000/\∀(p:Addr) (b c:Str),H p=none->Q (.ref p) (upd H p (.tup [.str (S (fO l)),.str b,.str c]))
theorem adw:xV X "str.partition" ahm:=by
 intro ao s σ H x vs v us Q I rx rv h;obtain⟨l,rfl,rfl,hz,q⟩:=h;obtain⟨t,rfl⟩:=rx;obtain⟨u,rfl,ru⟩:=vals1 rv;obtain⟨t2,rfl⟩:=ru;have hsz:(S l).length<=sizeLine:=aT (aG hz);refine call_meets F.slot_str_partition (typeIs_str _ _ _) F.entry_str_partition (F.args_str_partition_2 _ _) (meets_str_partition (S l) (S [46]) t t2 rfl hsz) ?_;have e:=Xx l;have q':=λb c=>q s.heap.objs.size b c (I.hok.fresh (ap _));rw[<- e]at q';unfold Txt.partition at q'
 revert q'
 cases Builtin.Str.occurrences (S l) (S [46]) 0 (S l).length 1 with
 | nil=>
  intro q';refine⟨.ref s.heap.objs.size,_,I.laid (o:=.tup _) (t':=s.toks+1) (λb ob z=>ag _ z) (ap _) ?_,rfl,q' Str.empty Str.empty⟩;exact⟨zsz 3,_,.cons ⟨_,rfl⟩ (.cons ⟨_,rfl⟩ (.cons ⟨_,rfl⟩ .nil)),⟨_,a9 _ rfl,rfl,0,rfl⟩⟩
 | cons i r=>
  intro q';refine⟨.ref s.heap.objs.size,_,I.laid (o:=.tup _) (t':=s.toks+1+1) (λb ob z=>ag _ z) (ap _) ?_,rfl,q' (S [46]) (Builtin.Str.strSub (S l) (i+(S [46]).length) (S l).length)⟩;exact⟨zsz 3,_,.cons ⟨_,rfl⟩ (.cons ⟨_,rfl⟩ (.cons ⟨_,rfl⟩ .nil)),⟨_,a9 _ rfl,rfl,0,rfl⟩⟩
def afM:V->List V->Hp->VK->Prop:=λx vs H Q=>∃l,x=.str (S l)/\vs=[.str (S [46])]/\l.length<=1000/\∀(p:Addr) (a b:Str),H p=none->Q (.ref p) (upd H p (.tup [.str a,.str b,.str (S (dR l))]))
theorem aaL:xV X "str.rpartition" afM:=by
 intro ao s σ H x vs v us Q I rx rv h;obtain⟨l,rfl,rfl,hz,q⟩:=h;obtain⟨t,rfl⟩:=rx;obtain⟨u,rfl,ru⟩:=vals1 rv;obtain⟨t2,rfl⟩:=ru;have hsz:(S l).length<=sizeLine:=aT (aG hz);refine call_meets F.slot_str_rpartition (typeIs_str _ _ _) F.entry_str_rpartition (F.args_str_rpartition_2 _ _) (meets_str_rpartition (S l) (S [46]) t t2 rfl hsz) ?_;have e:=UL l;have q':=λb c=>q s.heap.objs.size b c (I.hok.fresh (ap _));rw[<- e]at q';unfold Txt.rpartition at q'
 revert q'
 cases Builtin.Str.lastOccurrence (S l) (S [46]) 0 (S l).length with
 | none=>
  intro q';refine⟨.ref s.heap.objs.size,_,I.laid (o:=.tup _) (t':=s.toks+1) (λb ob z=>ag _ z) (ap _) ?_,rfl,q' Str.empty Str.empty⟩;exact⟨zsz 3,_,.cons ⟨_,rfl⟩ (.cons ⟨_,rfl⟩ (.cons ⟨_,rfl⟩ .nil)),⟨_,a9 _ rfl,rfl,0,rfl⟩⟩
 | some i=>
  intro q';refine⟨.ref s.heap.objs.size,_,I.laid (o:=.tup _) (t':=s.toks+1+1) (λb ob z=>ag _ z) (ap _) ?_,rfl,q' (Builtin.Str.strSub (S l) 0 i) (S [46])⟩;exact⟨zsz 3,_,.cons ⟨_,rfl⟩ (.cons ⟨_,rfl⟩ (.cons ⟨_,rfl⟩ .nil)),⟨_,a9 _ rfl,rfl,0,rfl⟩⟩
end
noncomputable def dz (X:Cx)(scope:Scope)(cl:List (Str × Addr))(C:Addr)(N:List Str)(s₀:Shared)(H₀:Hp)(fp:List Addr):Cx:=
 { X with N:=N,s₀:=s₀,H₀:=H₀,env:=compEnvC scope cl C X.env,outer:=X.stack,ex:=fp,fn:=λ_=>false,pn:=[],xe:=λ_ _=>False }
structure fD (X:Cx)(scope:Scope)(ns N2:List Str)(f:St->St):Prop where
 kind:scope.kind=.function
 qM:∀y∈scope.names,y.2≠.cell
 names:∀y∈scope.names,y.2=.local->scope.names.lookup y.1=some .local
 free:∀y∈scope.names,y.2=.free->X.env.kindOf y.1=some .cell\/X.env.kindOf y.1=some .free
 aaM:∀σ:St,(f σ).length=σ.length
 aaN:N2.length=X.N.length
 out:∀(σ:St) (i:Nat) (y:Str) (v:V),N2[i]?=some y->(f σ)[i]?=some (some v)->X.N[i]?=some y/\σ[i]?=some (some v)/\scope.names.lookup y≠some .local
def K5 (X:Cx)(tg:Expr)(k:Nat)(TP:V->Hp->(St->Prop)->Prop):Prop:=
 ∀(ao:AC) (s:Shared) (pre rest:St) (H:Hp) (v:V) (u:Value) (Q:St->Prop),pre.length=k->aL X ao (pre++rest) H s->cA v u->TP v H Q->
  wpAny (model X.prog X.w) X.A (assign tg X.env u) (λ_ s'=>∃pre',pre'.length=k/\aL X ao (pre'++rest) H s'/\Q pre') (λ_ _=>False) s
def Hz (f:St->St)(k:Nat)(wi:TI)(TP:V->Hp->(St->Prop)->Prop)(tt:TT)(te:TE):TE:=λσ H Q=>wi σ H λJ H1=>∀D,H1 D=none->∃W:Nat->Nat->List V->Hp->Prop,(∃m,W 0 m [] (upd H1 D (.lst [])))/\
 ∀i m ys H,W i m ys H->(J.stop i H/\Q (.ref D) H)\/(J.go i H/\∀x H',J.oK i H x H'->TP x H' λpre=>tt (pre++f σ) H' λb H2=>
  if b=true then te (pre++f σ) H2 λy H3=>H3 D=some (.lst ys)/\ys.length < sizeLine/\∃m',m' < m/\W (i+1) m' (ys++[y]) (upd H3 D (.lst (ys++[y])))
  else ∃m',m' < m/\W (i+1) m' ys H2)
theorem aaO {X:Cx}{elt iter tg:Expr}{ns N2:List Str}{f:St->St}{TP:V->Hp->(St->Prop)->Prop}{ifs:List Expr}{scope:Scope}{pos:Pos}{wi:TI}{tt:TT}{te:TE}(hc:X.calm=true)(ok:fD X scope ns N2 f)(hi:PI X tg iter wi)
  (hg:∀cl C s₀ H₀ fp,K5 (dz X scope cl C (ns++N2) s₀ H₀ fp) tg ns.length TP)
  (ht:∀cl C s₀ H₀ fp,R9 (dz X scope cl C (ns++N2) s₀ H₀ fp) ifs tt) (he:∀cl C s₀ H₀ fp,PE (dz X scope cl C (ns++N2) s₀ H₀ fp) elt te)
  (hs:∀x,foldedSetIterable iter X.env x=pure x:=by intro _;rfl):PE X (.ListComp elt [⟨tg,iter,ifs,0⟩] scope pos) (Hz f ns.length wi TP tt te):=by
 intro ao s σ H Q I h;obtain⟨cl,hcl,hsub,_,hall⟩:=pq (env:=X.env) scope.names (λy hy e=>I.ok.has y.1 (ok.free y hy e)) [] (λ_ _ z=>by simp at z);have hclos:closureFor scope X.env=pure cl:=by
  unfold closureFor;simp only[bind_pure];exact hcl
 rw[eval_ListComp];refine jp (use:=none) (E:=X.xe) (cl:=cl) rfl hs hclos ok.kind ok.names (bR (hi ao s σ H _ I h) λv s1 h1=>bR h1 λitv s2 h2=>?_);obtain⟨it,fp,tn,J,H2,e,I2,T,st2,f2,R⟩:=h2;subst e;obtain⟨W,⟨m0,w0⟩,turn⟩:=R s2.heap.objs.size I2.fresh;refine f8 (kP ok.qM (by intro y hy;simp at hy) (λh₁ hns₁ hsb₁=>?_) ok.kind);dsimp only at hns₁ hsb₁ ⊢;have I3:aL X ao σ (upd H2 s2.heap.objs.size (.lst [])) { s2 with heap:=s2.heap.push { cls:=.type "list",data:=.seq ([]:List Value).toArray } }:=I2.Uu (t':=s2.toks) (ys:=[]) (its:=[]) .nil (b7 _);generalize Xg:upd H2 s2.heap.objs.size (HO.lst [])=H3 at *
 generalize hs3:s2.heap.push { cls:=.type "list",data:=.seq ([]:List Value).toArray }=hp3 at *
 generalize hD:s2.heap.objs.size=D at *
 generalize hC:hp3.objs.size=C at *
 have hDC:D < C:=by rw[<- hC,<- hs3,dr,hD];exact gc _
 have old:∀b o,hp3.get? b=some o->h₁.get? b=some o:=λb o e=>(hsb₁.2 b (by rw[<- hC];exact ba (ax e))).trans (ag _ e);have KN:∀b∈fp,b < C:=λb hb=>by
  obtain⟨o,e,_⟩:=T.obj _ _ st2 b hb;rw[<- hC,<- hs3,dr];exact fg (ax e)
 have f3:∀b∈fp,ou X ao H3 b:=λb hb=>by
  obtain⟨o,e,_⟩:=T.obj _ _ st2 b hb;refine⟨?_,(f2 b hb).2⟩;rw[<- Xg,aM (by rw[<- hD];exact ba (ax e))];exact(f2 b hb).1
 have Bk:∀b∈fp,b∉frs X.stack:=λb hb z=>by
  obtain⟨_,g1,g2,_⟩:=f3 b hb;rcases bo.mp (I3.xR b z) with q | q
  ·exact g1 q
  ·exact g2 q
 have Xh:(dz X scope cl C (ns++N2) { s2 with heap:=hp3 } H3 fp).Ok:=by
  refine⟨I.ok.mod,?_,I.ok.glob,I.ok.blt,e8 hC,?_,?_,?_,I.ok.hd,I.ok.frames,.inl rfl,?_,?_,?_,?_,?_,?_,?_⟩
  ·exact ok.kind
  ·exact λa b c h1 h2=>I.ok.inj a b c (hsub a c h1) (hsub b c h2)
  ·intro a ha
   refine hall a ?_;rcases ha with z | z
   ·rcases cL (env:=X.env) z with q | ⟨_,q⟩
    ·exact absurd rfl (ok.qM _ (cR q))
    ·exact cR q
   ·rcases cL (env:=X.env) z with q | ⟨q,_⟩
    ·exact cR q
    ·cases q
  ·intro a c hf;cases hf
  ·intro b hb
   refine⟨ba (KN b hb),λa c h1=>(f3 b hb).2.2.2.2.1 a c (hsub a c h1)⟩
  ·exact I3.bs
  ·exact cq I.ok.sE I3.sz
  ·intro b o e hb
   rcases(f3 b hb).2.2.2.1 with z | z
   ·exact I.ok.wO b o e z
   ·exact absurd (b9 (ax e) (cq I.ok.sE z)) (dP _)
  ·exact Bk
  ·exact I3.stack
  ·exact I3.qg
 have Y0:aL (dz X scope cl C (ns++N2) { s2 with heap:=hp3 } H3 fp) [] (List.replicate ns.length none++f σ) H3 { s2 with heap:=h₁,toks:=s2.toks+([]:List (Str × Value)).length }:=by
  refine⟨Xh,rfl,I3.bare,Un.kept old,⟨_,hns₁,?_⟩,?_,?_,?_,λp hp=>by simp[dz]at hp,I3.hok.kept old,?_⟩
  ·intro i y v e1 e2 e3
   by_cases bA:i < ns.length
   ·rw[c8 (by rw[ck];exact bA),ka,if_pos bA]at e2
    simp at e2
   ·obtain⟨i,rfl⟩:∃k,i=ns.length+k:=⟨i-ns.length,by lia⟩
    have Xy:(ns++N2)[ns.length+i]?=some y:=e1;rw[cz (by lia),ia]at Xy;rw[cz (by rw[ck];lia),ck,ia]at e2;obtain⟨e1',e2',hout⟩:=ok.out σ i y v Xy e2;have hfree:(y,NameKind.free)∈scope.names:=by
     have key:∀k,(relabel scope X.env).names.lookup y=some k->k≠.local->k=.cell\/k=.free->(y,NameKind.free)∈scope.names:=λk q n hk=>by
      rcases cL (env:=X.env) q with z | ⟨_,z⟩
      ·rcases hk with rfl | rfl
       ·exact absurd rfl (ok.qM _ (cR z))
       ·exact cR z
      ·exact cR z
     rcases e3 with z | z | z
     ·rcases cL (env:=X.env) z with q | ⟨q,_⟩
      ·exact absurd q hout
      ·cases q
     ·exact key _ z (by decide) (.inl rfl)
     ·exact key _ z (by decide) (.inr rfl)
    have hk:=ok.free _ hfree rfl;obtain⟨m,hn,hl⟩:=I3.loc;obtain⟨u,r,q⟩:=hl i y v e1' e2' (by rcases hk with z | z;exact .inr (.inl z);exact .inr (.inr z));refine⟨u,r,.inr ⟨?_,?_⟩⟩
    ·rcases e3 with z | z | z
     ·rcases cL (env:=X.env) z with q | ⟨q,_⟩
      ·exact absurd q hout
      ·cases q
     ·exact .inl z
     ·exact .inr z
    ·rcases q with⟨z,_⟩ | ⟨_,c,hc',hcell⟩
     ·rcases hk with q | q <;> (rw[z]at q;cases q)
     ·obtain⟨c',hc2⟩:=hall y hfree
      have:c'=c:=by have:=hsub y c' hc2;rw[hc']at this;exact(aw this).symm
      subst this;obtain⟨o,ho,hd⟩:=hcell;exact⟨c',hc2,o,old _ _ ho,hd⟩
  ·intro a c h1
   obtain⟨v,o,ho,hd⟩:=I3.cell a c (hsub a c h1);exact⟨v,o,old _ _ ho,hd⟩
  ·show H3 C=none
   exact I3.hok.fresh (e8 hC)
  ·exact λa c h1=>I3.ju a c (hsub a c h1)
  ·show (List.replicate ns.length none++f σ).length=(ns++N2).length
   rw[bc,bc,ck,ok.aaM,I.len,ok.aaN]
 have back:∀(s':Shared) (v:St) (H':Hp) (h':Heap),aL (dz X scope cl C (ns++N2) { s2 with heap:=hp3 } H3 fp) [] v H' s'->Heap.SameBut C s'.heap h'->(∀b∈fp,H' b=none)->aL X ao σ H' { s' with heap:=h' }:=by
  intro s' v H' h' I' sb fr;have sI:∀b o,hp3.get? b=some o->b≠C:=λb o e=>by rw[<- hC];exact ba (ax e)
  have U:Un (frs X.stack) fp H3 H' hp3 s'.heap:=I'.base;refine I3.call' (ch:=fp) (H':=H') (s':={ s' with heap:=h' }) I'.os ⟨λb o e n h1 h2=>(sb.2 b (sI b o e)).trans (U.keep b o e n h1 h2),λb o e n h1 h2=>?_,U.free,λb o e h2=>?_,U.tups,U.lG,U.lV⟩ (λb ob e=>?_) I'.bare λb hb=>?_
  ·obtain⟨sl,q⟩:=U.slot b o e n h1 h2
   exact⟨sl,(sb.2 b (sI b o e)).trans q⟩
  ·obtain⟨o',q⟩:=U.there b o e h2
   exact⟨o',(sb.2 b (sI b o e)).trans q⟩
  ·have fC:H' C=none:=I'.free
   refine(I'.hok b ob e).stay (λc w' hc q=>(sb.2 c ?_).trans q) (λ_ q=>q) λ_ _ q=>q;rintro rfl;rcases hc with rfl | hc
   ·rw[fC]at e;cases e
   ·rw[fC]at hc;cases hc
  ·obtain⟨_,g1,_,g3,g4,g5⟩:=f3 b hb
   exact⟨g3,g1,g4,g5⟩
 have stat:∀{H':Hp},(∀b∈fp,H' b=none)->∀b∈fp,ou (dz X scope cl C (ns++N2) { s2 with heap:=hp3 } H3 fp) [] H' b:=λhn b hb=>
  ⟨hn b hb,ba (KN b hb),Bk b hb,.inl hb,λa c h1=>(f3 b hb).2.2.2.2.1 a c (hsub a c h1),λp hp=>by simp[dz]at hp⟩
 have st₁:tn 0 h₁:=T.keep _ _ _ st2 λb _ o e=>old b o (by rw[<- hs3];exact ag _ e);have loop:codeAny (model X.prog X.w) X.A (.compLoop (.ListComp elt [⟨tg,iter,ifs,0⟩] scope pos) 0 (.ref it) (.ref D) (compEnvC scope cl C X.env)) (compPost (model X.prog X.w) X.A X.xe none (EP X ao σ Q) (.ref D) C)
   { s2 with heap:=h₁,toks:=s2.toks+([]:List (Str × Value)).length }:=by
  refine yN (λn s'=>∃i v ys H',v.length=ns.length/\aL (dz X scope cl C (ns++N2) { s2 with heap:=hp3 } H3 fp) [] (v++f σ) H' s'/\tn i s'.heap/\(∀b∈fp,H' b=none)/\W i n ys H') ?_ m0 ⟨0,List.replicate ns.length none,[],H3,ck,Y0,st₁,λb hb=>(f3 b hb).1,w0⟩;rintro n s4 ⟨i,v,ys,H4,hv4,I4,KQ,Bl,w4⟩;rcases turn i n ys H4 w4 with⟨stop,qn⟩ | ⟨go,step⟩
  ·refine bR (T.done (dz X scope cl C (ns++N2) { s2 with heap:=hp3 } H3 fp) rfl rfl rfl hc i [] s4 (v++f σ) H4 _ I4 (stat Bl) KQ stop) λr s5 ⟨hr,I5⟩=>?_
   subst hr;obtain⟨m,hn,_⟩:=id I5.loc;exact⟨m,hn,λh' sb=>⟨.ref D,H4,back s5 (v++f σ) H4 h' I5 sb Bl,rfl,qn⟩⟩
  ·refine bR (T.item (dz X scope cl C (ns++N2) { s2 with heap:=hp3 } H3 fp) rfl rfl rfl hc i [] s4 (v++f σ) H4 _ I4 (stat Bl) KQ go) λr s5 zz=>?_;obtain⟨u,hr,h5⟩:=zz
   subst hr;refine bR h5 λ_ s6 zz=>?_;obtain⟨y,H6,I6,r6,y6,Bm,Xi⟩:=zz;have Xj:=I6.pinned (stat Xi) (T.obj _ _ Bm);refine bR (hg cl C { s2 with heap:=hp3 } H3 fp _ s6 v (f σ) H6 y u _ hv4 Xj r6 (step y H6 y6)) λ_ s7 zz=>?_;obtain⟨pre,hpre,Xk,q7⟩:=zz;refine bR (ht cl C { s2 with heap:=hp3 } H3 fp _ s7 _ H6 _ Xk q7) λb s8 zz=>?_;obtain⟨H8,I8,q8⟩:=zz;have rB:∀{σ':St} {H':Hp} {s':Shared},aL (dz X scope cl C (ns++N2) { s2 with heap:=hp3 } H3 fp) ([]++ux fp s6.heap) σ' H' s'->tn (i+1) s'.heap/\∀b∈fp,H' b=none:=λ{σ' H' s'} I9=>by
    refine⟨T.keep _ _ _ Bm λb hb o e=>(I9.pin (b,o) (b6 _ (b6 _ (jA hb e)))).1,λb hb=>?_⟩;obtain⟨o,e,d⟩:=T.obj _ _ Bm b hb;exact(I9.pin (b,o) (b6 _ (b6 _ (jA hb e)))).2.1
   cases b with
   | false=>
    obtain⟨m',hm,w'⟩:=q8;obtain⟨k1,k2⟩:=rB I8;exact⟨m',hm,i+1,pre,ys,H8,hpre,I8.j_,k1,k2,w'⟩
   | true=>
    have Xl:te (pre++f σ) H8 _:=q8;show wpAny _ _ (eval elt _) _ _ _;refine bR (he cl C { s2 with heap:=hp3 } H3 fp _ s8 _ H8 _ I8 Xl) λz s9 zz=>?_;obtain⟨zv,H9,I9,r9,Xm,Xn,m',hm,w'⟩:=zz;refine bR (gP (X:=dz X scope cl C (ns++N2) { s2 with heap:=hp3 } H3 fp) _ s9 _ H9 (.ref D) [zv] (.ref D) [z] (λ_ H'=>H'=upd H9 D (.lst (ys++[zv]))) I9 rfl (.cons r9 .nil) ⟨D,ys,zv,rfl,rfl,Xm,Xn,rfl⟩) λ_ s10 zz=>?_;obtain⟨_,H10,KR,_,e10⟩:=zz;subst e10;obtain⟨k1,k2⟩:=rB KR;exact⟨m',hm,i+1,pre,ys++[zv],_,hpre,KR.j_,k1,k2,w'⟩
 exact km loop (T.self X.A 0 _ _ _ st₁ loop)
noncomputable def eG (ks:List Nat):Nat->St->St
 | _,[]=>[]
 | i,v::r=>(if ks.contains i=true then none else v)::eG ks (i+1) r
theorem K6 (ks:List Nat):∀(i:Nat) (σ:St),(eG ks i σ).length=σ.length
 | _,[]=>rfl
 | i,_::r=>by rw[eG,dv,dv,K6 ks (i+1) r]
theorem K7 (ks:List Nat):∀(i:Nat) (σ:St) (j:Nat) (v:V),(eG ks i σ)[j]?=some (some v)->ks.contains (i+j)=false/\σ[j]?=some (some v)
 | _,[],j,v,h=>by simp[eG]at h
 | i,x::r,0,v,h=>by
  rw[eG]at h;cases e:ks.contains i with
  | true=>rw[e]at h;simp at h
  | false=>rw[e]at h;exact⟨by first | rfl | exact e,by simpa using h⟩
 | i,x::r,j+1,v,h=>by
  rw[eG,List.getElem?_cons_succ]at h;obtain⟨a,b⟩:=K7 ks (i+1) r j v h;exact⟨by rw[show i+(j+1)=i+1+j by lia];exact a,by rw[List.getElem?_cons_succ];exact b⟩
noncomputable def afN (sc:Scope)(N:List Str)(scope:Scope)(N2:List Str)(ks:List Nat):Bool:=
 scope.kind == .function&&scope.names.all (λy=>y.2 != .cell)&&scope.names.all (λy=>y.2 != .local||scope.names.lookup y.1==some .local) &&
 scope.names.all (λy=>y.2 != .free||sc.names.lookup y.1==some .cell||sc.names.lookup y.1==some .free)&&N2.length==N.length &&
 (List.range N.length).all (λi=>ks.contains i||(N2[i]? == N[i]? && (N[i]?.map λy=>scope.names.lookup y != some .local)==some true))
theorem fD.of {X:Cx}{scope:Scope}{ns:List Str}(N2:List Str)(ks:List Nat)(h:afN X.env.scope X.N scope N2 ks=true):fD X scope ns N2 (eG ks 0):=by
 unfold afN at h;simp only[cw,cy,nl,bne_iff_ne,beq_iff_eq,ne_eq]at h;obtain⟨⟨⟨⟨⟨h1,h2⟩,h3⟩,h5⟩,h6⟩,h7⟩:=h;refine⟨h1,λy hy=>h2 y hy,λy hy e=>(h3 y hy).resolve_left λz=>z e,λy hy e=>?_,K6 ks 0,h6,λσ i y v e1 e2=>?_⟩
 ·rcases h5 y hy with(z | z) | z
  ·exact absurd e z
  ·exact .inl z
  ·exact .inr z
 ·obtain⟨a,b⟩:=K7 ks 0 σ i v e2
  rw[Nat.zero_add]at a;have hi:i < X.N.length:=by rw[<- h6];exact(af.mp e1).1
  rcases h7 i (eK.mpr hi) with z | ⟨z1,z2⟩
  ·rw[a]at z;cases z
  ·rw[<- z1,e1]at z2
   rw[z1]at e1;exact⟨e1,b,by simpa using z2⟩
theorem oO {X:Cx}{scope:Scope}{cl:List (Str × Addr)}{C:Addr}{N:List Str}{s₀:Shared}{H₀:Hp}{fp:List Addr}{x:Str}{pos:Pos}(hN:N.Nodup)(h0:N[0]?=some x)(hx:scope.names.lookup x=some .local) :
  K5 (dz X scope cl C N s₀ H₀ fp) (.Name x pos) 1 (λv _ Q=>Q [some v]):=by
 intro ao s pre rest H v u Q hp I r q;obtain⟨p0,rfl⟩:=List.length_eq_one_iff.mp hp;refine bR (jU (X:=dz X scope cl C N s₀ H₀ fp) (i:=0) hN h0 (.inl (lookup_relabel_local hx)) (.inr (lookup_relabel_local hx)) ao s _ H v u (λσ' H'=>H'=H/\σ'=some v::rest) I r ⟨rfl,rfl⟩) λ_ s' zz=>?_;obtain⟨σ',H',I',e1,e2⟩:=zz;subst e1 e2;exact⟨[some v],rfl,I',q⟩
theorem uh {X:Cx}{scope:Scope}{cl:List (Str × Addr)}{C:Addr}{N:List Str}{s₀:Shared}{H₀:Hp}{fp:List Addr}{x y:Str}{px py pos:Pos}{k:Nat}(K:W.Frag)(hc:X.calm=true)(hN:N.Nodup)(h0:N[0]?=some x)(h1:N[1]?=some y)(hx:scope.names.lookup x=some .local)(hy:scope.names.lookup y=some .local)(hK:X.K=K:=by rfl) :
  K5 (dz X scope cl C N s₀ H₀ fp) (.Tuple [.Name x px,.Name y py] k pos) 2 (λv H Q=>∃a p q,v=.ref a/\aP K H a [p,q]/\Q [some p,some q]):=by
 subst hK;intro ao s pre rest H v u Q hp I r q;obtain⟨a,p,q',rfl,hq,q⟩:=q;obtain⟨p0,p1,rfl⟩:∃p0 p1,pre=[p0,p1]:=by
  match pre,hp with
  | [p0,p1],_=>exact⟨p0,p1,rfl⟩
 have P:PG (dz X scope cl C N s₀ H₀ fp) (.Tuple [.Name x px,.Name y py] k pos) (NK X.K 2 (o8 (jz 0) (o8 (jz 1) Nz))):=Hi (X:=dz X scope cl C N s₀ H₀ fp) hc (jK (jU (i:=0) hN h0 (.inl (lookup_relabel_local hx)) (.inr (lookup_relabel_local hx))) (jK (jU (i:=1) hN h1 (.inl (lookup_relabel_local hy)) (.inr (lookup_relabel_local hy))) DY));refine bR (P ao s _ H (.ref a) u (λσ' H'=>H'=H/\σ'=some p::some q'::rest) I r
  ⟨a,[p,q'],rfl,hq,rfl,p,[q'],rfl,q',[],rfl,rfl,rfl,rfl⟩) λ_ s' ⟨σ',H',I',e1,e2⟩=>?_
 subst e1 e2;exact⟨[some p,some q'],rfl,I',q⟩
theorem oR {X:Cx}{scope:Scope}{cl:List (Str × Addr)}{C:Addr}{N:List Str}{s₀:Shared}{H₀:Hp}{fp:List Addr}{x y z:Str}{px py pz pos:Pos}{k:Nat}(K:W.Frag)(hc:X.calm=true)(hN:N.Nodup)(h0:N[0]?=some x)(h1:N[1]?=some y)(h2:N[2]?=some z)(hx:scope.names.lookup x=some .local)(hy:scope.names.lookup y=some .local)(hz:scope.names.lookup z=some .local)(hK:X.K=K:=by rfl) :
  K5 (dz X scope cl C N s₀ H₀ fp) (.Tuple [.Name x px,.Name y py,.Name z pz] k pos) 3 (λv H Q=>∃a p q r,v=.ref a/\aP K H a [p,q,r]/\Q [some p,some q,some r]):=by
 subst hK;intro ao s pre rest H v u Q hp I r q;obtain⟨a,p,q',r',rfl,hq,q⟩:=q;obtain⟨p0,p1,p2,rfl⟩:∃p0 p1 p2,pre=[p0,p1,p2]:=by
  match pre,hp with
  | [p0,p1,p2],_=>exact⟨p0,p1,p2,rfl⟩
 have P:PG (dz X scope cl C N s₀ H₀ fp) (.Tuple [.Name x px,.Name y py,.Name z pz] k pos) (NK X.K 3 (o8 (jz 0) (o8 (jz 1) (o8 (jz 2) Nz)))):=Hi (X:=dz X scope cl C N s₀ H₀ fp) hc (jK (jU (i:=0) hN h0 (.inl (lookup_relabel_local hx)) (.inr (lookup_relabel_local hx))) (jK (jU (i:=1) hN h1 (.inl (lookup_relabel_local hy)) (.inr (lookup_relabel_local hy))) (jK (jU (i:=2) hN h2 (.inl (lookup_relabel_local hz)) (.inr (lookup_relabel_local hz))) DY)));refine bR (P ao s _ H (.ref a) u (λσ' H'=>H'=H/\σ'=some p::some q'::some r'::rest) I r
  ⟨a,[p,q',r'],rfl,hq,rfl,p,[q',r'],rfl,q',[r'],rfl,r',[],rfl,rfl,rfl,rfl⟩) λ_ s' ⟨σ',H',I',e1,e2⟩=>?_
 subst e1 e2;exact⟨[some p,some q',some r'],rfl,I',q⟩
theorem fL {X:Cx}{elt iter tg:Expr}{ns N2:List Str}{f:St->St}{TP:V->Hp->(St->Prop)->Prop}{ifs:List Expr}{scope:Scope}{pos:Pos}{wi:TI}{tt:TT}{te:TE}(hc:X.calm=true)(ok:fD X scope ns N2 f)(hi:QI X tg iter wi)
  (hg:∀cl C s₀ H₀ fp,K5 (dz X scope cl C (ns++N2) s₀ H₀ fp) tg ns.length TP)
  (ht:∀cl C s₀ H₀ fp,Xr (dz X scope cl C (ns++N2) s₀ H₀ fp) ifs tt) (he:∀cl C s₀ H₀ fp,QE (dz X scope cl C (ns++N2) s₀ H₀ fp) elt te)
  (hs:∀x,foldedSetIterable iter X.env x=pure x:=by intro _;rfl):QE X (.ListComp elt [⟨tg,iter,ifs,0⟩] scope pos) (Hz f ns.length wi TP tt te):=
 ⟨aaO hc ok hi.out hg (λcl C s₀ H₀ fp=>(ht cl C s₀ H₀ fp).out) (λcl C s₀ H₀ fp=>(he cl C s₀ H₀ fp).out) hs⟩
def nW (n i:Nat)(D:Addr)(TP:V->Hp->(St->Prop)->Prop)(f:St->St)(σ:St)(tt:TT)(te:TE)(x:V)(H:Hp)(ys:List V)(P:List V->Hp->Prop):Prop:=
 TP x H λpre=>tt (pre++f σ) H λb H2=>if b=true then te (pre++f σ) H2 λy H3=>H3 D=some (.lst ys)/\ys.length < sizeLine/\dI n i (P (ys++[y]) (upd H3 D (.lst (ys++[y])))) else dI n i (P ys H2)
theorem wV {K:W.Frag}{a:Addr}{xs:List V}{D:Addr}{f:St->St}{tt:TT}{te:TE}{σ:St}{H:Hp}{R:Hp->Prop}(Pv:Nat->List V->Hp->Prop)(h0:Pv 0 [] (upd H D (.lst [])))(hl:∀i ys H,i<=xs.length->Pv i ys H->aW K H a xs)
  (hs:∀i x ys H,xs[i]?=some x->Pv i ys H->nW xs.length i D (λv _ Q=>Q [some v]) f σ tt te x H ys (Pv (i+1)))
  (hd:∀ys H,Pv xs.length ys H->R H) :
  ∃W:Nat->Nat->List V->Hp->Prop,(∃m,W 0 m [] (upd H D (.lst [])))/\
   ∀i m ys H,W i m ys H->((vB K a).stop i H/\R H)\/((vB K a).go i H/\∀x H',(vB K a).oK i H x H'->tt ([some x]++f σ) H' λb H2=>
    if b=true then te ([some x]++f σ) H2 λy H3=>H3 D=some (.lst ys)/\ys.length < sizeLine/\∃m',m' < m/\W (i+1) m' (ys++[y]) (upd H3 D (.lst (ys++[y])))
    else ∃m',m' < m/\W (i+1) m' ys H2):=by
 refine⟨λi m ys H=>m=xs.length-i/\i<=xs.length/\Pv i ys H,⟨xs.length,by simp,b7 _,h0⟩,?_⟩;rintro i m ys H ⟨rfl,hi,p⟩;have q:=hl i ys H hi p;by_cases hlt:i < xs.length
 ·refine .inr ⟨⟨xs,xs[i],q,by simp[hlt]⟩,λx H' y=>?_⟩
  obtain⟨e,y⟩:=y;subst e;exact hs i x ys H' (y xs q) p
 ·have e:i=xs.length:=by lia
  subst e;exact .inl ⟨⟨xs,q,ap _⟩,hd ys H p⟩
theorem tH {K:W.Frag}{a:Addr}{xs:List V}{D:Addr}{f:St->St}{tt:TT}{te:TE}{σ:St}{H:Hp}{R:Hp->Prop}(Pv:Nat->List V->Hp->Prop)(h0:Pv 0 [] (upd H D (.lst [])))(hl:∀i ys H,i<=xs.length->Pv i ys H->aP K H a xs)
  (hs:∀i x ys H,xs[i]?=some x->Pv i ys H->nW xs.length i D (λv _ Q=>Q [some v]) f σ tt te x H ys (Pv (i+1)))
  (hd:∀ys H,Pv xs.length ys H->R H) :
  ∃W:Nat->Nat->List V->Hp->Prop,(∃m,W 0 m [] (upd H D (.lst [])))/\
   ∀i m ys H,W i m ys H->((q_ K a).stop i H/\R H)\/((q_ K a).go i H/\∀x H',(q_ K a).oK i H x H'->tt ([some x]++f σ) H' λb H2=>
    if b=true then te ([some x]++f σ) H2 λy H3=>H3 D=some (.lst ys)/\ys.length < sizeLine/\∃m',m' < m/\W (i+1) m' (ys++[y]) (upd H3 D (.lst (ys++[y])))
    else ∃m',m' < m/\W (i+1) m' ys H2):=by
 refine⟨λi m ys H=>m=xs.length-i/\i<=xs.length/\Pv i ys H,⟨xs.length,by simp,b7 _,h0⟩,?_⟩;rintro i m ys H ⟨rfl,hi,p⟩;have q:=hl i ys H hi p;by_cases hlt:i < xs.length
 ·refine .inr ⟨⟨xs,xs[i],q,by simp[hlt]⟩,λx H' y=>?_⟩
  obtain⟨e,y⟩:=y;subst e;exact hs i x ys H' (y xs q) p
 ·have e:i=xs.length:=by lia
  subst e;exact .inl ⟨⟨xs,q,ap _⟩,hd ys H p⟩
theorem UW {l:List Nat}{D:Addr}{f:St->St}{tt:TT}{te:TE}{σ:St}{H:Hp}{R:Hp->Prop}(Pv:Nat->List V->Hp->Prop)(h0:Pv 0 [] (upd H D (.lst [])))(hs:∀i c ys H,l[i]?=some c->Pv i ys H->nW l.length i D (λv _ Q=>Q [some v]) f σ tt te (.str (S [c])) H ys (Pv (i+1)))
  (hd:∀ys H,Pv l.length ys H->R H) :
  ∃W:Nat->Nat->List V->Hp->Prop,(∃m,W 0 m [] (upd H D (.lst [])))/\
   ∀i m ys H,W i m ys H->((Its l).stop i H/\R H)\/((Its l).go i H/\∀x H',(Its l).oK i H x H'->tt ([some x]++f σ) H' λb H2=>
    if b=true then te ([some x]++f σ) H2 λy H3=>H3 D=some (.lst ys)/\ys.length < sizeLine/\∃m',m' < m/\W (i+1) m' (ys++[y]) (upd H3 D (.lst (ys++[y])))
    else ∃m',m' < m/\W (i+1) m' ys H2):=by
 refine⟨λi m ys H=>m=l.length-i/\i<=l.length/\Pv i ys H,⟨l.length,by simp,b7 _,h0⟩,?_⟩;rintro i m ys H ⟨rfl,hi,p⟩;by_cases hlt:i < l.length
 ·refine .inr ⟨hlt,λx H' y=>?_⟩
  obtain⟨e,c,hc,e2⟩:=y;subst e e2;exact hs i c ys H' hc p
 ·have e:i=l.length:=by lia
  subst e;exact .inl ⟨ap _,hd ys H p⟩
theorem nQ {K:W.Frag}{a:Addr}{xs:List V}{D:Addr}{f:St->St}{KT:W.Frag}{tt:TT}{te:TE}{σ:St}{H:Hp}{R:Hp->Prop}(Pv:Nat->List V->Hp->Prop)(h0:Pv 0 [] (upd H D (.lst [])))(hl:∀i ys H,i<=xs.length->Pv i ys H->aW K H a xs)
  (hs:∀i x ys H,xs[i]?=some x->Pv i ys H->nW xs.length i D (λv H Q=>∃a p q,v=.ref a/\aP KT H a [p,q]/\Q [some p,some q]) f σ tt te x H ys (Pv (i+1)))
  (hd:∀ys H,Pv xs.length ys H->R H) :
  ∃W:Nat->Nat->List V->Hp->Prop,(∃m,W 0 m [] (upd H D (.lst [])))/\
   ∀i m ys H,W i m ys H->((vB K a).stop i H/\R H)\/((vB K a).go i H/\∀x H',(vB K a).oK i H x H'->∃a p q,x=.ref a/\aP KT H' a [p,q]/\(tt ([some p,some q]++f σ) H' λb H2=>
    if b=true then te ([some p,some q]++f σ) H2 λy H3=>H3 D=some (.lst ys)/\ys.length < sizeLine/\∃m',m' < m/\W (i+1) m' (ys++[y]) (upd H3 D (.lst (ys++[y])))
    else ∃m',m' < m/\W (i+1) m' ys H2)):=by
 refine⟨λi m ys H=>m=xs.length-i/\i<=xs.length/\Pv i ys H,⟨xs.length,by simp,b7 _,h0⟩,?_⟩;rintro i m ys H ⟨rfl,hi,p⟩;have q:=hl i ys H hi p;by_cases hlt:i < xs.length
 ·refine .inr ⟨⟨xs,xs[i],q,by simp[hlt]⟩,λx H' y=>?_⟩
  obtain⟨e,y⟩:=y;subst e;exact hs i x ys H' (y xs q) p
 ·have e:i=xs.length:=by lia
  subst e;exact .inl ⟨⟨xs,q,ap _⟩,hd ys H p⟩
theorem jD {K:W.Frag}{a:Addr}{xs:List V}{D:Addr}{f:St->St}{KT:W.Frag}{tt:TT}{te:TE}{σ:St}{H:Hp}{R:Hp->Prop}(Pv:Nat->List V->Hp->Prop)(h0:Pv 0 [] (upd H D (.lst [])))(hl:∀i ys H,i<=xs.length->Pv i ys H->aP K H a xs)
  (hs:∀i x ys H,xs[i]?=some x->Pv i ys H->nW xs.length i D (λv H Q=>∃a p q r,v=.ref a/\aP KT H a [p,q,r]/\Q [some p,some q,some r]) f σ tt te x H ys (Pv (i+1)))
  (hd:∀ys H,Pv xs.length ys H->R H) :
  ∃W:Nat->Nat->List V->Hp->Prop,(∃m,W 0 m [] (upd H D (.lst [])))/\
   ∀i m ys H,W i m ys H->((q_ K a).stop i H/\R H)\/((q_ K a).go i H/\∀x H',(q_ K a).oK i H x H'->∃a p q r,x=.ref a/\aP KT H' a [p,q,r]/\(tt ([some p,some q,some r]++f σ) H' λb H2=>
    if b=true then te ([some p,some q,some r]++f σ) H2 λy H3=>H3 D=some (.lst ys)/\ys.length < sizeLine/\∃m',m' < m/\W (i+1) m' (ys++[y]) (upd H3 D (.lst (ys++[y])))
    else ∃m',m' < m/\W (i+1) m' ys H2)):=by
 refine⟨λi m ys H=>m=xs.length-i/\i<=xs.length/\Pv i ys H,⟨xs.length,by simp,b7 _,h0⟩,?_⟩;rintro i m ys H ⟨rfl,hi,p⟩;have q:=hl i ys H hi p;by_cases hlt:i < xs.length
 ·refine .inr ⟨⟨xs,xs[i],q,by simp[hlt]⟩,λx H' y=>?_⟩
  obtain⟨e,y⟩:=y;subst e;exact hs i x ys H' (y xs q) p
 ·have e:i=xs.length:=by lia
  subst e;exact .inl ⟨⟨xs,q,ap _⟩,hd ys H p⟩
theorem U0 {n i:Nat}{D:Addr}{f:St->St}{σ:St}{te:TE}{x:V}{H:Hp}{ys:List V}{P:List V->Hp->Prop}(h:te ([some x]++f σ) H λy H3=>H3 D=some (.lst ys)/\ys.length < sizeLine/\dI n i (P (ys++[y]) (upd H3 D (.lst (ys++[y]))))) :
  nW n i D (λv _ Q=>Q [some v]) f σ gC te x H ys P:=by
 show (if true=true then (te ([some x]++f σ) H λy H3=>H3 D=some (.lst ys)/\ys.length < sizeLine/\dI n i (P (ys++[y]) (upd H3 D (.lst (ys++[y]))))) else dI n i (P ys H));rw[if_pos rfl];exact h
theorem U3 {KT:W.Frag}{n i:Nat}{D a:Addr}{p q:V}{f:St->St}{σ:St}{te:TE}{x:V}{H:Hp}{ys:List V}{P:List V->Hp->Prop}(hx:x=.ref a)(hS:aP KT H a [p,q])(h:te ([some p,some q]++f σ) H λy H3=>H3 D=some (.lst ys)/\ys.length < sizeLine/\dI n i (P (ys++[y]) (upd H3 D (.lst (ys++[y]))))) :
  nW n i D (λv H Q=>∃a p q,v=.ref a/\aP KT H a [p,q]/\Q [some p,some q]) f σ gC te x H ys P:=by
 refine⟨a,p,q,hx,hS,?_⟩;show (if true=true then (te ([some p,some q]++f σ) H λy H3=>H3 D=some (.lst ys)/\ys.length < sizeLine/\dI n i (P (ys++[y]) (upd H3 D (.lst (ys++[y]))))) else dI n i (P ys H));rw[if_pos rfl];exact h
theorem vI {KT:W.Frag}{n i:Nat}{D a:Addr}{p q r:V}{f:St->St}{σ:St}{te:TE}{x:V}{H:Hp}{ys:List V}{P:List V->Hp->Prop}(hx:x=.ref a)(hS:aP KT H a [p,q,r])(h:te ([some p,some q,some r]++f σ) H λy H3=>H3 D=some (.lst ys)/\ys.length < sizeLine/\dI n i (P (ys++[y]) (upd H3 D (.lst (ys++[y]))))) :
  nW n i D (λv H Q=>∃a p q r,v=.ref a/\aP KT H a [p,q,r]/\Q [some p,some q,some r]) f σ gC te x H ys P:=by
 refine⟨a,p,q,r,hx,hS,?_⟩;show (if true=true then (te ([some p,some q,some r]++f σ) H λy H3=>H3 D=some (.lst ys)/\ys.length < sizeLine/\dI n i (P (ys++[y]) (upd H3 D (.lst (ys++[y]))))) else dI n i (P ys H));rw[if_pos rfl];exact h
section
variable {X:Cx}
def adx:V->List V->Hp->VK->Prop:=λx vs H Q=>∃(l:Addr) (us:AA) (w:List Nat),x=.ref l/\vs=[.str (S w)]/\H l=some (.lst (Ts us))/\w∈us/\us.length<=1000/\Q .non (upd H l (.lst (Ts (us.erase w))))
noncomputable def strEq (w:List Nat)(u:Value):Bool:=match u with
 | .str z _=>z.cps.toList==w
 | _=>false
theorem Xz {us:AA}{w:List Nat}:us.erase w=us.eraseIdx (us.idxOf w):=by
 induction us with
 | nil=>rfl
 | cons a r ih=>
  by_cases h:a=w
  ·subst h;simp
  ·rw[List.erase_cons_tail (by simpa using h),List.idxOf_cons,cond_eq_ite,if_neg (by simpa using h),kd,ih]
theorem XC:R4 X "list.remove" adx:=by
 intro ao s σ H x vs v us Q I rx rv h;obtain⟨l,ls,w,rfl,rfl,hH,hw,hz,q⟩:=h;cases rx;obtain⟨u,rfl,ru⟩:=rv.one;obtain⟨t,rfl⟩:=ru;obtain⟨z,its,n,r,hl,e⟩:=I.yK hH;have bY:its.length=ls.length:=by rw[<- hl,aa]
 have hj:ls.idxOf w < ls.length:=List.idxOf_lt_length_of_mem hw;have get:∀(m:Nat) (hm:m < its.toArray.size),∃(tk:Tok) (hm':m < ls.length),its.toArray[m]=.str (S ls[m]) tk:=λm hm=>by
  have hm':m < ls.length:=by simp at hm;lia
  obtain⟨u1,e1,s1⟩:=r.get (i:=m) (x:=.str (S ls[m])) (by simp[hm']);obtain⟨tk,rfl⟩:=s1;refine⟨tk,hm',?_⟩;rw[ac (by lia)]at e1;simpa using e1
 refine call_meets F.slot_list_remove ⟨_,e,rfl⟩ F.entry_list_remove (F.args_list_remove_2 _ _) (PySem.MeetsSeq.list_remove l its.toArray n (.str (S w) t) (strEq w) (λy hy=>?_) (ls.idxOf w) (by rw[bb];lia) ?_ (λm hm hm2=>?_) (by rw[bb,bY];exact aT (aG hz))) ⟨e,?_⟩
 ·obtain⟨m,hm,rfl⟩:=Array.mem_iff_getElem.mp hy
  obtain⟨tk,_,e1⟩:=get m hm;rw[e1];exact PySem.SeqRoads2.EqGives.str _ _ _ _
 ·obtain⟨tk,hm',e1⟩:=get (ls.idxOf w) (by rw[bb];lia)
  rw[e1];show (ls[ls.idxOf w]==w)=true;rw[List.getElem_idxOf];simp
 ·obtain⟨tk,hm',e1⟩:=get m hm
  rw[e1];show (ls[m]==w)=false;have:=List.not_of_lt_findIdx (p:=λa=>a==w) (xs:=ls) (show m < ls.findIdx (λa=>a==w) from hm2);simpa using this
 ·refine⟨.non,_,I.Ob (its':=its.eraseIdx (ls.idxOf w)) hH e ?_ ?_ ?_,rfl,q⟩
  ·rw[Array.eraseIdxIfInBounds,dif_pos (by rw[bb];lia)]
   simp
  ·rw[Xz]
   have hv:=Vals.eraseIdx (ls.idxOf w) r;have em:∀(xs:AA) (i:Nat),Ts (xs.eraseIdx i)=(Ts xs).eraseIdx i:=by
    intro xs
    induction xs with
    | nil=>intro i;rfl
    | cons a r ih=>
     intro i;cases i with
     | zero=>rfl
     | succ i=>rw[kd,Ts,bP,Ts,bP,kd];congr 1;exact ih i
   rw[em];exact hv
  ·rw[aa]
   exact cq (List.length_erase_le ..) (aT (aG hz))
def afO (K:W.Frag):List V->Hp->VK->Prop:=λxs H Q=>∃(a:Addr) (ws:AA),xs=[.ref a]/\aW K H a (Ts ws)/\ws.length < 64/\∀(p:Addr) (ws':AA),H p=none->ws'.Perm ws->ws'.Pairwise (λa b=>decide (b < a)=false)->Q (.ref p) (upd H p (.lst (Ts ws')))
theorem Om:gq X (.builtin "sorted") (afO X.K):=by
 intro ao s σ H xs us Q I r h;obtain⟨a,ws,rfl,hS,h64,q⟩:=h;obtain⟨u,rfl,ru⟩:=vals1 r;cases ru;obtain⟨its,rv,pl,_⟩:=I.list hS;have bY:its.length=ws.length:=by have:=rv.length;simpa using this.symm
 refine sorted_strs pl.isList (Ea rv) (by lia) λout ss' a1 a2 a3=>?_;obtain⟨e,he⟩:=sortedAll_at s.heap its out;have pm':(ss'.map λy=>y.cps.toList).Perm ws:=by
  have:=a2.map λy:Str=>y.cps.toList;rw[b8]at this;have e:((λy:Str=>y.cps.toList) ∘ S)=id:=rfl;rw[e,List.map_id]at this;exact this
 have hv:Vals (Ts (ss'.map λy=>y.cps.toList)) out.toList:=by
  have:=Bo a1;have es:(ss'.map V.str)=Ts (ss'.map λy=>y.cps.toList):=by
   rw[Ts,b8];exact eQ λy _=>by simp[Function.comp_def,ahO]
  rw[es]at this;exact this
 have hl:(Ts (ss'.map λy=>y.cps.toList)).length<=sizeLine:=by
  rw[aa,pm'.length_eq];exact aT (aG (by lia))
 refine⟨.ref (s.heap.objs.size+1),_,I.laid (o:=.lst _) (t':=s.toks) (λb o z=>sortedAll_old z) (iq _) ⟨hl,out.toList,e,hv,by rw[Array.toArray_toList];exact he⟩,rfl,q _ _ (I.hok.fresh (iq _)) pm' (Xv ss' a3)⟩
def ahV (t:TS):TS:=λD σ H=>∃Iv:St->Hp->Prop,t { D with nx:=Iv } σ H/\∀σ' H',Iv σ' H'->D.nx σ' H'
theorem gD {st:Stmt}{t:TS}(h:QS X st t):QS X st (ahV t):=⟨λao s σ H D I ⟨Iv,a,b⟩=>by
 refine bR (h.out ao s σ H _ I a) λf s' q=>?_;cases f with
 | next=>obtain⟨σ7,H7,I7,n7⟩:=q;exact⟨σ7,H7,I7,b _ _ n7⟩
 | cont=>exact q
 | brk=>exact q
 | ret v=>exact q⟩
end
end L2
namespace L2
open PySem PySem.Spec PyProof.Rows PySem.W
def eO {α:Type}(I:Nat->Prop)(lt:Nat->Nat->Bool):KasT α->(α->Prop)->Prop
 | .ret a,Q=>Q a
 | .ask i j k,Q=>I i/\I j/\eO I lt (k (lt i j)) Q
theorem eO.bind {α β:Type}{I:Nat->Prop}{lt:Nat->Nat->Bool}{f:α->KasT β}{Q:β->Prop}:∀(t:KasT α),eO I lt t (λa=>eO I lt (f a) Q)->eO I lt (t.bind f) Q
 | .ret _,h=>h
 | .ask i j k,h=>⟨h.1,h.2.1,eO.bind (k (lt i j)) h.2.2⟩
theorem eO.mono {α:Type}{I:Nat->Prop}{lt:Nat->Nat->Bool}{Q Q':α->Prop}(hq:∀a,Q a->Q' a):∀(t:KasT α),eO I lt t Q->eO I lt t Q'
 | .ret _,h=>hq _ h
 | .ask i j k,h=>⟨h.1,h.2.1,eO.mono hq (k (lt i j)) h.2.2⟩
theorem eO.wp {α:Type}{I:Nat->Prop}{lt:Nat->Nat->Bool}{cmp:Nat->Nat->(Bool->Shared->Prop)->Shared->Prop}{s:Shared}(hc:∀i j C,I i->I j->C (lt i j) s->cmp i j C s){Q:α->Prop}{R:α->Shared->Prop}(hr:∀a,Q a->R a s) :
  ∀(t:KasT α),eO I lt t Q->t.kasWp cmp R s
 | .ret _,h=>hr _ h
 | .ask i j k,h=>hc i j _ h.1 h.2.1 (eO.wp hc hr (k (lt i j)) h.2.2)
section
variable {n:Nat}{r:Nat->Nat}
variable {prog:Program}{w:World}{A:Around}{E:AB}{s:Shared}
structure fV (n:Nat)(p:Array Nat):Prop where
 sz:p.size=n
 pm:p.toList.Perm (List.range n)
theorem fV.lt {p:Array Nat}(h:fV n p){i:Nat}(hi:i < n):p.getD i 0 < n:=by
 have hs:=h.sz;have e:p.getD i 0=p[i]:=by simp[Array.getD,hs,hi]
 rw[e];exact eK.mp (h.pm.mem_iff.mp (by simp))
theorem fV.inj {p:Array Nat}(h:fV n p){i j:Nat}(hi:i < n)(hj:j < n)(e:p.getD i 0=p.getD j 0):i=j:=by
 have hs:=h.sz;have nd:p.toList.Nodup:=h.pm.symm.nodup List.nodup_range;have e1:p.getD i 0=p.toList[i]'(by simp;lia):=by simp[Array.getD,hs,hi]
 have e2:p.getD j 0=p.toList[j]'(by simp;lia):=by simp[Array.getD,hs,hj]
 rw[e1,e2]at e;have pw:=cn.mp nd;rcases me i j with z | z | z
 ·exact absurd e (pw i j (by simp;lia) (by simp;lia) z)
 ·exact z
 ·exact absurd e.symm (pw j i (by simp;lia) (by simp;lia) z)
abbrev RR (r:Nat->Nat)(p:Array Nat)(i:Nat):Nat:=r (p.getD i 0)
abbrev Br (r:Nat->Nat):Nat->Nat->Bool:=λi j=>decide (r i < r j)
def mX (r:Nat->Nat)(p:Array Nat)(k:Nat):Prop:=∀i j,i < j->j < k->RR r p i < RR r p j
def U4 (r:Nat->Nat)(p:Array Nat)(k:Nat):Prop:=∀i j,i < j->j < k->RR r p j < RR r p i
def uL (n:Nat)(r:Nat->Nat):Prop:=∀i j,i < n->j < n->r i=r j->i=j
theorem U5 (hr:uL n r){p:Array Nat}(h:fV n p){i j:Nat}(hi:i < n)(hj:j < n)(hne:i≠j):RR r p i≠RR r p j:=λe=>hne (h.inj hi hj (hr _ _ (h.lt hi) (h.lt hj) e))
theorem Jy (hr:uL n r){p:Array Nat}(hp:fV n p):∀f m:Nat,1<=m->m+f<=n->mX r p m->eO (· < n) (Br r) (kas_asc p f m) (λm'=>m<=m'/\m'<=m+f/\mX r p m'/\(m'=m+f\/(m' < n/\RR r p m' < RR r p (m'-1))))
 | 0,m,_,_,hs=>⟨ap _,ap _,hs,.inl rfl⟩
 | f+1,m,h1,hf,hs=>by
  refine⟨hp.lt (by lia),hp.lt (by lia),?_⟩;show eO _ _ (if decide (RR r p m < RR r p (m-1))=true then KasT.ret m else kas_asc p f (m+1)) _;by_cases c:RR r p m < RR r p (m-1)
  ·rw[am c,if_pos rfl]
   exact⟨ap _,by lia,hs,.inr ⟨by lia,c⟩⟩
  ·rw[al c,if_neg bn]
   have ne:=U5 hr hp (i:=m) (j:=m-1) (by lia) (by lia) (by lia);refine eO.mono (λm' h=>⟨by lia,by lia,h.2.2.1,?_⟩) _ (Jy hr hp f (m+1) (by lia) (by lia) λi j hij hj=>?_)
   ·rcases h.2.2.2 with z | z
    ·exact .inl (by lia)
    ·exact .inr z
   ·by_cases ej:j=m
    ·subst ej
     by_cases ei:i=j-1
     ·subst ei;lia
     ·have:=hs i (j-1) (by lia) (by lia);lia
    ·exact hs i j hij (by lia)
theorem Oo (hr:uL n r){p:Array Nat}(hp:fV n p):∀f m:Nat,2<=m->m+f<=n->U4 r p m->eO (· < n) (Br r) (kas_desc f p m 0) (λx=>∃m',x=(p,m',0)/\m<=m'/\m'<=m+f/\U4 r p m')
 | 0,m,_,_,hs=>⟨m,rfl,ap _,ap _,hs⟩
 | f+1,m,h1,hf,hs=>by
  refine⟨hp.lt (by lia),hp.lt (by lia),?_⟩;have ne:=U5 hr hp (i:=m) (j:=m-1) (by lia) (by lia) (by lia);show eO _ _ (if decide (RR r p m < RR r p (m-1))=true then (if 0 > 0 then _ else kas_desc f p (m+1) 0) else _) _;by_cases c:RR r p m < RR r p (m-1)
  ·rw[am c,if_pos rfl,if_neg (by lia)]
   refine eO.mono (λx ⟨m',e,a,b,d⟩=>⟨m',e,by lia,by lia,d⟩) _ (Oo hr hp f (m+1) (by lia) (by lia) λi j hij hj=>?_);by_cases ej:j=m
   ·subst ej
    by_cases ei:i=j-1
    ·subst ei;lia
    ·have:=hs i (j-1) (by lia) (by lia);lia
   ·exact hs i j hij (by lia)
  ·rw[al c,if_neg bn]
   refine⟨hp.lt (by lia),hp.lt (by lia),?_⟩;show eO _ _ (if decide (RR r p (m-1) < RR r p m)=true then KasT.ret (p,m,0) else _) _;rw[am (show RR r p (m-1) < RR r p m by lia),if_pos rfl];exact⟨m,rfl,ap _,by lia,hs⟩
theorem Oq {p:Array Nat}(hp:fV n p)(i j:Nat):fV n (kas_rev p i j):=
 ⟨(mirror_size _ _ _ _).trans hp.sz,((lL.mp (mirror_perm p i j _)).trans hp.pm)⟩
theorem Sq {p:Array Nat}(hp:fV n p){m k:Nat}(hm:m<=n)(hk:k < m):(kas_rev p 0 m).getD k 0=p.getD (m-1-k) 0:=by
 have e:=getElem?_mirror_all (xs:=p) (i:=0) (j:=m) (by rw[hp.sz];exact hm) k;rw[if_pos ⟨b7 _,hk⟩,Nat.zero_add]at e;rw[fk,fk];exact congrArg (λx=>x.getD 0) e
theorem XF (hr:uL n r){p:Array Nat}(hp:fV n p)(hn:1<=n):eO (· < n) (Br r) (kas_count n p) (λx=>1<=x.1/\x.1<=n/\fV n x.2/\mX r x.2 x.1):=by
 unfold kas_count;refine eO.bind _ (eO.mono (λm h=>?_) _ (Jy hr hp (n-1) 1 (ap _) (by lia) λi j hij hj=>by lia));obtain⟨a,b,hs,hend⟩:=h;have tail:∀m,2<=m->m<=n->U4 r p m->eO (· < n) (Br r) (kas_tail3 m n p) (λx=>1<=x.1/\x.1<=n/\fV n x.2/\mX r x.2 x.1):=λm h2 hm hd=>by
  unfold kas_tail3;refine eO.bind _ (eO.mono (λm' h=>?_) _ (Jy hr (Oq hp 0 m) (n-m) m (by lia) (by lia) λi j hij hj=>?_))
  ·exact⟨by show 1<=m';lia,by show m'<=n;lia,Oq hp 0 m,h.2.2.1⟩
  ·show r _ < r _
   rw[Sq hp hm (by lia),Sq hp hm hj];exact hd (m-1-j) (m-1-i) (by lia) (by lia)
 by_cases e:m=n
 ·subst e
  rw[if_pos (by simp)];exact⟨a,ap _,hp,hs⟩
 ·rw[if_neg (by simpa using e)]
  have hlt:m < n/\RR r p m < RR r p (m-1):=by
   rcases hend with z | z
   ·exact absurd z (by lia)
   ·exact z
  by_cases h1:m > 1
  ·rw[if_pos h1]
   refine⟨hp.lt (by lia),hp.lt (by lia),?_⟩;show eO _ _ (if decide (RR r p 0 < RR r p (m-1))=true then KasT.ret (m,p) else _) _;rw[am (hs 0 (m-1) (by lia) (by lia)),if_pos rfl];exact⟨a,by show m<=n;lia,hp,hs⟩
  ·rw[if_neg h1]
   have em:m=1:=by lia
   subst em;unfold kas_descPart;refine eO.bind _ (eO.mono (λx h=>?_) _ (Oo hr hp (n-(1+1)) (1+1) (by lia) (by lia) λi j hij hj=>?_))
   ·obtain⟨m',rfl,c1,c2,c3⟩:=h
    show eO _ _ (if (0:Nat) > 0 then _ else kas_tail3 m' n p) _;rw[if_neg (by lia)];exact tail m' (by lia) (by lia) c3
   ·have ei:i=0:=by lia
    have ej:j=1:=by lia
    subst ei ej;exact hlt.2
theorem Bs (hr:uL n r){p:Array Nat}(hp:fV n p){k:Nat}(hk:k < n)(hs:mX r p k):∀f l t:Nat,l<=t->t<=k->t-l<=f->(∀i,i < l->RR r p i < RR r p k)->(∀i,t<=i->i < k->RR r p k < RR r p i)->
  eO (· < n) (Br r) (kas_place p k f l t) (λl'=>l'<=k/\(∀i,i < l'->RR r p i < RR r p k)/\∀i,l'<=i->i < k->RR r p k < RR r p i)
 | 0,l,t,h1,h2,h3,a,b=>⟨by lia,a,λi hi hk=>b i (by lia) hk⟩
 | f+1,l,t,h1,h2,h3,a,b=>by
  unfold kas_place;by_cases c:l>=t
  ·rw[if_pos c]
   exact⟨by lia,a,λi hi hk=>b i (by lia) hk⟩
  ·rw[if_neg c]
   refine⟨hp.lt hk,hp.lt (by lia),?_⟩;show eO _ _ (if decide (RR r p k < RR r p ((l+t)/2))=true then kas_place p k f l ((l+t)/2) else kas_place p k f ((l+t)/2+1) t) _;have ne:=U5 hr hp (i:=k) (j:=(l+t)/2) hk (by lia) (by lia);by_cases d:RR r p k < RR r p ((l+t)/2)
   ·rw[am d,if_pos rfl]
    refine Bs hr hp hk hs f l ((l+t)/2) (by lia) (by lia) (by lia) a λi hi hik=>?_;by_cases e:i=(l+t)/2
    ·rw[e];exact d
    ·have:=hs ((l+t)/2) i (by lia) hik;lia
   ·rw[al d,if_neg bn]
    refine Bs hr hp hk hs f ((l+t)/2+1) t (by lia) h2 (by lia) (λi hi=>?_) b;by_cases e:i=(l+t)/2
    ·rw[e];lia
    ·have:=hs i ((l+t)/2) (by lia) (by lia);lia
theorem Ss {p:Array Nat}(hp:fV n p){k l j:Nat}(hk:k < n)(hl:l<=k):(bubble p k (k-l)).getD j 0=if j=l then p.getD k 0 else if l < j/\j<=k then p.getD (j-1) 0 else p.getD j 0:=by
 have e:=getElem?_bubble (xs:=p) (src:=k) (by rw[hp.sz];exact hk) (k-l) (by lia) j;rw[show k-(k-l)=l by lia]at e;rw[fk,e]
 split
 ·rw[fk]
 ·split <;> rw[fk]
theorem Sv (hr:uL n r):∀(f:Nat) (p:Array Nat) (k:Nat),fV n p->k+f=n->1<=k->mX r p k->eO (· < n) (Br r) (kas_bin f p k) (λp'=>fV n p'/\mX r p' n)
 | 0,p,k,hp,hf,_,hs=>⟨hp,(show k=n by lia) ▸ hs⟩
 | f+1,p,k,hp,hf,h1,hs=>by
  unfold kas_bin;refine eO.bind _ (eO.mono (λl h=>?_) _ (Bs hr hp (by lia) hs k 0 k (by lia) (ap _) (by lia) (λi hi=>by lia) λi hi hik=>by lia));obtain⟨hl,a,b⟩:=h;have hk:k < n:=by lia
  refine Sv hr f _ (k+1) ⟨(bubble_size _ _ _).trans hp.sz,(lL.mp (bubble_perm p k _)).trans hp.pm⟩ (by lia) (by lia) λi j hij hj=>?_;show r _ < r _;rw[Ss hp hk hl,Ss hp hk hl];have key:∀x y:Nat,x < y->y < k->RR r p x < RR r p y:=λx y h1 h2=>hs x y h1 h2;by_cases c1:i=l
  ·rw[if_pos c1,if_neg (by lia),if_pos ⟨by lia,by lia⟩]
   exact b (j-1) (by lia) (by lia)
  ·rw[if_neg c1]
   by_cases c2:l < i/\i<=k
   ·rw[if_pos c2,if_neg (by lia),if_pos ⟨by lia,by lia⟩]
    exact key (i-1) (j-1) (by lia) (by lia)
   ·rw[if_neg c2]
    by_cases c3:j=l
    ·rw[if_pos c3]
     exact a i (by lia)
    ·rw[if_neg c3]
     by_cases c4:l < j/\j<=k
     ·rw[if_pos c4]
      by_cases c5:i=j-1
      ·lia
      ·exact key i (j-1) (by lia) (by lia)
     ·rw[if_neg c4]
      exact key i j hij (by lia)
theorem aaP (hr:uL n r)(hn:1<=n):eO (· < n) (Br r) (kas_sort n) (λp=>fV n p/\mX r p n):=by
 unfold kas_sort;have h0:fV n (List.toArray (List.range n)):=⟨by simp,by simp⟩
 refine eO.bind _ (eO.mono (λx h=>?_) _ (XF hr h0 hn));obtain⟨a,b,c,d⟩:=h;by_cases e:x.1 < n
 ·rw[if_pos e,show max x.1 1=x.1 by lia]
  exact Sv hr _ _ _ c (by lia) a d
 ·rw[if_neg e]
  have:x.1=n:=by lia
  rw[this]at d;exact⟨c,d⟩
theorem Mu {a:Addr}{vs:List Value}{n:Nat}{P:PySem.Fin->Shared->Prop}{r:Nat->Nat}(ho:s.heap.get? a=some (seqObj "list" vs.toArray n))(h64:vs.length < 64)(hr:uL vs.length r)
  (hk:2<=vs.length->∀(h':Heap) (Q:SortKind->Shared->Prop),(∀b o,s.heap.get? b=some o->b≠a->h'.get? b=some o)->Q (tuples' true) { s with heap:=h' }->wpAny (model prog w) A (keyKind' vs.toArray) Q E { s with heap:=h' })
  (hc:∀(h':Heap),(∀b o,s.heap.get? b=some o->b≠a->h'.get? b=some o)->∀i j C,i < vs.length->j < vs.length->C (Br r i j) { s with heap:=h' }->kas_ask prog w A (tuples' true) vs i j C { s with heap:=h' })
  (h:∀(h':Heap) (p:Array Nat),fV vs.length p->mX r p vs.length->(∀b o,s.heap.get? b=some o->b≠a->h'.get? b=some o)->(∃e,h'.get? a=some (seqObj "list" (p.toList.map λi=>vs.getD i Value.none).toArray e))->P (.done (.ret .none)) { s with heap:=h' }) :
  wpAny (model prog w) A (Builtin.«list.sort» ⟨[.ref a],[]⟩) P E s:=by
 rw[list_sort_plain];have ha:a < s.heap.objs.size:=ax ho;have aaQ:vs.length<=sizeLine:=aT (aG (by lia));refine ae (listItems_at ho rfl ?_);refine ae (listUpdate_at ho rfl ?_ (by rw[bb];exact aaQ) (b7 _));obtain⟨e1,ho1⟩:∃e1,(s.heap.update a (Obj.mapSeq λ_=>#[])).get? a=some (seqObj "list" #[] e1):=⟨_,get?_update_seq ho (λ_=>#[])⟩
 refine ae (seqEpoch_at ho1 rfl ?_);refine ae (wpAny_newTuple ?_ (by show vs.length<=_;exact aaQ));refine ae (wpAny_newList ?_ (b7 _));refine dL ?_;have ho6:(((s.heap.update a (Obj.mapSeq λ_=>#[])).push (seqObj "tuple" vs.toArray 0)).push (seqObj "list" #[] 0)).get? a=some (seqObj "list" #[] e1):=by
  rw[kf _ _ _ (by rw[size_push',Heap.size_update];exact ba (fg ha)),kf _ _ _ (by rw[Heap.size_update];exact ba ha)];exact ho1
 have Nk:∀b o,s.heap.get? b=some o->b≠a->(((s.heap.update a (Obj.mapSeq λ_=>(#[]:Array Value))).push (seqObj "tuple" vs.toArray 0)).push (seqObj "list" #[] 0)).get? b=some o:=λb o e hb=>by
  refine ag _ (ag _ ?_);rw[hX _ _ _ _ hb];exact e
 show wpAny (model prog w) A _ P E { s with heap:=((s.heap.update a (Obj.mapSeq λ_=>#[])).push (seqObj "tuple" vs.toArray 0)).push (seqObj "list" #[] 0) };dsimp only;generalize ((s.heap.update a (Obj.mapSeq λ_=>(#[]:Array Value))).push (seqObj "tuple" vs.toArray 0)).push (seqObj "list" #[] 0)=XH at ho6 Nk ⊢;have fin:∀(p:Array Nat),fV vs.length p->mX r p vs.length->∀(out:Array Value),out=(p.toList.map λi=>vs.getD i Value.none).toArray->P (.done (.ret .none)) { s with heap:=XH.update a (Obj.mapSeq λ_=>out) }:=λp pp sp out eo=>by
  refine h _ p pp sp (λb o e hb=>?_) ?_
  ·rw[hX _ _ _ _ hb];exact Nk b o e hb
  ·rw[<- eo];exact⟨_,get?_update_seq ho6 λ_=>out⟩
 have acF:∀(p:Array Nat),fV vs.length p->(p.toList.map λi=>vs.getD i Value.none).toArray.size<=sizeLine:=λp pp=>by
  rw[bb,aa,du,pp.sz];exact aaQ
 by_cases h2:vs.toArray.size < 2
 ·have hn2:vs.length < 2:=by rw[bb]at h2;exact h2
  rw[if_pos h2,if_pos h2];refine ae (av ?_);rw[StateT.run_pure];refine ae (av ?_);dsimp only;have h0:fV vs.length (List.toArray (List.range vs.length)):=⟨by simp,by simp⟩
  have eo:(arrOf (SortSt.mk' general' (vs.toArray.zip vs.toArray) #[] 7 none)).map (·.2)=((List.toArray (List.range vs.length)).toList.map λi=>vs.getD i Value.none).toArray:=by
   have e0:(arrOf (SortSt.mk' general' (vs.toArray.zip vs.toArray) #[] 7 none))=vs.toArray.zip vs.toArray:=rfl;rw[e0];exact(show ∀u:List Value,(u.toArray.zip u.toArray).map (·.2)=((List.toArray (List.range u.length)).toList.map λi=>u.getD i Value.none).toArray from λu=>by
    apply kx.mp;refine fE (by simp) λi h1 h2=>?_;simp at h1 h2 ⊢;simp[h1]) vs
  refine ae (seqEpoch_at ho6 rfl ?_);refine ae (listUpdate_at ho6 rfl ?_ (b7 _) (by rw[eo];exact mf (acF _ h0)));simp only[bne_self_eq_false,cE,if_false];exact av (fin _ h0 (λi j hij hj=>by lia) _ eo)
 ·have hn2:2<=vs.length:=by rw[bb]at h2;lia
  rw[if_neg h2,if_neg h2];refine ae (hk hn2 XH _ Nk ?_);refine ae (dA (kat_run (κ:=tuples' true) (ks:=vs) (vs:=vs) (Q:=λst' s'=>∃p:Array Nat,fV vs.length p/\mX r p vs.length/\arrOf st'=p.map (kas_item (vs.toArray.zip vs.toArray))/\failedOf st'=none/\s'={ s with heap:=XH })
   (G:=λp s'=>fV vs.length p/\mX r p vs.length/\s'={ s with heap:=XH }) rfl hn2 h64 (λp' st' s' a1 a2 a3 ⟨a4,a5,a6⟩=>⟨p',a4,a5,a2,a3,a6⟩)
   (eO.wp (λi j C hi hj hC=>hc XH Nk i j C hi hj hC) (λp ⟨a1,a2⟩=>⟨a1,a2,rfl⟩) _ (aaP hr (by lia)))) ?_ λ_ _ e=>e)
  rintro⟨⟨⟩,st'⟩ s' ⟨p,pp,sp,har,hf,rfl⟩;dsimp only;have eo:=kat_snds (ks:=vs) (vs:=vs) rfl har;refine ae (seqEpoch_at ho6 rfl ?_);refine ae (listUpdate_at ho6 rfl ?_ (b7 _) (by rw[eo];exact mf (acF _ pp)));rw[hf];simp only[bne_self_eq_false,cE,if_false];exact av (fin p pp sp _ eo)
theorem HB {l:Addr}{vs:List Value}{Q:AB}{r:Nat->Nat}(hl:s.heap.IsList l vs.toArray)(h64:vs.length < 64)(hr:uL vs.length r)
  (hk:2<=vs.length->∀(h':Heap) (Q:SortKind->Shared->Prop) (E:AB),(∀b o,s.heap.get? b=some o->h'.get? b=some o)->Q (tuples' true) { s with heap:=h' }->wpAny (model prog w) A.in1.in1 (keyKind' vs.toArray) Q E { s with heap:=h' })
  (hc:∀(h':Heap),(∀b o,s.heap.get? b=some o->h'.get? b=some o)->∀i j C,i < vs.length->j < vs.length->C (Br r i j) { s with heap:=h' }->kas_ask prog w A.in1.in1 (tuples' true) vs i j C { s with heap:=h' })
  (h:∀(h':Heap) (p:Array Nat),fV vs.length p->mX r p vs.length->(∀b o,s.heap.get? b=some o->h'.get? b=some o)->(∃e,h'.get? (s.heap.objs.size+1)=some (seqObj "list" (p.toList.map λi=>vs.getD i Value.none).toArray e))->Q (.ref (s.heap.objs.size+1)) { s with heap:=h' }) :
  wpAny (model prog w) A (call (.builtin "sorted") [.ref l]) Q E s:=by
 refine Calls.call_function_entry kind_sorted plain_sorted entry_sorted (args_sorted1 _) ?_;unfold Builtin.«sorted»;refine ae (m:=checkCount "sorted" 1 1 _) (av ?_);refine ae (collect_list hl ?_ (by exact aT (aG (by lia))));refine ae (wpAny_newList ?_ (by exact aT (aG (by lia))));have hsz:((s.heap.push (seqObj "list" #[] 0)).update s.heap.objs.size (Obj.mapSeq (· ++ vs.toArray))).objs.size=s.heap.objs.size+1:=by
  rw[Heap.size_update,size_push']
 have hoL:(((s.heap.push (seqObj "list" #[] 0)).update s.heap.objs.size (Obj.mapSeq (· ++ vs.toArray))).push (seqObj "list" vs.toArray 0)).get? (s.heap.objs.size+1)=some (seqObj "list" vs.toArray 0):=by
  rw[<- hsz];exact a9 _ rfl
 have keep:∀b o,s.heap.get? b=some o->(((s.heap.push (seqObj "list" #[] 0)).update s.heap.objs.size (Obj.mapSeq (· ++ vs.toArray))).push (seqObj "list" vs.toArray 0)).get? b=some o:=λb o q=>by
  have hlt:b < s.heap.objs.size:=ax q;rw[kf _ _ _ (by rw[hsz];exact ba (fg hlt)),hX _ _ _ _ (ba hlt),kf _ _ _ (ba hlt)];exact q
 have nb:∀b o,s.heap.get? b=some o->b≠s.heap.objs.size+1:=λb o q=>ba (fg (ax q));show wpAny _ _ _ _ _ { s with heap:=((s.heap.push (seqObj "list" #[] 0)).update s.heap.objs.size (Obj.mapSeq (· ++ vs.toArray))).push (seqObj "list" vs.toArray 0) };rw[hsz];refine ae (dL (fF slot_list_sort ⟨_,hoL,rfl⟩ entry_list_sort (Mu (s:={ s with heap:=((s.heap.push (seqObj "list" #[] 0)).update s.heap.objs.size (Obj.mapSeq (· ++ vs.toArray))).push (seqObj "list" vs.toArray 0) }) hoL h64 hr
  (λh2 h' Q' kp=>hk h2 h' Q' _ λb o e=>kp b o (keep b o e) (nb b o e)) (λh' kp=>hc h' λb o e=>kp b o (keep b o e) (nb b o e)) λh' p pp sp kp he=>⟨_,rfl,?_⟩) (args_list_sort _)))
 exact av ⟨_,rfl,h h' p pp sp (λb o e=>kp b o (keep b o e) (nb b o e)) he⟩
end
def afP (H:Hp)(cf:Addr->Nat)(a:Addr):Prop:=∃(x y:Nat) (rest:List V),H a=some (.tup (.int x :: .int y::rest))/\y < 1000/\cf a=x*1000+y/\(rest=[]\/∃z,rest=[.str z])
section
variable {X:Cx}
def afQ (K:W.Frag):List V->Hp->VK->Prop:=λxs H Q=>∃(L:Addr) (as:List Addr) (cf:Addr->Nat),xs=[.ref L]/\aW K H L (as.map V.ref)/\as.length < 64/\(∀a∈as,afP H cf a)/\(as.map cf).Nodup/\
 ∀(p:Addr) (as':List Addr),H p=none->as'.Perm as->(as'.map cf).Pairwise (· < ·)->Q (.ref p) (upd H p (.lst (as'.map V.ref)))
theorem Bt:∀{as:List Addr} {us:List Value},Vals (as.map V.ref) us->us=as.map Value.ref
 | [],_,.nil=>rfl
 | a::as,_,.cons r t=>by cases r;rw[bP,Bt t]
theorem vJ:∀(as:List Addr),Vals (as.map V.ref) (as.map Value.ref)
 | []=>.nil
 | a::as=>.cons rfl (vJ as)
theorem Bu:gq X (.builtin "sorted") (afQ X.K):=by
 intro ao s σ H xs us Q I r h;obtain⟨L,as,cf,rfl,hS,h64,hcell,hnd,q⟩:=h;obtain⟨u,rfl,ru⟩:=vals1 r;cases ru;obtain⟨its,rv,pl,_⟩:=I.list hS;have aaR:=Bt rv;subst aaR;have tup:∀i:Nat,i < as.length->∃(x y:Nat) (t1 t2:Tok) (o:Obj) (n:Nat) (rest:List Value),s.heap.get? (as.getD i 0)=some o/\o.cls=.type "tuple"/\o.data=.seq (Value.int x t1::Value.int y t2::rest).toArray n/\y < 1000/\cf (as.getD i 0)=x*1000+y/\(rest=[]\/∃z t3,rest=[Value.str z t3]):=λi hi=>by
  have hm:as.getD i 0∈as:=by rw[ai,ac hi];exact ah _
  obtain⟨x,y,rest,e,hy,hcf,hrest⟩:=hcell _ hm;obtain⟨_,tv,HD,o,ho,hc,n,hd⟩:=I.hok _ _ e;cases HD with
  | cons r1 rr=>
   cases rr with
   | cons r2 rr=>
    obtain⟨t1,rfl⟩:=r1;obtain⟨t2,rfl⟩:=r2;refine⟨x,y,t1,t2,o,n,_,ho,hc,hd,hy,hcf,?_⟩;rcases hrest with rfl | ⟨z,rfl⟩
    ·cases rr;exact .inl rfl
    ·cases rr with
     | cons r3 rr=>
      cases rr;obtain⟨t3,rfl⟩:=r3;exact .inr ⟨z,t3,rfl⟩
 have gv:∀i:Nat,i < as.length->(as.map Value.ref).getD i Value.none=.ref (as.getD i 0):=λi hi=>by simp[hi]
 have bY:(as.map Value.ref).length=as.length:=aa _;have XJ:=cn.mp hnd;have hinj:uL (as.map Value.ref).length (λi=>cf (as.getD i 0)):=λi j hi hj e=>by
  rw[bY]at hi hj;have e':cf as[i]=cf as[j]:=by simpa [hi,hj] using e
  rcases me i j with z | z | z
  ·exact absurd e' (by have:=XJ i j (by simpa using hi) (by simpa using hj) z;simpa using this)
  ·exact z
  ·exact absurd e'.symm (by have:=XJ j i (by simpa using hj) (by simpa using hi) z;simpa using this)
 refine HB (r:=λi=>cf (as.getD i 0)) pl.isList (by rw[bY];exact h64) hinj ?_ ?_ ?_
 ·intro h2 h' Q' E' kp hQ
  have kt:∀(bs:List Addr),(∀b∈bs,b∈as)->∃fs,KatTups h' (bs.map Value.ref) fs/\fs.length=bs.length/\∀v∈fs,∃(x:Int) (t:Tok),v=.int x t:=by
   intro bs
   induction bs with
   | nil=>exact λ_=>⟨[],trivial,rfl,λv hv=>by simp at hv⟩
   | cons b bs ih=>
    intro hb;obtain⟨fs,k1,k2,k3⟩:=ih λx hx=>hb x (a_ _ hx);obtain⟨i,hi,e⟩:=c_.mp (hb b bq);obtain⟨x,y,t1,t2,o,n,rest,ho,hc,hd,_⟩:=tup i hi;have eb:as.getD i 0=b:=by simp[hi,e]
    rw[eb]at ho;exact⟨.int x t1::fs,KatTups.cons (kp _ _ ho) hc hd rfl k1,by simp[k2],λv hv=>by
     rcases bo.mp hv with z | z
     ·exact⟨_,_,z⟩
     ·exact k3 v z⟩
  obtain⟨fs,k1,k2,k3⟩:=kt as λ_ h=>h;rw[bY]at h2;exact kat_kind (s:={ s with heap:=h' }) (T:=.type "int") k1 (by lia) (λv hv=>by obtain⟨x,t,rfl⟩:=k3 v hv;exact Looks.of_pure rfl) (by decide) hQ
 ·intro h' kp i j C hi hj hC
  rw[bY]at hi hj;obtain⟨x1,y1,t1,t2,o1,n1,r1,ho1,hc1,hd1,hy1,afR,hr1⟩:=tup i hi;obtain⟨x2,y2,t3,t4,o2,n2,r2,ho2,hc2,hd2,hy2,afS,hr2⟩:=tup j hj;have hC':C (decide (x1*1000+y1 < x2*1000+y2)) { s with heap:=h' }:=by
   have:Br (λi=>cf (as.getD i 0)) i j=decide (x1*1000+y1 < x2*1000+y2):=by show decide (cf _ < cf _)=_;rw[afR,afS]
   rw[<- this];exact hC
  unfold kas_ask;rw[gv i hi,gv j hj];refine kat_lt (s:={ s with heap:=h' }) (kp _ _ ho1) hd1 (kp _ _ ho2) hd2 ?_;rw[show (Value.int (x1:Int) t1::Value.int (y1:Int) t2::r1).toArray.toList.zip (Value.int (x2:Int) t3::Value.int (y2:Int) t4::r2).toArray.toList=(Value.int (x1:Int) t1,Value.int (x2:Int) t3)::(Value.int (y1:Int) t2,Value.int (y2:Int) t4)::r1.zip r2 from rfl];refine kat_cons (d6 _ _ _ _ X.prog X.w _ _ ?_);refine kat_go (λe=>kat_yes ?_) (λe=>kat_no ?_)
  ·have ex:x1=x2:=by have:((x1:Int)==(x2:Int))=true:=e;have:=eq_of_beq this;lia
   refine kat_cons (d6 _ _ _ _ X.prog X.w _ _ ?_);refine kat_go (λe=>kat_yes ?_) (λe=>kat_no ?_)
   ·have ey:y1=y2:=by have:((y1:Int)==(y2:Int))=true:=e;have:=eq_of_beq this;lia
    have eij:i=j:=hinj i j (by rw[bY];exact hi) (by rw[bY];exact hj) (by show cf _=cf _;rw[afR,afS,ex,ey]);subst eij;have eo:o1=o2:=by rw[ho1]at ho2;exact aw ho2
    subst eo;rw[hd1]at hd2;have er:r1=r2:=by
     injection hd2 with hd2 _;have:=congrArg Array.toList hd2;simp at this;exact this.2.2
    subst er;have fl:decide ((Value.int (x1:Int) t1::Value.int (y1:Int) t2::r1).toArray.size < (Value.int (x2:Int) t3::Value.int (y2:Int) t4::r1).toArray.size)=decide (x1*1000+y1 < x2*1000+y2):=by
     rw[ex,ey];simp
    rcases hr1 with rfl | ⟨z,t5,rfl⟩
    ·exact kat_nil (by rw[fl];exact hC')
    ·refine kat_cons (SeqAt.EqAt.same _ X.prog X.w _ _ ?_)
     exact kat_yes (kat_nil (by rw[fl];exact hC'))
   ·have ey:y1≠y2:=λz=>by have:((y1:Int)==(y2:Int))=false:=e;simp[z]at this
    refine kat_one _ _ (lt_int ?_);show C (decide ((y1:Int) < (y2:Int))) _;rw[show decide ((y1:Int) < (y2:Int))=decide (x1*1000+y1 < x2*1000+y2) by rw[ex];simp];exact hC'
  ·have ex:x1≠x2:=λz=>by have:((x1:Int)==(x2:Int))=false:=e;simp[z]at this
   show wpAny _ _ (oneLt' true _ _) _ _ _;refine oneLt_int ?_;rw[show decide ((x1:Int) < (x2:Int))=decide (x1*1000+y1 < x2*1000+y2) by
    by_cases z:x1 < x2
    ·rw[am (by lia),am (by lia)]
    ·rw[al (by lia),al (by lia)]]
   exact hC'
 ·intro h' p pp sp kp he
  rw[bY]at pp sp;obtain⟨e,he⟩:=he;have eo:(p.toList.map λi=>(as.map Value.ref).getD i Value.none)=(p.toList.map λi=>as.getD i 0).map Value.ref:=by
   rw[b8];refine eQ λi hi=>?_;exact gv i (eK.mp (pp.pm.mem_iff.mp hi))
  rw[eo]at he;have pm:(p.toList.map λi=>as.getD i 0).Perm as:=by
   have:=pp.pm.map λi=>as.getD i 0;have e2:(List.range as.length).map (λi=>as.getD i 0)=as:=by
    apply fE
    ·simp
    ·intro k h1 h2;simp at h1;simp[h1]
   rw[e2]at this;exact this
  have pw:((p.toList.map λi=>as.getD i 0).map cf).Pairwise (· < ·):=by
   rw[b8,cn];intro i j hi hj hij;rw[aa,du,pp.sz]at hi hj;have:=sp i j hij hj;have g1:p.getD i 0=p.toList[i]'(by rw[du,pp.sz];exact hi):=by simp[Array.getD,pp.sz,hi]
   have g2:p.getD j 0=p.toList[j]'(by rw[du,pp.sz];exact hj):=by simp[Array.getD,pp.sz,hj]
   simp only[de,Function.comp];rw[<- g1,<- g2];exact this
  have hl:((p.toList.map λi=>as.getD i 0).map V.ref).length<=sizeLine:=by
   rw[aa,pm.length_eq];exact aT (aG (by lia))
  refine⟨.ref (s.heap.objs.size+1),_,I.laid (o:=.lst _) (t':=s.toks) (λb o z=>kp b o z) (iq _) ⟨hl,(p.toList.map λi=>as.getD i 0).map Value.ref,e,vJ _,he⟩,rfl,q _ _ (I.hok.fresh (iq _)) pm pw⟩
end
def Raw (h:Heap)(d:Addr)(g:Array DictEntry)(e:Nat):Prop:=∃x,h.get? d=some x/\x.ExactDict/\x.data=.dict g e
theorem Raw.ty {s:Shared}{d:Addr}{g:Array DictEntry}{e:Nat}(m:Raw s.heap d g e):s.TypeIs (.ref d) "dict":=let ⟨x,p,q,_⟩:=m;⟨x,p,q.1⟩
theorem Raw.mv {h h':Heap}{d:Addr}{g:Array DictEntry}{e:Nat}(m:Raw h d g e)(k:∀x,h.get? d=some x->h'.get? d=some x):Raw h' d g e:=let ⟨x,p,q⟩:=m;⟨x,k _ p,q⟩
theorem Raw.lt {h:Heap}{d:Addr}{g:Array DictEntry}{e:Nat}(m:Raw h d g e):d < h.objs.size:=let ⟨x,p,q⟩:=m;ax p
section
variable {prog:Program}{w:World}{A:Around}{E:AB}{s:Shared}{d a:Addr}{g:Array DictEntry}{e i:Nat}
variable {X:Cx}
variable {pos:Pos}
theorem aaS {Q:AB}(hd:(d==sysModules)=false)(m:Raw s.heap d g e)
  (q:Q (.ref s.heap.objs.size) { s with heap:=s.heap.push { cls:=.type "dict_keyiterator",data:=.fields #[.ref d,.int 0 0,.int g.size 0,.int e 0] } }):wpAny (model prog w) A (pyIter (.ref d)) Q E s:=by
 have T:=m.ty;obtain⟨x,p1,p2,p3⟩:=m;refine wpAny_pyIter_slot T F.slot_dict_iter (fF F.slot_dict_iter T F.entry_dict_iter ?_ (F.args_dict_iter_1 _));unfold Builtin.«dict.__iter__» Builtin.Dict.dictSlotNone;refine ae (ae (wpAny_notOrdered_dict T ?_));show wpAny _ _ (pure (Value.ref d)) _ _ s;refine av ?_;show wpAny _ _ (Builtin.Dict.showsAll d >>= _) _ _ s;unfold Builtin.Dict.showsAll;rw[if_neg (by rw[hd];exact bn)];refine ae (av (ae (mh p1 p3 (ae (wpAny_dictEpoch p1 p3 ?_)))));refine ae (f8 (av ⟨_,rfl,"dict_keyiterator",_,⟨_,a9 _ rfl,rfl⟩,fb.lookup,?_⟩));simpa [rawInt] using q
theorem aaT {Q:Option Value->Shared->Prop}(t:s.heap.IsKeyIter a d i g.size e)(m:Raw s.heap d g e)(hi:i < g.size)
  (q:∀h',h'.IsKeyIter a d (i+1) g.size e->Heap.SameBut a s.heap h'->Q (some g[i].key) { s with heap:=h' }):wpAny (model prog w) A (pyNext (.ref a)) Q E s:=by
 have T:=t.typeIs;obtain⟨x,t1,t2,t3⟩:=id t;obtain⟨y,p1,p2,p3⟩:=m;unfold pyNext;refine ae (iX (ib (name:=Str.ofString "__next__") T fb (fF fb T F.entry_dict_keyiterator_next ?_ (F.args_dict_keyiterator_next_1 _))));refine ae (av (ae (ae ?_)))
 first | refine ae (f_ T (av ?_)) | refine ae (gX T (av ?_))
 refine ae (wpAny_fieldsOf t1 t3 ?_);have aaU:Builtin.Dict_items.ownsTuple "dict_keyiterator"=false:=by decide
 simp only[aaU,cE,if_false];show wpAny _ _ (if (Value.ref d==Value.none)=true then _ else _) _ _ s;rw[if_neg (show ¬((Value.ref d==Value.none)=true) from bn)];refine ae (av (ae (mh p1 p3 ?_)));rw[if_neg (by simp)];refine ae (av (ae (wpAny_dictEpoch p1 p3 ?_)));rw[if_neg (by simp)];refine av ?_;simp only[show ¬((i:Int) < 0) from by lia,if_false,df,gI hi];refine ae ?_
 first | refine ae (f_ T (av ?_)) | refine ae (gX T (av ?_))
 refine ae (wpAny_isOneOf_keyiter T ?_);show wpAny _ _ (setField (.ref a) 1 (rawInt ((i:Int)+1)) >>= _) _ _ s;refine ae (iN t1 t3 (by simp) ?_);have t':(s.heap.update a (Obj.mapFields (·.setIfInBounds 1 (rawInt ((i:Int)+1))))).IsKeyIter a d (i+1) g.size e:=
  ⟨_,fN _ t1 (gr (io t3 _)),(mi ..).trans t2,by rw[io t3];simp[rawInt]⟩
 refine ae (dL (ae (wpAny_isOneOf_keyiter (s:={ s with heap:=s.heap.update a (Obj.mapFields (·.setIfInBounds 1 (rawInt ((i:Int)+1)))) }) t'.typeIs ?_)));show wpAny _ _ (pure g[i].key) _ _ _;exact av (av ⟨_,rfl,av (q _ t' (Heap.SameBut.update ..))⟩)
theorem ady {Q:Option Value->Shared->Prop}(hh:A.handled=none)(t:s.heap.IsKeyIter a d i g.size e)(m:Raw s.heap d g e)(hi:g.size<=i)
  (q:∀h',Heap.ExtBut a s.heap h'->Q none { s with heap:=h' }):wpAny (model prog w) A (pyNext (.ref a)) Q E s:=by
 have T:=t.typeIs;obtain⟨x,t1,t2,t3⟩:=id t;obtain⟨y,p1,p2,p3⟩:=m;unfold pyNext;refine ae (iX (ib (name:=Str.ofString "__next__") T fb (fF fb T F.entry_dict_keyiterator_next ?_ (F.args_dict_keyiterator_next_1 _))));refine ae (av (ae (ae ?_)))
 first | refine ae (f_ T (av ?_)) | refine ae (gX T (av ?_))
 refine ae (wpAny_fieldsOf t1 t3 ?_);have aaU:Builtin.Dict_items.ownsTuple "dict_keyiterator"=false:=by decide
 simp only[aaU,cE,if_false];show wpAny _ _ (if (Value.ref d==Value.none)=true then _ else _) _ _ s;rw[if_neg (show ¬((Value.ref d==Value.none)=true) from bn)];refine ae (av (ae (mh p1 p3 ?_)));rw[if_neg (by simp)];refine ae (av (ae (wpAny_dictEpoch p1 p3 ?_)));rw[if_neg (by simp)];refine av ?_;simp only[show ¬((i:Int) < 0) from by lia,if_false,df,Array.getElem?_eq_none hi];refine ae ?_
 first | refine ae (f_ T (av ?_)) | refine ae (gX T (av ?_))
 show wpAny _ _ (setField (.ref a) 0 .none >>= _) _ _ s;refine ae (iN t1 t3 (by simp) ?_);show wpAny _ _ (newExc (.type "StopIteration") [] >>= _) _ _ _;refine ae ?_;simp only[newExc,newTuple];refine ae (f8 ?_ (by size_fits));refine ae (m:=firstArgMember _ _) (wpAny_of_eq (a:=Value.none) (by first | rfl | (simp only[firstArgMember];rfl)) (f8 ?_ (by size_fits)));simp only[raiseNew];refine ae (wpAny_handled ?_);rw[show A.in1.handled=none from hh];refine ae (av (wpAny_throw ?_));refine ae (m:=isInstance _ _) (ky (T:="StopIteration") (b:=true) ⟨_,a9 _ rfl,rfl⟩ isSubtype_stop ?_);exact av (q _ (((Heap.SameBut.update ..).extBut.push _).push _))
theorem XM (hh:A.handled=none)(I:Addr)(hne:d≠I)(g:Array DictEntry)(e:Nat):Walks prog w A I [I,d] [I] g.size (λi v=>∃z,g[i]?=some z/\v=z.key) (λi h=>h.IsKeyIter I d i g.size e/\Raw h d g e) where
 sub:=λb hb=>by simp at hb;simp[hb]
 frame:=λ_ _ _ st hk=>⟨st.1.at λo z=>hk I (by simp) o z,st.2.mv λo z=>hk d (by simp) o z⟩
 item:=λi s Q E hi st hQ=>aaT st.1 st.2 hi λh' t' k=>hQ _ h' s.toks ⟨g[i],by simp[hi],rfl⟩ ⟨t',st.2.mv λo z=>k.extBut d o hne z⟩ λb o hb z=>k.extBut b o (λy=>hb (by simp[y])) z
 done:=λs Q E st hQ=>ady hh st.1 st.2 (ap _) λh' k=>hQ h' s.toks λb o hb z=>k b o (λy=>hb (by simp[y])) z
 self:=λ_ _ _ _ st hQ=>wpAny_pyIter_keyiter st.1 hQ
theorem adz (lo:(d==sysModules)=false)(g:Array DictEntry)(e:Nat):KdlSrc prog w "dict" d d g.size (λi v=>∃z,g[i]?=some z/\v=z.key) (λh=>Raw h d g e) where
 type:=λ_ m=>m.ty
 there:=λ_ m=>⟨m.lt,m.lt⟩
 keep:=λ_ _ m hk=>m.mv λo z=>hk d (.inl rfl) o z
 notList:=by decide
 notTuple:=by decide
 hint:=λ_ _ _ _ m q=>kdl_hint_dict m.ty q
 iter:=λ_ _ hh m=>⟨_,_,(λ_ _ q=>aaS lo m q),XM hh _ (ba m.lt) g e,⟨⟨_,a9 _ rfl,rfl,rfl⟩,m.mv λo z=>ag _ z⟩⟩
def afT:List V->Hp->VK->Prop:=λxs H Q=>∃(a:Addr) (kvs:List (List Key × V)),xs=[.ref a]/\H a=some (.dT kvs)/\
 ((kvs.map (·.1)).Nodup->∀(p:Addr) (bs:List Addr),H p=none->Paired (λ(k:List Key) (b:Addr)=>H b=some (.tup (k.map kV))) (kvs.map (·.1)) bs->Q (.ref p) (upd H p (.lst (bs.map V.ref))))
theorem ahn {H:Hp}{kvs:List (List Key × V)}{xs:List (List Key × Addr × Value)}(r:KT H kvs xs):Paired (λ(k:List Key) (b:Addr)=>H b=some (.tup (k.map kV))) (kvs.map (·.1)) (xs.map λx=>x.2.1)/\kvs.map (·.1)=xs.map (·.1):=by
 unfold KT at r
 induction r with
 | nil=>exact⟨.nil,rfl⟩
 | cons h t ih=>exact⟨.cons h.2.1 ih.1,by rw[bP,bP,ih.2,h.1]⟩
theorem U6 (hc:X.calm=true):gq X (.type "list") afT:=by
 intro ao s σ H xs us Q I r h;obtain⟨a,kvs,rfl,e,q⟩:=h;obtain⟨u,rfl,ru⟩:=vals1 r;cases ru;obtain⟨z,lo,ys,rel,o,es,ep,h1,h2,h3,h4,h5⟩:=(show dH X.prog X.w H s.heap a (.dT kvs) from I.hok _ _ e)
 obtain⟨pb,pk⟩:=ahn rel;have hsz:es.size=ys.length:=size_of_entries h4;have bY:kvs.length=ys.length:=by have:=congrArg List.length pk;simpa using this
 refine kdl_call (adz lo es ep) (I.ok.hd hc) ⟨o,h1,h2,h3⟩ (by rw[hsz,<- bY];exact z) λh' tk acc c' hk hD hacc=>?_;have ea:acc.toList=(ys.map λx=>x.2.1).map Value.ref:=by
  apply List.ext_getElem?;intro j;by_cases hj:j < ys.length
  ·have hj':j < acc.size:=by rw[hacc.1,hsz];exact hj
   obtain⟨z1,e1,e2⟩:=hacc.2 j acc[j] (by simp[hj']);rw[entry_at h4 j,ac hj]at e1;have e1:=aw e1;subst e1;rw[kA,gI hj',e2];simp[hj];rfl
  ·rw[e7 (by rw[du,hacc.1,hsz];lia),e7 (by simp;lia)]
 refine⟨.ref s.heap.objs.size,_,I.laid (o:=.lst _) (t':=tk) hk (ap _) ⟨by rw[aa,aa,<- bY];exact z,acc.toList,c',ea ▸ vJ _,by simpa using hD⟩,rfl,q (by rw[pk];exact h5) _ _ (I.hok.fresh (ap _)) pb⟩
open Classical in
theorem Jz (d:Dt):∀es:List Dt,((jM es).any λy=>PyData.eqv y (toP d))=decide (d∈es)
 | []=>by simp[jM]
 | e::es=>by
  rw[jM,gu,Jz d es,Jx];by_cases z:e=d
  ·subst z;simp
  ·have z':¬d=e:=λy=>z y.symm
   simp[z,z']
theorem adA {o i:Expr}{td ty:TE}(hu:X.A.units+1 < cLine)(ho:QE X o td)(hi:QE X i ty)(hs:aaB i):QE X (.Subscript o i pos) (acv td ty):=⟨adi hu ho.out hi.out hs⟩
theorem aaV:QE X (.Dict [] [] pos) Xd:=⟨aaF⟩
theorem afU {a b:Addr}{oa ob:Obj}{na nb:Nat}{x1 y1 x2 y2:Nat}{t1 t2 t3 t4:Tok}{r1 r2:List Value}{Q:AB}
  (ha:s.heap.get? a=some oa) (ca:oa.cls=.type "tuple") (da:oa.data=.seq (Value.int x1 t1::Value.int y1 t2::r1).toArray na)
  (hb:s.heap.get? b=some ob) (cb:ob.cls=.type "tuple") (db:ob.data=.seq (Value.int x2 t3::Value.int y2 t4::r2).toArray nb) (l1:y1 < 1000) (l2:y2 < 1000) (hu:A.units < cLine) (hne:x1*1000+y1≠x2*1000+y2)
  (q:Q (.bool (decide (x1*1000+y1 < x2*1000+y2))) s):wpAny (model prog w) A (compareOp .Lt (.ref a) (.ref b)) Q E s:=by
 have Ta:s.TypeIs (.ref a) "tuple":=⟨oa,ha,ca⟩
 have Tb:s.TypeIs (.ref b) "tuple":=⟨ob,hb,cb⟩
 show wpAny _ _ (richCompare .Lt (.ref a) (.ref b)) Q E s;refine wpAny_richCompare_same_room (op:=.Lt) (T:="tuple") Ta Tb kQ (fF kQ Ta F.entry_tuple_lt ?_ (F.args_tuple_lt_2 _ _)) hu;show wpAny _ _ (isInstance (.ref b) (.type "tuple") >>= _) _ _ s;refine ae (ky Tb isSubtype_tuple_tuple ?_);simp only[i6,cE,if_false];refine ae (js ha da (ae (js hb db (ae ?_))));rw[show (Value.int (x1:Int) t1::Value.int (y1:Int) t2::r1).toArray.toList.zip (Value.int (x2:Int) t3::Value.int (y2:Int) t4::r2).toArray.toList=(Value.int (x1:Int) t1,Value.int (x2:Int) t3)::(Value.int (y1:Int) t2,Value.int (y2:Int) t4)::r1.zip r2 from rfl];rw[fS];refine ae ?_;dsimp only;refine ae (d6 _ _ _ _ prog w _ _ ?_);by_cases ex:x1=x2
 ·subst ex
  simp only[beq_self_eq_true,i6,cE,if_false];refine av ?_;dsimp only;rw[fS];refine ae ?_;dsimp only;refine ae (d6 _ _ _ _ prog w _ _ ?_);have ey:((y1:Int)==(y2:Int))=false:=by
   apply beq_eq_false_iff_ne.mpr;intro z;exact hne (by lia)
  simp only[ey,nv,if_true];refine ae (wpAny_rule (ae (lt_int ?_)));refine ae (av (av (av (av ⟨_,rfl,by simp,?_⟩))));rw[show decide ((y1:Int) < (y2:Int))=decide (x1*1000+y1 < x1*1000+y2) by simp];exact q
 ·have ey:((x1:Int)==(x2:Int))=false:=by
   apply beq_eq_false_iff_ne.mpr;intro z;exact ex (by lia)
  simp only[ey,nv,if_true];refine ae (wpAny_rule (ae (lt_int ?_)));refine ae (av (av (av (av ⟨_,rfl,by simp,?_⟩))));rw[show decide ((x1:Int) < (x2:Int))=decide (x1*1000+y1 < x2*1000+y2) by
    by_cases z:x1 < x2
    ·rw[am (by lia),am (by lia)]
    ·rw[al (by lia),al (by lia)]]
  exact q
def ahW:R2:=λx y H Q=>∃(a b:Addr) (x1 y1 x2 y2:Nat) (r1 r2:List V),x=.ref a/\y=.ref b/\H a=some (.tup (.int x1 :: .int y1::r1))/\H b=some (.tup (.int x2 :: .int y2::r2))/\y1 < 1000/\y2 < 1000/\x1*1000+y1≠x2*1000+y2/\
 Q (.bl (decide (x1*1000+y1 < x2*1000+y2))) H
theorem afV (hu:X.A.units < cLine):fJ X (compareOp .Lt) ahW:=by
 intro ao s σ H x y v u Q I rx ry h;obtain⟨a,b,x1,y1,x2,y2,r1,r2,rfl,rfl,ea,eb,l1,l2,hne,q⟩:=h;cases rx;cases ry;obtain⟨_,tv,HD,o,ho,hc,n,hd⟩:=I.hok _ _ ea;obtain⟨_,tv',aaW,o',ho',hc',n',hd'⟩:=I.hok _ _ eb;cases HD with
 | cons q1 rr=>
  cases rr with
  | cons q2 rr=>
   cases aaW with
   | cons q3 rr'=>
    cases rr' with
    | cons q4 rr'=>
     obtain⟨t1,rfl⟩:=q1;obtain⟨t2,rfl⟩:=q2;obtain⟨t3,rfl⟩:=q3;obtain⟨t4,rfl⟩:=q4;exact afU ho hc hd ho' hc' hd' l1 l2 hu hne ⟨.bl _,H,I,rfl,q⟩
structure aiF (K:W.Frag)(C:Addr):Prop where
 ha:W.findIn K (.ref C) "__class__"=some (some (.builtin "object.__class__"))
 hn:W.specialIn K (.builtin "object.__class__") "__get__"=some (some (.builtin "getset_descriptor.__get__"))
 ht:W.takesIn K (.builtin "object.__class__")=some true
 hm:W.mroIn K C (.type "object")=some true
 ki:W.kitOne K (.ref C) (.ref C)=some true
def afW:List V->Hp->VK->Prop:=λxs H Q=>∃l:List Nat,xs=[.str (S l)]/\l.length<=1000/\∀p,H p=none->Q (.ref p) (upd H p (.lst (Ts (l.map λc=>[c]))))
theorem K8:∀(l:List Nat) (us:List Value),us.length=l.length->(∀(i c:Nat),l[i]?=some c->∃t,us[i]?=some (.str (S [c]) t))->Vals (Ts (l.map λc=>[c])) us
 | [],[],_,_=>.nil
 | [],_::_,h,_=>by simp at h
 | _::_,[],h,_=>by simp at h
 | c::l,u::us,h,k=>by
  obtain⟨t,e⟩:=k 0 c rfl;have e:u=.str (S [c]) t:=aw e;exact .cons ⟨t,e⟩ (K8 l us (by simpa using h) λi d hd=>k (i+1) d hd)
theorem yR (hc:X.calm=true):gq X (.type "list") afW:=by
 intro ao s σ H xs us Q I r h;obtain⟨l,rfl,hl,q⟩:=h;obtain⟨u,rfl,ru⟩:=vals1 r;obtain⟨t,rfl⟩:=ru;have hz:l.length<=sizeLine:=aT (aG (by lia));refine call_list_str (I.ok.hd hc) (S l) t (λh' tk acc c' hk hD hacc=>?_) (by show l.toArray.size<=_;simpa using hz);have hsz:acc.size=l.length:=by rw[hacc.1];show l.toArray.size=_;simp
 refine⟨.ref s.heap.objs.size,_,I.laid (o:=.lst (Ts (l.map λc=>[c]))) (t':=tk) hk (ap _) ⟨by rw[aa,aa];exact hz,acc.toList,c',?_,by simpa using hD⟩,rfl,q _ (I.hok.fresh (ap _))⟩;refine K8 l acc.toList (by rw[du];exact hsz) λi c hc=>?_;have hi:i < acc.size:=by rw[hsz];exact(af.mp hc).1
 obtain⟨c2,t2,e1,e2⟩:=hacc.2 i acc[i] (by simp[hi]);have e1:l.toArray[i]?=some c2:=e1;rw[List.getElem?_toArray,hc]at e1;have e1:=aw e1;exact⟨t2,by rw[kA,gI hi,e2,e1];rfl⟩
end
end L2
namespace L2
open PySem PySem.Spec PyProof.Rows
theorem adB {X:Cx}{ix:Nat}{xn:Str}{FW spos:Pos}{elt iter tg:Expr}{ns N2:List Str}{f:St->St}{TP:V->Hp->(St->Prop)->Prop}{ifs:List Expr}{scope:Scope}{pos:Pos}{wi:TI}{tt:TT}{te:TE}(hN:X.N.Nodup)(hxi:X.N[ix]?=some xn)(hxl:Loc X.env.scope xn)(hc:X.calm=true)(ok:fD X scope ns N2 f)(hi:PI X tg iter wi)
  (hg:∀cl C s₀ H₀ fp,K5 (dz X scope cl C (ns++N2) s₀ H₀ fp) tg ns.length TP)
  (ht:∀cl C s₀ H₀ fp,R9 (dz X scope cl C (ns++N2) s₀ H₀ fp) ifs tt) (he:∀cl C s₀ H₀ fp,PE (dz X scope cl C (ns++N2) s₀ H₀ fp) elt te)
  (hs:∀x,foldedSetIterable iter X.env x=pure x:=by intro _;rfl) (hsw:swapsWith (.ListComp elt [⟨tg,iter,ifs,0⟩] scope pos) (some (.Name xn FW)) spos.line X.env=pure true:=by rfl)
  (hf:X.fn xn=true\/X.env.scope.names.lookup xn=some .local:=by first | exact .inl rfl | exact .inr rfl | assumption) :
  PS X (.Assign [.Name xn FW] (.ListComp elt [⟨tg,iter,ifs,0⟩] scope pos) spos) (Js (Hz f ns.length wi TP tt te) (jz ix)):=by
 intro ao s σ H De I h;obtain⟨cl,hcl,hsub,_,hall⟩:=pq (env:=X.env) scope.names (λy hy e=>I.ok.has y.1 (ok.free y hy e)) [] (λ_ _ z=>by simp at z);have hclos:closureFor scope X.env=pure cl:=by
  unfold closureFor;simp only[bind_pure];exact hcl
 rw[exec_Assign_Name_used _ _ _ _ hsw];refine ae (iS (ae (ae ?_)));refine bR (Q:=λ_ s'=>∃σ' H',aL X ao σ' H' s'/\De.nx σ' H') ?_ λ_ s' hq=>av (av hq);refine jp (use:=some (assign (.Name xn FW) X.env)) (E:=X.xe) (cl:=cl) rfl hs hclos ok.kind ok.names (bR (hi ao s σ H _ I h) λv s1 h1=>bR h1 λitv s2 h2=>?_);obtain⟨it,fp,tn,J,H2,e,I2,T,st2,f2,R⟩:=h2;subst e;obtain⟨W,⟨m0,w0⟩,turn⟩:=R s2.heap.objs.size I2.fresh;refine f8 (kP ok.qM (by intro y hy;simp at hy) (λh₁ hns₁ hsb₁=>?_) ok.kind);dsimp only at hns₁ hsb₁ ⊢;have I3:aL X ao σ (upd H2 s2.heap.objs.size (.lst [])) { s2 with heap:=s2.heap.push { cls:=.type "list",data:=.seq ([]:List Value).toArray } }:=I2.Uu (t':=s2.toks) (ys:=[]) (its:=[]) .nil (b7 _);generalize Xg:upd H2 s2.heap.objs.size (HO.lst [])=H3 at *
 generalize hs3:s2.heap.push { cls:=.type "list",data:=.seq ([]:List Value).toArray }=hp3 at *
 generalize hD:s2.heap.objs.size=D at *
 generalize hC:hp3.objs.size=C at *
 have hDC:D < C:=by rw[<- hC,<- hs3,dr,hD];exact gc _
 have old:∀b o,hp3.get? b=some o->h₁.get? b=some o:=λb o e=>(hsb₁.2 b (by rw[<- hC];exact ba (ax e))).trans (ag _ e);have KN:∀b∈fp,b < C:=λb hb=>by
  obtain⟨o,e,_⟩:=T.obj _ _ st2 b hb;rw[<- hC,<- hs3,dr];exact fg (ax e)
 have f3:∀b∈fp,ou X ao H3 b:=λb hb=>by
  obtain⟨o,e,_⟩:=T.obj _ _ st2 b hb;refine⟨?_,(f2 b hb).2⟩;rw[<- Xg,aM (by rw[<- hD];exact ba (ax e))];exact(f2 b hb).1
 have Bk:∀b∈fp,b∉frs X.stack:=λb hb z=>by
  obtain⟨_,g1,g2,_⟩:=f3 b hb;rcases bo.mp (I3.xR b z) with q | q
  ·exact g1 q
  ·exact g2 q
 have Xh:(dz X scope cl C (ns++N2) { s2 with heap:=hp3 } H3 fp).Ok:=by
  refine⟨I.ok.mod,?_,I.ok.glob,I.ok.blt,e8 hC,?_,?_,?_,I.ok.hd,I.ok.frames,.inl rfl,?_,?_,?_,?_,?_,?_,?_⟩
  ·exact ok.kind
  ·exact λa b c h1 h2=>I.ok.inj a b c (hsub a c h1) (hsub b c h2)
  ·intro a ha
   refine hall a ?_;rcases ha with z | z
   ·rcases cL (env:=X.env) z with q | ⟨_,q⟩
    ·exact absurd rfl (ok.qM _ (cR q))
    ·exact cR q
   ·rcases cL (env:=X.env) z with q | ⟨q,_⟩
    ·exact cR q
    ·cases q
  ·intro a c hf;cases hf
  ·intro b hb
   refine⟨ba (KN b hb),λa c h1=>(f3 b hb).2.2.2.2.1 a c (hsub a c h1)⟩
  ·exact I3.bs
  ·exact cq I.ok.sE I3.sz
  ·intro b o e hb
   rcases(f3 b hb).2.2.2.1 with z | z
   ·exact I.ok.wO b o e z
   ·exact absurd (b9 (ax e) (cq I.ok.sE z)) (dP _)
  ·exact Bk
  ·exact I3.stack
  ·exact I3.qg
 have Y0:aL (dz X scope cl C (ns++N2) { s2 with heap:=hp3 } H3 fp) [] (List.replicate ns.length none++f σ) H3 { s2 with heap:=h₁,toks:=s2.toks+([]:List (Str × Value)).length }:=by
  refine⟨Xh,rfl,I3.bare,Un.kept old,⟨_,hns₁,?_⟩,?_,?_,?_,λp hp=>by simp[dz]at hp,I3.hok.kept old,?_⟩
  ·intro i y v e1 e2 e3
   by_cases bA:i < ns.length
   ·rw[c8 (by rw[ck];exact bA),ka,if_pos bA]at e2
    simp at e2
   ·obtain⟨i,rfl⟩:∃k,i=ns.length+k:=⟨i-ns.length,by lia⟩
    have Xy:(ns++N2)[ns.length+i]?=some y:=e1;rw[cz (by lia),ia]at Xy;rw[cz (by rw[ck];lia),ck,ia]at e2;obtain⟨e1',e2',hout⟩:=ok.out σ i y v Xy e2;have hfree:(y,NameKind.free)∈scope.names:=by
     have key:∀k,(relabel scope X.env).names.lookup y=some k->k≠.local->k=.cell\/k=.free->(y,NameKind.free)∈scope.names:=λk q n hk=>by
      rcases cL (env:=X.env) q with z | ⟨_,z⟩
      ·rcases hk with rfl | rfl
       ·exact absurd rfl (ok.qM _ (cR z))
       ·exact cR z
      ·exact cR z
     rcases e3 with z | z | z
     ·rcases cL (env:=X.env) z with q | ⟨q,_⟩
      ·exact absurd q hout
      ·cases q
     ·exact key _ z (by decide) (.inl rfl)
     ·exact key _ z (by decide) (.inr rfl)
    have hk:=ok.free _ hfree rfl;obtain⟨m,hn,hl⟩:=I3.loc;obtain⟨u,r,q⟩:=hl i y v e1' e2' (by rcases hk with z | z;exact .inr (.inl z);exact .inr (.inr z));refine⟨u,r,.inr ⟨?_,?_⟩⟩
    ·rcases e3 with z | z | z
     ·rcases cL (env:=X.env) z with q | ⟨q,_⟩
      ·exact absurd q hout
      ·cases q
     ·exact .inl z
     ·exact .inr z
    ·rcases q with⟨z,_⟩ | ⟨_,c,hc',hcell⟩
     ·rcases hk with q | q <;> (rw[z]at q;cases q)
     ·obtain⟨c',hc2⟩:=hall y hfree
      have:c'=c:=by have:=hsub y c' hc2;rw[hc']at this;exact(aw this).symm
      subst this;obtain⟨o,ho,hd⟩:=hcell;exact⟨c',hc2,o,old _ _ ho,hd⟩
  ·intro a c h1
   obtain⟨v,o,ho,hd⟩:=I3.cell a c (hsub a c h1);exact⟨v,o,old _ _ ho,hd⟩
  ·show H3 C=none
   exact I3.hok.fresh (e8 hC)
  ·exact λa c h1=>I3.ju a c (hsub a c h1)
  ·show (List.replicate ns.length none++f σ).length=(ns++N2).length
   rw[bc,bc,ck,ok.aaM,I.len,ok.aaN]
 have back:∀(s':Shared) (v:St) (H':Hp) (h':Heap),aL (dz X scope cl C (ns++N2) { s2 with heap:=hp3 } H3 fp) [] v H' s'->Heap.SameBut C s'.heap h'->(∀b∈fp,H' b=none)->aL X ao σ H' { s' with heap:=h' }:=by
  intro s' v H' h' I' sb fr;have sI:∀b o,hp3.get? b=some o->b≠C:=λb o e=>by rw[<- hC];exact ba (ax e)
  have U:Un (frs X.stack) fp H3 H' hp3 s'.heap:=I'.base;refine I3.call' (ch:=fp) (H':=H') (s':={ s' with heap:=h' }) I'.os ⟨λb o e n h1 h2=>(sb.2 b (sI b o e)).trans (U.keep b o e n h1 h2),λb o e n h1 h2=>?_,U.free,λb o e h2=>?_,U.tups,U.lG,U.lV⟩ (λb ob e=>?_) I'.bare λb hb=>?_
  ·obtain⟨sl,q⟩:=U.slot b o e n h1 h2
   exact⟨sl,(sb.2 b (sI b o e)).trans q⟩
  ·obtain⟨o',q⟩:=U.there b o e h2
   exact⟨o',(sb.2 b (sI b o e)).trans q⟩
  ·have fC:H' C=none:=I'.free
   refine(I'.hok b ob e).stay (λc w' hc q=>(sb.2 c ?_).trans q) (λ_ q=>q) λ_ _ q=>q;rintro rfl;rcases hc with rfl | hc
   ·rw[fC]at e;cases e
   ·rw[fC]at hc;cases hc
  ·obtain⟨_,g1,_,g3,g4,g5⟩:=f3 b hb
   exact⟨g3,g1,g4,g5⟩
 have stat:∀{H':Hp},(∀b∈fp,H' b=none)->∀b∈fp,ou (dz X scope cl C (ns++N2) { s2 with heap:=hp3 } H3 fp) [] H' b:=λhn b hb=>
  ⟨hn b hb,ba (KN b hb),Bk b hb,.inl hb,λa c h1=>(f3 b hb).2.2.2.2.1 a c (hsub a c h1),λp hp=>by simp[dz]at hp⟩
 have st₁:tn 0 h₁:=T.keep _ _ _ st2 λb _ o e=>old b o (by rw[<- hs3];exact ag _ e);have loop:codeAny (model X.prog X.w) X.A (.compLoop (.ListComp elt [⟨tg,iter,ifs,0⟩] scope pos) 0 (.ref it) (.ref D) (compEnvC scope cl C X.env)) (compPost (model X.prog X.w) X.A X.xe (some (assign (.Name xn FW) X.env)) (λ_ s'=>∃σ' H',aL X ao σ' H' s'/\De.nx σ' H') (.ref D) C)
   { s2 with heap:=h₁,toks:=s2.toks+([]:List (Str × Value)).length }:=by
  refine yN (λn s'=>∃i v ys H',v.length=ns.length/\aL (dz X scope cl C (ns++N2) { s2 with heap:=hp3 } H3 fp) [] (v++f σ) H' s'/\tn i s'.heap/\(∀b∈fp,H' b=none)/\W i n ys H') ?_ m0 ⟨0,List.replicate ns.length none,[],H3,ck,Y0,st₁,λb hb=>(f3 b hb).1,w0⟩;rintro n s4 ⟨i,v,ys,H4,hv4,I4,KQ,Bl,w4⟩;rcases turn i n ys H4 w4 with⟨stop,qn⟩ | ⟨go,step⟩
  ·refine bR (T.done (dz X scope cl C (ns++N2) { s2 with heap:=hp3 } H3 fp) rfl rfl rfl hc i [] s4 (v++f σ) H4 _ I4 (stat Bl) KQ stop) λr s5 ⟨hr,I5⟩=>?_
   subst hr;obtain⟨m,hn,_⟩:=id I5.loc;have RP:aL X ao σ H4 s5:=back s5 (v++f σ) H4 s5.heap I5 (Heap.SameBut.refl _ _) Bl;have fC:ou X ao H4 C:=⟨I5.free,(I3.Jt (H':=H3) (e8 hC) (I3.hok.fresh (e8 hC))).2⟩
   refine lT (Kv RP hN hxi hxl (show cA (.ref D) (.ref D) from rfl) (λs6 I6 zz=>?_) hf);obtain⟨a,sb6,ha⟩:=zz;have nCa:C≠a:=by
    rcases ha with z | z
    ·rw[z];exact fC.2.1
    ·exact λy=>fC.2.2.2.2.1 _ _ z y.symm
   obtain⟨o,es,ep,e1,e2⟩:=hn;refine⟨m,⟨o,es,ep,(sb6.2 C nCa).trans e1,e2⟩,λh' sb=>⟨_,H4,I6.turned (t':=s6.toks) (λb o hb e=>(sb.2 b hb).trans e) fC.1 fC.2.1 fC.2.2.2.1 fC.2.2.2.2.1 fC.2.2.2.2.2,qn⟩⟩
  ·refine bR (T.item (dz X scope cl C (ns++N2) { s2 with heap:=hp3 } H3 fp) rfl rfl rfl hc i [] s4 (v++f σ) H4 _ I4 (stat Bl) KQ go) λr s5 zz=>?_;obtain⟨u,hr,h5⟩:=zz
   subst hr;refine bR h5 λ_ s6 zz=>?_;obtain⟨y,H6,I6,r6,y6,Bm,Xi⟩:=zz;have Xj:=I6.pinned (stat Xi) (T.obj _ _ Bm);refine bR (hg cl C { s2 with heap:=hp3 } H3 fp _ s6 v (f σ) H6 y u _ hv4 Xj r6 (step y H6 y6)) λ_ s7 zz=>?_;obtain⟨pre,hpre,Xk,q7⟩:=zz;refine bR (ht cl C { s2 with heap:=hp3 } H3 fp _ s7 _ H6 _ Xk q7) λb s8 zz=>?_;obtain⟨H8,I8,q8⟩:=zz;have rB:∀{σ':St} {H':Hp} {s':Shared},aL (dz X scope cl C (ns++N2) { s2 with heap:=hp3 } H3 fp) ([]++ux fp s6.heap) σ' H' s'->tn (i+1) s'.heap/\∀b∈fp,H' b=none:=λ{σ' H' s'} I9=>by
    refine⟨T.keep _ _ _ Bm λb hb o e=>(I9.pin (b,o) (b6 _ (b6 _ (jA hb e)))).1,λb hb=>?_⟩;obtain⟨o,e,d⟩:=T.obj _ _ Bm b hb;exact(I9.pin (b,o) (b6 _ (b6 _ (jA hb e)))).2.1
   cases b with
   | false=>
    obtain⟨m',hm,w'⟩:=q8;obtain⟨k1,k2⟩:=rB I8;exact⟨m',hm,i+1,pre,ys,H8,hpre,I8.j_,k1,k2,w'⟩
   | true=>
    have Xl:te (pre++f σ) H8 _:=q8;show wpAny _ _ (eval elt _) _ _ _;refine bR (he cl C { s2 with heap:=hp3 } H3 fp _ s8 _ H8 _ I8 Xl) λz s9 zz=>?_;obtain⟨zv,H9,I9,r9,Xm,Xn,m',hm,w'⟩:=zz;refine bR (gP (X:=dz X scope cl C (ns++N2) { s2 with heap:=hp3 } H3 fp) _ s9 _ H9 (.ref D) [zv] (.ref D) [z] (λ_ H'=>H'=upd H9 D (.lst (ys++[zv]))) I9 rfl (.cons r9 .nil) ⟨D,ys,zv,rfl,rfl,Xm,Xn,rfl⟩) λ_ s10 zz=>?_;obtain⟨_,H10,KR,_,e10⟩:=zz;subst e10;obtain⟨k1,k2⟩:=rB KR;exact⟨m',hm,i+1,pre,ys++[zv],_,hpre,KR.j_,k1,k2,w'⟩
 exact km loop (T.self X.A 0 _ _ _ st₁ loop)
theorem um {X:Cx}{ix:Nat}{xn:Str}{FW spos:Pos}{elt iter tg:Expr}{ns N2:List Str}{f:St->St}{TP:V->Hp->(St->Prop)->Prop}{ifs:List Expr}{scope:Scope}{pos:Pos}{wi:TI}{tt:TT}{te:TE}(hN:X.N.Nodup)(hxi:X.N[ix]?=some xn)(hxl:Loc X.env.scope xn)(hc:X.calm=true)(ok:fD X scope ns N2 f)(hi:QI X tg iter wi)
  (hg:∀cl C s₀ H₀ fp,K5 (dz X scope cl C (ns++N2) s₀ H₀ fp) tg ns.length TP)
  (ht:∀cl C s₀ H₀ fp,Xr (dz X scope cl C (ns++N2) s₀ H₀ fp) ifs tt) (he:∀cl C s₀ H₀ fp,QE (dz X scope cl C (ns++N2) s₀ H₀ fp) elt te)
  (hs:∀x,foldedSetIterable iter X.env x=pure x:=by intro _;rfl) (hsw:swapsWith (.ListComp elt [⟨tg,iter,ifs,0⟩] scope pos) (some (.Name xn FW)) spos.line X.env=pure true:=by rfl)
  (hf:X.fn xn=true\/X.env.scope.names.lookup xn=some .local:=by first | exact .inl rfl | exact .inr rfl | assumption) :
  QS X (.Assign [.Name xn FW] (.ListComp elt [⟨tg,iter,ifs,0⟩] scope pos) spos) (Js (Hz f ns.length wi TP tt te) (jz ix)):=
 ⟨adB hN hxi hxl hc ok hi.out hg (λa b c d e=>(ht a b c d e).out) (λa b c d e=>(he a b c d e).out) hs hsw hf⟩
structure aiG (X:Cx)(scope:Scope)(xn:Str)(N2:List Str)(f:St->St):Prop where
 kind:scope.kind=.function
 one:∀y∈scope.names,y.2=.cell->y.1=xn
 cf:∀k acc,cellsFrom k scope.names acc=(xn,k)::acc
 pc:∀h:Heap,pushCells h scope.names=h.push { cls:=.type "cell",data:=.cell none }
 names:∀y∈scope.names,y.2=.local->scope.names.lookup y.1=some .local
 free:∀y∈scope.names,y.2=.free->X.env.kindOf y.1=some .cell\/X.env.kindOf y.1=some .free
 aaM:∀σ:St,(f σ).length=σ.length
 aaN:N2.length=X.N.length
 out:∀(σ:St) (i:Nat) (y:Str) (v:V),N2[i]?=some y->(f σ)[i]?=some (some v)->X.N[i]?=some y/\σ[i]?=some (some v)/\scope.names.lookup y≠some .local/\y≠xn
section
variable {X:Cx}
def adC:V->List V->Hp->VK->Prop:=λx vs H Q=>∃l w,x=.str (S l)/\vs=[.str (S w)]/\∀n:Nat,Q (.int n) H
theorem XQ:xV X "str.count" adC:=by
 intro ao s σ H x vs v us Q I rx rv h;obtain⟨l,w,rfl,rfl,q⟩:=h;obtain⟨t,rfl⟩:=rx;obtain⟨u,rfl,ru⟩:=rv.one;obtain⟨t',rfl⟩:=ru;refine call_gives F.slot_str_count (typeIs_str s _ t) F.entry_str_count (F.args_str_count_2 _ _) (gives_str_count (S l) (S w) t t') ?_;show EP X ao σ Q _ _;exact⟨.int (Builtin.Str.occurrences (S l) (S w) 0 (S l).length ((S l).length+1)).length,H,I.tok _,⟨s.toks,rfl⟩,q _⟩
end
end L2
namespace L2
open PySem PySem.Spec PyProof.Rows PySem.W
open AutoSeq1 (wpAny_loadPart')
section
variable {X:Cx}{ao:AC}{σ:St}{H:Hp}{s:Shared}{h':Heap}
theorem aL.Sw {t':Nat}{fp:List Addr}(I:aL X ao σ H s)(k:∀b o,b∉fp->s.heap.get? b=some o->h'.get? b=some o)(hf:∀b∈fp,ou X ao H b):aL X ao σ H { s with heap:=h',toks:=t' }:=by
 have Wx:∀b u,H b=some u->b∉fp:=λb u e z=>by rw[(hf b z).1]at e;cases e
 refine I.step (g':=s.gens) (d':=s.drawn) (ch:=fp) (λb hb=>?_) (λb o _ _ hc e _=>k b o hc e) (λb o _ _ hc e _=>⟨o.slots,k b o hc e⟩) (λ_ _ _ _ n=>n)
  (λb o hc e=>⟨o,k b o hc e⟩) (λ_ _ e=>e) (λ_ _ _ e=>e) (λb ps e=>⟨#[],by rw[e];simp⟩) (λm hm=>?_) (λb u e=>?_) I.bare
 ·obtain⟨f0,f1,f2,f3,f4,f5⟩:=hf b hb
  exact⟨f3,f1,f4,f5⟩
 ·obtain⟨o,es,ep,ho,r⟩:=hm
  exact⟨o,es,ep,k _ o (λz=>(hf _ z).2.1 rfl) ho,r⟩
 ·refine(I.hok b u e).stay (λc v hc q=>k c v ?_ q) (λ_ q=>q) λ_ _ q=>q
  rcases hc with z | z
  ·rw[z];exact Wx b u e
  ·exact Wx c _ z
theorem Ot (hc:X.calm=true):gq X (.builtin "any") (λxs H Q=>∃(p:Addr) (bs:List Bool),xs=[.ref p]/\aW X.K H p (bs.map V.bl)/\Q (.bl (bs.any id)) H):=by
 intro ao s σ H xs us Q I r h;obtain⟨p,bs,rfl,hq,q⟩:=h;obtain⟨u,rfl,ru⟩:=vals1 r;cases ru;obtain⟨its,rv,pl,hz⟩:=I.list hq;have hne:p≠s.heap.objs.size:=by
  obtain⟨o,ho,_⟩:=pl.isList;exact ba (ax ho)
 have hb:∀(i:Nat) (v:Value),its[i]?=some v->v=.bool (bs.getD i false):=λi v hv=>by
  have bY:=rv.length;have hi:i < bs.length:=by have:=(af.mp hv).1;simp at bY;lia
  obtain⟨u,hu,ru⟩:=rv.get (i:=i) (x:=.bl bs[i]) (by simp[hi]);rw[hv]at hu;cases hu;cases ru;simp[List.getD,hi]
 refine call_any_walk (fe pl.isList ?_);refine⟨s.heap.objs.size,_,_,_,_,_,λi=>bs.getD i false,rfl,Walks.list (A:=X.A.in1) (I.ok.hd hc) s.heap.objs.size p hne its.toArray,⟨⟨_,a9 _ rfl,rfl,rfl⟩,pl.isList.at λo e=>ag _ e⟩,?_,λh' tk kk=>?_⟩
 ·intro i v s' Q' E' hv hq'
  have e:=hb i v (by simpa using hv);subst e;exact ed hq'
 ·have I1:aL X ao σ H { s with heap:=h',toks:=tk }:=I.kept λb o e=>kk b o (by
   intro hm;have:b=s.heap.objs.size:=by simpa using hm
   subst this;exact absurd (ax e) (dP _)) (ag _ e)
  refine⟨.bl (bs.any id),H,I1,?_,q⟩;show Value.bool _=Value.bool _;have bY:its.toArray.size=bs.length:=by have:=rv.length;simp at this;simp[this]
  rw[bY];congr 1;have key:∀bs:List Bool,(List.range bs.length).any (λi=>bs.getD i false)=bs.any id:=λbs=>by
   rw[e6,kz,kz];constructor
   ·rintro⟨i,hi,h⟩
    have hi':=eK.mp hi;exact⟨bs[i],ah _,by simpa [List.getD,hi'] using h⟩
   ·rintro⟨x,hx,h⟩
    obtain⟨i,hi,rfl⟩:=c_.mp hx;exact⟨i,eK.mpr hi,by simpa [List.getD,hi] using h⟩
  exact key bs
end
structure ZA (z ti to u v a b:Addr):Prop where
 q1:ti≠z
 q2:to≠z
 q3:u≠z
 q4:v≠z
 q5:ti≠to
 q6:ti≠u
 q7:ti≠v
 q8:to≠u
 q9:to≠v
 p1:u≠v
 p2:a≠z
 p3:a≠to
 p4:a≠u
 p5:a≠v
 p6:b≠z
 p7:b≠to
 p8:b≠u
 p9:b≠v
section
variable {X:Cx}{ao:AC}{σ:St}{H:Hp}{s:Shared}
theorem aL.aho {fp:List Addr}{tk:Nat}{x y:V}{p q:Value}{h2:Heap}(I:aL X ao σ H s)(hf:∀b∈fp,ou X ao H b)(lt:∀b∈fp,b < s.heap.objs.size)(rx:cA x p)(ry:cA y q)
  (hT:h2.get? s.heap.objs.size=some { cls:=.type "tuple",data:=.seq #[p,q] }) (hk:∀b o,b∉fp->s.heap.get? b=some o->h2.get? b=some o) :
  aL X ao σ (upd H s.heap.objs.size (.tup [x,y])) { s with heap:=h2,toks:=tk }/\∀b∈fp,upd H s.heap.objs.size (.tup [x,y]) b=none:=by
 have I2:aL X ao σ (upd H s.heap.objs.size (.tup [x,y])) { s with heap:=s.heap.push { cls:=.type "tuple",data:=.seq #[p,q] },toks:=tk }:=
  I.laid (λb v e=>ag _ e) (ap _) ⟨zsz 2,[p,q],.cons rx (.cons ry .nil),⟨_,a9 _ rfl,rfl,_,rfl⟩⟩
 have fr:∀b∈fp,upd H s.heap.objs.size (.tup [x,y]) b=none:=λb hb=>by rw[aM (ba (lt b hb))];exact(hf b hb).1
 have I3:=aL.Sw (s:={ s with heap:=s.heap.push { cls:=.type "tuple",data:=.seq #[p,q] },toks:=tk }) (h':=h2) (fp:=fp) (t':=tk) I2 (λb o hb g=>?_) λb hb=>?_
 ·exact⟨I3,fr⟩
 ·rcases Heap.get?_push_cases g with⟨z1,z2⟩ | z
  ·rw[z1,z2];exact hT
  ·exact hk b o hb z
 ·obtain⟨f0,f1,f2,f3,f4,f5⟩:=hf b hb
  exact⟨fr b hb,f1,f2,f3,f4,f5⟩
theorem XR:bootBuiltins "zip"=some (.type "zip"):=by decide +kernel
end
structure uM (B:Heap)(l:List Env)(e:Addr)(cls:Value)(dd:Option Addr)(fl:Value)(h:Heap):Prop where
 stays:B.StaysIn h
 new:B.get? e=none
 frames:h.FunFrames B l
 tr:∃oe vs T oT ts,h.get? e=some oe/\oe.cls=cls/\oe.dict=dd/\oe.data=.fields vs/\vs[1]?=some (.ref T)/\vs[2]?=some .none/\B.get? T=none/\T≠e/\h.get? T=some oT/\oT.data=.fields ts/\ts[3]?=some fl
theorem uM.outer {B h:Heap}{env:Env}{l:List Env}{e:Addr}{cls fl:Value}{dd:Option Addr}(x:uM B (env::l) e cls dd fl h):uM B l e cls dd fl h:=⟨x.stays,x.new,x.frames.2.2,x.tr⟩
theorem K9 (o:Obj)(f):(o.mapFields f).dict=o.dict:=by obtain⟨c,d,dt,sl⟩:=o;cases dt <;> rfl
section
variable {M:Model}{A:Around}{E:AB}{s:Shared}{B:Heap}{env:Env}{outer l:List Env}{L e:Addr}{oe:Obj}{vs:Array Value}{head cls fl:Value}{dd:Option Addr}{hadNext:Bool}{Q:Unit->Shared->Prop}
theorem HF (hfr:A.frames=some (env::outer))(hl:s.heap.FunFrames B (env::outer))(hf:env.frame=some L)(he:s.heap.get? e=some oe)(kb:B.StaysIn s.heap)(en:B.get? e=none)(hd:oe.data=.fields vs)(hz:1 < vs.size)(h2:vs[2]?=some .none)
  (h:∀h',uM B (env::outer) e oe.cls oe.dict (rawInt L) h'->s.heap.UpToSlots h'->Q () { s with heap:=h' }) :
  wpAny M A (do let a <- frameOf env;let pl <- entryPlaceOf L hadNext;let b <- EntryCells.newEntry head a .none (rawInt L) .none pl;setField (.ref e) 1 b) Q E s:=by
 have out:e∉(env::outer).filterMap (·.frame):=λz=>by
  obtain⟨_,u,hu,nf⟩:=hl.mem z;rw[he]at hu;cases hu;exact nf vs hd
 refine ae (wpAny_frameOf_fun hfr hl hf λg hg=>ae (wpAny_entryPlaceOf λpl hpl=>?_));unfold EntryCells.newEntry newFields;refine ae (f8 ?_ (hpl.sizeOk5 _ _ _ _ _));generalize hO:({ cls:=.type "traceback",dict:=none,data:=.fields ([head,.ref L,.none,rawInt L,.none]++(if pl.isEmpty then List.replicate 6 Value.none else pl)).toArray }:Obj)=O;have hOd:∃ts,O.data=.fields ts/\ts[3]?=some (rawInt L):=⟨_,by rw[<- hO],by first | (simp;done) | (rcases hpl with rfl | ⟨_,_,_,_,_,_,_,rfl⟩ <;> simp)⟩
 have ge:g.get? e=some oe:=(hg.2.1 e out).trans he;have gB:B.StaysIn g:=λb o q=>(hg.2.1 b λz=>by rw[(hl.mem z).1]at q;cases q).trans (kb b o q);have Te:g.objs.size≠e:=kK (ax ge);have pe:(g.push O).get? e=some oe:=ag O ge;obtain⟨ts,hts,h3⟩:=hOd;have pT:(g.push O).get? g.objs.size=some O:=a9 g (gr hts);have mv:∀b o,b≠e->g.get? b=some o->((g.push O).update e (Obj.mapFields (·.setIfInBounds 1 (Value.ref g.objs.size)))).get? b=some o:=λb o nb q=>
  (eP _ _ (f7 nb)).trans (ag O q)
 have nr:∀b o,s.heap.get? b=some o->(∀vs,o.data≠.fields vs)->b≠e:=λb o q nf z=>by
  rw[z,he]at q;cases q;exact nf vs hd
 refine iN pe hd hz (h _ ⟨λb o q=>mv b o (λz=>by rw[z,en]at q;cases q) (gB b o q),en,hl.of_keeps λb o q nf=>?_,?_⟩ λb o q nf=>?_)
 ·obtain⟨sl,z⟩:=hg.2.2 b o q
  exact⟨_,mv b _ (nr b o q nf) z,rfl⟩
 ·have dd:=io hd (·.setIfInBounds 1 (Value.ref g.objs.size))
  refine⟨_,_,g.objs.size,O,ts,fN _ pe (gr dd),mi _ _,K9 _ _,dd,by simp[hz],by rw[h8 (by decide)];exact h2,gB.fresh,Te,(eP _ _ (f7 Te)).trans pT,hts,h3⟩
 ·obtain⟨sl,z⟩:=hg.2.2 b o q
  exact⟨sl,mv b _ (nr b o q nf) z⟩
theorem tK (x:uM B l e cls dd fl s.heap)(h:∀h',uM B l e cls dd .none h'->s.heap.UpToSlots h'->Q () { s with heap:=h' }):wpAny M A (setFlight (.ref e) none) Q E s:=by
 obtain⟨st,en,fr,oe,vs,T,oT,ts,he,hc,hdd,hd,h1,h2,nT,Te,hT,hdT,h3⟩:=x;have z3:3 < ts.size:=(fw.mp h3).1;have mv:∀b,b≠T->(s.heap.update T (Obj.mapFields (·.setIfInBounds 3 ((none:Option Addr).elim Value.none λf=>rawInt f)))).get? b=s.heap.get? b:=λb nb=>eP _ _ (f7 nb);have nr:∀b o,s.heap.get? b=some o->(∀vs,o.data≠.fields vs)->b≠T:=λb o q nf z=>by
  rw[z,hT]at q;cases q;exact nf ts hdT
 unfold setFlight;refine ae (fm he hd h1 ?_);rw[if_pos (show (Value.ref T != Value.none)=true by simp)];refine iN hT hdT z3 (h _ ⟨λb o q=>(mv b λz=>by rw[z,nT]at q;cases q).trans (st b o q),en,fr.of_keeps λb o q nf=>⟨o,(mv b (nr b o q nf)).trans q,rfl⟩,?_⟩ λb o q nf=>⟨o.slots,(mv b (nr b o q nf)).trans q⟩);have d3:=io hdT (·.setIfInBounds 3 ((none:Option Addr).elim Value.none λf=>rawInt f));exact⟨oe,vs,T,_,_,(mv e (f7 Te)).trans he,hc,hdd,hd,h1,h2,nT,Te,fN _ hT (gr d3),d3,by simp[z3]⟩
theorem aaX (hfr:A.frames=some (env::outer))(hl:s.heap.FunFrames B (env::outer))(hf:env.frame=some L)(he:s.heap.get? e=some oe)(kb:B.StaysIn s.heap)(en:B.get? e=none)(hd:oe.data=.fields vs)(h1:vs[1]?=some .none)(h2:vs[2]?=some .none)
  (h:∀h',uM B (env::outer) e oe.cls oe.dict (rawInt L) h'->s.heap.UpToSlots h'->Q () { s with heap:=h' }):wpAny M A (noteFrame (.ref e) env) Q E s:=by
 unfold noteFrame;simp only[hf];refine ae (fm he hd h1 ?_);rw[if_neg (by decide)];exact HF hfr hl hf he kb en hd (fw.mp h1).1 h2 h
theorem Sx (hfr:A.frames=some (env::outer))(hf:env.frame=some L)(x:uM B (env::outer) e cls dd .none s.heap)(h:∀h',uM B (env::outer) e cls dd (rawInt L) h'->s.heap.UpToSlots h'->Q () { s with heap:=h' }):wpAny M A (noteFrame (.ref e) env) Q E s:=by
 obtain⟨st,en,fr,oe,vs,T,oT,ts,he,hc,hdd,hd,h1,h2,nT,Te,hT,hdT,h3⟩:=x;subst hc hdd;have mv:∀b,b≠T->(s.heap.update T (Obj.mapFields (·.setIfInBounds 3 Value.none))).get? b=s.heap.get? b:=λb nb=>eP _ _ (f7 nb);have nr:∀b o,s.heap.get? b=some o->(∀vs,o.data≠.fields vs)->b≠T:=λb o q nf z=>by
  rw[z,hT]at q;cases q;exact nf ts hdT
 unfold noteFrame;simp only[hf];refine ae (fm he hd h1 ?_);rw[if_pos (show (Value.ref T != Value.none)=true by simp)];refine ae (fm hT hdT h3 ?_);rw[if_neg (show ¬((Value.none==rawInt L)=true) by simp[rawInt])];refine ae (iN hT hdT (fw.mp h3).1 ?_);refine HF hfr (fr.of_keeps λb o q nf=>⟨o,(mv b (nr b o q nf)).trans q,rfl⟩) hf ((mv e (f7 Te)).trans he) (λb o q=>(mv b λz=>by rw[z,nT]at q;cases q).trans (st b o q)) en hd (fw.mp h1).1 h2
  λh' y k=>h h' y λb o q nf=>k b o ((mv b (nr b o q nf)).trans q) nf
theorem leave_new (hfr:A.frames=some (env::outer))(hl:s.heap.FunFrames B (env::outer))(hf:env.frame=some L)(he:s.heap.get? e=some oe)(kb:B.StaysIn s.heap)(en:B.get? e=none)(hd:oe.data=.fields vs)(h1:vs[1]?=some .none)(h2:vs[2]?=some .none)
  (h:∀h',uM B outer e oe.cls oe.dict .none h'->s.heap.UpToSlots h'->Q () { s with heap:=h' }):wpAny M A (leaving env (.ref e)) Q E s:=by
 unfold leaving;exact ae (aaX hfr hl hf he kb en hd h1 h2 λh1 x k=>tK x λh2 y k2=>h h2 y.outer (k.trans k2))
theorem aaY (hfr:A.frames=some (env::outer))(hf:env.frame=some L)(x:uM B (env::outer) e cls dd .none s.heap)(h:∀h',uM B outer e cls dd .none h'->s.heap.UpToSlots h'->Q () { s with heap:=h' }):wpAny M A (leaving env (.ref e)) Q E s:=by
 unfold leaving;exact ae (Sx hfr hf x λh1 x k=>tK x λh2 y k2=>h h2 y.outer (k.trans k2))
end
theorem dH.there {P:Program}{w:World}{H:Hp}{h:Heap}{a:Addr}{o:HO}(x:dH P w H h a o):∃u,h.get? a=some u:=by
 cases o with
 | lst xs=>obtain⟨_,_,_,_,e⟩:=x;exact⟨_,e⟩
 | tup xs=>obtain⟨_,_,_,_,e,_⟩:=x;exact⟨_,e⟩
 | dK kvs=>obtain⟨_,_,_,_,o,_,_,e,_⟩:=x;exact⟨_,e⟩
 | dT kvs=>obtain⟨_,_,_,_,o,_,_,e,_⟩:=x;exact⟨_,e⟩
 | set S n=>obtain⟨o,_,_,_,e,_⟩:=x;exact⟨_,e⟩
 | ins C dx fs=>obtain⟨_,_,_,e,_⟩:=x;exact⟨_,e⟩
 | own y=>exact x
 | xd fs=>obtain⟨_,⟨_,_,_,e,_⟩,_⟩:=x;exact⟨_,e⟩
 | rng lo hi=>obtain⟨_,_,_,e⟩:=x;exact⟨_,e⟩
 | nC ob u=>obtain⟨e,_⟩:=x;exact⟨_,e⟩
 | Ks ps=>exact⟨_,(show h.get? a=some _ from x)⟩
 | met f y=>exact⟨_,(show h.get? a=some _ from x)⟩
 | ext φ=>obtain⟨_,e,_⟩:=x;exact e
structure XS (P:Program)(w:World)(outer:List Env)(H:Hp)(s:Shared)(a:Addr)(cls:Value)(dd:Option Addr)(H':Hp)(s':Shared)(B:Heap):Prop where
 os:s'.os=s.os
 bare:AllBare s'.gens
 un:Un (frs outer) [] H H' s.heap s'.heap
 hok:jh P w H' s'.heap
 fly:uM B outer a cls dd .none s'.heap
 na:H' a=none
 Ku:∀b u,H' b=some u->∃o,B.get? b=some o
 kp:∀b o,s.heap.get? b=some o->b∉frs outer->H b=none->B.get? b=some o
 th:∀b o,s.heap.get? b=some o->b∉frs outer->∃o',B.get? b=some o'
def Bv (P:Program)(w:World):nH:=λouter H s E e s'=>∃(a:Addr) (cls:Value) (dd:Option Addr) (H':Hp) (B:Heap),e=.ref a/\XS P w outer H s a cls dd H' s' B/\E cls dd H'
section
variable {X:Cx}{ao:AC}{σ:St}{H1 H':Hp}{s1 s2:Shared}{e:Addr}{oe:Obj}{vs:Array Value}{Q:Unit->Shared->Prop}{E:AB}{cls:Value}{dd:Option Addr}{B:Heap}
theorem aL.HJ (I:aL X ao σ H1 s1){b:Addr}{o:Obj}(q:X.s₀.heap.get? b=some o)(nb:b∉frs X.outer):b∉frs X.stack:=λz=>by
 rcases bo.mp (I.xR b z) with z | z
 ·exact absurd (b9 (ax q) I.ok.above) (by rw[z];exact dP _)
 ·exact nb z
theorem aL.aaZ (I:aL X ao σ H1 s1){b:Addr}(z:b∈frs X.outer):b∈frs X.stack:=by
 rcases I.ok.stk with e | ⟨e,hf⟩
 ·rw[e];exact z
 ·rw[e];unfold frs;rw[i7,hf];exact a_ _ z
theorem aL.raised (I:aL X ao σ H1 s1)(hst:X.stack=X.env::X.outer)(hf:X.env.frame=some X.env.locals)(hex:X.ex=[])(he:s1.heap.get? e=some oe)(hd:oe.data=.fields vs)(h1:vs[1]?=some .none)(h2:vs[2]?=some .none)(ne:H1 e=none)
  (en:∀b o,X.s₀.heap.get? b=some o->b≠e) (q:∀s2 B,XS X.prog X.w X.outer X.H₀ X.s₀ e oe.cls oe.dict H1 s2 B->Q () s2):wpAny (model X.prog X.w) X.A (leaving X.env (.ref e)) Q E s1:=by
 have hfr:X.A.frames=some (X.env::X.outer):=by rw[<- hst];exact I.ok.frames
 have hl:s1.heap.FunFrames (hideAll s1.heap (e::frs X.stack)) (X.env::X.outer):=by
  rw[<- hst];exact funFrames_hide I.stack λenv he b hb=>a_ _ (lv.mpr ⟨env,he,hb⟩)
 have sU:∀b:Addr,b∉X.ex:=λb=>by rw[hex];simp
 refine leave_new hfr hl hf he (λb o z=>of_hideAll _ z) (hideAll_none _ (.head _)) hd h1 h2 λh' x k=>q _ (hideAll s1.heap (e::frs X.stack)) ?_;have kB:∀b o,s1.heap.get? b=some o->b≠e->b∉frs X.stack->(hideAll s1.heap (e::frs X.stack)).get? b=some o:=λb o z n1 n2=>hideAll_get _ z λm=>by
  rcases bo.mp m with m | m
  ·exact n1 m
  ·exact n2 m
 have kF:∀b o,s1.heap.get? b=some o->b∈frs X.stack->∃sl,h'.get? b=some { o with slots:=sl }:=λb o z m=>by
  obtain⟨_,u,hu,nf⟩:=I.stack.mem m;rw[z]at hu;cases hu;exact k b _ z nf
 have kT:∀b u,H1 b=some u->∀o,s1.heap.get? b=some o->(hideAll s1.heap (e::frs X.stack)).get? b=some o:=λb u t o z=>kB b o z (λm=>by rw[m,ne]at t;cases t) λm=>by rw[I.qg b m]at t;cases t
 refine⟨I.os,I.bare,⟨λb o z n hb _=>?_,λb o z n hb _=>?_,λb o z n _=>I.base.free b o z n (sU b),λb o z _=>?_,I.base.tups,I.base.lG,I.base.lV⟩,λb o t=>?_,x,ne,λb u t=>?_,λb o z hb n=>?_,λb o z hb=>?_⟩
 ·exact x.stays b o (kB b o (I.base.keep b o z n hb (sU b)) (en b o z) (I.HJ z hb))
 ·obtain⟨sl,e1⟩:=I.base.slot b o z n hb (sU b)
  obtain⟨sl2,e2⟩:=kF b _ e1 (I.aaZ hb);exact⟨sl2,e2⟩
 ·obtain⟨o1,e1⟩:=I.base.there b o z (sU b)
  by_cases m:b∈frs X.stack
  ·obtain⟨sl2,e2⟩:=kF b _ e1 m
   exact⟨_,e2⟩
  ·exact⟨o1,x.stays b o1 (kB b o1 e1 (en b o z) m)⟩
 ·refine(I.hok b o t).stay (λc u hc z=>x.stays c u ?_) (λ_ r=>r) λ_ _ r=>r
  rcases hc with rfl | hc
  ·exact kT c _ t u z
  ·exact kT c _ hc u z
 ·obtain⟨o,z⟩:=(I.hok b u t).there
  exact⟨o,kT b u t o z⟩
 ·exact kB b o (I.base.keep b o z n hb (sU b)) (en b o z) (I.HJ z hb)
 ·obtain⟨o1,e1⟩:=I.base.there b o z (sU b)
  exact⟨o1,kB b o1 e1 (en b o z) (I.HJ z hb)⟩
theorem aL.passed (I:aL X ao σ H1 s1)(hst:X.stack=X.env::X.outer)(hf:X.env.frame=some X.env.locals)(hex:X.ex=[])(x:XS X.prog X.w X.stack H1 s1 e cls dd H' s2 B)
  (q:∀s3,XS X.prog X.w X.outer X.H₀ X.s₀ e cls dd H' s3 B->Q () s3):wpAny (model X.prog X.w) X.A (leaving X.env (.ref e)) Q E s2:=by
 have hfr:X.A.frames=some (X.env::X.outer):=by rw[<- hst];exact I.ok.frames
 have sU:∀b:Addr,b∉X.ex:=λb=>by rw[hex];simp
 have n0:∀b:Addr,b∉([]:List Addr):=λb=>by simp
 refine aaY hfr hf (by rw[<- hst];exact x.fly) λh' y k=>q _ ?_;have kp:∀b o,X.s₀.heap.get? b=some o->b∉frs X.outer->X.H₀ b=none->B.get? b=some o:=λb o z hb n=>x.kp b o (I.base.keep b o z n hb (sU b)) (I.HJ z hb) (I.base.free b o z n (sU b));have th:∀b o,X.s₀.heap.get? b=some o->b∉frs X.outer->∃o',B.get? b=some o':=λb o z hb=>by
  obtain⟨o1,e1⟩:=I.base.there b o z (sU b);exact x.th b o1 e1 (I.HJ z hb)
 have kF:∀b o,X.s₀.heap.get? b=some o->b∈frs X.outer->∃sl,h'.get? b=some { o with slots:=sl }:=λb o z m=>by
  obtain⟨sl,e1⟩:=I.base.slot b o z (I.ok.Bc b m) m (sU b);obtain⟨sl2,e2⟩:=x.un.slot b _ e1 (I.qg b (I.aaZ m)) (I.aaZ m) (n0 b);obtain⟨_,u,hu,nf⟩:=I.ok.ni.mem m;rw[z]at hu;cases hu;obtain⟨X3,e3⟩:=k b _ e2 nf;exact⟨X3,e3⟩
 refine⟨x.os.trans I.os,x.bare,⟨λb o z n hb _=>y.stays b o (kp b o z hb n),λb o z n hb _=>kF b o z hb,λb o z n _=>?_,λb o z _=>?_,λb xs t=>x.un.tups b xs (I.base.tups b xs t),λb o u t=>x.un.lG b o u (I.base.lG b o u t),λb ps t=>?_⟩,λb o t=>?_,y,x.na,x.Ku,kp,th⟩
 ·obtain⟨o1,e1⟩:=I.base.there b o z (sU b)
  exact x.un.free b o1 e1 (I.base.free b o z n (sU b)) (n0 b)
 ·by_cases m:b∈frs X.outer
  ·obtain⟨sl,e3⟩:=kF b o z m
   exact⟨_,e3⟩
  ·obtain⟨o',e1⟩:=th b o z m
   exact⟨o',y.stays b o' e1⟩
 ·obtain⟨m1,e1⟩:=I.base.lV b ps t
  obtain⟨m2,e2⟩:=x.un.lV b _ e1;exact⟨m1++m2,by rw[e2,Array.append_assoc]⟩
 ·refine(x.hok b o t).stay (λc u hc z=>?_) (λ_ r=>r) λ_ _ r=>r
  have:∃v,H' c=some v:=by
   rcases hc with rfl | hc
   ·exact⟨_,t⟩
   ·exact⟨_,hc⟩
  obtain⟨v,hv⟩:=this;obtain⟨o',hB⟩:=x.Ku c v hv;have:=x.fly.stays c o' hB;rw[z]at this;cases this;exact y.stays c u hB
end
def Lets (X:Cx)(E:XK):Prop:=∀(ao:AC) (σ:St) (H:Hp) (s:Shared) (e:Addr) (oe:Obj) (vs:Array Value),aL X ao σ H s->s.heap.get? e=some oe->oe.data=.fields vs->vs[1]?=some .none->vs[2]?=some .none->H e=none->
 (∀b o,X.s₀.heap.get? b=some o->b≠e)->E oe.cls oe.dict H->X.xe (.ref e) s
section
variable {P:Program}{w:World}{K:W.Frag}{mg:Str->Option Value}{base:Heap}{N:List Str}{qual:Str}{scope:Scope}{f:Addr}{cd:Value}{A:Around}{outer:List Env}{s:Shared}{H:Hp}{E:XK}
theorem oU:Lets (ql (Bv P w) P w K mg base N qual scope f cd A outer s H E) E:=λao σ H1 s1 e oe vs I he hd h1 h2 ne en q=>
 I.raised rfl rfl rfl he hd h1 h2 ne en λs2 B x=>⟨e,_,_,_,B,rfl,x,q⟩
theorem uo:Passes (Bv P w) (ql (Bv P w) P w K mg base N qual scope f cd A outer s H E) E:=λao σ H1 s1 e s2 I ⟨a,cls,dd,H',B,z,x,q⟩=>by
 subst z;exact I.passed rfl rfl rfl x λs3 y=>⟨a,cls,dd,H',B,rfl,y,q⟩
end
structure DefX (P:Program)(w:World)(K:W.Frag)(mg:Str->Option Value)(base:Heap)(name:Str)(k:Nat)(ps:List Str)(sp:Sp):Prop where
 ex:∃f fd,cM P w K mg base (Bv P w) k f fd ps sp/\cJ K fd ps []/\mg name=some (.ref f)/\W.keepIn K (.ref f)=true
theorem gQ.yS {P:Program}{w:World}{K:W.Frag}{mg:Str->Option Value}{base:Heap}{x qual:Str}{st:Stmt}{f:Addr}{fd:FuncData}{N ps:List Str}{k:Nat}{sp:Sp}(F:gQ K x qual st f fd)(S:aZ N ps (aJ st))(len:∀vs H Q E,sp vs H Q E->vs.length=ps.length)
  (hbody:∀(bL:Value) (A:Around) (outer:List Env) (s:Shared) (H:Hp) (vs:List V) (Q:VK) (E:XK),d7 k (A.deeper (envOfC qual (aJ st) s.heap.objs.size f bL))->sp vs H Q E->
   ∃t,rC (ql (Bv P w) P w K mg base N qual (aJ st) f bL A outer s H E) (dw st) t/\t { nx:=λ_ H'=>Q .non H',rt:=Q } (start N vs) H):cM P w K mg base (Bv P w) (k+1) f fd ps sp:=by
 obtain⟨oc,od,kV,doc,pm,an,bL,ct,osl,rfl,lk,hcd⟩:=F.ex;refine acr lk hcd S len λA outer s H vs Q E hr hsp=>?_;obtain⟨t,h,q⟩:=hbody bL A outer s H vs Q E hr hsp;exact⟨t,h.out,q⟩
theorem aK.yS {P:Program}{w:World}{K:W.Frag}{mg:Str->Option Value}{base:Heap}{name:Str}{st:Stmt}{N ps:List Str}{k:Nat}{sp:Sp}(D:aK K mg name st ps)(S:aZ N ps (aJ st))(len:∀vs H Q E,sp vs H Q E->vs.length=ps.length)
  (hbody:∀(f:Addr) (bL:Value) (A:Around) (outer:List Env) (s:Shared) (H:Hp) (vs:List V) (Q:VK) (E:XK),d7 k (A.deeper (envOfC name (aJ st) s.heap.objs.size f bL))->sp vs H Q E->
   ∃t,rC (ql (Bv P w) P w K mg base N name (aJ st) f bL A outer s H E) (dw st) t/\t { nx:=λ_ H'=>Q .non H',rt:=Q } (start N vs) H):DefX P w K mg base name (k+1) ps sp:=by
 obtain⟨f,fd,F,b,g⟩:=D.ex;exact⟨f,fd,F.yS S len (hbody f),b,g,F.kp⟩
def yd (CX:nH)(X:Cx)(E:XK)(S:St->Prop):Prop:=∀(ao:AC) (σ:St) (H:Hp) (s:Shared) (e:Value) (s':Shared),aL X ao σ H s->S σ->CX X.stack H s E e s'->X.xe e s'
theorem Passes.all {CX:nH}{X:Cx}{E:XK}(h:Passes CX X E):yd CX X E λ_=>True:=λao σ H s e s' I _ q=>h ao σ H s e s' I q
def afX (sp:Sp)(E:XK)(S:St->Prop)(t:TA):TE:=λσ H Q=>S σ/\t σ H λvs H1=>sp vs H1 Q E
section
variable {X:Cx}{k:Nat}{f:Addr}{fd:FuncData}{ps:List Str}{sp:Sp}{E:XK}{S:St->Prop}{x:Str}{p pos:Pos}{e:Expr}{es:List Expr}{t:TA}
theorem qw (D:DefX X.prog X.w X.K X.mg X.base x k ps sp)(hr:d7 k X.A)(hg:Gl X x)(hx:yd (Bv X.prog X.w) X E S)(ha:QA X (e::es) t)(hdb:(x==("__debug__":Str))=false:=by decide)
  (hs:starEach (e::es) X.env=(false,eval e X.env)::starEach es X.env:=by rfl) (hpl:(backTo pos (starEach es X.env)).any (·.1)=false:=by rfl) :
  QE X (.Call (.Name x p) (e::es) [] pos) (afX sp E S t):=⟨by
 obtain⟨f,fd,F,hb,hm,hk⟩:=D.ex;intro ao s σ H Q I h;obtain⟨hS,h⟩:=h;refine gg (oJ I hg hm ?_ hdb);refine ie (h₀:=X.base) I.ok.mod.Hg hk (bR (ha.out pos ao s σ H _ I h) λus s1 ⟨vs,H1,I1,r,q⟩=>⟨I1.gO,?_⟩) hs hpl;have hl:us.length=ps.length:=by rw[<- r.length];exact F.len _ _ _ _ q
 have hB:=hb s1 us I1.gO (by rw[fh];exact hl);rw[fh]at hB;refine ic (ja (F.run X.A X.stack s1 H1 ⟨us,[]⟩ us vs Q E hr I1.env0 hB r q) λr s' hq=>?_);cases r with
 | error e=>exact hx ao σ H1 s1 e s' I1 hS hq
 | ok fl=>
  cases fl with
  | ret u=>exact I1.after hq
  | next=>exact False.elim hq
  | brk=>exact False.elim hq
  | cont=>exact False.elim hq⟩
end
theorem adD {K:W.Frag}{h:Heap}{C:Addr}{bmB:List Value}{newId:String}(X:K.In h)(q:excIn K C bmB newId=true) :
  ∃bm N nm q bs hdct sn sub ab col dd k0 k1 k2 k3 k5 mN,h.get? C=some (excClassObj nm q C N bs bm hdct sn sub ab col dd k0 k1 k2 k3 k5 newId)/\h.Ns N mN/\mN "__init__"=none/\OwnTail h bmB bm:=by
 unfold excIn at q
 split at q
 ·next dd cd sl ho=>
  split at q
  ·next C' bm k0 k1 k2 k3 n k5 hm hs=>
   simp only[cw,beq_iff_eq,Bool.not_eq_true']at q;obtain⟨⟨⟨⟨⟨e1,e2⟩,hdel⟩,ht⟩,hok⟩,hni⟩:=q;subst e1 e2;obtain⟨nm,bs,mro,ns,qn,hd,sn,sub,ab,col,del⟩:=cd;dsimp only at hm hdel hok hni;subst hm hdel;have hsl:sl=#[k0,k1,k2,k3,some (.builtin n),k5]:=by cases sl;simp only at hs;rw[hs]
   subst hsl;exact⟨bm,ns,nm,qn,bs,hd,sn,sub,ab,col,dd,k0,k1,k2,k3,k5,_,X _ _ ho,.of_isNs (isNs_of_in X hok),nsMap_none_of_in X hok hni,tail_of_in X ht⟩
  ·cases q
 ·cases q
abbrev jc:List Value:=[.type "ValueError",.type "Exception",.type "BaseException",.type "object"]
def afY (C:Addr)(E:XK)(t:TA):TS:=λ_ σ H=>t σ H λvs H1=>vs.length<=sizeLine/\E (.ref C) none H1
section
variable {X:Cx}{C:Addr}{E:XK}{x:Str}{np cpos pos:Pos}{e:Expr}{es:List Expr}{t:TA}
theorem FZ (hl:Lets X E)(hc:X.calm=true)(hex:X.ex=[])(hg:Gl X x)(hm:X.mg x=some (.ref C))(hC:excIn X.K C jc "ValueError.__new__"=true)(ha:QA X (e::es) t)(hdb:(x==("__debug__":Str))=false:=by decide)
  (hs:starEach (e::es) X.env=(false,eval e X.env)::starEach es X.env:=by rfl) (hpl:(backTo cpos (starEach es X.env)).any (·.1)=false:=by rfl) :
  QS X (.Raise (some (.Call (.Name x np) (e::es) [] cpos)) none pos) (afY C E t):=⟨by
 intro ao s σ H D I h;obtain⟨tl,N,nm,q,bs,hdct,sn,sub,ab,col,dd,k0,k1,k2,k3,k5,mN,cC,cN,cni,T⟩:=adD I.ok.mod.Hg hC;have ar:=ha.out cpos ao s σ H _ I h;rw[hs]at ar;refine wpAny_Raise_call_subT (C:=C) (nm:=nm) (q:=q) (N:=N) (bs:=bs) (bm:=tl) (hdct:=hdct) (sn:=sn) (sub:=sub) (ab:=ab) (col:=col) (dd:=dd) (k0:=k0) (k1:=k1) (k2:=k2) (k3:=k3) (k5:=k5) fz (mN:=mN)
  (T.hasType fz.hasBase) (I.ok.hd hc) (by rw[hs];show (false||(backTo cpos (starEach es X.env)).any (·.1))=false;rw[hpl];rfl) cni (oJ I hg hm ⟨rfl,?_⟩ hdb)
 rw[hs];refine Calls.evalArgs_plain (dA ar (λus s2 z=>?_) λ_ _ y=>y);obtain⟨vs,H1,I1,r,hv,hE⟩:=z;refine⟨rfl,by rw[<- r.length];exact hv,I1.bk _ _ cC,cN.keeps I1.bk,T.keeps I1.bk,λh' a hx=>?_⟩;obtain⟨tt,ha1,_,_⟩:=hx.there;refine hl ao σ H1 _ a _ _ (I1.kept (t':=s2.toks) hx.keeps) ha1 rfl rfl rfl ?_ (λb o z y=>?_) hE
 ·cases z:H1 a with
  | none=>rfl
  | some u=>
   obtain⟨o,ho⟩:=(I1.hok a u z).there;rw[hx.new]at ho;cases ho
 ·obtain⟨o',ho⟩:=I1.base.there b o z (by rw[hex];simp)
  rw[y,hx.new]at ho;cases ho⟩
end
def uN (a:Addr)(cls:Value)(dd:Option Addr):Heap->Prop:=λh=>∃oe vs,h.get? a=some oe/\oe.cls=cls/\oe.dict=dd/\oe.data=.fields vs/\vs[2]?=some .none
section
variable {X:Cx}{ao:AC}{σ:St}{H H':Hp}{s s':Shared}{a:Addr}{cls fl:Value}{dd:Option Addr}{B h3:Heap}
theorem aL.caught (I:aL X ao σ H s)(x:XS X.prog X.w X.stack H s a cls dd H' s' B)(y:uM B X.stack a cls dd fl h3)(k:s'.heap.UpToSlots h3):aL X ao σ (upd H' a (.ext (uN a cls dd))) { s' with heap:=h3 }:=by
 have n0:∀b:Addr,b∉([]:List Addr):=λb=>by simp
 obtain⟨oe,vs,T,oT,ts,he,hc,hdd,hd,_,h2,_⟩:=y.tr;have kF:∀b o,s.heap.get? b=some o->b∈frs X.stack->(∃sl,h3.get? b=some { o with slots:=sl })/\∀vs,o.data≠.fields vs:=λb o z m=>by
  obtain⟨_,u,hu,nf⟩:=I.stack.mem m;rw[z]at hu;cases hu;obtain⟨sl2,e2⟩:=x.un.slot b _ z (I.qg b m) m (n0 b);obtain⟨X3,e3⟩:=k b _ e2 nf;exact⟨⟨X3,e3⟩,nf⟩
 have na:∀b o,s.heap.get? b=some o->b≠a:=λb o z m=>by
  by_cases hb:b∈frs X.stack
  ·obtain⟨⟨sl,e3⟩,nf⟩:=kF b o z hb
   rw[m,he]at e3;cases e3;exact nf vs hd
  ·obtain⟨o',e'⟩:=x.th b o z hb
   rw[m,y.new]at e';cases e'
 have nt:∀b u,H' b=some u->b≠a:=λb u z m=>by rw[m,x.na]at z;cases z
 have kT:∀c u v,H' c=some v->s'.heap.get? c=some u->h3.get? c=some u:=λc u v t z=>by
  obtain⟨o',hB⟩:=x.Ku c v t;have:=x.fly.stays c o' hB;rw[z]at this;cases this;exact y.stays c u hB
 refine I.call' (s':={ s' with heap:=h3 }) (ch:=[]) x.os ⟨λb o z n hb _=>y.stays b o (x.kp b o z hb n),λb o z n hb _=>(kF b o z hb).1,λb o z n _=>?_,λb o z _=>?_,λb xs t=>?_,λb o u t=>?_,λb ps t=>?_⟩ (λb o t=>?_) x.bare λb z=>absurd z (by simp)
 ·rw[aM (na b o z)]
  exact x.un.free b o z n (n0 b)
 ·by_cases m:b∈frs X.stack
  ·obtain⟨⟨sl,e3⟩,_⟩:=kF b o z m
   exact⟨_,e3⟩
  ·obtain⟨o',e1⟩:=x.th b o z m
   exact⟨o',y.stays b o' e1⟩
 ·have t':=x.un.tups b xs t
  rw[aM (nt b _ t')];exact t'
 ·have t':=x.un.lG b o u t
  rw[aM (nt b _ t')];exact t'
 ·obtain⟨more,t'⟩:=x.un.lV b ps t
  exact⟨more,by rw[aM (nt b _ t')];exact t'⟩
 ·by_cases hb:b=a
  ·subst hb
   rw[au]at t;cases t;exact⟨⟨oe,vs,he,hc,hdd,hd,h2⟩,⟨oe,he⟩,λh h' ⟨oe,vs,e1,e2,e3,e4⟩ q=>⟨oe,vs,q oe e1,e2,e3,e4⟩⟩
  ·rw[aM hb]at t
   refine(x.hok b o t).stay (λc u hc z=>?_) (λc r=>by rw[aM (nt c _ r)];exact r) λc xs r=>by rw[aM (nt c _ r)];exact r
   rcases hc with rfl | hc
   ·exact kT c u _ t z
   ·exact kT c u _ hc z
theorem aL.unbound {i:Nat}{n:Str}{m:Str->Option Value}{v:Option Value}{h':Heap}(I:aL X ao σ H s)(hN:X.N.Nodup)(hi:X.N[i]?=some n)(hk:X.env.kindOf n=some .local)
  (hm:s.heap.Ns X.env.locals m) (hn:h'.Ns X.env.locals (λy=>if y=n then v else m y)) (hs:Heap.SameBut X.env.locals s.heap h'):aL X ao (σ.set i none) H { s with heap:=h',toks:=s.toks+1 }:=by
 have ab:∀b o,X.s₀.heap.get? b=some o->b≠X.env.locals:=λb o e=>ba (b9 (ax e) I.ok.above);obtain⟨m1,hm1,hl⟩:=I.loc;have em:m1=m:=by
  obtain⟨o1,es1,ep1,g1,d1,_,f1⟩:=hm1;obtain⟨o2,es2,ep2,g2,d2,_,f2⟩:=hm;rw[g1]at g2;cases g2;rw[d1]at d2;cases d2;funext y;rw[<- f1 y,<- f2 y]
 subst em;refine⟨I.ok,I.os,I.bare,⟨λb o e n hb hx=>(hs.2 b (ab b o e)).trans (I.base.keep b o e n hb hx),λb o e n hb hx=>?_,I.base.free,λb o e hx=>?_,I.base.tups,I.base.lG,I.base.lV⟩,⟨_,hn,λj y v' e1 e2 e3=>?_⟩,λy c e=>?_,I.free,I.ju,λp hp=>?_,λb ob e=>?_,by simpa using I.len⟩
 ·obtain⟨sl,e1⟩:=I.base.slot b o e n hb hx
  exact⟨sl,(hs.2 b (ab b o e)).trans e1⟩
 ·obtain⟨o',e1⟩:=I.base.there b o e hx
  exact⟨o',(hs.2 b (ab b o e)).trans e1⟩
 ·have hj:j≠i:=λz=>by
   subst z;rw[List.getElem?_set]at e2;simp only[if_true]at e2
   split at e2 <;> simp at e2
  rw[dS (f7 hj)]at e2;obtain⟨u,r,l⟩:=hl j y v' e1 e2 e3;refine⟨u,r,?_⟩;have yn:y≠n:=λz=>hj (Fy hN e1 (z ▸ hi));rcases l with⟨a1,a2⟩ | ⟨a1,c,a2,a3⟩
  ·exact .inl ⟨a1,by simp[yn,a2]⟩
  ·exact .inr ⟨a1,c,a2,a3.sameBut hs (I.Hh y c a2)⟩
 ·obtain⟨w',z⟩:=I.cell y c e
  exact⟨w',z.sameBut hs (I.Hh y c e)⟩
 ·obtain⟨e,n,ne,nf,d⟩:=I.pin p hp
  exact⟨(hs.2 p.1 ne).trans e,n,ne,nf,d⟩
 ·refine(I.hok b ob e).stay (λc w' hc q=>(hs.2 c ?_).trans q) (λ_ q=>q) λ_ _ q=>q
  rintro rfl;rcases hc with rfl | hc
  ·rw[I.free]at e;cases e
  ·rw[I.free]at hc;cases hc
end
abbrev Cx.tried (X:Cx)(pn:AC)(xe:AB):Cx:={ X with pn:=pn,xe:=xe }
abbrev Cx.held (X:Cx)(a:Addr):Cx:={ X with A:=X.A.mark (some (.ref a)),calm:=false,xe:=λ_ _=>False }
section
variable {X:Cx}{ao DX pn:AC}{σ:St}{H:Hp}{s:Shared}{xe:AB}{a:Addr}
theorem aL.tried (I:aL X ao σ H s)(xe:AB):aL (X.tried (X.pn++ao) xe) [] σ H s:=
 ⟨⟨I.ok.mod,I.ok.kind,I.ok.glob,I.ok.blt,I.ok.above,I.ok.inj,I.ok.has,I.ok.cab,I.ok.hd,I.ok.frames,I.ok.stk,I.ok.Wv,I.ok.bs,I.ok.sE,I.ok.wO,I.ok.Fx,I.ok.ni,I.ok.Bc⟩,I.os,I.bare,I.base,I.loc,I.cell,I.free,I.ju,λp hp=>I.pin p (by simpa using hp),I.hok,I.len⟩
theorem aL.qx (I:aL (X.tried (X.pn++ao) xe) DX σ H s):aL X ao σ H s:=
 ⟨⟨I.ok.mod,I.ok.kind,I.ok.glob,I.ok.blt,I.ok.above,I.ok.inj,I.ok.has,I.ok.cab,I.ok.hd,I.ok.frames,I.ok.stk,I.ok.Wv,I.ok.bs,I.ok.sE,I.ok.wO,I.ok.Fx,I.ok.ni,I.ok.Bc⟩,I.os,I.bare,I.base,I.loc,I.cell,I.free,I.ju,λp hp=>I.pin p (kG _ hp),I.hok,I.len⟩
theorem SP.qx {D:Ends}{f:Flow}(h:SP (X.tried (X.pn++ao) xe) DX D f s):SP X ao D f s:=by
 cases f with
 | next=>obtain⟨σ',H',I,q⟩:=h;exact⟨σ',H',I.qx,q⟩
 | brk=>obtain⟨σ',H',I,q⟩:=h;exact⟨σ',H',I.qx,q⟩
 | cont=>obtain⟨σ',H',I,q⟩:=h;exact⟨σ',H',I.qx,q⟩
 | ret u=>obtain⟨v,σ',H',I,r,q⟩:=h;exact⟨v,σ',H',I.qx,r,q⟩
theorem aL.held (I:aL X ao σ H s)(a:Addr):aL (X.held a) ao σ H s:=
 ⟨⟨I.ok.mod,I.ok.kind,I.ok.glob,I.ok.blt,I.ok.above,I.ok.inj,I.ok.has,I.ok.cab,(λz=>nomatch z),I.ok.frames,I.ok.stk,I.ok.Wv,I.ok.bs,I.ok.sE,I.ok.wO,I.ok.Fx,I.ok.ni,I.ok.Bc⟩,I.os,I.bare,I.base,I.loc,I.cell,I.free,I.ju,I.pin,I.hok,I.len⟩
theorem aL.afZ (I:aL (X.held a) ao σ H s)(ok:X.Ok):aL X ao σ H s:=⟨ok,I.os,I.bare,I.base,I.loc,I.cell,I.free,I.ju,I.pin,I.hok,I.len⟩
end
noncomputable def unb (i:Nat)(D:Ends):Ends:={ nx:=λσ H=>D.nx (σ.set i none) H,rt:=D.rt,bk:=λσ H=>D.bk (σ.set i none) H,ct:=λσ H=>D.ct (σ.set i none) H }
def ahX (K:W.Frag)(C:Addr)(i:Nat)(tb:XK->St->TS)(th:TS):TS:=λD σ H=>∃E:XK,tb E σ D σ H/\∀(a:Addr) (cls:Value) (dd:Option Addr) (H':Hp),E cls dd H'->H' a=none->
 exmOne K cls (.ref C)=some true/\th (unb i D) (σ.set i (some (.ref a))) (upd H' a (.ext (uN a cls dd)))
def ahp (K:W.Frag)(C:Addr)(i:Nat)(tb:XK->St->TS)(th:Addr->TS):TS:=λD σ H=>∃E:XK,tb E σ D σ H/\∀(a:Addr) (cls:Value) (dd:Option Addr) (H':Hp),E cls dd H'->H' a=none->
 exmOne K cls (.ref C)=some true/\th a (unb i D) (σ.set i (some (.ref a))) (upd H' a (.ext (uN a cls dd)))
section
variable {X:Cx}{C:Addr}{x n:Str}{np hpos pos:Pos}{body suite:List Stmt}{b0:Stmt}{i:Nat}{tb:XK->St->TS}{th:TS}{thA:Addr->TS}
theorem adE (hst:X.stack=X.env::X.outer)(hf:X.env.frame=some X.env.locals)(hg:Gl X x)(hm:X.mg x=some (.ref C))(hN:X.N.Nodup)(hi:X.N[i]?=some n)(hk:X.env.scope.names.lookup n=some .local)
  (hb:∀(pn:AC) (xe:AB) (E:XK) (σ0:St),PassesOwn (model X.prog X.w) X.A X.env xe->yd (Bv X.prog X.w) (X.tried pn xe) E (·=σ0)->rC (X.tried pn xe) body (tb E σ0))
  (hh:∀a,rC (X.held a) (b0::suite) (thA a)) (hdb:(x==("__debug__":Str))=false:=by decide) :
  QS X (.Try body [.ExceptHandler (some (.Name x np)) (some n) (b0::suite) hpos] [] [] pos) (ahp X.K C i tb thA):=⟨by
 intro ao s σ H D I h;obtain⟨E,hbody,af0⟩:=h;have hp:PassesOwn (model X.prog X.w) X.A X.env (λe s₁=>wpAny (model X.prog X.w) X.A (noteFrame e X.env) (λ_ s₂=>wpAny (model X.prog X.w) X.A (setFlight e none) (λ_ s₃=>wpAny (model X.prog X.w) X.A (handleBy e X.env [.ExceptHandler (some (.Name x np)) (some n) (b0::suite) hpos]) (SP X ao D) X.xe s₃) X.xe s₂) X.xe s₁):=PassesOwn.looking;have hP:yd (Bv X.prog X.w) (X.tried (X.pn++ao) (λe s₁=>wpAny (model X.prog X.w) X.A (noteFrame e X.env) (λ_ s₂=>wpAny (model X.prog X.w) X.A (setFlight e none) (λ_ s₃=>wpAny (model X.prog X.w) X.A (handleBy e X.env [.ExceptHandler (some (.Name x np)) (some n) (b0::suite) hpos]) (SP X ao D) X.xe s₃) X.xe s₂) X.xe s₁)) E (·=σ):=by
  intro DX σ' H1 s1 e s2 I1 hσ hq;obtain⟨a,cls,dd,H',B,ea,ex,q⟩:=hq;subst ea;have J:=I1.qx;have hσ:σ'=σ:=hσ;subst hσ;have fl:uM B (X.env::X.outer) a cls dd .none s2.heap:=by rw[<- hst];exact ex.fly
  have hfr:X.A.frames=some (X.env::X.outer):=by rw[<- hst];exact J.ok.frames
  obtain⟨hmt,hsu⟩:=af0 a cls dd H' q ex.na;refine Sx hfr hf fl λh1 y1 k1=>tK y1 λh2 y2 k2=>?_;have I2:=J.caught ex (by rw[hst];exact y2) (k1.trans k2);refine wpAny_handleBy_cons (codeAny_handlers_test (oJ (X:=X.held a) (I2.held a) hg hm ?_ hdb)) (by intro q;cases q);have LT:Looks (model X.prog X.w) h2 (typeOf (.ref a)) cls:=by
   obtain⟨oe,_,_,_,_,he,hc,_⟩:=y2.tr;exact hc ▸ (Looks.ld he).andThen .now
  refine(exm_one (K:=X.K) I2.gO LT hmt).here ?_;refine codeAny_handlers_suite_as (tK y2 λh3 y3 k3=>?_);have I3:=J.caught ex (by rw[hst];exact y3) ((k1.trans k2).trans k3);refine yI (X:=X.held a) (I3.held a) hN hi (.inl hk) (v:=.ref a) rfl (λs4 I4=>?_) (.inr hk);refine dA ((hh a).out ao s4 _ _ (unb i D) I4 hsu) (λf s5 hs=>?_) λ_ _ z=>z.elim;have hcls:(X.env.scope.kind == .class||(X.env.scope.kind == .module&&X.env.locals != X.env.globals))=false:=by rw[J.ok.kind];rfl
  have fin:∀{σ5:St} {H5:Hp} {Q:Unit->Shared->Prop},aL (X.held a) ao σ5 H5 s5->(∀s6,aL X ao (σ5.set i none) H5 s6->Q () s6)->wpAny (model X.prog X.w) X.A (do bindName X.env n .none;unbindBehindTheSuite X.env n hpos) Q X.xe s5:=λI5 hQ=>by
   have RP:=I5.afZ J.ok;obtain⟨m,hm5,_⟩:=id RP.loc;exact wpAny_nameGoes_keeps hk hm5 hcls λh' v hn hs=>hQ _ (RP.unbound hN hi hk hm5 hn hs)
  cases f with
  | next=>obtain⟨σ5,H5,I5,q5⟩:=hs;exact fin I5 λs6 I6=>⟨_,_,I6,q5⟩
  | brk=>obtain⟨σ5,H5,I5,q5⟩:=hs;exact fin I5 λs6 I6=>⟨_,_,I6,q5⟩
  | cont=>obtain⟨σ5,H5,I5,q5⟩:=hs;exact fin I5 λs6 I6=>⟨_,_,I6,q5⟩
  | ret u=>obtain⟨v,σ5,H5,I5,r5,q5⟩:=hs;exact fin I5 λs6 I6=>⟨v,_,_,I6,r5,q5⟩
 refine wpAny_Try_except (dA ((hb _ _ E σ hp hP).out [] s σ H D (I.tried _) hbody) (λf s1 hs=>?_) λe s1 z=>z);have hs:=hs.qx;cases f with
 | next=>
  obtain⟨σ',H',I',q⟩:=hs;exact(bN (X:=X)).out ao s1 σ' H' D I' q
 | brk=>exact hs
 | cont=>exact hs
 | ret u=>exact hs⟩
theorem af2 (hst:X.stack=X.env::X.outer)(hf:X.env.frame=some X.env.locals)(hg:Gl X x)(hm:X.mg x=some (.ref C))(hN:X.N.Nodup)(hi:X.N[i]?=some n)(hk:X.env.scope.names.lookup n=some .local)
  (hb:∀(pn:AC) (xe:AB) (E:XK) (σ0:St),PassesOwn (model X.prog X.w) X.A X.env xe->yd (Bv X.prog X.w) (X.tried pn xe) E (·=σ0)->rC (X.tried pn xe) body (tb E σ0))
  (hh:∀a,rC (X.held a) (b0::suite) th) (hdb:(x==("__debug__":Str))=false:=by decide) :
  QS X (.Try body [.ExceptHandler (some (.Name x np)) (some n) (b0::suite) hpos] [] [] pos) (ahX X.K C i tb th):=adE (thA:=λ_=>th) hst hf hg hm hN hi hk hb hh hdb
end
structure vK (K:W.Frag)(C:Addr):Prop where
 cl:(clsIn K C).isSome=true
 ga:findIn K (.ref C) "__getattribute__"=some (some (.builtin "BaseException.__getattribute__"))
 gx:findIn K (.ref C) "__getattr__"=some none
 ha:findIn K (.ref C) "__class__"=some (some (.builtin "object.__class__"))
 hn:specialIn K (.builtin "object.__class__") "__get__"=some (some (.builtin "getset_descriptor.__get__"))
 ht:takesIn K (.builtin "object.__class__")=some true
 hm:mroIn K C (.type "object")=some true
 hb:mroIn K C (.type "BaseException")=some true
section
variable {prog:Program}{w:World}{A:Around}{E:AB}{s:Shared}{K:W.Frag}{x C:Addr}{ox:Obj}{odo:Option Obj}
theorem aa0 (T:vK K C):findObj K C odo "__class__"=some (.bind (.builtin "getset_descriptor.__get__") (.builtin "object.__class__")):=by
 obtain⟨cd,hc⟩:=gT.mp T.cl;unfold findObj;rw[hc,Option.bind_some,T.ha,Option.bind_some];simp[T.hn,T.ht]
theorem X4 {tk:Tok}{Q:Fin->Shared->Prop}(T:vK K C)(X:K.In s.heap)(I:InstAt s.heap x ox C odo)(h:Q (.done (.ret (.ref C))) s) :
  wpAny (model prog w) A (Builtin.«object.__getattribute__» ⟨[.ref x,.str "__class__" tk],[]⟩) Q E s:=by
 obtain⟨hh,g,d,t,os⟩:=s;have L0:=I.type (M:=model prog w);have L1:=looks_find (M:=model prog w) X I (aa0 T);unfold Builtin.«object.__getattribute__»
 repeat (first | with_reducible refine ic (class_get X I T.hm ?_) | lk)
 exact h
theorem X5 {Q:Option Value->Shared->Prop}(T:vK K C)(X:K.In s.heap)(I:InstAt s.heap x ox C odo)(h:Q (some (.ref C)) { s with toks:=s.toks+1 }):wpAny (model prog w) A (getAttr? (.ref x) "__class__") Q E s:=by
 obtain⟨hh,g,d,t,os⟩:=s;have L0:=I.type (M:=model prog w);have L1:=looks_findIn (M:=model prog w) X T.ga;have L2:=looks_findIn (M:=model prog w) X T.gx;unfold getAttr? getAttrBy? getAttrBy;refine ae (wpAny_mkText (ae (iX (dL (ae (L0.at (ae (L1.at ?_))))))));show wpAny _ _ (getAttrByItsOwn _ _ _ _ _ _) _ _ _;unfold getAttrByItsOwn hookBefore;rw[if_pos (show onTheHeap (Value.ref C)=true from rfl)];refine ae (L2.at (ae (iX (dL ?_))));unfold callGetattribute boundAndCalled;rw[if_neg (by decide)];have f3:=lP.ga.bind (.ref x);rw[f3];refine ae (av ?_);refine ic (kR lP.ga.plain F.entry_bexc_ga ?_);have hk:builtinKind "BaseException.__getattribute__"=some .slot:=by decide +kernel
 have hsp:splitId "BaseException.__getattribute__"=some ("BaseException","__getattribute__"):=by decide +kernel
 have Lb:=looks_mroIn (M:=model prog w) X T.hb;have hargs:=F.args_bexc_ga (.ref x) (.str "__class__" t);simp only[checkBuiltinCall,hk,hsp];refine ae ?_;unfold isInstance;refine ae (L0.at (Lb.at ?_))
 repeat (first | refine X4 (x:=x) T X I ?_ | assumption | wp_step)
theorem Ou {y:Addr}(T:vK K C):KitX K (.ref y) (.ref C) (λh=>∃ox odo,InstAt h y ox C odo) where
 ty:=λ_ _ _ ⟨_,_,I⟩=>I.type
 it:=λ_ _ X _=>by
  obtain⟨cd,hc⟩:=gT.mp T.cl;unfold clsIn at hc
  split at hc
  ·next ho=>
   intro A' Q' E' s' k q;unfold isType loadHead;exact ae (lp (k _ _ (X _ _ ho)) (av q))
  ·cases hc
 ne:=λh tp dd its n sl X htp=>by
  refine Bool.eq_false_iff.mpr λq=>?_;have e:C=tp:=Value.ref.inj (beq_iff_eq.mp q);subst e;obtain⟨cd,hc⟩:=gT.mp T.cl;unfold clsIn at hc
  split at hc
  ·next ho=>
   have z:=(X _ _ ho).symm.trans htp;cases z
  ·cases hc
 ca:=λX ⟨_,_,I⟩ k=>X5 T X I k
end
def jm (H:Hp):Option Addr->Prop
 | none=>True
 | some d=>∃o,H d=some o
def af3 (K:W.Frag):List V->Hp->VK->Prop:=λxs H Q=>∃(a C:Addr) (c:V) (u:Value) (dd:Option Addr) (b:Bool),xs=[.ref a,c]/\((∃D,c=.ref D/\u=.ref D)\/∃n,c=.ty n/\u=.type n)/\H a=some (.ext (uN a (.ref C) dd))/\jm H dd/\vK K C/\kitOne K (.ref C) u=some b/\Q (.bl b) H
section
variable {X:Cx}
theorem iG (hc:True:=True.intro):gq X (.builtin "isinstance") (af3 X.K):=by
 intro ao s σ H xs us Q I r h;obtain⟨a,C,c,u,dd,b,rfl,ru,ha,hd,T,k,q⟩:=h;obtain⟨u1,w',rfl,r1,r2⟩:=vals2 r;obtain rfl:u1=Value.ref a:=r1;have eu:w'=u:=by
  rcases ru with⟨D,rfl,rfl⟩ | ⟨n,rfl,rfl⟩
  ·exact r2
  ·exact r2
 subst eu;obtain⟨⟨oe,vs,e1,e2,e3,e4,_⟩,_,_⟩:=(show dH X.prog X.w H s.heap a (.ext (uN a (.ref C) dd)) from I.hok a _ ha)
 have hI:∃ox odo,InstAt s.heap a ox C odo:=by
  cases dd with
  | none=>exact⟨oe,none,e1,e2,by unfold notCls;rw[e4],by rw[e3];trivial⟩
  | some d=>
   obtain⟨o1,hfs⟩:=hd;obtain⟨o,ho⟩:=(I.hok d _ hfs).there;exact⟨oe,some o,e1,e2,by unfold notCls;rw[e4],by rw[e3];exact ho⟩
 exact kia_one (Ou T) I.gO hI k (λz=>nomatch z) λtk=>⟨.bl b,H,I.tok tk,rfl,q⟩
end
theorem HN:bootBuiltins "ValueError"=some (.type "ValueError"):=by decide +kernel
end L2
namespace HT
open PySem PySem.Spec PyProof.Rows
end HT
namespace L2
open PySem PySem.Spec PyProof.Rows PySem.W
def vL (K:Frag)(C fI:Addr):Bool:=match K.lookup C with
 | some ⟨.type "type",_,.cls cd,sl⟩=>(match cd.mro,sl.toList with
  | .ref D::tl,[_,_,_,_,some (.builtin n),_]=>(D==C)&&(n=="ValueError.__new__")&&(!cd.hasDel)&&(cd.hasDict&&(tailIn K jc tl&&(nsOkIn K cd.ns&&(nsIn K cd.ns "__init__" == some (some (.ref fI))))))
  | _,_=>false)
 | _=>false
theorem ahY {K:Frag}{h:Heap}{N:Addr}{m:Str->Option Value}{n:Str}{v:Value}(X:K.In h)(G:h.Ns N m)(e:nsIn K N n=some (some v)):m n=some v:=by
 obtain⟨o,es,ep,ho,hd,_,hf⟩:=G;unfold nsIn at e
 split at e
 ·next c0 d0 es0 n0 sl0 q=>
  have z:=X _ _ q;rw[ho]at z;cases z;cases hd
  split at e
  ·next en he=>
   cases e;rw[<- hf];unfold nsFind findBy;rw[<- Array.find?_toList,he];rfl
  ·split at e <;> cases e
 ·cases e
theorem JB {K:Frag}{h:Heap}{C fI:Addr}(X:K.In h)(q:vL K C fI=true) :
  ∃bm N nm q bs sn sub ab col dd k0 k1 k2 k3 k5 mN,h.get? C=some (excClassObj nm q C N bs bm true sn sub ab col dd k0 k1 k2 k3 k5 "ValueError.__new__")/\h.Ns N mN/\mN "__init__"=some (.ref fI)/\OwnTail h jc bm:=by
 unfold vL at q
 split at q
 ·next dd cd sl ho=>
  split at q
  ·next D tl k0 k1 k2 k3 n k5 hm hs=>
   rw[cw,cw,cw,cw,cw,cw,beq_iff_eq,beq_iff_eq,beq_iff_eq,Bool.not_eq_true']at q;obtain⟨⟨⟨e1,e2⟩,e3⟩,e4,ht,hok,hi⟩:=q;subst e1 e2;obtain⟨nm,bs,mro,ns,qn,hd,sn,sub,ab,col,del⟩:=cd;dsimp only at hm e3 e4 hok hi;subst hm e3 e4;obtain⟨sll⟩:=sl;dsimp only at hs;subst hs;exact⟨tl,ns,nm,qn,bs,sn,sub,ab,col,dd,k0,k1,k2,k3,k5,_,X _ _ ho,.of_isNs (isNs_of_in X hok),ahY X (.of_isNs (isNs_of_in X hok)) hi,tail_of_in X ht⟩
  ·cases q
 ·cases q
section
variable {prog:Program}{w:World}{A:Around}{E:AB}{h:Heap}{g:Array GenState}{d:Drawn}{t:Nat}{os:OsState}
variable {nm q:Str}{C N fI:Addr}{bs bm:List Value}{sn:List Str}{sub:List Value}{ab:Bool}{col:Option Bool}{dd:Option Addr}{k0 k1 k2 k3 k5:Option Value}{oI:Obj}{mN:Str->Option Value}{rest:List Value}
variable {M:Model}{s:Shared}{env:Env}{x:Sem Value}{Q:Flow->Shared->Prop}{hdct:Bool}{newId:String}
abbrev newArgs (rest:List Value):Obj:={ cls:=.type "tuple",data:=.seq rest.toArray }
abbrev newExc (C a:Addr):Obj:={ cls:=.ref C,data:=.fields #[.ref a,.none,.none,.none,.bool false,.none] }
theorem Ov {Q:Fin->Shared->Prop}(T:OwnTail h jc bm)(hC:h.get? C=some (excClassObj nm q C N bs bm true sn sub ab col dd k0 k1 k2 k3 k5 "ValueError.__new__"))(hn:h.Ns N mN)(hi:mN "__init__"=some (.ref fI))
  (hf:h.get? fI=some oI) (hfc:oI.cls=.type "function") (hz:rest.length<=sizeLine)
  (hq:wpAny (model prog w) A (call (.ref fI) (.ref (h.objs.size+1)::rest)) (λr s'=>r=.none/\Q (.done (.ret (.ref (h.objs.size+1)))) s') E ⟨(h.push (newArgs rest)).push (newExc C h.objs.size),g,d,t,os⟩) :
  wpAny (model prog w) A (Builtin.«type.__call__» ⟨.ref C::rest,[]⟩) Q E ⟨h,g,d,t,os⟩:=by
 have FB:=fz
 repeat (first | with_reducible refine gE hC ?_ | with_reducible refine wpAny_madeBy_exc hC ?_ | wp_step)
 refine codeAny_call_builtin_code (Code.quiet_builtin _ FB.quiet) (wpAny_check_new_subT FB T hC (codeAny_exc_new_subT FB T hC ?_ hz));show wpAny _ _ _ _ _ _;have up:∀b o,h.get? b=some o->((h.push (newArgs rest)).push (newExc C h.objs.size)).get? b=some o:=λb o z=>ag _ (ag _ z);have eC:=up _ _ hC;have eF:=up _ _ hf;have eN:=hn.keeps up;have eT:=T.keeps up;have eX:((h.push (newArgs rest)).push (newExc C h.objs.size)).get? (h.objs.size+1)=some (newExc C h.objs.size):=by heap_get
 have inC:(Value.ref C::bm).contains (.ref C)=true:=by simp
 unfold isInstance
 repeat (first | with_reducible refine gE eX ?_ | (with_reducible refine wpAny_isSubtype_exc eC ?_;rw[inC]) | wp_step)
 show wpAny _ _ (typeLookup (.ref C) "__init__") _ _ _;refine wpAny_typeLookup_tail eC eN eT FB.mroIs FB.init.lookup ?_;rw[hi];refine dL (ae ?_);unfold bindSpecial;refine ae (wpAny_typeOf (T:="function") ⟨_,eF,hfc⟩ ?_);rw[if_pos (by decide)];refine av (ae (dA hq (λr s' z=>?_) λ_ _ y=>y));obtain⟨rfl,z⟩:=z
 wp_walk
 exact z
theorem aa1 {Q:AB}(T:OwnTail h jc bm)(hC:h.get? C=some (excClassObj nm q C N bs bm true sn sub ab col dd k0 k1 k2 k3 k5 "ValueError.__new__"))(hn:h.Ns N mN)(hi:mN "__init__"=some (.ref fI))
  (hf:h.get? fI=some oI) (hfc:oI.cls=.type "function") (hz:rest.length<=sizeLine)
  (hq:wpAny (model prog w) (A.under (.builtin "type.__call__" ⟨.ref C::rest,[]⟩)) (call (.ref fI) (.ref (h.objs.size+1)::rest)) (λr s'=>r=.none/\Q (.ref (h.objs.size+1)) s') E ⟨(h.push (newArgs rest)).push (newExc C h.objs.size),g,d,t,os⟩) :
  wpAny (model prog w) A (call (.ref C) rest) Q E ⟨h,g,d,t,os⟩:=by
 have f1:=tc_lookup;have f2:=tc_bind (.ref C);have tyC:(⟨h,g,d,t,os⟩:Shared).TypeIs (.ref C) "type":=⟨_,hC,rfl⟩
 refine ic (codeAny_of_tree ?_);show wpAny _ _ (callAny (.ref C) _) _ _ _
 repeat (any_goals (first | assumption | with_reducible refine gE hC ?_ | wp_step))
 exact⟨rfl,codeAny_call_builtin_at (Code.quiet_builtin _ (by decide +kernel)) entry_typeCall (wpAny_check_type_call_sub hC (Ov T hC hn hi hf hfc hz hq))⟩
theorem X6 (hb:bm.contains (.type "BaseException")=true)(hh:A.handled=none)
  (hx:wpAny M A x (λv s1=>∃e oe vs,v=.ref e/\s1.heap.get? C=some (excClassObj nm q C N bs bm hdct sn sub ab col dd k0 k1 k2 k3 k5 newId)/\s1.heap.get? e=some oe/\oe.cls=.ref C/\oe.data=.fields vs/\vs[1]?=some .none/\E (.ref e) s1) E s) :
  wpAny M A (raiseStmt env (some x) none) Q E s:=by
 have inB:(Value.ref C::bm).contains (.type "BaseException")=true:=by rw[List.contains_cons,hb,Bool.or_true]
 unfold raiseStmt;refine ae (dA hx (λv s1 z=>?_) λ_ _ y=>y);obtain⟨e,oe,vs,rfl,hC,he,hc,hd,h1,hE⟩:=z;obtain⟨oc,od,oda,osl⟩:=oe;dsimp only at hc hd;subst hc hd;obtain⟨hp,g,d,tk,os⟩:=s1
 repeat (first | with_reducible refine gE he ?_ | with_reducible refine gE hC ?_ | (with_reducible refine wpAny_isSubtype_exc hC ?_;rw[inB]) | wp_step)
 rw[h1];refine av ?_;rw[if_neg (by decide)];exact av (wpAny_raiseNew_none hh hE)
end
def gF (a:Addr)(cls:Value)(dd:Option Addr):Heap->Prop:=λh=>∃oe vs,h.get? a=some oe/\oe.cls=cls/\oe.dict=dd/\oe.data=.fields vs/\vs[1]?=some .none/\vs[2]?=some .none/\dd≠some a
theorem gF.at {a:Addr}{cls:Value}{dd:Option Addr}{h h':Heap}(x:gF a cls dd h)(k:∀o,h.get? a=some o->h'.get? a=some o):gF a cls dd h':=let ⟨oe,vs,e,r⟩:=x;⟨oe,vs,k oe e,r⟩
theorem gF.ok {P:Program}{w:World}{H:Hp}{h:Heap}{a:Addr}{cls:Value}{dd:Option Addr}(x:gF a cls dd h):dH P w H h a (.ext (gF a cls dd)):=⟨x,let ⟨oe,_,e,_⟩:=x;⟨oe,e⟩,λ_ _ y k=>y.at k⟩
def drop (H:Hp)(a:Addr):Hp:=λb=>if b=a then none else H b
theorem oV {H:Hp}{a:Addr}:drop H a a=none:=by unfold drop;rw[if_pos rfl]
theorem iK {H:Hp}{a b:Addr}(h:b≠a):drop H a b=H b:=by unfold drop;rw[if_neg h]
section
variable {X:Cx}{ao:AC}{σ:St}{H:Hp}{s:Shared}{a:Addr}{φ:Heap->Prop}
theorem aL.drop (I:aL X ao σ H s)(ha:H a=some (.ext φ))(HJ:∀b o,X.s₀.heap.get? b=some o->b≠a):aL X ao σ (L2.drop H a) s:=by
 have ne:∀b u,H b=some u->(∀φ,u≠.ext φ)->b≠a:=λb u e n z=>by rw[z,ha]at e;cases e;exact n φ rfl
 refine⟨I.ok,I.os,I.bare,⟨I.base.keep,I.base.slot,λb o e n hx=>?_,I.base.there,λb xs e=>?_,λb o u e=>?_,λb ps e=>?_⟩,I.loc,I.cell,?_,λx c e=>?_,λp hp=>?_,λb o e=>?_,I.len⟩
 ·by_cases hb:b=a
  ·rw[hb];exact oV
  ·rw[iK hb];exact I.base.free b o e n hx
 ·have z:=I.base.tups b xs e
  rw[iK (ne b _ z λφ=>by simp)];exact z
 ·have z:=I.base.lG b o u e
  rw[iK (ne b _ z λφ=>by simp)];exact z
 ·obtain⟨more,z⟩:=I.base.lV b ps e
  exact⟨more,by rw[iK (ne b _ z λφ=>by simp)];exact z⟩
 ·by_cases hb:X.env.locals=a
  ·rw[hb];exact oV
  ·rw[iK hb];exact I.free
 ·by_cases hb:c=a
  ·rw[hb];exact oV
  ·rw[iK hb];exact I.ju x c e
 ·obtain⟨e1,e2,e3⟩:=I.pin p hp
  refine⟨e1,?_,e3⟩;by_cases hb:p.1=a
  ·rw[hb];exact oV
  ·rw[iK hb];exact e2
 ·by_cases hb:b=a
  ·rw[hb,oV]at e;cases e
  ·rw[iK hb]at e
   refine(I.hok b o e).stay (λc u _ z=>z) (λc r=>?_) λc xs r=>?_
   ·rw[iK (ne c _ r λφ=>by simp)];exact r
   ·rw[iK (ne c _ r λφ=>by simp)];exact r
end
structure MkX (K:Frag)(C f:Addr):Prop where
 ini:vL K C f=true
 fn:W.isFn K (.ref f)=true
 kp:W.keepIn K (.ref C)=true
def adF (C:Addr)(sp:Sp)(E:XK)(t:TA):TS:=λ_ σ H=>t σ H λvs H1=>vs.length<=sizeLine/\∀a,H1 a=none->sp (.ref a::vs) (upd H1 a (.ext (gF a (.ref C) none))) (λv H2=>v=.non/\∃dd,H2 a=some (.ext (gF a (.ref C) dd))/\E (.ref C) dd (drop H2 a)) E0
section
variable {X:Cx}{k:Nat}{f C:Addr}{fd:FuncData}{ps:List Str}{sp:Sp}{x:Str}{p pos cpos:Pos}{e:Expr}{es:List Expr}{t:TA}{E:XK}
theorem adG {ao:AC}{s:Shared}{σ:St}{H:Hp}{G:Addr->Hp->Prop}(M:MkX X.K C f)(F:cM X.prog X.w X.K X.mg X.base fU k f fd ps sp)(hr:d7 (k+1) X.A)(hg:Gl X x)(hm:X.mg x=some (.ref C))(hb:cJ X.K fd ps [])(ha:QA X (e::es) t)
  (I:aL X ao σ H s) (h:t σ H λvs H1=>vs.length<=sizeLine/\∀a,H1 a=none->sp (.ref a::vs) (upd H1 a (.ext (gF a (.ref C) none))) (λv H2=>v=.non/\G a H2) E0)
  (hdb:(x==("__debug__":Str))=false) (hs:starEach (e::es) X.env=(false,eval e X.env)::starEach es X.env) (hpl:(backTo cpos (starEach es X.env)).any (·.1)=false) :
  wpAny (model X.prog X.w) X.A (eval (.Call (.Name x p) (e::es) [] cpos) X.env) (λv s'=>∃a H2,v=.ref a/\aL X ao σ H2 s'/\X.s₀.heap.objs.size<=a/\G a H2) X.xe s:=by
 refine gg (oJ I hg hm ?_ hdb);refine ie (h₀:=X.base) I.ok.mod.Hg M.kp (bR (ha.out cpos ao s σ H _ I h) λus s1 ⟨vs,H1,I1,r,hz,q⟩=>⟨I1.gO,?_⟩) hs hpl;obtain⟨bm,N,nm,qn,bs,sn,sub,ab,col,dd,k0,k1,k2,k3,k5,mN,cC,cN,ci,T⟩:=JB I1.gO M.ini;obtain⟨oI,hoI,hcI⟩:∃oI,s1.heap.get? f=some oI/\oI.cls=.type "function":=by
  have z:(X.K.lookup f).map (·.cls)=some (.type "function"):=beq_iff_eq.mp M.fn;cases y:X.K.lookup f with
  | none=>rw[y]at z;cases z
  | some of=>rw[y]at z;exact⟨of,I1.gO _ _ y,aw z⟩
 have hsz0:X.s₀.heap.objs.size<=s1.heap.objs.size+1:=mf I1.sz;obtain⟨hh,g,d,tk,os⟩:=s1;have I2:aL X ao σ H1 ⟨hh.push (newArgs us),g,d,tk,os⟩:=I1.kept (t':=tk) λb u z=>ag _ z;have hsz:(hh.push (newArgs us)).objs.size=hh.objs.size+1:=dr _ _;have eX:((hh.push (newArgs us)).push (newExc C hh.objs.size)).get? (hh.objs.size+1)=some (newExc C hh.objs.size):=by heap_get
 have I3:aL X ao σ (upd H1 (hh.objs.size+1) (.ext (gF (hh.objs.size+1) (.ref C) none))) ⟨(hh.push (newArgs us)).push (newExc C hh.objs.size),g,d,tk,os⟩:=
  I2.laid (t':=tk) (λb u z=>ag _ z) (e8 hsz) (gF.ok ⟨_,_,eX,rfl,rfl,rfl,rfl,rfl,by simp⟩)
 have hq:=q (hh.objs.size+1) (I2.hok.fresh (e8 hsz));have r2:Vals (V.ref (hh.objs.size+1)::vs) (Value.ref (hh.objs.size+1)::us):=.cons rfl r;have hl:(Value.ref (hh.objs.size+1)::us).length=ps.length:=by rw[<- r2.length];exact F.len _ _ _ _ hq
 have hB:=hb ⟨(hh.push (newArgs us)).push (newExc C hh.objs.size),g,d,tk,os⟩ (Value.ref (hh.objs.size+1)::us) I3.gO (by rw[fh];exact hl);rw[fh]at hB;refine aa1 T cC cN ci hoI hcI (by show us.length<=sizeLine;rw[<- r.length];exact hz) (ic (ja (F.run _ X.stack _ _ ⟨Value.ref (hh.objs.size+1)::us,[]⟩ (Value.ref (hh.objs.size+1)::us) _ _ E0 (hr.make C us []) (I3.env0.make C us []) hB r2 hq) λr s' hq'=>?_));cases r with
 | error e=>exact False.elim hq'
 | ok fl=>
  cases fl with
  | ret u=>
   obtain⟨v,H',I4,rv,ev,q3⟩:=I3.after hq';subst ev;exact⟨rv,_,H',rfl,I4,hsz0,q3⟩
  | next=>exact False.elim hq'
  | brk=>exact False.elim hq'
  | cont=>exact False.elim hq'
theorem rG (hl:Lets X E)(hc:X.calm=true)(M:MkX X.K C f)(F:cM X.prog X.w X.K X.mg X.base fU k f fd ps sp)(hr:d7 (k+1) X.A)(hg:Gl X x)(hm:X.mg x=some (.ref C))(hb:cJ X.K fd ps [])(ha:QA X (e::es) t)
  (hdb:(x==("__debug__":Str))=false:=by decide) (hs:starEach (e::es) X.env=(false,eval e X.env)::starEach es X.env:=by rfl) (hpl:(backTo cpos (starEach es X.env)).any (·.1)=false:=by rfl) :
  QS X (.Raise (some (.Call (.Name x p) (e::es) [] cpos)) none pos) (adF C sp E t):=⟨by
 intro ao s σ H D I h;have run:=adG (p:=p) M F hr hg hm hb ha I h hdb hs hpl;obtain⟨bm,N,nm,qn,bs,sn,sub,ab,col,dd,k0,k1,k2,k3,k5,mN,cC,cN,ci,T⟩:=JB I.ok.mod.Hg M.ini;rw[arm_exec_Raise];refine ae (iS (X6 (C:=C) (nm:=nm) (q:=qn) (N:=N) (bs:=bs) (bm:=bm) (hdct:=true) (sn:=sn) (sub:=sub) (ab:=ab) (col:=col) (dd:=dd) (k0:=k0) (k1:=k1) (k2:=k2) (k3:=k3) (k5:=k5) (newId:="ValueError.__new__")
  (T.hasType fz.hasBase) (I.ok.hd hc) (ae (dA run (λv s1 z=>ae (iS (av ?_))) λ_ _ y=>y))))
 obtain⟨a,H2,rfl,I2,ha2,dd2,hd2,hE⟩:=z;obtain⟨⟨oe,vs,he,h1,h2,h3,h4,X7,_⟩,_⟩:=I2.hok a _ hd2;have HJ:∀b o,X.s₀.heap.get? b=some o->b≠a:=λb o z y=>absurd (ax z) (by rw[y];exact Nat.not_lt.mpr ha2);have I3:=I2.drop hd2 HJ;refine⟨a,oe,vs,rfl,I2.bk _ _ cC,he,h1,h3,h4,hl ao σ _ _ a oe vs I3 he h3 h4 X7 oV HJ ?_⟩;rw[h1,h2];exact hE⟩
end
section
variable {prog:Program}{w:World}{A:Around}{E:AB}{h:Heap}{g:Array GenState}{d:Drawn}{t:Nat}{os:OsState}
variable {nm q:Str}{C N a:Addr}{bs bm:List Value}{sn:List Str}{sub:List Value}{ab:Bool}{col:Option Bool}{dd:Option Addr}{k0 k1 k2 k3 k5:Option Value}{rest:List Value}{Q:AB}{oe:Obj}{vs:Array Value}
theorem X8 (T:OwnTail h jc bm)(hC:h.get? C=some (excClassObj nm q C N bs bm true sn sub ab col dd k0 k1 k2 k3 k5 "ValueError.__new__"))(he:h.get? a=some oe)(hc:oe.cls=.ref C)(hd:oe.data=.fields vs)(hz:0 < vs.size)(hr:rest.length<=sizeLine)
  (hq:Q .none ⟨(h.push (newArgs rest)).update a (Obj.mapFields (·.setIfInBounds 0 (.ref h.objs.size))),g,d,t,os⟩) :
  wpAny (model prog w) A (call (.builtin "ValueError.__init__") (.ref a::rest)) Q E ⟨h,g,d,t,os⟩:=by
 have FB:=fz;obtain⟨oc,od,oda,osl⟩:=oe;dsimp only at hc hd;subst hc hd;refine ic (kR FB.init.plain FB.initEntry (wpAny_check_init_subT FB T hC he rfl ?_));have he1:(h.push (newArgs rest)).get? a=some ⟨.ref C,od,.fields vs,osl⟩:=ag _ he;unfold Builtin.«BaseException.__init__»
 repeat (first | with_reducible refine gE he1 ?_ | wp_step)
 obtain⟨v0,e0⟩:∃v0,vs[0]?=some v0:=⟨_,gI hz⟩
 rw[e0];refine av (ae (iN he1 rfl hz ?_));cases v0 <;> first | exact wpAny_letGo (av hq) | exact av (av hq)
end
def qy:List Value->Bool
 | .ref _::r=>qy r
 | l=>l==jc
theorem Bw (self:Value):∀{l:List Value},qy l=true->refuseLoop self "__setattr__" l=pure ()
 | .ref _::r,e=>(refuseLoop_ref self "__setattr__" _ r).trans (Bw self (l:=r) e)
 | [],e=>by cases e
 | .type n::r,e=>by rw[beq_iff_eq.mp (show (Value.type n::r==jc)=true from e)];exact PySem.F.store_ValueError.passes self
 | .none::r,e=>by cases(beq_iff_eq.mp (show (Value.none::r==jc)=true from e))
 | .bool b::r,e=>by cases(beq_iff_eq.mp (show (Value.bool b::r==jc)=true from e))
 | .int i t::r,e=>by cases(beq_iff_eq.mp (show (Value.int i t::r==jc)=true from e))
 | .float i t::r,e=>by cases(beq_iff_eq.mp (show (Value.float i t::r==jc)=true from e))
 | .str i t::r,e=>by cases(beq_iff_eq.mp (show (Value.str i t::r==jc)=true from e))
 | .bytes i t::r,e=>by cases(beq_iff_eq.mp (show (Value.bytes i t::r==jc)=true from e))
 | .builtin n::r,e=>by cases(beq_iff_eq.mp (show (Value.builtin n::r==jc)=true from e))
structure Bx (K:Frag)(C:Addr):Prop where
 ln:((clsIn K C).any λcd=>cd.hasDict&&qy cd.mro)=true
 ob:mroIn K C (.type "object")=some true
 sa:findIn K (.ref C) "__setattr__"=some (some (.builtin "object.__setattr__"))
section
open Builtin Builtin.ObjectAttr
variable {prog:Program}{w:World}{A:Around}{E:AB}{s:Shared}{K:Frag}{x C:Addr}{ox:Obj}{od:Option Obj}{name:Str}{v:Value}
variable {h:Heap}{g:Array GenState}{d:Drawn}{t:Nat}{os:OsState}{dx:Addr}{vs:Array Value}{sl:Array (Option Value)}{Q:Fin->Shared->Prop}{b:Bool}{tk:Tok}
theorem K_ {Q:Unit->Shared->Prop}(X:K.In s.heap)(T:Bx K C)(hn:findIn K (.ref C) name=some none)(I:InstAt s.heap x ox C od)
  (h:wpAny (model prog w) A.in1 (storeInOwnDict (.ref x) (.ref C) (.str name s.toks) name v false) (λfin s'=>match fin with | .done (.ret _)=>Q () s' | _=>False) (λ_ _=>False) { s with toks:=s.toks+1 }) :
  wpAny (model prog w) A (setAttr (.ref x) name v) Q E s:=by
 have SF:=PySem.F.store_ValueError;obtain⟨cd,hc,ho⟩:=any_some T.ln;rw[cw]at ho;have L0:=I.type (M:=model prog w);have Lm:Looks (model prog w) s.heap (mroOf (.ref C)) cd.mro:=(looks_clsIn X hc).andThen .now;have Li:Looks (model prog w) s.heap (isInstance (.ref x) (.type "object")) true:=L0.andThen (looks_mroIn X T.ob);have Ln:=looks_findIn (M:=model prog w) X hn;obtain⟨hh,g,d,t,os⟩:=s;unfold setAttr;refine ae (wpAny_mkText (ae (ae (ae (L0.at ((looks_findIn X T.sa).at (dL (ae ?_))))))));rw[SF.slot.bind (.ref x)];refine av (ae (ic (kR SF.slot.plain SF.entry (@check_slot (model prog w) _ _ _ "object.__setattr__" "object" "__setattr__" (.ref x) [.str name t,v] [] _ SF.kind SF.split Li (SF.args (.ref x) (.str name t) v) ?_))));show wpAny (model prog w) A.in1 (Builtin.«object.__setattr__» ⟨[.ref x,.str name t,v],[]⟩) _ _ _;rw[osa_eq,refuse_eq];refine ae (ae (L0.at (ae (Lm.at ?_))));rw[Bw _ ho.2];refine av (ae (L0.at (ae (Ln.at (ae (av ?_))))));refine dA h (λfin s' z=>?_) λ_ _ z=>z.elim;cases fin with
 | done f=>cases f with
  | ret u=>exact av (av z)
  | next=>exact z.elim
  | brk=>exact z.elim
  | cont=>exact z.elim
 | again c=>exact z.elim
theorem U7 (X:K.In h)(T:Bx K C)(hx:h.get? x=some ⟨.ref C,none,.fields vs,sl⟩)
  (hq:∀h' t',h'.Ns1 h.objs.size (λy=>if y=name then some v else none)->h'.get? x=some ⟨.ref C,some h.objs.size,.fields vs,sl⟩->(∀c o,c≠x->h.get? c=some o->h'.get? c=some o)->Q (.done (.ret .none)) ⟨h',g,d,t',os⟩) :
  wpAny (model prog w) A (storeInOwnDict (.ref x) (.ref C) (.str name tk) name v b) Q E ⟨h,g,d,t,os⟩:=by
 obtain⟨cd,hc,ho⟩:=any_some T.ln;rw[cw]at ho;have xs:x≠h.objs.size:=ba (ax hx);refine ae (av (ae (ae (lp hx (ae ((looks_clsIn X hc).here ?_))))));rw[ho.1];have hx1:(h.push { cls:=.type "dict",data:=.dict #[] }).get? x=some ⟨.ref C,none,.fields vs,sl⟩:=ag _ hx;refine ae (wpAny_alloc' ?_);refine ae (wpAny_update' hx1 ?_);refine av ?_;generalize e1:((h.push { cls:=.type "dict",data:=.dict #[] }).update x λo=>{ cls:=o.cls,dict:=some h.objs.size,data:=o.data,slots:=o.slots })=h1;have g1:h1.get? h.objs.size=some { cls:=.type "dict",data:=.dict #[] }:=by rw[<- e1];exact(hX _ _ _ _ xs.symm).trans (Heap.get?_push_at rfl rfl)
 have g2:h1.get? x=some ⟨.ref C,some h.objs.size,.fields vs,sl⟩:=by rw[<- e1];exact fN _ hx1 rfl
 have g3:∀c o,c≠x->h.get? c=some o->h1.get? c=some o:=λc o n z=>by rw[<- e1];exact(hX _ _ _ _ n).trans (ag _ z)
 have n1:h1.Ns h.objs.size (λ_=>none):=⟨_,#[],_,g1,rfl,(λe he=>absurd he (by simp)),λ_=>rfl⟩
 show wpAny _ _ (storeInDict h.objs.size (.str name tk) name v) _ _ _;unfold storeInDict newKeyGuard;refine ae (av (ae (wpAny_nsSet1 (Heap.Ns1.of_empty n1) λh2 n2 k2=>?_)));obtain⟨oD,esD,epD,hoD,hdD,hcD⟩:=n2.count (l_ name v PySem.Within.nil);refine ae (wpAny_lookBehind hoD (by rw[hdD];exact pastItsLine_dict (cq hcD (by rw[dv,List.length_nil,sizeLine_eq];lia))) (av ?_));exact hq h2 _ n2 ((k2.2 x xs).trans g2) λc o n z=>(k2.2 c (ba (ax z))).trans (g3 c o n z)
theorem Rk {mA:Str->Option Value}{ns:List Str}(X:K.In h)(T:Bx K C)(hx:h.get? x=some ⟨.ref C,some dx,.fields vs,sl⟩)(hn:h.Ns1 dx mA)(hw:PySem.Within mA ns)(hl:ns.length<=100)
  (hq:∀h' t',h'.Ns1 dx (λy=>if y=name then some v else mA y)->(∀c o,c≠dx->h.get? c=some o->h'.get? c=some o)->Q (.done (.ret .none)) ⟨h',g,d,t',os⟩) :
  wpAny (model prog w) A (storeInOwnDict (.ref x) (.ref C) (.str name tk) name v b) Q E ⟨h,g,d,t,os⟩:=by
 obtain⟨cd,hc,ho⟩:=any_some T.ln;rw[cw]at ho;refine ae (av (ae (ae (lp hx (ae ((looks_clsIn X hc).here ?_))))));rw[ho.1];refine av ?_;show wpAny _ _ (storeInDict dx (.str name tk) name v) _ _ _;unfold storeInDict newKeyGuard;refine ae (av (ae (wpAny_nsSet1 hn λh2 n2 k2=>?_)));obtain⟨oD,esD,epD,hoD,hdD,hcD⟩:=n2.count (l_ name v hw);refine ae (wpAny_lookBehind hoD (by rw[hdD];exact pastItsLine_dict (cq hcD (by rw[dv,sizeLine_eq];lia))) (av ?_));exact hq h2 _ n2 λc o n z=>(k2.2 c n).trans z
end
def XD (a:Addr)(fs:List (Str × V)):Heap->Prop:=λh=>∃mA,h.Ns1 a mA/\(∀f,j9 (fs.lookup f) (mA f))/\PySem.Within mA (fs.map (·.1))/\fs.length<=50
theorem XD.at {a:Addr}{fs:List (Str × V)}{h h':Heap}(x:XD a fs h)(k:∀o,h.get? a=some o->h'.get? a=some o):XD a fs h':=let ⟨mA,n,r⟩:=x;⟨mA,n.at k,r⟩
theorem XD.ok {P:Program}{w:World}{H:Hp}{h:Heap}{a:Addr}{fs:List (Str × V)}(x:XD a fs h):dH P w H h a (.ext (XD a fs)):=⟨x,let ⟨_,⟨o,_,_,e,_⟩,_⟩:=x;⟨o,e⟩,λ_ _ y k=>y.at k⟩
def ahq (K : Frag)(ta tv : TE)(f : Str) : TS := λD σ H => tv σ H λy H1 => ta σ H1 λx H2 => ∃a C dd, x = .ref a /\ H2 a = some (.ext (gF a (.ref C) dd)) /\ Bx K C /\ findIn K (.ref C) f = some none /\
  ((dd = none /\ ∀dx, dx ≠ a -> H2 dx = none -> D.nx σ (upd (upd H2 dx (.ext (XD dx [(f, y)]))) a (.ext (gF a (.ref C) (some dx))))) \/
   ∃dx fs, dd = some dx /\ H2 dx = some (.ext (XD dx fs)) /\ fs.length < 50 /\ D.nx σ (upd H2 dx (.ext (XD dx (iU f y fs)))))
section
variable {X:Cx}{o value:Expr}{f:Str}{pos pos':Pos}{ta tv:TE}
theorem uq (ha:QE X o ta)(hv:QE X value tv)(hs:swapsWith value (some (.Attribute o f pos')) pos.line X.env=pure false):QS X (.Assign [.Attribute o f pos'] value pos) (ahq X.K ta tv f):=⟨by
 intro ao s σ H D I h;refine plainObj_wpAny_Assign_Attribute (bR (hv.out ao s σ H _ I h) λu s1 zz=>?_) hs;obtain⟨y,H1,I1,ry,q⟩:=zz;refine bR (ha.out ao s1 σ H1 _ I1 q) λov s2 zz=>?_;obtain⟨x,H2,I2,rx,a,C,dd,ex,ea,T,hn,q2⟩:=zz;subst ex;obtain rfl:ov=Value.ref a:=rx;obtain⟨⟨oe,vs,he,h1,h2,h3,h4,X7,h5⟩,_⟩:=I2.hok a _ ea;obtain⟨oc,od,oda,osl⟩:=oe;dsimp only at h1 h2 h3;subst h1 h2 h3;have hk:X.K.In s2.heap:=I2.gO;obtain⟨hh,g,d,t,os⟩:=s2;rcases q2 with⟨rfl,q2⟩ | ⟨dx,fs,rfl,hdx,hl,q2⟩
 ·refine K_ hk T hn (od:=none) ⟨he,rfl,rfl,True.intro⟩ (U7 hk T he λh' t' n' e' k'=>?_)
  have xs:a≠hh.objs.size:=ba (ax he);have nN:H2 hh.objs.size=none:=I2.hok.fresh (ap _);have na:∀b,H2 b=none->b≠a:=λb n z=>by rw[z,ea]at n;cases n
  have ne:∀b w,H2 b=some w->(∀φ,w≠.ext φ)->b≠a/\b≠hh.objs.size:=λb w e n=>⟨λz=>by rw[z,ea]at e;cases e;exact n _ rfl,λz=>by rw[z,nN]at e;cases e⟩
  have up:∀b,b≠a->b≠hh.objs.size->upd (upd H2 hh.objs.size (.ext (XD hh.objs.size [(f,y)]))) a (.ext (gF a (.ref C) (some hh.objs.size))) b=H2 b:=λb n1 n2=>by rw[aM n1,aM n2]
  have lt:∀b o,hh.get? b=some o->b≠hh.objs.size:=λb o z=>ba (ax z);have hD:XD hh.objs.size [(f,y)] h':=⟨_,n',λg'=>by
    show j9 (List.lookup g' [(f,y)]) (if g'=f then some u else none);by_cases q:g'=f
    ·rw[if_pos q,q];simp only[List.lookup,beq_self_eq_true];exact ry
    ·rw[if_neg q]
     have:(g'==f)=false:=beq_false_of_ne q;simp only[List.lookup,this];trivial,λg' hg=>by
    by_cases q:g'=f
    ·rw[q];simp
    ·exact absurd (show (if g'=f then some u else none)=none by rw[if_neg q]) hg,by show 1<=50;decide⟩
  have I3:aL X ao σ (upd (upd H2 hh.objs.size (.ext (XD hh.objs.size [(f,y)]))) a (.ext (gF a (.ref C) (some hh.objs.size)))) ⟨h',g,d,t',os⟩:=I2.un (t':=t')
   ⟨λb o z n _ _=>k' b o (na b n) z,λb o z n _ _=>⟨o.slots,k' b o (na b n) z⟩,λb o z n _=>(up b (na b n) (lt b o z)).trans n,λb o z _=>by
    by_cases hb:b=a
    ·exact⟨_,by rw[hb];exact e'⟩
    ·exact⟨o,k' b o hb z⟩,λb xs e=>by
    obtain⟨n1,n2⟩:=ne b _ e λφ=>by simp
    exact(up b n1 n2).trans e,λb o xs e=>by
    obtain⟨n1,n2⟩:=ne b _ e λφ=>by simp
    exact(up b n1 n2).trans e,λb ps e=>by
    obtain⟨n1,n2⟩:=ne b _ e λφ=>by simp
    exact⟨#[],by rw[up b n1 n2,e];simp⟩⟩ λb o e=>by
   by_cases hb:b=a
   ·subst hb
    rw[au]at e;cases e;exact gF.ok ⟨_,_,e',rfl,rfl,rfl,h4,X7,λz=>xs (aw z).symm⟩
   ·rw[aM hb]at e
    by_cases hn:b=hh.objs.size
    ·subst hn
     rw[au]at e;cases e;exact hD.ok
    ·rw[aM hn]at e
     refine(I2.hok b o e).stay (λc w hc z=>k' c w (λy=>?_) z) (λc r=>?_) λc xs r=>?_
     ·rcases hc with hc | hc
      ·exact hb (hc.symm.trans y)
      ·rw[y,ea]at hc;cases hc
     ·obtain⟨n1,n2⟩:=ne c _ r λφ=>by simp
      exact(up c n1 n2).trans r
     ·obtain⟨n1,n2⟩:=ne c _ r λφ=>by simp
      exact(up c n1 n2).trans r
  exact⟨σ,_,I3,q2 _ xs.symm nN⟩
 ·obtain⟨⟨mA,nA,rA,wA,lA⟩,⟨od,hod⟩,_⟩:=I2.hok dx _ hdx
  refine K_ hk T hn (od:=some od) ⟨he,rfl,rfl,hod⟩ (Rk (ns:=fs.map (·.1)) hk T he nA wA (by rw[aa];lia) λh' t' n' k'=>?_);have I3:aL X ao σ (upd H2 dx (.ext (XD dx (iU f y fs)))) ⟨h',g,d,t',os⟩:=I2.write (t':=t') (e:=dx) (by rw[hdx];trivial) (.inl rfl) (λb o n z=>k' b o n z) (let ⟨o,_,_,e,_⟩:=n';⟨o,e⟩)
   (XD.ok ⟨_,n',λg'=>?_,λg' hg=>?_,?_⟩)
  ·exact⟨σ,_,I3,q2⟩
  ·show j9 ((iU f y fs).lookup g') (if g'=f then some u else mA g')
   rw[wQ];by_cases q:g'=f
   ·rw[if_pos q,if_pos q];exact ry
   ·rw[if_neg q,if_neg q];exact rA g'
  ·by_cases q:g'=f
   ·rw[q];exact(rz f y fs).1
   ·refine(rz f y fs).2 g' (wA g' λz=>hg ?_)
    show (if g'=f then some u else mA g')=none;rw[if_neg q];exact z
  ·have:=wR f y fs;lia⟩
end
structure InitOf (K:Frag)(R:Addr):Prop where
 ga:specialIn K (.ref R) "__getattribute__"=some (some (.builtin "type.__getattribute__"))
 rd:readsIn K R (.type "type")=true
 fc:findCls K (.ref R) (.type "type") "__init__"=some (.val (.builtin "ValueError.__init__"))
def aa2 (K:Frag)(t:TA):TE:=λσ H Q=>t σ H λvs H1=>∃a C f dd rest,vs=.ref a::rest/\H1 a=some (.ext (gF a (.ref C) dd))/\vL K C f=true/\rest.length<=sizeLine/\Q .non H1
section
variable {X:Cx}{R:Addr}{x:Str}{np apos pos:Pos}{e:Expr}{es:List Expr}{t:TA}
theorem tL {pl:Sem Bool}(hg:Gl X x)(hm:X.mg x=some (.ref R))(F:InitOf X.K R)(ha:QA X (e::es) t)(hdb:(x==("__debug__":Str))=false:=by decide)
  (hs:starEach (e::es) X.env=(false,eval e X.env)::starEach es X.env:=by rfl) (hpl:(backTo pos (starEach es X.env)).any (·.1)=false:=by rfl)
  (ht:eval (.Call (.Attribute (.Name x np) "__init__" apos) (e::es) [] pos) X.env=(do
   let ov <- eval (.Name x np) X.env
   standAt apos.atName
   let (f,first) <- holding [ov] (getMethod ov "__init__" pl)
   callWith pos f first (backTo pos (starEach (e::es) X.env)) (backToKw pos (keywordEach [] X.env))):=by rfl) :
  QE X (.Call (.Attribute (.Name x np) "__init__" apos) (e::es) [] pos) (aa2 X.K t):=⟨by
 intro ao s σ H Q I h;refine methodCall_KW (pl:=pl) (oJ I hg hm ?_ hdb) ht;refine method_cls I.gO F.ga (cls_value I.gO F.rd F.fc rfl ?_);have I0:=I.tok (s.toks+1);refine kN (bR (ha.out pos ao _ σ H _ I0 h) λus s1 zz=>?_) hs hpl;obtain⟨vs,H1,I1,r1,a,C,f,dd,rest,ev,hE,hC,hz,q⟩:=zz;subst ev;obtain⟨bm,N,nm,qn,bs,sn,sub,ab,col,Xb,k0,k1,k2,k3,k5,mN,cC,cN,ci,T⟩:=JB I1.gO hC;obtain⟨⟨oe,ws,he,h1,h2,h3,h4,X7,h5⟩,_⟩:=I1.hok a _ hE;obtain⟨u,us',rfl,ra,rr⟩:∃u us',us=u::us'/\cA (.ref a) u/\Vals rest us':=by
  cases r1 with
  | cons ra rr=>exact⟨_,_,rfl,ra,rr⟩
 obtain rfl:u=Value.ref a:=ra;obtain⟨hh,g,d,tk,os⟩:=s1;have hsz:0 < ws.size:=lx (b7 1) (fw.mp h4).1;refine X8 T cC he h1 h3 hsz (by rw[<- rr.length];exact hz) ?_;have e1:(hh.push (newArgs us')).get? a=some oe:=ag _ he;have I2:aL X ao σ H1 ⟨hh.push (newArgs us'),g,d,tk,os⟩:=I1.kept (t':=tk) λb u z=>ag _ z;have dd2:=io h3 (·.setIfInBounds 0 (Value.ref hh.objs.size));have e2:((hh.push (newArgs us')).update a (Obj.mapFields (·.setIfInBounds 0 (.ref hh.objs.size)))).get? a=some (oe.mapFields (·.setIfInBounds 0 (.ref hh.objs.size))):=fN _ e1 (gr dd2);have I3:aL X ao σ (upd H1 a (.ext (gF a (.ref C) dd))) ⟨(hh.push (newArgs us')).update a (Obj.mapFields (·.setIfInBounds 0 (.ref hh.objs.size))),g,d,tk,os⟩:=I2.write (t':=tk) (e:=a) (by rw[hE];trivial) (.inl rfl)
  (λb u n z=>(eP _ _ (f7 n)).trans z) ⟨_,e2⟩ (gF.ok ⟨_,_,e2,(mi _ _).trans h1,(K9 _ _).trans h2,dd2,by rw[h8 (by decide)];exact h4,by rw[h8 (by decide)];exact X7,h5⟩)
 rw[show upd H1 a (.ext (gF a (.ref C) dd))=H1 from funext λb=>by
  by_cases hb:b=a
  ·rw[hb,au,hE]
  ·rw[aM hb]]at I3
 exact⟨.non,H1,I3,rfl,q⟩⟩
end
theorem drop_new {H:Hp}{a dx:Addr}{o p q:HO}(na:H a=none)(ne:dx≠a)(nd:upd H a o dx=none):aA H (drop (upd (upd (upd H a o) dx p) a q) a)/\drop (upd (upd (upd H a o) dx p) a q) a dx=some p:=by
 rw[aM ne]at nd;refine⟨λb u e=>?_,?_⟩
 ·have h1:b≠a:=bJ e na
  have h2:b≠dx:=bJ e nd;rw[iK h1,aM h1,aM h2,aM h1];exact e
 ·rw[iK ne,aM ne,au]
structure nu (K:Frag)(mg:Str->Option Value)(name:Str)(C f:Addr)(fs:List Str):Prop where
 E_:mg name=some (.ref C)
 M:MkX K C f
 T:Bx K C
 is:vK K C
 hd:hasDictIn K C=true
 no:∀g∈fs,findIn K (.ref C) g=some none
def HS (C:Addr)(nm:Str):Sp:=λvs H Q _=>∃(a:Addr) (v:V),vs=[.ref a,v]/\H a=some (.ext (gF a (.ref C) none))/\∀dx,dx≠a->H dx=none->Q .non (upd (upd H dx (.ext (XD dx [(nm,v)]))) a (.ext (gF a (.ref C) (some dx))))
def HW (C:Addr)(n1 n2:Str):Sp:=λvs H Q _=>∃(a:Addr) (v w:V),vs=[.ref a,v,w]/\H a=some (.ext (gF a (.ref C) none))/\∀dx,dx≠a->H dx=none->Q .non (upd (upd (upd H dx (.ext (XD dx [(n1,v)]))) a (.ext (gF a (.ref C) (some dx)))) dx (.ext (XD dx (iU n2 w [(n1,v)]))))
def isT:Value->Bool
 | .bool b=>b
 | _=>false
section
variable {X:Cx}
variable {prog:Program}{w:World}{A:Around}{E:AB}{s:Shared}{z ti to u v a b:Addr}{i:Nat}{f g:Array Value}{x y m n:Value}
theorem Ow:∀{bs:List Bool} {its:List Value},Vals (bs.map V.bl) its->its.map isT=bs
 | [],_,.nil=>rfl
 | b::bs,_,.cons r t=>by
  cases r;rw[bP,Ow t];rfl
theorem adH {bs:List Bool}{its:List Value}(r:Vals (bs.map V.bl) its){A:Around}{s:Shared}:∀y∈its.toArray,SeqAt.EqAt A s y (.bool true) (isT y):=λy hy=>by
 obtain⟨m,hm,rfl⟩:=Array.mem_iff_getElem.mp hy;have hl:=r.length;have hm':m < bs.length:=by simp at hm hl;lia
 obtain⟨u1,e1,s1⟩:=r.get (i:=m) (x:=.bl bs[m]) (by simp[hm']);cases s1;have e2:its.toArray[m]=.bool bs[m]:=by
  rw[ac (by simpa using hm)]at e1;simpa using e1
 rw[e2];have:=SeqAt.EqAt.bool_bool (A:=A) (s:=s) bs[m] true;cases z:bs[m] <;> (rw[z]at this;exact this)
def adI:V->List V->Hp->VK->Prop:=λx vs H Q=>∃(l:Addr) (bs:List Bool) (j:Nat),x=.ref l/\vs=[.bl true]/\H l=some (.lst (bs.map V.bl))/\bs[j]?=some true/\(∀m,m < j->bs[m]?=some false)/\bs.length<=1000/\Q (.int j) H
theorem X_:R4 X "list.index" adI:=by
 intro ao s σ H x vs v us Q I rx rv h;obtain⟨l,bs,j,rfl,rfl,hH,hj,hno,hz,q⟩:=h;cases rx;obtain⟨u,rfl,ru⟩:=rv.one;cases ru;obtain⟨z,its,n,r,hl,e⟩:=I.yK hH;have em:=Ow r;have bY:its.length=bs.length:=by rw[<- em,aa]
 have hjb:j < bs.length:=(af.mp hj).1;have at_:∀m (hm:m < its.toArray.size),bs[m]?=some (isT its.toArray[m]):=λm hm=>by
  have hm':m < its.length:=by simpa using hm
  rw[<- em,a7,ac hm'];simp
 refine call_meets F.slot_list_index ⟨_,e,rfl⟩ F.entry_list_index (F.args_list_index_2 _ _) (SeqAt.list_indexAt l its.toArray n _ _ (.bool true) isT j (by simp;lia) (by lia) ?_ ?_) ⟨e,adH r,?_⟩
 ·have:=at_ j (by simp;lia)
  rw[hj]at this;exact(aw this).symm
 ·intro m hm hlt
  have:=at_ m hm;rw[hno m hlt]at this;exact(aw this).symm
 ·exact⟨.int j,H,I.tok _,⟨s.toks,rfl⟩,q⟩
theorem Yb {Q:AB}(D:ZA z ti to u v a b)(hz:IsZip s.heap z ti to .none)(hi:IsPair s.heap ti (.ref u) (.ref v))(ho:IsPair s.heap to m n)
  (hu:s.heap.IsListIter u a i) (hv:s.heap.IsListIter v b i) (ha:s.heap.IsList a f) (hb:s.heap.IsList b g) (hx:f[i]?=some x) (hy:g[i]?=some y)
  (q:∀h',IsZip h' z ti to (rawInt s.heap.objs.size)->IsPair h' to x y->h'.IsListIter u a (i+1)->h'.IsListIter v b (i+1)->IsPair h' s.heap.objs.size x y->
   (∀c o,c≠z->c≠to->c≠u->c≠v->s.heap.get? c=some o->h'.get? c=some o)->Q (.ref s.heap.objs.size) { s with heap:=h' }) :
  wpAny (model prog w) A (Builtin.«zip.__next__» ⟨[.ref z],[]⟩) (λfin s'=>∃r,fin=.done (.ret r)/\Q r s') E s:=by
 show wpAny _ _ (field (.ref z) 2 >>= _) _ _ _;refine ae (fm hz rfl (x:=.bool false) rfl ?_);show wpAny _ _ (field (.ref z) 3 >>= _) _ _ _;refine ae (fm hz rfl (x:=.ref ti) rfl (ae (iO hi rfl ?_)));show wpAny _ _ (Builtin.SmallTypes.ownedTupleIsFree (.ref z) >>= _) _ _ _;refine ae ?_;unfold Builtin.SmallTypes.ownedTupleIsFree;refine ae (fm hz rfl (x:=.none) rfl (av ?_));simp only[if_true];refine ae (wpAny_rule (ae (fm hz rfl (x:=.ref to) rfl (ae (ip hz (by simp) λg1 z1 k1=>?_)))))
 replace z1:IsZip g1 z ti to .ellipsis:=z1
 refine ae ?_;simp only[List.zipIdx_cons,List.zipIdx_nil,fS,ny];refine ae (ae (lS ?_));show wpAny _ _ (Builtin.SmallTypes.nextOf (.ref u) >>= _) _ _ _;refine ae (ko (hu.at λo e=>k1.extBut _ o D.q3 e) (j3 ha λo e=>k1.extBut _ o D.p2 e) hx λg2 u2 k2=>av ?_);have o2:IsPair g2 to m n:=k2.extBut _ _ D.q8 (k1.extBut _ _ D.q2 ho);refine ae (iO o2 rfl (ae (kS o2 λg3 o3 k3=>?_)))
 replace o3:IsPair g3 to x n:=o3
 refine ae (wpAny_letGo (av ?_));refine ae (ae (lS ?_));show wpAny _ _ (Builtin.SmallTypes.nextOf (.ref v) >>= _) _ _ _;refine ae (ko (hv.at λo e=>k3.extBut _ o D.q9.symm (k2.extBut _ o D.p1.symm (k1.extBut _ o D.q4 e))) (j3 hb λo e=>k3.extBut _ o D.p7 (k2.extBut _ o D.p8 (k1.extBut _ o D.p6 e))) hy λg4 v4 k4=>av ?_);have o4:IsPair g4 to x n:=k4.extBut _ _ D.q9 o3;refine ae (iO o4 rfl (ae (kS o4 λg5 o5 k5=>?_)))
 replace o5:IsPair g5 to x y:=o5
 refine ae (wpAny_letGo (av (av ?_)));refine ae (iO o5 rfl (ae (wpAny_newTuple ?_)));have sz:g5.objs.size=s.heap.objs.size:=by rw[k5.1,k4.1,k3.1,k2.1,k1.1]
 have z5:IsZip g5 z ti to .ellipsis:=k5.extBut _ _ D.q2.symm (k4.extBut _ _ D.q4.symm (k3.extBut _ _ D.q2.symm (k2.extBut _ _ D.q3.symm z1)));have kk:∀c o,c≠z->c≠to->c≠u->c≠v->s.heap.get? c=some o->g5.get? c=some o:=λc o c1 c2 c3 c4 e=>k5.extBut _ _ c2 (k4.extBut _ _ c4 (k3.extBut _ _ c2 (k2.extBut _ _ c3 (k1.extBut _ _ c1 e))));have u5:g5.IsListIter u a (i+1):=u2.at λo e=>k5.extBut _ o D.q8.symm (k4.extBut _ o D.p1 (k3.extBut _ o D.q8.symm e));have v5:g5.IsListIter v b (i+1):=v4.at λo e=>k5.extBut _ o D.q9.symm e;have lz:z < g5.objs.size:=ax z5;show wpAny _ _ (Builtin.SmallTypes.ownedTupleHandOut (.ref z) (.ref g5.objs.size) >>= _) _ _ _;refine ae ?_;unfold Builtin.SmallTypes.ownedTupleHandOut;have z6:IsZip (g5.push { cls:=.type "tuple",data:=.seq #[x,y] }) z ti to .ellipsis:=ag _ z5;refine ae (ip z6 (by simp) λg7 z7 k7=>?_)
 replace z7:IsZip g7 z ti to (rawInt g5.objs.size):=z7
 refine ip z7 (by simp) λg8 z8 k8=>?_
 replace z8:IsZip g8 z ti to (rawInt g5.objs.size):=z8
 have up:∀c o,c≠z->g5.get? c=some o->g8.get? c=some o:=λc o c1 e=>k8.extBut _ _ c1 (k7.extBut _ _ c1 (ag _ e));have t8:IsPair g8 g5.objs.size x y:=k8.extBut _ _ (kK lz) (k7.extBut _ _ (kK lz) (a9 _ rfl));rw[sz]at z8 t8;refine av ⟨_,rfl,?_⟩;show Q (.ref g5.objs.size) _;rw[sz];exact q g8 z8 (up _ _ D.q2 o5) (u5.at λo e=>up _ o D.q3 e) (v5.at λo e=>up _ o D.q4 e) t8 λc o c1 c2 c3 c4 e=>up c o c1 (kk c o c1 c2 c3 c4 e)
theorem aa3 {Q:Fin->Shared->Prop}(hh:A.handled=none)(D:ZA z ti to u v a b)(hz:IsZip s.heap z ti to .none)(hi:IsPair s.heap ti (.ref u) (.ref v))(ho:IsPair s.heap to m n)
  (hu:s.heap.IsListIter u a i) (hv:s.heap.IsListIter v b i) (ha:s.heap.IsList a f) (hb:s.heap.IsList b g) (hx:f[i]?=some x) (hy:g[i]?=none)
  (q:∀h' e,(∀c o,c≠z->c≠to->c≠u->c≠v->s.heap.get? c=some o->h'.get? c=some o)->(∃o,h'.get? e=some o/\o.cls=.type "StopIteration")->E (.ref e) { s with heap:=h' }) :
  wpAny (model prog w) A (Builtin.«zip.__next__» ⟨[.ref z],[]⟩) Q E s:=by
 show wpAny _ _ (field (.ref z) 2 >>= _) _ _ _;refine ae (fm hz rfl (x:=.bool false) rfl ?_);show wpAny _ _ (field (.ref z) 3 >>= _) _ _ _;refine ae (fm hz rfl (x:=.ref ti) rfl (ae (iO hi rfl ?_)));show wpAny _ _ (Builtin.SmallTypes.ownedTupleIsFree (.ref z) >>= _) _ _ _;refine ae ?_;unfold Builtin.SmallTypes.ownedTupleIsFree;refine ae (fm hz rfl (x:=.none) rfl (av ?_));simp only[if_true];refine ae (wpAny_rule (ae (fm hz rfl (x:=.ref to) rfl (ae (ip hz (by simp) λg1 z1 k1=>?_)))))
 replace z1:IsZip g1 z ti to .ellipsis:=z1
 refine ae ?_;simp only[List.zipIdx_cons,List.zipIdx_nil,fS,ny];refine ae (ae (lS ?_));show wpAny _ _ (Builtin.SmallTypes.nextOf (.ref u) >>= _) _ _ _;refine ae (ko (hu.at λo e=>k1.extBut _ o D.q3 e) (j3 ha λo e=>k1.extBut _ o D.p2 e) hx λg2 u2 k2=>av ?_);have o2:IsPair g2 to m n:=k2.extBut _ _ D.q8 (k1.extBut _ _ D.q2 ho);refine ae (iO o2 rfl (ae (kS o2 λg3 o3 k3=>?_)))
 replace o3:IsPair g3 to x n:=o3
 refine ae (wpAny_letGo (av ?_));refine ae (ae (lS ?_));show wpAny _ _ (Builtin.SmallTypes.nextOf (.ref v) >>= _) _ _ _;refine ae (wpAny_nextOf_list_end hh (hv.at λo e=>k3.extBut _ o D.q9.symm (k2.extBut _ o D.p1.symm (k1.extBut _ o D.q4 e))) (j3 hb λo e=>k3.extBut _ o D.p7 (k2.extBut _ o D.p8 (k1.extBut _ o D.p6 e))) hy λg4 e k4 he=>?_);obtain⟨oe,e1,e2⟩:=he;have z2:IsZip g4 z ti to .ellipsis:=k4 _ _ D.q4.symm (k3.extBut _ _ D.q2.symm (k2.extBut _ _ D.q3.symm z1));have ez:e≠z:=λt=>by subst t;rw[z2]at e1;cases e1;simp at e2
 exact ip z2 (by simp) λg5 _ k5=>q g5 e (λc o c1 c2 c3 c4 t=>k5.extBut _ _ c1 (k4 _ _ c4 (k3.extBut _ _ c2 (k2.extBut _ _ c3 (k1.extBut _ _ c1 t))))) ⟨oe,k5.extBut _ _ ez e1,e2⟩
abbrev zl1 (h:Heap)(a:Addr):Heap:=h.push { cls:=.type "list_iterator",data:=.fields #[.ref a,.int 0 0] }
abbrev zl2 (h:Heap)(a b:Addr):Heap:=(zl1 h a).push { cls:=.type "list_iterator",data:=.fields #[.ref b,.int 0 0] }
abbrev zl3 (h:Heap)(a b:Addr):Heap:=(zl2 h a b).push { cls:=.type "tuple",data:=.seq #[.ref h.objs.size,.ref (zl1 h a).objs.size] }
abbrev zl4 (h:Heap)(a b:Addr):Heap:=(zl3 h a b).push { cls:=.type "tuple",data:=.seq #[.none,.none] }
abbrev Sy (h:Heap)(a b:Addr):Heap:=(zl4 h a b).push { cls:=.type "zip",data:=.fields #[.none,.bool false,.bool false,.ref (zl2 h a b).objs.size,.ref (zl3 h a b).objs.size] }
theorem adJ (a b:Addr)(f g:Array Value):Meets (Builtin.«zip.__new__» ⟨[.type "zip",.ref a,.ref b],[]⟩) (λ_ R s=>s.heap.IsList a f/\s.heap.IsList b g/\R (.ok (.ret (.ref (zl4 s.heap a b).objs.size))) { s with heap:=Sy s.heap a b }):=
 .of_wp λprog w A R s h=>by
  obtain⟨hp,gs,d,tk,os⟩:=s;obtain⟨h1,h2,h⟩:=h;have hsub:=sub_zip;have j1:Heap.IsList (Shared.heap ⟨hp,gs,d,tk,os⟩) a f:=h1;have j2:Heap.IsList (Shared.heap ⟨hp.push { cls:=.type "list_iterator",data:=.fields #[.ref a,.int 0 0] },gs,d,tk,os⟩) b g:=j3 h2 λo e=>ag _ e
  wp_walk using fe j1,fe j2
  exact⟨_,rfl,h⟩
theorem ahZ {Q:AB}(ha:s.heap.IsList a f)(hb:s.heap.IsList b g)
  (q:∀h',IsZip h' (s.heap.objs.size+4) (s.heap.objs.size+2) (s.heap.objs.size+3) .none->IsPair h' (s.heap.objs.size+2) (.ref s.heap.objs.size) (.ref (s.heap.objs.size+1))->IsPair h' (s.heap.objs.size+3) .none .none->
   h'.IsListIter s.heap.objs.size a 0->h'.IsListIter (s.heap.objs.size+1) b 0->(∀c o,s.heap.get? c=some o->h'.get? c=some o)->Q (.ref (s.heap.objs.size+4)) { s with heap:=h' }) :
  wpAny (model prog w) A (call (.type "zip") [.ref a,.ref b]) Q E s:=by
 refine callType_new F.called_zip (by decide) (F.typeCall_zip_2 _ _) (F.newCall_zip_2 _ _) (λobj=>F.args_object_init_3 obj _ _) F.entry_zip_new (adJ a b f g) ⟨ha,hb,?_⟩;have n1:(zl1 s.heap a).objs.size=s.heap.objs.size+1:=dr ..;have n2:(zl2 s.heap a b).objs.size=s.heap.objs.size+2:=by rw[dr,n1]
 have n3:(zl3 s.heap a b).objs.size=s.heap.objs.size+3:=by rw[dr,n2]
 have n4:(zl4 s.heap a b).objs.size=s.heap.objs.size+4:=by rw[dr,n3]
 have e5:(Sy s.heap a b).get? (zl4 s.heap a b).objs.size=some _:=a9 _ rfl;have e4:(Sy s.heap a b).get? (zl3 s.heap a b).objs.size=some _:=ag _ (a9 _ rfl);have e3:(Sy s.heap a b).get? (zl2 s.heap a b).objs.size=some _:=ag _ (ag _ (a9 _ rfl));have e2:(Sy s.heap a b).get? (zl1 s.heap a).objs.size=some _:=ag _ (ag _ (ag _ (a9 _ rfl)));have e1:(Sy s.heap a b).get? s.heap.objs.size=some _:=ag _ (ag _ (ag _ (ag _ (a9 _ rfl))));show _/\_;rw[n2,n3,n4]at e5;rw[n1,n2]at e3;rw[n3]at e4;rw[n1]at e2;rw[n4];exact⟨⟨_,e5,rfl⟩,q _ e5 e3 e4 ⟨_,e1,rfl,rfl⟩ ⟨_,e2,rfl,rfl⟩ λc o t=>ag _ (ag _ (ag _ (ag _ (ag _ t))))⟩
end
def Ox (K:W.Frag)(a b:Addr):It:=
 ⟨λi H=>∃xs ys x y,aW K H a xs/\aW K H b ys/\xs[i]?=some x/\ys[i]?=some y,λi H t H'=>∃T x y,H T=none/\t=.ref T/\(∀xs,aW K H a xs->xs[i]?=some x)/\(∀ys,aW K H b ys->ys[i]?=some y)/\H'=upd H T (.tup [x,y]),λi H=>∃xs ys,aW K H a xs/\aW K H b ys/\i < xs.length/\ys.length<=i⟩
theorem Yc {P:Program}{w:World}{K:W.Frag}{elts:List Expr}{x1:Nat}{pos:Pos}{z ti to u v a b:Addr}(D:ZA z ti to u v a b) :
  Turn P w K (.Tuple elts x1 pos) (Ox K a b) [z,ti,to,u,v] z (λi h=>IsZip h z ti to .none/\IsPair h ti (.ref u) (.ref v)/\(∃m n,IsPair h to m n)/\h.IsListIter u a i/\h.IsListIter v b i) where
 mem:=by simp
 obj:=λi h st c hc=>by
  obtain⟨h1,h2,⟨m,n,h3⟩,⟨o4,h4,_,d4⟩,⟨o5,h5,_,d5⟩⟩:=st;simp only[bo,g6,or_false]at hc;rcases hc with e | e | e | e | e <;> subst e
  ·exact⟨_,h1,λv y=>by cases y⟩
  ·exact⟨_,h2,λv y=>by cases y⟩
  ·exact⟨_,h3,λv y=>by cases y⟩
  ·exact⟨o4,h4,λv y=>by rw[d4]at y;cases y⟩
  ·exact⟨o5,h5,λv y=>by rw[d5]at y;cases y⟩
 keep:=λi h h' st k=>by
  obtain⟨h1,h2,⟨m,n,h3⟩,h4,h5⟩:=st;exact⟨k z (by simp) _ h1,k ti (by simp) _ h2,⟨m,n,k to (by simp) _ h3⟩,h4.at λo e=>k u (by simp) o e,h5.at λo e=>k v (by simp) o e⟩
 item:=by
  intro X hP hw hK hc i ao s σ H E I hf st hg;subst hP hw hK;obtain⟨h1,h2,⟨m,n,h3⟩,h4,h5⟩:=st;obtain⟨xs,ys,x,y,hxs,hys,hx,hy⟩:=hg;obtain⟨fs,rf,pf,_⟩:=I.list hxs;obtain⟨gs,rg,pg,_⟩:=I.list hys;obtain⟨p,ep,rp⟩:=rf.get hx;obtain⟨q,eq,rq⟩:=rg.get hy;have lt:∀c∈[z,ti,to,u,v],c < s.heap.objs.size:=λc hc=>by
   simp only[bo,g6,or_false]at hc;rcases hc with e | e | e | e | e <;> subst e
   ·exact ax h1
   ·exact ax h2
   ·exact ax h3
   ·obtain⟨o,e,_⟩:=h4;exact ax e
   ·obtain⟨o,e,_⟩:=h5;exact ax e
  have hT:s.TypeIs (.ref z) "zip":=⟨_,h1,rfl⟩
  unfold pyNext;refine ae (iX (ib (name:=Str.ofString "__next__") hT kU (fF kU hT F.entry_zip_next ?_ (F.args_zip_next_1 _))));refine Yb D h1 h2 h3 h4 h5 (show s.heap.IsList a fs.toArray from pf.isList) (show s.heap.IsList b gs.toArray from pg.isList) (x:=p) (y:=q) (by simpa using ep) (by simpa using eq) λh' k1 k2 k3 k4 k5 k6=>av ?_;refine⟨_,rfl,wpAny_letOwnedTupleGo_zip k1 λh2' e2 sb=>?_⟩;have up:∀c o,c∉[z,ti,to,u,v]->s.heap.get? c=some o->h2'.get? c=some o:=λc o hc e=>by
   simp only[bo,g6,or_false,not_or]at hc;exact sb.extBut _ _ hc.1 (k6 c o hc.1 hc.2.2.1 hc.2.2.2.1 hc.2.2.2.2 e)
  have nz:s.heap.objs.size≠z:=kK (lt z (by simp));obtain⟨I3,fr⟩:=aL.aho (tk:=s.toks) I hf lt rp rq (sb.extBut _ _ nz k5) up;exact⟨.ref s.heap.objs.size,_,I3,rfl,⟨s.heap.objs.size,x,y,I.hok.fresh (ap _),rfl,λzs hz=>by rw[I.Fz hz hxs];exact hx,λzs hz=>by rw[I.Fz hz hys];exact hy,rfl⟩,
   ⟨e2,sb.extBut _ _ D.q1 (k6 _ _ D.q1 D.q5 D.q6 D.q7 h2),⟨_,_,sb.extBut _ _ D.q2 k2⟩,k3.at λo e=>sb.extBut _ o D.q3 e,k4.at λo e=>sb.extBut _ o D.q4 e⟩,fr⟩
 done:=by
  intro X hP hw hK hc i ao s σ H E I hf st hg;subst hP hw hK;obtain⟨h1,h2,⟨m,n,h3⟩,h4,h5⟩:=st;obtain⟨xs,ys,hxs,hys,hx,hl⟩:=hg;obtain⟨fs,rf,pf,_⟩:=I.list hxs;obtain⟨gs,rg,pg,_⟩:=I.list hys;have bY:=rg.length;obtain⟨p,ep,rp⟩:=rf.get (ac hx);have hh:X.A.in1.handled=none:=by simp[I.ok.hd hc]
  have hT:s.TypeIs (.ref z) "zip":=⟨_,h1,rfl⟩
  unfold pyNext;refine ae (iX (ib (name:=Str.ofString "__next__") hT kU (fF kU hT F.entry_zip_next ?_ (F.args_zip_next_1 _))));refine aa3 hh D h1 h2 h3 h4 h5 (show s.heap.IsList a fs.toArray from pf.isList) (show s.heap.IsList b gs.toArray from pg.isList) (x:=p) (by simpa using ep) (by simp;lia) λh' e k zz=>?_;obtain⟨o,e1,e2⟩:=zz;refine ae (ky (T:="StopIteration") (b:=true) ⟨o,e1,e2⟩ isSubtype_stop ?_);refine av ⟨rfl,aL.Sw (fp:=[z,ti,to,u,v]) (t':=s.toks) I (λc o hc e=>?_) hf⟩;simp only[bo,g6,or_false,not_or]at hc;exact k c o hc.1 hc.2.2.1 hc.2.2.2.1 hc.2.2.2.2 e
 self:=λA i s Q E st h=>wpAny_pyIter_zip st.1 h
section
variable {X:Cx}{elts:List Expr}{x1:Nat}{tp:Pos}
def ahr (K:W.Frag)(ta:TA):TI:=λσ H R=>ta σ H λvs H1=>∃a b,vs=[.ref a,.ref b]/\(∃xs,aW K H1 a xs)/\(∃ys,aW K H1 b ys)/\R (Ox K a b) H1
theorem adK {a b:Expr}{ta:TA}{p pos:Pos}(hg:Gl X "zip")(hm:X.mg "zip"=none)(ha:QA X [a,b] ta)(hs:starEach [a,b] X.env=[(false,eval a X.env),(false,eval b X.env)]:=by rfl)(hs2:starEach [b] X.env=[(false,eval b X.env)]:=by rfl) :
  QI X (.Tuple elts x1 tp) (.Call (.Name "zip" p) [a,b] [] pos) (ahr X.K ta):=⟨by
 intro ao s σ H R I h;refine Call_ (xT I hg hm XR (gf (bR (ha.out pos ao s σ H _ I h) λus s1 zz=>?_) (by rw[hs,hs2]) (by rw[hs2];rfl)));obtain⟨vs,H1,I1,r1,q1⟩:=zz;obtain⟨a,b,e,⟨xs,hxs⟩,⟨ys,hys⟩,q⟩:=q1;subst e;cases r1 with
 | cons r rr=>
  cases rr with
  | cons r' rr=>
   cases rr;cases r;cases r';obtain⟨fs,rf,pf,_⟩:=I1.list hxs;obtain⟨gs,rg,pg,_⟩:=I1.list hys;have la:a < s1.heap.objs.size:=by
    obtain⟨o,ho,_⟩:=(show s1.heap.IsList a fs.toArray from pf.isList)
    exact ax ho
   have lb:b < s1.heap.objs.size:=by
    obtain⟨o,ho,_⟩:=(show s1.heap.IsList b gs.toArray from pg.isList)
    exact ax ho
   refine ahZ (show s1.heap.IsList a fs.toArray from pf.isList) (show s1.heap.IsList b gs.toArray from pg.isList) λh' k1 k2 k3 k4 k5 kk=>wpAny_pyIter_zip k1 ?_;have D:ZA (s1.heap.objs.size+4) (s1.heap.objs.size+2) (s1.heap.objs.size+3) s1.heap.objs.size (s1.heap.objs.size+1) a b:=by
    have key:∀N a b:Nat,a < N->b < N->ZA (N+4) (N+2) (N+3) N (N+1) a b:=λN a b la lb=>by constructor <;> (show (_:Nat)≠_) <;> lia
    exact key _ _ _ la lb
   refine⟨s1.heap.objs.size+4,[s1.heap.objs.size+4,s1.heap.objs.size+2,s1.heap.objs.size+3,s1.heap.objs.size,s1.heap.objs.size+1],_,_,H1,rfl,I1.kept (t':=s1.toks) kk,Yc D,⟨k1,k2,⟨_,_,k3⟩,k4,k5⟩,λc hc=>?_,q⟩;have hc':s1.heap.objs.size<=c:=by
    simp only[bo,g6,or_false]at hc;have key:∀N c:Nat,(c=N+4\/c=N+2\/c=N+3\/c=N\/c=N+1)->N<=c:=λN c h=>by lia
    exact key _ _ hc
   exact I1.Jt hc' (I1.hok.fresh hc')⟩
end
theorem af4 {K:W.Frag}{a b:Addr}{xs ys:List V}{D:Addr}{f:St->St}{KT:W.Frag}{tt:TT}{te:TE}{σ:St}{H:Hp}{R:Hp->Prop}(bY:xs.length=ys.length+1)(Pv:Nat->List V->Hp->Prop)(h0:Pv 0 [] (upd H D (.lst [])))
  (hl:∀i zs H,i<=ys.length->Pv i zs H->aW K H a xs/\aW K H b ys)
  (hs:∀i x y zs H T,xs[i]?=some x->ys[i]?=some y->Pv i zs H->H T=none->nW ys.length i D (λv H Q=>∃a p q,v=.ref a/\aP KT H a [p,q]/\Q [some p,some q]) f σ tt te (.ref T) (upd H T (.tup [x,y])) zs (Pv (i+1)))
  (hd:∀zs H,Pv ys.length zs H->R H) :
  ∃W:Nat->Nat->List V->Hp->Prop,(∃m,W 0 m [] (upd H D (.lst [])))/\
   ∀i m zs H,W i m zs H->((Ox K a b).stop i H/\R H)\/((Ox K a b).go i H/\∀x H',(Ox K a b).oK i H x H'->∃a p q,x=.ref a/\aP KT H' a [p,q]/\(tt ([some p,some q]++f σ) H' λb H2=>
    if b=true then te ([some p,some q]++f σ) H2 λy H3=>H3 D=some (.lst zs)/\zs.length < sizeLine/\∃m',m' < m/\W (i+1) m' (zs++[y]) (upd H3 D (.lst (zs++[y])))
    else ∃m',m' < m/\W (i+1) m' zs H2)):=by
 refine⟨λi m zs H=>m=ys.length-i/\i<=ys.length/\Pv i zs H,⟨ys.length,by simp,b7 _,h0⟩,?_⟩;rintro i m zs H ⟨rfl,hi,p⟩;obtain⟨q1,q2⟩:=hl i zs H hi p;by_cases hlt:i < ys.length
 ·refine .inr ⟨⟨xs,ys,xs[i],ys[i],q1,q2,by simp[show i < xs.length by lia],by simp[hlt]⟩,λt H' y=>?_⟩
  obtain⟨T,x,y,hT,rfl,hx,hy,rfl⟩:=y;exact hs i x y zs H T (hx xs q1) (hy ys q2) p hT
 ·have e:i=ys.length:=by lia
  subst e;exact .inl ⟨⟨xs,ys,q1,q2,by lia,ap _⟩,hd zs H p⟩
section
variable {prog:Program}{w:World}{A:Around}{E:AB}{s:Shared}
variable {X:Cx}
theorem adL {a b:Addr}{oa ob:Obj}{na nb:Nat}{x1 y1:Nat}{t1 t2 t3 t4:Tok}{Q:AB}
  (ha:s.heap.get? a=some oa) (ca:oa.cls=.type "tuple") (da:oa.data=.seq [Value.int x1 t1,Value.int y1 t2].toArray na)
  (hb:s.heap.get? b=some ob) (cb:ob.cls=.type "tuple") (db:ob.data=.seq [Value.int x1 t3,Value.int y1 t4].toArray nb) (hu:A.units < cLine)
  (q:Q (.bool false) s):wpAny (model prog w) A (compareOp .Lt (.ref a) (.ref b)) Q E s:=by
 have Ta:s.TypeIs (.ref a) "tuple":=⟨oa,ha,ca⟩
 have Tb:s.TypeIs (.ref b) "tuple":=⟨ob,hb,cb⟩
 show wpAny _ _ (richCompare .Lt (.ref a) (.ref b)) Q E s;refine wpAny_richCompare_same_room (op:=.Lt) (T:="tuple") Ta Tb kQ (fF kQ Ta F.entry_tuple_lt ?_ (F.args_tuple_lt_2 _ _)) hu;show wpAny _ _ (isInstance (.ref b) (.type "tuple") >>= _) _ _ s;refine ae (ky Tb isSubtype_tuple_tuple ?_);simp only[i6,cE,if_false];refine ae (js ha da (ae (js hb db (ae ?_))));rw[show [Value.int (x1:Int) t1,Value.int (y1:Int) t2].toArray.toList.zip [Value.int (x1:Int) t3,Value.int (y1:Int) t4].toArray.toList=[(Value.int (x1:Int) t1,Value.int (x1:Int) t3),(Value.int (y1:Int) t2,Value.int (y1:Int) t4)] from rfl];rw[fS];refine ae ?_;dsimp only;refine ae (d6 _ _ _ _ prog w _ _ ?_);simp only[beq_self_eq_true,i6,cE,if_false];refine av ?_;dsimp only;rw[fS];refine ae ?_;dsimp only;refine ae (d6 _ _ _ _ prog w _ _ ?_);simp only[beq_self_eq_true,i6,cE,if_false];refine av ?_;dsimp only;rw[ny];refine av ?_;dsimp only;exact av ⟨_,rfl,by show Builtin.Tuple.tupleCompareSizes CmpOp.Lt 2 2≠_;decide,q⟩
def ah0:R2:=λx y H Q=>∃(a b:Addr) (x1 y1 x2 y2:Nat),x=.ref a/\y=.ref b/\H a=some (.tup [.int x1,.int y1])/\H b=some (.tup [.int x2,.int y2])/\y1 < 1000/\y2 < 1000/\
 Q (.bl (decide (x1*1000+y1 < x2*1000+y2))) H
theorem af5 (hu:X.A.units < cLine):fJ X (compareOp .Lt) ah0:=by
 intro ao s σ H x y v u Q I rx ry h;obtain⟨a,b,x1,y1,x2,y2,rfl,rfl,ea,eb,l1,l2,q⟩:=h;by_cases hne:x1*1000+y1=x2*1000+y2
 ·have e1:x1=x2:=by lia
  have e2:y1=y2:=by lia
  subst e1 e2;rw[al (dP _)]at q;cases rx;cases ry;obtain⟨_,tv,HD,o,ho,hc,n,hd⟩:=I.hok _ _ ea;obtain⟨_,tv',aaW,o',ho',hc',n',hd'⟩:=I.hok _ _ eb;cases HD with
  | cons q1 rr=>
   cases rr with
   | cons q2 rr=>
    cases rr;cases aaW with
    | cons q3 rr'=>
     cases rr' with
     | cons q4 rr'=>
      cases rr';obtain⟨t1,rfl⟩:=q1;obtain⟨t2,rfl⟩:=q2;obtain⟨t3,rfl⟩:=q3;obtain⟨t4,rfl⟩:=q4;exact adL ho hc hd ho' hc' hd' hu ⟨.bl _,H,I,rfl,q⟩
 ·exact afV hu ao s σ H _ _ _ _ Q I rx ry ⟨a,b,x1,y1,x2,y2,[],[],rfl,rfl,ea,eb,l1,l2,hne,q⟩
end
def adM (K:W.Frag):List V->Hp->VK->Prop:=λxs H Q=>∃(a C tp:Addr) (Ds:List Addr) (dd:Option Addr) (b:Bool),xs=[.ref a,.ref tp]/\H a=some (.ext (uN a (.ref C) dd))/\jm H dd/\vK K C/\H tp=some (.tup (Ds.map V.ref))/\kitAny K (.ref C) (Ds.map Value.ref)=some b/\Q (.bl b) H
theorem HX:∀{Ds:List Addr} {us:List Value},Vals (Ds.map V.ref) us->us=Ds.map Value.ref
 | [],_,.nil=>rfl
 | _::_,_,.cons r rr=>by cases r;rw[HX rr];rfl
section
variable {X:Cx}
theorem Mv (hc:True:=True.intro):gq X (.builtin "isinstance") (adM X.K):=by
 intro ao s σ H xs us Q I r h;obtain⟨a,C,tp,Ds,dd,b,rfl,ha,hd,T,ht,k,q⟩:=h;obtain⟨u1,w',rfl,r1,r2⟩:=vals2 r;obtain rfl:u1=Value.ref a:=r1;obtain rfl:w'=Value.ref tp:=r2;obtain⟨⟨oe,vs,e1,e2,e3,e4,_⟩,_,_⟩:=(show dH X.prog X.w H s.heap a (.ext (uN a (.ref C) dd)) from I.hok a _ ha)
 have hI:∃ox odo,InstAt s.heap a ox C odo:=by
  cases dd with
  | none=>exact⟨oe,none,e1,e2,by unfold notCls;rw[e4],by rw[e3];trivial⟩
  | some d=>
   obtain⟨o1,hfs⟩:=hd;obtain⟨o,ho⟩:=(I.hok d _ hfs).there;exact⟨oe,some o,e1,e2,by unfold notCls;rw[e4],by rw[e3];exact ho⟩
 obtain⟨_,tv,HD,⟨oc,od,odt,osl⟩,ho,hc,n,hdt⟩:=I.hok _ _ ht;obtain rfl:=HX HD;cases hc;cases hdt;exact kia_tup (Ou T) I.gO hI ho k (λz=>nomatch z) λtk=>⟨.bl b,H,I.tok tk,rfl,q⟩
open Classical in
def acG (K:W.Frag)(neg:Bool):R2:=λx y H Q=>∃n d es,n<=60/\jY K H n d x/\jY K H n (.lst es) y/\Q (.bl (if neg then !decide (d∈es) else decide (d∈es))) H
theorem SJ (hu:X.A.units+64 < cLine):fJ X (compareOp .In) (acG X.K false):=by
 intro ao s σ H x y v u Q I rx ry h;obtain⟨n,d,es,hn,hd,he,q⟩:=h;obtain⟨as,ra⟩:=hd.reads I rx;obtain⟨bs,rb⟩:=he.reads I ry;have l1:=hd.lay;have l2:=he.lay;rw[toP]at rb;simp only[toP,PyData.canLay0,PyData.depth]at l2;refine SeqAt.in_list_reads rb ra l2.1 l1.1 (by have:=mB (PyData.depthAll (jM es)) (toP d).depth;lia) ⟨.bl _,H,I,rfl,?_⟩;rw[Jz];exact q
theorem U8 (hu:X.A.units+64 < cLine):fJ X (compareOp .NotIn) (acG X.K true):=by
 intro ao s σ H x y v u Q I rx ry h;obtain⟨n,d,es,hn,hd,he,q⟩:=h;obtain⟨as,ra⟩:=hd.reads I rx;obtain⟨bs,rb⟩:=he.reads I ry;have l1:=hd.lay;have l2:=he.lay;rw[toP]at rb;simp only[toP,PyData.canLay0,PyData.depth]at l2;refine SeqAt.notIn_list_reads rb ra l2.1 l1.1 (by have:=mB (PyData.depthAll (jM es)) (toP d).depth;lia) ⟨.bl _,H,I,rfl,?_⟩;rw[Jz];exact q
theorem La (hc:X.calm=true):gq X (.builtin "min") (λxs H Q=>∃(p:Addr) (ns:List Int),xs=[.ref p]/\aW X.K H p (ns.map V.int)/\0 < ns.length/\∀m∈ns,(∀x∈ns,m<=x)->Q (.int m) H):=by
 intro ao s σ H xs us Q I r h;obtain⟨p,ns,rfl,hq,h0,q⟩:=h;obtain⟨u,rfl,ru⟩:=vals1 r;cases ru;obtain⟨its,rv,pl,hz⟩:=I.list hq;have bY:=rv.length;rw[aa]at bY;have hne:p≠s.heap.objs.size:=by
  obtain⟨o,ho,_⟩:=pl.isList;exact ba (ax ho)
 have hb:∀(i:Nat) (v:Value),its.toArray[i]?=some v->∃t,v=.int (ns.getD i 0) t:=λi v hv=>by
  have hv:its[i]?=some v:=by simpa using hv
  have hi:i < ns.length:=by have:=(af.mp hv).1;lia
  obtain⟨u,hu,ru⟩:=rv.get (i:=i) (x:=.int ns[i]) (by simp[hi]);rw[hv]at hu;cases hu;obtain⟨t,e⟩:=ru;exact⟨t,by rw[e];simp[List.getD,hi]⟩
 refine call_min_walk (fe pl.isList ?_);refine⟨s.heap.objs.size,_,_,_,_,_,_,rfl,Walks.list (A:=X.A.in1) (I.ok.hd hc) s.heap.objs.size p hne its.toArray,⟨⟨_,a9 _ rfl,rfl,rfl⟩,pl.isList.at λo e=>ag _ e⟩,?_,by simp;lia,CmpOf.ints_lt (λi=>ns.getD i 0) hb,λv h' tk hP kk=>?_⟩
 ·intro b hb
  have:b=s.heap.objs.size\/b=p:=by simpa using hb
  rw[dr];rcases this with e | e
  ·rw[e];exact gc _
  ·rw[e]
   obtain⟨o,ho,_⟩:=pl.isList;exact fg (ax ho)
 ·have I1:aL X ao σ H { s with heap:=h',toks:=tk }:=I.kept λb o e=>kk b o (by
   intro hm;have:b=s.heap.objs.size:=by simpa using hm
   subst this;exact absurd (ax e) (dP _)) (ag _ e)
  obtain⟨k1,k2⟩:=argBest_lt (λi=>ns.getD i 0) (its.toArray.size-1);have hsz:its.toArray.size=ns.length:=by simp[bY]
  obtain⟨t,e⟩:=hb _ v hP;generalize argBest _ _=j at k1 k2 e;have hj:j < ns.length:=by lia
  refine⟨.int (ns.getD j 0),H,I1,⟨t,e⟩,q _ (by simp[List.getD,hj]) λx hx=>?_⟩;obtain⟨i,hi,rfl⟩:=c_.mp hx;have:=k2 i (by lia);simpa [List.getD,hi] using this
theorem Ld (hc:X.calm=true):gq X (.builtin "max") (λxs H Q=>∃(p:Addr) (ns:List Int),xs=[.ref p]/\aW X.K H p (ns.map V.int)/\0 < ns.length/\∀m∈ns,(∀x∈ns,m>=x)->Q (.int m) H):=by
 intro ao s σ H xs us Q I r h;obtain⟨p,ns,rfl,hq,h0,q⟩:=h;obtain⟨u,rfl,ru⟩:=vals1 r;cases ru;obtain⟨its,rv,pl,hz⟩:=I.list hq;have bY:=rv.length;rw[aa]at bY;have hne:p≠s.heap.objs.size:=by
  obtain⟨o,ho,_⟩:=pl.isList;exact ba (ax ho)
 have hb:∀(i:Nat) (v:Value),its.toArray[i]?=some v->∃t,v=.int (ns.getD i 0) t:=λi v hv=>by
  have hv:its[i]?=some v:=by simpa using hv
  have hi:i < ns.length:=by have:=(af.mp hv).1;lia
  obtain⟨u,hu,ru⟩:=rv.get (i:=i) (x:=.int ns[i]) (by simp[hi]);rw[hv]at hu;cases hu;obtain⟨t,e⟩:=ru;exact⟨t,by rw[e];simp[List.getD,hi]⟩
 refine call_max_walk (fe pl.isList ?_);refine⟨s.heap.objs.size,_,_,_,_,_,_,rfl,Walks.list (A:=X.A.in1) (I.ok.hd hc) s.heap.objs.size p hne its.toArray,⟨⟨_,a9 _ rfl,rfl,rfl⟩,pl.isList.at λo e=>ag _ e⟩,?_,by simp;lia,CmpOf.ints_gt (λi=>ns.getD i 0) hb,λv h' tk hP kk=>?_⟩
 ·intro b hb
  have:b=s.heap.objs.size\/b=p:=by simpa using hb
  rw[dr];rcases this with e | e
  ·rw[e];exact gc _
  ·rw[e]
   obtain⟨o,ho,_⟩:=pl.isList;exact fg (ax ho)
 ·have I1:aL X ao σ H { s with heap:=h',toks:=tk }:=I.kept λb o e=>kk b o (by
   intro hm;have:b=s.heap.objs.size:=by simpa using hm
   subst this;exact absurd (ax e) (dP _)) (ag _ e)
  obtain⟨k1,k2⟩:=argBest_gt (λi=>ns.getD i 0) (its.toArray.size-1);have hsz:its.toArray.size=ns.length:=by simp[bY]
  obtain⟨t,e⟩:=hb _ v hP;generalize argBest _ _=j at k1 k2 e;have hj:j < ns.length:=by lia
  refine⟨.int (ns.getD j 0),H,I1,⟨t,e⟩,q _ (by simp[List.getD,hj]) λx hx=>?_⟩;obtain⟨i,hi,rfl⟩:=c_.mp hx;have:=k2 i (by lia);simpa [List.getD,hi] using this
end
theorem adN {X:Cx}{scope:Scope}{cl:List (Str × Addr)}{C:Addr}{N:List Str}{s₀:Shared}{H₀:Hp}{fp:List Addr}{x y z z4:Str}{px py pz p4 pos:Pos}{k:Nat}(K:W.Frag)(hc:X.calm=true)(hN:N.Nodup)(h0:N[0]?=some x)(h1:N[1]?=some y)(h2:N[2]?=some z)(h3:N[3]?=some z4)(hx:scope.names.lookup x=some .local)(hy:scope.names.lookup y=some .local)(hz:scope.names.lookup z=some .local)(h4:scope.names.lookup z4=some .local)(hK:X.K=K:=by rfl) :
  K5 (dz X scope cl C N s₀ H₀ fp) (.Tuple [.Name x px,.Name y py,.Name z pz,.Name z4 p4] k pos) 4 (λv H Q=>∃a p q r u4,v=.ref a/\aP K H a [p,q,r,u4]/\Q [some p,some q,some r,some u4]):=by
 subst hK;intro ao s pre rest H v u Q hp I r q;obtain⟨a,p,q',r',u4,rfl,hq,q⟩:=q;obtain⟨p0,p1,p2,p3,rfl⟩:∃p0 p1 p2 p3,pre=[p0,p1,p2,p3]:=by
  match pre,hp with
  | [p0,p1,p2,p3],_=>exact⟨p0,p1,p2,p3,rfl⟩
 have P:PG (dz X scope cl C N s₀ H₀ fp) (.Tuple [.Name x px,.Name y py,.Name z pz,.Name z4 p4] k pos) (NK X.K 4 (o8 (jz 0) (o8 (jz 1) (o8 (jz 2) (o8 (jz 3) Nz))))):=Hi (X:=dz X scope cl C N s₀ H₀ fp) hc (jK (jU (i:=0) hN h0 (.inl (lookup_relabel_local hx)) (.inr (lookup_relabel_local hx))) (jK (jU (i:=1) hN h1 (.inl (lookup_relabel_local hy)) (.inr (lookup_relabel_local hy))) (jK (jU (i:=2) hN h2 (.inl (lookup_relabel_local hz)) (.inr (lookup_relabel_local hz))) (jK (jU (i:=3) hN h3 (.inl (lookup_relabel_local h4)) (.inr (lookup_relabel_local h4))) DY))));refine bR (P ao s _ H (.ref a) u (λσ' H'=>H'=H/\σ'=some p::some q'::some r'::some u4::rest) I r
  ⟨a,[p,q',r',u4],rfl,hq,rfl,p,[q',r',u4],rfl,q',[r',u4],rfl,r',[u4],rfl,u4,[],rfl,rfl,rfl,rfl⟩) λ_ s' ⟨σ',H',I',e1,e2⟩=>?_
 subst e1 e2;exact⟨[some p,some q',some r',some u4],rfl,I',q⟩
theorem U9 {K:W.Frag}{a:Addr}{xs:List V}{D:Addr}{f:St->St}{KT:W.Frag}{tt:TT}{te:TE}{σ:St}{H:Hp}{R:Hp->Prop}(Pv:Nat->List V->Hp->Prop)(h0:Pv 0 [] (upd H D (.lst [])))(hl:∀i ys H,i<=xs.length->Pv i ys H->aP K H a xs)
  (hs:∀i x ys H,xs[i]?=some x->Pv i ys H->nW xs.length i D (λv H Q=>∃a p q r u4,v=.ref a/\aP KT H a [p,q,r,u4]/\Q [some p,some q,some r,some u4]) f σ tt te x H ys (Pv (i+1)))
  (hd:∀ys H,Pv xs.length ys H->R H) :
  ∃W:Nat->Nat->List V->Hp->Prop,(∃m,W 0 m [] (upd H D (.lst [])))/\
   ∀i m ys H,W i m ys H->((q_ K a).stop i H/\R H)\/((q_ K a).go i H/\∀x H',(q_ K a).oK i H x H'->∃a p q r u4,x=.ref a/\aP KT H' a [p,q,r,u4]/\(tt ([some p,some q,some r,some u4]++f σ) H' λb H2=>
    if b=true then te ([some p,some q,some r,some u4]++f σ) H2 λy H3=>H3 D=some (.lst ys)/\ys.length < sizeLine/\∃m',m' < m/\W (i+1) m' (ys++[y]) (upd H3 D (.lst (ys++[y])))
    else ∃m',m' < m/\W (i+1) m' ys H2)):=by
 refine⟨λi m ys H=>m=xs.length-i/\i<=xs.length/\Pv i ys H,⟨xs.length,by simp,b7 _,h0⟩,?_⟩;rintro i m ys H ⟨rfl,hi,p⟩;have q:=hl i ys H hi p;by_cases hlt:i < xs.length
 ·refine .inr ⟨⟨xs,xs[i],q,by simp[hlt]⟩,λx H' y=>?_⟩
  obtain⟨e,y⟩:=y;subst e;exact hs i x ys H' (y xs q) p
 ·have e:i=xs.length:=by lia
  subst e;exact .inl ⟨⟨xs,q,ap _⟩,hd ys H p⟩
theorem ahs {KT:W.Frag}{n i:Nat}{D a:Addr}{p q r u4:V}{f:St->St}{σ:St}{te:TE}{x:V}{H:Hp}{ys:List V}{P:List V->Hp->Prop}(hx:x=.ref a)(hS:aP KT H a [p,q,r,u4])(h:te ([some p,some q,some r,some u4]++f σ) H λy H3=>H3 D=some (.lst ys)/\ys.length < sizeLine/\dI n i (P (ys++[y]) (upd H3 D (.lst (ys++[y]))))) :
  nW n i D (λv H Q=>∃a p q r u4,v=.ref a/\aP KT H a [p,q,r,u4]/\Q [some p,some q,some r,some u4]) f σ gC te x H ys P:=by
 refine⟨a,p,q,r,u4,hx,hS,?_⟩;show (if true=true then (te ([some p,some q,some r,some u4]++f σ) H λy H3=>H3 D=some (.lst ys)/\ys.length < sizeLine/\dI n i (P (ys++[y]) (upd H3 D (.lst (ys++[y]))))) else dI n i (P ys H));rw[if_pos rfl];exact h
section
variable {P:Program}{wd:World}{Ar:Around}{Ex:AB}
variable {X:Cx}{pos:Pos}
variable {o:Expr}
theorem acH {j g:Addr}{arr:Array Value}(ngj:g≠j):∀(k p:Nat) (st:Shared) (R:List Value->Shared->Prop),st.heap.IsListIter j g p->st.heap.IsList g arr->p+k<=arr.size->
  (∀hp,hp.IsListIter j g (p+k)->Heap.SameBut j st.heap hp->R ((arr.toList.drop p).take k) { st with heap:=hp })->wpAny (model P wd) Ar (draw (.ref j) k) R Ex st
 | 0,p,st,R,ij,_,_,q=>av (show R [] st from (by simpa using q st.heap ij (Heap.SameBut.refl ..)))
 | k+1,p,st,R,ij,lg,le,q=>by
  have plt:p < arr.size:=by lia
  show wpAny _ _ (pyNext (.ref j) >>= _) R Ex st;refine ae (wpAny_pyNext_list_item ij lg (x:=arr[p]) (by simp[plt]) λh1 i1 b1=>ae (dL (acH ngj k (p+1) _ _ i1 (lg.extBut b1.extBut ngj) (by lia) λh2 i2 b2=>av ?_)));have z:=q h2 (by rw[show p+(k+1)=p+1+k by lia];exact i2) (b1.trans b2);rw[show arr.toList.drop p=arr[p]::arr.toList.drop (p+1) by simp[gL,plt],List.take_succ_cons]at z;exact z
theorem af6 {st:Shared}{g:Addr}{arr:Array Value}{R:List Value->Shared->Prop}(nh:Ar.handled=none)(lg:st.heap.IsList g arr)
  (q:∀hp,Heap.ExtBut st.heap.objs.size st.heap hp->R arr.toList { st with heap:=hp }):wpAny (model P wd) Ar (unpackItems (.ref g) arr.size none) R Ex st:=by
 have ng:g≠st.heap.objs.size:=let ⟨_,e,_⟩:=lg;ba (ax e);have full:(arr.toList.drop 0).take arr.size=arr.toList:=by rw[iL];exact bg (by simp)
 unfold unpackItems notIterableAtAll;refine ae (ae (wpAny_specialOf lg.typeIs slot_list_iter.lookup (av ?_)));simp only[cE,if_false];refine ae (dL (fe lg (ae (dL (acH ng arr.size 0 _ _ ⟨_,a9 _ rfl,rfl,rfl⟩ (lg.push _) (by lia) λh1 i1 b1=>?_)))));rw[full,if_neg (by simp)];refine ae (dL (wpAny_pyNext_list_end nh i1 ((lg.push _).extBut b1.extBut ng) (by simp) λh2 e2=>?_));simp only[Option.isSome_none,cE,if_false];exact av (q h2 λb o nb e=>e2 b o nb (b1.extBut b o nb (ag _ e)))
def ah1 (K:W.Frag)(n:Nat)(t:Ay):TG:=λv σ H Q=>∃a xs,v=.ref a/\aW K H a xs/\xs.length=n/\t xs σ H Q
theorem af7 {es:List Expr}{k:Nat}{t:Ay}{n:Nat}(hc:X.calm=true)(h:Xq X es t)(hn:(assignEach es X.env).length=n:=by rfl)(hst:(assignEach es X.env).findIdx? (·.1)=none:=by rfl):QG X (.Tuple es k pos) (ah1 X.K n t):=⟨by
 intro ao s σ H v u Q I r hw;obtain⟨a,xs,rfl,hq,hl,hw⟩:=hw;cases r;obtain⟨its,rv,pl,_⟩:=I.list hq;have bY:=rv.length;rw[arm_assign_Tuple];refine ae (iS ?_);unfold unpack;rw[show (assignEach es X.env).length=its.toArray.size by simp[hn,<- hl,bY],hst];refine ae (dL (af6 (I.ok.hd hc) pl.isList λh' hx=>?_));have I1:aL X ao σ H { s with heap:=h' }:=I.kept (t':=s.toks) λb o e=>hx b o (ba (ax e)) e;exact h.out ao _ σ H xs _ Q I1 (by simpa using rv) hw⟩
structure KDict (P:Program)(w:World)(K:W.Frag)(a:Addr)(kvs:List (Key × V)):Prop where
 z:(a==sysModules)=false
 ex:∃o vs,K.lookup a=some o/\KV kvs vs/\o.IsDictOf (iI P w) vs
def SM:R2:=λx y H Q=>∃c l,x=.str (S [c])/\y=.str (S l)/\Q (.bl (!decide (c∈l))) H
theorem Yd:fJ X (compareOp .NotIn) SM:=by
 intro ao s σ H x y v u Q I rx ry h;obtain⟨c,l,rfl,rfl,q⟩:=h;exact N_ ao s σ H _ _ v u Q I rx ry ⟨S [c],S l,rfl,rfl,by
  have e:=StrLaws.found_one (S l) c;rw[acz]at e;rw[show (S [c])=(⟨#[c]⟩:Str) from rfl,e];exact q⟩
end
abbrev Q4:=Nat × Nat × Nat × List Nat
def jE (q:Q4):Nat:=q.1*1000000+q.2.1*1000+q.2.2.1
def ah2 (H:Hp)(a:Addr)(q:Q4):Prop:=H a=some (.tup [.int q.1,.int q.2.1,.int q.2.2.1,.str (S q.2.2.2)])/\q.2.1 < 1000/\q.2.2.1 < 1000
section
variable {X:Cx}
def af8 (K:W.Frag):List V->Hp->VK->Prop:=λxs H Q=>∃(L:Addr) (as:List Addr) (qf:Addr->Q4),xs=[.ref L]/\aW K H L (as.map V.ref)/\as.length < 64/\(∀a∈as,ah2 H a (qf a))/\(as.map λa=>jE (qf a)).Nodup/\
 ∀(p:Addr) (as':List Addr),H p=none->as'.Perm as->(as'.map λa=>jE (qf a)).Pairwise (· < ·)->Q (.ref p) (upd H p (.lst (as'.map V.ref)))
theorem BJ:gq X (.builtin "sorted") (af8 X.K):=by
 intro ao s σ H xs us Q I r h;obtain⟨L,as,qf,rfl,hS,h64,hcell,hnd,q⟩:=h;obtain⟨u,rfl,ru⟩:=vals1 r;cases ru;obtain⟨its,rv,pl,_⟩:=I.list hS;have aaR:=Bt rv;subst aaR;have tup:∀i:Nat,i < as.length->∃(z:Q4) (t1 t2 t3 t4:Tok) (o:Obj) (n:Nat),z=qf (as.getD i 0)/\z.2.1 < 1000/\z.2.2.1 < 1000/\s.heap.get? (as.getD i 0)=some o/\o.cls=.type "tuple"/\o.data=.seq [Value.int z.1 t1,Value.int z.2.1 t2,Value.int z.2.2.1 t3,Value.str (S z.2.2.2) t4].toArray n:=λi hi=>by
  have hm:as.getD i 0∈as:=by rw[ai,ac hi];exact ah _
  obtain⟨e,h1,h2⟩:=hcell _ hm;obtain⟨_,tv,HD,o,ho,hc,n,hd⟩:=I.hok _ _ e;cases HD with
  | cons r1 rr=>
   cases rr with
   | cons r2 rr=>
    cases rr with
    | cons r3 rr=>
     cases rr with
     | cons r4 rr=>
      cases rr;obtain⟨t1,rfl⟩:=r1;obtain⟨t2,rfl⟩:=r2;obtain⟨t3,rfl⟩:=r3;obtain⟨t4,rfl⟩:=r4;exact⟨_,t1,t2,t3,t4,o,n,rfl,h1,h2,ho,hc,hd⟩
 have gv:∀i:Nat,i < as.length->(as.map Value.ref).getD i Value.none=.ref (as.getD i 0):=λi hi=>by simp[hi]
 have bY:(as.map Value.ref).length=as.length:=aa _;have XJ:=cn.mp hnd;have hinj:uL (as.map Value.ref).length (λi=>jE (qf (as.getD i 0))):=λi j hi hj e=>by
  rw[bY]at hi hj;have e':jE (qf as[i])=jE (qf as[j]):=by simpa [hi,hj] using e
  rcases me i j with z | z | z
  ·exact absurd e' (by have:=XJ i j (by simpa using hi) (by simpa using hj) z;simpa using this)
  ·exact z
  ·exact absurd e'.symm (by have:=XJ j i (by simpa using hj) (by simpa using hi) z;simpa using this)
 refine HB (r:=λi=>jE (qf (as.getD i 0))) pl.isList (by rw[bY];exact h64) hinj ?_ ?_ ?_
 ·intro h2 h' Q' E' kp hQ
  have kt:∀(bs:List Addr),(∀b∈bs,b∈as)->∃fs,KatTups h' (bs.map Value.ref) fs/\fs.length=bs.length/\∀v∈fs,∃(x:Int) (t:Tok),v=.int x t:=by
   intro bs
   induction bs with
   | nil=>exact λ_=>⟨[],trivial,rfl,λv hv=>by simp at hv⟩
   | cons b bs ih=>
    intro hb;obtain⟨fs,k1,k2,k3⟩:=ih λx hx=>hb x (a_ _ hx);obtain⟨i,hi,e⟩:=c_.mp (hb b bq);obtain⟨z,t1,t2,t3,t4,o,n,_,_,_,ho,hc,hd⟩:=tup i hi;have eb:as.getD i 0=b:=by simp[hi,e]
    rw[eb]at ho;exact⟨.int z.1 t1::fs,KatTups.cons (kp _ _ ho) hc hd rfl k1,by simp[k2],λv hv=>by
     rcases bo.mp hv with z | z
     ·exact⟨_,_,z⟩
     ·exact k3 v z⟩
  obtain⟨fs,k1,k2,k3⟩:=kt as λ_ h=>h;rw[bY]at h2;exact kat_kind (s:={ s with heap:=h' }) (T:=.type "int") k1 (by lia) (λv hv=>by obtain⟨x,t,rfl⟩:=k3 v hv;exact Looks.of_pure rfl) (by decide) hQ
 ·intro h' kp i j C hi hj hC
  rw[bY]at hi hj;obtain⟨z1,t1,t2,t3,t4,o1,n1,e1,l1,m1,ho1,hc1,hd1⟩:=tup i hi;obtain⟨z2,u1,u2,u3,u4,o2,n2,e2,l2,m2,ho2,hc2,hd2⟩:=tup j hj;have hC':∀b:Bool,b=decide (jE z1 < jE z2)->C b { s with heap:=h' }:=λb eb=>by
   have:Br (λi=>jE (qf (as.getD i 0))) i j=b:=by rw[eb,e1,e2]
   rw[<- this];exact hC
  have hij:jE z1=jE z2->i=j:=λe=>hinj i j (by rw[bY];exact hi) (by rw[bY];exact hj) (by rw[e1,e2]at e;exact e);obtain⟨x1,y1,w1,s1⟩:=z1;obtain⟨x2,y2,w2,s2⟩:=z2;simp only[jE]at hC' hij l1 m1 l2 m2 hd1 hd2;unfold kas_ask;rw[gv i hi,gv j hj];refine kat_lt (s:={ s with heap:=h' }) (kp _ _ ho1) hd1 (kp _ _ ho2) hd2 ?_;rw[show ([Value.int (x1:Int) t1,Value.int (y1:Int) t2,Value.int (w1:Int) t3,Value.str (S s1) t4]:List Value).toArray.toList.zip ([Value.int (x2:Int) u1,Value.int (y2:Int) u2,Value.int (w2:Int) u3,Value.str (S s2) u4]:List Value).toArray.toList=[(Value.int (x1:Int) t1,Value.int (x2:Int) u1),(Value.int (y1:Int) t2,Value.int (y2:Int) u2),(Value.int (w1:Int) t3,Value.int (w2:Int) u3),(Value.str (S s1) t4,Value.str (S s2) u4)] from rfl];have dn:∀{a b:Nat} {p q:Nat},(a < b↔p < q)->decide ((a:Int) < (b:Int))=decide (p < q):=λh=>by
   apply decide_eq_decide.mpr;rw[<- h];lia
  refine kat_cons (d6 _ _ _ _ X.prog X.w _ _ ?_);refine kat_go (λe=>kat_yes ?_) (λe=>kat_no ?_)
  ·have ex:x1=x2:=by have:((x1:Int)==(x2:Int))=true:=e;have:=eq_of_beq this;lia
   refine kat_cons (d6 _ _ _ _ X.prog X.w _ _ ?_);refine kat_go (λe=>kat_yes ?_) (λe=>kat_no ?_)
   ·have ey:y1=y2:=by have:((y1:Int)==(y2:Int))=true:=e;have:=eq_of_beq this;lia
    refine kat_cons (d6 _ _ _ _ X.prog X.w _ _ ?_);refine kat_go (λe=>kat_yes ?_) (λe=>kat_no ?_)
    ·have ew:w1=w2:=by have:((w1:Int)==(w2:Int))=true:=e;have:=eq_of_beq this;lia
     have eij:=hij (by rw[ex,ey,ew]);subst eij;have es:Value.str (S s1) t4=Value.str (S s2) u4:=by
      have eo:o1=o2:=by rw[ho1]at ho2;exact aw ho2
      subst eo;rw[hd1]at hd2;injection hd2 with hd2 _;have:=congrArg Array.toList hd2;simp at this;rw[this.2.2.2.1,this.2.2.2.2]
     rw[es];refine kat_cons (SeqAt.EqAt.same _ X.prog X.w _ _ ?_);refine kat_yes (kat_nil (hC' _ ?_));rw[ex,ey,ew];simp
    ·have ew:w1≠w2:=λz=>by have:((w1:Int)==(w2:Int))=false:=e;simp[z]at this
     refine kat_one _ _ (lt_int (hC' _ (dn ?_)));rw[ex,ey];lia
   ·have ey:y1≠y2:=λz=>by have:((y1:Int)==(y2:Int))=false:=e;simp[z]at this
    refine kat_one _ _ (lt_int (hC' _ (dn ?_)));rw[ex];lia
  ·have ex:x1≠x2:=λz=>by have:((x1:Int)==(x2:Int))=false:=e;simp[z]at this
   show wpAny _ _ (oneLt' true _ _) _ _ _;exact oneLt_int (hC' _ (dn (by lia)))
 ·intro h' p pp sp kp he
  rw[bY]at pp sp;obtain⟨e,he⟩:=he;have eo:(p.toList.map λi=>(as.map Value.ref).getD i Value.none)=(p.toList.map λi=>as.getD i 0).map Value.ref:=by
   rw[b8];refine eQ λi hi=>?_;exact gv i (eK.mp (pp.pm.mem_iff.mp hi))
  rw[eo]at he;have pm:(p.toList.map λi=>as.getD i 0).Perm as:=by
   have:=pp.pm.map λi=>as.getD i 0;have e2:(List.range as.length).map (λi=>as.getD i 0)=as:=by
    apply fE
    ·simp
    ·intro k h1 h2;simp at h1;simp[h1]
   rw[e2]at this;exact this
  have pw:((p.toList.map λi=>as.getD i 0).map λa=>jE (qf a)).Pairwise (· < ·):=by
   rw[b8,cn];intro i j hi hj hij;rw[aa,du,pp.sz]at hi hj;have:=sp i j hij hj;have g1:p.getD i 0=p.toList[i]'(by rw[du,pp.sz];exact hi):=by simp[Array.getD,pp.sz,hi]
   have g2:p.getD j 0=p.toList[j]'(by rw[du,pp.sz];exact hj):=by simp[Array.getD,pp.sz,hj]
   simp only[de,Function.comp];rw[<- g1,<- g2];exact this
  have hl:((p.toList.map λi=>as.getD i 0).map V.ref).length<=sizeLine:=by
   rw[aa,pm.length_eq];exact aT (aG (by lia))
  refine⟨.ref (s.heap.objs.size+1),_,I.laid (o:=.lst _) (t':=s.toks) (λb o z=>kp b o z) (iq _) ⟨hl,(p.toList.map λi=>as.getD i 0).map Value.ref,e,vJ _,he⟩,rfl,q _ _ (I.hok.fresh (iq _)) pm pw⟩
end
end L2
namespace L2
open PySem
theorem eS {n:Nat}{P:List Value->Prop}(h:∀a us,us.length=n->P (a::us)):∀us,us.length=n+1->P us
 | a::us,e=>h a us (Nat.succ.inj e)
@[elab_as_elim] theorem e1 {P:List Value->Prop} (h:∀a,P [a]) (us:List Value) (hl:us.length=1):P us:=eS (λa us e=>(by rw[iA e];exact h a)) us hl
@[elab_as_elim] theorem e2 {P:List Value->Prop} (h:∀a b,P [a,b]) (us:List Value) (hl:us.length=2):P us:=eS (λa us e=>e1 (P:=λr=>P (a::r)) (h a) us e) us hl
@[elab_as_elim] theorem e3 {P:List Value->Prop} (h:∀a b c,P [a,b,c]) (us:List Value) (hl:us.length=3):P us:=eS (λa us e=>e2 (P:=λr=>P (a::r)) (h a) us e) us hl
@[elab_as_elim] theorem e4 {P:List Value->Prop} (h:∀a b c d,P [a,b,c,d]) (us:List Value) (hl:us.length=4):P us:=eS (λa us e=>e3 (P:=λr=>P (a::r)) (h a) us e) us hl
end L2
namespace My
open PySem L2
def top (i:Nat):Stmt:=PySem.Challenge.pw_letterrack_k26_whole_the_board_turned.main.body.getD i (.Pass ⟨0,0,0,0⟩)
noncomputable abbrev iV:Stmt:=inClass (top 5) 0
theorem JC:aZ ["self","word"] ["self","word"] (aJ iV):={}
noncomputable abbrev jo:Stmt:=inClass (top 8) 0
theorem Mw:aZ ["self","row","column"] ["self","row","column"] (aJ jo):={}
noncomputable abbrev kJ:Stmt:=inClass (top 10) 0
theorem Rm:aZ ["self","row","column"] ["self","row","column"] (aJ kJ):={}
noncomputable abbrev h_:Stmt:=inClass (top 12) 0
theorem HY:aZ ["self","tile"] ["self","tile"] (aJ h_):={}
noncomputable abbrev tM:Stmt:=top 19
theorem Rn:aZ ["thing"] ["thing"] (aJ tM):={}
noncomputable abbrev vM:Stmt:=top 20
theorem U_:aZ ["thing"] ["thing"] (aJ vM):={}
noncomputable abbrev qP:Stmt:=top 21
theorem Oz:aZ ["sign"] ["sign"] (aJ qP):={}
noncomputable abbrev vN:Stmt:=top 22
theorem Va:aZ ["sign"] ["sign"] (aJ vN):={}
noncomputable abbrev vO:Stmt:=top 23
theorem tQ:aZ ["rack","signs","tiles","sign","tile"] ["rack","signs"] (aJ vO):={}
noncomputable abbrev tR:Stmt:=top 28
theorem qQ:aZ ["thing","width"] ["thing"] (aJ tR):={}
noncomputable abbrev tU:Stmt:=top 29
theorem Fb:aZ ["thing"] ["thing"] (aJ tU):={}
noncomputable abbrev qR:Stmt:=top 30
theorem BL:aZ ["thing"] ["thing"] (aJ qR):={}
noncomputable abbrev lX:Stmt:=top 31
theorem Az:aZ ["rows","row","column"] ["rows","row","column"] (aJ lX):={}
noncomputable abbrev nY:Stmt:=top 32
theorem JD:aZ ["rows","thing"] ["rows","thing"] (aJ nY):={}
noncomputable abbrev tV:Stmt:=top 33
theorem Ro:aZ ["rows","marks","begin"] ["rows","marks","begin"] (aJ tV):={}
noncomputable abbrev nZ:Stmt:=top 34
theorem yg:aZ ["rows","column"] ["rows","column"] (aJ nZ):={}
noncomputable abbrev n6:Stmt:=top 35
theorem yh:aZ ["rows"] ["rows"] (aJ n6):={}
noncomputable abbrev jq:Stmt:=inClass (top 36) 0
theorem Mx:aZ ["self","rows","marks","begin"] ["self","rows","marks","begin"] (aJ jq):={}
noncomputable abbrev kO:Stmt:=inClass (top 36) 1
theorem Rp:aZ ["self","row","column"] ["self","row","column"] (aJ kO):={}
noncomputable abbrev gG:Stmt:=inClass (top 36) 2
theorem uO:aZ ["self"] ["self"] (aJ gG):={}
noncomputable abbrev jN:Stmt:=inClass (top 36) 3
theorem jZ:aZ ["self","row","column","way","line","place","ahead","signs","first"] ["self","row","column","way"] (aJ jN):={}
noncomputable abbrev ig:Stmt:=inClass (top 36) 4
theorem vP:aZ ["self","begin"] ["self"] (aJ ig):={}
noncomputable abbrev jr:Stmt:=inClass (top 36) 5
theorem jy:aZ ["self","laying","lines","row","column","sign"] ["self","laying"] (aJ jr):={}
noncomputable abbrev qT:Stmt:=top 39
theorem OD:aZ ["board","thing"] ["board","thing"] (aJ qT):={}
noncomputable abbrev qU:Stmt:=top 40
theorem uP:aZ ["board","thing","cells"] ["board","thing"] (aJ qU):={}
noncomputable abbrev tW:Stmt:=top 41
theorem Rq:aZ ["laying"] ["laying"] (aJ tW):={}
noncomputable abbrev qW:Stmt:=top 42
theorem OJ:aZ ["laying"] ["laying"] (aJ qW):={}
noncomputable abbrev vQ:Stmt:=top 43
theorem Vb:aZ ["laying"] ["laying"] (aJ vQ):={}
noncomputable abbrev jF:Stmt:=top 44
theorem lJ:aZ ["board","row","column","around"] ["board","row","column"] (aJ jF):={}
noncomputable abbrev yU:Stmt:=top 45
theorem jG:aZ ["board","laying","after","way","asked","row","column","words","along","run"] ["board","laying"] (aJ yU):={}
noncomputable abbrev pC:Stmt:=top 46
theorem n8:aZ ["board","laying","row","column","sign"] ["board","laying"] (aJ pC):={}
noncomputable abbrev kY:Stmt:=top 47
theorem Ew:aZ ["laying"] ["laying"] (aJ kY):={}
noncomputable abbrev pD:Stmt:=top 48
theorem n_:aZ ["board","laying","after","row","column"] ["board","laying"] (aJ pD):={}
noncomputable abbrev mY:Stmt:=top 49
theorem pF:aZ ["board","laying","joined"] ["board","laying"] (aJ mY):={}
noncomputable abbrev oh:Stmt:=top 50
theorem iu:aZ ["board","book","laying","words","row","column","way","signs","word"] ["board","book","laying"] (aJ oh):={}
noncomputable abbrev mZ:Stmt:=top 51
theorem H_:aZ ["board","book","rack","laying"] ["board","book","rack","laying"] (aJ mZ):={}
noncomputable abbrev vR:Stmt:=top 53
theorem Ia:aZ ["text"] ["text"] (aJ vR):={}
noncomputable abbrev pG:Stmt:=top 54
theorem Mz:aZ ["text"] ["text"] (aJ pG):={}
noncomputable abbrev jO:Stmt:=inClass (top 55) 0
theorem BP:aZ ["self","words","word"] ["self","words"] (aJ jO):={}
noncomputable abbrev k_:Stmt:=inClass (top 55) 2
theorem Rr:aZ ["self","text"] ["self","text"] (aJ k_):={}
noncomputable abbrev vU:Stmt:=top 57
theorem Vc:aZ ["_law_script","_law_k"] ["_law_script","_law_k"] (aJ vU):={}
noncomputable abbrev Ib:Stmt:=top 58
theorem SN:aZ ["_law_rest_here","_law_base","_law_digit"] ["_law_rest_here","_law_base"] (aJ Ib):={}
noncomputable abbrev Ie:Stmt:=top 59
theorem qz:aZ ["_law_cell","_law_number","_law_found","_law_k"] ["_law_cell"] (aJ Ie):={}
noncomputable abbrev vV:Stmt:=top 60
theorem m6:aZ ["_law_rest_here","_law_every","_law_found","_law_k","_law_left"] ["_law_rest_here"] (aJ vV):={}
noncomputable abbrev Ig:Stmt:=top 61
theorem SQ:aZ ["_law_rest_here","_law_letters_here","_law_great","_law_letter"] ["_law_rest_here","_law_letters_here","_law_great"] (aJ Ig):={}
noncomputable abbrev Ih:Stmt:=top 62
theorem iM:aZ ["_law_rest_here","_law_letters_here","_law_most","_law_size","_law_tall","_law_wide","_law_full","_law_rows_here","_law_row","_law_text","_law_column","_law_free","_law_line","_law_spot"] ["_law_rest_here","_law_letters_here","_law_most"] (aJ Ih):={}
noncomputable abbrev Ec:Stmt:=top 63
theorem yV:aZ ["_law_rest_here","_law_rows_here","_law_found","_law_row"] ["_law_rest_here","_law_rows_here"] (aJ Ec):={}
noncomputable abbrev Ed:Stmt:=top 64
theorem O1:aZ ["_law_rest_here","_law_rows_here","_law_spot"] ["_law_rest_here","_law_rows_here"] (aJ Ed):={}
noncomputable abbrev Ii:Stmt:=top 65
theorem yj:aZ ["_law_rows_here","_law_laying","_law_grid_here","_law_row","_law_column","_law_sign_here"] ["_law_rows_here","_law_laying"] (aJ Ii):={}
noncomputable abbrev Nm:Stmt:=top 66
theorem uQ:aZ ["_law_grid_here","_law_row","_law_column","_law_way","_law_signs","_law_here"] ["_law_grid_here","_law_row","_law_column","_law_way"] (aJ Nm):={}
noncomputable abbrev Ef:Stmt:=top 67
theorem oF:aZ ["_law_rows_here","_law_laying","_law_grid_here","_law_line","_law_runs","_law_row","_law_column","_law_sign_here"] ["_law_rows_here","_law_laying"] (aJ Ef):={}
noncomputable abbrev vW:Stmt:=top 68
theorem Ij:aZ ["_law_rows_here","_law_row","_law_column","_law_there"] ["_law_rows_here","_law_row","_law_column"] (aJ vW):={}
noncomputable abbrev yW:Stmt:=top 69
theorem rH:aZ ["_law_rows_here","_law_rest_here","_law_free","_law_near","_law_row","_law_column"] ["_law_rows_here","_law_rest_here"] (aJ yW):={}
noncomputable abbrev tX:Stmt:=top 70
theorem fZ:aZ ["_law_rows_here","_law_rest_here","_law_letters_here","_law_way","_law_many","_law_row","_law_column","_law_found","_law_blanks","_law_sign_here"] ["_law_rows_here","_law_rest_here","_law_letters_here"] (aJ tX):={}
noncomputable abbrev yX:Stmt:=top 71
theorem Ye:aZ ["_law_rows_here","_law_begin_here","_law_cells"] ["_law_rows_here","_law_begin_here","_law_cells"] (aJ yX):={}
noncomputable abbrev qX:Stmt:=top 72
theorem j4:aZ ["_law_rows_here","_law_begin_here","_law_laying","_law_cells","_law_row","_law_column"] ["_law_rows_here","_law_begin_here","_law_laying"] (aJ qX):={}
noncomputable abbrev Eh:Stmt:=top 73
theorem yZ:aZ ["_law_error","_law_some"] ["_law_error"] (aJ Eh):={}
noncomputable abbrev za:Stmt:=top 74
theorem rJ:aZ ["_law_board","_law_book","_law_rack_here","_law_laying","_law_caught_here","e"] ["_law_board","_law_book","_law_rack_here","_law_laying"] (aJ za):={}
noncomputable abbrev Ik:Stmt:=top 75
theorem lE:aZ ["_law_laying","_law_rest_here","_law_rows_here","_law_some","_law_bend","_law_at","_law_spot","_law_found","_law_row","_law_column","_law_sign_here"] ["_law_laying","_law_rest_here","_law_rows_here"] (aJ Ik):={}
noncomputable abbrev Il:Stmt:=top 76
theorem iQ:aZ ["_law_laying","_law_rest_here","_law_letters_here","_law_tiles","_law_row","_law_column","_law_sign_here","_law_turn","_law_some","_law_found","_law_tile","_law_more"] ["_law_laying","_law_rest_here","_law_letters_here"] (aJ Il):={}
noncomputable abbrev Ei:Stmt:=top 77
theorem oG:aZ ["_law_rows_here","_law_laying","_law_rest_here","_law_letters_here","_law_words_here","_law_row","_law_column","_law_way","_law_signs","_law_k"] ["_law_rows_here","_law_laying","_law_rest_here","_law_letters_here"] (aJ Ei):={}
noncomputable abbrev zc:Stmt:=top 78
theorem Yg:aZ ["_law_laying"] ["_law_laying"] (aJ zc):={}
noncomputable abbrev pH:Stmt:=top 79
theorem rR:aZ ["_law_board","_law_laying","_law_ones","_law_others"] ["_law_board","_law_laying"] (aJ pH):={}
noncomputable abbrev Np:Stmt:=top 80
theorem iH:aZ ["_law_script","_law_letters_here","_law_rows_here","_law_rest_here","_law_begin_here","_law_board","_law_other","_law_cell","_law_laying","_law_rack_here","_law_words_here","_law_good","_law_book","_law_one","_law_two"] ["_law_script"] (aJ Np):={}
section
variable {P:Program}{w:World}{K:W.Frag}{mg:Str->Option Value}{base:Heap}
def Fd (c:Nat):Bool:=decide (97<=c)&&decide (c<=122)
def Im (c:Nat):Bool:=decide (65<=c)&&decide (c<=90)
def Fe (l:List Nat):Bool:=match l with | [c]=>Fd c||Im c | _=>false
theorem lt1 (a b:Nat):([a] < [b])↔a < b:=by simp[iP]
theorem Ve (a b:Nat):(!decide ([a] < [b]))=decide (b<=a):=by
 by_cases h:a < b
 ·rw[am ((lt1 a b).mpr h),al (by lia)];rfl
 ·rw[al (λz=>h ((lt1 a b).mp z)),am (by lia)];rfl
def acI (K:W.Frag)(H:Hp)(x:V):Prop:=∃t,jV K H x t/\W.kitOne K t (.type "str")=some false
def O2 (K:W.Frag):Sp:=λvs H Q _=>(∃x,vs=[x]/\acI K H x/\Q (.bl false) H)\/(∃l,vs=[.str (S l)]/\l.length<=1000/\Q (.bl (Fe l)) H)
theorem Vf (D:aK K mg "is_sign" vM ["thing"])(bY:mg "len"=none)(hstr:mg "str"=none)(ah3:mg "isinstance"=none):bT P w K mg base "is_sign" 1 ["thing"] (O2 K):=by
 refine D.dM U_ (λvs H Q E h=>?_) (λf bL A outer s H vs Q E hr h=>?_)
 ·rcases h with⟨x,rfl,_⟩ | ⟨x,rfl,_⟩ <;> rfl
 ·refine⟨_,aB (cF (QW.qt (mU (fB (dj (aN jd (by rfl) ah3 bp (aj (qv 0) (aj (mV (v:=.ty "str") (by rfl) hstr PyProof.Rows.boot_str rfl) aq)))))
     (jX (bD o_ (aN cI (by rfl) bY aS (aj (qv 0) aq)) aD (bw _))))) (aF (bf jB)) bN)
   (aF (bf (acD (kE rF rF (b_ [97] (by decide +kernel)) (qv 0) (b_ [122] (by decide +kernel)))
    (lW (kE rF rF (b_ [65] (by decide +kernel)) (qv 0) (b_ [90] (by decide +kernel))))))),?_⟩
  rcases h with⟨x,rfl,⟨t,ty,hk⟩,q⟩ | ⟨l,rfl,hl,q⟩
  ·exact⟨_,rfl,_,_,_,false,rfl,ty,hk,_,rfl,bM (bM q)⟩
  ·have hz:l.length<=sizeLine:=aT (aG (by lia))
   refine⟨_,rfl,_,_,_,true,rfl,.str _,(by kernel_rfl),_,rfl,bB ⟨_,rfl,l,rfl,hz,rfl,_,rfl,?_⟩⟩;by_cases h1:l.length=1
   ·obtain⟨c,rfl⟩:=List.length_eq_one_iff.mp h1
    refine vG rfl ?_;refine⟨_,rfl,[97],[c],rfl,rfl,decide (97<=c),by rw[Ve],?_⟩;have q':Q (.bl (Fd c||Im c)) H:=q;have tail:(Im c=(Fd c||Im c))->Bd aaJ aaJ (tC (.str (S [65]))) (iz 0) (tC (.str (S [90]))) [some (.str (S [c]))] H Q:=λe=>by
     refine⟨_,rfl,[65],[c],rfl,rfl,decide (65<=c),by rw[Ve],?_⟩;rw[<- e]at q';by_cases h2:65<=c
     ·rw[am h2]
      refine bM ⟨[c],[90],rfl,rfl,?_⟩;rw[Ve];simpa [Im,h2] using q'
     ·rw[al h2]
      refine bB ?_;simpa [Im,h2] using q'
    by_cases h2:97<=c
    ·rw[am h2]
     refine bM ⟨[c],[122],rfl,rfl,_,rfl,?_⟩;rw[Ve];by_cases h3:c<=122
     ·rw[am h3]
      refine bM ?_;simpa [Fd,h2,h3] using q'
     ·rw[al h3]
      exact bB (tail (by simp[Fd,h2,h3]))
    ·rw[al h2]
     exact bB ⟨_,rfl,bB (tail (by simp[Fd,h2]))⟩
   ·have e:(!decide (V.int (l.length:Int)=V.int 1))=true:=by
     rw[al];rfl;intro z;injection z with z;lia
    rw[e];have e2:Fe l=false:=by
     match l,h1 with
     | [],_=>rfl
     | [c],h=>exact absurd rfl h
     | _::_::_,_=>rfl
    rw[e2]at q;exact bM q
def Yh (K:W.Frag):Sp:=λvs H Q _=>∃(a:Addr) (ns:List Int) (k:Nat),vs=[.ref a,.int k]/\aW K H a (ns.map V.int)/\∀v:Int,Q (.int v) H
def isLet (c:Nat):Prop:=97<=c/\c<=122
structure JF (ls:List Nat):Prop where
 lo:2<=ls.length
 hi:ls.length<=26
 az:∀c∈ls,isLet c
theorem Vg (D:aK K mg "_law_cell_at" vU ["_law_script","_law_k"])(bY:mg "len"=none):bT P w K mg base "_law_cell_at" 1 ["_law_script","_law_k"] (Yh K):=by
 refine D.dM Vc (λvs H Q E h=>?_) (λf bL A outer s H vs Q E hr h=>?_)
 ·obtain⟨a,ns,k,rfl,_⟩:=h
  rfl
 ·obtain⟨a,ns,k,rfl,hS,q⟩:=h
  refine⟨_,aB (cF (bD jQ (qv 1) (aN bU (by rfl) bY aS (aj (qv 0) aq)) (bw _)) (aF (bf (aQ dD (qv 0) (qv 1) (λ_ _=>rfl)))) bN) (aF (bf aD)),?_⟩;refine⟨_,rfl,_,rfl,a,_,rfl,.inl hS,_,_,rfl,rfl,_,rfl,?_⟩;refine jl (λhc=>?_) (λ_=>?_)
  ·have hk:k < ns.length:=by
    have:=bv hc;rw[aa]at this;lia
   exact⟨_,rfl,_,rfl,a,_,_,.int ns[k],rfl,rfl,hS,aH (by simp[hk]),q _⟩
  ·exact q _
theorem vX (l:List Nat):(l.map λc=>[c]).flatten=l:=by
 induction l with
 | nil=>rfl
 | cons c r ih=>rw[bP,iE,ih];rfl
theorem acJ:∀c∈AL,isLet c:=λc hc=>by
 obtain⟨k,hk,rfl⟩:=aE.mp hc;have:=eK.mp hk;exact⟨by lia,by lia⟩
def qe (c:Nat):Prop:=Fe [c]=true
theorem qe.lt {c:Nat}(h:qe c):c < 128:=by
 unfold qe Fe Fd Im at h;simp at h;lia
theorem Yi {c:Nat}(h:isLet c):qe c:=by simp[qe,Fe,Fd,h.1,h.2]
theorem af9 {c:Nat}(h:isLet c):qe (c-32):=by
 have h1:=h.1;have h2:=h.2;simp[qe,Fe,Fd,Im];lia
abbrev ones (cs:List Nat):List (List Nat):=cs.map λc=>[c]
structure Blk (r w:Nat)(ls:AA):Prop where
 len:ls.length=r
 gR:∀l∈ls,l.length=w
def MK:List Nat:=[46,50,51,52,98,99,100]
def uR (c:Nat):Prop:=c=46\/qe c
def SX (c:Nat):Prop:=c∈MK
structure Le (r w:Nat)(ak aO:AA)(i j:Nat):Prop where
 r1:1<=r
 r9:r<=9
 w1:1<=w
 w9:w<=9
 br:Blk r w ak
 bm:Blk r w aO
 cr:∀l∈ak,∀c∈l,uR c
 cm:∀l∈aO,∀c∈l,SX c
 bi:i < r
 bj:j < w
theorem lF (ls:AA)(l:List Nat):Ts ls++[V.str (S l)]=Ts (ls++[l]):=by simp[Ts]
theorem BR (cs:List Nat)(c:Nat):ones cs++[[c]]=ones (cs++[c]):=by simp[ones]
def cell (R:AA)(i j:Nat):Nat:=(R.getD i []).getD j 0
theorem cell_eq {R:AA}{i j:Nat}(hi:i < R.length)(hj:j < R[i].length):cell R i j=R[i][j]:=by
 unfold cell;rw[ai (l:=R),ac hi];show (R[i]).getD j 0=_;rw[ai,ac hj];rfl
def adO:Sp:=λvs H Q _=>∃i:Int,vs=[.int i]/\Q (.bl true) H
theorem fW {ls:AA}{i:Nat}{l:List Nat}(h:ls[i]?=some l):(Ts ls)[i]?=some (.str (S l)):=by simp[Ts,h]
theorem uT {ls:AA}{i:Nat}{x:V}(h:(Ts ls)[i]?=some x):∃l,ls[i]?=some l/\x=.str (S l):=by
 rw[a7]at h;obtain⟨l,h1,h2⟩:=dE.mp h;exact⟨l,h1,h2.symm⟩
theorem Ej (n:Nat):((List.replicate n true).all id)=true:=by simp
theorem zf (n:Nat):(List.replicate n true).map V.bl++[V.bl true]=(List.replicate (n+1) true).map V.bl:=by rw[List.replicate_succ',bz];rfl
def JG:Sp:=λvs H Q _=>∃(p:Addr) (ls:AA) (r w:Nat),vs=[.ref p]/\H p=some (.tup (Ts ls))/\Blk r w ls/\1<=r/\r<=9/\1<=w/\w<=9/\∀H',aA H H'->Q (.bl true) H'
theorem Rt (D:aK K mg "is_block" tR ["thing"])(aY:mg "len"=none)(cg:mg "tuple"=none)(Ek:mg "str"=none)(fX:mg "all"=none)(bH:mg "isinstance"=none)(yp:∃t,mg "MOST"=some (.int 9 t)):bT P w K mg base "is_block" 1 ["thing"] JG:=by
 refine D.dM qQ (λvs H Q E h=>?_) (λf bL A outer s H vs Q E hr h=>?_)
 ·obtain⟨p,ls,r,w,rfl,_⟩:=h
  rfl
 ·obtain⟨p,ls,r,w,rfl,hp,hb,r1,r9,w1,w9,q⟩:=h
  have je:(Ts ls).length=r:=by rw[aa,hb.len]
  have h0:0 < ls.length:=by rw[hb.len];lia
  refine⟨_,(aB (cF (QW.qt (mU (fB (dj (aN jd (by rfl) bH bp (aj (qv 0) (aj (mV (v:=.ty "tuple") (by rfl) cg cK rfl) aq))))) (jX (fB (uG lK lK aD (aN bU (by rfl) aY aS (aj (qv 0) aq)) (UJ (by rfl) yp)))))) (aF (bf jB)) bN) (aB (cF (fB (dj (aN (jL rfl) (by rfl) fX jC (aj (jx rfl (iZ.of qQ.nd (by kernel_rfl)) (dY (qv 0)) (λ_ _ _ _ _=>cU) (λ_ _ _ _ _=>(aN (Oi K) (by rfl) bH bp (aj (qv 0) (aj (mV (v:=.ty "str") (by rfl) Ek PyProof.Rows.boot_str rfl) aq))))) aq)))) (aF (bf jB)) bN) (aB (aU (i:=1) qQ.nd rfl (Or.inr rfl) (aN cI (by rfl) aY aS (aj (aQ bh (qv 0) aD (λ_ _=>rfl)) aq))) (aF (bf (nP (kE lK lK aD (qv 1) (UJ (by rfl) yp)) (lW (aN (jL rfl) (by rfl) fX jC (aj (jx rfl (iZ.of qQ.nd (by kernel_rfl)) (dY (qv 0)) (λ_ _ _ _ _=>cU) (λ_ _ _ _ _=>(d_ iJ (aN cI (by rfl) aY aS (aj (qv 0) aq)) (qv 2) (bw _)))) aq))))))))),?_⟩;refine⟨_,rfl,_,_,_,true,rfl,.tup hp,(by kernel_rfl),_,rfl,bB ?_⟩;refine⟨_,rfl,p,_,rfl,.inr (aP.of hp),_,_,rfl,rfl,true,by rw[je];simp;lia,bM ⟨_,_,rfl,rfl,true,by rw[je];simp;lia,bB ?_⟩⟩;refine⟨_,rfl,p,rfl,⟨_,aP.of hp⟩,λL hL=>uJ (xs:=Ts ls) (λi ys H2=>ys=(List.replicate i true).map V.bl/\H2 L=some (.lst ys)/\aA H H2) ⟨rfl,au,aA.upd hL⟩ (λi ys H2 _ h=>aP.of (h.2.2 _ _ hp)) ?_ ?_⟩
  ·rintro i x ys H2 hi ⟨rfl,hL2,sm⟩
   obtain⟨l,hl,rfl⟩:=uT hi;have hil:i < (Ts ls).length:=(af.mp hi).1;refine⟨_,rfl,_,_,_,true,rfl,.str _,(by kernel_rfl),hL2,by rw[aa,ck];exact aG (by lia),dI.mk hil ⟨zf i,au,sm.cB hL⟩⟩
  ·rintro ys H2 ⟨rfl,hL2,sm⟩
   refine⟨L,_,rfl,aW.of hL2,?_⟩;rw[Ej];refine⟨_,rfl,bB ?_⟩;have hw0:ls[0].length=w:=hb.gR _ (ah _);have hz:ls[0].length<=sizeLine:=aT (aG (by lia));refine⟨_,rfl,p,_,_,.str (S ls[0]),rfl,rfl,aP.of (sm _ _ hp),aH (j:=0) (fW (by simp[h0])),_,rfl,hz,?_⟩;refine⟨_,rfl,_,_,rfl,rfl,true,by rw[hw0];simp;lia,bM ⟨_,_,rfl,rfl,true,by rw[hw0];simp;lia,bM ?_⟩⟩;refine⟨_,rfl,p,rfl,⟨_,aP.of (sm _ _ hp)⟩,λL2 sV=>uJ (xs:=Ts ls) (λi ys H3=>ys=(List.replicate i true).map V.bl/\H3 L2=some (.lst ys)/\aA H H3) ⟨rfl,au,sm.cB (sm.free sV)⟩ (λi ys H2 _ h=>aP.of (h.2.2 _ _ hp)) ?_ ?_⟩
   ·rintro i x ys H3 hi ⟨rfl,j7,sm3⟩
    obtain⟨l,hl,rfl⟩:=uT hi;have hil:i < (Ts ls).length:=(af.mp hi).1;have pI:l.length=w:=hb.gR _ (be hl);refine⟨_,rfl,_,rfl,aT (aG (by lia)),_,rfl,rfl,j7,by rw[aa,ck];exact aG (by lia),dI.mk hil ⟨?_,au,sm3.cB (sm.free sV)⟩⟩;rw[pI,hw0,am rfl];exact zf i
   ·rintro ys H3 ⟨rfl,j7,sm3⟩
    refine⟨L2,_,rfl,aW.of j7,?_⟩;rw[Ej];exact q H3 sm3
theorem Ga {r w:Nat}{ls:AA}(h:Blk r w ls):ls.flatten.length=r*w:=by
 rw[List.length_flatten];have:ls.map List.length=List.replicate r w:=by
  rw[<- h.len,kC];exact⟨by simp,λb hb=>by obtain⟨l,hl,rfl⟩:=aE.mp hb;exact h.gR l hl⟩
 rw[this,List.sum_replicate_nat]
def Yj:Sp:=λvs H Q _=>∃(p:Addr) (ls:AA) (r w:Nat),vs=[.ref p]/\H p=some (.tup (Ts ls))/\Blk r w ls/\1<=r/\r<=9/\1<=w/\w<=9/\(∀l∈ls,∀c∈l,uR c)/\∀H',aA H H'->Q (.bl true) H'
theorem Ru (D:aK K mg "are_rows" tU ["thing"])(fX:mg "all"=none)(fG:∃t,mg "FREE"=some (.str (S [46]) t))(zj:bT P w K mg base "is_block" 1 ["thing"] JG)(BW:bT P w K mg base "is_sign" 1 ["thing"] (O2 K)):bT P w K mg base "are_rows" 2 ["thing"] Yj:=by
 refine D.dM Fb (λvs H Q E h=>?_) (λf bL A outer s H vs Q E hr h=>?_)
 ·obtain⟨p,ls,r,w,rfl,_⟩:=h
  rfl
 ·obtain⟨p,ls,r,w,rfl,hp,hb,r1,r9,w1,w9,hc,q⟩:=h
  have hrw:r*w<=81:=e_ r9 w9;have hfl:=Ga hb;refine⟨_,(aF (bf (nP (aX zj hr.mono rfl (aj (qv 0) aq)) (lW (aN (jL rfl) (by rfl) fX jC (aj (jx rfl (iZ.of Fb.nd (by kernel_rfl)) (uH (gw bE eh eB FT (b_ [] (by decide +kernel)) (aj (qv 0) aq))) (λ_ _ _ _ _=>cU) (λ_ _ _ _ _=>(acD (d_ xX (qv 0) (tG (by rfl) fG) (bw _)) (lW (aX BW hr.mono rfl (aj (qv 0) aq)))))) aq)))))),?_⟩;refine⟨_,rfl,p,ls,r,w,rfl,hp,hb,r1,r9,w1,w9,λH1 s1=>⟨true,rfl,bM ?_⟩⟩;refine⟨rfl,_,rfl,p,ls,rfl,rfl,aP.of (s1 _ _ hp),by lia,_,rfl,λL hL=>?_⟩;refine uI (λi ys H2=>ys=(List.replicate i true).map V.bl/\H2 L=some (.lst ys)/\aA H H2) ⟨rfl,au,s1.cB (s1.free hL)⟩ ?_ ?_
  ·rintro i c ys H2 hi ⟨rfl,hL2,sm⟩
   have hil:i < ls.flatten.length:=(af.mp hi).1;obtain⟨l,hl,hcl⟩:=g9.mp (be hi);have fin:H2 L=some (.lst ((List.replicate i true).map V.bl))/\((List.replicate i true).map V.bl).length < sizeLine/\dI ls.flatten.length i ((List.replicate i true).map V.bl++[V.bl true]=(List.replicate (i+1) true).map V.bl/\upd H2 L (.lst ((List.replicate i true).map V.bl++[V.bl true])) L=some (.lst ((List.replicate i true).map V.bl++[V.bl true]))/\aA H (upd H2 L (.lst ((List.replicate i true).map V.bl++[V.bl true])))):=
    ⟨hL2,by rw[aa,ck];exact aG (by lia),dI.mk hil ⟨zf i,au,sm.cB (s1.free hL)⟩⟩
   refine⟨_,rfl,[c],[46],rfl,rfl,_,rfl,?_⟩;rcases hc l hl c hcl with e | e
   ·subst e
    rw[am rfl];exact bM fin
   ·by_cases h46:[c]=[46]
    ·rw[am h46];exact bM fin
    ·rw[al h46]
     refine bB ⟨_,rfl,.inr ⟨[c],rfl,by show 1<=1000;decide,?_⟩⟩;rw[show Fe [c]=true from e];exact fin
  ·rintro ys H2 ⟨rfl,hL2,sm⟩
   refine⟨L,_,rfl,aW.of hL2,?_⟩;rw[Ej];exact q H2 sm
def S5:Sp:=λvs H Q _=>∃(p:Addr) (ls:AA) (r w:Nat),vs=[.ref p]/\H p=some (.tup (Ts ls))/\Blk r w ls/\1<=r/\r<=9/\1<=w/\w<=9/\(∀l∈ls,∀c∈l,SX c)/\∀H',aA H H'->Q (.bl true) H'
theorem O4 (D:aK K mg "are_marks" qR ["thing"])(fX:mg "all"=none)(yq:∃t,mg "MARKS"=some (.str (S MK) t))(zj:bT P w K mg base "is_block" 1 ["thing"] JG):bT P w K mg base "are_marks" 2 ["thing"] S5:=by
 refine D.dM BL (λvs H Q E h=>?_) (λf bL A outer s H vs Q E hr h=>?_)
 ·obtain⟨p,ls,r,w,rfl,_⟩:=h
  rfl
 ·obtain⟨p,ls,r,w,rfl,hp,hb,r1,r9,w1,w9,hc,q⟩:=h
  have hrw:r*w<=81:=e_ r9 w9;have hfl:=Ga hb;refine⟨_,(aF (bf (nP (aX zj hr.mono rfl (aj (qv 0) aq)) (lW (aN (jL rfl) (by rfl) fX jC (aj (jx rfl (iZ.of BL.nd (by kernel_rfl)) (uH (gw bE eh eB FT (b_ [] (by decide +kernel)) (aj (qv 0) aq))) (λ_ _ _ _ _=>cU) (λ_ _ _ _ _=>(d_ afC (qv 0) (tG (by rfl) yq) rfl))) aq)))))),?_⟩;refine⟨_,rfl,p,ls,r,w,rfl,hp,hb,r1,r9,w1,w9,λH1 s1=>⟨true,rfl,bM ?_⟩⟩;refine⟨rfl,_,rfl,p,ls,rfl,rfl,aP.of (s1 _ _ hp),by lia,_,rfl,λL hL=>?_⟩;refine uI (λi ys H2=>ys=(List.replicate i true).map V.bl/\H2 L=some (.lst ys)/\aA H H2) ⟨rfl,au,s1.cB (s1.free hL)⟩ ?_ ?_
  ·rintro i c ys H2 hi ⟨rfl,hL2,sm⟩
   have hil:i < ls.flatten.length:=(af.mp hi).1;obtain⟨l,hl,hcl⟩:=g9.mp (be hi);refine⟨_,rfl,c,MK,rfl,rfl,hL2,by rw[aa,ck];exact aG (by lia),dI.mk hil ⟨?_,au,sm.cB (s1.free hL)⟩⟩;rw[am (show c∈MK from hc l hl c hcl)];exact zf i
  ·rintro ys H2 ⟨rfl,hL2,sm⟩
   refine⟨L,_,rfl,aW.of hL2,?_⟩;rw[Ej];exact q H2 sm
def Gb (K:W.Frag):Sp:=λvs H Q _=>∃(p:Addr) (ls:AA) (r w:Nat) (i j:Int),vs=[.ref p,.int i,.int j]/\aP K H p (Ts ls)/\Blk r w ls/\1<=r/\r<=9/\w<=9/\Q (.bl (decide (0<=i/\i < r/\0<=j/\j < w))) H
theorem MF (D:aK K mg "is_cell_of" lX ["rows","row","column"])(aY:mg "len"=none)(pJ:bT P w K mg base "is_whole" 1 ["thing"] adO):bT P w K mg base "is_cell_of" 2 ["rows","row","column"] (Gb K):=by
 refine D.dM Az (λvs H Q E h=>?_) (λf bL A outer s H vs Q E hr h=>?_)
 ·obtain⟨p,ls,r,w,i,j,rfl,_⟩:=h
  rfl
 ·obtain⟨p,ls,r,w,i,j,rfl,hp,hb,r1,r9,w9,q⟩:=h
  have je:(Ts ls).length=r:=by rw[aa,hb.len]
  have h0:0 < ls.length:=by rw[hb.len];lia
  have hw0:ls[0].length=w:=hb.gR _ (ah _);refine⟨_,(aB (cF (QW.qt (mU (fB (dj (aX pJ hr.mono rfl (aj (qv 1) aq)))) (jX (fB (dj (aX pJ hr.mono rfl (aj (qv 2) aq))))))) (aF (bf jB)) bN) (aF (bf (nP (kE lK jQ aD (qv 1) (aN bU (by rfl) aY aS (aj (qv 0) aq))) (lW (kE lK jQ aD (qv 2) (aN cI (by rfl) aY aS (aj (aQ bh (qv 0) aD (λ_ _=>rfl)) aq)))))))),?_⟩;refine⟨_,rfl,i,rfl,_,rfl,bB ⟨_,rfl,j,rfl,_,rfl,bB ?_⟩⟩;refine⟨_,rfl,_,_,rfl,rfl,_,rfl,?_⟩;by_cases h1:0<=i
  ·rw[am h1]
   refine bM ⟨_,rfl,p,_,rfl,.inr hp,_,_,rfl,rfl,_,rfl,?_⟩;rw[je];by_cases h2:i < (r:Int)
   ·rw[am h2]
    refine bM ⟨_,rfl,_,_,rfl,rfl,_,rfl,?_⟩;by_cases h3:0<=j
    ·rw[am h3]
     refine bM ⟨_,rfl,p,_,_,.str (S ls[0]),rfl,rfl,hp,aH (j:=0) (fW (by simp[h0])),_,rfl,aT (aG (by lia)),_,_,rfl,rfl,?_⟩;rw[hw0];simpa [h1,h2,h3] using q
    ·rw[al h3]
     refine bB ?_;simpa [h1,h2,h3] using q
   ·rw[al h2]
    refine bB ?_;simpa [h1,h2] using q
  ·rw[al h1]
   refine bB ⟨_,rfl,bB ?_⟩;simpa [h1] using q
def S6 (K:W.Frag):Sp:=λvs H Q _=>∃(p b:Addr) (ls:AA) (r w:Nat) (i j:Nat),vs=[.ref p,.ref b]/\H p=some (.tup (Ts ls))/\H b=some (.tup [.int i,.int j])/\Blk r w ls/\1<=r/\r<=9/\w<=9/\i < r/\j < w/\Q (.bl true) H
theorem JH (D:aK K mg "is_begin_of" nY ["rows","thing"])(aY:mg "len"=none)(cg:mg "tuple"=none)(bH:mg "isinstance"=none)(lY:bT P w K mg base "is_cell_of" 2 ["rows","row","column"] (Gb K)):bT P w K mg base "is_begin_of" 3 ["rows","thing"] (S6 K):=by
 refine D.dM JD (λvs H Q E h=>?_) (λf bL A outer s H vs Q E hr h=>?_)
 ·obtain⟨p,b,ls,r,w,i,j,rfl,_⟩:=h
  rfl
 ·obtain⟨p,b,ls,r,w,i,j,rfl,hp,hb,hB,r1,r9,w9,hi,hj,q⟩:=h
  refine⟨_,(aF (bf (nP (aN jd (by rfl) bH bp (aj (qv 1) (aj (mV (v:=.ty "tuple") (by rfl) cg cK rfl) aq))) (nP (d_ iJ (aN bU (by rfl) aY aS (aj (qv 1) aq)) aD (bw _)) (lW (aX lY hr.mono rfl (aj (qv 0) (aj (aQ bh (qv 1) aD (λ_ _=>rfl)) (aj (aQ bh (qv 1) aD (λ_ _=>rfl)) aq))))))))),?_⟩;refine⟨_,rfl,_,_,_,true,rfl,.tup hb,(by kernel_rfl),true,rfl,bM ?_⟩;refine⟨_,rfl,b,_,rfl,.inr (aP.of hb),rfl,true,rfl,bM ?_⟩;refine⟨_,rfl,_,rfl,b,_,_,.int i,rfl,rfl,aP.of hb,aH (j:=0) rfl,_,rfl,b,_,_,.int j,rfl,rfl,aP.of hb,aH (j:=1) rfl,?_⟩;refine⟨p,ls,r,w,i,j,rfl,aP.of hp,hB,r1,r9,w9,?_⟩;rw[am ⟨by lia,by lia,by lia,by lia⟩];exact q
def S7:Sp:=λvs H Q _=>∃(pr pm pb:Addr) (r w:Nat) (ak aO:AA) (i j:Nat),vs=[.ref pr,.ref pm,.ref pb]/\H pr=some (.tup (Ts ak))/\H pm=some (.tup (Ts aO))/\H pb=some (.tup [.int i,.int j])/\Le r w ak aO i j/\∀H',aA H H'->Q (.bl true) H'
theorem Rv (D:aK K mg "is_board" tV ["rows","marks","begin"])(aY:mg "len"=none)(Vh:bT P w K mg base "are_rows" 2 ["thing"] Yj)(Rw:bT P w K mg base "are_marks" 2 ["thing"] S5)(MJ:bT P w K mg base "is_begin_of" 3 ["rows","thing"] (S6 K)) :
  bT P w K mg base "is_board" 4 ["rows","marks","begin"] S7:=by
 refine D.dM Ro (λvs H Q E h=>?_) (λf bL A outer s H vs Q E hr h=>?_)
 ·obtain⟨pr,pm,pb,r,w,ak,aO,i,j,rfl,_⟩:=h
  rfl
 ·obtain⟨pr,pm,pb,r,w,ak,aO,i,j,rfl,hr',hm,hb,B,q⟩:=h
  have l1:(Ts ak).length=r:=by rw[aa,B.br.len]
  have l2:(Ts aO).length=r:=by rw[aa,B.bm.len]
  have h0:0 < ak.length:=by rw[B.br.len];exact B.r1
  have h0':0 < aO.length:=by rw[B.bm.len];exact B.r1
  have w0:ak[0].length=w:=B.br.gR _ (ah _);have w0':aO[0].length=w:=B.bm.gR _ (ah _);have w9:=B.w9;refine⟨_,(aB (cF (QW.qt (mU (fB (dj (aX Vh hr.mono rfl (aj (qv 0) aq)))) (jX (fB (dj (aX Rw hr.mono rfl (aj (qv 1) aq))))))) (aF (bf jB)) bN) (aB (cF (QW.qt (mU (bD o_ (aN bU (by rfl) aY aS (aj (qv 1) aq)) (aN bU (by rfl) aY aS (aj (qv 0) aq)) (bw _)) (jX (bD o_ (aN cI (by rfl) aY aS (aj (aQ bh (qv 1) aD (λ_ _=>rfl)) aq)) (aN cI (by rfl) aY aS (aj (aQ bh (qv 0) aD (λ_ _=>rfl)) aq)) (bw _))))) (aF (bf jB)) bN) (aF (bf (aX MJ hr.mono rfl (aj (qv 0) (aj (qv 2) aq))))))),?_⟩;refine⟨_,rfl,pr,ak,r,w,rfl,hr',B.br,B.r1,B.r9,B.w1,B.w9,B.cr,λH1 s1=>⟨_,rfl,bB ?_⟩⟩;refine⟨_,rfl,pm,aO,r,w,rfl,s1 _ _ hm,B.bm,B.r1,B.r9,B.w1,B.w9,B.cm,λH2 s2=>⟨_,rfl,bB ?_⟩⟩;have s12:=s1.trans s2;refine⟨_,rfl,pm,_,rfl,.inr (aP.of (s12 _ _ hm)),_,rfl,pr,_,rfl,.inr (aP.of (s12 _ _ hr')),rfl,_,rfl,?_⟩;refine vG (by rw[l1,l2]) ?_;refine⟨_,rfl,pm,_,_,.str (S aO[0]),rfl,rfl,aP.of (s12 _ _ hm),aH (j:=0) (fW (by simp[h0'])),_,rfl,aT (aG (by lia)),_,rfl,pr,_,_,.str (S ak[0]),rfl,rfl,aP.of (s12 _ _ hr'),aH (j:=0) (fW (by simp[h0])),_,rfl,aT (aG (by lia)),rfl,_,rfl,?_⟩;refine vG (by rw[w0,w0']) ?_;refine⟨_,rfl,_,rfl,pr,pb,ak,r,w,i,j,rfl,s12 _ _ hr',s12 _ _ hb,B.br,B.r1,B.r9,B.w9,B.bi,B.bj,?_⟩;exact q H2 s12
structure gb (K:W.Frag)(C:Addr):Prop where
 cl:Cls K C
 nr:nG K C "rows"
 nm:nG K C "marks"
 nb:nG K C "begin"
structure dZ (C:Addr)(H:Hp)(p:Addr)(r w:Nat)(ak aO:AA)(i j:Nat):Prop where
 ex:∃dx pr pm pb,H p=some (.ins C dx [("rows",.ref pr),("marks",.ref pm),("begin",.ref pb)])/\H pr=some (.tup (Ts ak))/\H pm=some (.tup (Ts aO))/\H pb=some (.tup [.int i,.int j])
 ok:Le r w ak aO i j
theorem dZ.mv {C:Addr}{H H':Hp}{p:Addr}{r w:Nat}{ak aO:AA}{i j:Nat}(B:dZ C H p r w ak aO i j)(s:aA H H'):dZ C H' p r w ak aO i j:=by
 obtain⟨⟨dx,pr,pm,pb,a,b,c,d⟩,o⟩:=B;exact⟨⟨dx,pr,pm,pb,s _ _ a,s _ _ b,s _ _ c,s _ _ d⟩,o⟩
def El (C:Addr):Sp:=λvs H Q _=>∃(p dx pr pm pb:Addr) (r w:Nat) (ak aO:AA) (i j:Nat),vs=[.ref p,.ref pr,.ref pm,.ref pb]/\H p=some (.ins C dx [])/\H pr=some (.tup (Ts ak))/\H pm=some (.tup (Ts aO))/\H pb=some (.tup [.int i,.int j])/\Le r w ak aO i j/\
 ∀H',(∀b o,H b=some o->b≠p->H' b=some o)->H' p=some (.ins C dx [("rows",.ref pr),("marks",.ref pm),("begin",.ref pb)])->Q .non H'
theorem MN {f C:Addr}{fd:FuncData}(F:gQ K "__init__" "Board.__init__" jq f fd)(T:gb K C)(Vi:bT P w K mg base "is_board" 4 ["rows","marks","begin"] S7):cM P w K mg base fU 5 f fd ["self","rows","marks","begin"] (El C):=by
 refine F.dM Mx (λvs H Q E h=>?_) (λbL A outer s H vs Q E hr h=>?_)
 ·obtain⟨p,dx,pr,pm,pb,r,w,ak,aO,i,j,rfl,_⟩:=h
  rfl
 ·obtain⟨p,dx,pr,pm,pb,r,w,ak,aO,i,j,rfl,hp,hr',hm,hb,B,q⟩:=h
  refine⟨_,(aB (cF (fB (dj (aX Vi hr.mono rfl (aj (qv 1) (aj (qv 2) (aj (qv 3) aq)))))) KY bN) (aB (Hw (qv 0) (qv 1) rfl) (aB (Hw (qv 0) (qv 2) rfl) (aF (Hw (qv 0) (qv 3) rfl))))),?_⟩;refine⟨_,rfl,_,rfl,_,rfl,pr,pm,pb,r,w,ak,aO,i,j,rfl,hr',hm,hb,B,λH1 s1=>⟨_,rfl,bB ?_⟩⟩;refine⟨_,rfl,_,rfl,p,C,dx,_,rfl,s1 _ _ hp,T.cl,T.nr,by show 0 < 1000;decide,?_⟩;refine⟨_,rfl,_,rfl,p,C,dx,_,rfl,au,T.cl,T.nm,by show 1 < 1000;decide,?_⟩;refine⟨_,rfl,_,rfl,p,C,dx,_,rfl,au,T.cl,T.nb,by show 2 < 1000;decide,?_⟩;refine q _ (λb o e hne=>?_) ?_
  ·rw[aM hne,aM hne,aM hne];exact s1 _ _ e
  ·exact au
def Kp (R:Addr)(H H':Hp):Prop:=(∀b o,H b=some o->b≠R->H' b=some o)/\∃y:Int,H' R=some (.lst [.int y])
theorem Kp.trans {R:Addr}{H H1 H2:Hp}(h:Kp R H H1)(g:Kp R H1 H2):Kp R H H2:=⟨λb o e n=>g.1 b o (h.1 b o e n) n,g.2⟩
theorem Kp.same {R:Addr}{H H1 H2:Hp}(h:Kp R H H1)(s:aA H1 H2):Kp R H H2:=⟨λb o e n=>s _ _ (h.1 b o e n),let ⟨y,e⟩:=h.2;⟨y,s _ _ e⟩⟩
theorem Kp.of {R:Addr}{H H':Hp}{x:Int}(h:H R=some (.lst [.int x]))(s:aA H H'):Kp R H H':=⟨λb o e _=>s _ _ e,x,s _ _ h⟩
theorem Kp.up {R:Addr}{H:Hp}(y:Int):Kp R H (upd H R (.lst [.int y])):=⟨λb o e n=>by rw[aM n];exact e,y,au⟩
theorem Kp.new {R p:Addr}{H H1:Hp}{o:HO}(h:Kp R H H1)(hp:H p=none)(hr:R≠p):Kp R H (upd H1 p o):=⟨λb o e n=>by rw[aM λz=>by rw[z,hp]at e;cases e];exact h.1 b o e n,let ⟨y,e⟩:=h.2;⟨y,by rw[aM hr];exact e⟩⟩
def lC:Sp:=λvs H Q _=>∃(R:Addr) (x:Int) (b:Nat),vs=[.ref R,.int b]/\H R=some (.lst [.int x])/\1<=b/\b<=1000000/\∀(d:Nat) (y:Int),d < b->Q (.int d) (upd H R (.lst [.int y]))
theorem adP (D:aK K mg "_law_take" Ib ["_law_rest_here","_law_base"]):bT P w K mg base "_law_take" 1 ["_law_rest_here","_law_base"] lC:=by
 refine D.dM SN (λvs H Q E h=>?_) (λf bL A outer s H vs Q E hr h=>?_)
 ·obtain⟨R,x,b,rfl,_⟩:=h
  rfl
 ·obtain⟨R,x,b,rfl,hR,b1,b2,q⟩:=h
  have h1:=Int.emod_nonneg x (show (b:Int)≠0 by lia);have h2:=Int.emod_lt_of_pos x (show (0:Int) < b by lia);obtain⟨d,hd⟩:∃d:Nat,x%(b:Int)=d:=⟨(x%(b:Int)).toNat,by lia⟩
  refine⟨_,(aB (aU (i:=2) SN.nd rfl (Or.inl rfl) (bx o9 (aQ dD (qv 0) aD (λ_ _=>rfl)) (qv 1))) (aB (rD (bx qj (aQ dD (qv 0) aD (λ_ _=>rfl)) (qv 1)) (uK (qv 0) aD set_list)) (aF (bf (qv 2))))),?_⟩;refine⟨_,rfl,R,_,_,_,rfl,rfl,aW.of hR,aH (j:=0) rfl,_,rfl,_,_,rfl,rfl,(by show (0:Int) < (b:Int);lia),?_⟩;refine⟨_,rfl,R,_,_,_,rfl,rfl,aW.of hR,aH (j:=0) rfl,_,rfl,_,_,rfl,rfl,⟨by show (0:Int) < (b:Int);lia,by show (b:Int) < 1073741824;lia⟩,?_⟩;have:=q d (x/(b:Int)) (by lia);rw[<- hd]at this;exact⟨_,rfl,R,_,_,0,rfl,rfl,hR,rfl,_,rfl,this⟩
def Yk:Sp:=λvs H Q _=>∃c:Int,vs=[.int c]/\∀(R:Addr) (x:Int) (H':Hp),aA H H'->H' R=some (.lst [.int x])->H R=none->Q (.ref R) H'
theorem adQ (D:aK K mg "_law_rest" Ie ["_law_cell"])(cV:mg "range"=none):bT P w K mg base "_law_rest" 1 ["_law_cell"] Yk:=by
 refine D.dM qz (λvs H Q E h=>?_) (λf bL A outer s H vs Q E hr h=>?_)
 ·obtain⟨c,rfl,_⟩:=h
  rfl
 ·obtain⟨c,rfl,q⟩:=h
  refine⟨_,(aB (cF (bD iJ (bx o9 (qv 0) aD) aD (bw _)) (aF (bf (eU (aj (bx qj (qv 0) aD) aq)))) bN) (aB (aU (i:=1) qz.nd rfl (Or.inl rfl) (qv 0)) (aB (aU (i:=2) qz.nd rfl (Or.inl rfl) aD) (aB (dX bS rfl (j6 (by rfl) cV (aj aD aq)) (bO (i:=3) qz.nd rfl (Or.inl rfl)) (aB (aU (i:=1) qz.nd rfl (Or.inl rfl) (bx o9 (bx dU (bx dU (bx rm (qv 1) aD) (bx rm aD (qv 3))) aD) aD)) (aB (aU (i:=1) qz.nd rfl (Or.inl rfl) (bx o9 (bx dU (bx dU (bx rm (qv 1) aD) (bx rm aD (qv 3))) aD) aD)) (aF (aU (i:=2) qz.nd rfl (Or.inl rfl) (bx dU (bx rm (qv 2) aD) (qv 1))))))) (aF (bf (eU (aj (qv 2) aq)))))))),?_⟩;refine⟨_,rfl,_,_,rfl,rfl,(by show (0:Int) < 2;decide),rfl,_,rfl,jl (λ_=>?_) (λ_=>?_)⟩
  ·refine⟨_,rfl,_,_,rfl,rfl,⟨by decide,by decide⟩,zsz 1,λR hR=>?_⟩
   exact q R _ _ (aA.upd hR) au hR
  ·refine⟨_,rfl,?_⟩
   refine⟨_,rfl,by decide,by decide,iB (lo:=0) (n:=40) (λi σ H2=>H2=H/\∃(n fo:Int) (v3:Option V),σ=[some (.int c),some (.int n),some (.int fo),v3]) ⟨rfl,_,_,none,rfl⟩ ?_ ?_⟩
   ·rintro i σ H2 hi ⟨rfl,n,fo,v3,rfl⟩
    refine⟨_,rfl,_,_,rfl,rfl,.inr ⟨by decide,by decide⟩,_,rfl,_,_,rfl,rfl,.inl ⟨by decide,by decide⟩,_,_,rfl,rfl,_,_,rfl,rfl,_,_,rfl,rfl,(by show (0:Int) < 2147483629;decide),?_⟩;refine⟨_,rfl,_,_,rfl,rfl,.inr ⟨by decide,by decide⟩,_,rfl,_,_,rfl,rfl,.inl ⟨by decide,by decide⟩,_,_,rfl,rfl,_,_,rfl,rfl,_,_,rfl,rfl,(by show (0:Int) < 2147483587;decide),?_⟩;refine⟨_,rfl,_,_,rfl,rfl,.inr ⟨by decide,by decide⟩,_,rfl,_,_,rfl,rfl,?_⟩;exact⟨rfl,_,_,_,rfl⟩
   ·rintro σ H2 ⟨rfl,n,fo,v3,rfl⟩
    refine⟨_,rfl,zsz 1,λR hR=>?_⟩;exact q R _ _ (aA.upd hR) au hR
theorem aa4:∀(F:List Nat) (L:List Nat),L.Nodup->F.length < L.length->∃x∈L,x∉F:=λF L nd h=>by
 by_cases c:∃x∈L,x∉F
 ·exact c
 ·have:L ⊆ F:=λx hx=>by
   by_cases m:x∈F
   ·exact m
   ·exact absurd ⟨x,hx,m⟩ c
  have:=nd.length_le_of_subset this;lia
def Yl:Sp:=λvs H Q _=>∃(R:Addr) (x:Int),vs=[.ref R]/\H R=some (.lst [.int x])/\∀(ls:List Nat) (H':Hp),Kp R H H'->JF ls->Q (.str (S ls)) H'
theorem Rx (D:aK K mg "_law_letters" vV ["_law_rest_here"])(aY:mg "len"=none)(cV:mg "range"=none)(cO:bT P w K mg base "_law_take" 1 ["_law_rest_here","_law_base"] lC):bT P w K mg base "_law_letters" 2 ["_law_rest_here"] Yl:=by
 refine D.dM m6 (λvs H Q E h=>?_) (λf bL A outer s H vs Q E hr h=>?_)
 ·obtain⟨R,x,rfl,_⟩:=h
  rfl
 ·obtain⟨R,x,rfl,hR,q⟩:=h
  refine⟨_,(aB (aU (i:=1) m6.nd rfl (Or.inl rfl) (b_ AL (by decide +kernel))) (aB (cF (bD iJ (aX cO hr.mono rfl (aj (qv 0) (aj aD aq))) aD (bw _)) (aF (bf (qv 1))) bN) (aB (aU (i:=2) m6.nd rfl (Or.inr rfl) (b_ [] (by decide +kernel))) (aB (dX bS rfl (j6 (by rfl) cV (aj (bx dU aD (aX cO hr.mono rfl (aj (qv 0) (aj aD aq)))) aq)) (bO (i:=3) m6.nd rfl (Or.inl rfl)) (aB (um (ix:=4) (ns:=["_law_letter"]) m6.nd rfl (Or.inl rfl) rfl (fD.of ["_law_rest_here","_law_every","_law_found","_law_k","_law_left"] [] (by kernel_rfl)) (uH (qv 1)) (λ_ _ _ _ _=>(oO (show (["_law_letter","_law_rest_here","_law_every","_law_found","_law_k","_law_left"]:List Str).Nodup by decide +kernel) rfl (by rfl))) (λ_ _ _ _ _=>(xZ (bD Yd (qv 0) (qv 3) rfl))) (λ_ _ _ _ _=>(qv 0))) (aF (aU (i:=2) m6.nd rfl (Or.inr rfl) (bx jg (qv 2) (aQ dD (qv 4) (aX cO hr.mono rfl (aj (qv 0) (aj (aN bU (by rfl) aY aS (aj (qv 4) aq)) aq))) (λ_ _=>rfl))))))) (aF (bf (qv 2))))))),?_⟩;refine⟨_,rfl,R,x,8,rfl,hR,by decide,by decide,λd y hd=>⟨rfl,_,rfl,jl (λ_=>?_) (λ_=>?_)⟩⟩
  ·exact⟨_,rfl,q AL _ (Kp.up y) ⟨by decide,by decide,acJ⟩⟩
  have k0:Kp R H (upd H R (.lst [.int y])):=Kp.up y;have Ym:upd H R (.lst [.int y]) R=some (.lst [.int y]):=au;generalize upd H R (.lst [.int y])=H0 at k0 Ym ⊢;refine⟨_,rfl,R,y,3,rfl,Ym,by decide,by decide,λd2 y2 hd2=>?_⟩;have k1:=k0.trans (Kp.up (H:=H0) y2);generalize upd H0 R (.lst [.int y2])=H1 at k1 ⊢;refine⟨_,_,rfl,rfl,_,rfl,by lia,by lia,?_⟩;rw[show ((2:Int)+(d2:Int)).toNat=2+d2 by lia];refine iB (lo:=0) (n:=2+d2) (λi σ H2=>∃(v3 v4:Option V) (fo:List Nat),σ=[some (.ref R),some (.str (S AL)),some (.str (S fo)),v3,v4]/\Kp R H H2/\fo.length=i/\∀c∈fo,isLet c)
   ⟨none,none,[],rfl,k1,rfl,λc h=>nomatch h⟩ ?_ ?_
  ·rintro i σ H2 hi ⟨v3,v4,fo,rfl,k2,hfl,hfc⟩
   obtain⟨y3,BX⟩:=k2.2;refine⟨_,rfl,AL,rfl,λM hM=>UW (l:=AL) (f:=eG [] 0) (tt:=yJ (sO SM (iz 0) (iz 3))) (te:=iz 0) (λj ys H3=>ys=Ts (ones ((AL.take j).filter λc=>!decide (c∈fo)))/\H3 M=some (.lst ys)/\aA H2 H3) ⟨rfl,au,aA.upd hM⟩ ?_ ?_⟩
   ·rintro j c ys H3 hj ⟨rfl,lZ,s3⟩
    have hjl:j < AL.length:=(af.mp hj).1;have aiH:j < 26:=hjl;have aiI:((AL.take j).filter λc=>!decide (c∈fo)).length<=26:=cq (fR ..) (by rw[aI];lia);refine⟨_,rfl,_,rfl,c,fo,rfl,rfl,_,rfl,?_⟩;by_cases m:c∈fo
    ·rw[am m]
     refine bB (dI.mk hjl ⟨?_,lZ,s3⟩);rw[bu,hj,eJ];simp[m]
    ·rw[al m]
     refine bM ⟨_,rfl,lZ,by rw[aa,aa];exact aG (by lia),dI.mk hjl ⟨?_,au,s3.cB hM⟩⟩;rw[bu,hj,eJ,lF,BR];simp[m]
   ·rintro ys H3 ⟨rfl,lZ,s3⟩
    rw[bX]at lZ;generalize hgs:(AL.filter λc=>!decide (c∈fo))=gs at lZ;have vY:gs.length<=26:=by rw[<- hgs];exact fR ..
    have hg0:0 < gs.length:=by
     obtain⟨c,c1,c2⟩:=aa4 fo AL (by decide) (by show fo.length < 26;lia);exact List.length_pos_of_mem (a:=c) (by rw[<- hgs];simp[c1,c2])
    have hgc:∀c∈gs,isLet c:=λc hc=>by rw[<- hgs]at hc;exact acJ c (eR.mp hc).1
    have Vj:H3 M=some (.lst (Ts (ones gs))):=lZ;have sW:=s3 _ _ BX;have nMR:M≠R:=λz=>by rw[z,sW]at Vj;injection Vj with e1;injection e1 with e2;cases gs with
     | nil=>cases hg0
     | cons a r=>injection e2 with e3 e4;cases e3
    refine⟨_,rfl,_,rfl,_,rfl,_,rfl,M,_,rfl,.inl (aW.of Vj),R,y3,gs.length,by show [V.ref R,V.int ((Ts (ones gs)).length:Nat)]=_;rw[aa,aa],sW,hg0,by lia,λd3 y4 Yn=>?_⟩;have k4:=(k2.same s3).trans (Kp.up (H:=H3) y4);have vZ:upd H3 R (.lst [.int y4]) M=some (.lst (Ts (ones gs))):=by rw[aM nMR];exact Vj
    generalize upd H3 R (.lst [.int y4])=H4 at k4 vZ ⊢;have af_:d3 < gs.length:=Yn;refine⟨M,_,_,.str (S [gs[d3]]),rfl,rfl,aW.of vZ,aH (j:=d3) (by simp[af_]),fo,[gs[d3]],rfl,rfl,aT (aG (by show fo.length+1<=1000;lia)),?_⟩;refine⟨_,_,fo++[gs[d3]],rfl,k4,by simp[hfl],λc hc=>?_⟩;rcases a8.mp hc with z | z
    ·exact hfc c z
    ·rw[ay.mp z];exact hgc _ (ah af_)
  ·rintro σ H2 ⟨v3,v4,fo,rfl,k2,hfl,hfc⟩
   exact⟨_,rfl,q fo H2 k2 ⟨by lia,by lia,hfc⟩⟩
def JK:Sp:=λvs H Q _=>∃(R:Addr) (x:Int) (ls:List Nat) (g:Bool),vs=[.ref R,.str (S ls),.bl g]/\H R=some (.lst [.int x])/\JF ls/\∀(c:Nat) (H':Hp),Kp R H H'->qe c->Q (.str (S [c])) H'
theorem aa5 (D:aK K mg "_law_sign" Ig ["_law_rest_here","_law_letters_here","_law_great"])(aY:mg "len"=none)(cO:bT P w K mg base "_law_take" 1 ["_law_rest_here","_law_base"] lC):bT P w K mg base "_law_sign" 2 ["_law_rest_here","_law_letters_here","_law_great"] JK:=by
 refine D.dM SQ (λvs H Q E h=>?_) (λf bL A outer s H vs Q E hr h=>?_)
 ·obtain⟨R,x,ls,g,rfl,_⟩:=h
  rfl
 ·obtain⟨R,x,ls,g,rfl,hR,hA,q⟩:=h
  have hl1:=hA.lo;have hl2:=hA.hi;have hz:ls.length<=sizeLine:=aT (aG (by lia));refine⟨_,(aB (aU (i:=3) SQ.nd rfl (Or.inl rfl) (aQ nj (qv 1) (aX cO hr.mono rfl (aj (qv 0) (aj (aN cI (by rfl) aY aS (aj (qv 1) aq)) aq))) (λ_ _=>rfl))) (aB (cF (QW.qt (i_ (bD iJ (aX cO hr.mono rfl (aj (qv 0) (aj aD aq))) aD (bw _)) (jw (dj (qv 2))))) (aF (bf (rE bE PySem.F.slot_str_upper PySem.F.type_str_upper afI (qv 3)))) bN) (aF (bf (qv 3))))),?_⟩;refine⟨_,rfl,_,rfl,_,rfl,ls,rfl,hz,R,x,ls.length,rfl,hR,by lia,by lia,λd y hd=>?_⟩;have k1:Kp R H (upd H R (.lst [.int y])):=Kp.up y;have yr:upd H R (.lst [.int y]) R=some (.lst [.int y]):=au;generalize upd H R (.lst [.int y])=H1 at k1 yr ⊢;have hc:=hA.az _ (ah hd);refine⟨ls,_,ls[d],rfl,rfl,hz,aH (ac hd),?_⟩;refine⟨_,rfl,R,y,5,rfl,yr,by decide,by decide,λd2 y2 hd2=>⟨rfl,_,rfl,?_⟩⟩;have k2:=k1.trans (Kp.up (H:=H1) y2);generalize upd H1 R (.lst [.int y2])=H2 at k2 ⊢;refine jl (λ_=>?_) (λ_=>?_)
  ·refine⟨_,rfl,g,rfl,jl (λ_=>?_) (λ_=>?_)⟩
   ·refine⟨_,rfl,rfl,[ls[d]],rfl,rfl,by show 1<=1000;decide,λe he=>by rw[ay.mp he];have:=hc.2;lia,?_⟩
    have eu:[ls[d]].map PyProof.Rows.up1=[ls[d]-32]:=by
     rw[ly];unfold PyProof.Rows.up1;rw[if_pos (show 97<=ls[d]/\ls[d]<=122 from hc)]
    rw[eu];exact q _ H2 k2 (af9 hc)
   ·exact⟨_,rfl,q _ H2 k2 (Yi hc)⟩
  ·exact⟨_,rfl,q _ H2 k2 (Yi hc)⟩
theorem adR (l:List Nat)(m:Nat):nq l none (some (m:Int))=l.take m:=by
 unfold nq;rw[HT.qm,HT.uz];simp
theorem Yo (l:List Nat)(m:Nat):nq l (some (m:Int)) none=l.drop m:=by
 unfold nq;rw[HT.qm,HT.uz,bg (by rw[bt];lia)];by_cases h:m<=l.length
 ·rw[im h]
 ·rw[mP (by lia),ir (ap _),ir (by lia)]
theorem adS {l:List Nat}{k:Nat}(h:k < l.length):l.take k++[46]++l.drop (k+1)=l.set k 46:=by
 rw[List.set_eq_take_append_cons_drop,if_pos h,List.append_assoc];rfl
theorem BZ {R:AA}{i:Nat}{x l:List Nat}(h:l∈R.set i x):l∈R\/l=x:=d9 h
theorem aga {d:Nat}(h:d < 8):∃n:Int,oM [V.int 0,V.int 1,V.int 1,V.int 2,V.int 2,V.int 3,V.int 4,V.int 5] (d:Int)=some (.int n):=by
 match d,h with
 | 0,_=>exact⟨_,rfl⟩
 | 1,_=>exact⟨_,rfl⟩
 | 2,_=>exact⟨_,rfl⟩
 | 3,_=>exact⟨_,rfl⟩
 | 4,_=>exact⟨_,rfl⟩
 | 5,_=>exact⟨_,rfl⟩
 | 6,_=>exact⟨_,rfl⟩
 | 7,_=>exact⟨_,rfl⟩
def S8:Sp:=λvs H Q _=>∃(R:Addr) (x:Int) (ls:List Nat) (m:Nat),vs=[.ref R,.str (S ls),.int m]/\H R=some (.lst [.int x])/\JF ls/\1<=m/\m<=9/\
 ∀(p:Addr) (ak:AA) (r w:Nat) (H':Hp),Kp R H H'->H' p=some (.tup (Ts ak))->Blk r w ak->1<=r->r<=9->1<=w->w<=9->(∀l∈ak,∀c∈l,uR c)->(∃i j,i < r/\j < w/\cell ak i j=46)->Q (.ref p) H'
theorem aa6 (D:aK K mg "_law_rows" Ih ["_law_rest_here","_law_letters_here","_law_most"])(jH:mg "int"=none)(cV:mg "range"=none)(cg:mg "tuple"=none)(cO:bT P w K mg base "_law_take" 1 ["_law_rest_here","_law_base"] lC)(O5:bT P w K mg base "_law_sign" 2 ["_law_rest_here","_law_letters_here","_law_great"] JK):bT P w K mg base "_law_rows" 3 ["_law_rest_here","_law_letters_here","_law_most"] S8:=by
 refine D.dM iM (λvs H Q E h=>?_) (λf bL A outer s H vs Q E hr h=>?_)
 ·obtain⟨R,x,ls,m,rfl,_⟩:=h
  rfl
 ·obtain⟨R,x,ls,m,rfl,hR,hA,m1,m9,q⟩:=h
  refine⟨_,(aB (aU (i:=3) iM.nd rfl (Or.inl rfl) (aQ dD (eU (aj (qv 2) (aj aD aq))) (dJ vC (by rfl) jH gt (aj (d_ iJ (aX cO hr.mono rfl (aj (qv 0) (aj aD aq))) aD (bw _)) aq)) (λ_ _=>rfl))) (aB (aU (i:=4) iM.nd rfl (Or.inl rfl) (bx dU aD (aX cO hr.mono rfl (aj (qv 0) (aj (qv 3) aq))))) (aB (aU (i:=5) iM.nd rfl (Or.inl rfl) (bx dU aD (aX cO hr.mono rfl (aj (qv 0) (aj (qv 3) aq))))) (aB (aU (i:=6) iM.nd rfl (Or.inl rfl) (aQ dD (eU (aj aD (aj aD (aj aD (aj aD (aj aD (aj aD (aj aD (aj aD aq))))))))) (aX cO hr.mono rfl (aj (qv 0) (aj aD aq))) (λ_ _=>rfl))) (aB (aU (i:=7) iM.nd rfl (Or.inl rfl) (eU aq)) (aB (dX bS rfl (j6 (by rfl) cV (aj (qv 4) aq)) (bO (i:=8) iM.nd rfl (Or.inl rfl)) (aB (aU (i:=9) iM.nd rfl (Or.inl rfl) (b_ [] (by decide +kernel))) (aB (dX bS rfl (j6 (by rfl) cV (aj (qv 5) aq)) (bO (i:=10) iM.nd rfl (Or.inl rfl)) (aF (cF (bD jQ (aX cO hr.mono rfl (aj (qv 0) (aj aD aq))) (qv 6) (bw _)) (aF (aU (i:=9) iM.nd rfl (Or.inl rfl) (bx jg (qv 9) (aX O5 hr.mono rfl (aj (qv 0) (aj (qv 1) (aj jB aq))))))) (aF (aU (i:=9) iM.nd rfl (Or.inl rfl) (bx jg (qv 9) (b_ [46] (by decide +kernel)))))))) (aF (dO (gw cv dm dq gP (qv 7) (aj (qv 9) aq))))))) (aB (aU (i:=11) iM.nd rfl (Or.inl rfl) (aX cO hr.mono rfl (aj (qv 0) (aj (bx rm (qv 4) (qv 5)) aq)))) (aB (aU (i:=12) iM.nd rfl (Or.inl rfl) (aQ dD (qv 7) (bx qj (qv 11) (qv 5)) (λ_ _=>rfl))) (aB (aU (i:=13) iM.nd rfl (Or.inl rfl) (bx o9 (qv 11) (qv 5))) (aB (rD (bx jg (bx jg (kI Uz (qv 12) oN (lD (qv 13))) (b_ [46] (by decide +kernel))) (kI Uz (qv 12) (lD (bx dU (qv 13) aD)) oN)) (uK (qv 7) (bx qj (qv 11) (qv 5)) set_list)) (aF (bf (dJ f9 (by rfl) cg cK (aj (qv 7) aq)))))))))))))),?_⟩;refine⟨_,rfl,zsz 2,λt ht=>?_⟩;have nRt:R≠t:=bJ hR ht;have Ym:upd H t (.lst [.int m,.int 9]) R=some (.lst [.int x]):=by rw[aM nRt];exact hR
  have k0:Kp R H (upd H t (.lst [.int m,.int 9])):=Kp.of hR (aA.upd ht);have ht0:upd H t (.lst [.int m,.int 9]) t=some (.lst [.int m,.int 9]):=au;generalize upd H t (.lst [.int m,.int 9])=H0 at Ym k0 ht0 ⊢;refine⟨_,rfl,R,x,8,rfl,Ym,by decide,by decide,λd y hd=>⟨rfl,.inr ⟨_,rfl,?_⟩⟩⟩;have k1:=k0.trans (Kp.up (H:=H0) y);have ht1:upd H0 R (.lst [.int y]) t=some (.lst [.int m,.int 9]):=by rw[aM nRt.symm];exact ht0
  have yr:upd H0 R (.lst [.int y]) R=some (.lst [.int y]):=au;generalize upd H0 R (.lst [.int y])=H1 at k1 ht1 yr ⊢;obtain⟨sz,hsz,s1,s9⟩:∃sz:Nat,oM [V.int m,V.int 9] (if decide (V.int (d:Int)=V.int 3)=true then 1 else 0)=some (.int sz)/\1<=sz/\sz<=9:=by
   by_cases e:decide (V.int (d:Int)=V.int 3)=true
   ·rw[if_pos e];exact⟨9,rfl,by decide,by decide⟩
   ·rw[if_neg e];exact⟨m,rfl,m1,m9⟩
  refine⟨t,_,_,_,rfl,rfl,aW.of ht1,hsz,?_⟩;refine⟨_,rfl,_,rfl,R,y,sz,rfl,yr,s1,by lia,λr0 y2 hr0=>⟨_,_,rfl,rfl,?_⟩⟩;have k2:=k1.trans (Kp.up (H:=H1) y2);have BX:upd H1 R (.lst [.int y2]) R=some (.lst [.int y2]):=au;generalize upd H1 R (.lst [.int y2])=H2 at k2 BX ⊢;refine⟨_,rfl,_,rfl,R,y2,sz,rfl,BX,s1,by lia,λw0 y3 hw0=>⟨_,_,rfl,rfl,?_⟩⟩;have k3:=k2.trans (Kp.up (H:=H2) y3);have sW:upd H2 R (.lst [.int y3]) R=some (.lst [.int y3]):=au;generalize upd H2 R (.lst [.int y3])=H3 at k3 sW ⊢;obtain⟨r,ah4,r1,r9⟩:∃r:Nat,(1:Int)+(r0:Int)=(r:Int)/\1<=r/\r<=9:=⟨1+r0,by lia,by lia,by lia⟩
  obtain⟨w,ah5,w1,w9⟩:∃w:Nat,(1:Int)+(w0:Int)=(w:Int)/\1<=w/\w<=9:=⟨1+w0,by lia,by lia,by lia⟩
  show jz 5 (V.int (1+(w0:Int))) (([some (.ref R),some (.str (S ls)),some (.int m),some (.int sz),none,none,none,none,none,none,none,none,none,none]:St).set 4 (some (V.int (1+(r0:Int))))) _ _;rw[ah4,ah5];refine⟨zsz 8,λt2 uU=>?_⟩;have agb:R≠t2:=bJ sW uU;have Fg:upd H3 t2 (.lst [.int 0,.int 1,.int 1,.int 2,.int 2,.int 3,.int 4,.int 5]) R=some (.lst [.int y3]):=by rw[aM agb];exact sW
  have k4:Kp R H (upd H3 t2 (.lst [.int 0,.int 1,.int 1,.int 2,.int 2,.int 3,.int 4,.int 5])):=k3.same (aA.upd uU);have Yp:upd H3 t2 (.lst [.int 0,.int 1,.int 1,.int 2,.int 2,.int 3,.int 4,.int 5]) t2=some (.lst [.int 0,.int 1,.int 1,.int 2,.int 2,.int 3,.int 4,.int 5]):=au;generalize upd H3 t2 (.lst [.int 0,.int 1,.int 1,.int 2,.int 2,.int 3,.int 4,.int 5])=H4 at Fg k4 Yp ⊢;refine⟨_,rfl,R,y3,8,rfl,Fg,by decide,by decide,λd4 y5 hd4=>?_⟩;have k5:=k4.trans (Kp.up (H:=H4) y5);have Yq:upd H4 R (.lst [.int y5]) t2=some (.lst [.int 0,.int 1,.int 1,.int 2,.int 2,.int 3,.int 4,.int 5]):=by rw[aM agb.symm];exact Yp
  have Lf:upd H4 R (.lst [.int y5]) R=some (.lst [.int y5]):=au;generalize upd H4 R (.lst [.int y5])=H5 at k5 Yq Lf ⊢;obtain⟨fu,hfu⟩:=aga hd4;refine⟨t2,_,_,_,rfl,rfl,aW.of Yq,hfu,?_⟩;refine⟨zsz 0,λL hL=>?_⟩;have B_:R≠L:=bJ Lf hL;have hLH:H L=none:=by
   cases e:H L with
   | none=>rfl
   | some o=>rw[k5.1 _ _ e B_.symm]at hL;cases hL
  have Yr:upd H5 L (.lst []) R=some (.lst [.int y5]):=by rw[aM B_];exact Lf
  refine⟨_,rfl,_,rfl,by lia,by lia,?_⟩;rw[df];refine iB (lo:=0) (n:=r) (λi σ H2=>∃(v8 v9 v10:Option V) (ak:AA),σ=[some (.ref R),some (.str (S ls)),some (.int m),some (.int sz),some (.int r),some (.int w),some (.int fu),some (.ref L),v8,v9,v10,none,none,none]/\Kp R H H2/\H2 L=some (.lst (Ts ak))/\ak.length=i/\∀l∈ak,l.length=w/\∀c∈l,uR c)
   ⟨none,none,none,[],rfl,k5.new hLH B_,au,rfl,λl h=>by simp at h⟩ ?_ ?_
  ·rintro i σ H7 hi ⟨v8,v9,v10,ak,rfl,k7,hL7,lr,Ca⟩
   refine⟨_,rfl,_,rfl,by lia,by lia,?_⟩;rw[df];refine iB (lo:=0) (n:=w) (λj σ H8=>∃(v10:Option V) (cs:List Nat),σ=[some (.ref R),some (.str (S ls)),some (.int m),some (.int sz),some (.int r),some (.int w),some (.int fu),some (.ref L),some (.int (0+(i:Int))),some (.str (S cs)),v10,none,none,none]/\Kp R H H8/\H8 L=some (.lst (Ts ak))/\cs.length=j/\∀c∈cs,uR c)
    ⟨v10,[],rfl,k7,hL7,rfl,λc h=>by simp at h⟩ ?_ ?_
   ·rintro j σ H8 hj ⟨v10,cs,rfl,k8,hL8,lc,Lg⟩
    obtain⟨y8,hR8⟩:=k8.2;refine⟨_,rfl,R,y8,6,rfl,hR8,by decide,by decide,λd9 y9 hd9=>?_⟩;have k9:=k8.trans (Kp.up (H:=H8) y9);have hL9:upd H8 R (.lst [.int y9]) L=some (.lst (Ts ak)):=by rw[aM B_.symm];exact hL8
    have hR9:upd H8 R (.lst [.int y9]) R=some (.lst [.int y9]):=au;generalize upd H8 R (.lst [.int y9])=H9 at k9 hL9 hR9 ⊢;have hzc:cs.length+1<=sizeLine:=aT (aG (by lia));refine⟨_,rfl,_,_,rfl,rfl,_,rfl,jl (λ_=>?_) (λ_=>?_)⟩
    ·refine⟨_,rfl,_,rfl,_,rfl,R,y9,ls,true,rfl,hR9,hA,λz H10 k10 hz=>?_⟩
     refine⟨cs,[z],rfl,rfl,hzc,?_⟩;refine⟨_,cs++[z],rfl,k9.trans k10,k10.1 _ _ hL9 B_.symm,by simp[lc],λe he=>?_⟩;rcases a8.mp he with k | k
     ·exact Lg e k
     ·rw[ay.mp k];exact .inr hz
    ·refine⟨_,rfl,cs,[46],rfl,rfl,hzc,?_⟩
     refine⟨_,cs++[46],rfl,k9,hL9,by simp[lc],λe he=>?_⟩;rcases a8.mp he with k | k
     ·exact Lg e k
     ·rw[ay.mp k];exact .inl rfl
   ·rintro σ H8 ⟨v10,cs,rfl,k8,hL8,lc,Lg⟩
    refine⟨_,rfl,.inl ⟨rfl,_,aW.of hL8⟩,_,rfl,L,_,_,rfl,rfl,hL8,by rw[aa];exact aG (by lia),?_⟩;refine⟨_,_,_,ak++[cs],rfl,k8.new hLH B_,by rw[au,lF],by simp[lr],λl hl=>?_⟩;rcases a8.mp hl with k | k
    ·exact Ca l k
    ·rw[ay.mp k];exact⟨lc,Lg⟩
  ·rintro σ H7 ⟨v8,v9,v10,ak,rfl,k7,hL7,lr,Ca⟩
   obtain⟨y7,Lh⟩:=k7.2;have hrw:1<=r*w:=Nat.mul_pos r1 w1;have ah6:r*w<=81:=e_ r9 w9;have aa7:(r:Int)*(w:Int)=((r*w:Nat):Int):=by push_cast;rfl
   refine⟨_,rfl,_,rfl,_,rfl,_,_,rfl,rfl,.inl ⟨by lia,by lia⟩,R,y7,r*w,by show [V.ref R,V.int ((r:Int)*(w:Int))]=_;rw[aa7],Lh,hrw,by lia,λfr y8 hfr=>?_⟩;have k8:=k7.trans (Kp.up (H:=H7) y8);have hL8:upd H7 R (.lst [.int y8]) L=some (.lst (Ts ak)):=by rw[aM B_.symm];exact hL7
   generalize upd H7 R (.lst [.int y8])=H8 at k8 hL8 ⊢;obtain⟨ri,eri⟩:∃ri,ri=fr/w:=⟨_,rfl⟩
   obtain⟨sp,esp⟩:∃sp,sp=fr%w:=⟨_,rfl⟩
   have hir:ri < r:=by rw[eri];exact kX (by rw[mM];exact hfr)
   have hjw:sp < w:=by rw[esp];exact Nat.mod_lt _ w1
   have agc:ri < ak.length:=by rw[lr];exact hir
   have pI:ak[ri].length=w:=(Ca _ (ah _)).1;have ediv:(fr:Int)/(w:Int)=(ri:Int):=by rw[eri];push_cast;rfl
   have emod:(fr:Int)%(w:Int)=(sp:Int):=by rw[esp];push_cast;rfl
   have hz:∀n,n<=100->n<=sizeLine:=λn h=>aT (aG (by lia));refine⟨_,rfl,_,rfl,_,rfl,_,_,rfl,rfl,⟨by show (0:Int) < (w:Int);lia,by show (w:Int) < 1073741824;lia⟩,L,_,_,.str (S ak[ri]),rfl,rfl,aW.of hL8,by show oM _ ((fr:Int)/(w:Int))=_;rw[ediv];exact aH (fW (by simp[agc])),?_⟩;refine⟨_,rfl,_,rfl,_,_,rfl,rfl,(by show (0:Int) < (w:Int);lia),?_⟩;show jz 13 (V.int ((fr:Int)%(w:Int))) _ _ _;rw[emod];generalize hl:ak[ri]=l at pI;have e1:(sp:Int)+1=((sp+1:Nat):Int):=by lia
   refine⟨_,rfl,_,rfl,_,rfl,l,rfl,hz _ (by lia),?_⟩;rw[adR];refine⟨l.take (sp),[46],rfl,rfl,hz _ (by rw[aI];simp;lia),?_⟩;refine⟨_,rfl,_,rfl,_,_,rfl,rfl,_,rfl,l,rfl,hz _ (by lia),?_⟩;rw[e1,Yo];refine⟨_,_,rfl,rfl,hz _ (by rw[bc,aI,bt];simp;lia),?_⟩;rw[adS (by lia)];refine⟨_,rfl,_,rfl,_,rfl,_,_,rfl,rfl,⟨by show (0:Int) < (w:Int);lia,by show (w:Int) < 1073741824;lia⟩,L,_,_,ri,rfl,rfl,hL8,?_,?_⟩
   ·show vD (Ts ak).length ((fr:Int)/(w:Int))=some ri
    rw[ediv];unfold vD;rw[aa,lr,if_pos (by lia),if_pos (by lia)];congr 1
   ·have ah7:(Ts ak).set (ri) (.str (S (l.set (sp) 46)))=Ts (ak.set (ri) (l.set (sp) 46)):=by unfold Ts;rw[mS]
    rw[ah7];have mj:Blk r w (ak.set (ri) (l.set (sp) 46)):=⟨by rw[eI,lr],λx hx=>by
     rcases BZ hx with k | k
     ·exact(Ca x k).1
     ·rw[k,eI];exact pI⟩
    refine⟨_,rfl,L,_,rfl,.inl ⟨aW.of au,λT hT=>?_⟩⟩;have k9:Kp R H (upd H8 L (HO.lst (Ts (ak.set (ri) (l.set (sp) 46))))):=k8.new hLH B_;refine q T _ r w _ (k9.same (aA.upd hT)) au mj r1 r9 w1 w9 (λx hx y hy=>?_) ⟨ri,sp,hir,hjw,?_⟩
    ·rcases BZ hx with k | k
     ·exact(Ca x k).2 y hy
     ·rw[k]at hy
      rcases d9 hy with z | z
      ·exact(Ca l (hl ▸ ah _)).2 y z
      ·rw[z];exact .inl rfl
    ·have h1:ri < (ak.set (ri) (l.set (sp) 46)).length:=by rw[eI];exact agc
     have h2:(ak.set (ri) (l.set (sp) 46))[ri]=l.set (sp) 46:=List.getElem_set_self h1;rw[cell_eq h1 (by rw[h2,eI];lia)];simp[h2]
theorem Kp.tup {R:Addr}{H H':Hp}{x:Int}(k:Kp R H H')(hR:H R=some (.lst [.int x])):∀a xs,H a=some (.tup xs)->H' a=some (.tup xs):=λa xs e=>k.1 a _ e λz=>by rw[z,hR]at e;cases e
def Gd:List Nat:=[50,51,52,98,99,100]++(List.replicate 12 [46]).flatten
def O6:Sp:=λvs H Q _=>∃(R:Addr) (x:Int) (p:Addr) (ak:AA) (r w:Nat),vs=[.ref R,.ref p]/\H R=some (.lst [.int x])/\H p=some (.tup (Ts ak))/\Blk r w ak/\1<=r/\r<=9/\w<=9/\
 ∀(t:Addr) (aO:AA) (H':Hp),Kp R H H'->H' t=some (.tup (Ts aO))->Blk r w aO->(∀l∈aO,∀c∈l,SX c)->Q (.ref t) H'
theorem Ys (D:aK K mg "_law_marks" Ec ["_law_rest_here","_law_rows_here"])(cg:mg "tuple"=none)(cO:bT P w K mg base "_law_take" 1 ["_law_rest_here","_law_base"] lC):bT P w K mg base "_law_marks" 2 ["_law_rest_here","_law_rows_here"] O6:=by
 refine D.dM yV (λvs H Q E h=>?_) (λf bL A outer s H vs Q E hr h=>?_)
 ·obtain⟨R,x,p,ak,r,w,rfl,_⟩:=h
  rfl
 ·obtain⟨R,x,p,ak,r,w,rfl,hR,hp,hb,r1,r9,w9,q⟩:=h
  refine⟨_,(aB (aU (i:=2) yV.nd rfl (Or.inl rfl) (eU aq)) (aB (dX bS rfl (dY (qv 1)) (bO (i:=3) yV.nd rfl (Or.inl rfl)) (aF (dO (gw cv dm dq gP (qv 2) (aj (gw bE eh eB xY (b_ [] (by decide +kernel)) (aj (jx rfl (iZ.of yV.nd (by kernel_rfl)) (uH (qv 3)) (λ_ _ _ _ _=>cU) (λ_ _ _ _ _=>(aQ nj (bx jg (b_ [50,51,52,98,99,100] (by decide +kernel)) (bx Jw (b_ [46] (by decide +kernel)) aD)) (aX cO hr.mono rfl (aj (qv 1) (aj aD aq))) (λ_ _=>rfl)))) aq)) aq))))) (aF (bf (dJ f9 (by rfl) cg cK (aj (qv 2) aq)))))),?_⟩;refine⟨zsz 0,λL hL=>?_⟩;have B_:R≠L:=bJ hR hL;have nRp:p≠R:=λz=>by rw[z,hR]at hp;cases hp
  have nLp:p≠L:=bJ hp hL;have k0:Kp R H (upd H L (.lst [])):=Kp.of hR (aA.upd hL);have hp0:upd H L (.lst []) p=some (.tup (Ts ak)):=aA.upd hL _ _ hp;refine⟨_,rfl,p,rfl,⟨_,aP.of hp0⟩,mO (K:=K) (a:=p) (xs:=Ts ak) (λi σ H2=>∃(v3:Option V) (ms:AA),σ=[some (.ref R),some (.ref p),some (.ref L),v3]/\Kp R H H2/\H2 L=some (.lst (Ts ms))/\ms.length=i/\∀l∈ms,l.length=w/\∀c∈l,SX c)
   ⟨none,[],rfl,k0,au,rfl,λl h=>by simp at h⟩ (λi σ H2 _ h=>by obtain⟨_,_,_,k,_⟩:=h;exact aP.of (k.1 _ _ hp nRp)) ?_ ?_⟩
  ·rintro i y σ H2 hy ⟨v3,ms,rfl,k2,hL2,lr,Ca⟩
   have hi:i < ak.length:=by have:=(af.mp hy).1;simpa using this
   have ey:y=.str (S ak[i]):=by
    have:(Ts ak)[i]?=some (.str (S ak[i])):=by simp[hi]
    rw[this]at hy;exact(aw hy).symm
   subst ey;have hwi:ak[i].length=w:=hb.gR _ (ah _);obtain⟨y2,BX⟩:=k2.2;refine⟨_,rfl,.inl ⟨rfl,_,aW.of hL2⟩,rfl,_,rfl,ak[i],rfl,λM hM=>?_⟩;have nRM:R≠M:=bJ BX hM;have nLM:L≠M:=bJ hL2 hM;have hMH:H M=none:=by
    cases e:H M with
    | none=>rfl
    | some o=>rw[k2.1 _ _ e nRM.symm]at hM;cases hM
   refine uI (λj ys H3=>∃cs:List Nat,ys=Ts (ones cs)/\H3 M=some (.lst ys)/\Kp R H H3/\H3 L=some (.lst (Ts ms))/\cs.length=j/\∀c∈cs,SX c) ⟨[],rfl,au,k2.new hMH nRM,by rw[aM nLM];exact hL2,rfl,λc h=>by simp at h⟩ ?_ ?_
   ·rintro j c ys H3 hj ⟨cs,rfl,lZ,k3,sV,lc,Lg⟩
    have hjl:j < ak[i].length:=(af.mp hj).1;obtain⟨y3,sW⟩:=k3.2;refine⟨[46],12,rfl,rfl,by decide,by decide,by decide,[50,51,52,98,99,100],_,rfl,rfl,by decide,_,rfl,R,y3,18,rfl,sW,by decide,by decide,λd y4 hd=>?_⟩;have k4:=k3.trans (Kp.up (H:=H3) y4);have vZ:upd H3 R (.lst [.int y4]) M=some (.lst (Ts (ones cs))):=by rw[aM nRM.symm];exact lZ
    have j7:upd H3 R (.lst [.int y4]) L=some (.lst (Ts ms)):=by rw[aM B_.symm];exact sV
    generalize upd H3 R (.lst [.int y4])=H4 at k4 vZ j7 ⊢;have agd:d < Gd.length:=by rw[show Gd.length=18 by decide];exact hd
    have hmk:SX Gd[d]:=by
     have:∀x∈Gd,x∈MK:=by decide
     exact this _ (ah agd)
    refine⟨Gd,_,Gd[d],rfl,rfl,by decide,aH (ac agd),vZ,by rw[aa,aa];exact aG (by lia),dI.mk hjl ⟨cs++[Gd[d]],by rw[lF,BR],au,k4.new hMH nRM,by rw[aM nLM];exact j7,by simp[lc],λe he=>?_⟩⟩;rcases a8.mp he with k | k
    ·exact Lg e k
    ·rw[ay.mp k];exact hmk
   ·rintro ys H3 ⟨cs,rfl,lZ,k3,sV,lc,Lg⟩
    refine⟨M,ones cs,rfl,rfl,aW.of lZ,by rw[vX];lia,?_⟩;rw[vX];refine⟨L,_,_,rfl,rfl,sV,by rw[aa];exact aG (by have:=hb.len;lia),?_⟩;refine⟨_,ms++[cs],rfl,k3.new hL B_,by rw[au,lF],by simp[lr],λl hl=>?_⟩;rcases a8.mp hl with k | k
    ·exact Ca l k
    ·rw[ay.mp k];exact⟨by lia,Lg⟩
  ·rintro σ H2 ⟨v3,ms,rfl,k2,hL2,lr,Ca⟩
   rw[aa,hb.len]at lr;refine⟨_,rfl,L,_,rfl,.inl ⟨aW.of hL2,λT hT=>?_⟩⟩;exact q T ms _ (k2.same (aA.upd hT)) au ⟨lr,λl h=>(Ca l h).1⟩ λl h=>(Ca l h).2
def O7:Sp:=λvs H Q _=>∃(R:Addr) (x:Int) (p:Addr) (ak:AA) (r w:Nat),vs=[.ref R,.ref p]/\H R=some (.lst [.int x])/\H p=some (.tup (Ts ak))/\Blk r w ak/\1<=r/\r<=9/\1<=w/\w<=9/\
 ∀(t:Addr) (i j:Nat) (H':Hp),Kp R H H'->H' t=some (.tup [.int i,.int j])->i < r->j < w->Q (.ref t) H'
theorem Yt (D:aK K mg "_law_begin" Ed ["_law_rest_here","_law_rows_here"])(aY:mg "len"=none)(cO:bT P w K mg base "_law_take" 1 ["_law_rest_here","_law_base"] lC):bT P w K mg base "_law_begin" 2 ["_law_rest_here","_law_rows_here"] O7:=by
 refine D.dM O1 (λvs H Q E h=>?_) (λf bL A outer s H vs Q E hr h=>?_)
 ·obtain⟨R,x,p,ak,r,w,rfl,_⟩:=h
  rfl
 ·obtain⟨R,x,p,ak,r,w,rfl,hR,hp,hb,r1,r9,w1,w9,q⟩:=h
  have je:(Ts ak).length=r:=by rw[aa,hb.len]
  have h0:0 < ak.length:=by rw[hb.len];lia
  have hw0:ak[0].length=w:=hb.gR _ (ah _);have hz:ak[0].length<=sizeLine:=aT (aG (by lia));have nRp:p≠R:=λz=>by rw[z,hR]at hp;cases hp
  have hrw:1<=r*w:=Nat.mul_pos r1 w1;have ah6:r*w<=81:=e_ r9 w9;have aa7:(((Ts ak).length:Nat):Int)*((ak[0].length:Nat):Int)=((r*w:Nat):Int):=by rw[je,hw0];push_cast;rfl
  refine⟨_,(aB (aU (i:=2) O1.nd rfl (Or.inl rfl) (aX cO hr.mono rfl (aj (qv 0) (aj (bx rm (aN bU (by rfl) aY aS (aj (qv 1) aq)) (aN cI (by rfl) aY aS (aj (aQ bh (qv 1) aD (λ_ _=>rfl)) aq))) aq)))) (aF (bf (cQ (aj (bx qj (qv 2) (aN cI (by rfl) aY aS (aj (aQ bh (qv 1) aD (λ_ _=>rfl)) aq))) (aj (bx o9 (qv 2) (aN cI (by rfl) aY aS (aj (aQ bh (qv 1) aD (λ_ _=>rfl)) aq))) aq)))))),?_⟩;refine⟨_,rfl,_,rfl,p,_,rfl,.inr (aP.of hp),_,rfl,p,_,_,.str (S ak[0]),rfl,rfl,aP.of hp,aH (j:=0) (fW (by simp[h0])),_,rfl,hz,_,_,rfl,rfl,.inl ⟨by rw[je];lia,by rw[je];lia⟩,R,x,r*w,by show [V.ref R,V.int ((((Ts ak).length:Nat):Int)*((ak[0].length:Nat):Int))]=_;rw[aa7],hR,hrw,by lia,λfr y hfr=>?_⟩;have k1:Kp R H (upd H R (.lst [.int y])):=Kp.up y;have hp1:=k1.1 _ _ hp nRp;generalize upd H R (.lst [.int y])=H1 at k1 hp1 ⊢;refine⟨_,rfl,_,rfl,p,_,_,.str (S ak[0]),rfl,rfl,aP.of hp1,aH (j:=0) (fW (by simp[h0])),_,rfl,hz,_,_,rfl,rfl,⟨by rw[hw0];lia,by rw[hw0];lia⟩,?_⟩;refine⟨_,rfl,_,rfl,p,_,_,.str (S ak[0]),rfl,rfl,aP.of hp1,aH (j:=0) (fW (by simp[h0])),_,rfl,hz,_,_,rfl,rfl,(by show (0:Int) < ((ak[0].length:Nat):Int);rw[hw0];lia),zsz 2,λt ht=>?_⟩;refine q t (fr/w) (fr%w) _ (k1.same (aA.upd ht)) ?_ (kX (by rw[mM];exact hfr)) (Nat.mod_lt _ w1);rw[au,hw0]
  push_cast
  rfl
def S9:Sp:=λvs H Q _=>∃(p:Addr) (ak:AA) (r w:Nat) (i j:Int),vs=[.ref p,.int i,.int j]/\H p=some (.tup (Ts ak))/\Blk r w ak/\1<=r/\r<=9/\w<=9/\∀(b:Bool) (H':Hp),aA H H'->Q (.bl b) H'
def lM (ak:AA)(r w:Nat)(H:Hp)(a:Addr):Prop:=∃i j:Nat,H a=some (.tup [.int i,.int j])/\i < r/\j < w/\cell ak i j=46
theorem lM.iw {ak:AA}{r w:Nat}{H H':Hp}{a:Addr}(h:lM ak r w H a)(k:∀a xs,H a=some (.tup xs)->H' a=some (.tup xs)):lM ak r w H' a:=by
 obtain⟨i,j,e,b⟩:=h;exact⟨i,j,k _ _ e,b⟩
theorem Lj {ak:AA}{H:Hp}{r w:Nat}:∀{fs:List Addr},(∀a∈fs,lM ak r w H a)->∃ds,dW K H 1 ds (fs.map V.ref)/\ds.length=fs.length
 | [],_=>⟨[],.nil,rfl⟩
 | a::fs,h=>by
  obtain⟨ds,h1,h2⟩:=Lj (fs:=fs) λx hx=>h x (a_ _ hx);obtain⟨i,j,e,_,_⟩:=h a bq;exact⟨.tup [.int i,.int j]::ds,.cons (.tup (aP.of e) (.cons (.int _) (.cons (.int _) .nil))) h1,by simp[h2]⟩
theorem lq {H:Hp}{M:Addr}{ys zs:List V}(hM:H M=some (.lst ys)):∀a xs,H a=some (.tup xs)->upd H M (.lst zs) a=some (.tup xs):=λa xs e=>by
 have ne:a≠M:=λz=>by rw[z,hM]at e;cases e
 rw[aM ne];exact e
def Lk:Sp:=λvs H Q _=>∃(p:Addr) (ak:AA) (r w:Nat) (R:Addr) (x:Int),vs=[.ref p,.ref R]/\H R=some (.lst [.int x])/\H p=some (.tup (Ts ak))/\Blk r w ak/\1<=r/\r<=9/\1<=w/\w<=9/\(∃i j,i < r/\j < w/\cell ak i j=46)/\
 ∀(t:Addr) (i j:Nat) (H':Hp),Kp R H H'->H' t=some (.tup [.int i,.int j])->i < r->j < w->cell ak i j=46->Q (.ref t) H'
theorem Vk (D:aK K mg "_law_starts" yW ["_law_rows_here","_law_rest_here"])(aY:mg "len"=none)(cV:mg "range"=none)(cO:bT P w K mg base "_law_take" 1 ["_law_rest_here","_law_base"] lC)(Cd:bT P w K mg base "_law_is_near" 1 ["_law_rows_here","_law_row","_law_column"] S9):bT P w K mg base "_law_starts" 2 ["_law_rows_here","_law_rest_here"] Lk:=by
 refine D.dM rH (λvs H Q E h=>?_) (λf bL A outer s H vs Q E hr h=>?_)
 ·obtain⟨p,ak,r,w,R,x,rfl,_⟩:=h
  rfl
 ·obtain⟨p,ak,r,w,R,x,rfl,hR,hp,hb,r1,r9,w1,w9,hfree,q⟩:=h
  have je:(Ts ak).length=r:=by rw[aa,hb.len]
  have h0:0 < ak.length:=by rw[hb.len];lia
  have hw0:ak[0].length=w:=hb.gR _ (ah _);refine⟨_,(aB (aU (i:=2) rH.nd rfl (Or.inl rfl) (eU aq)) (aB (aU (i:=3) rH.nd rfl (Or.inl rfl) (eU aq)) (aB (dX bS rfl (j6 (by rfl) cV (aj (aN bU (by rfl) aY aS (aj (qv 0) aq)) aq)) (bO (i:=4) rH.nd rfl (Or.inl rfl)) (aF (dX bS rfl (j6 (by rfl) cV (aj (aN cI (by rfl) aY aS (aj (aQ bh (qv 0) aD (λ_ _=>rfl)) aq)) aq)) (bO (i:=5) rH.nd rfl (Or.inl rfl)) (aF (cF (bD xX (aQ nj (aQ bh (qv 0) (qv 4) (λ_ _=>rfl)) (qv 5) (λ_ _=>rfl)) (b_ [46] (by decide +kernel)) (bw _)) (aB (dO (gw cv dm dq gP (qv 2) (aj (cQ (aj (qv 4) (aj (qv 5) aq))) aq))) (aF (cF (dj (aX Cd hr.mono rfl (aj (qv 0) (aj (qv 4) (aj (qv 5) aq))))) (aF (dO (gw cv dm dq gP (qv 3) (aj (cQ (aj (qv 4) (aj (qv 5) aq))) aq)))) bN))) bN))))) (aB (cF (QW.qt (i_ (bD (Oe hr.units) (qv 3) (eU aq) (bw _)) (jw (bD Hl (aX cO hr.mono rfl (aj (qv 1) (aj aD aq))) aD (bw _))))) (aF (bf (aQ dD (qv 3) (aX cO hr.mono rfl (aj (qv 1) (aj (aN bU (by rfl) aY aS (aj (qv 3) aq)) aq))) (λ_ _=>rfl)))) bN) (aF (bf (aQ dD (qv 2) (aX cO hr.mono rfl (aj (qv 1) (aj (aN bU (by rfl) aY aS (aj (qv 2) aq)) aq))) (λ_ _=>rfl)))))))),?_⟩;refine⟨zsz 0,λF hF=>⟨zsz 0,λG hG=>?_⟩⟩;have sF:aA H (upd H F (HO.lst [])):=aA.upd hF;have hG0:=sF.free hG;have nFG:F≠G:=λz=>by rw[<- z,au]at hG;cases hG
  have sG:=sF.cB (o:=HO.lst []) hG0;refine⟨_,rfl,p,_,rfl,.inr (aP.of (sG _ _ hp)),_,rfl,by rw[je];lia,by rw[je];lia,?_⟩;rw[je,df];refine iB (lo:=0) (n:=r) (λi σ H2=>∃(v4 v5:Option V) (fs gs:List Addr),σ=[some (.ref p),some (.ref R),some (.ref F),some (.ref G),v4,v5]/\aA H H2/\H2 F=some (.lst (fs.map V.ref))/\H2 G=some (.lst (gs.map V.ref))/\(∀a∈fs,lM ak r w H2 a)/\(∀a∈gs,lM ak r w H2 a)/\fs.length<=i*9/\gs.length<=i*9/\∀i' j',i' < i->j' < w->cell ak i' j'=46->fs≠[])
   ⟨none,none,[],[],rfl,sG,by rw[aM nFG,au];rfl,au,λa h=>by simp at h,λa h=>by simp at h,b7 _,b7 _,λi' j' h=>by lia⟩ ?_ ?_
  ·rintro i σ H2 hi ⟨v4,v5,fs,gs,rfl,sm,Yu,hG2,okf,okg,lf,lg,hsome⟩
   refine⟨_,rfl,p,_,_,.str (S ak[0]),rfl,rfl,aP.of (sm _ _ hp),aH (j:=0) (fW (by simp[h0])),_,rfl,aT (aG (by lia)),_,rfl,by rw[hw0];lia,by rw[hw0];lia,?_⟩;rw[hw0,df];refine iB (lo:=0) (n:=w) (λj σ H3=>∃(v5:Option V) (fs gs:List Addr),σ=[some (.ref p),some (.ref R),some (.ref F),some (.ref G),some (.int (0+(i:Int))),v5]/\aA H H3/\H3 F=some (.lst (fs.map V.ref))/\H3 G=some (.lst (gs.map V.ref))/\(∀a∈fs,lM ak r w H3 a)/\(∀a∈gs,lM ak r w H3 a)/\fs.length<=i*9+j/\gs.length<=i*9+j/\∀i' j',(i' < i\/(i'=i/\j' < j))->j' < w->cell ak i' j'=46->fs≠[])
    ⟨v5,fs,gs,rfl,sm,Yu,hG2,okf,okg,lf,lg,λi' j' h h1 h2=>hsome i' j' (by lia) h1 h2⟩ ?_ ?_
   ·rintro j σ H3 hj ⟨v5,fs,gs,rfl,s3,Io,Lp,Ce,Cg,lf3,lg3,O8⟩
    have g1:i < ak.length:=by rw[hb.len];exact hi
    have hwi:ak[i].length=w:=hb.gR _ (ah _);have g2:j < ak[i].length:=by lia
    have hce:=cell_eq g1 g2;refine⟨_,rfl,_,rfl,p,_,_,.str (S ak[i]),rfl,rfl,aP.of (s3 _ _ hp),by rw[gh];exact aH (fW (by simp[g1])),_,rfl,ak[i],_,ak[i][j],rfl,rfl,aT (aG (by lia)),by rw[gh];exact aH (by simp[g2]),[ak[i][j]],[46],rfl,rfl,_,rfl,?_⟩;rw[<- hce];by_cases hc:cell ak i j=46
    ·rw[am (show [cell ak i j]=[46] by rw[hc])]
     refine bM ⟨_,rfl,.inl ⟨rfl,_,aW.of Io⟩,_,rfl,_,rfl,zsz 2,λb hbn=>?_⟩;have k4:aA H3 (upd H3 b (HO.tup [.int (0+(i:Int)),.int (0+(j:Int))])):=aA.upd hbn;have A_:=k4 _ _ Io;refine⟨F,_,_,rfl,rfl,A_,by rw[aa];exact aG (by lia),?_⟩;have hPb:lM ak r w (upd (upd H3 b (HO.tup [.int (0+(i:Int)),.int (0+(j:Int))])) F (HO.lst (fs.map V.ref++[V.ref b]))) b:=⟨i,j,lq A_ _ _ (by rw[au,gh,gh]),hi,hj,hc⟩
     have aa8:∀a∈fs++[b],lM ak r w (upd (upd H3 b (HO.tup [.int (0+(i:Int)),.int (0+(j:Int))])) F (HO.lst (fs.map V.ref++[V.ref b]))) a:=λa ha=>by
      rcases a8.mp ha with z | z
      ·exact((Ce a z).iw λa xs e=>k4 a _ e).iw (lq A_)
      ·rw[ay.mp z];exact hPb
     have aa9:∀a∈gs,lM ak r w (upd (upd H3 b (HO.tup [.int (0+(i:Int)),.int (0+(j:Int))])) F (HO.lst (fs.map V.ref++[V.ref b]))) a:=λa ha=>((Cg a ha).iw λa xs e=>k4 a _ e).iw (lq A_);have S_:upd (upd H3 b (HO.tup [.int (0+(i:Int)),.int (0+(j:Int))])) F (HO.lst (fs.map V.ref++[V.ref b])) F=some (.lst ((fs++[b]).map V.ref)):=by rw[au];simp
     have hG5:upd (upd H3 b (HO.tup [.int (0+(i:Int)),.int (0+(j:Int))])) F (HO.lst (fs.map V.ref++[V.ref b])) G=some (.lst (gs.map V.ref)):=by rw[aM nFG.symm];exact k4 _ _ Lp
     have s5:aA H (upd (upd H3 b (HO.tup [.int (0+(i:Int)),.int (0+(j:Int))])) F (HO.lst (fs.map V.ref++[V.ref b]))):=(s3.trans k4).cB hF;generalize upd (upd H3 b (HO.tup [.int (0+(i:Int)),.int (0+(j:Int))])) F (HO.lst (fs.map V.ref++[V.ref b]))=H5 at aa8 aa9 S_ hG5 s5 ⊢;refine⟨_,rfl,_,rfl,_,rfl,p,ak,r,w,(i:Int),(j:Int),by show [V.ref p,V.int (0+(i:Int)),V.int (0+(j:Int))]=_;rw[gh,gh],s5 _ _ hp,hb,r1,r9,w9,λbb H6 s6=>⟨_,rfl,?_⟩⟩;refine jl (λ_=>?_) (λ_=>?_)
     ·have hG6:=s6 _ _ hG5
      refine⟨_,rfl,.inl ⟨rfl,_,aW.of hG6⟩,_,rfl,_,rfl,zsz 2,λb2 hb2=>?_⟩;have k7:aA H6 (upd H6 b2 (HO.tup [.int (0+(i:Int)),.int (0+(j:Int))])):=aA.upd hb2;have hG7:=k7 _ _ hG6;refine⟨G,_,_,rfl,rfl,hG7,by rw[aa];exact aG (by lia),?_⟩;refine⟨_,fs++[b],gs++[b2],rfl,((s5.trans s6).trans k7).cB hG0,by rw[aM nFG];exact k7 _ _ (s6 _ _ S_),by rw[au];simp,λa ha=>?_,λa ha=>?_,by simp;lia,by simp;lia,λ_ _ _ _ _=>by simp⟩
      ·exact(((aa8 a ha).iw λa xs e=>s6 a _ e).iw λa xs e=>k7 a _ e).iw (lq hG7)
      ·rcases a8.mp ha with z | z
       ·exact(((aa9 a z).iw λa xs e=>s6 a _ e).iw λa xs e=>k7 a _ e).iw (lq hG7)
       ·rw[ay.mp z]
        exact⟨i,j,lq hG7 _ _ (by rw[au,gh,gh]),hi,hj,hc⟩
     ·exact⟨_,fs++[b],gs,rfl,s5.trans s6,s6 _ _ S_,s6 _ _ hG5,λa ha=>(aa8 a ha).iw λa xs e=>s6 a _ e,λa ha=>(aa9 a ha).iw λa xs e=>s6 a _ e,by simp;lia,by lia,λ_ _ _ _ _=>by simp⟩
    ·rw[al (show ¬[cell ak i j]=[46] from λz=>hc (by injection z))]
     refine bB ⟨_,fs,gs,rfl,s3,Io,Lp,Ce,Cg,by lia,by lia,λi' j' h h1 h2=>?_⟩;by_cases he:i'=i/\j'=j
     ·rw[he.1,he.2]at h2;exact absurd h2 hc
     ·exact O8 i' j' (by lia) h1 h2
   ·rintro σ H3 ⟨v5,fs,gs,rfl,s3,Io,Lp,Ce,Cg,lf3,lg3,O8⟩
    exact⟨_,_,fs,gs,rfl,s3,Io,Lp,Ce,Cg,by lia,by lia,λi' j' h h1 h2=>O8 i' j' (by lia) h1 h2⟩
  ·rintro σ H2 ⟨v4,v5,fs,gs,rfl,sm,Yu,hG2,okf,okg,lf,lg,hsome⟩
   have agf:fs≠[]:=by
    obtain⟨i,j,hi,hj,hc⟩:=hfree;exact hsome i j hi hj hc
   have BX:=sm _ _ hR;have last:∀(H4:Hp) (y:Int) (v:Nat) (F':Addr) (hs:List Addr),hs≠[]->hs.length<=81->H4 R=some (.lst [.int y])->Kp R H H4->F'≠R->H4 F'=some (.lst (hs.map V.ref))->(∀a∈hs,lM ak r w H4 a)->([some (.ref p),some (.ref R),some (.ref F),some (.ref G),v4,v5]:St)[v]?=some (some (.ref F'))->
     aaj (sO (afr K) (iz v) (Hq lC [] E0 (mQ (iz 1) (mQ (N5 (λxs H Q=>∃p ys,xs=[.ref p]/\(aW K H p ys\/aP K H p ys)/\Q (.int ys.length) H) (mQ (iz v) rQ)) rQ)))) { nx:=λx H'=>Q V.non H',rt:=Q } [some (.ref p),some (.ref R),some (.ref F),some (.ref G),v4,v5] H4:=λH4 y v F' hs hne hle Fg k4 nF A_ ok hv=>by
    have hl0:0 < hs.length:=lj.mpr hne;refine⟨_,hv,_,rfl,_,hv,F',_,rfl,.inl (aW.of A_),R,y,hs.length,by show [V.ref R,V.int ((hs.map V.ref).length:Nat)]=_;rw[aa],Fg,hl0,by lia,λd y5 hd=>?_⟩;have k5:=Kp.up (R:=R) (H:=H4) y5;obtain⟨i,j,e,hi,hj,hc⟩:=ok _ (ah hd);exact⟨F',_,_,.ref hs[d],rfl,rfl,aW.of (by rw[aM nF];exact A_),aH (j:=d) (by simp[hd]),q hs[d] i j _ (k4.trans k5) (k5.tup Fg _ _ e) hi hj hc⟩
   refine⟨_,rfl,zsz 0,λe he=>?_⟩;have k3:aA H2 (upd H2 e (HO.lst [])):=aA.upd he;have Ce:∀a∈fs,lM ak r w (upd H2 e (HO.lst [])) a:=λa ha=>(okf a ha).iw λa xs z=>k3 a _ z;have Cg:∀a∈gs,lM ak r w (upd H2 e (HO.lst [])) a:=λa ha=>(okg a ha).iw λa xs z=>k3 a _ z;obtain⟨es,hes,hel⟩:=Lj (K:=K) Cg;have he3:upd H2 e (HO.lst []) e=some (.lst []):=au;have Io:=k3 _ _ Yu;have Lp:=k3 _ _ hG2;have s3:=sm.trans k3;have sW:=k3 _ _ BX;have nFR:F≠R:=λz=>by rw[<- z]at hR;rw[hF]at hR;cases hR
   have nGR:G≠R:=λz=>by rw[<- z]at hR;rw[hG0]at hR;cases hR
   generalize upd H2 e (HO.lst [])=H3 at k3 Ce Cg hes he3 Io Lp s3 sW ⊢;refine⟨2,.lst es,.lst [],by decide,.lst (aW.of Lp) hes,.lst (aW.of he3) .nil,_,rfl,?_⟩;have agg:fs.length<=81:=by have:=e_ r9 w9;lia
   have ah8:gs.length<=81:=by have:=e_ r9 w9;lia
   by_cases hz:gs=[]
   ·have ez:es=[]:=iA (by rw[hel,hz];rfl)
    subst ez;simp only[if_true,decide_true,i6];exact bB (bB (last H3 x 2 F fs agf agg sW (Kp.of hR s3) nFR Io Ce rfl))
   ·have ez:¬Dt.lst es=Dt.lst []:=λy=>hz (by
     injection y with y;rw[y]at hel;exact iA hel.symm)
    simp only[if_true,ez,decide_false,nv];refine⟨_,rfl,R,x,4,rfl,sW,by decide,by decide,λd y hd=>?_⟩;have k4:=Kp.up (R:=R) (H:=H3) y;have k34:=(Kp.of hR s3).trans k4;have tp:∀a xs,H3 a=some (.tup xs)->upd H3 R (.lst [.int y]) a=some (.tup xs):=k4.tup sW;refine⟨_,_,rfl,rfl,_,rfl,jl (λ_=>?_) (λ_=>?_)⟩
    ·exact last _ y 3 G gs hz ah8 au k34 nGR (by rw[aM nGR];exact Lp) (λa ha=>(Cg a ha).iw tp) rfl
    ·exact last _ y 2 F fs agf agg au k34 nFR (by rw[aM nFR];exact Io) (λa ha=>(Ce a ha).iw tp) rfl
noncomputable def atC (ak:AA)(r w:Nat)(i j:Int):Nat:=if 0<=i/\i < r/\0<=j/\j < w then (ak.getD i.toNat []).getD j.toNat 0 else 46
def Vl (C:Addr):Sp:=λvs H Q _=>∃(p:Addr) (r w:Nat) (ak aO:AA) (bi bj:Nat) (i j:Int),vs=[.ref p,.int i,.int j]/\dZ C H p r w ak aO bi bj/\Q (.str (S [atC ak r w i j])) H
theorem aht {f C:Addr}{fd:FuncData}(F:gQ K "at" "Board.at" kO f fd)(T:gb K C)(fG:∃t,mg "FREE"=some (.str (S [46]) t))(lY:bT P w K mg base "is_cell_of" 2 ["rows","row","column"] (Gb K)):cM P w K mg base fU 3 f fd ["self","row","column"] (Vl C):=by
 refine F.dM Rp (λvs H Q E h=>?_) (λbL A outer s H vs Q E hr h=>?_)
 ·obtain⟨p,r,w,ak,aO,bi,bj,i,j,rfl,_⟩:=h
  rfl
 ·obtain⟨p,r,w,ak,aO,bi,bj,i,j,rfl,B,q⟩:=h
  obtain⟨⟨dx,pr,pm,pb,hp,hr',hm,hb⟩,O⟩:=B;have w9:=O.w9;refine⟨_,(aF (bf (qp (dj (aX lY hr.mono rfl (aj (iD (qv 0) rfl) (aj (qv 1) (aj (qv 2) aq))))) (aQ nj (aQ bh (iD (qv 0) rfl) (qv 1) (λ_ _=>rfl)) (qv 2) (λ_ _=>rfl)) (tG (by rfl) fG)))),?_⟩;refine⟨_,rfl,p,C,dx,_,_,rfl,hp,T.cl,T.nr,rfl,_,rfl,_,rfl,pr,ak,r,w,i,j,rfl,aP.of hr',O.br,O.r1,O.r9,O.w9,_,rfl,?_⟩;by_cases h:0<=i/\i < r/\0<=j/\j < w
  ·rw[am h]
   have e:atC ak r w i j=(ak.getD i.toNat []).getD j.toNat 0:=if_pos h;rw[e]at q;obtain⟨i,rfl⟩:∃k:Nat,i=k:=⟨i.toNat,by lia⟩
   obtain⟨j,rfl⟩:∃k:Nat,j=k:=⟨j.toNat,by lia⟩
   rw[df,df]at q;have hi:i < ak.length:=by rw[O.br.len];lia
   have hgi:ak[i]?=some (ak.getD i []):=by rw[ai,ac hi];rfl
   have hw:(ak.getD i []).length=w:=O.br.gR _ (be hgi);have hgj:(ak.getD i [])[j]?=some ((ak.getD i []).getD j 0):=by rw[ai (l:=ak.getD i []),ac (by lia)];rfl
   refine bM ⟨_,rfl,p,C,dx,_,_,rfl,hp,T.cl,T.nr,rfl,_,rfl,pr,_,_,_,rfl,rfl,aP.of hr',aH (fW hgi),_,rfl,_,_,_,rfl,rfl,aT (aG (by lia)),aH hgj,q⟩
  ·rw[al h]
   have e:atC ak r w i j=46:=if_neg h;rw[e]at q;exact bB q
def isFree (ak:AA):Bool:=ak.flatten.all λc=>decide ([c]=[46])
def Yv (C:Addr):Sp:=λvs H Q _=>∃(p:Addr) (r w:Nat) (ak aO:AA) (bi bj:Nat),vs=[.ref p]/\dZ C H p r w ak aO bi bj/\∀H',aA H H'->Q (.bl (isFree ak)) H'
theorem Vm {f C:Addr}{fd:FuncData}(F:gQ K "is_free" "Board.is_free" gG f fd)(T:gb K C)(fX:mg "all"=none)(fG:∃t,mg "FREE"=some (.str (S [46]) t)):cM P w K mg base fU 1 f fd ["self"] (Yv C):=by
 refine F.dM uO (λvs H Q E h=>?_) (λbL A outer s H vs Q E hr h=>?_)
 ·obtain⟨p,r,w,ak,aO,bi,bj,rfl,_⟩:=h
  rfl
 ·obtain⟨p,r,w,ak,aO,bi,bj,rfl,B,q⟩:=h
  obtain⟨⟨dx,pr,pm,pb,hp,hr',hm,hb⟩,O⟩:=B;have hrw:r*w<=81:=e_ O.r9 O.w9;have hfl:=Ga O.br;refine⟨_,(aF (bf (aN (jL rfl) (by rfl) fX jC (aj (jx rfl (iZ.of uO.nd (by kernel_rfl)) (uH (gw bE eh eB FT (b_ [] (by decide +kernel)) (aj (iD (qv 0) rfl) aq))) (λ_ _ _ _ _=>cU) (λ_ _ _ _ _=>(d_ xX (qv 0) (tG (by rfl) fG) (bw _)))) aq)))),?_⟩;refine⟨rfl,_,rfl,p,C,dx,_,_,rfl,hp,T.cl,T.nr,rfl,pr,ak,rfl,rfl,aP.of hr',by lia,_,rfl,λL hL=>?_⟩;refine uI (λi ys H2=>ys=((ak.flatten.take i).map λc=>decide ([c]=[46])).map V.bl/\H2 L=some (.lst ys)/\aA H H2) ⟨rfl,au,aA.upd hL⟩ ?_ ?_
  ·rintro i c ys H2 hi ⟨rfl,hL2,sm⟩
   have hil:i < ak.flatten.length:=(af.mp hi).1;refine⟨_,rfl,[c],[46],rfl,rfl,hL2,?_,dI.mk hil ⟨?_,au,sm.cB hL⟩⟩
   ·rw[aa,aa,aI];exact aG (by lia)
   ·rw[bu,hi];simp
  ·rintro ys H2 ⟨rfl,hL2,sm⟩
   rw[bX]at hL2;refine⟨L,_,rfl,aW.of hL2,?_⟩;have e:((ak.flatten.map λc=>decide ([c]=[46])).all id)=isFree ak:=by
    unfold isFree;rw[List.all_map];rfl
   rw[e];exact q H2 sm
def jR (ak:AA)(j:Nat):List Nat:=ak.map λl=>l.getD j 0
def lineOf (ak:AA)(i j:Nat)(way:Int):List Nat:=if way=0 then ak.getD i [] else jR ak j
def placeOf (i j:Nat)(way:Int):Nat:=if way=0 then j else i
def Vn:Sp:=λvs H Q _=>∃(p:Addr) (ak:AA) (r w j:Nat),vs=[.ref p,.int j]/\H p=some (.tup (Ts ak))/\Blk r w ak/\r<=9/\w<=9/\j < w/\∀H',aA H H'->Q (.str (S (jR ak j))) H'
theorem JL (D:aK K mg "column_text" nZ ["rows","column"]):bT P w K mg base "column_text" 1 ["rows","column"] Vn:=by
 refine D.dM yg (λvs H Q E h=>?_) (λf bL A outer s H vs Q E hr h=>?_)
 ·obtain⟨p,ak,r,w,j,rfl,_⟩:=h
  rfl
 ·obtain⟨p,ak,r,w,j,rfl,hp,hb,r9,w9,hj,q⟩:=h
  refine⟨_,(aF (bf (gw bE eh eB xY (b_ [] (by decide +kernel)) (aj (jx rfl (iZ.of yg.nd (by kernel_rfl)) (dY (qv 0)) (λ_ _ _ _ _=>cU) (λ_ _ _ _ _=>(aQ nj (qv 0) (qv 2) (λ_ _=>rfl)))) aq)))),?_⟩;have je:(Ts ak).length=r:=by rw[aa,hb.len]
  refine⟨rfl,_,rfl,p,rfl,⟨_,aP.of hp⟩,λL hL=>uJ (xs:=Ts ak) (λi ys H2=>ys=Ts (ones ((ak.take i).map λl=>l.getD j 0))/\H2 L=some (.lst ys)/\aA H H2) ⟨rfl,au,aA.upd hL⟩ (λi ys H2 _ h=>aP.of (h.2.2 _ _ hp)) ?_ ?_⟩
  ·rintro i x ys H2 hi ⟨rfl,hL2,sm⟩
   obtain⟨l,hl,rfl⟩:=uT hi;have hil:i < (Ts ak).length:=(af.mp hi).1;have pI:l.length=w:=hb.gR _ (be hl);refine⟨_,rfl,_,rfl,l,_,l.getD j 0,rfl,rfl,aT (aG (by lia)),?_,hL2,?_,dI.mk hil ⟨?_,au,sm.cB hL⟩⟩
   ·exact aH (by rw[ai,ac (by lia)];rfl)
   ·rw[aa,aa,aa,aI];exact aG (by lia)
   ·rw[lF,BR,bu,hl]
    simp
  ·rintro ys H2 ⟨rfl,hL2,sm⟩
   rw[je,<- hb.len,bX]at hL2;refine⟨L,_,rfl,rfl,aW.of hL2,?_,?_⟩
   ·rw[vX,aa,hb.len];lia
   ·rw[vX];exact q H2 sm
theorem pK {r w:Nat}{ak:AA}(hb:Blk r w ak){i j:Nat}(hi:i < r){way:Int}:(lineOf ak i j way).length=if way=0 then w else r:=by
 unfold lineOf;by_cases h:way=0
 ·rw[if_pos h,if_pos h,ai,ac (by rw[hb.len];exact hi)]
  exact hb.gR _ (ah _)
 ·rw[if_neg h,if_neg h];unfold jR;rw[aa,hb.len]
structure Run (l:List Nat)(k:Nat) where
 ahead:List Nat
 signs:List Nat
theorem oW (l:List Nat):(dR l).length<=l.length:=by
 unfold dR;rw[i8];exact cq (List.takeWhile_prefix _).length_le (by rw[i8];exact ap _)
theorem wg (l:List Nat):(fO l).length<=l.length:=(List.takeWhile_prefix _).length_le
noncomputable def aa_ (i j:Nat)(way:Int)(l:List Nat):List V:=
 if way=0 then [.int i,.int ((j:Int)-(dR (l.take j)).length),.str (S (dR (l.take j)++fO (l.drop j)))] else [.int ((i:Int)-(dR (l.take i)).length),.int j,.str (S (dR (l.take i)++fO (l.drop i)))]
def acK (C:Addr):Sp:=λvs H Q _=>∃(p:Addr) (r w:Nat) (ak aO:AA) (bi bj i j:Nat) (way:Int),vs=[.ref p,.int i,.int j,.int way]/\dZ C H p r w ak aO bi bj/\i < r/\j < w/\(way=0\/way=1)/\
 ∀(t:Addr) (H':Hp),aA H H'->H t=none->H' t=some (.tup (aa_ i j way (lineOf ak i j way)))->Q (.ref t) H'
theorem agh {f C:Addr}{fd:FuncData}(F:gQ K "run" "Board.run" jN f fd)(T:gb K C)(aY:mg "len"=none)(fG:∃t,mg "FREE"=some (.str (S [46]) t))(rT:bT P w K mg base "column_text" 1 ["rows","column"] Vn):cM P w K mg base fU 2 f fd ["self","row","column","way"] (acK C):=by
 refine F.dM jZ (λvs H Q E h=>?_) (λbL A outer s H vs Q E hr h=>?_)
 ·obtain⟨p,r,w,ak,aO,bi,bj,i,j,way,rfl,_⟩:=h
  rfl
 ·obtain⟨p,r,w,ak,aO,bi,bj,i,j,way,rfl,B,hi,hj,Vo,q⟩:=h
  obtain⟨⟨dx,pr,pm,pb,hp,hr',hm,hb⟩,O⟩:=B;have r9:=O.r9;have w9:=O.w9;refine⟨_,(aB (aU (i:=4) jZ.nd rfl (Or.inl rfl) (qp (bD iJ (qv 3) aD (bw _)) (aQ bh (iD (qv 0) rfl) (qv 1) (λ_ _=>rfl)) (aX rT hr.mono rfl (aj (iD (qv 0) rfl) (aj (qv 2) aq))))) (aB (aU (i:=5) jZ.nd rfl (Or.inl rfl) (qp (bD iJ (qv 3) aD (bw _)) (qv 2) (qv 1))) (aB (aU (i:=6) jZ.nd rfl (Or.inl rfl) (aQ bh (gw bE PySem.F.slot_str_rpartition PySem.F.type_str_rpartition aaL (kI Uz (qv 4) oN (lD (qv 5))) (aj (tG (by rfl) fG) aq)) aD (λ_ _=>rfl))) (aB (aU (i:=7) jZ.nd rfl (Or.inl rfl) (bx jg (qv 6) (aQ bh (gw bE PySem.F.slot_str_partition PySem.F.type_str_partition adw (kI Uz (qv 4) (lD (qv 5)) oN) (aj (tG (by rfl) fG) aq)) aD (λ_ _=>rfl)))) (aB (aU (i:=8) jZ.nd rfl (Or.inl rfl) (bx iC (qv 5) (aN cI (by rfl) aY aS (aj (qv 6) aq)))) (aF (bf (qp (bD iJ (qv 3) aD (bw _)) (cQ (aj (qv 1) (aj (qv 8) (aj (qv 7) aq)))) (cQ (aj (qv 8) (aj (qv 2) (aj (qv 7) aq)))))))))))),?_⟩;have hgi:ak[i]?=some (ak.getD i []):=by rw[ai,ac (by rw[O.br.len];exact hi)];rfl
  rcases Vo with rfl | rfl
  ·have hll:(lineOf ak i j 0).length=w:=pK O.br hi
   have el:ak.getD i []=lineOf ak i j 0:=rfl;rw[el]at hgi;have hz:∀l:List Nat,l.length<=100->l.length<=sizeLine:=λl h=>aT (aG (by lia));refine⟨_,rfl,rfl,_,rfl,bM ?_⟩;refine⟨_,rfl,p,C,dx,_,_,rfl,hp,T.cl,T.nr,rfl,_,rfl,pr,_,_,_,rfl,rfl,aP.of hr',aH (fW hgi),?_⟩;generalize hL:lineOf ak i j 0=l at hll hgi ⊢;refine⟨_,rfl,rfl,_,rfl,bM ⟨_,rfl,?_⟩⟩;refine⟨_,rfl,_,rfl,_,rfl,l,rfl,hz _ (by lia),rfl,?_⟩;rw[Xw];refine⟨_,rfl,rfl,by rw[aI];lia,λp1 a1 b1 hp1=>?_⟩;refine⟨p1,_,_,_,rfl,rfl,aP.of au,aH (j:=2) rfl,?_⟩;have s1:aA H (upd H p1 (.tup [.str a1,.str b1,.str (S (dR (l.take j)))])):=aA.upd hp1;generalize upd H p1 (.tup [.str a1,.str b1,.str (S (dR (l.take j)))])=H1 at s1 ⊢;have t1:=oW (l.take j);have t2:=wg (l.drop j);rw[aI]at t1;rw[bt]at t2;refine⟨_,rfl,_,rfl,_,rfl,_,rfl,l,rfl,hz _ (by lia),rfl,?_⟩;rw[Ol];refine⟨_,rfl,rfl,by rw[bt];lia,λp2 b2 c2 hp2=>?_⟩;refine⟨p2,_,_,_,rfl,rfl,aP.of au,aH (j:=0) rfl,_,_,rfl,rfl,aT (aG (by lia)),?_⟩;have s2:=s1.cB (o:=HO.tup [.str (S (fO (l.drop j))),.str b2,.str c2]) (s1.free hp2);generalize upd H1 p2 (HO.tup [.str (S (fO (l.drop j))),.str b2,.str c2])=H2 at s2 ⊢;refine⟨_,rfl,_,rfl,_,rfl,hz _ (by lia),_,_,rfl,rfl,?_⟩;refine⟨_,rfl,rfl,_,rfl,bM ?_⟩;refine⟨_,rfl,_,rfl,_,rfl,zsz 3,λt ht=>?_⟩;exact q t _ (s2.cB (s2.free ht)) (s2.free ht) (by rw[au,hL];rfl)
  ·have hll:(lineOf ak i j 1).length=r:=pK O.br hi
   have el:jR ak j=lineOf ak i j 1:=rfl;have hz:∀l:List Nat,l.length<=100->l.length<=sizeLine:=λl h=>aT (aG (by lia));refine⟨_,rfl,rfl,_,rfl,bB ?_⟩;refine⟨_,rfl,p,C,dx,_,_,rfl,hp,T.cl,T.nr,rfl,_,rfl,pr,ak,r,w,j,rfl,hr',O.br,r9,w9,hj,λH0 s0=>?_⟩;rw[el];generalize hL:lineOf ak i j 1=l at hll ⊢;refine⟨_,rfl,rfl,_,rfl,bB ⟨_,rfl,?_⟩⟩;refine⟨_,rfl,_,rfl,_,rfl,l,rfl,hz _ (by lia),rfl,?_⟩;rw[Xw];refine⟨_,rfl,rfl,by rw[aI];lia,λp1 a1 b1 hp1=>?_⟩;refine⟨p1,_,_,_,rfl,rfl,aP.of au,aH (j:=2) rfl,?_⟩;have s1:aA H (upd H0 p1 (.tup [.str a1,.str b1,.str (S (dR (l.take i)))])):=s0.cB (s0.free hp1);generalize upd H0 p1 (.tup [.str a1,.str b1,.str (S (dR (l.take i)))])=H1 at s1 ⊢;have t1:=oW (l.take i);have t2:=wg (l.drop i);rw[aI]at t1;rw[bt]at t2;refine⟨_,rfl,_,rfl,_,rfl,_,rfl,l,rfl,hz _ (by lia),rfl,?_⟩;rw[Ol];refine⟨_,rfl,rfl,by rw[bt];lia,λp2 b2 c2 hp2=>?_⟩;refine⟨p2,_,_,_,rfl,rfl,aP.of au,aH (j:=0) rfl,_,_,rfl,rfl,aT (aG (by lia)),?_⟩;have s2:=s1.cB (o:=HO.tup [.str (S (fO (l.drop i))),.str b2,.str c2]) (s1.free hp2);generalize upd H1 p2 (HO.tup [.str (S (fO (l.drop i))),.str b2,.str c2])=H2 at s2 ⊢;refine⟨_,rfl,_,rfl,_,rfl,hz _ (by lia),_,_,rfl,rfl,?_⟩;refine⟨_,rfl,rfl,_,rfl,bB ?_⟩;refine⟨_,rfl,_,rfl,_,rfl,zsz 3,λt ht=>?_⟩;exact q t _ (s2.cB (s2.free ht)) (s2.free ht) (by rw[au,hL];rfl)
abbrev aV:=Nat × Nat × Nat
def rk (t:aV):Nat:=t.1*1000+t.2.1
def sw (t:aV):aV:=(t.2.1,t.1,t.2.2)
def okT (t:aV):Prop:=t.1 < 9/\t.2.1 < 9/\t.2.2 < 128
def yt (H:Hp)(a:Addr)(t:aV):Prop:=H a=some (.tup [.int t.1,.int t.2.1,.str (S [t.2.2])])
noncomputable def tO (H:Hp)(a:Addr):aV:=match H a with
 | some (.tup [.int x,.int y,.str z])=>(x.toNat,y.toNat,z.cps.toList.headD 0)
 | _=>(0,0,0)
theorem Ip {H:Hp}{a:Addr}{t:aV}(h:yt H a t):tO H a=t:=by
 unfold tO;rw[show H a=_ from h];rfl
structure cH (H:Hp)(as:List Addr)(ts:List aV):Prop where
 at_:∀a∈as,yt H a (tO H a)
 eq:as.map (tO H)=ts
theorem cH.iw {H H':Hp}{as:List Addr}{ts:List aV}(k:∀a xs,H a=some (.tup xs)->H' a=some (.tup xs))(h:cH H as ts):cH H' as ts:=by
 have e:∀a∈as,tO H' a=tO H a:=λa ha=>Ip (k a _ (h.at_ a ha));exact⟨λa ha=>by rw[e a ha];exact k a _ (h.at_ a ha),by rw[<- h.eq];exact eQ e⟩
theorem cH.mv {H H':Hp}{as:List Addr}{ts:List aV}(k:aA H H')(h:cH H as ts):cH H' as ts:=h.iw λa xs e=>k a _ e
theorem zm {H:Hp}{M:Addr}{ys zs:List V}(hM:H M=some (.lst ys)):∀a xs,H a=some (.tup xs)->upd H M (.lst zs) a=some (.tup xs):=λa xs e=>by
 have ne:a≠M:=λz=>by rw[z,hM]at e;cases e
 rw[aM ne];exact e
theorem cH.snoc {H:Hp}{as:List Addr}{ts:List aV}{a:Addr}{t:aV}(h:cH H as ts)(ha:yt H a t):cH H (as++[a]) (ts++[t]):=by
 refine⟨λb hb=>?_,by rw[bz,h.eq,ly,Ip ha]⟩;rcases a8.mp hb with z | z
 ·exact h.at_ b z
 ·rw[ay.mp z,Ip ha];exact ha
theorem cH.nil {H:Hp}:cH H [] []:=⟨λa h=>by simp at h,rfl⟩
theorem cH.len {H:Hp}{as:List Addr}{ts:List aV}(h:cH H as ts):as.length=ts.length:=by rw[<- h.eq,aa]
theorem cH.get {H:Hp}{as:List Addr}{ts:List aV}(h:cH H as ts){i:Nat}(hi:i < as.length):∃t,ts[i]?=some t/\yt H as[i] t:=
 ⟨tO H as[i],by rw[<- h.eq];simp[hi],h.at_ _ (ah _)⟩
theorem cH.perm {H:Hp}{as as':List Addr}{ts:List aV}(h:cH H as ts)(p:as'.Perm as):cH H as' (as'.map (tO H))/\(as'.map (tO H)).Perm ts:=
 ⟨⟨λa ha=>h.at_ a (p.mem_iff.mp ha),rfl⟩,by rw[<- h.eq];exact p.map _⟩
def bZ (ak:AA)(w:Nat):List (List Nat):=(List.range w).map (jR ak)
theorem qC {r w:Nat}{ak:AA}(h:Blk r w ak):Blk w r (bZ ak w):=
 ⟨by unfold bZ;rw[aa,kl],λl hl=>by
  obtain⟨j,_,rfl⟩:=aE.mp hl;unfold jR;rw[aa,h.len]⟩
theorem zp {r w:Nat}{ak:AA}(h:Blk r w ak){Pc:Nat->Prop}(hp:∀l∈ak,∀c∈l,Pc c):∀l∈bZ ak w,∀c∈l,Pc c:=λl hl c hc=>by
 obtain⟨j,hj,rfl⟩:=aE.mp hl;have hj:=eK.mp hj;obtain⟨l',hl',rfl⟩:=aE.mp hc;have hw:=h.gR l' hl';rw[ai,ac (by lia)];exact hp l' hl' _ (ah _)
theorem Lq {r w:Nat}{ak:AA}(h:Blk r w ak):bZ (bZ ak w) r=ak:=by
 apply fE
 ·unfold bZ;rw[aa,kl,h.len]
 ·intro i h1 h2
  have hw:=h.gR ak[i] (ah _);rw[show (bZ (bZ ak w) r)[i]=jR (bZ ak w) i by simp[bZ]];unfold jR bZ;rw[b8];apply fE
  ·rw[aa,kl,hw]
  ·intro j h3 h4
   rw[de,List.getElem_range];show (ak.map λl=>l.getD j 0).getD i 0=ak[i][j];rw[ai,ac (by rw[aa];exact h2),de];show (ak[i]).getD j 0=_;rw[ai,ac h4];rfl
theorem O9 {r w:Nat}{ak aO:AA}{bi bj:Nat}(B:Le r w ak aO bi bj):Le w r (bZ ak w) (bZ aO w) bj bi:=
 ⟨B.w1,B.w9,B.r1,B.r9,qC B.br,qC B.bm,zp B.br B.cr,zp B.bm B.cm,B.bj,B.bi⟩
def setAt (R:AA)(i j z:Nat):List (List Nat):=R.set i ((R.getD i []).set j z)
def bQ (R:AA)(ts:List aV):List (List Nat):=ts.foldl (λR t=>setAt R t.1 t.2.1 t.2.2) R
theorem Em {r w:Nat}{R:AA}(h:Blk r w R){i j z:Nat}(hi:i < r):Blk r w (setAt R i j z):=by
 refine⟨by unfold setAt;rw[eI,h.len],λl hl=>?_⟩;rcases d9 hl with y | y
 ·exact h.gR l y
 ·rw[y,eI,ai,ac (by rw[h.len];exact hi)]
  exact h.gR _ (ah _)
theorem adT {r w:Nat}{R:AA}(h:Blk r w R){i j z:Nat}(hi:i < r){Pc:Nat->Prop}(hp:∀l∈R,∀c∈l,Pc c)(hz:Pc z):∀l∈setAt R i j z,∀c∈l,Pc c:=λl hl c hc=>by
 rcases d9 hl with y | y
 ·exact hp l y c hc
 ·rw[y]at hc
  rcases d9 hc with u | u
  ·rw[ai,ac (by rw[h.len];exact hi)]at u
   exact hp _ (ah _) c u
  ·rw[u];exact hz
def inB (r w:Nat)(t:aV):Prop:=t.1 < r/\t.2.1 < w/\qe t.2.2
theorem gj {r w:Nat}:∀{ts:List aV} {R:AA},Blk r w R->(∀t∈ts,inB r w t)->Blk r w (bQ R ts)
 | [],_,h,_=>h
 | t::ts,_,h,k=>gj (ts:=ts) (Em h (k t bq).1) λx hx=>k x (a_ _ hx)
theorem uV {r w:Nat}:∀{ts:List aV} {R:AA},Blk r w R->(∀t∈ts,inB r w t)->(∀l∈R,∀c∈l,uR c)->∀l∈bQ R ts,∀c∈l,uR c
 | [],_,_,_,g=>g
 | t::ts,_,h,k,g=>uV (ts:=ts) (Em h (k t bq).1) (λx hx=>k x (a_ _ hx)) (adT h (k t bq).1 g (.inr (k t bq).2.2))
theorem abb {r w:Nat}{ak aO:AA}{bi bj:Nat}(B:Le r w ak aO bi bj){ts:List aV}(k:∀t∈ts,inB r w t):Le r w (bQ ak ts) aO bi bj:=
 ⟨B.r1,B.r9,B.w1,B.w9,gj B.br k,B.bm,uV B.br k B.cr,B.cm,B.bi,B.bj⟩
theorem Lr (R:AA)(ts:List aV)(t:aV):bQ R (ts++[t])=setAt (bQ R ts) t.1 t.2.1 t.2.2:=by unfold bQ;rw[List.foldl_append];rfl
structure eY (H0 H:Hp)(ps:List Addr)(R:AA):Prop where
 len:ps.length=R.length
 nd:ps.Nodup
 fr:∀p∈ps,H0 p=none
 at_:∀(i:Nat) (h:i < ps.length),H ps[i]=some (.lst (Ts (ones (R.getD i []))))
theorem eY.mv {H0 H H':Hp}{ps:List Addr}{R:AA}(h:eY H0 H ps R)(k:∀p∈ps,H' p=H p):eY H0 H' ps R:=
 ⟨h.len,h.nd,h.fr,λi hi=>by rw[k _ (ah _)];exact h.at_ i hi⟩
theorem eY.Ls {H0 H H':Hp}{ps:List Addr}{R:AA}(h:eY H0 H ps R)(k:aA H H'):eY H0 H' ps R:=
 ⟨h.len,h.nd,h.fr,λi hi=>k _ _ (h.at_ i hi)⟩
theorem eY.snoc {H0 H:Hp}{ps:List Addr}{R:AA}(h:eY H0 H ps R){p:Addr}{l:List Nat}(hn:p∉ps)(h0:H0 p=none)(hp:H p=some (.lst (Ts (ones l)))):eY H0 H (ps++[p]) (R++[l]):=by
 refine⟨by simp[h.len],?_,λx hx=>?_,λi hi=>?_⟩
 ·rw[ml]
  refine⟨h.nd,by simp,λa ha b hb=>?_⟩;rw[ay.mp hb];exact λz=>hn (z ▸ ha)
 ·rcases a8.mp hx with z | z
  ·exact h.fr x z
  ·rw[ay.mp z];exact h0
 ·by_cases c:i < ps.length
  ·rw[List.getElem_append_left c,h.at_ i c,ai,ai,c8 (by rw[<- h.len];exact c)]
  ·have e:i=ps.length:=by simp at hi;lia
   subst e;rw[List.getElem_append_right (ap _)];simp only[Nat.sub_self,List.getElem_singleton];rw[hp,ai,cz (by rw[h.len];exact ap _),h.len];simp
theorem eY.set {H0 H:Hp}{ps:List Addr}{R:AA}(h:eY H0 H ps R){i j z:Nat}(hi:i < ps.length):eY H0 (upd H ps[i] (.lst ((Ts (ones (R.getD i []))).set j (.str (S [z]))))) ps (setAt R i j z):=by
 have e:(Ts (ones (R.getD i []))).set j (.str (S [z]))=Ts (ones ((R.getD i []).set j z)):=by
  show List.set (((R.getD i []).map λc=>[c]).map λl=>V.str (S l)) j (V.str (S [z]))=((List.set (R.getD i []) j z).map λc=>[c]).map λl=>V.str (S l);rw[mS,mS]
 rw[e];refine⟨by unfold setAt;rw[eI];exact h.len,h.nd,h.fr,λk hk=>?_⟩;by_cases c:k=i
 ·subst c
  rw[au];unfold setAt;rw[ai (l:=R.set _ _),dC (by rw[<- h.len];exact hi)];rfl
 ·rw[aM (λz=>c ((my h.nd).mp z)),h.at_ k hk]
  unfold setAt;rw[ai (l:=R.set _ _),dS (λz=>c z.symm),<- ai]
def agi:Sp:=λvs H Q _=>∃(p:Addr) (ak:AA) (r w:Nat),vs=[.ref p]/\H p=some (.tup (Ts ak))/\Blk r w ak/\1<=r/\r<=9/\w<=9/\∀(p':Addr) (H':Hp),aA H H'->H' p'=some (.tup (Ts (bZ ak w)))->Q (.ref p') H'
theorem JM (D:aK K mg "turned_rows" n6 ["rows"])(aY:mg "len"=none)(cV:mg "range"=none)(cg:mg "tuple"=none)(rT:bT P w K mg base "column_text" 1 ["rows","column"] Vn):bT P w K mg base "turned_rows" 2 ["rows"] agi:=by
 refine D.dM yh (λvs H Q E h=>?_) (λf bL A outer s H vs Q E hr h=>?_)
 ·obtain⟨p,ak,r,w,rfl,_⟩:=h
  rfl
 ·obtain⟨p,ak,r,w,rfl,hp,hb,r1,r9,w9,q⟩:=h
  refine⟨_,(aF (bf (dJ f9 (by rfl) cg cK (aj (jx rfl (iZ.of yh.nd (by kernel_rfl)) (j6 (by rfl) cV (aj (aN cI (by rfl) aY aS (aj (aQ bh (qv 0) aD (λ_ _=>rfl)) aq)) aq)) (λ_ _ _ _ _=>cU) (λ_ _ _ _ _=>(aX rT hr.mono rfl (aj (qv 1) (aj (qv 0) aq))))) aq)))),?_⟩;have h0:0 < ak.length:=by rw[hb.len];exact r1
  have w0:ak[0].length=w:=hb.gR _ (ah _);refine⟨_,rfl,p,_,_,.str (S ak[0]),rfl,rfl,aP.of hp,aH (j:=0) (fW (by simp[h0])),_,rfl,aT (aG (by lia)),_,rfl,by lia,by lia,?_⟩;intro M hM;rw[df,w0];refine Ux (lo:=0) (n:=w) (λi ys H2=>ys=Ts ((List.range i).map (jR ak))/\H2 M=some (.lst ys)/\aA H H2) ⟨rfl,au,aA.upd hM⟩ ?_ ?_
  ·rintro i ys H2 hi ⟨rfl,lN,sm⟩
   refine⟨_,rfl,_,rfl,p,ak,r,w,i,by rw[gh];rfl,sm _ _ hp,hb,r9,w9,hi,λH3 s3=>⟨s3 _ _ lN,?_,dI.mk hi ⟨?_,au,(sm.trans s3).cB hM⟩⟩⟩
   ·rw[aa,aa,kl];exact aG (by lia)
   ·rw[lF,List.range_succ,bz];rfl
  ·rintro ys H2 ⟨rfl,lN,sm⟩
   refine⟨M,_,rfl,.inl ⟨aW.of lN,λl hl=>?_⟩⟩;exact q l _ (sm.cB (sm.free hl)) au
def Ge (C:Addr):Sp:=λvs H Q _=>∃(p:Addr) (r w:Nat) (ak aO:AA) (bi bj:Nat),vs=[.ref p]/\dZ C H p r w ak aO bi bj/\∀(p':Addr) (H':Hp),aA H H'->dZ C H' p' w r (bZ ak w) (bZ aO w) bj bi->Q (.ref p') H'
theorem Yw {f C f0:Addr}{fd jt:FuncData}(F:gQ K "turned" "Board.turned" ig f fd)(T:gb K C)(uW:mg "Board"=some (.ref C))(yu:Mk K C f0)(yw:cM P w K mg base fU 5 f0 jt ["self","rows","marks","begin"] (El C))(yx:cJ K jt ["self","rows","marks","begin"] [])
  (Ba:bT P w K mg base "turned_rows" 2 ["rows"] agi):cM P w K mg base fU 8 f fd ["self"] (Ge C):=by
 refine F.dM vP (λvs H Q E h=>?_) (λbL A outer s H vs Q E hr h=>?_)
 ·obtain⟨p,r,w,ak,aO,bi,bj,rfl,_⟩:=h
  rfl
 ·obtain⟨p,r,w,ak,aO,bi,bj,rfl,BA,q⟩:=h
  obtain⟨⟨dx,pr,pm,pb,hx,hpr,hpm,hpb⟩,B⟩:=BA;refine⟨_,(aB (aU (i:=1) vP.nd rfl (Or.inl rfl) (cQ (aj (aQ bh (iD (qv 0) rfl) aD (λ_ _=>rfl)) (aj (aQ bh (iD (qv 0) rfl) aD (λ_ _=>rfl)) aq)))) (aF (bf (Eb yu yw hr.mono rfl uW yx .nil kj (aj (aX Ba hr.mono rfl (aj (iD (qv 0) rfl) aq)) (aj (aX Ba hr.mono rfl (aj (iD (qv 0) rfl) aq)) (aj (qv 1) aq))))))),?_⟩;refine⟨_,rfl,p,C,dx,_,_,rfl,hx,T.cl,T.nb,rfl,pb,_,_,.int bj,rfl,rfl,aP.of hpb,aH (j:=1) rfl,?_⟩;refine⟨_,rfl,p,C,dx,_,_,rfl,hx,T.cl,T.nb,rfl,pb,_,_,.int bi,rfl,rfl,aP.of hpb,aH (j:=0) rfl,zsz 2,λb hb=>?_⟩;have s1:aA H (upd H b (.tup [.int bj,.int bi])):=aA.upd hb;refine⟨_,rfl,p,C,dx,_,_,rfl,s1 _ _ hx,T.cl,T.nr,rfl,pr,ak,r,w,rfl,s1 _ _ hpr,B.br,B.r1,B.r9,B.w9,λp1 H1 t1 h1=>?_⟩;have s2:=s1.trans t1;refine⟨_,rfl,p,C,dx,_,_,rfl,s2 _ _ hx,T.cl,T.nm,rfl,pm,aO,r,w,rfl,s2 _ _ hpm,B.bm,B.r1,B.r9,B.w9,λp2 H2 t2 h2=>?_⟩;have s3:=s2.trans t2;refine⟨_,rfl,λx dy nx ndx sU=>?_⟩;have s4:aA H2 (upd (upd H2 dy (HO.own x)) x (HO.ins C dy [])):=λb o e=>by rw[aM (bJ e nx),aM (bJ e ndx)];exact e
  have hb2:H2 b=some (.tup [.int bj,.int bi]):=t2 _ _ (t1 _ _ au);refine⟨x,dy,p1,p2,b,w,r,bZ ak w,bZ aO w,bj,bi,rfl,au,s4 _ _ (t2 _ _ h1),s4 _ _ h2,s4 _ _ hb2,O9 B,λH3 kp hx3=>⟨rfl,?_⟩⟩;have s5:aA H2 H3:=λb o e=>kp b o (s4 b o e) (bJ e nx);exact q x H3 (s3.trans s5) ⟨⟨dy,p1,p2,b,hx3,s5 _ _ (t2 _ _ h1),s5 _ _ h2,s5 _ _ hb2⟩,O9 B⟩
def O_ (C:Addr):Sp:=λvs H Q _=>∃(p t:Addr) (as:List Addr) (ts:List aV) (r w:Nat) (ak aO:AA) (bi bj:Nat),vs=[.ref p,.ref t]/\dZ C H p r w ak aO bi bj/\H t=some (.tup (as.map V.ref))/\cH H as ts/\(∀t∈ts,inB r w t)/\
 ∀(p':Addr) (H':Hp),aA H H'->dZ C H' p' r w (bQ ak ts) aO bi bj->Q (.ref p') H'
theorem adU {f C f0:Addr}{fd jt:FuncData}(F:gQ K "laid" "Board.laid" jr f fd)(T:gb K C)(g_:mg "list"=none)(cg:mg "tuple"=none)(uW:mg "Board"=some (.ref C))(yu:Mk K C f0)(yw:cM P w K mg base fU 5 f0 jt ["self","rows","marks","begin"] (El C))(yx:cJ K jt ["self","rows","marks","begin"] []) :
  cM P w K mg base fU 8 f fd ["self","laying"] (O_ C):=by
 refine F.dM jy (λvs H Q E h=>?_) (λbL A outer s H vs Q E hr h=>?_)
 ·obtain⟨p,t,as,ts,r,w,ak,aO,bi,bj,rfl,_⟩:=h
  rfl
 ·obtain⟨p,t,as,ts,r,w,ak,aO,bi,bj,rfl,BA,ht,hL,bA,q⟩:=h
  obtain⟨⟨dx,pr,pm,pb,hx,hpr,hpm,hpb⟩,B⟩:=BA;have r9:=B.r9;have w9:=B.w9;have hbr:=B.br;refine⟨_,(aB (um (ix:=2) (ns:=["row"]) jy.nd rfl (Or.inl rfl) rfl (fD.of ["self","laying","lines",".3","column","sign"] [3] (by kernel_rfl)) (dY (iD (qv 0) rfl)) (λ_ _ _ _ _=>(oO (show (["row","self","laying","lines",".3","column","sign"]:List Str).Nodup by decide +kernel) rfl (by rfl))) (λ_ _ _ _ _=>cU) (λ_ _ _ _ _=>(dJ (yR rfl) (by rfl) g_ fq (aj (qv 0) aq)))) (aB (dX bS rfl (dY (qv 1)) (nO rfl (cD (bO (i:=3) jy.nd rfl (Or.inl rfl)) (cD (bO (i:=4) jy.nd rfl (Or.inl rfl)) (cD (bO (i:=5) jy.nd rfl (Or.inl rfl)) jW)))) (aF (rD (qv 5) (uK (aQ dD (qv 2) (qv 3) (λ_ _=>rfl)) (qv 4) set_list)))) (aF (bf (Eb yu yw hr.mono rfl uW yx .nil kj (aj (dJ f9 (by rfl) cg cK (aj (jx rfl (iZ.of jy.nd (by kernel_rfl)) (gK (qv 2)) (λ_ _ _ _ _=>cU) (λ_ _ _ _ _=>(afL K bE eh eB (aaK K) (b_ [] (by decide +kernel)) (aj (qv 0) aq)))) aq)) (aj (iD (qv 0) rfl) (aj (iD (qv 0) rfl) aq)))))))),?_⟩;refine⟨_,rfl,p,C,dx,_,_,rfl,hx,T.cl,T.nr,rfl,pr,rfl,⟨_,aP.of hpr⟩,λM hM=>tH (f:=eG [3] 0) (tt:=gC) (xs:=Ts ak) (λi ys H2=>∃ps:List Addr,ys=ps.map V.ref/\H2 M=some (.lst ys)/\aA H H2/\eY H H2 ps (ak.take i)/\M∉ps)
   ⟨[],rfl,au,aA.upd hM,⟨by simp,gS,λp h=>by simp at h,λi h=>by simp at h⟩,by simp⟩ (λi ys H2 _ h=>by obtain⟨_,_,_,sm,_⟩:=h;exact aP.of (sm _ _ hpr)) ?_ ?_⟩
  ·rintro i x ys H2 hi ⟨ps,rfl,lN,sm,lO,nM⟩
   obtain⟨l,hl,rfl⟩:=uT hi;have hil:i < (Ts ak).length:=(af.mp hi).1;have pI:l.length=w:=hbr.gR _ (be hl);have je:(Ts ak).length=r:=by rw[aa,hbr.len]
   have hpl:ps.length<=9:=by rw[lO.len,aI,hbr.len];lia
   refine U0 ⟨_,rfl,l,rfl,by lia,λc hc=>?_⟩;have Pa:M≠c:=λz=>by rw[<- z,lN]at hc;cases hc
   have ncp:c∉ps:=λz=>by
    obtain⟨k,hk,e⟩:=c_.mp z;have:=lO.at_ k hk;rw[e,hc]at this;cases this
   refine⟨by rw[aM Pa];exact lN,by rw[aa];exact aG (by lia),dI.mk hil ⟨ps++[c],by simp,au,(sm.cB (sm.free hc)).cB hM,?_,?_⟩⟩
   ·rw[show ak.take (i+1)=ak.take i++[l] by rw[bu,hl];rfl]
    refine eY.mv ((lO.Ls (aA.upd hc)).snoc ncp (sm.free hc) au) λy hy=>aM λz=>?_;rcases a8.mp hy with u | u
    ·exact nM (z ▸ u)
    ·exact Pa (z.symm.trans (ay.mp u))
   ·intro z
    rcases a8.mp z with u | u
    ·exact nM u
    ·exact Pa (ay.mp u)
  ·rintro ys H2 ⟨ps,rfl,lN,sm,lO,nM⟩
   rw[bg (by rw[aa];exact ap _)]at lO;refine⟨_,rfl,t,rfl,⟨_,aP.of (sm _ _ ht)⟩,mO (K:=K) (a:=t) (xs:=as.map V.ref) (λi σ H3=>∃v3 v4 v5:Option V,σ=[some (.ref p),some (.ref t),some (.ref M),v3,v4,v5]/\aA H H3/\H3 M=some (.lst (ps.map V.ref))/\eY H H3 ps (bQ ak (ts.take i)))
    ⟨none,none,none,rfl,sm,lN,lO⟩ (λi σ H3 _ h=>by obtain⟨_,_,_,_,sm,_⟩:=h;exact aP.of (sm _ _ ht)) ?_ ?_⟩
   ·rintro i x σ H3 hx' ⟨v3,v4,v5,rfl,sm3,lZ,lu⟩
    rw[a7]at hx';have hi:i < as.length:=by
     rcases jv i as.length with z | z
     ·exact z
     ·rw[e7 z]at hx';cases hx'
    rw[ac hi]at hx';have hx':V.ref as[i]=x:=aw hx';subst hx';obtain⟨u,eu,hU⟩:=hL.get hi;have hum:=be eu;obtain⟨u1,u2,u3⟩:=bA u hum;have hb3:Blk r w (bQ ak (ts.take i)):=gj hbr λy hy=>bA y (c6 hy);have hpl:ps.length=r:=by rw[lu.len,hb3.len]
    have hps:u.1 < ps.length:=by lia
    refine⟨as[i],_,rfl,aP.of (sm3 _ _ hU),rfl,_,_,rfl,_,_,rfl,_,_,rfl,rfl,?_⟩;refine⟨_,rfl,_,rfl,_,rfl,M,_,_,.ref ps[u.1],rfl,rfl,aW.of lZ,aH (by simp[hps]),_,rfl,ps[u.1],_,_,u.2.1,rfl,rfl,lu.at_ u.1 hps,?_,?_⟩
    ·have:((bQ ak (ts.take i)).getD u.1 []).length=w:=by
      rw[ai,ac (by rw[hb3.len];exact u1)];exact hb3.gR _ (ah _)
     unfold vD;rw[aa,aa,this,if_pos (by lia),if_pos (by lia)];congr 1
    ·refine⟨_,_,_,rfl,sm3.cB (lu.fr _ (ah _)),?_,?_⟩
     ·have ne:M≠ps[u.1]:=λz=>nM (by rw[z];exact ah _)
      rw[aM ne];exact lZ
     ·rw[show bQ ak (ts.take (i+1))=setAt (bQ ak (ts.take i)) u.1 u.2.1 u.2.2 by rw[bu,eu];exact Lr _ _ _]
      exact lu.set hps
   ·rintro σ H3 ⟨v3,v4,v5,rfl,sm3,lZ,lu⟩
    rw[bg (by rw[aa,hL.len];exact ap _)]at lu;have B':=abb B bA;have hpl:ps.length=r:=by rw[lu.len,B'.br.len]
    refine⟨_,rfl,M,rfl,⟨_,aW.of lZ⟩,λN hN=>Xo (xs:=ps.map V.ref) (λi ys H4=>ys=Ts ((bQ ak ts).take i)/\H4 N=some (.lst ys)/\aA H3 H4) ⟨rfl,au,aA.upd hN⟩ (λi ys H4 _ h=>aW.of (h.2.2 _ _ lZ)) ?_ ?_⟩
    ·rintro i x ys H4 hi ⟨rfl,hN4,nR⟩
     rw[a7]at hi;have hi':i < ps.length:=by
      rcases jv i ps.length with z | z
      ·exact z
      ·rw[e7 z]at hi;cases hi
     rw[ac hi']at hi;have hi:V.ref ps[i]=x:=aw hi;subst hi;have Ir:i < (bQ ak ts).length:=by rw[<- lu.len];exact hi'
     have hg:(bQ ak ts).getD i []=(bQ ak ts)[i]:=by rw[ai,ac Ir];rfl
     have hw:(bQ ak ts)[i].length=w:=B'.br.gR _ (ah _);have hat:=lu.at_ i hi';rw[hg]at hat;refine⟨rfl,_,rfl,ps[i],ones (bQ ak ts)[i],rfl,rfl,aW.of (nR _ _ hat),by rw[vX,hw];lia,hN4,?_,dI.mk (by rw[aa];exact hi') ⟨?_,au,nR.cB hN⟩⟩
     ·rw[aa,aI];exact aG (by lia)
     ·rw[vX,lF,bu,ac Ir];rfl
    ·rintro ys H4 ⟨rfl,hN4,nR⟩
     rw[bg (by rw[aa,lu.len];exact ap _)]at hN4;refine⟨N,_,rfl,.inl ⟨aW.of hN4,λl hl=>?_⟩⟩;have s5:=(sm3.trans nR).cB (o:=.tup (Ts (bQ ak ts))) ((sm3.trans nR).free hl);refine⟨_,rfl,p,C,dx,_,_,rfl,s5 _ _ hx,T.cl,T.nm,rfl,_,rfl,p,C,dx,_,_,rfl,s5 _ _ hx,T.cl,T.nb,rfl,λx dy nx ndx sU=>?_⟩;have s6:aA (upd H4 l (.tup (Ts (bQ ak ts)))) (upd (upd (upd H4 l (.tup (Ts (bQ ak ts)))) dy (HO.own x)) x (HO.ins C dy [])):=λb o e=>by rw[aM (bJ e nx),aM (bJ e ndx)];exact e
     refine⟨x,dy,l,pm,pb,r,w,bQ ak ts,aO,bi,bj,rfl,au,s6 _ _ au,s6 _ _ (s5 _ _ hpm),s6 _ _ (s5 _ _ hpb),B',λH5 kp hx5=>⟨rfl,?_⟩⟩;have s7:aA (upd H4 l (.tup (Ts (bQ ak ts)))) H5:=λb o e=>kp b o (s6 b o e) (bJ e nx);exact q x H5 (s5.trans s7) ⟨⟨dy,l,pm,pb,hx5,s7 _ _ au,s7 _ _ (s5 _ _ hpm),s7 _ _ (s5 _ _ hpb)⟩,B'⟩
theorem acL {i:Nat}:∀{ts:List aV},(∀t∈ts,t.1=i)->ts.Pairwise (λa b=>a.1=b.1)
 | [],_=>.nil
 | t::ts,h=>.cons (λb hb=>by rw[h t bq,h b (a_ _ hb)]) (acL λb hb=>h b (a_ _ hb))
def zq (ts:List aV):Prop:=ts.Pairwise (λa b=>a.1=b.1)\/ts.Pairwise (λa b=>a.1 < b.1)
def iR (ts:List aV):Prop:=(∃i,(∀t∈ts,t.1=i)/\ts.Pairwise (λa b=>a.2.1 < b.2.1))\/(∃j,(∀t∈ts,t.2.1=j)/\ts.Pairwise (λa b=>a.1 < b.1))
theorem iR.one {ts:List aV}(h:iR ts):zq ts:=by
 rcases h with⟨i,h,_⟩ | ⟨_,_,h⟩
 ·exact .inl (acL h)
 ·exact .inr h
def lQ (wy i j:Nat)(ts:List aV):Prop:=(wy=0->(∀t∈ts,t.1=i/\t.2.1 < j)/\ts.Pairwise (λa b=>a.2.1 < b.2.1))/\(wy=1->(∀t∈ts,t.2.1=j/\t.1 < i)/\ts.Pairwise (λa b=>a.1 < b.1))
theorem lQ.nil {wy i j:Nat}:lQ wy i j []:=⟨λ_=>⟨λt h=>(by simp at h),List.Pairwise.nil⟩,λ_=>⟨λt h=>(by simp at h),List.Pairwise.nil⟩⟩
theorem lQ.two {wy i j:Nat}{ts:List aV}(hw:wy<=1)(h:lQ wy i j ts):iR ts:=by
 by_cases z:wy=0
 ·exact .inl ⟨i,λt ht=>((h.1 z).1 t ht).1,(h.1 z).2⟩
 ·have z:wy=1:=by lia
  exact .inr ⟨j,λt ht=>((h.2 z).1 t ht).1,(h.2 z).2⟩
theorem lQ.step {wy i j:Nat}{ts:List aV}(h:lQ wy i j ts):lQ wy (i+wy) (j+1-wy) ts:=
 ⟨λz=>⟨λt ht=>by have:=(h.1 z).1 t ht;lia,(h.1 z).2⟩,λz=>⟨λt ht=>by have:=(h.2 z).1 t ht;lia,(h.2 z).2⟩⟩
theorem lQ.snoc {wy i j z:Nat}{ts:List aV}(h:lQ wy i j ts):lQ wy (i+wy) (j+1-wy) (ts++[(i,j,z)]):=by
 refine⟨λy=>⟨λt ht=>?_,?_⟩,λy=>⟨λt ht=>?_,?_⟩⟩
 ·rcases a8.mp ht with x | x
  ·have:=(h.1 y).1 t x;lia
  ·rw[ay.mp x];simp only;lia
 ·rw[List.pairwise_append]
  refine⟨(h.1 y).2,ke _ _,λa ha b' hb'=>?_⟩;rw[ay.mp hb'];exact((h.1 y).1 a ha).2
 ·rcases a8.mp ht with x | x
  ·have:=(h.2 y).1 t x;lia
  ·rw[ay.mp x];simp only;lia
 ·rw[List.pairwise_append]
  refine⟨(h.2 y).2,ke _ _,λa ha b' hb'=>?_⟩;rw[ay.mp hb'];exact((h.2 y).1 a ha).2
theorem Kp.free {R F:Addr}{H H1:Hp}(k:Kp R H H1)(h:H1 F=none):H F=none/\R≠F:=by
 have n:R≠F:=λz=>by obtain⟨y,e⟩:=k.2;rw[z,h]at e;cases e
 refine⟨?_,n⟩;cases e:H F with
 | none=>rfl
 | some o=>rw[k.1 _ _ e n.symm]at h;cases h
def Fi:Sp:=λvs H Q _=>∃(p:Addr) (ak:AA) (r w:Nat) (R:Addr) (x:Int) (ls:List Nat),vs=[.ref p,.ref R,.str (S ls)]/\H R=some (.lst [.int x])/\H p=some (.tup (Ts ak))/\Blk r w ak/\1<=r/\r<=9/\1<=w/\w<=9/\(∃i j,i < r/\j < w/\cell ak i j=46)/\JF ls/\
 ∀(t:Addr) (as:List Addr) (ts:List aV) (H':Hp),Kp R H H'->H' t=some (.tup (as.map V.ref))->cH H' as ts->(∀t∈ts,inB r w t)->ts≠[]->ts.length<=7->iR ts->Q (.ref t) H'
theorem Pb (D:aK K mg "_law_straight" tX ["_law_rows_here","_law_rest_here","_law_letters_here"])(aY:mg "len"=none)(jH:mg "int"=none)(cg:mg "tuple"=none)(cO:bT P w K mg base "_law_take" 1 ["_law_rest_here","_law_base"] lC)(abd:bT P w K mg base "_law_starts" 2 ["_law_rows_here","_law_rest_here"] Lk)(O5:bT P w K mg base "_law_sign" 2 ["_law_rest_here","_law_letters_here","_law_great"] JK):bT P w K mg base "_law_straight" 3 ["_law_rows_here","_law_rest_here","_law_letters_here"] Fi:=by
 refine D.dM fZ (λvs H Q E h=>?_) (λf bL A outer s H vs Q E hr h=>?_)
 ·obtain⟨p,ak,r,w,R,x,ls,rfl,_⟩:=h
  rfl
 ·obtain⟨p,ak,r,w,R,x,ls,rfl,hR,hp,hb,r1,r9,w1,w9,hfree,hA,q⟩:=h
  have je:(Ts ak).length=r:=by rw[aa,hb.len]
  have h0:0 < ak.length:=by rw[hb.len];lia
  have hw0:ak[0].length=w:=hb.gR _ (ah _);have Lx:p≠R:=λz=>by rw[z,hR]at hp;cases hp
  refine⟨_,(aB (aU (i:=3) fZ.nd rfl (Or.inl rfl) (aX cO hr.mono rfl (aj (qv 1) (aj aD aq)))) (aB (aU (i:=4) fZ.nd rfl (Or.inl rfl) (bx dU aD (aX cO hr.mono rfl (aj (qv 1) (aj aD aq))))) (aB (rD (aX abd hr.mono rfl (aj (qv 0) (aj (qv 1) aq))) (nO rfl (cD (bO (i:=5) fZ.nd rfl (Or.inl rfl)) (cD (bO (i:=6) fZ.nd rfl (Or.inl rfl)) jW)))) (aB (aU (i:=7) fZ.nd rfl (Or.inl rfl) (eU aq)) (aB (aU (i:=8) fZ.nd rfl (Or.inl rfl) aD) (aB (gD (yO bS (QW.qt (i_ (bD jQ (qv 5) (aN bU (by rfl) aY aS (aj (qv 0) aq)) (bw _)) (i_ (bD jQ (qv 6) (aN cI (by rfl) aY aS (aj (aQ bh (qv 0) aD (λ_ _=>rfl)) aq)) (bw _)) (jw (bD jQ (aN bU (by rfl) aY aS (aj (qv 7) aq)) (qv 4) (bw _)))))) (aB (gD (cF (bD xX (aQ nj (aQ bh (qv 0) (qv 5) (λ_ _=>rfl)) (qv 6) (λ_ _=>rfl)) (b_ [46] (by decide +kernel)) (bw _)) (aB (aU (i:=9) fZ.nd rfl (Or.inl rfl) (aX O5 hr.mono rfl (aj (qv 1) (aj (qv 2) (aj (d_ jQ (qv 8) aD (bw _)) aq))))) (aB (aU (i:=8) fZ.nd rfl (Or.inl rfl) (bx dU (qv 8) (dJ vC (by rfl) jH gt (aj (d_ nJ (qv 9) (rE bE ft fv yc (qv 9)) (bw _)) aq)))) (aF (dO (gw cv dm dq gP (qv 7) (aj (cQ (aj (qv 5) (aj (qv 6) (aj (qv 9) aq)))) aq)))))) bN)) (aB (aU (i:=5) fZ.nd rfl (Or.inl rfl) (bx dU (qv 5) (qv 3))) (aF (aU (i:=6) fZ.nd rfl (Or.inl rfl) (bx iC (bx dU (qv 6) aD) (qv 3)))))))) (aF (bf (dJ f9 (by rfl) cg cK (aj (qv 7) aq)))))))))),?_⟩;refine⟨_,rfl,R,x,2,rfl,hR,by decide,by decide,λwy y1 hwy=>?_⟩;have k1:Kp R H (upd H R (.lst [.int y1])):=Kp.up y1;have yr:upd H R (.lst [.int y1]) R=some (.lst [.int y1]):=au;generalize upd H R (.lst [.int y1])=H1 at k1 yr ⊢;refine⟨_,rfl,R,y1,7,rfl,yr,by decide,by decide,λmd y2 hmd=>?_⟩;have k2:Kp R H (upd H1 R (.lst [.int y2])):=k1.trans (Kp.up y2);have BX:upd H1 R (.lst [.int y2]) R=some (.lst [.int y2]):=au;generalize upd H1 R (.lst [.int y2])=H2 at k2 BX ⊢;refine⟨_,_,rfl,rfl,?_⟩;have em:(1:Int)+(md:Int)=((1+md:Nat):Int):=by lia
  dsimp only;rw[em];have m1:1<=1+md:=by lia
  have m7:1+md<=7:=by lia
  generalize 1+md=m at m1 m7 ⊢;refine⟨_,rfl,_,rfl,p,ak,r,w,R,y2,rfl,BX,k2.1 _ _ hp Lx,hb,r1,r9,w1,w9,hfree,λt0 i0 j0 H3 k23 ht0 hi0 hj0 hc0=>?_⟩;have k3:=k2.trans k23;refine⟨t0,_,rfl,aP.of ht0,rfl,_,_,rfl,_,_,rfl,rfl,?_⟩;refine⟨zsz 0,λF hF=>?_⟩;obtain⟨hF0,nRF⟩:=k3.free hF;refine⟨λσ' H'=>∃(v5 v6 v8 v9:Option V) (as:List Addr) (ts:List aV),σ'=[some (.ref p),some (.ref R),some (.str (S ls)),some (.int wy),some (.int m),v5,v6,some (.ref F),v8,v9]/\Kp R H H'/\H' F=some (.lst (as.map V.ref))/\cH H' as ts/\(∀t∈ts,inB r w t)/\ts≠[]/\ts.length<=7/\iR ts,?_,?_⟩
  ·refine⟨λmm σ H'=>∃(i j:Nat) (bl:Int) (v9:Option V) (as:List Addr) (ts:List aV),σ=[some (.ref p),some (.ref R),some (.str (S ls)),some (.int wy),some (.int m),some (.int i),some (.int j),some (.ref F),some (.int bl),v9]/\Kp R H H'/\H' F=some (.lst (as.map V.ref))/\cH H' as ts/\(∀t∈ts,inB r w t)/\ts.length<=m/\lQ wy i j ts/\((i=i0/\j=j0/\ts=[])\/ts≠[])/\i<=r/\j<=w/\mm=(r+w)-(i+j),
    ⟨_,i0,j0,_,none,[],[],rfl,k3.new hF0 nRF,au,cH.nil,λt h=>by simp at h,b7 _,lQ.nil,.inl ⟨rfl,rfl,rfl⟩,by lia,by lia,rfl⟩,?_⟩
   rintro mm σ H4 ⟨i,j,bl,v9,as,ts,rfl,k4,A_,hL,bA,bY,pI,hst,hir,hjw,rfl⟩;have hp4:=k4.1 _ _ hp Lx;have hpS:=aP.of (K:=K) hp4;have hal:=hL.len;have ex:ts≠[]->∃(v5 v6 v8 w9:Option V) (as:List Addr) (ts:List aV),([some (.ref p),some (.ref R),some (.str (S ls)),some (.int wy),some (.int m),some (.int i),some (.int j),some (.ref F),some (.int bl),v9]:St)=[some (.ref p),some (.ref R),some (.str (S ls)),some (.int wy),some (.int m),v5,v6,some (.ref F),v8,w9]/\Kp R H H4/\H4 F=some (.lst (as.map V.ref))/\cH H4 as ts/\(∀t∈ts,inB r w t)/\ts≠[]/\ts.length<=7/\iR ts:=λhne=>
    ⟨_,_,_,_,as,ts,rfl,k4,A_,hL,bA,hne,by lia,pI.two (by lia)⟩
   refine⟨_,rfl,_,rfl,p,_,rfl,.inr hpS,_,_,rfl,rfl,_,rfl,?_⟩;rw[je];by_cases c1:(i:Int) < (r:Int)
   ·rw[am c1]
    refine bM ⟨_,rfl,_,rfl,p,_,_,.str (S ak[0]),rfl,rfl,hpS,aH (j:=0) (fW (by simp[h0])),_,rfl,aT (aG (by lia)),_,_,rfl,rfl,_,rfl,?_⟩;rw[hw0];by_cases c2:(j:Int) < (w:Int)
    ·rw[am c2]
     refine bM ⟨_,rfl,F,_,rfl,.inl (aW.of A_),_,rfl,_,_,rfl,rfl,_,rfl,?_⟩;rw[aa];by_cases c3:(as.length:Int) < (m:Int)
     ·rw[am c3]
      have g1:i < ak.length:=by rw[hb.len];lia
      have hwi:ak[i].length=w:=hb.gR _ (ah _);have g2:j < ak[i].length:=by lia
      have hce:=cell_eq g1 g2;refine bM ⟨λσ' H'=>∃(bl:Int) (v9:Option V) (as:List Addr) (ts:List aV),σ'=[some (.ref p),some (.ref R),some (.str (S ls)),some (.int wy),some (.int m),some (.int ((i+wy:Nat):Int)),some (.int ((j+1-wy:Nat):Int)),some (.ref F),some (.int bl),v9]/\Kp R H H'/\H' F=some (.lst (as.map V.ref))/\cH H' as ts/\(∀t∈ts,inB r w t)/\ts.length<=m/\lQ wy (i+wy) (j+1-wy) ts/\ts≠[],?_,?_⟩
      ·rintro σ' H' ⟨bl,v9,as,ts,rfl,k',hF',hL',Ci,hlen',abe,hne⟩
       exact⟨(r+w)-(i+wy+(j+1-wy)),by lia,i+wy,j+1-wy,bl,v9,as,ts,rfl,k',hF',hL',Ci,hlen',abe,.inr hne,by lia,by lia,rfl⟩
      refine⟨λσ' H'=>∃(bl:Int) (v9:Option V) (as:List Addr) (ts:List aV),σ'=[some (.ref p),some (.ref R),some (.str (S ls)),some (.int wy),some (.int m),some (.int i),some (.int j),some (.ref F),some (.int bl),v9]/\Kp R H H'/\H' F=some (.lst (as.map V.ref))/\cH H' as ts/\(∀t∈ts,inB r w t)/\ts.length<=m/\lQ wy (i+wy) (j+1-wy) ts/\ts≠[],?_,?_⟩
      ·refine⟨_,rfl,_,rfl,p,_,_,.str (S ak[i]),rfl,rfl,hpS,aH (fW (by simp[g1])),_,rfl,ak[i],_,ak[i][j],rfl,rfl,aT (aG (by lia)),aH (by simp[g2]),[ak[i][j]],[46],rfl,rfl,_,rfl,?_⟩
       rw[<- hce];by_cases hc:cell ak i j=46
       ·rw[am (show [cell ak i j]=[46] by rw[hc])]
        obtain⟨y4,Fg⟩:=k4.2;refine bM ⟨_,rfl,_,rfl,_,rfl,_,_,rfl,rfl,R,y4,ls,_,rfl,Fg,hA,λz H5 k45 hz=>?_⟩;have k5:=k4.trans k45;have S_:=k45.1 _ _ A_ nRF.symm;have mq:=hL.iw (k45.tup Fg);refine⟨_,rfl,_,rfl,_,rfl,rfl,[z],rfl,rfl,by show 1<=1000;decide,λd hd=>by rw[ay.mp hd];exact hz.lt,_,_,rfl,rfl,.inr ⟨_,rfl,_,_,rfl,rfl,?_⟩⟩;refine⟨_,rfl,.inl ⟨rfl,_,aW.of S_⟩,_,rfl,_,rfl,_,rfl,zsz 3,λb hbn=>?_⟩;have k6:aA H5 (upd H5 b (HO.tup [.int i,.int j,.str (S [z])])):=aA.upd hbn;have hF6:=k6 _ _ S_;refine⟨F,_,_,rfl,rfl,hF6,by rw[aa];exact aG (by lia),?_⟩;refine⟨_,_,as++[b],ts++[(i,j,z)],rfl,(k5.same k6).new hF0 nRF,by rw[au];simp,?_,λt ht=>?_,by rw[bc];simp;lia,pI.snoc,by simp⟩
        ·exact((mq.mv k6).snoc (t:=(i,j,z)) au).iw (lq hF6)
        ·rcases a8.mp ht with y | y
         ·exact bA t y
         ·rw[ay.mp y];exact⟨by show i < r;lia,by show j < w;lia,hz⟩
       ·rw[al (show ¬[cell ak i j]=[46] from λz=>hc (by injection z))]
        refine bB ⟨bl,v9,as,ts,rfl,k4,A_,hL,bA,bY,pI.step,?_⟩;rcases hst with⟨z1,z2,_⟩ | z
        ·rw[z1,z2]at hc;exact absurd hc0 hc
        ·exact z
      ·rintro σ' H' ⟨bl,v9,as,ts,rfl,k',hF',hL',Ci,hlen',abe,hne⟩
       refine⟨_,rfl,_,rfl,_,_,rfl,rfl,?_⟩;refine⟨_,rfl,_,_,rfl,rfl,_,rfl,_,_,rfl,rfl,?_⟩;refine⟨bl,v9,as,ts,?_,k',hF',hL',Ci,hlen',abe,hne⟩;rw[show ((i+wy:Nat):Int)=(i:Int)+(wy:Int) by lia,show ((j+1-wy:Nat):Int)=(j:Int)+1-(wy:Int) by lia];rfl
     ·rw[al c3]
      refine bB (ex ?_);rcases hst with⟨_,_,z⟩ | z
      ·rw[z]at hal
       have:as.length=0:=hal;lia
      ·exact z
    ·rw[al c2]
     refine bB (bB (ex ?_));rcases hst with⟨_,z,_⟩ | z
     ·lia
     ·exact z
   ·rw[al c1]
    refine bB (bB (ex ?_));rcases hst with⟨z,_,_⟩ | z
    ·lia
    ·exact z
  ·rintro σ' H' ⟨v5,v6,v8,v9,as,ts,rfl,k',Yu,hL,bA,hne,h7,hline⟩
   refine⟨_,rfl,F,_,rfl,.inl ⟨aW.of Yu,λT hT=>?_⟩⟩;have k:aA H' (upd H' T (HO.tup (as.map V.ref))):=aA.upd hT;exact q T as ts _ (k'.same k) au (hL.mv k) bA hne h7 hline
def Yx:Sp:=λvs H Q _=>∃(pr t:Addr) (as:List Addr) (ts:List aV) (r w:Nat) (ak:AA),vs=[.ref pr,.ref t]/\H pr=some (.tup (Ts ak))/\Blk r w ak/\r<=9/\w<=9/\H t=some (.tup (as.map V.ref))/\cH H as ts/\(∀t∈ts,inB r w t)/\
 ∀(M:Addr) (ps:List Addr) (H':Hp),aA H H'->H' M=some (.lst (ps.map V.ref))->eY H H' ps (bQ ak ts)->Q (.ref M) H'
theorem adV (D:aK K mg "_law_grid" Ii ["_law_rows_here","_law_laying"])(g_:mg "list"=none):bT P w K mg base "_law_grid" 1 ["_law_rows_here","_law_laying"] Yx:=by
 refine D.dM yj (λvs H Q E h=>?_) (λf bL A outer s H vs Q E hr h=>?_)
 ·obtain⟨pr,t,as,ts,r,w,ak,rfl,_⟩:=h
  rfl
 ·obtain⟨pr,t,as,ts,r,w,ak,rfl,hpr,hbr,r9,w9,ht,hL,bA,q⟩:=h
  refine⟨_,(aB (um (ix:=2) (ns:=["_law_row"]) yj.nd rfl (Or.inl rfl) rfl (fD.of ["_law_rows_here","_law_laying","_law_grid_here",".3","_law_column","_law_sign_here"] [3] (by kernel_rfl)) (dY (qv 0)) (λ_ _ _ _ _=>(oO (show (["_law_row","_law_rows_here","_law_laying","_law_grid_here",".3","_law_column","_law_sign_here"]:List Str).Nodup by decide +kernel) rfl (by rfl))) (λ_ _ _ _ _=>cU) (λ_ _ _ _ _=>(dJ (yR rfl) (by rfl) g_ fq (aj (qv 0) aq)))) (aB (dX bS rfl (dY (qv 1)) (nO rfl (cD (bO (i:=3) yj.nd rfl (Or.inl rfl)) (cD (bO (i:=4) yj.nd rfl (Or.inl rfl)) (cD (bO (i:=5) yj.nd rfl (Or.inl rfl)) jW)))) (aF (rD (qv 5) (uK (aQ dD (qv 2) (qv 3) (λ_ _=>rfl)) (qv 4) set_list)))) (aF (bf (qv 2))))),?_⟩;refine⟨_,rfl,pr,rfl,⟨_,aP.of hpr⟩,λM hM=>tH (f:=eG [3] 0) (tt:=gC) (xs:=Ts ak) (λi ys H2=>∃ps:List Addr,ys=ps.map V.ref/\H2 M=some (.lst ys)/\aA H H2/\eY H H2 ps (ak.take i)/\M∉ps)
   ⟨[],rfl,au,aA.upd hM,⟨by simp,gS,λp h=>by simp at h,λi h=>by simp at h⟩,by simp⟩ (λi ys H2 _ h=>by obtain⟨_,_,_,sm,_⟩:=h;exact aP.of (sm _ _ hpr)) ?_ ?_⟩
  ·rintro i x ys H2 hi ⟨ps,rfl,lN,sm,lO,nM⟩
   obtain⟨l,hl,rfl⟩:=uT hi;have hil:i < (Ts ak).length:=(af.mp hi).1;have pI:l.length=w:=hbr.gR _ (be hl);have je:(Ts ak).length=r:=by rw[aa,hbr.len]
   have hpl:ps.length<=9:=by rw[lO.len,aI,hbr.len];lia
   refine U0 ⟨_,rfl,l,rfl,by lia,λc hc=>?_⟩;have Pa:M≠c:=λz=>by rw[<- z,lN]at hc;cases hc
   have ncp:c∉ps:=λz=>by
    obtain⟨k,hk,e⟩:=c_.mp z;have:=lO.at_ k hk;rw[e,hc]at this;cases this
   refine⟨by rw[aM Pa];exact lN,by rw[aa];exact aG (by lia),dI.mk hil ⟨ps++[c],by simp,au,(sm.cB (sm.free hc)).cB hM,?_,?_⟩⟩
   ·rw[show ak.take (i+1)=ak.take i++[l] by rw[bu,hl];rfl]
    refine eY.mv ((lO.Ls (aA.upd hc)).snoc ncp (sm.free hc) au) λy hy=>aM λz=>?_;rcases a8.mp hy with u | u
    ·exact nM (z ▸ u)
    ·exact Pa (z.symm.trans (ay.mp u))
   ·intro z
    rcases a8.mp z with u | u
    ·exact nM u
    ·exact Pa (ay.mp u)
  ·rintro ys H2 ⟨ps,rfl,lN,sm,lO,nM⟩
   rw[bg (by rw[aa];exact ap _)]at lO;refine⟨_,rfl,t,rfl,⟨_,aP.of (sm _ _ ht)⟩,mO (K:=K) (a:=t) (xs:=as.map V.ref) (λi σ H3=>∃v3 v4 v5:Option V,σ=[some (.ref pr),some (.ref t),some (.ref M),v3,v4,v5]/\aA H H3/\H3 M=some (.lst (ps.map V.ref))/\eY H H3 ps (bQ ak (ts.take i)))
    ⟨none,none,none,rfl,sm,lN,lO⟩ (λi σ H3 _ h=>by obtain⟨_,_,_,_,sm,_⟩:=h;exact aP.of (sm _ _ ht)) ?_ ?_⟩
   ·rintro i x σ H3 hx' ⟨v3,v4,v5,rfl,sm3,lZ,lu⟩
    rw[a7]at hx';have hi:i < as.length:=by
     rcases jv i as.length with z | z
     ·exact z
     ·rw[e7 z]at hx';cases hx'
    rw[ac hi]at hx';have hx':V.ref as[i]=x:=aw hx';subst hx';obtain⟨u,eu,hU⟩:=hL.get hi;have hum:=be eu;obtain⟨u1,u2,u3⟩:=bA u hum;have hb3:Blk r w (bQ ak (ts.take i)):=gj hbr λy hy=>bA y (c6 hy);have hpl:ps.length=r:=by rw[lu.len,hb3.len]
    have hps:u.1 < ps.length:=by lia
    refine⟨as[i],_,rfl,aP.of (sm3 _ _ hU),rfl,_,_,rfl,_,_,rfl,_,_,rfl,rfl,?_⟩;refine⟨_,rfl,_,rfl,_,rfl,M,_,_,.ref ps[u.1],rfl,rfl,aW.of lZ,aH (by simp[hps]),_,rfl,ps[u.1],_,_,u.2.1,rfl,rfl,lu.at_ u.1 hps,?_,?_⟩
    ·have:((bQ ak (ts.take i)).getD u.1 []).length=w:=by
      rw[ai,ac (by rw[hb3.len];exact u1)];exact hb3.gR _ (ah _)
     unfold vD;rw[aa,aa,this,if_pos (by lia),if_pos (by lia)];congr 1
    ·refine⟨_,_,_,rfl,sm3.cB (lu.fr _ (ah _)),?_,?_⟩
     ·have ne:M≠ps[u.1]:=λz=>nM (by rw[z];exact ah _)
      rw[aM ne];exact lZ
     ·rw[show bQ ak (ts.take (i+1))=setAt (bQ ak (ts.take i)) u.1 u.2.1 u.2.2 by rw[bu,eu];exact Lr _ _ _]
      exact lu.set hps
   ·rintro σ H3 ⟨v3,v4,v5,rfl,sm3,lZ,lu⟩
    rw[bg (by rw[aa,hL.len];exact ap _)]at lu;have B':=gj hbr bA;have hpl:ps.length=r:=by rw[lu.len,B'.len]
    exact⟨_,rfl,q M ps H3 sm3 lZ lu⟩
theorem abf {l:List Nat}{k low:Nat}(h1:low<=k)(hk:k<=l.length)(h2:∀m,low<=m->m < k->l[m]?≠some 46)(h3:low=0\/l[low-1]?=some 46):dR (l.take k)=(l.take k).drop low:=by
 rcases h3 with e | e
 ·subst e
  rw[iL];refine Bq λhm=>?_;obtain⟨m,hm⟩:=gp.mp hm;have hmk:m < (l.take k).length:=(af.mp hm).1;rw[aI]at hmk;exact h2 m (by lia) (by lia) (by rw[jI,if_pos (by lia)]at hm;exact hm)
 ·by_cases h0:low=0
  ·subst h0
   rw[iL];refine Bq λhm=>?_;obtain⟨m,hm⟩:=gp.mp hm;have hmk:m < (l.take k).length:=(af.mp hm).1;rw[aI]at hmk;exact h2 m (by lia) (by lia) (by rw[jI,if_pos (by lia)]at hm;exact hm)
  ·have:=Oj (l:=l.take k) (i:=low-1) (by rw[jI,if_pos (by lia)];exact e) (λm hm z=>by
    have hmk:m < (l.take k).length:=(af.mp z).1;rw[aI]at hmk;rw[jI,if_pos (by lia)]at z;exact h2 m (by lia) (by lia) z)
   rw[this,show low-1+1=low by lia]
theorem Yy {l:List Nat}{k high:Nat}(h1:k<=high)(hk:high<=l.length)(h2:∀m,k<=m->m < high->l[m]?≠some 46)(h3:high=l.length\/l[high]?=some 46):fO (l.drop k)=(l.drop k).take (high-k):=by
 rcases h3 with e | e
 ·rw[bg (by rw[bt];lia)]
  refine Bp λhm=>?_;obtain⟨m,hm⟩:=gp.mp hm;have hmk:m < (l.drop k).length:=(af.mp hm).1;rw[bt]at hmk;rw[e9]at hm;exact h2 (k+m) (by lia) (by lia) hm
 ·refine yQ (by rw[e9,show k+(high-k)=high by lia];exact e) λm hm z=>?_
  rw[e9]at z;exact h2 (k+m) (by lia) (by lia) z
theorem adW {l:List Nat}{k low high:Nat}(a1:low<=k)(a2:k<=high)(a3:high<=l.length)(b1:dR (l.take k)=(l.take k).drop low)(b2:fO (l.drop k)=(l.drop k).take (high-k)) :
  dR (l.take k)++fO (l.drop k)=(l.drop low).take (high-low)/\(dR (l.take k)).length=k-low:=by
 constructor
 ·rw[b1,b2,List.drop_take,show high-low=(k-low)+(high-k) by lia,List.take_add,List.drop_drop,show low+(k-low)=k by lia]
 ·rw[b1,bt,aI];lia
abbrev mz:=Nat × Nat × Nat × List Nat
def uX (H:Hp)(a:Addr)(q:mz):Prop:=H a=some (.tup [.int q.1,.int q.2.1,.int q.2.2.1,.str (S q.2.2.2)])
noncomputable def gU (R:AA)(i j wy:Nat):mz:=
 (if wy=0 then i else i-(dR ((lineOf R i j (wy:Int)).take i)).length,if wy=0 then j-(dR ((lineOf R i j (wy:Int)).take j)).length else j,wy,dR ((lineOf R i j (wy:Int)).take (placeOf i j (wy:Int)))++fO ((lineOf R i j (wy:Int)).drop (placeOf i j (wy:Int))))
def fY (wy i x:Nat):Nat:=if wy=0 then i else x
def clo (wy j x:Nat):Nat:=if wy=0 then x else j
theorem Yz {r w:Nat}{R:AA}(hb:Blk r w R){i j wy x:Nat}(hi:i < r)(hx:x < (lineOf R i j (wy:Int)).length):cell R (fY wy i x) (clo wy j x)=(lineOf R i j (wy:Int))[x]:=by
 unfold fY clo;by_cases h:wy=0
 ·subst h
  rw[if_pos rfl,if_pos rfl];have hx':x < (R.getD i []).length:=hx;have h1:(R.getD i []).getD x 0=(R.getD i [])[x]:=by rw[ai (l:=R.getD i []),ac hx'];rfl
  exact h1
 ·rw[if_neg h,if_neg h]
  have e:lineOf R i j (wy:Int)=jR R j:=if_neg (by lia);have hx':x < (jR R j).length:=by rw[<- e];exact hx
  have:(lineOf R i j (wy:Int))[x]=(jR R j)[x]:=by simp only[e]
  rw[this];unfold jR at hx' ⊢;rw[aa]at hx';rw[de];unfold cell;rw[ai (l:=R),ac hx'];rfl
theorem zu {H0 H:Hp}{ps:List Addr}{R:AA}{r w a b:Nat}(h:eY H0 H ps R)(hb:Blk r w R)(ha:a < r)(hbw:b < w):∃(hp:a < ps.length),H ps[a]=some (.lst (Ts (ones (R.getD a []))))/\(Ts (ones (R.getD a [])))[b]?=some (.str (S [cell R a b]))/\(Ts (ones (R.getD a []))).length=w:=by
 have hp:a < ps.length:=by rw[h.len,hb.len];exact ha
 have hra:a < R.length:=by rw[hb.len];exact ha
 have hg:R.getD a []=R[a]:=by rw[ai,ac hra];rfl
 have hl:R[a].length=w:=hb.gR _ (ah _);refine⟨hp,h.at_ a hp,?_,by rw[aa,aa,hg,hl]⟩;have mj:b < R[a].length:=by lia
 rw[hg,cell_eq hra mj];simp[Ts,ones,mj]
def YB (K:W.Frag):Sp:=λvs H Q _=>∃(M:Addr) (H0:Hp) (ps:List Addr) (R:AA) (r w i j wy:Nat),vs=[.ref M,.int i,.int j,.int wy]/\H M=some (.lst (ps.map V.ref))/\eY H0 H ps R/\Blk r w R/\r<=9/\w<=9/\i < r/\j < w/\wy<=1/\
 ∀(t:Addr) (H':Hp),aA H H'->uX H' t (gU R i j wy)->Q (.ref t) H'
theorem Vp (D:aK K mg "_law_run" Nm ["_law_grid_here","_law_row","_law_column","_law_way"])(aY:mg "len"=none):bT P w K mg base "_law_run" 1 ["_law_grid_here","_law_row","_law_column","_law_way"] (YB K):=by
 refine D.dM uQ (λvs H Q E h=>?_) (λf bL A outer s H vs Q E hr h=>?_)
 ·obtain⟨M,H0,ps,R,r,w,i,j,wy,rfl,_⟩:=h
  rfl
 ·obtain⟨M,H0,ps,R,r,w,i,j,wy,rfl,hM,lO,hb,r9,w9,hi,hj,hwy,q⟩:=h
  have hll:=pK hb hi (j:=j) (way:=(wy:Int));have hk:placeOf i j (wy:Int) < (lineOf R i j (wy:Int)).length:=by
   rw[hll];unfold placeOf
   split <;> assumption
  have hl9:(lineOf R i j (wy:Int)).length<=9:=by rw[hll];split <;> assumption
  have hcell:=λx (hx:x < (lineOf R i j (wy:Int)).length)=>Yz hb hi (j:=j) (wy:=wy) hx;have hq:uX=uX:=rfl;have hkw:placeOf i j (wy:Int)=if wy=0 then j else i:=by
   unfold placeOf;by_cases z:wy=0
   ·rw[if_pos z,if_pos (by lia)]
   ·rw[if_neg z,if_neg (by lia)]
  have pI:(lineOf R i j (wy:Int)).length=if wy=0 then w else r:=by
   rw[hll];by_cases z:wy=0
   ·rw[if_pos z,if_pos (by lia)]
   ·rw[if_neg z,if_neg (by lia)]
  have Iu:∀k low:Nat,k=placeOf i j (wy:Int)->low+(dR ((lineOf R i j (wy:Int)).take k)).length=k->gU R i j wy=(fY wy i low,clo wy j low,wy,dR ((lineOf R i j (wy:Int)).take k)++fO ((lineOf R i j (wy:Int)).drop k)):=by
   intro k low ek hlow;unfold gU fY clo;rw[<- ek];rw[hkw]at ek;by_cases z:wy=0
   ·rw[if_pos z]at ek
    subst ek;rw[if_pos z,if_pos z,if_pos z,if_pos z,show k-(dR ((lineOf R i k (wy:Int)).take k)).length=low by lia]
   ·rw[if_neg z]at ek
    subst ek;rw[if_neg z,if_neg z,if_neg z,if_neg z,show k-(dR ((lineOf R k j (wy:Int)).take k)).length=low by lia]
  generalize hLL:lineOf R i j (wy:Int)=l at hk hl9 hcell pI Iu;generalize hKK:placeOf i j (wy:Int)=k at hk hkw Iu;have Iu:=Iu k;have hz:∀n,n<=100->n<=sizeLine:=λn h=>aT (aG (by lia));have hpl:ps.length=r:=by rw[lO.len,hb.len]
  have rr:∀x,x < l.length->fY wy i x < r:=λx hx=>by
   unfold fY;split
   ·exact hi
   ·rw[pI,if_neg (by assumption)]at hx;exact hx
  have cc:∀x,x < l.length->clo wy j x < w:=λx hx=>by
   unfold clo;split
   ·rw[pI,if_pos (by assumption)]at hx;exact hx
   ·exact hj
  refine⟨_,(aB (gD (yO bS (QW.qt (i_ (bD Ul (qv 1) (qv 3) (bw _)) (i_ (bD Ul (qv 2) (bx iC aD (qv 3)) (bw _)) (jw (bD nJ (aQ dD (aQ dD (qv 0) (bx iC (qv 1) (qv 3)) (λ_ _=>rfl)) (bx dU (bx iC (qv 2) aD) (qv 3)) (λ_ _=>rfl)) (b_ [46] (by decide +kernel)) (bw _)))))) (aB (aU (i:=1) uQ.nd rfl (Or.inl rfl) (bx iC (qv 1) (qv 3))) (aF (aU (i:=2) uQ.nd rfl (Or.inl rfl) (bx dU (bx iC (qv 2) aD) (qv 3))))))) (aB (aU (i:=4) uQ.nd rfl (Or.inl rfl) (b_ [] (by decide +kernel))) (aB (aU (i:=5) uQ.nd rfl (Or.inl rfl) (cQ (aj (qv 1) (aj (qv 2) aq)))) (aB (gD (yO bS (QW.qt (i_ (bD jQ (aQ bh (qv 5) aD (λ_ _=>rfl)) (aN bU (by rfl) aY aS (aj (qv 0) aq)) (bw _)) (i_ (bD jQ (aQ bh (qv 5) aD (λ_ _=>rfl)) (aN bU (by rfl) aY aS (aj (aQ dD (qv 0) aD (λ_ _=>rfl)) aq)) (bw _)) (jw (bD nJ (aQ dD (aQ dD (qv 0) (aQ bh (qv 5) aD (λ_ _=>rfl)) (λ_ _=>rfl)) (aQ bh (qv 5) aD (λ_ _=>rfl)) (λ_ _=>rfl)) (b_ [46] (by decide +kernel)) (bw _)))))) (aB (aU (i:=4) uQ.nd rfl (Or.inl rfl) (bx jg (qv 4) (aQ dD (aQ dD (qv 0) (aQ bh (qv 5) aD (λ_ _=>rfl)) (λ_ _=>rfl)) (aQ bh (qv 5) aD (λ_ _=>rfl)) (λ_ _=>rfl)))) (aF (aU (i:=5) uQ.nd rfl (Or.inl rfl) (cQ (aj (bx dU (aQ bh (qv 5) aD (λ_ _=>rfl)) (qv 3)) (aj (bx iC (bx dU (aQ bh (qv 5) aD (λ_ _=>rfl)) aD) (qv 3)) aq)))))))) (aF (bf (cQ (aj (qv 1) (aj (qv 2) (aj (qv 3) (aj (qv 4) aq))))))))))),?_⟩;have hM':aW K H M (ps.map V.ref):=aW.of hM;refine⟨λσ H'=>H'=H/\∃low:Nat,low<=k/\σ=[some (.ref M),some (.int (fY wy i low)),some (.int (clo wy j low)),some (.int wy),none,none]/\(∀x,low<=x->x < k->l[x]?≠some 46)/\(low=0\/l[low-1]?=some 46),?_,?_⟩
  ·refine⟨λm σ H'=>H'=H/\m<=k/\σ=[some (.ref M),some (.int (fY wy i m)),some (.int (clo wy j m)),some (.int wy),none,none]/\∀x,m<=x->x < k->l[x]?≠some 46,⟨k,rfl,ap _,?_,λx h1 h2=>by lia⟩,?_⟩
   ·unfold fY clo
    by_cases z:wy=0
    ·rw[if_pos z,if_pos z,hkw,if_pos z];rfl
    ·rw[if_neg z,if_neg z,hkw,if_neg z];rfl
   rintro m σ H' ⟨rfl,hm,rfl,hx⟩;have agj:m=0->H'=H'/\∃low:Nat,low<=k/\([some (.ref M),some (.int (fY wy i m)),some (.int (clo wy j m)),some (.int wy),none,none]:St)=[some (.ref M),some (.int (fY wy i low)),some (.int (clo wy j low)),some (.int wy),none,none]/\(∀x,low<=x->x < k->l[x]?≠some 46)/\(low=0\/l[low-1]?=some 46):=λz=>⟨rfl,m,hm,rfl,hx,.inl z⟩
   refine⟨_,rfl,_,rfl,_,_,rfl,rfl,_,rfl,jl (λhc1=>?_) (λhc1=>?_)⟩
   ·refine⟨_,rfl,_,rfl,_,_,rfl,rfl,_,_,rfl,rfl,_,rfl,jl (λhc2=>?_) (λhc2=>?_)⟩
    ·have d1:(wy:Int)<=(fY wy i m:Int):=bv hc1
     have d2:1-(wy:Int)<=(clo wy j m:Int):=bv hc2;have hm0:0 < m:=by
      unfold fY at d1;unfold clo at d2;by_cases z:wy=0
      ·rw[if_pos z]at d2;lia
      ·rw[if_neg z]at d1;lia
     have hm1:m-1 < l.length:=by lia
     obtain⟨g1,g2,g3,_⟩:=zu lO hb (rr (m-1) hm1) (cc (m-1) hm1);have er:(fY wy i m:Int)-(wy:Int)=(fY wy i (m-1):Int):=by
      unfold fY;by_cases z:wy=0
      ·rw[if_pos z,if_pos z];lia
      ·rw[if_neg z,if_neg z];lia
     have ec:(clo wy j m:Int)-1+(wy:Int)=(clo wy j (m-1):Int):=by
      unfold clo;by_cases z:wy=0
      ·rw[if_pos z,if_pos z];lia
      ·rw[if_neg z,if_neg z];lia
     refine⟨_,rfl,_,rfl,_,rfl,_,_,rfl,rfl,M,_,_,.ref ps[fY wy i (m-1)],rfl,rfl,hM',by show oM _ ((fY wy i m:Int)-(wy:Int))=_;rw[er];exact aH (by simp[g1]),_,rfl,_,_,rfl,rfl,_,rfl,_,_,rfl,rfl,ps[fY wy i (m-1)],_,_,.str (S [cell R (fY wy i (m-1)) (clo wy j (m-1))]),rfl,rfl,aW.of g2,by show oM _ ((clo wy j m:Int)-1+(wy:Int))=_;rw[ec];exact aH g3,_,_,rfl,rfl,_,rfl,?_⟩;rw[hcell _ hm1];by_cases hne:l[m-1]=46
     ·rw[am (show [l[m-1]]=[46] by rw[hne])]
      exact bB ⟨rfl,m,hm,rfl,hx,.inr (by rw[ac hm1,hne])⟩
     ·rw[al (show ¬[l[m-1]]=[46] by simpa using hne)]
      refine bM ⟨λσ H4=>H4=H'/\σ=[some (.ref M),some (.int (fY wy i (m-1))),some (.int (clo wy j (m-1))),some (.int wy),none,none],λσ' m8 ⟨e1,e2⟩=>⟨m-1,by lia,e1,by lia,e2,λx h1 h2=>?_⟩,?_⟩
      ·by_cases hx2:x=m-1
       ·subst hx2;rw[ac hm1];simpa using hne
       ·exact hx x (by lia) h2
      ·refine⟨_,rfl,_,rfl,_,_,rfl,rfl,_,rfl,_,_,rfl,rfl,_,rfl,_,_,rfl,rfl,rfl,?_⟩
       rw[<- er,<- ec];rfl
    ·refine bB (agj ?_)
     have d2:¬1-(wy:Int)<=(clo wy j m:Int):=λz=>hc2 (am z);unfold clo at d2;by_cases z:wy=0
     ·rw[if_pos z]at d2;lia
     ·rw[if_neg z]at d2;lia
   ·refine bB (agj ?_)
    have d1:¬(wy:Int)<=(fY wy i m:Int):=λz=>hc1 (am z);unfold fY at d1;by_cases z:wy=0
    ·rw[if_pos z]at d1;lia
    ·rw[if_neg z]at d1;lia
  rintro σ H' ⟨rfl,low,hlk,rfl,hx,hlow⟩;have acM:=abf hlk (by lia) hx hlow;refine⟨_,rfl,_,rfl,zsz 2,λt0 ht0=>?_⟩;have k0:aA H' (upd H' t0 (HO.tup [.int (fY wy i low),.int (clo wy j low)])):=aA.upd ht0;refine⟨λσ m8=>aA H' m8/\∃v5:Option V,σ=[some (.ref M),some (.int (fY wy i low)),some (.int (clo wy j low)),some (.int wy),some (.str (S (dR (l.take k)++fO (l.drop k)))),v5],?_,?_⟩
  ·refine⟨λm σ m8=>∃(hg:Nat) (t:Addr),low<=hg/\hg<=l.length/\m=l.length-hg/\aA H' m8/\m8 t=some (.tup [.int (fY wy i hg),.int (clo wy j hg)])/\σ=[some (.ref M),some (.int (fY wy i low)),some (.int (clo wy j low)),some (.int wy),some (.str (S ((l.drop low).take (hg-low)))),some (.ref t)]/\∀x,low<=x->x < hg->l[x]?≠some 46,
    ⟨_,low,t0,ap _,by lia,rfl,k0,au,by rw[Nat.sub_self];rfl,λx h1 h2=>by lia⟩,?_⟩
   rintro m σ H2 ⟨hg,t,h1,h2,rfl,sm,ht,rfl,hy⟩;have hS:=aP.of (K:=K) ht;have lN:=aW.of (K:=K) (sm _ _ hM);have agk:=lO.Ls sm;have ex:(hg=l.length\/l[hg]?=some 46)->aA H' H2/\∃v5:Option V,([some (.ref M),some (.int (fY wy i low)),some (.int (clo wy j low)),some (.int wy),some (.str (S ((l.drop low).take (hg-low)))),some (.ref t)]:St)=[some (.ref M),some (.int (fY wy i low)),some (.int (clo wy j low)),some (.int wy),some (.str (S (dR (l.take k)++fO (l.drop k)))),v5]:=λhend=>by
    have hkg:k<=hg:=by
     rcases jv hg k with z | z
     ·rcases hend with e | e
      ·lia
      ·exact absurd e (hx hg h1 z)
     ·exact z
    obtain⟨c1,_⟩:=adW hlk hkg h2 acM (Yy hkg h2 (λx a b=>hy x (by lia) b) hend);exact⟨sm,_,by rw[c1]⟩
   have hlz:l.length-0=l.length:=rfl;obtain⟨gz,gz1,_,gz2⟩:=zu agk hb (show 0 < r by lia) (show 0 < w by lia);refine⟨_,rfl,t,_,_,_,rfl,rfl,hS,aH (j:=0) rfl,_,rfl,M,_,rfl,.inl lN,_,_,rfl,rfl,_,rfl,jl (λhc1=>?_) (λhc1=>?_)⟩
   ·refine⟨_,rfl,t,_,_,_,rfl,rfl,hS,aH (j:=1) rfl,_,rfl,M,_,_,.ref ps[0],rfl,rfl,lN,aH (j:=0) (by simp[gz]),ps[0],_,rfl,.inl (aW.of gz1),_,_,rfl,rfl,_,rfl,jl (λhc2=>?_) (λhc2=>?_)⟩
    ·have d1:(fY wy i hg:Int) < ((ps.map V.ref).length:Int):=bv hc1
     have d2:(clo wy j hg:Int) < ((Ts (ones (R.getD 0 []))).length:Int):=bv hc2;rw[aa,hpl]at d1;rw[gz2]at d2;have vY:hg < l.length:=by
      rw[pI];unfold fY at d1;unfold clo at d2;by_cases z:wy=0
      ·rw[if_pos z]at d2 ⊢;lia
      ·rw[if_neg z]at d1 ⊢;lia
     obtain⟨g1,g2,g3,_⟩:=zu agk hb (rr hg vY) (cc hg vY);refine⟨_,rfl,_,rfl,t,_,_,_,rfl,rfl,hS,aH (j:=0) rfl,M,_,_,.ref ps[fY wy i hg],rfl,rfl,lN,aH (by simp[g1]),_,rfl,t,_,_,_,rfl,rfl,hS,aH (j:=1) rfl,ps[fY wy i hg],_,_,.str (S [cell R (fY wy i hg) (clo wy j hg)]),rfl,rfl,aW.of g2,aH g3,_,_,rfl,rfl,_,rfl,?_⟩;rw[hcell _ vY];by_cases hne:l[hg]=46
     ·rw[am (show [l[hg]]=[46] by rw[hne])]
      exact bB (ex (.inr (by rw[ac vY,hne])))
     ·rw[al (show ¬[l[hg]]=[46] by simpa using hne)]
      have er:(fY wy i hg:Int)+(wy:Int)=(fY wy i (hg+1):Int):=by
       unfold fY;by_cases z:wy=0
       ·rw[if_pos z,if_pos z];lia
       ·rw[if_neg z,if_neg z];lia
      have ec:(clo wy j hg:Int)+1-(wy:Int)=(clo wy j (hg+1):Int):=by
       unfold clo;by_cases z:wy=0
       ·rw[if_pos z,if_pos z];lia
       ·rw[if_neg z,if_neg z];lia
      have ah9:(l.drop low).take (hg-low)++[l[hg]]=(l.drop low).take (hg+1-low):=by
       have bY:hg-low < (l.drop low).length:=by rw[bt];lia
       rw[show hg+1-low=hg-low+1 by lia,nB,ac bY,List.getElem_drop];simp only[show low+(hg-low)=hg by lia];rfl
      refine bM ⟨λσ H4=>∃t2:Addr,aA H' H4/\H4 t2=some (.tup [.int (fY wy i (hg+1)),.int (clo wy j (hg+1))])/\σ=[some (.ref M),some (.int (fY wy i low)),some (.int (clo wy j low)),some (.int wy),some (.str (S ((l.drop low).take (hg+1-low)))),some (.ref t2)],λσ' m8 ⟨t2,e1,e2,e3⟩=>⟨l.length-(hg+1),by lia,hg+1,t2,by lia,by lia,rfl,e1,e2,e3,λx a1 a2=>?_⟩,?_⟩
      ·by_cases hx2:x=hg
       ·subst hx2;rw[ac vY];simpa using hne
       ·exact hy x a1 (by lia)
      ·refine⟨_,rfl,_,rfl,_,rfl,t,_,_,_,rfl,rfl,hS,aH (j:=0) rfl,M,_,_,.ref ps[fY wy i hg],rfl,rfl,lN,aH (by simp[g1]),_,rfl,t,_,_,_,rfl,rfl,hS,aH (j:=1) rfl,ps[fY wy i hg],_,_,.str (S [cell R (fY wy i hg) (clo wy j hg)]),rfl,rfl,aW.of g2,aH g3,(l.drop low).take (hg-low),_,rfl,rfl,hz _ (by rw[aI,bt];simp;lia),?_⟩
       rw[hcell _ vY,ah9];refine⟨_,rfl,t,_,_,_,rfl,rfl,hS,aH (j:=0) rfl,_,rfl,_,_,rfl,rfl,_,rfl,t,_,_,_,rfl,rfl,hS,aH (j:=1) rfl,_,_,rfl,rfl,_,rfl,_,_,rfl,rfl,zsz 2,λt2 uU=>?_⟩;refine⟨t2,sm.cB (sm.free uU),?_,rfl⟩;rw[au,<- er,<- ec]
    ·refine bB (ex (.inl ?_))
     have d2:¬(clo wy j hg:Int) < ((Ts (ones (R.getD 0 []))).length:Int):=λz=>hc2 (am z);rw[gz2]at d2;rw[pI]at h2 ⊢;unfold clo at d2;by_cases z:wy=0
     ·rw[if_pos z]at d2 h2 ⊢;lia
     ·rw[if_neg z]at d2;lia
   ·refine bB (ex (.inl ?_))
    have d1:¬(fY wy i hg:Int) < ((ps.map V.ref).length:Int):=λz=>hc1 (am z);rw[aa,hpl]at d1;rw[pI]at h2 ⊢;unfold fY at d1;by_cases z:wy=0
    ·rw[if_pos z]at d1;lia
    ·rw[if_neg z]at d1 h2 ⊢;lia
  ·rintro σ m8 ⟨sm,v5,rfl⟩
   refine⟨_,rfl,_,rfl,_,rfl,_,rfl,zsz 4,λT hT=>?_⟩;refine q T _ (sm.cB (sm.free hT)) ?_;have bY:low+(dR (l.take k)).length=k:=by rw[acM,bt,aI];lia
   rw[Iu low rfl bY];exact au
structure dB {α:Type}(enc:α->List V)(H:Hp)(as:List Addr)(xs:List α):Prop where
 len:as.length=xs.length
 at_:∀(i:Nat) (a:Addr) (x:α),as[i]?=some a->xs[i]?=some x->H a=some (.tup (enc x))
theorem dB.iw {α:Type}{enc:α->List V}{H H':Hp}{as:List Addr}{xs:List α}(k:∀a ys,H a=some (.tup ys)->H' a=some (.tup ys))(h:dB enc H as xs):dB enc H' as xs:=⟨h.len,λi a x h1 h2=>k _ _ (h.at_ i a x h1 h2)⟩
theorem dB.mv {α:Type}{enc:α->List V}{H H':Hp}{as:List Addr}{xs:List α}(k:aA H H')(h:dB enc H as xs):dB enc H' as xs:=h.iw λa ys e=>k a _ e
theorem dB.nil {α:Type}{enc:α->List V}{H:Hp}:dB enc H [] []:=⟨rfl,λi a x h=>by simp at h⟩
theorem dB.one {α:Type}{enc:α->List V}{H:Hp}{a:Addr}{x:α}(h:H a=some (.tup (enc x))):dB enc H [a] [x]:=⟨rfl,λi b y h1 h2=>by
 match i,h1,h2 with
 | 0,h1,h2=>
  have e1:a=b:=aw h1;have e2:x=y:=aw h2;rw[<- e1,<- e2];exact h
 | n+1,h1,h2=>exact absurd h1 (by simp)⟩
theorem dB.app {α:Type}{enc:α->List V}{H:Hp}{as bs:List Addr}{xs ys:List α}(h:dB enc H as xs)(g:dB enc H bs ys):dB enc H (as++bs) (xs++ys):=by
 refine⟨by rw[bc,bc,h.len,g.len],λi a x h1 h2=>?_⟩;by_cases c:i < as.length
 ·rw[c8 c]at h1
  rw[c8 (by rw[<- h.len];exact c)]at h2;exact h.at_ i a x h1 h2
 ·rw[cz (by lia)]at h1
  rw[cz (by rw[<- h.len];lia),<- h.len]at h2;exact g.at_ _ a x h1 h2
theorem dB.get {α:Type}{enc:α->List V}{H:Hp}{as:List Addr}{xs:List α}(h:dB enc H as xs){i:Nat}(hi:i < as.length):∃x,xs[i]?=some x/\H as[i]=some (.tup (enc x)):=by
 have hx:i < xs.length:=by rw[<- h.len];exact hi
 exact⟨xs[i],ac hx,h.at_ i _ _ (ac hi) (ac hx)⟩
abbrev QL:=dB (λq:mz=>[V.int q.1,V.int q.2.1,V.int q.2.2.1,V.str (S q.2.2.2)])
abbrev AL3:=dB (λq:Nat × Nat × Nat=>[V.int q.1,V.int q.2.1,V.int q.2.2])
def fM (ts:List aV):Nat:=if ts.head?.map (·.1)=ts.getLast?.map (·.1) then 0 else 1
noncomputable def iW (ts:List aV):List (Nat × Nat × Nat):=(ts.take 1).map (λt=>(t.1,t.2.1,fM ts))++ts.map λt=>(t.1,t.2.1,1-fM ts)
def qd (R:AA)(a:Nat × Nat × Nat):mz:=gU R a.1 a.2.1 a.2.2
def pL (q:mz):Bool:=decide (1 < q.2.2.2.length)
def dN (ak:AA)(ts:List aV):List mz:=((iW ts).map (qd (bQ ak ts))).filter pL
theorem Iw (ts:List aV):fM ts<=1:=by unfold fM;split <;> decide
theorem Gf {r w:Nat}{R:AA}(hb:Blk r w R)(r9:r<=9)(w9:w<=9){i j wy:Nat}(hi:i < r):(gU R i j wy).2.2.2.length<=20:=by
 have hll:=pK hb hi (j:=j) (way:=(wy:Int));have h9:(lineOf R i j (wy:Int)).length<=9:=by rw[hll];split <;> assumption
 show (dR _++fO _).length<=20;have a1:=oW ((lineOf R i j (wy:Int)).take (placeOf i j (wy:Int)));have a2:=wg ((lineOf R i j (wy:Int)).drop (placeOf i j (wy:Int)));rw[aI]at a1;rw[bt]at a2;rw[bc];lia
theorem oX {ts:List aV}(h:0 < ts.length):fM ts=if ts[0].1=ts[ts.length-1].1 then 0 else 1:=by
 unfold fM;rw[kq,mr,ac h,ac (by lia)];simp only[Option.map_some,Option.some.injEq]
theorem gH {H:Hp}{as:List Addr}{ts:List aV}(hL:cH H as ts){i:Nat}(hi:i < ts.length):∃(h:i < as.length),H as[i]=some (.tup [.int ts[i].1,.int ts[i].2.1,.str (S [ts[i].2.2])]):=by
 have h:i < as.length:=by rw[hL.len];exact hi
 obtain⟨t,e,ht⟩:=hL.get h;rw[ac hi]at e;have e:=aw e;rw[<- e]at ht;exact⟨h,ht⟩
theorem JN {as:List Addr}(h:0 < as.length):oM (as.map V.ref) (-1)=some (.ref as[as.length-1]):=by
 have e:as.map V.ref=(as.take (as.length-1)).map V.ref++[V.ref as[as.length-1]]:=by
  rw[<- ly,<- bz];congr 1;have:=kD (as.length-1) as;rw[gL (by lia),show as.length-1+1=as.length by lia,List.drop_length]at this;exact this.symm
 rw[e];exact aaw _ _
theorem agl (a b:Nat):(if (!decide (V.int (a:Int)=V.int (b:Int)))=true then (1:Int) else 0)=((if a=b then 0 else 1:Nat):Int):=by
 by_cases h:a=b
 ·subst h;simp
 ·have:¬V.int (a:Int)=V.int (b:Int):=λz=>h (by injection z with z;exact ku z)
  simp[h,this]
def Pg:Sp:=λvs H Q _=>∃(pr t:Addr) (as:List Addr) (ts:List aV) (r w:Nat) (ak:AA),vs=[.ref pr,.ref t]/\H pr=some (.tup (Ts ak))/\Blk r w ak/\r<=9/\w<=9/\H t=some (.tup (as.map V.ref))/\cH H as ts/\(∀t∈ts,inB r w t)/\0 < ts.length/\ts.length<=7/\
 ∀(T:Addr) (bs:List Addr) (H':Hp),aA H H'->H' T=some (.tup (bs.map V.ref))->QL H' bs (dN ak ts)->Q (.ref T) H'
theorem Ph (D:aK K mg "_law_words" Ef ["_law_rows_here","_law_laying"])(aY:mg "len"=none)(jH:mg "int"=none)(cg:mg "tuple"=none)(agm:bT P w K mg base "_law_grid" 1 ["_law_rows_here","_law_laying"] Yx)(acN:bT P w K mg base "_law_run" 1 ["_law_grid_here","_law_row","_law_column","_law_way"] (YB K)):bT P w K mg base "_law_words" 2 ["_law_rows_here","_law_laying"] Pg:=by
 refine D.dM oF (λvs H Q E h=>?_) (λf bL A outer s H vs Q E hr h=>?_)
 ·obtain⟨pr,t,as,ts,r,w,ak,rfl,_⟩:=h
  rfl
 ·obtain⟨pr,t,as,ts,r,w,ak,rfl,hpr,hb,r9,w9,ht,hL,bA,h0,h7,q⟩:=h
  refine⟨_,(aB (aU (i:=2) oF.nd rfl (Or.inl rfl) (aX agm hr.mono rfl (aj (qv 0) (aj (qv 1) aq)))) (aB (aU (i:=3) oF.nd rfl (Or.inl rfl) (dJ vC (by rfl) jH gt (aj (d_ o_ (aQ bh (aQ bh (qv 1) aD (λ_ _=>rfl)) aD (λ_ _=>rfl)) (aQ bh (aQ bh (qv 1) (yP uy aD) (λ_ _=>rfl)) aD (λ_ _=>rfl)) (bw _)) aq))) (aB (aU (i:=4) oF.nd rfl (Or.inl rfl) (eU (aj (aX acN hr.mono rfl (aj (qv 2) (aj (aQ bh (aQ bh (qv 1) aD (λ_ _=>rfl)) aD (λ_ _=>rfl)) (aj (aQ bh (aQ bh (qv 1) aD (λ_ _=>rfl)) aD (λ_ _=>rfl)) (aj (qv 3) aq))))) aq))) (aB (dX bS rfl (dY (qv 1)) (nO rfl (cD (bO (i:=5) oF.nd rfl (Or.inl rfl)) (cD (bO (i:=6) oF.nd rfl (Or.inl rfl)) (cD (bO (i:=7) oF.nd rfl (Or.inl rfl)) jW)))) (aF (dO (gw cv dm dq gP (qv 4) (aj (aX acN hr.mono rfl (aj (qv 2) (aj (qv 5) (aj (qv 6) (aj (bx iC aD (qv 3)) aq))))) aq))))) (aF (bf (dJ f9 (by rfl) cg cK (aj (fL (ns:=["_law_run_here"]) rfl (fD.of ["_law_rows_here","_law_laying","_law_grid_here","_law_line","_law_runs","_law_row","_law_column","_law_sign_here"] [] (by kernel_rfl)) (gK (qv 4)) (λ_ _ _ _ _=>(oO (show (["_law_run_here","_law_rows_here","_law_laying","_law_grid_here","_law_line","_law_runs","_law_row","_law_column","_law_sign_here"]:List Str).Nodup by decide +kernel) rfl (by rfl))) (λ_ _ _ _ _=>(xZ (bD Hl (aN cI (by rfl) aY aS (aj (aQ (mW K) (qv 0) aD (λ_ _=>rfl)) aq)) aD (bw _)))) (λ_ _ _ _ _=>(qv 0))) aq)))))))),?_⟩;refine⟨_,rfl,_,rfl,pr,t,as,ts,r,w,ak,rfl,hpr,hb,r9,w9,ht,hL,bA,λM ps H1 s1 hM lO=>?_⟩;have hb':=gj hb bA;generalize hR:bQ ak ts=R at lO hb';have hal:=hL.len;have hL1:=hL.mv s1;obtain⟨g0,e0⟩:=gH hL1 h0;obtain⟨gl,el⟩:=gH hL1 (show ts.length-1 < ts.length by lia);have ht1:=aP.of (K:=K) (s1 _ _ ht);have eal:as.length-1=ts.length-1:=by lia
  have wj:oM (as.map V.ref) (-1)=some (.ref as[ts.length-1]):=by
   rw[JN (show 0 < as.length by lia)];simp only[eal]
  refine⟨_,rfl,t,_,_,.ref as[0],rfl,rfl,ht1,aH (j:=0) (by simp[g0]),as[0],_,_,_,rfl,rfl,aP.of e0,aH (j:=0) rfl,_,rfl,_,rfl,t,_,_,.ref as[ts.length-1],rfl,rfl,ht1,wj,as[ts.length-1],_,_,_,rfl,rfl,aP.of el,aH (j:=0) rfl,rfl,.inr ⟨_,rfl,?_⟩⟩;dsimp only;rw[agl,<- oX h0];have je:=Iw ts;obtain⟨b1,b2,_⟩:=bA _ (ah h0);refine⟨_,rfl,_,rfl,t,_,_,.ref as[0],rfl,rfl,ht1,aH (j:=0) (by simp[g0]),as[0],_,_,_,rfl,rfl,aP.of e0,aH (j:=0) rfl,_,rfl,t,_,_,.ref as[0],rfl,rfl,ht1,aH (j:=0) (by simp[g0]),as[0],_,_,_,rfl,rfl,aP.of e0,aH (j:=1) rfl,_,rfl,M,H,ps,R,r,w,ts[0].1,ts[0].2.1,fM ts,rfl,hM,lO,hb',r9,w9,b1,b2,je,λt1 H2 s2 hq1=>?_⟩;refine⟨zsz 1,λL hLl=>?_⟩;have k3:aA H2 (upd H2 L (HO.lst [.ref t1])):=aA.upd hLl;have s3:=s2.trans k3;have hL0:=s2.free hLl;refine⟨_,rfl,t,rfl,⟨_,aP.of (s3 _ _ (s1 _ _ ht))⟩,mO (K:=K) (a:=t) (xs:=as.map V.ref) (λn σ H'=>∃(v5 v6 v7:Option V) (bs:List Addr),σ=[some (.ref pr),some (.ref t),some (.ref M),some (.int (fM ts)),some (.ref L),v5,v6,v7]/\aA H1 H'/\H' L=some (.lst (bs.map V.ref))/\bs.length=n+1/\QL H' bs (((ts.take 1).map (λt=>(t.1,t.2.1,fM ts))++(ts.take n).map λt=>(t.1,t.2.1,1-fM ts)).map (qd R)))
   ⟨none,none,none,[t1],rfl,s3,au,rfl,?_⟩ (λn σ H' _ h=>by obtain⟨_,_,_,_,_,sm,_⟩:=h;exact aP.of (sm _ _ (s1 _ _ ht))) ?_ ?_⟩
  ·have e1:ts.take 1=[ts[0]]:=by rw[List.take_one,kq,ac h0];rfl
   rw[e1,List.take_zero,mI,fh];exact dB.one (k3 _ _ hq1)
  ·rintro n x σ H' hx ⟨v5,v6,v7,bs,rfl,sm,YC,mj,hQ⟩
   have hn:n < as.length:=by have:=(af.mp hx).1;simpa using this
   have hnt:n < ts.length:=by lia
   rw[a7,ac hn]at hx;have hx:V.ref as[n]=x:=aw hx;subst hx;obtain⟨_,en⟩:=gH (hL1.mv sm) hnt;obtain⟨c1,c2,_⟩:=bA _ (ah hnt);refine⟨as[n],_,rfl,aP.of en,rfl,_,_,rfl,_,_,rfl,_,_,rfl,rfl,?_⟩;have e1l:(1:Int)-(fM ts:Int)=((1-fM ts:Nat):Int):=by lia
   refine⟨_,rfl,.inl ⟨rfl,_,aW.of YC⟩,_,rfl,_,rfl,_,rfl,_,rfl,_,_,rfl,rfl,M,H,ps,R,r,w,ts[n].1,ts[n].2.1,1-fM ts,by show [V.ref M,V.int (ts[n].1:Int),V.int (ts[n].2.1:Int),V.int (1-(fM ts:Int))]=_;rw[e1l],sm _ _ hM,lO.Ls sm,hb',r9,w9,c1,c2,by lia,λt2 H4 s4 hq2=>?_⟩;have agn:=s4 _ _ YC;refine⟨L,_,_,rfl,rfl,agn,by rw[aa];exact aG (by lia),?_⟩;refine⟨_,_,_,bs++[t2],rfl,(sm.trans s4).cB hL0,by rw[au];simp,by simp[mj],?_⟩;rw[show ts.take (n+1)=ts.take n++(some ts[n]).toList by rw[bu,ac hnt]];have e2:(((ts.take 1).map (λt=>(t.1,t.2.1,fM ts))++(ts.take n++(some ts[n]).toList).map λt=>(t.1,t.2.1,1-fM ts)).map (qd R))=(((ts.take 1).map (λt=>(t.1,t.2.1,fM ts))++(ts.take n).map λt=>(t.1,t.2.1,1-fM ts)).map (qd R))++[qd R (ts[n].1,ts[n].2.1,1-fM ts)]:=by
    rw[bz (l₁:=ts.take n),<- List.append_assoc,bz];rfl
   rw[e2];exact((hQ.mv s4).app (dB.one hq2)).iw (lq agn)
  ·rintro σ H' ⟨v5,v6,v7,bs,rfl,sm,YC,mj,hQ⟩
   rw[aa]at mj;rw[aa,hal,bX]at hQ;have hQ':QL H' bs ((iW ts).map (qd R)):=hQ;have hqb:∀n (x:mz),((iW ts).map (qd R))[n]?=some x->x.2.2.2.length<=20:=λn x hx=>by
    obtain⟨a,ha,rfl⟩:=aE.mp (be hx);have hi:a.1 < r:=by
     rcases a8.mp ha with z | z
     ·obtain⟨u,hu,rfl⟩:=aE.mp z
      exact(bA u (c6 hu)).1
     ·obtain⟨u,hu,rfl⟩:=aE.mp z
      exact(bA u hu).1
    exact Gf hb' r9 w9 hi
   refine⟨_,rfl,L,rfl,⟨_,aW.of YC⟩,λN hN=>wV (K:=K) (a:=L) (f:=eG [] 0) (tt:=yJ (sO (Hj λi j=>V.bl (decide (j < i))) (N5 Uy (mQ (sO (N7 K) (iz 0) (tC (V.int 3))) rQ)) (tC (V.int 1)))) (te:=iz 0) (xs:=bs.map V.ref) (λn ys H3=>∃cs:List Addr,ys=cs.map V.ref/\cs.length<=n/\H3 N=some (.lst ys)/\aA H' H3/\QL H3 cs ((((iW ts).map (qd R)).take n).filter pL))
    ⟨[],rfl,ap _,au,aA.upd hN,dB.nil⟩ (λn ys H3 _ h=>by obtain⟨_,_,_,_,sm,_⟩:=h;exact aW.of (sm _ _ YC)) ?_ ?_⟩
   ·rintro n x ys H3 hx ⟨cs,rfl,hcl,oY,sm3,Pj⟩
    have hn:n < bs.length:=by have:=(af.mp hx).1;simpa using this
    rw[a7,ac hn]at hx;have hx:V.ref bs[n]=x:=aw hx;subst hx;obtain⟨qq,eq,hat⟩:=(hQ'.mv sm3).get hn;have aiJ:=hqb n qq eq;refine⟨_,rfl,bs[n],_,_,_,rfl,rfl,aP.of hat,aH (j:=3) rfl,_,rfl,aT (aG (by lia)),_,_,rfl,rfl,_,rfl,?_⟩;by_cases hc:pL qq=true
    ·have:decide ((1:Int) < (qq.2.2.2.length:Int))=true:=am (by have:=bv hc;lia)
     rw[this];refine bM ⟨_,rfl,oY,by rw[aa];exact aG (by lia),dI.mk (by rw[aa];exact hn) ⟨cs++[bs[n]],by simp,by simp;lia,by rw[au],sm3.cB hN,?_⟩⟩;rw[bu,eq,eJ];have e2:((some qq).toList).filter pL=[qq]:=by simp[hc]
     rw[e2];exact(Pj.app (dB.one hat)).iw (lq oY)
    ·have:decide ((1:Int) < (qq.2.2.2.length:Int))=false:=al (λz=>hc (am (by lia)))
     rw[this];refine bB (dI.mk (by rw[aa];exact hn) ⟨cs,rfl,by lia,oY,sm3,?_⟩);rw[bu,eq,eJ];have e2:((some qq).toList).filter pL=[]:=by simp[hc]
     rw[e2,fh];exact Pj
   ·rintro ys H3 ⟨cs,rfl,hcl,oY,sm3,Pj⟩
    rw[aa,hQ'.len,bX]at Pj;refine⟨N,_,rfl,.inl ⟨aW.of oY,λT hT=>?_⟩⟩;have k:aA H3 (upd H3 T (HO.tup (cs.map V.ref))):=aA.upd hT;refine q T cs _ (((s1.trans sm).trans sm3).trans k) au ?_;unfold dN;rw[hR];exact Pj.mv k
theorem YD {ts:List aV}(hl:zq ts)(h0:0 < ts.length):((ts.map λt=>decide (V.int (t.1:Int)=V.int (ts[0].1:Int))).all id)=decide (fM ts=0):=by
 have hd:∀a b:Nat,decide (V.int (a:Int)=V.int (b:Int))=decide (a=b):=λa b=>by
  by_cases h:a=b
  ·subst h;simp
  ·have:¬V.int (a:Int)=V.int (b:Int):=λz=>h (by injection z with z;exact ku z)
   simp[h,this]
 have key:(∀t∈ts,t.1=ts[0].1)↔ts[0].1=ts[ts.length-1].1:=by
  constructor
  ·intro h
   exact(h _ (ah _)).symm
  ·intro h t ht
   obtain⟨i,hi,rfl⟩:=c_.mp ht;rcases hl with hl | hl
   ·rw[cn]at hl
    rcases Nat.eq_zero_or_pos i with z | z
    ·subst z;rfl
    ·exact(hl 0 i h0 hi z).symm
   ·rw[cn]at hl
    rcases Nat.eq_zero_or_pos (ts.length-1) with z | z
    ·have:i=0:=by lia
     subst this;rfl
    ·have:=hl 0 (ts.length-1) h0 (by lia) z
     lia
 rw[oX h0,e6,cy,decide_eq_true_iff];constructor
 ·intro h
  rw[if_pos];refine key.mp λt ht=>?_;have:=h _ (aE.mpr ⟨t,ht,rfl⟩);rw[hd]at this;exact bv this
 ·intro h x hx
  obtain⟨t,ht,rfl⟩:=aE.mp hx;have he:ts[0].1=ts[ts.length-1].1:=by
   by_cases z:ts[0].1=ts[ts.length-1].1
   ·exact z
   ·rw[if_neg z]at h;cases h
  rw[hd];exact am (key.mpr he t ht)
def Pk:Sp:=λvs H Q _=>∃(t:Addr) (as:List Addr) (ts:List aV),vs=[.ref t]/\H t=some (.tup (as.map V.ref))/\cH H as ts/\0 < ts.length/\ts.length<=7/\zq ts/\∀H',aA H H'->Q (.bl (decide (fM ts=0))) H'
theorem YF {r w:Nat}{R:AA}{i j wy:Nat}(hwy:wy<=1):aa_ i j (wy:Int) (lineOf R i j (wy:Int))=[.int (gU R i j wy).1,.int (gU R i j wy).2.1,.str (S (gU R i j wy).2.2.2)]:=by
 unfold aa_ gU placeOf;by_cases z:wy=0
 ·subst z
  have a1:=oW ((lineOf R i j ((0:Nat):Int)).take j);rw[aI]at a1;rw[if_pos rfl];show [V.int (i:Int),V.int ((j:Int)-_),_]=[V.int (i:Int),V.int ((j-_:Nat):Int),_]
  rw[Int.ofNat_sub (by lia)];rfl
 ·have:wy=1:=by lia
  subst this;have a1:=oW ((lineOf R i j ((1:Nat):Int)).take i);rw[aI]at a1;rw[if_neg (by decide)];show [V.int ((i:Int)-_),V.int (j:Int),_]=[V.int ((i-_:Nat):Int),V.int (j:Int),_]
  rw[Int.ofNat_sub (by lia)];rfl
def Gg (C:Addr):Sp:=λvs H Q _=>∃(b t:Addr) (as:List Addr) (ts:List aV) (r w:Nat) (ak aO:AA) (bi bj:Nat),vs=[.ref b,.ref t]/\dZ C H b r w ak aO bi bj/\H t=some (.tup (as.map V.ref))/\cH H as ts/\(∀t∈ts,inB r w t)/\0 < ts.length/\ts.length<=7/\zq ts/\
 ∀(T:Addr) (bs:List Addr) (H':Hp),aA H H'->H' T=some (.tup (bs.map V.ref))->QL H' bs (dN ak ts)->Q (.ref T) H'
theorem YG {C f1 f2:Addr}{iT fd2:FuncData}(D:aK K mg "formed" yU ["board","laying"])(aY:mg "len"=none)(cg:mg "tuple"=none)(fP:gb K C)(uY:Meth K C "laid" f1)(uZ:cM P w K mg base fU 8 f1 iT ["self","laying"] (O_ C))(u0:cJ K iT ["self","laying"] [])
  (Ry:Meth K C "run" f2) (Rz:cM P w K mg base fU 2 f2 fd2 ["self","row","column","way"] (acK C)) (RB:cJ K fd2 ["self","row","column","way"] []) (wW:bT P w K mg base "is_across" 1 ["laying"] Pk):bT P w K mg base "formed" 10 ["board","laying"] (Gg C):=by
 refine D.dM jG (λvs H Q E h=>?_) (λf bL A outer s H vs Q E hr h=>?_)
 ·obtain⟨b,t,as,ts,r,w,ak,aO,bi,bj,rfl,_⟩:=h
  rfl
 ·obtain⟨b,t,as,ts,r,w,ak,aO,bi,bj,rfl,BA,ht,hL,bA,h0,h7,hl,q⟩:=h
  obtain⟨dx,_,_,_,ex,_⟩:=id BA.ex;have r9:=BA.ok.r9;have w9:=BA.ok.w9;have hal:=hL.len;have je:=Iw ts;refine⟨_,(aB (aU (i:=2) jG.nd rfl (Or.inl rfl) (qu (qv 0) fP.cl uY uZ hr.mono u0 .nil kj (aj (qv 1) aq))) (aB (gD (aU (i:=3) jG.nd rfl (Or.inr rfl) (qp (dj (aX wW hr.mono rfl (aj (qv 1) aq))) aD aD))) (aB (aU (i:=4) jG.nd rfl (Or.inl rfl) (eU (aj (cQ (aj (aQ bh (aQ bh (qv 1) aD (λ_ _=>rfl)) aD (λ_ _=>rfl)) (aj (aQ bh (aQ bh (qv 1) aD (λ_ _=>rfl)) aD (λ_ _=>rfl)) (aj (qv 3) aq)))) aq))) (aB (dO (gw cv PySem.F.slot_list_extend PySem.F.type_list_extend W9 (qv 4) (aj (fL (ns:=["row","column","sign"]) rfl (fD.of ["board","laying","after","way","asked",".5",".6","words","along","run"] [5,6] (by kernel_rfl)) (dY (qv 1)) (λ_ _ _ _ _=>(oR K rfl (show (["row","column","sign","board","laying","after","way","asked",".5",".6","words","along","run"]:List Str).Nodup by decide +kernel) rfl rfl rfl (by rfl) (by rfl) (by rfl))) (λ_ _ _ _ _=>cU) (λ_ _ _ _ _=>(cQ (aj (qv 0) (aj (qv 1) (aj (bx iC aD (qv 6)) aq)))))) aq))) (aB (aU (i:=7) jG.nd rfl (Or.inl rfl) (eU aq)) (aB (dX bS rfl (gK (qv 4)) (nO rfl (cD (bO (i:=5) jG.nd rfl (Or.inl rfl)) (cD (bO (i:=6) jG.nd rfl (Or.inl rfl)) (cD (bO (i:=8) jG.nd rfl (Or.inl rfl)) jW)))) (aB (aU (i:=9) jG.nd rfl (Or.inl rfl) (qu (qv 2) fP.cl Ry Rz hr.mono RB .nil kj (aj (qv 5) (aj (qv 6) (aj (qv 8) aq))))) (aF (cF (bD Ul (aN cI (by rfl) aY aS (aj (aQ bh (qv 9) aD (λ_ _=>rfl)) aq)) aD (bw _)) (aF (dO (gw cv dm dq gP (qv 7) (aj (cQ (aj (aQ bh (qv 9) aD (λ_ _=>rfl)) (aj (aQ bh (qv 9) aD (λ_ _=>rfl)) (aj (qv 8) (aj (aQ bh (qv 9) aD (λ_ _=>rfl)) aq))))) aq)))) bN)))) (aF (bf (dJ f9 (by rfl) cg cK (aj (qv 7) aq)))))))))),?_⟩;refine⟨_,rfl,b,dx,_,rfl,ex,rfl,_,rfl,b,t,as,ts,r,w,ak,aO,bi,bj,rfl,BA,ht,hL,bA,λx1 H1 s1 B1=>?_⟩;have hb':=gj BA.ok.br bA;generalize hR:bQ ak ts=R at B1 hb';refine⟨λσ H'=>aA H1 H'/\σ=[some (.ref b),some (.ref t),some (.ref x1),some (.int (fM ts)),none,none,none,none,none,none],?_,?_⟩
  ·refine⟨_,rfl,t,as,ts,rfl,s1 _ _ ht,hL.mv s1,h0,h7,hl,λH2 s2=>⟨_,rfl,?_⟩⟩
   by_cases z:fM ts=0
   ·rw[am z]
    refine bM ⟨s2,?_⟩;rw[z];rfl
   ·rw[al z]
    refine bB ⟨s2,?_⟩;rw[show fM ts=1 by lia];rfl
  rintro σ H2 ⟨s2,rfl⟩;have s12:=s1.trans s2;have hL2:=hL.mv s12;have uU:=s12 _ _ ht;obtain⟨g0,e0⟩:=gH hL2 h0;refine⟨_,rfl,t,_,_,.ref as[0],rfl,rfl,aP.of uU,aH (j:=0) (by simp[g0]),as[0],_,_,_,rfl,rfl,aP.of e0,aH (j:=0) rfl,_,rfl,t,_,_,.ref as[0],rfl,rfl,aP.of uU,aH (j:=0) (by simp[g0]),as[0],_,_,_,rfl,rfl,aP.of e0,aH (j:=1) rfl,_,rfl,zsz 3,λt1 ht1=>⟨zsz 1,λA0 hA0=>?_⟩⟩;have k3:aA H2 (upd H2 t1 (HO.tup [.int ts[0].1,.int ts[0].2.1,.int (fM ts)])):=aA.upd ht1;have k4:=k3.cB (o:=HO.lst [.ref t1]) (k3.free hA0);have hA0':=k3.free hA0;have n1A:t1≠A0:=λz=>by rw[<- z,au]at hA0;cases hA0
  have e1:upd (upd H2 t1 (HO.tup [.int ts[0].1,.int ts[0].2.1,.int (fM ts)])) A0 (HO.lst [.ref t1]) t1=some (.tup [.int ts[0].1,.int ts[0].2.1,.int (fM ts)]):=by rw[aM n1A,au]
  have eA:upd (upd H2 t1 (HO.tup [.int ts[0].1,.int ts[0].2.1,.int (fM ts)])) A0 (HO.lst [.ref t1]) A0=some (.lst [.ref t1]):=au;generalize upd (upd H2 t1 (HO.tup [.int ts[0].1,.int ts[0].2.1,.int (fM ts)])) A0 (HO.lst [.ref t1])=H4 at k4 e1 eA ⊢;have Yp:=k4 _ _ uU;have j7:=hL2.mv k4;have e1l:(1:Int)-(fM ts:Int)=((1-fM ts:Nat):Int):=by lia
  refine⟨_,rfl,.inl ⟨rfl,_,aW.of eA⟩,_,rfl,t,rfl,⟨_,aP.of Yp⟩,λN hN=>jD (K:=K) (KT:=K) (a:=t) (f:=eG [5,6] 0) (tt:=gC) (xs:=as.map V.ref) (λn ys H5=>∃cs:List Addr,ys=cs.map V.ref/\cs.length=n/\H5 N=some (.lst ys)/\aA H4 H5/\AL3 H5 cs ((ts.take n).map λt=>(t.1,t.2.1,1-fM ts)))
   ⟨[],rfl,rfl,au,aA.upd hN,dB.nil⟩ (λn ys H5 _ h=>by obtain⟨_,_,_,_,sm,_⟩:=h;exact aP.of (sm _ _ Yp)) ?_ ?_⟩
  ·rintro n x ys H5 hx ⟨cs,rfl,hcl,pN,jf,wk⟩
   have hn:n < as.length:=by have:=(af.mp hx).1;simpa using this
   have hnt:n < ts.length:=by lia
   rw[a7,ac hn]at hx;have hx:V.ref as[n]=x:=aw hx;obtain⟨_,en⟩:=gH (j7.mv jf) hnt;refine vI hx.symm (aP.of en) ?_;refine⟨_,rfl,_,rfl,_,rfl,_,_,rfl,rfl,zsz 3,λg hg=>?_⟩;have kg:aA H5 (upd H5 g (HO.tup [.int ts[n].1,.int ts[n].2.1,.int (1-(fM ts:Int))])):=aA.upd hg;have Ly:=kg _ _ pN;refine⟨Ly,by rw[aa];exact aG (by lia),dI.mk (by rw[aa];exact hn) ⟨cs++[g],by simp,by simp[hcl],by rw[au],(jf.trans kg).cB hN,?_⟩⟩;rw[show ts.take (n+1)=ts.take n++[ts[n]] by rw[bu,ac hnt];rfl,bz];refine((wk.mv kg).app (dB.one (x:=(ts[n].1,ts[n].2.1,1-fM ts)) ?_)).iw (lq Ly);rw[au,e1l]
  rintro ys H5 ⟨cs,rfl,hcl,pN,jf,wk⟩;rw[aa]at hcl;rw[aa,hal,bX]at wk;have eA5:=jf _ _ eA;refine⟨A0,N,_,_,rfl,rfl,eA5,pN,by rw[aa,hcl];exact aT (aG (by simp;lia)),?_⟩;have abg:AL3 (upd H5 A0 (HO.lst ([V.ref t1]++cs.map V.ref))) ([t1]++cs) (iW ts):=by
   have hone:AL3 H5 [t1] ((ts.take 1).map λt=>(t.1,t.2.1,fM ts)):=by
    rw[List.take_one,kq,ac h0];exact dB.one (x:=(ts[0].1,ts[0].2.1,fM ts)) (jf _ _ e1)
   exact(hone.app wk).iw (lq eA5)
  have sH6:aA H1 (upd H5 A0 (HO.lst ([V.ref t1]++cs.map V.ref))):=λa o e=>by
   have:=(k4.trans jf) _ _ (s2 _ _ e);rw[aM (λz=>by rw[z]at e;have:=s2 _ _ e;rw[hA0']at this;cases this)];exact this
  have eA6:upd H5 A0 (HO.lst ([V.ref t1]++cs.map V.ref)) A0=some (.lst (([t1]++cs).map V.ref)):=by rw[au];simp
  generalize upd H5 A0 (HO.lst ([V.ref t1]++cs.map V.ref))=H6 at abg sH6 eA6 ⊢;have ago:=abg.len;have hak:(iW ts).length=1+ts.length:=by
   unfold iW;rw[bc,aa,aa,aI];lia
  have ah_:∀n (a:Nat × Nat × Nat),(iW ts)[n]?=some a->a.1 < r/\a.2.1 < w/\a.2.2<=1:=λn a ha=>by
   rcases a8.mp (be ha) with z | z
   ·obtain⟨u,hu,rfl⟩:=aE.mp z
    have:=bA u (c6 hu);exact⟨this.1,this.2.1,je⟩
   ·obtain⟨u,hu,rfl⟩:=aE.mp z
    have:=bA u hu;exact⟨this.1,this.2.1,by show 1-fM ts<=1;lia⟩
  refine⟨zsz 0,λW hW=>?_⟩;have hW0:=sH6.free hW;have nWA:A0≠W:=λz=>by rw[<- z,eA6]at hW;cases hW
  have kW:aA H6 (upd H6 W (HO.lst [])):=aA.upd hW;refine⟨_,rfl,A0,rfl,⟨_,aW.of (kW _ _ eA6)⟩,oA (K:=K) (a:=A0) (xs:=([t1]++cs).map V.ref) (λn σ H'=>∃(v6 v7 v8 v9:Option V) (bs:List Addr),σ=[some (.ref b),some (.ref t),some (.ref x1),some (.int (fM ts)),some (.ref A0),v6,v7,some (.ref W),v8,v9]/\aA H6 H'/\H' W=some (.lst (bs.map V.ref))/\bs.length<=n/\QL H' bs ((((iW ts).take n).map (qd R)).filter pL))
   ⟨none,none,none,none,[],rfl,kW,au,ap _,dB.nil⟩ (λn σ H' _ h=>by obtain⟨_,_,_,_,_,_,sm,_⟩:=h;exact aW.of (sm _ _ eA6)) ?_ ?_⟩
  ·rintro n x σ H' hx ⟨v6,v7,v8,v9,bs,rfl,sm,hWb,mj,hQ⟩
   have hn:n < ([t1]++cs).length:=by have:=(af.mp hx).1;simpa using this
   rw[a7,ac hn]at hx;have hx:V.ref ([t1]++cs)[n]=x:=aw hx;subst hx;obtain⟨a,ea,hat⟩:=(abg.mv sm).get hn;obtain⟨c1,c2,c3⟩:=ah_ n a ea;have hn9:n < 9:=by rw[ago,hak]at hn;lia
   refine⟨([t1]++cs)[n],_,rfl,aP.of hat,rfl,_,_,rfl,_,_,rfl,_,_,rfl,rfl,?_⟩;have B2:=B1.mv (sH6.trans sm);obtain⟨dx1,_,_,_,ex1,_⟩:=id B2.ex;refine⟨_,rfl,x1,dx1,_,rfl,ex1,rfl,_,rfl,_,rfl,_,rfl,x1,r,w,R,aO,bi,bj,a.1,a.2.1,(a.2.2:Int),rfl,B2,c1,c2,by lia,λt2 H7 s7 _ ht7=>?_⟩;rw[YF (r:=r) (w:=w) c3]at ht7;have bY:=Gf hb' r9 w9 c1 (j:=a.2.1) (wy:=a.2.2);have hS7:=aP.of (K:=K) ht7;have abh:=s7 _ _ hWb;refine⟨_,rfl,t2,_,_,_,rfl,rfl,hS7,aH (j:=2) rfl,_,rfl,aT (aG (by lia)),_,_,rfl,rfl,_,rfl,?_⟩;have acO:(iW ts).take (n+1)=(iW ts).take n++[a]:=by rw[bu,ea];rfl
   by_cases hc:pL (qd R a)=true
   ·have:decide ((2:Int)<=((gU R a.1 a.2.1 a.2.2).2.2.2.length:Int))=true:=am (by have:=bv hc;show (2:Int)<=((qd R a).2.2.2.length:Int);lia)
    rw[this];refine bM ⟨_,rfl,.inl ⟨rfl,_,aW.of abh⟩,_,rfl,t2,_,_,_,rfl,rfl,hS7,aH (j:=0) rfl,_,rfl,t2,_,_,_,rfl,rfl,hS7,aH (j:=1) rfl,_,rfl,_,rfl,t2,_,_,_,rfl,rfl,hS7,aH (j:=2) rfl,zsz 4,λg hg=>?_⟩;have kg:aA H7 (upd H7 g (HO.tup [.int (gU R a.1 a.2.1 a.2.2).1,.int (gU R a.1 a.2.1 a.2.2).2.1,.int a.2.2,.str (S (gU R a.1 a.2.1 a.2.2).2.2.2)])):=aA.upd hg;have hWg:=kg _ _ abh;refine⟨W,_,_,rfl,rfl,hWg,by rw[aa];exact aG (by lia),?_⟩;refine⟨_,_,_,_,bs++[g],rfl,((sm.trans s7).trans kg).cB hW,by rw[au];simp,by simp;lia,?_⟩;rw[acO,bz,eJ];have e2:([a].map (qd R)).filter pL=[qd R a]:=by simp[hc]
    rw[e2];exact(((hQ.mv s7).mv kg).app (dB.one (x:=qd R a) au)).iw (lq hWg)
   ·have:decide ((2:Int)<=((gU R a.1 a.2.1 a.2.2).2.2.2.length:Int))=false:=al (λz=>hc (am (by have z:(2:Int)<=((qd R a).2.2.2.length:Int):=z;lia)))
    rw[this];refine bB ⟨_,_,_,_,bs,rfl,sm.trans s7,abh,by lia,?_⟩;rw[acO,bz,eJ];have e2:([a].map (qd R)).filter pL=[]:=by simp[hc]
    rw[e2,fh];exact hQ.mv s7
  ·rintro σ H' ⟨v6,v7,v8,v9,bs,rfl,sm,hWb,mj,hQ⟩
   rw[aa,ago,bX]at hQ;refine⟨_,rfl,W,_,rfl,.inl ⟨aW.of hWb,λT hT=>?_⟩⟩;have k:aA H' (upd H' T (HO.tup (bs.map V.ref))):=aA.upd hT;refine q T bs _ (((s1.trans sH6).trans sm).trans k) au ?_;unfold dN;rw[hR];exact hQ.mv k
def Gh (K:W.Frag)(T:String)(H:Hp)(x:V):Prop:=∃t,jV K H x t/\W.kitOne K t (.type T)=some false
theorem jV.mv {K:W.Frag}{H H':Hp}{x:V}{t:Value}(h:jV K H x t)(s:aA H H'):jV K H' x t:=by
 cases h with
 | non=>exact .non
 | bl b=>exact .bl b
 | int i=>exact .int i
 | str x=>exact .str x
 | flt x=>exact .flt x
 | lst e=>exact .lst (s _ _ e)
 | nC e=>exact .nC (s _ _ e)
 | tup e=>exact .tup (s _ _ e)
 | dK e=>exact .dK (s _ _ e)
 | dT e=>exact .dT (s _ _ e)
 | ins e a b c d f=>exact .ins (s _ _ e) a b c d f
theorem Gh.mv {K:W.Frag}{T:String}{H H':Hp}{x:V}(h:Gh K T H x)(s:aA H H'):Gh K T H' x:=let ⟨t,a,b⟩:=h;⟨t,jV.mv a s,b⟩
def Gi (K:W.Frag):Sp:=λvs H Q _=>(∃i:Int,vs=[.int i]/\Q (.bl true) H)\/(∃b:Bool,vs=[.bl b]/\Q (.bl false) H)\/∃x,vs=[x]/\Gh K "int" H x/\Q (.bl false) H
theorem Pn (D:aK K mg "is_whole" tM ["thing"])(jH:mg "int"=none)(Cj:mg "bool"=none)(bH:mg "isinstance"=none):bT P w K mg base "is_whole" 1 ["thing"] (Gi K):=by
 refine D.dM Rn (λvs H Q E h=>?_) (λf bL A outer s H vs Q E hr h=>?_)
 ·rcases h with⟨i,rfl,_⟩ | ⟨i,rfl,_⟩ | ⟨i,rfl,_⟩ <;> rfl
 ·refine⟨_,(aF (bf (nP (aN jd (by rfl) bH bp (aj (qv 0) (aj (mV (v:=.ty "int") (by rfl) jH gt rfl) aq))) (lW (afF (aN jd (by rfl) bH bp (aj (qv 0) (aj (mV (v:=.ty "bool") (by rfl) Cj PyProof.Rows.boot_bool rfl) aq)))))))),?_⟩
  rcases h with⟨i,rfl,q⟩ | ⟨b,rfl,q⟩ | ⟨x,rfl,⟨t,ty,k⟩,q⟩
  ·exact⟨_,rfl,_,_,_,true,rfl,.int _,(by kernel_rfl),true,rfl,bM ⟨_,rfl,_,_,_,false,rfl,.int _,(by kernel_rfl),false,rfl,q⟩⟩
  ·exact⟨_,rfl,_,_,_,true,rfl,.bl _,(by kernel_rfl),true,rfl,bM ⟨_,rfl,_,_,_,true,rfl,.bl _,(by kernel_rfl),true,rfl,q⟩⟩
  ·exact⟨_,rfl,_,_,_,false,rfl,ty,k,false,rfl,bB q⟩
theorem all_map {α:Type}(l:List α)(f:α->Bool):((l.map f).all id)=l.all f:=by induction l with | nil=>rfl | cons a l ih=>simp[ih]
theorem take_snoc {α β:Type}{l:List α}{i:Nat}{a:α}(h:l[i]?=some a)(f:α->β):(l.take (i+1)).map f=(l.take i).map f++[f a]:=by
 rw[bu,h,bz];rfl
inductive wu (K:W.Frag) (H:Hp):V->Option Int->Prop
 | int (i:Int):wu K H (.int i) (some i)
 | bl (b:Bool):wu K H (.bl b) none
 | no {x:V} (h:Gh K "int" H x):wu K H x none
theorem wu.mv {H H':Hp}{x:V}{o:Option Int}(h:wu K H x o)(s:aA H H'):wu K H' x o:=by
 cases h with
 | int i=>exact .int i
 | bl b=>exact .bl b
 | no h=>exact .no (h.mv s)
noncomputable def Iz (r w:Nat)(oi oj:Option Int):Bool:=match oi,oj with | some i,some j=>decide (0<=i/\i < r/\0<=j/\j < w) | _,_=>false
def Tc (K:W.Frag):Sp:=λvs H Q _=>∃(p:Addr) (ls:AA) (r w:Nat) (x y:V) (oi oj:Option Int),vs=[.ref p,x,y]/\H p=some (.tup (Ts ls))/\Blk r w ls/\1<=r/\r<=9/\w<=9/\wu K H x oi/\wu K H y oj/\Q (.bl (Iz r w oi oj)) H
theorem wu.sp {H:Hp}{x:V}{o:Option Int}{Q:VK}{E:XK}(h:wu K H x o)(q:Q (.bl o.isSome) H):Gi K [x] H Q E:=by
 cases h with
 | int i=>exact .inl ⟨i,rfl,q⟩
 | bl b=>exact .inr (.inl ⟨b,rfl,q⟩)
 | no h=>exact .inr (.inr ⟨x,rfl,h,q⟩)
theorem JQ (D:aK K mg "is_cell_of" lX ["rows","row","column"])(aY:mg "len"=none)(pJ:bT P w K mg base "is_whole" 1 ["thing"] (Gi K)):bT P w K mg base "is_cell_of" 2 ["rows","row","column"] (Tc K):=by
 refine D.dM Az (λvs H Q E h=>?_) (λf bL A outer s H vs Q E hr h=>?_)
 ·obtain⟨p,ls,r,w,x,y,oi,oj,rfl,_⟩:=h
  rfl
 ·obtain⟨p,ls,r,w,x,y,oi,oj,rfl,hp,hb,r1,r9,w9,hx,hy,q⟩:=h
  have je:(Ts ls).length=r:=by rw[aa,hb.len]
  have h0:0 < ls.length:=by rw[hb.len];lia
  have hw0:ls[0].length=w:=hb.gR _ (ah _);refine⟨_,(aB (cF (QW.qt (mU (fB (dj (aX pJ hr.mono rfl (aj (qv 1) aq)))) (jX (fB (dj (aX pJ hr.mono rfl (aj (qv 2) aq))))))) (aF (bf jB)) bN) (aF (bf (nP (kE lK jQ aD (qv 1) (aN bU (by rfl) aY aS (aj (qv 0) aq))) (lW (kE lK jQ aD (qv 2) (aN cI (by rfl) aY aS (aj (aQ bh (qv 0) aD (λ_ _=>rfl)) aq)))))))),?_⟩;refine⟨_,rfl,?_⟩;dsimp only[rQ,mQ];refine wu.sp hx ⟨_,rfl,?_⟩;cases hx with
  | bl b=>exact bM q
  | no h=>exact bM q
  | int i=>
   refine bB ⟨_,rfl,?_⟩;dsimp only[rQ,mQ];refine wu.sp hy ⟨_,rfl,?_⟩;cases hy with
   | bl b=>exact bM q
   | no h=>exact bM q
   | int j=>
    refine bB ?_;have q:Q (.bl (decide (0<=i/\i < (r:Int)/\0<=j/\j < (w:Int)))) H:=q;refine⟨_,rfl,_,_,rfl,rfl,_,rfl,?_⟩;by_cases h1:0<=i
    ·rw[am h1]
     refine bM ⟨_,rfl,p,_,rfl,.inr (aP.of hp),_,_,rfl,rfl,_,rfl,?_⟩;rw[je];by_cases h2:i < (r:Int)
     ·rw[am h2]
      refine bM ⟨_,rfl,_,_,rfl,rfl,_,rfl,?_⟩;by_cases h3:0<=j
      ·rw[am h3]
       refine bM ⟨_,rfl,p,_,_,.str (S ls[0]),rfl,rfl,aP.of hp,aH (j:=0) (fW (by simp[h0])),_,rfl,aT (aG (by lia)),_,_,rfl,rfl,?_⟩;rw[hw0];simpa [h1,h2,h3] using q
      ·rw[al h3]
       refine bB ?_;simpa [h1,h2,h3] using q
     ·rw[al h2]
      refine bB ?_;simpa [h1,h2] using q
    ·rw[al h1]
     refine bB ⟨_,rfl,bB ?_⟩;simpa [h1] using q
inductive Td (K:W.Frag) (H:Hp):V->Option (List Nat)->Prop
 | no {x:V} (h:acI K H x):Td K H x none
 | str (l:List Nat) (h:l.length<=1000):Td K H (.str (S l)) (some l)
theorem Td.mv {H H':Hp}{x:V}{o:Option (List Nat)}(h:Td K H x o)(s:aA H H'):Td K H' x o:=by
 cases h with
 | no h=>exact .no (let ⟨t,a,b⟩:=h;⟨t,jV.mv a s,b⟩)
 | str l h=>exact .str l h
abbrev wz:=Option (Option Int × Option Int × Option (List Nat))
inductive yC (K:W.Frag) (H:Hp):V->wz->Prop
 | no {x:V} (h:Gh K "tuple" H x):yC K H x none
 | bad {b:Addr} {xs:List V} (h:H b=some (.tup xs)) (hl:xs.length≠3):yC K H (.ref b) none
 | tri {b:Addr} {x y z:V} {oi oj:Option Int} {ol:Option (List Nat)} (h:H b=some (.tup [x,y,z])) (hx:wu K H x oi) (hy:wu K H y oj) (hz:Td K H z ol):yC K H (.ref b) (some (oi,oj,ol))
theorem yC.mv {H H':Hp}{x:V}{o:wz}(h:yC K H x o)(s:aA H H'):yC K H' x o:=by
 cases h with
 | no h=>exact .no (h.mv s)
 | bad h hl=>exact .bad (s _ _ h) hl
 | tri h hx hy hz=>exact .tri (s _ _ h) (hx.mv s) (hy.mv s) (hz.mv s)
def sgO (ol:Option (List Nat)):Bool:=match ol with | none=>false | some l=>Fe l
noncomputable def qY (r w:Nat)(o:wz):Bool:=match o with | none=>false | some (oi,oj,ol)=>Iz r w oi oj&&sgO ol
def Lz (K:W.Frag)(C:Addr):Sp:=λvs H Q _=>∃(b:Addr) (x:V) (o:wz) (r w:Nat) (ak aO:AA) (bi bj:Nat),vs=[.ref b,x]/\dZ C H b r w ak aO bi bj/\yC K H x o/\Q (.bl (qY r w o)) H
theorem Pq {C:Addr}(D:aK K mg "is_triple" qT ["board","thing"])(aY:mg "len"=none)(cg:mg "tuple"=none)(bH:mg "isinstance"=none)(T:gb K C)
  (lY:bT P w K mg base "is_cell_of" 2 ["rows","row","column"] (Tc K)) (BW:bT P w K mg base "is_sign" 1 ["thing"] (O2 K)):bT P w K mg base "is_triple" 3 ["board","thing"] (Lz K C):=by
 refine D.dM OD (λvs H Q E h=>?_) (λf bL A outer s H vs Q E hr h=>?_)
 ·obtain⟨b,x,o,r,w,ak,aO,bi,bj,rfl,_⟩:=h
  rfl
 ·obtain⟨b,x,o,r,w,ak,aO,bi,bj,rfl,BA,hT,q⟩:=h
  obtain⟨⟨dx,pr,pm,pb,hb,hpr,hpm,hpb⟩,B⟩:=BA;refine⟨_,(aB (cF (QW.qt (mU (fB (dj (aN jd (by rfl) bH bp (aj (qv 1) (aj (mV (v:=.ty "tuple") (by rfl) cg cK rfl) aq))))) (jX (bD o_ (aN bU (by rfl) aY aS (aj (qv 1) aq)) aD (bw _))))) (aF (bf jB)) bN) (aF (bf (nP (aX lY hr.mono rfl (aj (iD (qv 0) rfl) (aj (aQ bh (qv 1) aD (λ_ _=>rfl)) (aj (aQ bh (qv 1) aD (λ_ _=>rfl)) aq)))) (lW (aX BW hr.mono rfl (aj (aQ bh (qv 1) aD (λ_ _=>rfl)) aq))))))),?_⟩;cases hT with
  | no h=>
   obtain⟨t,ty,k⟩:=h;exact⟨_,rfl,_,_,_,false,rfl,ty,k,_,rfl,bM (bM q)⟩
  | @bad a xs h hl=>
   refine⟨_,rfl,_,_,_,true,rfl,.tup h,(by kernel_rfl),_,rfl,bB ⟨_,rfl,a,_,rfl,.inr (aP.of h),rfl,_,rfl,?_⟩⟩;rw[al (show ¬V.int (xs.length:Nat)=V.int 3 from λz=>hl (by injection z with z;lia))];exact bM q
  | @tri a x y z oi oj ol h hx hy hz=>
   refine⟨_,rfl,_,_,_,true,rfl,.tup h,(by kernel_rfl),_,rfl,bB ⟨_,rfl,a,_,rfl,.inr (aP.of h),rfl,_,rfl,vG rfl ?_⟩⟩;refine⟨_,rfl,b,C,dx,_,_,rfl,hb,T.cl,T.nr,rfl,_,rfl,a,_,_,x,rfl,rfl,aP.of h,aH (j:=0) rfl,_,rfl,a,_,_,y,rfl,rfl,aP.of h,aH (j:=1) rfl,pr,ak,r,w,x,y,oi,oj,rfl,hpr,B.br,B.r1,B.r9,B.w9,hx,hy,_,rfl,?_⟩;have q:Q (.bl (Iz r w oi oj&&sgO ol)) H:=q;cases hc:Iz r w oi oj with
   | false=>rw[hc]at q;exact bB q
   | true=>
    rw[hc]at q;refine bM ⟨_,rfl,a,_,_,z,rfl,rfl,aP.of h,aH (j:=2) rfl,?_⟩;dsimp only[rQ,mQ];cases hz with
    | no h=>exact .inl ⟨z,rfl,h,q⟩
    | str l hl=>exact .inr ⟨l,rfl,hl,q⟩
abbrev Pr:=dB (λq:Nat × Nat=>[V.int q.1,V.int q.2])
def Ck:Sp:=λvs H Q _=>∃(t:Addr) (as:List Addr) (ts:List aV),vs=[.ref t]/\H t=some (.tup (as.map V.ref))/\cH H as ts/\ts.length<=100/\
 ∀(L:Addr) (cs:List Addr) (H':Hp),aA H H'->H' L=some (.lst (cs.map V.ref))->Pr H' cs (ts.map λt=>(t.1,t.2.1))->Q (.ref L) H'
theorem RD (D:aK K mg "cells_of" tW ["laying"]):bT P w K mg base "cells_of" 1 ["laying"] Ck:=by
 refine D.dM Rq (λvs H Q E h=>?_) (λf bL A outer s H vs Q E hr h=>?_)
 ·obtain⟨t,as,ts,rfl,_⟩:=h
  rfl
 ·obtain⟨t,as,ts,rfl,ht,hL,h7,q⟩:=h
  have hal:=hL.len;refine⟨_,(aF (bf (fL (ns:=["row","column","sign"]) rfl (fD.of ["laying"] [] (by kernel_rfl)) (dY (qv 0)) (λ_ _ _ _ _=>(oR K rfl (show (["row","column","sign","laying"]:List Str).Nodup by decide +kernel) rfl rfl rfl (by rfl) (by rfl) (by rfl))) (λ_ _ _ _ _=>cU) (λ_ _ _ _ _=>(cQ (aj (qv 0) (aj (qv 1) aq))))))),?_⟩;refine⟨_,rfl,t,rfl,⟨_,aP.of ht⟩,λN hN=>jD (K:=K) (KT:=K) (a:=t) (f:=eG [] 0) (tt:=gC) (xs:=as.map V.ref) (λn ys H5=>∃cs:List Addr,ys=cs.map V.ref/\cs.length=n/\H5 N=some (.lst ys)/\aA H H5/\Pr H5 cs ((ts.take n).map λt=>(t.1,t.2.1)))
   ⟨[],rfl,rfl,au,aA.upd hN,dB.nil⟩ (λn ys H5 _ h=>by obtain⟨_,_,_,_,sm,_⟩:=h;exact aP.of (sm _ _ ht)) ?_ ?_⟩
  ·rintro n x ys H5 hx ⟨cs,rfl,hcl,pN,jf,wk⟩
   have hn:n < as.length:=by have:=(af.mp hx).1;simpa using this
   have hnt:n < ts.length:=by lia
   rw[a7,ac hn]at hx;have hx:V.ref as[n]=x:=aw hx;obtain⟨_,en⟩:=gH (hL.mv jf) hnt;refine vI hx.symm (aP.of en) ?_;refine⟨_,rfl,_,rfl,zsz 2,λg hg=>?_⟩;have kg:aA H5 (upd H5 g (HO.tup [.int ts[n].1,.int ts[n].2.1])):=aA.upd hg;have Ly:=kg _ _ pN;refine⟨Ly,by rw[aa];exact aG (by lia),dI.mk (by rw[aa];exact hn) ⟨cs++[g],by simp,by simp[hcl],by rw[au],(jf.trans kg).cB hN,?_⟩⟩;rw[show ts.take (n+1)=ts.take n++[ts[n]] by rw[bu,ac hnt];rfl,bz];exact((wk.mv kg).app (dB.one (x:=(ts[n].1,ts[n].2.1)) au)).iw (lq Ly)
  ·rintro ys H5 ⟨cs,rfl,hcl,pN,jf,wk⟩
   rw[aa,hal,bX]at wk;exact q N cs H5 jf pN wk
structure Gj (K:W.Frag)(H:Hp)(xs:List V)(os:List wz):Prop where
 len:xs.length=os.length
 at_:∀(i:Nat) (x:V) (o:wz),xs[i]?=some x->os[i]?=some o->yC K H x o
inductive YH (K:W.Frag) (H:Hp):V->Option (List wz)->Prop
 | no {x:V} (h:Gh K "tuple" H x):YH K H x none
 | tup {p:Addr} {xs:List V} {os:List wz} (h:H p=some (.tup xs)) (hp:Gj K H xs os) (h1:os.length<=100):YH K H (.ref p) (some os)
def mkT (t:aV):wz:=some (some (t.1:Int),some (t.2.1:Int),some [t.2.2])
noncomputable def acP (o:wz):Nat × Nat:=match o with | some (some i,some j,_)=>(i.toNat,j.toNat) | _=>(0,0)
def ltQ (p:(Nat × Nat) × (Nat × Nat)):Bool:=decide (p.1.1*1000+p.1.2 < p.2.1*1000+p.2.2)
def pO (cs:List (Nat × Nat)):Bool:=(cs.zip (cs.drop 1)).all ltQ
noncomputable def layB (r w:Nat)(o:Option (List wz)):Bool:=match o with | none=>false | some os=>decide (1<=os.length/\os.length<=7)&&os.all (qY r w)&&pO (os.map acP)
theorem Pu (ts:List aV):(ts.map mkT).map acP=ts.map λt=>(t.1,t.2.1):=by
 rw[b8];exact eQ λt _=>rfl
theorem abj {r w:Nat}{o:wz}(h:qY r w o=true):∃t:aV,o=mkT t/\inB r w t:=by
 match o with
 | none=>cases h
 | some (oi,oj,ol)=>
  unfold qY at h;simp only[cw]at h;obtain⟨h1,h2⟩:=h
  match oi,oj,ol with
  | none,_,_=>cases h1
  | some i,none,_=>cases h1
  | some i,some j,none=>cases h2
  | some i,some j,some l=>
   have h1:=bv h1;have h2:Fe l=true:=h2
   match l with
   | []=>cases h2
   | [c]=>
    refine⟨(i.toNat,j.toNat,c),?_,⟨by show i.toNat < r;lia,by show j.toNat < w;lia,h2⟩⟩;show some (some i,some j,some [c])=some (some ((i.toNat:Nat):Int),some ((j.toNat:Nat):Int),some [c]);rw[Int.toNat_of_nonneg h1.1,Int.toNat_of_nonneg h1.2.2.1]
   | _::_::_=>cases h2
theorem abk {r w:Nat}{t:aV}(h:inB r w t):qY r w (mkT t)=true:=by
 unfold qY mkT Iz sgO;have h1:=h.1;have h2:=h.2.1;simp only[cw];exact⟨am (by lia),h.2.2⟩
theorem LC {r w:Nat}:∀{os:List wz},os.all (qY r w)=true->∃ts:List aV,os=ts.map mkT/\∀t∈ts,inB r w t
 | [],_=>⟨[],rfl,λt h=>by simp at h⟩
 | o::os,h=>by
  rw[List.all_cons,cw]at h;obtain⟨ts,e,k⟩:=LC h.2;obtain⟨t,e2,k2⟩:=abj h.1;exact⟨t::ts,by rw[e,e2];rfl,λu hu=>by
   rcases bo.mp hu with z | z
   ·rw[z];exact k2
   ·exact k u z⟩
theorem yC.ahu {H:Hp}{x:V}{t:aV}(h:yC K H x (mkT t)):∃b,x=.ref b/\yt H b t:=by
 generalize ho:mkT t=o at h;cases h with
 | no _=>cases ho
 | bad _ _=>cases ho
 | @tri b x y z oi oj ol h hx hy hz=>
  have ho:=aw ho;injection ho with e1 e2;injection e2 with e2 e3;subst e1 e2 e3;cases hx;cases hy;cases hz;exact⟨b,rfl,h⟩
theorem Gj.lay {H:Hp}:∀{ts:List aV} {xs:List V},Gj K H xs (ts.map mkT)->∃as:List Addr,xs=as.map V.ref/\cH H as ts
 | [],[],_=>⟨[],rfl,cH.nil⟩
 | [],_::_,h=>by have:=h.len;simp at this
 | _::_,[],h=>by have:=h.len;simp at this
 | t::ts,x::xs,h=>by
  obtain⟨b,rfl,hb⟩:=(h.at_ 0 x (mkT t) rfl rfl).ahu;obtain⟨as,e,hL⟩:=Gj.lay (ts:=ts) (xs:=xs) ⟨by have:=h.len;simpa using this,λi x o a c=>h.at_ (i+1) x o a c⟩;refine⟨b::as,by rw[e];rfl,⟨λa ha=>?_,?_⟩⟩
  ·rcases bo.mp ha with z | z
   ·rw[z,Ip hb];exact hb
   ·exact hL.at_ a z
  ·rw[bP,hL.eq,Ip hb]
theorem yC.mk {H:Hp}{b:Addr}{t:aV}(h:yt H b t):yC K H (.ref b) (mkT t):=.tri h (.int _) (.int _) (.str _ (by show 1<=1000;decide))
theorem Gj.of_lay {H:Hp}{as:List Addr}{ts:List aV}(h:cH H as ts):Gj K H (as.map V.ref) (ts.map mkT):=by
 refine⟨by rw[aa,aa,h.len],λi x o hx ho=>?_⟩;rw[a7]at hx ho;obtain⟨a,ha,rfl⟩:=dE.mp hx;obtain⟨t,ht,rfl⟩:=dE.mp ho;have hi:i < as.length:=(af.mp ha).1;obtain⟨u,hu,hU⟩:=h.get hi;rw[ht]at hu;rw[aw hu];rw[ac hi]at ha;rw[<- aw ha];exact yC.mk hU
def YJ (K:W.Frag)(C:Addr):Sp:=λvs H Q _=>∃(b:Addr) (x:V) (o:Option (List wz)) (r w:Nat) (ak aO:AA) (bi bj:Nat),vs=[.ref b,x]/\dZ C H b r w ak aO bi bj/\YH K H x o/\∀H',aA H H'->Q (.bl (layB r w o)) H'
theorem Px {C:Addr}(D:aK K mg "is_laying" qU ["board","thing"])(aY:mg "len"=none)(cg:mg "tuple"=none)(bH:mg "isinstance"=none)(fX:mg "all"=none)(IK:mg "zip"=none)(mC:∃t,mg "MOST_TILES"=some (.int 7 t))
  (RG:bT P w K mg base "is_triple" 3 ["board","thing"] (Lz K C)) (zx:bT P w K mg base "cells_of" 1 ["laying"] Ck):bT P w K mg base "is_laying" 4 ["board","thing"] (YJ K C):=by
 refine D.dM uP (λvs H Q E h=>?_) (λf bL A outer s H vs Q E hr h=>?_)
 ·obtain⟨b,x,o,r,w,ak,aO,bi,bj,rfl,_⟩:=h
  rfl
 ·obtain⟨b,x,o,r,w,ak,aO,bi,bj,rfl,BA,hT,q⟩:=h
  have w9:=BA.ok.w9;refine⟨_,(aB (cF (QW.qt (mU (fB (dj (aN jd (by rfl) bH bp (aj (qv 1) (aj (mV (v:=.ty "tuple") (by rfl) cg cK rfl) aq))))) (jX (fB (uG lK lK aD (aN bU (by rfl) aY aS (aj (qv 1) aq)) (UJ (by rfl) mC)))))) (aF (bf jB)) bN) (aB (cF (fB (dj (aN (jL rfl) (by rfl) fX jC (aj (jx rfl (iZ.of uP.nd (by kernel_rfl)) (dY (qv 1)) (λ_ _ _ _ _=>cU) (λ_ _ _ _ _=>(aX RG hr.mono rfl (aj (qv 1) (aj (qv 0) aq))))) aq)))) (aF (bf jB)) bN) (aB (aU (i:=2) uP.nd rfl (Or.inl rfl) (aX zx hr.mono rfl (aj (qv 1) aq))) (aF (bf (aN (jL rfl) (by rfl) fX jC (aj (fL (ns:=["cell","later"]) rfl (fD.of ["board","thing","cells"] [] (by kernel_rfl)) (adK (by rfl) IK (aj (qv 2) (aj (kI xW (qv 2) (lD aD) oN) aq))) (λ_ _ _ _ _=>(uh K rfl (show (["cell","later","board","thing","cells"]:List Str).Nodup by decide +kernel) rfl rfl (by rfl) (by rfl))) (λ_ _ _ _ _=>cU) (λ_ _ _ _ _=>(d_ (af5 hr.afj) (qv 0) (qv 1) (bw _)))) aq))))))),?_⟩;cases hT with
  | no h=>
   obtain⟨t,ty,k⟩:=h;exact⟨_,rfl,_,_,_,false,rfl,ty,k,_,rfl,bM (bM (q H (aA.refl _)))⟩
  | @tup p xs os hp hP h100=>
   have bY:=hP.len;refine⟨_,rfl,_,_,_,true,rfl,.tup hp,(by kernel_rfl),_,rfl,bB ?_⟩;have F:¬layB r w (some os)=true->∀H',aA H H'->Q (.bl false) H':=λz H' s'=>by
    have:=q H' s';rw[Bool.not_eq_true _ |>.mp z]at this;exact this
   refine⟨_,rfl,p,_,rfl,.inr (aP.of hp),_,_,rfl,rfl,?_⟩;rw[bY];by_cases h1:1<=os.length
   ·refine⟨true,by simp;lia,bM ⟨_,_,rfl,rfl,?_⟩⟩
    by_cases h7:os.length<=7
    ·refine⟨true,by simp;lia,bB ?_⟩
     refine⟨_,rfl,p,rfl,⟨_,aP.of hp⟩,λL hL=>uJ (xs:=xs) (λi ys H2=>ys=((os.take i).map (qY r w)).map V.bl/\H2 L=some (.lst ys)/\aA H H2) ⟨rfl,au,aA.upd hL⟩ (λi ys H2 _ h=>aP.of (h.2.2 _ _ hp)) ?_ ?_⟩
     ·rintro i x ys H2 hi ⟨rfl,hL2,sm⟩
      have hil:i < xs.length:=(af.mp hi).1;have hio:i < os.length:=by lia
      have ho:=ac hio;refine⟨_,rfl,_,rfl,b,x,os[i],r,w,ak,aO,bi,bj,rfl,BA.mv sm,(hP.at_ i x _ hi ho).mv sm,hL2,?_,dI.mk hil ⟨?_,au,sm.cB hL⟩⟩
      ·rw[aa,aa,aI];exact aG (by lia)
      ·rw[take_snoc ho,bz];rfl
     ·rintro ys H2 ⟨rfl,hL2,sm⟩
      refine⟨L,_,rfl,aW.of hL2,?_⟩;rw[bY,bX,all_map];refine⟨_,rfl,?_⟩;cases ha:os.all (qY r w) with
      | false=>exact bM (F (by unfold layB;simp only;rw[ha];simp) H2 sm)
      | true=>
       refine bB ?_;obtain⟨ts,rfl,bA⟩:=LC ha;obtain⟨as,rfl,hLy⟩:=hP.lay;rw[aa]at h1 h7;refine⟨_,rfl,p,as,ts,rfl,sm _ _ hp,hLy.mv sm,by lia,λLc cs H3 s3 hLc hcs=>?_⟩;have yD:=sm.trans s3;refine⟨_,rfl,_,rfl,_,rfl,Lc,_,rfl,aW.of hLc,λM hM=>?_⟩;have hcl:=hcs.len;rw[aa]at hcl;have eM:oE (cs.map V.ref) (some 1) none=(cs.drop 1).map V.ref:=by
        unfold oE;rw[show (some (1:Int))=some (((1:Nat):Int)) from rfl,HT.qm,HT.uz,aa,im (show 1<=cs.length by lia),bg (by rw[bt,aa];lia),List.map_drop]
       rw[eM];have sM:aA H3 (upd H3 M (HO.lst ((cs.drop 1).map V.ref))):=aA.upd hM;have vZ:upd H3 M (HO.lst ((cs.drop 1).map V.ref)) M=some (.lst ((cs.drop 1).map V.ref)):=au;have abl:=sM _ _ hLc;have Vq:=hcs.mv sM;have Cm:=yD.trans sM;generalize upd H3 M (HO.lst ((cs.drop 1).map V.ref))=H4 at sM vZ abl Vq Cm ⊢;generalize hcc:(ts.map λt=>(t.1,t.2.1))=cc at Vq;have aia:cc.length=cs.length:=by rw[<- hcc,aa,hcl]
       have hw9:∀u∈cc,u.2 < 1000:=λu hu=>by
        rw[<- hcc]at hu;obtain⟨t,ht,rfl⟩:=aE.mp hu;have:=(bA t ht).2.1;show t.2.1 < 1000;lia
       have Cp:(cc.zip (cc.drop 1)).length=cs.length-1:=by rw[List.length_zip,bt,aia];lia
       refine⟨Lc,M,rfl,⟨_,aW.of abl⟩,⟨_,aW.of vZ⟩,λN hN=>af4 (f:=eG [] 0) (K:=K) (KT:=K) (a:=Lc) (b:=M) (tt:=gC) (xs:=cs.map V.ref) (ys:=(cs.drop 1).map V.ref) (by rw[aa,aa,bt];lia)
        (λn zs H5=>zs=(((cc.zip (cc.drop 1)).take n).map ltQ).map V.bl/\H5 N=some (.lst zs)/\aA H4 H5)
        ⟨rfl,au,aA.upd hN⟩ (λn zs H5 _ h=>⟨aW.of (h.2.2 _ _ abl),aW.of (h.2.2 _ _ vZ)⟩) ?_ ?_⟩
       ·rintro n x y zs H5 T hx hy ⟨rfl,pN,jf⟩ hT
        have kT:aA H5 (upd H5 T (HO.tup [x,y])):=aA.upd hT;rw[a7]at hx hy;obtain⟨a1,ha1,rfl⟩:=dE.mp hx;obtain⟨a2,ha2,rfl⟩:=dE.mp hy;rw[e9]at ha2;have n1:n < cs.length:=(af.mp ha1).1;have n2:1+n < cs.length:=(af.mp ha2).1;have c1:cc[n]?=some cc[n]:=ac (by lia);have c2:cc[1+n]?=some cc[1+n]:=ac (by lia);have e1:=kT _ _ (jf _ _ (Vq.at_ n a1 _ ha1 c1));have e2:=kT _ _ (jf _ _ (Vq.at_ (1+n) a2 _ ha2 c2));refine U3 rfl (aP.of au) ?_;refine⟨_,rfl,_,rfl,a1,a2,_,_,_,_,rfl,rfl,e1,e2,hw9 _ (ah _),hw9 _ (ah _),kT _ _ pN,?_,dI.mk (by rw[aa,bt];lia) ⟨?_,au,(jf.trans kT).cB hN⟩⟩
        ·rw[aa,aa,aI];exact aG (by lia)
        ·have ez:(cc.zip (cc.drop 1))[n]?=some (cc[n],cc[1+n]):=by
          rw[mx];exact⟨c1,by rw[e9];exact c2⟩
         rw[take_snoc ez,bz];rfl
       ·rintro zs H5 ⟨rfl,pN,jf⟩
        refine⟨N,_,rfl,aW.of pN,?_⟩;rw[bg (by rw[aa,bt,Cp];lia),all_map];have:=q H5 (Cm.trans jf);have e:layB r w (some (ts.map mkT))=pO cc:=by
         unfold layB;simp only;rw[ha,Pu,hcc,aa,am (show 1<=ts.length/\ts.length<=7 from ⟨h1,h7⟩)];rfl
        rw[e]at this;exact this
    ·refine⟨false,by simp;lia,bM ?_⟩
     exact F (by unfold layB;simp;lia) H (aA.refl _)
   ·refine⟨false,by simp;lia,bB ⟨_,rfl,bM ?_⟩⟩
    exact F (by unfold layB;simp;lia) H (aA.refl _)
theorem adX {f C R:Addr}{fd:FuncData}(F:gQ K "__init__" "Taken.__init__" jo f fd)(gJ:mg "RackError"=some (.ref R))(jP:InitOf K R)(T:nu K mg "Taken" C f ["row","column"]):cM P w K mg base fU 1 f fd ["self","row","column"] (HW C "row" "column"):=by
 refine F.dM Mw (λvs H Q E h=>?_) (λbL A outer s H vs Q E hr h=>?_)
 ·obtain⟨a,v,u,rfl,_⟩:=h
  rfl
 ·obtain⟨a,v,u,rfl,ha,q⟩:=h
  refine⟨_,(aB (dO (tL (by rfl) gJ jP (aj (qv 0) (aj (qv 1) (aj (qv 2) aq))))) (aB (uq (qv 0) (qv 1) rfl) (aF (uq (qv 0) (qv 2) rfl)))),?_⟩;refine⟨_,rfl,_,rfl,_,rfl,a,C,f,none,[v,u],rfl,ha,T.M.ini,zsz 2,?_⟩;exact⟨_,rfl,_,rfl,a,C,none,rfl,ha,T.T,T.no _ (by simp),.inl ⟨rfl,λdx ne nd=>⟨_,rfl,_,rfl,a,C,some dx,rfl,au,T.T,T.no _ (by simp),.inr ⟨dx,_,rfl,by rw[aM ne,au],by show 1 < 50;decide,q dx ne nd⟩⟩⟩⟩
theorem agp {f C R:Addr}{fd:FuncData}(F:gQ K "__init__" "Gap.__init__" kJ f fd)(gJ:mg "RackError"=some (.ref R))(jP:InitOf K R)(T:nu K mg "Gap" C f ["row","column"]):cM P w K mg base fU 1 f fd ["self","row","column"] (HW C "row" "column"):=by
 refine F.dM Rm (λvs H Q E h=>?_) (λbL A outer s H vs Q E hr h=>?_)
 ·obtain⟨a,v,u,rfl,_⟩:=h
  rfl
 ·obtain⟨a,v,u,rfl,ha,q⟩:=h
  refine⟨_,(aB (dO (tL (by rfl) gJ jP (aj (qv 0) (aj (qv 1) (aj (qv 2) aq))))) (aB (uq (qv 0) (qv 1) rfl) (aF (uq (qv 0) (qv 2) rfl)))),?_⟩;refine⟨_,rfl,_,rfl,_,rfl,a,C,f,none,[v,u],rfl,ha,T.M.ini,zsz 2,?_⟩;exact⟨_,rfl,_,rfl,a,C,none,rfl,ha,T.T,T.no _ (by simp),.inl ⟨rfl,λdx ne nd=>⟨_,rfl,_,rfl,a,C,some dx,rfl,au,T.T,T.no _ (by simp),.inr ⟨dx,_,rfl,by rw[aM ne,au],by show 1 < 50;decide,q dx ne nd⟩⟩⟩⟩
theorem LK {H:Hp}{a dx:Addr}{o p q p2:HO}(na:H a=none)(ne:dx≠a)(nd:upd H a o dx=none):upd (upd (upd (upd H a o) dx p) a q) dx p2 a=some q/\aA H (drop (upd (upd (upd (upd H a o) dx p) a q) dx p2) a)/\drop (upd (upd (upd (upd H a o) dx p) a q) dx p2) a dx=some p2:=by
 rw[aM ne]at nd;refine⟨by rw[aM ne.symm,au],λb u e=>?_,?_⟩
 ·have h1:b≠a:=bJ e na
  have h2:b≠dx:=bJ e nd;rw[iK h1,aM h2,aM h1,aM h2,aM h1];exact e
 ·rw[iK ne,au]
abbrev Tf (i j:Nat):List (Str × V):=iU "column" (.int j) [("row",.int i)]
theorem JR {α:Type}{p:α->Bool}{l:List α}{n:Nat}(hn:n < l.length)(h0:∀x∈l.take n,p x=false)(h1:p l[n]=true):l.find? p=some l[n]:=by
 have e:l=l.take n++l[n]::l.drop (n+1):=by rw[<- gL hn,kD]
 have e2:(l.take n++l[n]::l.drop (n+1)).find? p=some l[n]:=by
  rw[List.find?_append,List.find?_eq_none.mpr λx hx=>by rw[h0 x hx];decide,Option.none_or,List.find?_cons_of_pos h1]
 rw[<- e]at e2;exact e2
theorem JT {α:Type}{p:α->Bool}{l:List α}(h0:∀x∈l,p x=false):l.find? p=none:=List.find?_eq_none.mpr λx hx=>by rw[h0 x hx];decide
theorem abm (a b:Nat):decide (V.int (a:Int)=V.int (b:Int))=decide (a=b):=by
 by_cases h:a=b
 ·subst h;simp
 ·have:¬V.int (a:Int)=V.int (b:Int):=λz=>h (by injection z with z;exact ku z)
  simp[h,this]
def gA (ts:List aV):Bool:=ts.all λt=>decide (t.1=(ts.headD (0,0,0)).1)
def gW (ts:List aV):Bool:=ts.all λt=>decide (t.2.1=(ts.headD (0,0,0)).2.1)
theorem iY {ts:List aV}(h:0 < ts.length):ts.headD (0,0,0)=ts[0]:=by
 cases ts with
 | nil=>simp at h
 | cons a b=>rfl
def LQ:Sp:=λvs H Q _=>∃(t:Addr) (as:List Addr) (ts:List aV),vs=[.ref t]/\H t=some (.tup (as.map V.ref))/\cH H as ts/\0 < ts.length/\ts.length<=7/\∀H',aA H H'->Q (.bl (gA ts)) H'
def Tg:Sp:=λvs H Q _=>∃(t:Addr) (as:List Addr) (ts:List aV),vs=[.ref t]/\H t=some (.tup (as.map V.ref))/\cH H as ts/\0 < ts.length/\ts.length<=7/\∀H',aA H H'->Q (.bl (gW ts)) H'
theorem MP (D:aK K mg "is_across" qW ["laying"])(fX:mg "all"=none):bT P w K mg base "is_across" 1 ["laying"] LQ:=by
 refine D.dM OJ (λvs H Q E h=>?_) (λf bL A outer s H vs Q E hr h=>?_)
 ·obtain⟨t,as,ts,rfl,_⟩:=h
  rfl
 ·obtain⟨t,as,ts,rfl,ht,hL,h0,h7,q⟩:=h
  have hal:=hL.len;have hh:=iY h0;refine⟨_,(aF (bf (aN (jL rfl) (by rfl) fX jC (aj (fL (ns:=["row","column","sign"]) rfl (fD.of ["laying"] [] (by kernel_rfl)) (dY (qv 0)) (λ_ _ _ _ _=>(oR K rfl (show (["row","column","sign","laying"]:List Str).Nodup by decide +kernel) rfl rfl rfl (by rfl) (by rfl) (by rfl))) (λ_ _ _ _ _=>cU) (λ_ _ _ _ _=>(d_ iJ (qv 0) (aQ (mW K) (aQ (mW K) (qv 3) aD (λ_ _=>rfl)) aD (λ_ _=>rfl)) (bw _)))) aq)))),?_⟩;refine⟨_,rfl,t,rfl,⟨_,aP.of ht⟩,λN hN=>jD (K:=K) (KT:=K) (a:=t) (f:=eG [] 0) (tt:=gC) (xs:=as.map V.ref) (λn ys H3=>ys=((ts.take n).map λt=>decide (t.1=(ts.headD (0,0,0)).1)).map V.bl/\H3 N=some (.lst ys)/\aA H H3)
   ⟨rfl,au,aA.upd hN⟩ (λn ys H3 _ h=>aP.of (h.2.2 _ _ ht)) ?_ ?_⟩
  ·rintro n x ys H3 hx ⟨rfl,oY,sm3⟩
   have hn:n < as.length:=by have:=(af.mp hx).1;simpa using this
   have hnt:n < ts.length:=by lia
   rw[a7,ac hn]at hx;have hx:V.ref as[n]=x:=aw hx;obtain⟨_,en⟩:=gH (hL.mv sm3) hnt;obtain⟨g0,e0⟩:=gH (hL.mv sm3) h0;refine vI hx.symm (aP.of en) ?_;refine⟨_,rfl,_,rfl,t,_,_,.ref as[0],rfl,rfl,aP.of (sm3 _ _ ht),aH (j:=0) (by simp[g0]),as[0],_,_,_,rfl,rfl,aP.of e0,aH (j:=0) rfl,rfl,oY,?_,dI.mk (by rw[aa];exact hn) ⟨?_,au,sm3.cB hN⟩⟩
   ·rw[aa,aa,aI];exact aG (by lia)
   ·rw[take_snoc (ac hnt),bz,hh,abm]
    rfl
  ·rintro ys H3 ⟨rfl,oY,sm3⟩
   refine⟨N,_,rfl,aW.of oY,?_⟩;rw[aa,hal,bX,all_map];exact q H3 sm3
theorem Vr (D:aK K mg "is_down" vQ ["laying"])(fX:mg "all"=none):bT P w K mg base "is_down" 1 ["laying"] Tg:=by
 refine D.dM Vb (λvs H Q E h=>?_) (λf bL A outer s H vs Q E hr h=>?_)
 ·obtain⟨t,as,ts,rfl,_⟩:=h
  rfl
 ·obtain⟨t,as,ts,rfl,ht,hL,h0,h7,q⟩:=h
  have hal:=hL.len;have hh:=iY h0;refine⟨_,(aF (bf (aN (jL rfl) (by rfl) fX jC (aj (fL (ns:=["row","column","sign"]) rfl (fD.of ["laying"] [] (by kernel_rfl)) (dY (qv 0)) (λ_ _ _ _ _=>(oR K rfl (show (["row","column","sign","laying"]:List Str).Nodup by decide +kernel) rfl rfl rfl (by rfl) (by rfl) (by rfl))) (λ_ _ _ _ _=>cU) (λ_ _ _ _ _=>(d_ iJ (qv 1) (aQ (mW K) (aQ (mW K) (qv 3) aD (λ_ _=>rfl)) aD (λ_ _=>rfl)) (bw _)))) aq)))),?_⟩;refine⟨_,rfl,t,rfl,⟨_,aP.of ht⟩,λN hN=>jD (K:=K) (KT:=K) (a:=t) (f:=eG [] 0) (tt:=gC) (xs:=as.map V.ref) (λn ys H3=>ys=((ts.take n).map λt=>decide (t.2.1=(ts.headD (0,0,0)).2.1)).map V.bl/\H3 N=some (.lst ys)/\aA H H3)
   ⟨rfl,au,aA.upd hN⟩ (λn ys H3 _ h=>aP.of (h.2.2 _ _ ht)) ?_ ?_⟩
  ·rintro n x ys H3 hx ⟨rfl,oY,sm3⟩
   have hn:n < as.length:=by have:=(af.mp hx).1;simpa using this
   have hnt:n < ts.length:=by lia
   rw[a7,ac hn]at hx;have hx:V.ref as[n]=x:=aw hx;obtain⟨_,en⟩:=gH (hL.mv sm3) hnt;obtain⟨g0,e0⟩:=gH (hL.mv sm3) h0;refine vI hx.symm (aP.of en) ?_;refine⟨_,rfl,_,rfl,t,_,_,.ref as[0],rfl,rfl,aP.of (sm3 _ _ ht),aH (j:=0) (by simp[g0]),as[0],_,_,_,rfl,rfl,aP.of e0,aH (j:=1) rfl,rfl,oY,?_,dI.mk (by rw[aa];exact hn) ⟨?_,au,sm3.cB hN⟩⟩
   ·rw[aa,aa,aI];exact aG (by lia)
   ·rw[take_snoc (ac hnt),bz,hh,abm]
    rfl
  ·rintro ys H3 ⟨rfl,oY,sm3⟩
   refine⟨N,_,rfl,aW.of oY,?_⟩;rw[aa,hal,bX,all_map];exact q H3 sm3
abbrev IL2:=dB (λq:Int × Int=>[V.int q.1,V.int q.2])
def around (i j:Int):List (Int × Int):=[(i-1,j),(i+1,j),(i,j-1),(i,j+1)]
def u6 (ak:AA)(r w:Nat)(p:Int × Int):Bool:=!decide ([atC ak r w p.1 p.2]=[46])
def gY (ak:AA)(r w:Nat)(i j:Int):Bool:=(around i j).any (u6 ak r w)
theorem any_map {α:Type}(l:List α)(f:α->Bool):((l.map f).any id)=l.any f:=by induction l with | nil=>rfl | cons a l ih=>simp[ih]
def Py (C:Addr):Sp:=λvs H Q _=>∃(b:Addr) (r w:Nat) (ak aO:AA) (bi bj:Nat) (i j:Int),vs=[.ref b,.int i,.int j]/\dZ C H b r w ak aO bi bj/\∀H',aA H H'->Q (.bl (gY ak r w i j)) H'
theorem M4 {C f1:Addr}{iT:FuncData}(D:aK K mg "is_next_to_taken" jF ["board","row","column"])(wB:mg "any"=none)(fG:∃t,mg "FREE"=some (.str (S [46]) t))(fP:gb K C)(pP:Meth K C "at" f1)(pQ:cM P w K mg base fU 3 f1 iT ["self","row","column"] (Vl C))(pR:cJ K iT ["self","row","column"] []) :
  bT P w K mg base "is_next_to_taken" 5 ["board","row","column"] (Py C):=by
 refine D.dM lJ (λvs H Q E h=>?_) (λf bL A outer s H vs Q E hr h=>?_)
 ·obtain⟨b,r,w,ak,aO,bi,bj,i,j,rfl,_⟩:=h
  rfl
 ·obtain⟨b,r,w,ak,aO,bi,bj,i,j,rfl,BA,q⟩:=h
  refine⟨_,(aB (aU (i:=3) lJ.nd rfl (Or.inl rfl) (cQ (aj (cQ (aj (bx iC (qv 1) aD) (aj (qv 2) aq))) (aj (cQ (aj (bx dU (qv 1) aD) (aj (qv 2) aq))) (aj (cQ (aj (qv 1) (aj (bx iC (qv 2) aD) aq))) (aj (cQ (aj (qv 1) (aj (bx dU (qv 2) aD) aq))) aq)))))) (aF (bf (aN (Ot rfl) (by rfl) wB K4 (aj (jx rfl (iZ.of lJ.nd (by kernel_rfl)) (dY (qv 3)) (λ_ _ _ _ _=>cU) (λ_ _ _ _ _=>(d_ nJ (qu (qv 1) fP.cl pP pQ hr.mono pR .nil kj (aj (aQ (mW K) (qv 0) aD (λ_ _=>rfl)) (aj (aQ (mW K) (qv 0) aD (λ_ _=>rfl)) aq))) (tG (by rfl) fG) (bw _)))) aq))))),?_⟩;refine⟨_,rfl,_,_,rfl,rfl,_,rfl,zsz 2,λg1 h1=>⟨_,rfl,_,_,rfl,rfl,_,rfl,zsz 2,λg2 h2=>⟨_,rfl,_,rfl,_,_,rfl,rfl,zsz 2,λg3 h3=>⟨_,rfl,_,rfl,_,_,rfl,rfl,zsz 2,λg4 h4=>⟨zsz 4,λA hA=>?_⟩⟩⟩⟩⟩;dsimp only at h1 h2 h3 h4 hA ⊢;have k1:aA H (upd H g1 (HO.tup [.int (i-1),.int j])):=aA.upd h1;have e1:upd H g1 (HO.tup [.int (i-1),.int j]) g1=some (.tup [.int (i-1),.int j]):=au;generalize upd H g1 (HO.tup [.int (i-1),.int j])=H1 at k1 e1 h2 h3 h4 hA ⊢;have k2:aA H1 (upd H1 g2 (HO.tup [.int (i+1),.int j])):=aA.upd h2;have e2:upd H1 g2 (HO.tup [.int (i+1),.int j]) g2=some (.tup [.int (i+1),.int j]):=au;generalize upd H1 g2 (HO.tup [.int (i+1),.int j])=H2 at k2 e2 h3 h4 hA ⊢;have k3:aA H2 (upd H2 g3 (HO.tup [.int i,.int (j-1)])):=aA.upd h3;have e3:upd H2 g3 (HO.tup [.int i,.int (j-1)]) g3=some (.tup [.int i,.int (j-1)]):=au;generalize upd H2 g3 (HO.tup [.int i,.int (j-1)])=H3 at k3 e3 h4 hA ⊢;have k4:aA H3 (upd H3 g4 (HO.tup [.int i,.int (j+1)])):=aA.upd h4;have e4:upd H3 g4 (HO.tup [.int i,.int (j+1)]) g4=some (.tup [.int i,.int (j+1)]):=au;generalize upd H3 g4 (HO.tup [.int i,.int (j+1)])=H4 at k4 e4 hA ⊢;have k5:aA H4 (upd H4 A (HO.tup [.ref g1,.ref g2,.ref g3,.ref g4])):=aA.upd hA;have e5:upd H4 A (HO.tup [.ref g1,.ref g2,.ref g3,.ref g4]) A=some (.tup ([g1,g2,g3,g4].map V.ref)):=au;have il:IL2 H4 [g1,g2,g3,g4] (around i j):=((dB.one (x:=(i-1,j)) (k4 _ _ (k3 _ _ (k2 _ _ e1)))).app (dB.one (x:=(i+1,j)) (k4 _ _ (k3 _ _ e2)))).app ((dB.one (x:=(i,j-1)) (k4 _ _ e3)).app (dB.one (x:=(i,j+1)) e4));have s5:=(((k1.trans k2).trans k3).trans k4).trans k5;have il5:=il.mv k5;generalize upd H4 A (HO.tup [.ref g1,.ref g2,.ref g3,.ref g4])=H5 at k5 e5 s5 il5 ⊢;have BA5:=BA.mv s5;refine⟨_,rfl,A,rfl,⟨_,aP.of e5⟩,λN hN=>uJ (xs:=[g1,g2,g3,g4].map V.ref) (λn ys H6=>ys=(((around i j).take n).map (u6 ak r w)).map V.bl/\H6 N=some (.lst ys)/\aA H5 H6)
   ⟨rfl,au,aA.upd hN⟩ (λn ys H6 _ h=>aP.of (h.2.2 _ _ e5)) ?_ ?_⟩
  ·rintro n x ys H6 hx ⟨rfl,Cq,rK⟩
   have hn:n < [g1,g2,g3,g4].length:=by have:=(af.mp hx).1;simpa using this
   have hn4:n < 4:=hn;rw[a7,ac hn]at hx;have hx:V.ref [g1,g2,g3,g4][n]=x:=aw hx;subst hx;obtain⟨u,eu,hu⟩:=(il5.mv rK).get hn;have BA6:=BA5.mv rK;obtain⟨dx,_,_,_,ex,_⟩:=id BA6.ex;refine⟨_,rfl,b,dx,_,rfl,ex,rfl,_,rfl,_,_,_,_,rfl,rfl,aP.of hu,aH (j:=0) rfl,_,rfl,_,_,_,_,rfl,rfl,aP.of hu,aH (j:=1) rfl,b,r,w,ak,aO,bi,bj,u.1,u.2,rfl,BA6,[_],[46],rfl,rfl,Cq,?_,dI.mk (by rw[aa];exact hn) ⟨?_,au,rK.cB hN⟩⟩
   ·rw[aa,aa,aI];exact aG (by lia)
   ·rw[take_snoc eu,bz];rfl
  ·rintro ys H6 ⟨rfl,Cq,rK⟩
   refine⟨N,_,rfl,aW.of Cq,?_⟩;rw[bg (by show 4<=4;decide),any_map];exact q H6 (s5.trans rK)
def IV:Sp:=λvs H Q _=>∃c:Nat,vs=[.str (S [c])]/\c < 128/\Q (.str (S ([c].map PyProof.Rows.lo1))) H
theorem Pz (D:aK K mg "letter_of" qP ["sign"]):bT P w K mg base "letter_of" 1 ["sign"] IV:=by
 refine D.dM Oz (λvs H Q E h=>?_) (λf bL A outer s H vs Q E hr h=>?_)
 ·obtain⟨c,rfl,_⟩:=h
  rfl
 ·obtain⟨c,rfl,hc,q⟩:=h
  refine⟨_,(aF (bf (rE bE ft fv yc (qv 0)))),?_⟩;exact⟨_,rfl,rfl,[c],rfl,rfl,by show 1<=1000;decide,λd hd=>by rw[ay.mp hd];exact hc,q⟩
theorem u9 {ak:AA}{r w i j:Nat}(hi:i < r)(hj:j < w):atC ak r w (i:Int) (j:Int)=cell ak i j:=by
 unfold atC cell;rw[if_pos ⟨by lia,by lia,by lia,by lia⟩,df,df]
def LR (ak:AA)(t:aV):Bool:=!decide ([cell ak t.1 t.2.1]=[46])
def j5 (ak:AA)(ts:List aV):Option aV:=ts.find? (LR ak)
def PB (C CT:Addr):Sp:=λvs H Q E=>∃(b t:Addr) (as:List Addr) (ts:List aV) (r w:Nat) (ak aO:AA) (bi bj:Nat),vs=[.ref b,.ref t]/\dZ C H b r w ak aO bi bj/\H t=some (.tup (as.map V.ref))/\cH H as ts/\(∀t∈ts,inB r w t)/\
 (∀u,j5 ak ts=some u->∀(dx:Addr) (H':Hp),aA H H'->H' dx=some (.ext (XD dx (Tf u.1 u.2.1)))->E (.ref CT) (some dx) H')/\
 (j5 ak ts=none->∀H',aA H H'->Q .non H')
theorem M5 {C CT f0 f1:Addr}{jt iT:FuncData}(D:aK K mg "check_free" pC ["board","laying"])(fG:∃t,mg "FREE"=some (.str (S [46]) t))(fP:gb K C)(pP:Meth K C "at" f1)(pQ:cM P w K mg base fU 3 f1 iT ["self","row","column"] (Vl C))(pR:cJ K iT ["self","row","column"] [])
  (T:nu K mg "Taken" CT f0 ["row","column"]) (adY:cM P w K mg base fU 1 f0 jt ["self","row","column"] (HW CT "row" "column")) (JV:cJ K jt ["self","row","column"] []):DefX P w K mg base "check_free" 5 ["board","laying"] (PB C CT):=by
 refine D.yS n8 (λvs H Q E h=>?_) (λf bL A outer s H vs Q E hr h=>?_)
 ·obtain⟨b,t,as,ts,r,w,ak,aO,bi,bj,rfl,_⟩:=h
  rfl
 ·obtain⟨b,t,as,ts,r,w,ak,aO,bi,bj,rfl,BA,ht,hL,bA,qE,q⟩:=h
  have adZ:=T.M;have Gk:=T.E_;have hal:=hL.len;refine⟨_,(aF (dX iF rfl (dY (qv 1)) (nO rfl (cD (bO (i:=2) n8.nd rfl (Or.inl rfl)) (cD (bO (i:=3) n8.nd rfl (Or.inl rfl)) (cD (bO (i:=4) n8.nd rfl (Or.inl rfl)) jW)))) (aF (cF (bD nJ (qu (qv 0) fP.cl pP pQ hr.mono pR .nil kj (aj (qv 2) (aj (qv 3) aq))) (tG (by rfl) fG) (bw _)) (aF (rG oU rfl adZ adY hr.mono (by rfl) Gk JV (aj (qv 2) (aj (qv 3) aq)))) bN)))),?_⟩;refine⟨_,rfl,t,rfl,⟨_,aP.of ht⟩,mO (K:=K) (a:=t) (xs:=as.map V.ref) (λn σ H'=>∃v2 v3 v4:Option V,σ=[some (.ref b),some (.ref t),v2,v3,v4]/\aA H H'/\∀x∈ts.take n,LR ak x=false)
   ⟨none,none,none,rfl,aA.refl _,λx hx=>by simp at hx⟩ (λn σ H' _ h=>by obtain⟨_,_,_,_,sm,_⟩:=h;exact aP.of (sm _ _ ht)) ?_ ?_⟩
  ·rintro n x σ H' hx ⟨v2,v3,v4,rfl,sm,hfr⟩
   have hn:n < as.length:=by have:=(af.mp hx).1;simpa using this
   have hnt:n < ts.length:=by lia
   rw[a7,ac hn]at hx;have hx:V.ref as[n]=x:=aw hx;subst hx;obtain⟨_,en⟩:=gH (hL.mv sm) hnt;obtain⟨c1,c2,_⟩:=bA _ (ah hnt);have BA':=BA.mv sm;obtain⟨dx0,_,_,_,ex,_⟩:=id BA'.ex;refine⟨as[n],_,rfl,aP.of en,rfl,_,_,rfl,_,_,rfl,_,_,rfl,rfl,?_⟩;refine⟨_,rfl,b,dx0,_,rfl,ex,rfl,_,rfl,_,rfl,b,r,w,ak,aO,bi,bj,_,_,rfl,BA',[_],[46],rfl,rfl,_,rfl,?_⟩;rw[u9 c1 c2];cases ht0:LR ak ts[n] with
   | true=>
    rw[show (!decide ([cell ak ts[n].1 ts[n].2.1]=[46]))=true from ht0];refine bM ⟨_,rfl,_,rfl,zsz 2,λa na=>⟨a,_,_,rfl,au,λdx ne nd=>?_⟩⟩;obtain⟨k0,k1,k2⟩:=LK (q:=.ext (gF a (.ref CT) (some dx))) (p:=.ext (XD dx [("row",.int ts[n].1)])) (p2:=.ext (XD dx (Tf ts[n].1 ts[n].2.1))) na ne nd;exact⟨rfl,some dx,k0,qE ts[n] (JR hnt hfr ht0) dx _ (sm.trans k1) k2⟩
   | false=>
    rw[show (!decide ([cell ak ts[n].1 ts[n].2.1]=[46]))=false from ht0];refine bB ⟨_,_,_,rfl,sm,λx hx=>?_⟩;rw[bu,ac hnt]at hx;rcases a8.mp hx with z | z
    ·exact hfr x z
    ·rw[ay.mp z];exact ht0
  ·rintro σ H' ⟨v2,v3,v4,rfl,sm,hfr⟩
   rw[aa,hal,bX]at hfr;exact q (JT hfr) H' sm
def Ti (CC:Addr):Sp:=λvs H Q E=>∃(t:Addr) (as:List Addr) (ts:List aV),vs=[.ref t]/\H t=some (.tup (as.map V.ref))/\cH H as ts/\0 < ts.length/\ts.length<=7/\
 ((gA ts||gW ts)=false->∀H',aA H H'->E (.ref CC) none H')/\((gA ts||gW ts)=true->∀H',aA H H'->Q .non H')
theorem Ey {CC:Addr}(D:aK K mg "check_straight" kY ["laying"])(zy:mg "Crooked"=some (.ref CC))(YK:W.excIn K CC jc "ValueError.__new__"=true)
  (wW:bT P w K mg base "is_across" 1 ["laying"] LQ) (YL:bT P w K mg base "is_down" 1 ["laying"] Tg):DefX P w K mg base "check_straight" 3 ["laying"] (Ti CC):=by
 refine D.yS Ew (λvs H Q E h=>?_) (λf bL A outer s H vs Q E hr h=>?_)
 ·obtain⟨t,as,ts,rfl,_⟩:=h
  rfl
 ·obtain⟨t,as,ts,rfl,ht,hL,h0,h7,qE,q⟩:=h
  refine⟨_,(aF (cF (QW.qt (i_ (fB (dj (aX wW hr.mono rfl (aj (qv 0) aq)))) (jw (fB (dj (aX YL hr.mono rfl (aj (qv 0) aq))))))) (aF (FZ oU rfl rfl (by rfl) zy YK (aj (b_ [116,104,101,32,99,101,108,108,115,32,97,114,101,32,110,111,116,32,105,110,32,111,110,101,32,108,105,110,101] (by decide +kernel)) aq))) bN)),?_⟩;refine⟨_,rfl,t,as,ts,rfl,ht,hL,h0,h7,λH1 s1=>⟨_,rfl,?_⟩⟩;cases ha:gA ts with
  | true=>exact bB (bB (q (by rw[ha];rfl) H1 s1))
  | false=>
   refine bM ⟨_,rfl,t,as,ts,rfl,s1 _ _ ht,hL.mv s1,h0,h7,λH2 s2=>⟨_,rfl,?_⟩⟩;cases hd:gW ts with
   | true=>exact bB (q (by rw[ha,hd];rfl) H2 (s1.trans s2))
   | false=>exact bM ⟨zsz 1,qE (by rw[ha,hd];rfl) H2 (s1.trans s2)⟩
structure Nq (R:AA)(a b c d i j:Nat):Prop where
 i1:a<=i
 i2:i<=b
 j1:c<=j
 j2:j<=d
 fr:cell R i j=46
 up:∀i' j',a<=i'->i' < i->c<=j'->j'<=d->cell R i' j'≠46
 le:∀j',c<=j'->j' < j->cell R i j'≠46
def lR (R:AA)(a b c d:Nat):Prop:=∀i j,a<=i->i<=b->c<=j->j<=d->cell R i j≠46
def dg (ts:List aV):aV:=ts.getLastD (0,0,0)
def d8 (ts:List aV):aV:=ts.headD (0,0,0)
theorem u_ {ts:List aV}(h:0 < ts.length):dg ts=ts[ts.length-1]:=by
 unfold dg;rw[List.getLastD_eq_getLast?,mr,ac (by lia)];rfl
def PJ (C CG:Addr):Sp:=λvs H Q E=>∃(b t:Addr) (as:List Addr) (ts:List aV) (r w:Nat) (ak aO:AA) (bi bj:Nat),vs=[.ref b,.ref t]/\dZ C H b r w ak aO bi bj/\H t=some (.tup (as.map V.ref))/\cH H as ts/\(∀t∈ts,inB r w t)/\0 < ts.length/\
 (∀i j,Nq (bQ ak ts) (d8 ts).1 (dg ts).1 (d8 ts).2.1 (dg ts).2.1 i j->∀(dx:Addr) (H':Hp),aA H H'->H' dx=some (.ext (XD dx (Tf i j)))->E (.ref CG) (some dx) H')/\
 (lR (bQ ak ts) (d8 ts).1 (dg ts).1 (d8 ts).2.1 (dg ts).2.1->∀H',aA H H'->Q .non H')
theorem M6 {C CG f0 f1 f2:Addr}{jt iT fd2:FuncData}(D:aK K mg "check_gaps" pD ["board","laying"])(cV:mg "range"=none)(fG:∃t,mg "FREE"=some (.str (S [46]) t))(fP:gb K C)(pP:Meth K C "at" f1)(pQ:cM P w K mg base fU 3 f1 iT ["self","row","column"] (Vl C))(pR:cJ K iT ["self","row","column"] [])
  (uY:Meth K C "laid" f2) (uZ:cM P w K mg base fU 8 f2 fd2 ["self","laying"] (O_ C)) (u0:cJ K fd2 ["self","laying"] [])
  (T:nu K mg "Gap" CG f0 ["row","column"]) (ahv:cM P w K mg base fU 1 f0 jt ["self","row","column"] (HW CG "row" "column")) (Vs:cJ K jt ["self","row","column"] []):DefX P w K mg base "check_gaps" 10 ["board","laying"] (PJ C CG):=by
 refine D.yS n_ (λvs H Q E h=>?_) (λf bL A outer s H vs Q E hr h=>?_)
 ·obtain⟨b,t,as,ts,r,w,ak,aO,bi,bj,rfl,_⟩:=h
  rfl
 ·obtain⟨b,t,as,ts,r,w,ak,aO,bi,bj,rfl,BA,ht,hL,bA,h0,qE,q⟩:=h
  have ahw:=T.M;have PK:=T.E_;have hal:=hL.len;have r9:=BA.ok.r9;have w9:=BA.ok.w9;obtain⟨dx,_,_,_,ex,_⟩:=id BA.ex;refine⟨_,(aB (aU (i:=2) n_.nd rfl (Or.inl rfl) (qu (qv 0) fP.cl uY uZ hr.mono u0 .nil kj (aj (qv 1) aq))) (aF (dX iF rfl (vH (by rfl) cV (aj (aQ bh (aQ bh (qv 1) aD (λ_ _=>rfl)) aD (λ_ _=>rfl)) (aj (bx dU (aQ bh (aQ bh (qv 1) (yP uy aD) (λ_ _=>rfl)) aD (λ_ _=>rfl)) aD) aq))) (bO (i:=3) n_.nd rfl (Or.inl rfl)) (aF (dX iF rfl (vH (by rfl) cV (aj (aQ bh (aQ bh (qv 1) aD (λ_ _=>rfl)) aD (λ_ _=>rfl)) (aj (bx dU (aQ bh (aQ bh (qv 1) (yP uy aD) (λ_ _=>rfl)) aD (λ_ _=>rfl)) aD) aq))) (bO (i:=4) n_.nd rfl (Or.inl rfl)) (aF (cF (bD xX (qu (qv 2) fP.cl pP pQ hr.mono pR .nil kj (aj (qv 3) (aj (qv 4) aq))) (tG (by rfl) fG) (bw _)) (aF (rG oU rfl ahw ahv hr.mono (by rfl) PK Vs (aj (qv 3) (aj (qv 4) aq)))) bN))))))),?_⟩;refine⟨_,rfl,b,dx,_,rfl,ex,rfl,_,rfl,b,t,as,ts,r,w,ak,aO,bi,bj,rfl,BA,ht,hL,bA,λx1 H1 s1 B1=>?_⟩;rw[show d8 ts=ts[0] from iY h0,u_ h0]at qE q;obtain⟨a1,a2,_⟩:=bA _ (ah h0);obtain⟨l1,l2,_⟩:=bA _ (ah (show ts.length-1 < ts.length by lia));have hL1:=hL.mv s1;have ht1:=s1 _ _ ht;obtain⟨g0,e0⟩:=gH hL1 h0;obtain⟨gl,el⟩:=gH hL1 (show ts.length-1 < ts.length by lia);have eal:as.length-1=ts.length-1:=by lia
  have wj:oM (as.map V.ref) (-1)=some (.ref as[ts.length-1]):=by
   rw[JN (show 0 < as.length by lia)];simp only[eal]
  generalize hR:bQ ak ts=R at B1 qE q;generalize ef:ts[0]=ff at e0 qE q a1 a2;generalize eg:ts[ts.length-1]=ll at el qE q l1 l2;refine⟨_,rfl,t,_,_,.ref as[0],rfl,rfl,aP.of ht1,aH (j:=0) (by simp[g0]),as[0],_,_,_,rfl,rfl,aP.of e0,aH (j:=0) rfl,_,rfl,_,rfl,t,_,_,.ref as[ts.length-1],rfl,rfl,aP.of ht1,wj,as[ts.length-1],_,_,_,rfl,rfl,aP.of el,aH (j:=0) rfl,_,_,rfl,rfl,(ff.1:Int),(ll.1:Int)+1,rfl,⟨by lia,by lia,by lia,by lia⟩,?_⟩;refine iB (lo:=(ff.1:Int)) (λn σ H'=>∃v3 v4:Option V,σ=[some (.ref b),some (.ref t),some (.ref x1),v3,v4]/\aA H1 H'/\∀i j,ff.1<=i->i < ff.1+n->ff.2.1<=j->j<=ll.2.1->cell R i j≠46)
   ⟨none,none,rfl,aA.refl _,λi j z1 z2=>by lia⟩ ?_ ?_
  ·rintro n σ H' hn ⟨v3,v4,rfl,sm,hup⟩
   have hn2:ff.1+n<=ll.1:=by lia
   have en:(ff.1:Int)+(n:Int)=((ff.1+n:Nat):Int):=by lia
   rw[en];have uU:=sm _ _ ht1;have e02:=sm _ _ e0;have el2:=sm _ _ el;refine⟨_,rfl,t,_,_,.ref as[0],rfl,rfl,aP.of uU,aH (j:=0) (by simp[g0]),as[0],_,_,_,rfl,rfl,aP.of e02,aH (j:=1) rfl,_,rfl,_,rfl,t,_,_,.ref as[ts.length-1],rfl,rfl,aP.of uU,wj,as[ts.length-1],_,_,_,rfl,rfl,aP.of el2,aH (j:=1) rfl,_,_,rfl,rfl,(ff.2.1:Int),(ll.2.1:Int)+1,rfl,⟨by lia,by lia,by lia,by lia⟩,?_⟩;refine iB (lo:=(ff.2.1:Int)) (λm σ H2=>∃v4:Option V,σ=[some (.ref b),some (.ref t),some (.ref x1),some (.int ((ff.1+n:Nat):Int)),v4]/\aA H1 H2/\∀j,ff.2.1<=j->j < ff.2.1+m->cell R (ff.1+n) j≠46)
    ⟨_,rfl,sm,λj z1 z2=>by lia⟩ ?_ ?_
   ·rintro m σ H2 hm ⟨v4,rfl,YM,hle⟩
    have hm2:ff.2.1+m<=ll.2.1:=by lia
    have em:(ff.2.1:Int)+(m:Int)=((ff.2.1+m:Nat):Int):=by lia
    rw[em];have B2:=B1.mv YM;obtain⟨dx1,_,_,_,ex1,_⟩:=id B2.ex;refine⟨_,rfl,x1,dx1,_,rfl,ex1,rfl,_,rfl,_,rfl,x1,r,w,R,aO,bi,bj,_,_,rfl,B2,[_],[46],rfl,rfl,_,rfl,?_⟩;rw[u9 (show ff.1+n < r by lia) (show ff.2.1+m < w by lia)];by_cases hc:cell R (ff.1+n) (ff.2.1+m)=46
    ·rw[am (show [cell R (ff.1+n) (ff.2.1+m)]=[46] by rw[hc])]
     refine bM ⟨_,rfl,_,rfl,zsz 2,λa na=>⟨a,_,_,rfl,au,λdx ne nd=>?_⟩⟩;obtain⟨k0,k1,k2⟩:=LK (q:=.ext (gF a (.ref CG) (some dx))) (p:=.ext (XD dx [("row",.int (ff.1+n:Nat))])) (p2:=.ext (XD dx (Tf (ff.1+n) (ff.2.1+m)))) na ne nd;exact⟨rfl,some dx,k0,qE _ _ ⟨by lia,hn2,by lia,hm2,hc,hup,hle⟩ dx _ ((s1.trans YM).trans k1) k2⟩
    ·rw[al (show ¬[cell R (ff.1+n) (ff.2.1+m)]=[46] from λz=>hc (by injection z))]
     refine bB ⟨_,rfl,YM,λj z1 z2=>?_⟩;by_cases z:j=ff.2.1+m
     ·rw[z];exact hc
     ·exact hle j z1 (by lia)
   ·rintro σ H2 ⟨v4,rfl,YM,hle⟩
    refine⟨_,_,rfl,YM,λi j z1 z2 z3 z4=>?_⟩;by_cases z:i=ff.1+n
    ·rw[z];exact hle j z3 (by lia)
    ·exact hup i j z1 (by lia) z3 z4
  ·rintro σ H' ⟨v3,v4,rfl,sm,hup⟩
   exact q (λi j z1 z2 z3 z4=>hup i j z1 (by lia) z3 z4) H' (s1.trans sm)
def fH (t:aV):Nat × Nat:=(t.1,t.2.1)
noncomputable def nU (ak:AA)(r w bi bj:Nat)(ts:List aV):Bool:=if isFree ak=true then decide ((bi,bj)∈ts.map fH) else ts.any λt=>gY ak r w t.1 t.2.1
theorem dW.YQ {H:Hp}:∀{cs:List Addr} {cc:List (Nat × Nat)},Pr H cs cc->dW K H 1 (cc.map λc=>Dt.tup [.int c.1,.int c.2]) (cs.map V.ref)
 | [],[],_=>.nil
 | [],_::_,h=>by have:=h.len;simp at this
 | _::_,[],h=>by have:=h.len;simp at this
 | a::cs,c::cc,h=>.cons (.tup (aP.of (h.at_ 0 a c rfl rfl)) (.cons (.int _) (.cons (.int _) .nil))) (dW.YQ ⟨by have:=h.len;simpa using this,λi a x h1 h2=>h.at_ (i+1) a x h1 h2⟩)
theorem yE {c:Nat × Nat}{cc:List (Nat × Nat)}:Dt.tup [.int c.1,.int c.2]∈(cc.map λc=>Dt.tup [.int (c.1:Int),.int (c.2:Int)])↔c∈cc:=by
 constructor
 ·intro h
  obtain⟨d,hd,e⟩:=aE.mp h;injection e with e;injection e with e1 e2;injection e1 with e1;injection e2 with e2;injection e2 with e2;have:d=c:=Prod.ext (ku e1) (ku e2);rw[<- this];exact hd
 ·intro h
  exact aE.mpr ⟨c,h,rfl⟩
def PL (C CA:Addr):Sp:=λvs H Q E=>∃(b t:Addr) (as:List Addr) (ts:List aV) (r w:Nat) (ak aO:AA) (bi bj:Nat),vs=[.ref b,.ref t]/\dZ C H b r w ak aO bi bj/\H t=some (.tup (as.map V.ref))/\cH H as ts/\ts.length<=7/\
 (nU ak r w bi bj ts=false->∀H',aA H H'->E (.ref CA) none H')/\(nU ak r w bi bj ts=true->∀H',aA H H'->Q .non H')
open Classical in
theorem IW {C CA f1:Addr}{iT:FuncData}(D:aK K mg "check_joined" mY ["board","laying"])(wB:mg "any"=none)(fP:gb K C)(I_:Meth K C "is_free" f1)(Ja:cM P w K mg base fU 1 f1 iT ["self"] (Yv C))(Jb:cJ K iT ["self"] [])
  (Gm:mg "Apart"=some (.ref CA)) (ad0:W.excIn K CA jc "ValueError.__new__"=true) (zx:bT P w K mg base "cells_of" 1 ["laying"] Ck) (Cr:bT P w K mg base "is_next_to_taken" 5 ["board","row","column"] (Py C)):DefX P w K mg base "check_joined" 7 ["board","laying"] (PL C CA):=by
 refine D.yS pF (λvs H Q E h=>?_) (λf bL A outer s H vs Q E hr h=>?_)
 ·obtain⟨b,t,as,ts,r,w,ak,aO,bi,bj,rfl,_⟩:=h
  rfl
 ·obtain⟨b,t,as,ts,r,w,ak,aO,bi,bj,rfl,BA,ht,hL,h7,qE,q⟩:=h
  have hal:=hL.len;obtain⟨dx,pr,pm,pb,ex,_,_,hpb⟩:=id BA.ex;refine⟨_,(aB (gD (cF (dj (FQ (qv 0) fP.cl I_ Ja hr.mono Jb .nil kj)) (aF (aU (i:=2) pF.nd rfl (Or.inl rfl) (d_ (SJ hr.units) (iD (qv 0) rfl) (aX zx hr.mono rfl (aj (qv 1) aq)) rfl))) (aF (aU (i:=2) pF.nd rfl (Or.inl rfl) (aN (Ot rfl) (by rfl) wB K4 (aj (fL (ns:=["row","column","sign"]) rfl (fD.of ["board","laying","joined"] [] (by kernel_rfl)) (dY (qv 1)) (λ_ _ _ _ _=>(oR K rfl (show (["row","column","sign","board","laying","joined"]:List Str).Nodup by decide +kernel) rfl rfl rfl (by rfl) (by rfl) (by rfl))) (λ_ _ _ _ _=>cU) (λ_ _ _ _ _=>(aX Cr hr.mono rfl (aj (qv 3) (aj (qv 0) (aj (qv 1) aq)))))) aq)))))) (aF (cF (fB (dj (qv 2))) (aF (FZ oU rfl rfl (by rfl) Gm ad0 (aj (b_ [116,104,101,32,108,97,121,105,110,103,32,105,115,32,106,111,105,110,101,100,32,116,111,32,110,111,116,104,105,110,103] (by decide +kernel)) aq))) bN))),?_⟩;refine⟨λσ H'=>aA H H'/\σ=[some (.ref b),some (.ref t),some (.bl (nU ak r w bi bj ts))],?_,?_⟩
  ·refine⟨_,rfl,b,dx,_,rfl,ex,rfl,b,r,w,ak,aO,bi,bj,rfl,BA,λH1 s1=>⟨_,rfl,?_⟩⟩
   cases hf:isFree ak with
   | true=>
    refine bM ⟨_,rfl,b,C,dx,_,_,rfl,s1 _ _ ex,fP.cl,fP.nb,rfl,_,rfl,t,as,ts,rfl,s1 _ _ ht,hL.mv s1,by lia,λLc cs H2 s2 hLc hcs=>?_⟩;have aib:=s2 _ _ (s1 _ _ hpb);refine⟨2,.tup [.int bi,.int bj],(ts.map fH).map λc=>Dt.tup [.int c.1,.int c.2],by decide,.tup (aP.of aib) (.cons (.int _) (.cons (.int _) .nil)),.lst (aW.of hLc) (dW.YQ hcs),?_⟩;refine⟨s1.trans s2,?_⟩;have e:nU ak r w bi bj ts=decide ((bi,bj)∈ts.map fH):=by unfold nU;rw[if_pos hf]
    rw[e];simp only[cE,if_false];by_cases hm:(bi,bj)∈ts.map fH
    ·rw[am hm,am (yE (c:=(bi,bj)).mpr hm)];rfl
    ·rw[al hm,al (λz=>hm (yE (c:=(bi,bj)).mp z))];rfl
   | false=>
    refine bB ⟨_,rfl,t,rfl,⟨_,aP.of (s1 _ _ ht)⟩,λN hN=>jD (K:=K) (KT:=K) (a:=t) (f:=eG [] 0) (tt:=gC) (xs:=as.map V.ref) (λn ys H3=>ys=((ts.take n).map λt=>gY ak r w t.1 t.2.1).map V.bl/\H3 N=some (.lst ys)/\aA H1 H3)
     ⟨rfl,au,aA.upd hN⟩ (λn ys H3 _ h=>aP.of (h.2.2 _ _ (s1 _ _ ht))) ?_ ?_⟩
    ·rintro n x ys H3 hx ⟨rfl,oY,sm3⟩
     have hn:n < as.length:=by have:=(af.mp hx).1;simpa using this
     have hnt:n < ts.length:=by lia
     rw[a7,ac hn]at hx;have hx:V.ref as[n]=x:=aw hx;have yD:=s1.trans sm3;obtain⟨_,en⟩:=gH (hL.mv yD) hnt;refine vI hx.symm (aP.of en) ?_;refine⟨_,rfl,_,rfl,_,rfl,b,r,w,ak,aO,bi,bj,_,_,rfl,BA.mv yD,λH4 s4=>⟨s4 _ _ oY,?_,dI.mk (by rw[aa];exact hn) ⟨?_,au,(sm3.trans s4).cB hN⟩⟩⟩
     ·rw[aa,aa,aI];exact aG (by lia)
     ·rw[take_snoc (ac hnt),bz];rfl
    ·rintro ys H3 ⟨rfl,oY,sm3⟩
     refine⟨N,_,rfl,aW.of oY,s1.trans sm3,?_⟩;rw[aa,hal,bX,any_map];have e:nU ak r w bi bj ts=ts.any λt=>gY ak r w t.1 t.2.1:=by unfold nU;rw[if_neg (by rw[hf];decide)]
     rw[e];rfl
  ·rintro σ H' ⟨sm,rfl⟩
   refine⟨_,rfl,_,rfl,?_⟩;cases hj:nU ak r w bi bj ts with
   | true=>exact bB (q hj H' sm)
   | false=>exact bM ⟨zsz 1,qE hj H' sm⟩
structure pU (w:List Nat):Prop where
 lo:2<=w.length
 hi:w.length<=9
 az:∀c∈w,isLet c
def PN:Sp:=λvs H Q _=>∃l:List Nat,vs=[.str (S l)]/\pU l/\∀H',aA H H'->Q (.bl true) H'
theorem agq {c:Nat}(h:isLet c):decide ([c] < [97])=false/\decide ([122] < [c])=false:=by
 have hlt:∀a b:Nat,([a] < [b])↔a < b:=λa b=>by simp[iP]
 constructor
 ·rw[al];rw[hlt];have:=h.1;lia
 ·rw[al];rw[hlt];have:=h.2;lia
theorem Vt (D:aK K mg "is_word" vR ["text"])(bY:mg "len"=none)(hall:mg "all"=none):bT P w K mg base "is_word" 1 ["text"] PN:=by
 refine D.dM Ia (λvs H Q E h=>?_) (λf bL A outer s H vs Q E hr h=>?_)
 ·obtain⟨l,rfl,_⟩:=h
  rfl
 ·obtain⟨l,rfl,hw,q⟩:=h
  have h1:=hw.lo;have h2:=hw.hi;have hz:l.length<=sizeLine:=aT (aG (by lia));refine⟨_,aF (bf (nP (kE lK lK aD (aN cI (by rfl) bY aS (aj (qv 0) aq)) aD)
   (lW (aN (jL rfl) (by rfl) hall (by decide +kernel) (aj (jx rfl (iZ.of Ia.nd (by kernel_rfl)) (uH (qv 0)) (λ_ _ _ _ _=>cU)
    (λ_ _ _ _ _=>kE rF rF (b_ [97] (by decide +kernel)) (qv 0) (b_ [122] (by decide +kernel)))) aq))))),?_⟩
  refine⟨_,rfl,l,rfl,hz,_,_,rfl,rfl,true,(by simp;lia),?_⟩;refine bM ⟨_,_,rfl,rfl,true,(by simp;lia),?_⟩;refine bM ?_;refine⟨_,rfl,l,rfl,λL hL=>uI (λi ys H2=>ys=(List.replicate i true).map V.bl/\H2 L=some (.lst ys)/\aA H H2) ⟨rfl,au,aA.upd hL⟩ ?_ ?_⟩
  ·rintro i c ys H2 hi ⟨rfl,hL2,sm⟩
   have hil:i < l.length:=(af.mp hi).1;obtain⟨a1,a2⟩:=agq (hw.az c (be hi));refine⟨_,rfl,[97],[c],rfl,rfl,true,by rw[a1];rfl,bM ⟨[c],[122],rfl,rfl,hL2,?_,dI.mk hil ⟨?_,au,sm.cB hL⟩⟩⟩
   ·rw[aa,ck];exact aG (by lia)
   ·rw[a2,List.replicate_succ',bz];rfl
  ·rintro ys H2 ⟨rfl,hL2,sm⟩
   refine⟨L,List.replicate l.length true,rfl,aW.of hL2,?_⟩;have e:(List.replicate l.length true).all id=true:=by simp
   rw[e];exact q H2 sm
def Tj:Sp:=λvs H Q _=>∃l:List Nat,vs=[.str (S l)]/\pU l/\∀H',aA H H'->Q .non H'
theorem M7 (D:aK K mg "check_word" pG ["text"])(D1:bT P w K mg base "is_word" 1 ["text"] PN):bT P w K mg base "check_word" 2 ["text"] Tj:=by
 refine D.dM Mz (λvs H Q E h=>?_) (λf bL A outer s H vs Q E hr h=>?_)
 ·obtain⟨l,rfl,_⟩:=h
  rfl
 ·obtain⟨l,rfl,hw,q⟩:=h
  refine⟨_,aF (cF (fB (dj (aX D1 hr rfl (aj (qv 0) aq)))) KY bN),?_⟩;refine⟨_,rfl,l,rfl,hw,λH1 s1=>⟨true,rfl,?_⟩⟩;exact bB (q H1 s1)
structure yF (K:W.Frag)(C:Addr):Prop where
 cl:Cls K C
 nh:nG K C "held"
def pW (ws:AA):List (Key × V):=ws.map λl=>(lH l,V.bl true)
theorem abn {a b:List Nat}(h:lH a=lH b):a=b:=Ni (Sum.inr.inj h)
theorem JW (ws:AA)(l:List Nat):kh (pW ws) (lH l)=if l∈ws then some (.bl true) else none:=by
 induction ws with
 | nil=>simp[pW,kh]
 | cons a r ih=>
  by_cases e:a=l
  ·subst e
   have:kh (pW (a::r)) (lH a)=some (.bl true):=uD (p:=(lH a,V.bl true)) rfl;rw[this];simp
  ·have:kh (pW (a::r)) (lH l)=kh (pW r) (lH l):=uE (p:=(lH a,V.bl true)) λz=>e (abn z)
   rw[this,ih];have e':¬l=a:=λz=>e z.symm;simp[e']
theorem ad1 {ws:AA}{l:List Nat}(h:l∈ws):putK (pW ws) (lH l) (.bl true)=pW ws:=by
 have hany:((pW ws).any λkv=>decide (kv.1=lH l))=true:=by rw[yL,JW,if_pos h];rfl
 unfold putK;rw[if_pos hany];refine(eQ λkv hkv=>?_).trans (List.map_id _);obtain⟨a,_,rfl⟩:=aE.mp hkv;by_cases e:lH a=lH l
 ·simp[e]
 ·simp[e]
theorem ad2 {ws:AA}{l:List Nat}(h:l∉ws):putK (pW ws) (lH l) (.bl true)=pW (ws++[l]):=by
 rw[aaA _ (by rw[JW,if_neg h])];simp[pW]
structure rM (C:Addr)(H:Hp)(p d:Addr)(ws:AA):Prop where
 ob:∃dx,H p=some (.ins C dx [("held",.ref d)])
 dc:H d=some (.dK (pW ws))
 nd:ws.Nodup
 az:∀l∈ws,pU l
def wX (ws:AA)(l:List Nat):List (List Nat):=if l∈ws then ws else ws++[l]
theorem PX (ws:AA)(l:List Nat):putK (pW ws) (lH l) (.bl true)=pW (wX ws l):=by
 unfold wX
 split
 ·rename_i h;exact ad1 h
 ·rename_i h;exact ad2 h
theorem Tn {ws:AA}{l:List Nat}(h:ws.Nodup):(wX ws l).Nodup:=by
 unfold wX
 split
 ·exact h
 ·rename_i hl;exact R7 h hl
theorem P0 {ws:AA}{l x:List Nat}:x∈wX ws l↔x∈ws\/x=l:=by
 unfold wX
 split
 ·rename_i h;exact⟨.inl,λz=>z.elim id λe=>e ▸ h⟩
 ·simp
theorem P_ (ws:AA)(l:List Nat):(wX ws l).length<=ws.length+1:=by
 unfold wX
 split
 ·lia
 ·simp
def ahx (K:W.Frag)(H:Hp)(a:Addr)(ls:AA):Prop:=aW K H a (Ts ls)\/aP K H a (Ts ls)
def YS (K:W.Frag)(C:Addr):Sp:=λvs H Q _=>∃(p dx a:Addr) (ls:AA),vs=[.ref p,.ref a]/\H p=some (.ins C dx [])/\ahx K H a ls/\(∀l∈ls,pU l)/\ls.length<=200/\
 ∀(d:Addr) (ws:AA) (H':Hp),H d=none->rM C H' p d ws->(∀x,x∈ws↔x∈ls)->ws.length<=ls.length->(∀b o,H b=some o->b≠p->H' b=some o)->Q .non H'
theorem ad3 {f C:Addr}{fd:FuncData}(F:gQ K "__init__" "Book.__init__" jO f fd)(T:yF K C)(D1:bT P w K mg base "check_word" 2 ["text"] Tj):cM P w K mg base fU 3 f fd ["self","words"] (YS K C):=by
 refine F.dM BP (λvs H Q E h=>?_) (λbL A outer s H vs Q E hr h=>?_)
 ·obtain⟨p,dx,a,ls,rfl,_⟩:=h
  rfl
 ·obtain⟨p,dx,a,ls,rfl,hp,hS,hW,hn,k⟩:=h
  have hu:=Uw hr;have nd:=BP.nd;refine⟨_,aB (Hw (qv 0) aaH rfl) (aF (dX bS rfl ((gK (qv 1)).or (dY (qv 1))) (bO (i:=2) nd rfl (Or.inl rfl))
   (aB (dO (aX D1 hr rfl (aj (qv 2) aq))) (aF (Sh hu (iD (qv 0) rfl) (qv 2) jB rfl))))),?_⟩
  intro d hd;have npd:p≠d:=bJ hp hd;refine⟨_,rfl,p,C,dx,[],rfl,(by rw[aM npd];exact hp),T.cl,T.nh,(by show 0 < 1000;decide),?_⟩;have hP1:upd (upd H d (HO.dK [])) p (HO.ins C dx (iU "held" (V.ref d) [])) p=some (.ins C dx [("held",.ref d)]):=au;have hD1:upd (upd H d (HO.dK [])) p (HO.ins C dx (iU "held" (V.ref d) [])) d=some (.dK (pW [])):=by rw[aM npd.symm,au];rfl
  have YT:∀b o,H b=some o->b≠p->upd (upd H d (HO.dK [])) p (HO.ins C dx (iU "held" (V.ref d) [])) b=some o:=λb o e hb=>by rw[aM hb,aM (bJ e hd)];exact e
  generalize upd (upd H d (HO.dK [])) p (HO.ins C dx (iU "held" (V.ref d) []))=H1 at hP1 hD1 YT ⊢;have npl:∀o,H p=some o->(∀ys,o≠.lst ys)/\∀u ys,o≠.nC u (.lst ys):=λo e=>by
   rw[hp]at e;cases e;exact⟨λ_ z=>(nomatch z),λ_ _ z=>(nomatch z)⟩
  have npt:∀o,H p=some o->(∀ys,o≠.tup ys)/\∀u ys,o≠.nC u (.tup ys):=λo e=>by
   rw[hp]at e;cases e;exact⟨λ_ z=>(nomatch z),λ_ _ z=>(nomatch z)⟩
  rcases hS with hS | hS
  ·refine .inl ⟨_,rfl,a,rfl,⟨_,hS.keep YT npl⟩,oA (K:=K) (a:=a) (xs:=Ts ls) (λi σ H2=>∃(v2:Option V) (ws:AA),σ=[some (.ref p),some (.ref a),v2]/\H2 p=some (.ins C dx [("held",.ref d)])/\H2 d=some (.dK (pW ws))/\ws.Nodup/\
    (∀x,x∈ws↔x∈ls.take i)/\ws.length<=i/\∀b o,H b=some o->b≠p->H2 b=some o) ⟨none,[],rfl,hP1,hD1,gS,λx=>by simp,ap _,YT⟩ (λi σ H2 _ ⟨_,_,_,_,_,_,_,_,kp⟩=>hS.keep kp npl) ?_ ?_⟩
   ·rintro i y σ H2 hi ⟨v2,ws,rfl,hp2,hd2,hnd,hm,hl,kp⟩
    rw[a7]at hi;obtain⟨l,hl2,e⟩:=dE.mp hi;subst e;have hil:i < ls.length:=(af.mp hl2).1;refine⟨_,rfl,l,rfl,hW l (be hl2),λH3 s3=>?_⟩;have Yn:=s3 _ _ hd2;refine⟨_,rfl,p,C,dx,_,_,rfl,s3 _ _ hp2,T.cl,T.nh,rfl,_,rfl,d,_,rfl,yM.k (k:=lH l) Yn (by rw[pW,aa];exact aG (by lia)),?_⟩;refine⟨_,wX ws l,rfl,by rw[aM npd];exact s3 _ _ hp2,by rw[au,PX],Tn hnd,λx=>?_,cq (P_ _ _) (by lia),λb o e hb=>?_⟩
    ·rw[P0,hm,bu,hl2];simp
    ·rw[aM (bJ e hd)];exact s3 _ _ (kp b o e hb)
   ·rintro σ H2 ⟨v2,ws,rfl,hp2,hd2,hnd,hm,hl,kp⟩
    rw[aa]at hm hl;rw[bX]at hm;exact k d ws H2 hd ⟨⟨dx,hp2⟩,hd2,hnd,λl hl=>hW l ((hm l).mp hl)⟩ hm hl kp
  ·refine .inr ⟨_,rfl,a,rfl,⟨_,hS.keep YT npt⟩,mO (K:=K) (a:=a) (xs:=Ts ls) (λi σ H2=>∃(v2:Option V) (ws:AA),σ=[some (.ref p),some (.ref a),v2]/\H2 p=some (.ins C dx [("held",.ref d)])/\H2 d=some (.dK (pW ws))/\ws.Nodup/\
    (∀x,x∈ws↔x∈ls.take i)/\ws.length<=i/\∀b o,H b=some o->b≠p->H2 b=some o) ⟨none,[],rfl,hP1,hD1,gS,λx=>by simp,ap _,YT⟩ (λi σ H2 _ ⟨_,_,_,_,_,_,_,_,kp⟩=>hS.keep kp npt) ?_ ?_⟩
   ·rintro i y σ H2 hi ⟨v2,ws,rfl,hp2,hd2,hnd,hm,hl,kp⟩
    rw[a7]at hi;obtain⟨l,hl2,e⟩:=dE.mp hi;subst e;have hil:i < ls.length:=(af.mp hl2).1;refine⟨_,rfl,l,rfl,hW l (be hl2),λH3 s3=>?_⟩;have Yn:=s3 _ _ hd2;refine⟨_,rfl,p,C,dx,_,_,rfl,s3 _ _ hp2,T.cl,T.nh,rfl,_,rfl,d,_,rfl,yM.k (k:=lH l) Yn (by rw[pW,aa];exact aG (by lia)),?_⟩;refine⟨_,wX ws l,rfl,by rw[aM npd];exact s3 _ _ hp2,by rw[au,PX],Tn hnd,λx=>?_,cq (P_ _ _) (by lia),λb o e hb=>?_⟩
    ·rw[P0,hm,bu,hl2];simp
    ·rw[aM (bJ e hd)];exact s3 _ _ (kp b o e hb)
   ·rintro σ H2 ⟨v2,ws,rfl,hp2,hd2,hnd,hm,hl,kp⟩
    rw[aa]at hm hl;rw[bX]at hm;exact k d ws H2 hd ⟨⟨dx,hp2⟩,hd2,hnd,λl hl=>hW l ((hm l).mp hl)⟩ hm hl kp
def acQ (C:Addr):Sp:=λvs H Q _=>∃(p d:Addr) (ws:AA) (l:List Nat),vs=[.ref p,.str (S l)]/\rM C H p d ws/\Q (.bl (decide (l∈ws))) H
theorem agr {f C:Addr}{fd:FuncData}(F:gQ K "has" "Book.has" k_ f fd)(T:yF K C):cM P w K mg base fU 1 f fd ["self","text"] (acQ C):=by
 refine F.dM Rr (λvs H Q E h=>?_) (λbL A outer s H vs Q E hr h=>?_)
 ·obtain⟨p,d,ws,l,rfl,_⟩:=h
  rfl
 ·obtain⟨p,d,ws,l,rfl,B,q⟩:=h
  have hu:=Uw hr;obtain⟨⟨dx,hp⟩,hd,_,_⟩:=id B;refine⟨_,aF (bf (afH (afG hu (qv 1) (iD (qv 0) rfl)))),?_⟩;refine⟨_,rfl,_,rfl,p,C,dx,_,_,rfl,hp,T.cl,T.nh,rfl,d,_,rfl,uF.k (k:=lH l) hd,?_⟩;rw[JW];by_cases h:l∈ws
  ·rw[if_pos h];simpa [h] using q
  ·rw[if_neg h];simpa [h] using q
def pX (c:Nat):Nat:=if 65<=c/\c<=90 then 63 else c
def sgN (c:Nat):Prop:=isLet c\/(65<=c/\c<=90)
theorem sgN.lt {c:Nat}(h:sgN c):c < 128:=by
 rcases h with h | h
 ·have:=h.2;lia
 ·lia
noncomputable def Fj (left:AA):List Nat->Sum Nat (List (List Nat))
 | []=>.inr left
 | c::cs=>if [pX c]∈left then Fj (left.erase [pX c]) cs else .inl (pX c)
theorem Tp:∀{us:AA},(∀l∈us,l.length=1)->us.flatten.length=us.length
 | [],_=>rfl
 | u::us,h=>by
  rw[iE,bc,Tp λl hl=>h l (a_ _ hl),h u bq,dv];lia
def YW:Sp:=λvs H Q _=>∃c:Nat,vs=[.str (S [c])]/\c < 128/\Q (.str (S [pX c])) H
theorem le1 (a b:Nat):(!decide ([b] < [a]))=decide (a<=b):=by
 by_cases h:a<=b
 ·rw[am h,al (by simp[iP];lia)];rfl
 ·rw[al h,am (by simp[iP];lia)];rfl
theorem Vu (D:aK K mg "tile_of" vN ["sign"]):bT P w K mg base "tile_of" 1 ["sign"] YW:=by
 refine D.dM Va (λvs H Q E h=>?_) (λf bL A outer s H vs Q E hr h=>?_)
 ·obtain⟨c,rfl,_⟩:=h
  rfl
 ·obtain⟨c,rfl,hc,q⟩:=h
  refine⟨_,(aF (bf (qp (uG rF rF (b_ [65] (by decide +kernel)) (qv 0) (b_ [90] (by decide +kernel))) (b_ [63] (by decide +kernel)) (qv 0)))),?_⟩;refine⟨_,rfl,[65],[c],rfl,rfl,?_⟩;rw[le1];unfold pX at q;by_cases h1:65<=c
  ·rw[am h1]
   refine⟨_,rfl,bM ⟨[c],[90],rfl,rfl,?_⟩⟩;rw[le1];by_cases h2:c<=90
   ·rw[if_pos ⟨h1,h2⟩]at q
    rw[am h2];exact⟨_,rfl,bM q⟩
   ·rw[if_neg λz=>h2 z.2]at q
    rw[al h2];exact⟨_,rfl,bB ⟨_,rfl,q⟩⟩
  ·rw[if_neg λz=>h1 z.1]at q
   rw[al h1];exact⟨_,rfl,bB ⟨_,rfl,bB ⟨_,rfl,q⟩⟩⟩
theorem ags (x:List Nat)(ws:AA):inV (.str (S x)) (Ts ws)=decide (x∈ws):=by
 unfold inV
 induction ws with
 | nil=>simp[Ts]
 | cons y ws ih=>
  have e:EY (.str (S y)) (.str (S x))=decide (y=x):=by
   show decide (S y=S x)=_;by_cases h:y=x
   ·rw[h];simp
   ·have h2:S y≠S x:=λe=>h (Ni e)
    simp[h,h2]
  show (EY (.str (S y)) (.str (S x))||(Ts ws).any _)=_;rw[e,ih];by_cases h:y=x
  ·simp[h]
  ·have h2:¬x=y:=λe=>h e.symm
   simp[h,h2]
theorem Tq (ws:AA):(Ts ws).all tE=true:=by rw[cy];intro x hx;obtain⟨l,_,rfl⟩:=aE.mp hx;rfl
theorem Vv {f C R:Addr}{fd:FuncData}(F:gQ K "__init__" "Lacking.__init__" h_ f fd)(gJ:mg "RackError"=some (.ref R))(jP:InitOf K R)(T:nu K mg "Lacking" C f ["tile"]):cM P w K mg base fU 1 f fd ["self","tile"] (HS C "tile"):=by
 refine F.dM HY (λvs H Q E h=>?_) (λbL A outer s H vs Q E hr h=>?_)
 ·obtain⟨a,v,rfl,_⟩:=h
  rfl
 ·obtain⟨a,v,rfl,ha,q⟩:=h
  refine⟨_,(aB (dO (tL (by rfl) gJ jP (aj (qv 0) (aj (qv 1) aq)))) (aF (uq (qv 0) (qv 1) rfl))),?_⟩;refine⟨_,rfl,_,rfl,a,C,f,none,[v],rfl,ha,T.M.ini,zsz 1,?_⟩;exact⟨_,rfl,_,rfl,a,C,none,rfl,ha,T.T,T.no _ (by simp),.inl ⟨rfl,λdx ne nd=>q dx ne nd⟩⟩
def YX (C:Addr):Sp:=λvs H Q E=>∃(cT signs:List Nat),vs=[.str (S cT),.str (S signs)]/\cT.length<=63/\signs.length<=63/\(∀c∈signs,sgN c)/\
 (∀t,Fj (cT.map λc=>[c]) signs=.inl t->∀(dx:Addr) (H':Hp),aA H H'->H' dx=some (.ext (XD dx [("tile",.str (S [t]))]))->E (.ref C) (some dx) H')/\
 (∀left,Fj (cT.map λc=>[c]) signs=.inr left->∀(ws:AA) (H':Hp),aA H H'->ws.Perm left->ws.Pairwise (λa b=>decide (b < a)=false)->Q (.str (S ws.flatten)) H')
theorem Vw {C f0:Addr}{jt:FuncData}(D:aK K mg "left_of" vO ["rack","signs"])(g_:mg "list"=none)(gk:mg "sorted"=none)(T:nu K mg "Lacking" C f0 ["tile"])(YZ:cM P w K mg base fU 1 f0 jt ["self","tile"] (HS C "tile"))(Cu:cJ K jt ["self","tile"] [])
  (Y4:bT P w K mg base "tile_of" 1 ["sign"] YW):DefX P w K mg base "left_of" 3 ["rack","signs"] (YX C):=by
 refine D.yS tQ (λvs H Q E h=>?_) (λf bL A outer s H vs Q E hr h=>?_)
 ·obtain⟨cT,signs,rfl,_⟩:=h
  rfl
 ·obtain⟨cT,signs,rfl,aic,aiK,hsg,qE,q⟩:=h
  have Y5:=T.M;have zA:=T.E_;refine⟨_,(aB (aU (i:=2) tQ.nd rfl (Or.inl rfl) (dJ (yR rfl) (by rfl) g_ fq (aj (qv 0) aq))) (aB (dX iF rfl (uH (qv 1)) (bO (i:=3) tQ.nd rfl (Or.inl rfl)) (aB (aU (i:=4) tQ.nd rfl (Or.inl rfl) (aX Y4 hr.mono rfl (aj (qv 3) aq))) (aB (cF (bD Bg (qv 4) (qv 2) rfl) (aF (rG oU rfl Y5 YZ hr.mono (by rfl) zA Cu (aj (qv 4) aq))) bN) (aF (dO (gw cv PySem.F.slot_list_remove PySem.F.type_list_remove XC (qv 2) (aj (qv 4) aq))))))) (aF (bf (gw bE eh eB xY (b_ [] (by decide +kernel)) (aj (aN Om (by rfl) gk fT (aj (qv 2) aq)) aq)))))),?_⟩;refine⟨_,rfl,cT,rfl,by lia,λL hL=>?_⟩;have s1:aA H (upd H L (.lst (Ts (cT.map λc=>[c])))):=aA.upd hL;refine⟨_,rfl,signs,rfl,?_⟩;refine adu (λi σ H2=>∃(v3 v4:Option V) (us:AA),σ=[some (.str (S cT)),some (.str (S signs)),some (.ref L),v3,v4]/\aA H H2/\H2 L=some (.lst (Ts us))/\us.length<=63/\(∀l∈us,l.length=1)/\Fj (cT.map λc=>[c]) signs=Fj us (signs.drop i))
   ⟨none,none,cT.map λc=>[c],rfl,s1,au,by rw[aa];exact aic,λl hl=>by obtain⟨c,_,rfl⟩:=aE.mp hl;rfl,by rw[iL]⟩ ?_ ?_
  ·rintro i c σ H2 hc ⟨v3,v4,us,rfl,sm,hL2,Fl,hu1,hgo⟩
   have hcs:=hsg c (be hc);have hi:i < signs.length:=(af.mp hc).1;have hdrop:signs.drop i=c::signs.drop (i+1):=by
    rw[gL hi];rw[ac hi]at hc;rw[aw hc]
   rw[hdrop]at hgo;refine⟨_,rfl,c,rfl,hcs.lt,?_⟩;refine⟨_,rfl,_,rfl,L,Ts us,rfl,.inl (aW.of hL2),rfl,Tq us,?_⟩;rw[ags];by_cases hm:[pX c]∈us
   ·rw[am hm]
    refine⟨_,rfl,bB ⟨_,rfl,.inl ⟨rfl,_,aW.of hL2⟩,_,rfl,L,us,[pX c],rfl,rfl,hL2,hm,by lia,?_⟩⟩;refine⟨_,_,us.erase [pX c],rfl,sm.cB hL,au,?_,λl hl=>hu1 l (List.mem_of_mem_erase hl),?_⟩
    ·have:=(List.erase_sublist (a:=[pX c]) (l:=us)).length_le;lia
    ·rw[hgo];show (if _ then _ else _)=_;rw[if_pos hm]
   ·rw[al hm]
    have e:Fj (cT.map λc=>[c]) signs=.inl (pX c):=by rw[hgo];show (if _ then _ else _)=_;rw[if_neg hm]
    refine⟨_,rfl,bM ⟨_,rfl,zsz 1,λa na=>⟨a,_,rfl,au,λdx ne nd=>⟨rfl,some dx,au,?_⟩⟩⟩⟩;obtain⟨k1,k2⟩:=drop_new (q:=.ext (gF a (.ref C) (some dx))) (p:=.ext (XD dx [("tile",.str (S [pX c]))])) na ne nd;exact qE _ e dx _ (sm.trans k1) k2
  ·rintro σ H2 ⟨v3,v4,us,rfl,sm,hL2,Fl,hu1,hgo⟩
   rw[List.drop_length]at hgo;refine⟨rfl,_,rfl,L,us,rfl,aW.of hL2,by lia,λp ws hp pm pw=>?_⟩;refine⟨p,ws,rfl,rfl,aW.of au,?_,?_⟩
   ·rw[Tp λl hl=>hu1 l (pm.mem_iff.mp hl),pm.length_eq];lia
   ·exact q us hgo ws _ (sm.cB (sm.free hp)) pm pw
theorem Y6 {f C R:Addr}{fd:FuncData}(F:gQ K "__init__" "NoWord.__init__" iV f fd)(gJ:mg "RackError"=some (.ref R))(jP:InitOf K R)(T:nu K mg "NoWord" C f ["word"]):cM P w K mg base fU 1 f fd ["self","word"] (HS C "word"):=by
 refine F.dM JC (λvs H Q E h=>?_) (λbL A outer s H vs Q E hr h=>?_)
 ·obtain⟨a,v,rfl,_⟩:=h
  rfl
 ·obtain⟨a,v,rfl,ha,q⟩:=h
  refine⟨_,(aB (dO (tL (by rfl) gJ jP (aj (qv 0) (aj (qv 1) aq)))) (aF (uq (qv 0) (qv 1) rfl))),?_⟩;refine⟨_,rfl,_,rfl,a,C,f,none,[v],rfl,ha,T.M.ini,zsz 1,?_⟩;exact⟨_,rfl,_,rfl,a,C,none,rfl,ha,T.T,T.no _ (by simp),.inl ⟨rfl,λdx ne nd=>q dx ne nd⟩⟩
theorem Cv {p:Nat->Bool}:∀{l:List Nat} {c:Nat},c∈l.takeWhile p->c∈l/\p c=true
 | [],c,h=>by simp at h
 | a::l,c,h=>by
  rw[List.takeWhile_cons]at h;by_cases z:p a=true
  ·rw[if_pos z]at h
   rcases bo.mp h with e | e
   ·rw[e];exact⟨bq,z⟩
   ·have:=Cv e;exact⟨a_ _ this.1,this.2⟩
  ·rw[if_neg z]at h;simp at h
theorem abo {r w:Nat}{R:AA}(hb:Blk r w R)(hp:∀l∈R,∀c∈l,uR c){i j wy:Nat}(hi:i < r)(hj:j < w):∀c∈lineOf R i j (wy:Int),uR c:=λc hc=>by
 unfold lineOf at hc
 split at hc
 ·rw[ai,ac (by rw[hb.len];exact hi)]at hc
  exact hp _ (ah _) c hc
 ·obtain⟨l,hl,e⟩:=aE.mp hc
  have hw:=hb.gR l hl;have e2:l.getD j 0=l[j]:=by rw[ai,ac (show j < l.length by lia)];rfl
  rw[<- e,e2];exact hp l hl _ (ah _)
theorem ad4 {r w:Nat}{R:AA}(hb:Blk r w R)(hp:∀l∈R,∀c∈l,uR c){i j wy:Nat}(hi:i < r)(hj:j < w):∀c∈(gU R i j wy).2.2.2,qe c:=λc hc=>by
 have key:∀c,c∈lineOf R i j (wy:Int)->(c != 46)=true->qe c:=λc h1 h2=>by
  rcases abo hb hp hi hj c h1 with z | z
  ·rw[z]at h2;cases h2
  ·exact z
 rcases a8.mp (show c∈dR _++fO _ from hc) with z | z
 ·unfold dR at z
  have:=Cv (mT.mp z);exact key c (c6 (mT.mp this.1)) this.2
 ·have:=Cv z
  exact key c (gN this.1) this.2
theorem zB {r w:Nat}{ak:AA}{ts:List aV}(hb:Blk r w (bQ ak ts))(hp:∀l∈bQ ak ts,∀c∈l,uR c)(bA:∀t∈ts,inB r w t):∀q∈dN ak ts,∀c∈q.2.2.2,qe c:=λq hq=>by
 obtain⟨a,ha,rfl⟩:=aE.mp (eR.mp hq).1;have hi:a.1 < r/\a.2.1 < w:=by
  rcases a8.mp ha with z | z
  ·obtain⟨u,hu,rfl⟩:=aE.mp z
   have:=bA u (c6 hu);exact⟨this.1,this.2.1⟩
  ·obtain⟨u,hu,rfl⟩:=aE.mp z
   have:=bA u hu;exact⟨this.1,this.2.1⟩
 exact ad4 hb hp hi.1 hi.2
theorem Fo {r w:Nat}{ak:AA}{ts:List aV}(hb:Blk r w (bQ ak ts))(r9:r<=9)(w9:w<=9)(bA:∀t∈ts,inB r w t):∀q∈dN ak ts,q.2.2.2.length<=20:=λq hq=>by
 obtain⟨a,ha,rfl⟩:=aE.mp (eR.mp hq).1;have hi:a.1 < r:=by
  rcases a8.mp ha with z | z
  ·obtain⟨u,hu,rfl⟩:=aE.mp z
   exact(bA u (c6 hu)).1
  ·obtain⟨u,hu,rfl⟩:=aE.mp z
   exact(bA u hu).1
 exact Gf hb r9 w9 hi
def dQ (q:mz):Dt:=.tup [.int q.1,.int q.2.1,.int q.2.2.1,.str q.2.2.2]
theorem dW.ofQ {H:Hp}:∀{bs:List Addr} {qs:List mz},QL H bs qs->(∀q∈qs,∀c∈q.2.2.2,c < 128)->dW K H 1 (qs.map dQ) (bs.map V.ref)
 | [],[],_,_=>.nil
 | [],_::_,h,_=>by have:=h.len;simp at this
 | _::_,[],h,_=>by have:=h.len;simp at this
 | a::bs,q::qs,h,k=>.cons (.tup (aP.of (h.at_ 0 a q rfl rfl)) (.cons (.int _) (.cons (.int _) (.cons (.int _) (.cons (.str _ (k q bq)) .nil))))) (dW.ofQ ⟨by have:=h.len;simpa using this,λi a x h1 h2=>h.at_ (i+1) a x h1 h2⟩ λq' hq'=>k q' (a_ _ hq'))
def wY (q:mz):List Nat:=q.2.2.2.map PyProof.Rows.lo1
def Gn (ws:AA)(q:mz):Bool:=!decide (wY q∈ws)
noncomputable def sX (ak:AA)(ws:AA)(ts:List aV):Option (List Nat):=if dN ak ts=[] then some ([(d8 ts).2.2].map PyProof.Rows.lo1) else ((dN ak ts).find? (Gn ws)).map wY
def L_ (C CB CW:Addr):Sp:=λvs H Q E=>∃(b k d t:Addr) (ws:AA) (as:List Addr) (ts:List aV) (r w:Nat) (ak aO:AA) (bi bj:Nat),vs=[.ref b,.ref k,.ref t]/\dZ C H b r w ak aO bi bj/\rM CB H k d ws/\H t=some (.tup (as.map V.ref))/\cH H as ts/\(∀t∈ts,inB r w t)/\0 < ts.length/\ts.length<=7/\zq ts/\
 (∀l,sX ak ws ts=some l->∀(dx:Addr) (H':Hp),aA H H'->H' dx=some (.ext (XD dx [("word",.str (S l))]))->E (.ref CW) (some dx) H')/\(sX ak ws ts=none->∀H',aA H H'->Q .non H')
theorem rM.mv {C:Addr}{H H':Hp}{p d:Addr}{ws:AA}(B:rM C H p d ws)(s:aA H H'):rM C H' p d ws:=⟨let ⟨dx,e⟩:=B.ob;⟨dx,s _ _ e⟩,s _ _ B.dc,B.nd,B.az⟩
theorem Vx {ak:AA}{ts:List aV}(h:ts.length<=7):(dN ak ts).length<=100:=by
 refine cq (fR _ _) ?_;rw[aa];unfold iW;rw[bc,aa,aa,aI];lia
open Classical in
theorem JX {C CB CW f0 f1:Addr}{jt iT:FuncData}(D:aK K mg "check_words" oh ["board","book","laying"])(Y7:yF K CB)(Vy:Meth K CB "has" f1)(Vz:cM P w K mg base fU 1 f1 iT ["self","text"] (acQ CB))(VB:cJ K iT ["self","text"] [])
  (T:nu K mg "NoWord" CW f0 ["word"]) (Qa:cM P w K mg base fU 1 f0 jt ["self","word"] (HS CW "word")) (zE:cJ K jt ["self","word"] []) (zF:bT P w K mg base "formed" 10 ["board","laying"] (Gg C)) (RJ:bT P w K mg base "letter_of" 1 ["sign"] IV):DefX P w K mg base "check_words" 12 ["board","book","laying"] (L_ C CB CW):=by
 refine D.yS iu (λvs H Q E h=>?_) (λf bL A outer s H vs Q E hr h=>?_)
 ·obtain⟨b,k,d,t,ws,as,ts,r,w,ak,aO,bi,bj,rfl,_⟩:=h
  rfl
 ·obtain⟨b,k,d,t,ws,as,ts,r,w,ak,aO,bi,bj,rfl,BA,BK,ht,hL,bA,h0,h7,hl1,qE,q⟩:=h
  have Qc:=T.M;have wC:=T.E_;have hb':=gj BA.ok.br bA;have hp':=uV BA.ok.br bA BA.ok.cr;have hsg:=zB hb' hp' bA;have Y8:=Fo hb' BA.ok.r9 BA.ok.w9 bA;have hwl:=Vx (ak:=ak) h7;have hlt:∀q∈dN ak ts,∀c∈q.2.2.2,c < 128:=λq hq c hc=>(hsg q hq c hc).lt;refine⟨_,(aB (aU (i:=3) iu.nd rfl (Or.inl rfl) (aX zF hr.mono rfl (aj (qv 0) (aj (qv 2) aq)))) (aB (cF (bD (Hy hr.units) (qv 3) (cQ aq) (bw _)) (aF (rG oU rfl Qc Qa hr.mono (by rfl) wC zE (aj (aX RJ hr.mono rfl (aj (aQ bh (aQ bh (qv 2) aD (λ_ _=>rfl)) aD (λ_ _=>rfl)) aq)) aq))) bN) (aF (dX iF rfl (dY (qv 3)) (nO rfl (cD (bO (i:=4) iu.nd rfl (Or.inl rfl)) (cD (bO (i:=5) iu.nd rfl (Or.inl rfl)) (cD (bO (i:=6) iu.nd rfl (Or.inl rfl)) (cD (bO (i:=7) iu.nd rfl (Or.inl rfl)) jW))))) (aB (aU (i:=8) iu.nd rfl (Or.inl rfl) (rE bE ft fv yc (qv 7))) (aF (cF (fB (dj (qu (qv 1) Y7.cl Vy Vz hr.mono VB .nil kj (aj (qv 8) aq)))) (aF (rG oU rfl Qc Qa hr.mono (by rfl) wC zE (aj (qv 8) aq))) bN))))))),?_⟩;refine⟨_,rfl,_,rfl,b,t,as,ts,r,w,ak,aO,bi,bj,rfl,BA,ht,hL,bA,h0,h7,hl1,λT1 b1 H1 s1 hT1 Fp=>?_⟩;generalize hW:dN ak ts=W at hsg Y8 hwl hlt Fp;refine⟨_,rfl,zsz 0,λZ hZ=>?_⟩;have sZ:aA H1 (upd H1 Z (HO.tup [])):=aA.upd hZ;have eZ:upd H1 Z (HO.tup []) Z=some (.tup []):=au;have hT2:=sZ _ _ hT1;have hQ2:=Fp.mv sZ;have sY:=s1.trans sZ;generalize upd H1 Z (HO.tup [])=H2 at sZ eZ hT2 hQ2 sY ⊢;refine⟨2,.tup (W.map dQ),.tup [],by decide,.tup (aP.of hT2) (dW.ofQ hQ2 hlt),.tup (aP.of eZ) .nil,_,rfl,?_⟩;have mj:=hQ2.len;cases hWe:W with
  | nil=>
   simp only[mI,decide_true];obtain⟨g0,e0⟩:=gH (hL.mv sY) h0;have hh:d8 ts=ts[0]:=iY h0;have hs0:=(bA _ (ah h0)).2.2;refine bM ⟨_,rfl,t,_,_,.ref as[0],rfl,rfl,aP.of (sY _ _ ht),aH (j:=0) (by simp[g0]),as[0],_,_,_,rfl,rfl,aP.of e0,aH (j:=2) rfl,ts[0].2.2,rfl,hs0.lt,zsz 1,λa na=>⟨a,_,rfl,au,λdx ne nd=>⟨rfl,some dx,au,?_⟩⟩⟩;obtain⟨k1,k2⟩:=drop_new (q:=.ext (gF a (.ref CW) (some dx))) (p:=.ext (XD dx [("word",.str (S ([ts[0].2.2].map PyProof.Rows.lo1)))])) na ne nd;refine qE _ ?_ dx _ (sY.trans k1) k2;unfold sX;rw[if_pos (hW.trans hWe),hh]
  | cons q0 Wr=>
   have hne:¬(Dt.tup (W.map dQ)=Dt.tup []):=λz=>by rw[hWe]at z;injection z with z;cases z
   have hmw:sX ak ws ts=(W.find? (Gn ws)).map wY:=by
    unfold sX;rw[if_neg (by rw[hW,hWe];simp),hW]
   rw[<- hWe];rw[al hne];refine bB ⟨_,rfl,T1,rfl,⟨_,aP.of hT2⟩,mO (K:=K) (a:=T1) (xs:=b1.map V.ref) (λn σ H'=>∃v4 v5 v6 v7 v8:Option V,σ=[some (.ref b),some (.ref k),some (.ref t),some (.ref T1),v4,v5,v6,v7,v8]/\aA H2 H'/\∀x∈W.take n,Gn ws x=false)
    ⟨none,none,none,none,none,rfl,aA.refl _,λx hx=>by simp at hx⟩ (λn σ H' _ h=>by obtain⟨_,_,_,_,_,_,sm,_⟩:=h;exact aP.of (sm _ _ hT2)) ?_ ?_⟩
   ·rintro n x σ H' hx ⟨v4,v5,v6,v7,v8,rfl,sm,hfr⟩
    have hn:n < b1.length:=by have:=(af.mp hx).1;simpa using this
    have Cw:n < W.length:=by lia
    rw[a7,ac hn]at hx;have hx:V.ref b1[n]=x:=aw hx;subst hx;have en:=(hQ2.mv sm).at_ n _ _ (ac hn) (ac Cw);have hm:=ah Cw;have aie:=Y8 _ hm;refine⟨b1[n],_,rfl,aP.of en,rfl,_,_,rfl,_,_,rfl,_,_,rfl,_,_,rfl,rfl,?_⟩;refine⟨_,rfl,rfl,W[n].2.2.2,rfl,rfl,by lia,hlt _ hm,?_⟩;have BK':=BK.mv (sY.trans sm);obtain⟨dk,ek⟩:=BK'.ob;refine⟨_,rfl,k,dk,_,rfl,ek,rfl,_,rfl,k,d,ws,_,rfl,BK',_,rfl,?_⟩;cases hq0:Gn ws W[n] with
    | true=>
     rw[show (!decide (W[n].2.2.2.map PyProof.Rows.lo1∈ws))=true from hq0];refine bM ⟨_,rfl,zsz 1,λa na=>⟨a,_,rfl,au,λdx ne nd=>⟨rfl,some dx,au,?_⟩⟩⟩;obtain⟨k1,k2⟩:=drop_new (q:=.ext (gF a (.ref CW) (some dx))) (p:=.ext (XD dx [("word",.str (S (wY W[n])))])) na ne nd;refine qE _ ?_ dx _ ((sY.trans sm).trans k1) k2;rw[hmw,JR Cw hfr hq0];rfl
    | false=>
     rw[show (!decide (W[n].2.2.2.map PyProof.Rows.lo1∈ws))=false from hq0];refine bB ⟨_,_,_,_,_,rfl,sm,λx hx=>?_⟩;rw[bu,ac Cw]at hx;rcases a8.mp hx with z | z
     ·exact hfr x z
     ·rw[ay.mp z];exact hq0
   ·rintro σ H' ⟨v4,v5,v6,v7,v8,rfl,sm,hfr⟩
    rw[aa,mj,bX]at hfr;exact q (by rw[hmw,JT hfr];rfl) H' (sY.trans sm)
inductive Vd
 | ok | mD (i j:Nat) | mF | gap (i j:Nat) | mG | oZ (t:Nat) | nw (l:List Nat)
inductive tu (ak:AA) (r w bi bj:Nat) (ws:AA) (cT:List Nat) (ts:List aV):Vd->Prop
 | mD {u:aV} (h:j5 ak ts=some u):tu ak r w bi bj ws cT ts (.mD u.1 u.2.1)
 | mF (h1:j5 ak ts=none) (h:(gA ts||gW ts)=false):tu ak r w bi bj ws cT ts .mF
 | gap {i j:Nat} (h1:j5 ak ts=none) (h2:(gA ts||gW ts)=true) (h:Nq (bQ ak ts) (d8 ts).1 (dg ts).1 (d8 ts).2.1 (dg ts).2.1 i j):tu ak r w bi bj ws cT ts (.gap i j)
 | mG (h1:j5 ak ts=none) (h2:(gA ts||gW ts)=true) (h3:lR (bQ ak ts) (d8 ts).1 (dg ts).1 (d8 ts).2.1 (dg ts).2.1) (h:nU ak r w bi bj ts=false):tu ak r w bi bj ws cT ts .mG
 | oZ {t:Nat} (h1:j5 ak ts=none) (h2:(gA ts||gW ts)=true) (h3:lR (bQ ak ts) (d8 ts).1 (dg ts).1 (d8 ts).2.1 (dg ts).2.1) (h4:nU ak r w bi bj ts=true) (h:Fj (cT.map λc=>[c]) (ts.map (·.2.2))=.inl t):tu ak r w bi bj ws cT ts (.oZ t)
 | nw {l:List Nat} (h1:j5 ak ts=none) (h2:(gA ts||gW ts)=true) (h3:lR (bQ ak ts) (d8 ts).1 (dg ts).1 (d8 ts).2.1 (dg ts).2.1) (h4:nU ak r w bi bj ts=true) (h5:∃left,Fj (cT.map λc=>[c]) (ts.map (·.2.2))=.inr left) (h:sX ak ws ts=some l):tu ak r w bi bj ws cT ts (.nw l)
 | ok (h1:j5 ak ts=none) (h2:(gA ts||gW ts)=true) (h3:lR (bQ ak ts) (d8 ts).1 (dg ts).1 (d8 ts).2.1 (dg ts).2.1) (h4:nU ak r w bi bj ts=true) (h5:∃left,Fj (cT.map λc=>[c]) (ts.map (·.2.2))=.inr left) (h:sX ak ws ts=none):tu ak r w bi bj ws cT ts .ok
structure vf where
 lay:Addr
 mD:Addr
 mF:Addr
 gap:Addr
 mG:Addr
 oZ:Addr
 nw:Addr
def tD (c:vf)(H:Hp)(cls:Value)(dd:Option Addr):Vd->Prop
 | .ok=>False
 | .mD i j=>cls=.ref c.mD/\∃dx,dd=some dx/\H dx=some (.ext (XD dx (Tf i j)))
 | .mF=>cls=.ref c.mF/\dd=none
 | .gap i j=>cls=.ref c.gap/\∃dx,dd=some dx/\H dx=some (.ext (XD dx (Tf i j)))
 | .mG=>cls=.ref c.mG/\dd=none
 | .oZ t=>cls=.ref c.oZ/\∃dx,dd=some dx/\H dx=some (.ext (XD dx [("tile",.str (S [t]))]))
 | .nw l=>cls=.ref c.nw/\∃dx,dd=some dx/\H dx=some (.ext (XD dx [("word",.str (S l))]))
theorem Tr {cs:List (Nat × Nat)}(h:pO cs=true):∀n,(hn:n+1 < cs.length)->cs[n].1*1000+cs[n].2 < cs[n+1].1*1000+cs[n+1].2:=λn hn=>by
 unfold pO at h;rw[cy]at h;have:=h (cs[n],cs[n+1]) (by
  refine be (i:=n) ?_;rw[mx];exact⟨ac (by lia),by rw[e9,Nat.add_comm 1 n];exact ac hn⟩)
 exact bv this
theorem Qd {cs:List (Nat × Nat)}(h:pO cs=true):∀k n,(hn:n+k+1 < cs.length)->cs[n].1*1000+cs[n].2 < cs[n+k+1].1*1000+cs[n+k+1].2
 | 0,n,hn=>Tr h n hn
 | k+1,n,hn=>Nat.lt_trans (Qd h k n (by lia)) (Tr h (n+k+1) hn)
theorem ad5 {ts:List aV}{r w:Nat}(w9:w<=9)(bA:∀t∈ts,inB r w t)(h0:0 < ts.length)(hr:pO (ts.map fH)=true)(hs:(gA ts||gW ts)=true):zq ts:=by
 have hh:=iY h0;rw[nl]at hs;rcases hs with hs | hs
 ·refine .inl ?_
  unfold gA at hs;rw[cy]at hs;rw[cn];intro i j hi hj _;rw[bv (hs _ (ah hi)),bv (hs _ (ah hj))]
 ·refine .inr ?_
  unfold gW at hs;rw[cy]at hs;rw[cn];intro i j hi hj hij;have e1:=bv (hs _ (ah hi));have e2:=bv (hs _ (ah hj));have:=Qd hr (j-i-1) i (by rw[aa];lia);simp only[show i+(j-i-1)+1=j by lia,de]at this;have this:ts[i].1*1000+ts[i].2.1 < ts[j].1*1000+ts[j].2.1:=this;lia
theorem Y9 {c:Nat}(h:qe c):sgN c:=by
 unfold qe Fe Fd Im at h;simp at h;exact h
def Tt (K : W.Frag)(C CB : Addr)(c : vf) : Sp := λvs H Q E => ∃(b k d : Addr) (ws : List (List Nat)) (cT : List Nat) (x : V) (r w : Nat) (ak aO : List (List Nat)) (bi bj : Nat), vs = [.ref b, .ref k, .str (S cT), x] /\ dZ C H b r w ak aO bi bj /\ rM CB H k d ws /\ cT.length <= 63 /\
  ((∃o, YH K H x o /\ layB r w o = false /\ ∀H', aA H H' -> E (.ref c.lay) none H') \/
   (∃(t : Addr) (as : List Addr) (ts : List aV), x = .ref t /\ H t = some (.tup (as.map V.ref)) /\ cH H as ts /\ (∀t ∈ ts, inB r w t) /\ 0 < ts.length /\ ts.length <= 7 /\ pO (ts.map fH) = true /\
     (∀v cls dd H', tu ak r w bi bj ws cT ts v -> tD c H' cls dd v -> aA H H' -> E cls dd H') /\ (tu ak r w bi bj ws cT ts .ok -> ∀H', aA H H' -> Q .non H')))
theorem Jc {C CB:Addr}{c:vf}(D:aK K mg "check_laying" mZ ["board","book","rack","laying"])(wZ:mg "NoLaying"=some (.ref c.lay))(VD:W.excIn K c.lay jc "ValueError.__new__"=true)
  (RK:bT P w K mg base "is_laying" 4 ["board","thing"] (YJ K C)) (Qe:DefX P w K mg base "check_free" 5 ["board","laying"] (PB C c.mD)) (Gp:DefX P w K mg base "check_straight" 3 ["laying"] (Ti c.mF)) (Qf:DefX P w K mg base "check_gaps" 10 ["board","laying"] (PJ C c.gap))
  (JZ:DefX P w K mg base "check_joined" 7 ["board","laying"] (PL C c.mG)) (Y_:DefX P w K mg base "left_of" 3 ["rack","signs"] (YX c.oZ)) (M8:DefX P w K mg base "check_words" 12 ["board","book","laying"] (L_ C CB c.nw)):DefX P w K mg base "check_laying" 14 ["board","book","rack","laying"] (Tt K C CB c):=by
 refine D.yS H_ (λvs H Q E h=>?_) (λf bL A outer s H vs Q E hr h=>?_)
 ·obtain⟨b,k,d,ws,cT,x,r,w,ak,aO,bi,bj,rfl,_⟩:=h
  rfl
 ·obtain⟨b,k,d,ws,cT,x,r,w,ak,aO,bi,bj,rfl,BA,BK,h63,h⟩:=h
  refine⟨_,(aB (cF (fB (dj (aX RK hr.mono rfl (aj (qv 0) (aj (qv 3) aq))))) (aF (FZ oU rfl rfl (by rfl) wZ VD (aj (b_ [110,111,32,108,97,121,105,110,103,32,102,111,114,32,116,104,105,115,32,98,111,97,114,100] (by decide +kernel)) aq))) bN) (aB (dO (qw Qe hr.mono rfl uo.all (aj (qv 0) (aj (qv 3) aq)))) (aB (dO (qw Gp hr.mono rfl uo.all (aj (qv 3) aq))) (aB (dO (qw Qf hr.mono rfl uo.all (aj (qv 0) (aj (qv 3) aq)))) (aB (dO (qw JZ hr.mono rfl uo.all (aj (qv 0) (aj (qv 3) aq)))) (aB (dO (qw Y_ hr.mono rfl uo.all (aj (qv 2) (aj (gw bE eh eB xY (b_ [] (by decide +kernel)) (aj (fL (ns:=["row","column","sign"]) rfl (fD.of ["board","book","rack","laying"] [] (by kernel_rfl)) (dY (qv 3)) (λ_ _ _ _ _=>(oR K rfl (show (["row","column","sign","board","book","rack","laying"]:List Str).Nodup by decide +kernel) rfl rfl rfl (by rfl) (by rfl) (by rfl))) (λ_ _ _ _ _=>cU) (λ_ _ _ _ _=>(qv 2))) aq)) aq)))) (aF (dO (qw M8 hr.mono rfl uo.all (aj (qv 0) (aj (qv 1) (aj (qv 3) aq)))))))))))),?_⟩;rcases h with⟨o,hD,hB,qE⟩ | ⟨t,as,ts,rfl,ht,hL,bA,h0,h7,Ir,qE,q⟩
  ·refine⟨_,rfl,_,rfl,b,x,o,r,w,ak,aO,bi,bj,rfl,BA,hD,λH1 s1=>⟨_,rfl,?_⟩⟩
   rw[hB];exact bM ⟨zsz 1,qE H1 s1⟩
  ·have hal:=hL.len
   have hB:layB r w (some (ts.map mkT))=true:=by
    unfold layB;simp only;rw[Pu,aa,am (show 1<=ts.length/\ts.length<=7 by lia),show pO (ts.map λt=>(t.1,t.2.1))=true from Ir,List.all_map];have:ts.all (qY r w ∘ mkT)=true:=cy.mpr λt ht=>abk (bA t ht);rw[this];rfl
   refine⟨_,rfl,_,rfl,b,.ref t,some (ts.map mkT),r,w,ak,aO,bi,bj,rfl,BA,.tup ht (Gj.of_lay hL) (by rw[aa];lia),λH1 s1=>⟨_,rfl,?_⟩⟩;rw[hB];refine bB ⟨True.intro,_,rfl,_,rfl,b,t,as,ts,r,w,ak,aO,bi,bj,rfl,BA.mv s1,s1 _ _ ht,hL.mv s1,bA,λu hu dx H' s' hd=>qE _ _ _ H' (.mD hu) ⟨rfl,dx,rfl,hd⟩ (s1.trans s'),λv1 H2 s2=>?_⟩;have sY:=s1.trans s2;refine⟨True.intro,_,rfl,t,as,ts,rfl,sY _ _ ht,hL.mv sY,h0,h7,λe H' s'=>qE _ _ _ H' (.mF v1 e) ⟨rfl,rfl⟩ (sY.trans s'),λv2 H3 s3=>?_⟩;have yD:=sY.trans s3;refine⟨True.intro,_,rfl,_,rfl,b,t,as,ts,r,w,ak,aO,bi,bj,rfl,BA.mv yD,yD _ _ ht,hL.mv yD,bA,h0,λi j e dx H' s' hd=>qE _ _ _ H' (.gap v1 v2 e) ⟨rfl,dx,rfl,hd⟩ (yD.trans s'),λv3 H4 s4=>?_⟩;have Cm:=yD.trans s4;refine⟨True.intro,_,rfl,_,rfl,b,t,as,ts,r,w,ak,aO,bi,bj,rfl,BA.mv Cm,Cm _ _ ht,hL.mv Cm,h7,λe H' s'=>qE _ _ _ H' (.mG v1 v2 v3 e) ⟨rfl,rfl⟩ (Cm.trans s'),λv4 H5 s5=>?_⟩;have s05:=Cm.trans s5;have Yq:=s05 _ _ ht;refine⟨True.intro,_,rfl,rfl,_,rfl,t,rfl,⟨_,aP.of Yq⟩,λN hN=>jD (K:=K) (KT:=K) (a:=t) (f:=eG [] 0) (tt:=gC) (xs:=as.map V.ref) (λn ys H6=>ys=Ts (ones ((ts.take n).map (·.2.2)))/\H6 N=some (.lst ys)/\aA H5 H6)
    ⟨rfl,au,aA.upd hN⟩ (λn ys H6 _ h=>aP.of (h.2.2 _ _ Yq)) ?_ ?_⟩
   ·rintro n x ys H6 hx ⟨rfl,Cq,rK⟩
    have hn:n < as.length:=by have:=(af.mp hx).1;simpa using this
    have hnt:n < ts.length:=by lia
    rw[a7,ac hn]at hx;have hx:V.ref as[n]=x:=aw hx;obtain⟨_,en⟩:=gH (hL.mv (s05.trans rK)) hnt;refine vI hx.symm (aP.of en) ?_;refine⟨_,rfl,Cq,?_,dI.mk (by rw[aa];exact hn) ⟨?_,au,rK.cB hN⟩⟩
    ·rw[aa,aa,aa,aI];exact aG (by lia)
    ·rw[take_snoc (ac hnt)]
     simp[Ts,ones]
   ·rintro ys H6 ⟨rfl,Cq,rK⟩
    rw[aa,hal,bX]at Cq;have Za:=s05.trans rK;refine⟨N,ones (ts.map (·.2.2)),rfl,rfl,aW.of Cq,by rw[vX,aa];lia,?_⟩;rw[vX];refine⟨cT,ts.map (·.2.2),rfl,h63,by rw[aa];lia,λc hc=>?_,λtl e dx H' s' hd=>qE _ _ _ H' (.oZ v1 v2 v3 v4 e) ⟨rfl,dx,rfl,hd⟩ (Za.trans s'),λleft v5 ws' H7 s7 _ _=>?_⟩
    ·obtain⟨u,hu,rfl⟩:=aE.mp hc
     exact Y9 (bA u hu).2.2
    have Jd:=Za.trans s7;refine⟨True.intro,_,rfl,_,rfl,_,rfl,b,k,d,t,ws,as,ts,r,w,ak,aO,bi,bj,rfl,BA.mv Jd,BK.mv Jd,Jd _ _ ht,hL.mv Jd,bA,h0,h7,ad5 BA.ok.w9 bA h0 Ir v2,λl e dx H' s' hd=>qE _ _ _ H' (.nw v1 v2 v3 v4 ⟨left,v5⟩ e) ⟨rfl,dx,rfl,hd⟩ (Jd.trans s'),λv6 H8 s8=>?_⟩;exact q (.ok v1 v2 v3 v4 ⟨left,v5⟩ v6) H8 (Jd.trans s8)
theorem jm.mv {H H':Hp}{dd:Option Addr}(h:jm H dd)(s:aA H H'):jm H' dd:=by
 cases dd with
 | none=>trivial
 | some d=>obtain⟨o,e⟩:=h;exact⟨o,s _ _ e⟩
structure tY (K:W.Frag)(cs os:List Addr)(C:Addr)(i:Nat):Prop where
 is:vK K C
 val:W.kitOne K (.ref C) (.type "ValueError")=some true
 ix:∀j D,cs[j]?=some D->W.kitOne K (.ref C) (.ref D)=some (decide (j=i))
 no:W.kitAny K (.ref C) (os.map Value.ref)=some false
 lt:i < 7
noncomputable def bits (j:Nat):List Bool:=[decide (0=j),decide (1=j),decide (2=j),decide (3=j),decide (4=j),decide (5=j),decide (6=j)]
theorem VG:∀j,j < 7->((bits j).filter id).length=1:=by decide
theorem ad6:∀j,j < 7->(bits j)[j]?=some true/\∀m,m < j->(bits j)[m]?=some false:=by
 intro j hj;have h1:∀j,j < 7->(bits j)[j]?=some true:=by decide
 have h2:∀j,j < 7->∀m,m < 7->m < j->(bits j)[m]?=some false:=by decide
 exact⟨h1 j hj,λm hm=>h2 j hj m (by lia) hm⟩
def Tv (K:W.Frag)(cs os:List Addr):Sp:=λvs H Q _=>∃(a C:Addr) (dd:Option Addr) (j:Nat),vs=[.ref a]/\H a=some (.ext (uN a (.ref C) dd))/\jm H dd/\tY K cs os C j/\∀H',aA H H'->Q (.int j) H'
theorem abp {bF bV bK cG cu bC bI cW cP cX dF cY eV cZ dG:Addr}(D:aK K mg "_law_class" Eh ["_law_error"])(aY:mg "len"=none)(bH:mg "isinstance"=none)(mH:mg "ValueError"=none)(wZ:mg "NoLaying"=some (.ref bF))(Gk:mg "Taken"=some (.ref bV))(zy:mg "Crooked"=some (.ref bK))(PK:mg "Gap"=some (.ref cG))(Gm:mg "Apart"=some (.ref cu))(zA:mg "Lacking"=some (.ref bC))(wC:mg "NoWord"=some (.ref bI))(Zb:mg "NoBack"=some (.ref cW))(VH:mg "NoBoard"=some (.ref cP))(Zc:mg "NoDeed"=some (.ref cX))(abq:mg "NoRow"=some (.ref dF))(Zd:mg "NoText"=some (.ref cY))(ad7:mg "Over"=some (.ref eV))(Ze:mg "TooFew"=some (.ref cZ))(abr:mg "Twice"=some (.ref dG)):bT P w K mg base "_law_class" 1 ["_law_error"] (Tv K [bF,bV,bK,cG,cu,bC,bI] [cW,cP,cX,dF,cY,eV,cZ,dG]):=by
 refine D.dM yZ (λvs H Q E h=>?_) (λf bL A outer s H vs Q E hr h=>?_)
 ·obtain⟨a,C,dd,j,rfl,_⟩:=h
  rfl
 ·obtain⟨a,C,dd,j,rfl,ha,hdk,cx,q⟩:=h
  have is:=cx.is;have hj:=cx.lt;have VJ:=cx.ix 0 bF rfl;have ad8:=cx.ix 1 bV rfl;have Zf:=cx.ix 2 bK rfl;have ahy:=cx.ix 3 cG rfl;have ad9:=cx.ix 4 cu rfl;have Zg:=cx.ix 5 bC rfl;have abt:=cx.ix 6 bI rfl;refine⟨_,(aB (aU (i:=1) yZ.nd rfl (Or.inl rfl) (eU (aj (aN iG (by rfl) bH bp (aj (qv 0) (aj (gn (v:=.ref _) (by rfl) wZ rfl) aq))) (aj (aN iG (by rfl) bH bp (aj (qv 0) (aj (gn (v:=.ref _) (by rfl) Gk rfl) aq))) (aj (aN iG (by rfl) bH bp (aj (qv 0) (aj (gn (v:=.ref _) (by rfl) zy rfl) aq))) aq))))) (aB (aU (i:=1) yZ.nd rfl (Or.inl rfl) (bx Ht (qv 1) (eU (aj (aN iG (by rfl) bH bp (aj (qv 0) (aj (gn (v:=.ref _) (by rfl) PK rfl) aq))) (aj (aN iG (by rfl) bH bp (aj (qv 0) (aj (gn (v:=.ref _) (by rfl) Gm rfl) aq))) (aj (aN iG (by rfl) bH bp (aj (qv 0) (aj (gn (v:=.ref _) (by rfl) zA rfl) aq))) aq)))))) (aB (aU (i:=1) yZ.nd rfl (Or.inl rfl) (bx Ht (qv 1) (eU (aj (aN iG (by rfl) bH bp (aj (qv 0) (aj (gn (v:=.ref _) (by rfl) wC rfl) aq))) aq)))) (aB (cF (dj (aN Mv (by rfl) bH bp (aj (qv 0) (aj (cQ (aj (gn (v:=.ref _) (by rfl) Zb rfl) (aj (gn (v:=.ref _) (by rfl) VH rfl) (aj (gn (v:=.ref _) (by rfl) Zc rfl) (aj (gn (v:=.ref _) (by rfl) abq rfl) (aj (gn (v:=.ref _) (by rfl) Zd rfl) (aj (gn (v:=.ref _) (by rfl) ad7 rfl) (aj (gn (v:=.ref _) (by rfl) Ze rfl) (aj (gn (v:=.ref _) (by rfl) abr rfl) aq))))))))) aq)))) (aF (bf (yP uy aD))) bN) (aB (cF (QW.qt (mU (fB (dj (aN iG (by rfl) bH bp (aj (qv 0) (aj (mV (v:=.ty "ValueError") (by rfl) mH HN rfl) aq))))) (jX (bD o_ (aN bU (by rfl) aY aS (aj (fL (ns:=["_law_one"]) rfl (fD.of ["_law_error","_law_some"] [] (by kernel_rfl)) (gK (qv 1)) (λ_ _ _ _ _=>(oO (show (["_law_one","_law_error","_law_some"]:List Str).Nodup by decide +kernel) rfl (by rfl))) (λ_ _ _ _ _=>(xZ (dj (qv 0)))) (λ_ _ _ _ _=>(qv 0))) aq)) aD (bw _))))) (aF (bf (yP uy aD))) bN) (aF (bf (gw cv PySem.F.slot_list_index PySem.F.type_list_index X_ (qv 1) (aj jB aq))))))))),?_⟩;refine⟨_,rfl,a,C,.ref bF,.ref bF,dd,_,rfl,.inl ⟨bF,rfl,rfl⟩,ha,hdk,is,VJ,_,rfl,a,C,.ref bV,.ref bV,dd,_,rfl,.inl ⟨bV,rfl,rfl⟩,ha,hdk,is,ad8,_,rfl,a,C,.ref bK,.ref bK,dd,_,rfl,.inl ⟨bK,rfl,rfl⟩,ha,hdk,is,Zf,zsz 3,λM0 hM0=>?_⟩;have t0:aA H (upd H M0 (HO.lst [V.bl (decide (0=j)),V.bl (decide (1=j)),V.bl (decide (2=j))])):=aA.upd hM0;have f0:upd H M0 (HO.lst [V.bl (decide (0=j)),V.bl (decide (1=j)),V.bl (decide (2=j))]) M0=some (.lst [V.bl (decide (0=j)),V.bl (decide (1=j)),V.bl (decide (2=j))]):=au;have s0:=t0;generalize upd H M0 (HO.lst [V.bl (decide (0=j)),V.bl (decide (1=j)),V.bl (decide (2=j))])=G0 at t0 f0 s0 ⊢;refine⟨_,rfl,_,rfl,a,C,.ref cG,.ref cG,dd,_,rfl,.inl ⟨cG,rfl,rfl⟩,(s0 _ _ ha),(jm.mv hdk s0),is,ahy,_,rfl,a,C,.ref cu,.ref cu,dd,_,rfl,.inl ⟨cu,rfl,rfl⟩,(s0 _ _ ha),(jm.mv hdk s0),is,ad9,_,rfl,a,C,.ref bC,.ref bC,dd,_,rfl,.inl ⟨bC,rfl,rfl⟩,(s0 _ _ ha),(jm.mv hdk s0),is,Zg,zsz 3,λM1 hM1=>?_⟩;have t1:aA G0 (upd G0 M1 (HO.lst [V.bl (decide (3=j)),V.bl (decide (4=j)),V.bl (decide (5=j))])):=aA.upd hM1;have f1:upd G0 M1 (HO.lst [V.bl (decide (3=j)),V.bl (decide (4=j)),V.bl (decide (5=j))]) M1=some (.lst [V.bl (decide (3=j)),V.bl (decide (4=j)),V.bl (decide (5=j))]):=au;have u1:=t1 _ _ f0;have s1a:=s0.trans t1;generalize upd G0 M1 (HO.lst [V.bl (decide (3=j)),V.bl (decide (4=j)),V.bl (decide (5=j))])=G1 at t1 f1 u1 s1a ⊢;refine⟨M0,M1,_,_,rfl,rfl,u1,f1,by show 3+3<=sizeLine;decide,λL1 hL1=>?_⟩;have v1:aA G1 (upd G1 L1 (HO.lst ([V.bl (decide (0=j)),V.bl (decide (1=j)),V.bl (decide (2=j))]++[V.bl (decide (3=j)),V.bl (decide (4=j)),V.bl (decide (5=j))]))):=aA.upd hL1;have e1:upd G1 L1 (HO.lst ([V.bl (decide (0=j)),V.bl (decide (1=j)),V.bl (decide (2=j))]++[V.bl (decide (3=j)),V.bl (decide (4=j)),V.bl (decide (5=j))])) L1=some (.lst ([V.bl (decide (0=j)),V.bl (decide (1=j)),V.bl (decide (2=j))]++[V.bl (decide (3=j)),V.bl (decide (4=j)),V.bl (decide (5=j))])):=au;have s1:=s1a.trans v1;generalize upd G1 L1 (HO.lst ([V.bl (decide (0=j)),V.bl (decide (1=j)),V.bl (decide (2=j))]++[V.bl (decide (3=j)),V.bl (decide (4=j)),V.bl (decide (5=j))]))=K1 at v1 e1 s1 ⊢;refine⟨_,rfl,_,rfl,a,C,.ref bI,.ref bI,dd,_,rfl,.inl ⟨bI,rfl,rfl⟩,(s1 _ _ ha),(jm.mv hdk s1),is,abt,zsz 1,λM2 lN=>?_⟩;have t2:aA K1 (upd K1 M2 (HO.lst [V.bl (decide (6=j))])):=aA.upd lN;have f2:upd K1 M2 (HO.lst [V.bl (decide (6=j))]) M2=some (.lst [V.bl (decide (6=j))]):=au;have u2:=t2 _ _ e1;have s2a:=s1.trans t2;generalize upd K1 M2 (HO.lst [V.bl (decide (6=j))])=G2 at t2 f2 u2 s2a ⊢;refine⟨L1,M2,_,_,rfl,rfl,u2,f2,by show 6+1<=sizeLine;decide,λL2 hL2=>?_⟩;have v2:aA G2 (upd G2 L2 (HO.lst (([V.bl (decide (0=j)),V.bl (decide (1=j)),V.bl (decide (2=j))]++[V.bl (decide (3=j)),V.bl (decide (4=j)),V.bl (decide (5=j))])++[V.bl (decide (6=j))]))):=aA.upd hL2;have e2:upd G2 L2 (HO.lst (([V.bl (decide (0=j)),V.bl (decide (1=j)),V.bl (decide (2=j))]++[V.bl (decide (3=j)),V.bl (decide (4=j)),V.bl (decide (5=j))])++[V.bl (decide (6=j))])) L2=some (.lst (([V.bl (decide (0=j)),V.bl (decide (1=j)),V.bl (decide (2=j))]++[V.bl (decide (3=j)),V.bl (decide (4=j)),V.bl (decide (5=j))])++[V.bl (decide (6=j))])):=au;have s2:=s2a.trans v2;generalize upd G2 L2 (HO.lst (([V.bl (decide (0=j)),V.bl (decide (1=j)),V.bl (decide (2=j))]++[V.bl (decide (3=j)),V.bl (decide (4=j)),V.bl (decide (5=j))])++[V.bl (decide (6=j))]))=K2 at v2 e2 s2 ⊢;have eb:K2 L2=some (.lst ((bits j).map V.bl)):=e2;refine⟨_,rfl,zsz 8,λTP hTP=>?_⟩;have v3:aA K2 (upd K2 TP (HO.tup [V.ref cW,V.ref cP,V.ref cX,V.ref dF,V.ref cY,V.ref eV,V.ref cZ,V.ref dG])):=aA.upd hTP;have e3:upd K2 TP (HO.tup [V.ref cW,V.ref cP,V.ref cX,V.ref dF,V.ref cY,V.ref eV,V.ref cZ,V.ref dG]) TP=some (.tup ([cW,cP,cX,dF,cY,eV,cZ,dG].map V.ref)):=au;have s3:=s2.trans v3;have eb3:=v3 _ _ eb;generalize upd K2 TP (HO.tup [V.ref cW,V.ref cP,V.ref cX,V.ref dF,V.ref cY,V.ref eV,V.ref cZ,V.ref dG])=K3 at v3 e3 s3 eb3 ⊢;refine⟨a,C,TP,_,dd,false,rfl,s3 _ _ ha,jm.mv hdk s3,is,e3,cx.no,_,rfl,bB ?_⟩;refine⟨_,rfl,a,C,.ty "ValueError",.type "ValueError",dd,true,rfl,.inr ⟨_,rfl,rfl⟩,s3 _ _ ha,jm.mv hdk s3,is,cx.val,_,rfl,bB ?_⟩;refine⟨_,rfl,L2,rfl,⟨_,aW.of eb3⟩,λN hN=>wV (K:=K) (a:=L2) (f:=eG [] 0) (tt:=tB (iz 0)) (te:=iz 0) (xs:=(bits j).map V.bl) (λn ys H5=>ys=(((bits j).take n).filter id).map V.bl/\H5 N=some (.lst ys)/\aA K3 H5)
   ⟨rfl,au,aA.upd hN⟩ (λn ys H5 _ h=>aW.of (h.2.2 _ _ eb3)) ?_ ?_⟩
  ·rintro n x ys H5 hx ⟨rfl,pN,jf⟩
   have hn:n < ((bits j).map V.bl).length:=(af.mp hx).1;rw[a7]at hx;obtain⟨b,hb,rfl⟩:=dE.mp hx;have hn7:n < 7:=hn;refine⟨_,rfl,_,rfl,?_⟩;have et:(((bits j).take (n+1)).filter id).map V.bl=(((bits j).take n).filter id).map V.bl++([b].filter id).map V.bl:=by rw[bu,hb,eJ,bz];rfl
   cases b with
   | true=>
    refine bM ⟨_,rfl,pN,?_,dI.mk hn ⟨et.symm,au,jf.cB hN⟩⟩;rw[aa];exact aG (cq (fR _ _) (by rw[aI];lia))
   | false=>
    refine bB (dI.mk hn ⟨?_,pN,jf⟩);rw[et];simp
  ·rintro ys H5 ⟨rfl,pN,jf⟩
   rw[aa,bX]at pN;refine⟨N,_,rfl,.inl (aW.of pN),rfl,_,rfl,?_⟩;rw[aa];obtain⟨b1,b2⟩:=ad6 j hj;refine vG (by rw[VG j hj];rfl) ?_;have eb5:=jf _ _ eb3;exact⟨_,rfl,.inl ⟨rfl,_,aW.of eb5⟩,L2,bits j,j,rfl,rfl,eb5,b1,b2,by show 7<=1000;decide,q _ (s3.trans jf)⟩
theorem tD.Ls {c:vf}{H H':Hp}{cls:Value}{dd:Option Addr}{v:Vd}(h:tD c H cls dd v)(s:aA H H'):tD c H' cls dd v:=by
 cases v with
 | ok=>exact h
 | mD i j=>exact⟨h.1,let ⟨dx,e,k⟩:=h.2;⟨dx,e,s _ _ k⟩⟩
 | mF=>exact h
 | gap i j=>exact⟨h.1,let ⟨dx,e,k⟩:=h.2;⟨dx,e,s _ _ k⟩⟩
 | mG=>exact h
 | oZ t=>exact⟨h.1,let ⟨dx,e,k⟩:=h.2;⟨dx,e,s _ _ k⟩⟩
 | nw l=>exact⟨h.1,let ⟨dx,e,k⟩:=h.2;⟨dx,e,s _ _ k⟩⟩
structure VdM (K:W.Frag)(c:vf)(CR:Addr):Prop where
 lay:W.exmOne K (.ref c.lay) (.ref CR)=some true
 mD:W.exmOne K (.ref c.mD) (.ref CR)=some true
 mF:W.exmOne K (.ref c.mF) (.ref CR)=some true
 gap:W.exmOne K (.ref c.gap) (.ref CR)=some true
 mG:W.exmOne K (.ref c.mG) (.ref CR)=some true
 oZ:W.exmOne K (.ref c.oZ) (.ref CR)=some true
 nw:W.exmOne K (.ref c.nw) (.ref CR)=some true
theorem tD.match_ {c:vf}{CR:Addr}(M:VdM K c CR){H:Hp}{cls:Value}{dd:Option Addr}{v:Vd}(h:tD c H cls dd v):W.exmOne K cls (.ref CR)=some true:=by
 cases v with
 | ok=>exact h.elim
 | mD i j=>rw[h.1];exact M.mD
 | mF=>rw[h.1];exact M.mF
 | gap i j=>rw[h.1];exact M.gap
 | mG=>rw[h.1];exact M.mG
 | oZ t=>rw[h.1];exact M.oZ
 | nw l=>rw[h.1];exact M.nw
def Qg (K : W.Frag)(C CB : Addr)(c : vf) : Sp := λvs H Q _ => ∃(b k d : Addr) (ws : List (List Nat)) (cT : List Nat) (x : V) (r w : Nat) (ak aO : List (List Nat)) (bi bj : Nat), vs = [.ref b, .ref k, .str (S cT), x] /\ dZ C H b r w ak aO bi bj /\ rM CB H k d ws /\ cT.length <= 63 /\
  ((∃o, YH K H x o /\ layB r w o = false /\ ∀(a : Addr) (H' : Hp), aA H H' -> H' a = some (.ext (uN a (.ref c.lay) none)) -> Q (.ref a) H') \/
   (∃(t : Addr) (as : List Addr) (ts : List aV), x = .ref t /\ H t = some (.tup (as.map V.ref)) /\ cH H as ts /\ (∀t ∈ ts, inB r w t) /\ 0 < ts.length /\ ts.length <= 7 /\ pO (ts.map fH) = true /\
     (∀v cls dd a H', tu ak r w bi bj ws cT ts v -> tD c H' cls dd v -> aA H H' -> H' a = some (.ext (uN a cls dd)) -> Q (.ref a) H') /\ (tu ak r w bi bj ws cT ts .ok -> ∀H', aA H H' -> Q .non H')))
theorem Zh {C CB CR:Addr}{c:vf}(D:aK K mg "_law_caught" za ["_law_board","_law_book","_law_rack_here","_law_laying"])(gJ:mg "RackError"=some (.ref CR))(M:VdM K c CR)(J0:DefX P w K mg base "check_laying" 14 ["board","book","rack","laying"] (Tt K C CB c)) :
  bT P w K mg base "_law_caught" 16 ["_law_board","_law_book","_law_rack_here","_law_laying"] (Qg K C CB c):=by
 refine D.dM rJ (λvs H Q E h=>?_) (λf bL A outer s H vs Q E hr h=>?_)
 ·obtain⟨b,k,d,ws,cT,x,r,w,ak,aO,bi,bj,rfl,_⟩:=h
  rfl
 ·obtain⟨b,k,d,ws,cT,x,r,w,ak,aO,bi,bj,rfl,BA,BK,h63,h⟩:=h
  refine⟨_,(aB (aU (i:=4) rJ.nd rfl (Or.inl rfl) Hx) (aB (af2 rfl rfl (by rfl) gJ rJ.nd (i:=5) rfl (by rfl) (λpn xe E0 σ0 hp hx=>(aF (aU (i:=4) rJ.nd rfl (Or.inl rfl) (qw J0 hr.mono rfl hx (aj (qv 0) (aj (qv 1) (aj (qv 2) (aj (qv 3) aq)))))))) (λ_=>(aF (aU (i:=4) rJ.nd rfl (Or.inl rfl) (qv 5))))) (aF (bf (qv 4))))),?_⟩;rcases h with⟨o,hD,hB,q⟩ | ⟨t,as,ts,rfl,ht,hL,bA,h0,h7,Ir,qE,q⟩
  ·refine⟨λcls dd H'=>cls=.ref c.lay/\dd=none/\aA H H',?_,?_⟩
   ·exact⟨rfl,_,rfl,_,rfl,_,rfl,_,rfl,b,k,d,ws,cT,x,r,w,ak,aO,bi,bj,rfl,BA,BK,h63,.inl ⟨o,hD,hB,λH' s'=>⟨rfl,rfl,s'⟩⟩⟩
   ·rintro a cls dd H' ⟨rfl,rfl,s3⟩ na
    exact⟨M.lay,_,rfl,_,rfl,q a _ (s3.trans (aA.upd na)) au⟩
  ·refine⟨λcls dd H'=>∃v,tu ak r w bi bj ws cT ts v/\tD c H' cls dd v/\aA H H',?_,?_⟩
   ·refine⟨rfl,_,rfl,_,rfl,_,rfl,_,rfl,b,k,d,ws,cT,.ref t,r,w,ak,aO,bi,bj,rfl,BA,BK,h63,.inr ⟨t,as,ts,rfl,ht,hL,bA,h0,h7,Ir,λv cls dd H' h1 h2 h3=>⟨v,h1,h2,h3⟩,λh1 H' s'=>?_⟩⟩
    exact⟨_,rfl,q h1 H' s'⟩
   ·rintro a cls dd H' ⟨v,h1,h2,s3⟩ na
    exact⟨h2.match_ M,_,rfl,_,rfl,qE v cls dd a _ h1 (h2.Ls (aA.upd na)) (s3.trans (aA.upd na)) au⟩
def ur (i j:Int):List (Int × Int):=[(i-1,j),(i,j-1),(i,j+1),(i+1,j)]
theorem ad_ (ak:AA)(r w:Nat)(i j:Int):(ur i j).any (u6 ak r w)=gY ak r w i j:=by
 unfold gY ur around;simp only[gu,List.any_nil,Bool.or_false];cases u6 ak r w (i-1,j) <;> cases u6 ak r w (i,j-1) <;> cases u6 ak r w (i,j+1) <;> cases u6 ak r w (i+1,j) <;> rfl
def J1:Sp:=λvs H Q _=>∃(p:Addr) (ak:AA) (r w:Nat) (i j:Int),vs=[.ref p,.int i,.int j]/\H p=some (.tup (Ts ak))/\Blk r w ak/\1<=r/\r<=9/\w<=9/\∀(H':Hp),aA H H'->Q (.bl (gY ak r w i j)) H'
theorem En {ak:AA}{r w:Nat}{u v:Int}(h:¬(0<=u/\u < (r:Int)/\0<=v/\v < (w:Int))):u6 ak r w (u,v)=false:=by
 unfold u6 atC;simp only;rw[if_neg h];rfl
theorem RL (D:aK K mg "_law_is_near" vW ["_law_rows_here","_law_row","_law_column"])(aY:mg "len"=none):bT P w K mg base "_law_is_near" 1 ["_law_rows_here","_law_row","_law_column"] J1:=by
 refine D.dM Ij (λvs H Q E h=>?_) (λf bL A outer s H vs Q E hr h=>?_)
 ·obtain⟨p,ak,r,w,i,j,rfl,_⟩:=h
  rfl
 ·obtain⟨pr,ak,r,w,i,j,rfl,hp0,hb,r1,r9,w9,q⟩:=h
  refine⟨_,(aB (dX bS rfl (gK (eU (aj (cQ (aj (bx iC (qv 1) aD) (aj (qv 2) aq))) (aj (cQ (aj (qv 1) (aj (bx iC (qv 2) aD) aq))) (aj (cQ (aj (qv 1) (aj (bx dU (qv 2) aD) aq))) (aj (cQ (aj (bx dU (qv 1) aD) (aj (qv 2) aq))) aq)))))) (bO (i:=3) Ij.nd rfl (Or.inl rfl)) (aF (cF (QW.qt (i_ (uG lK jQ aD (aQ bh (qv 3) aD (λ_ _=>rfl)) (aN bU (by rfl) aY aS (aj (qv 0) aq))) (i_ (uG lK jQ aD (aQ bh (qv 3) aD (λ_ _=>rfl)) (aN cI (by rfl) aY aS (aj (aQ bh (qv 0) aD (λ_ _=>rfl)) aq))) (jw (bD nJ (aQ nj (aQ bh (qv 0) (aQ bh (qv 3) aD (λ_ _=>rfl)) (λ_ _=>rfl)) (aQ bh (qv 3) aD (λ_ _=>rfl)) (λ_ _=>rfl)) (b_ [46] (by decide +kernel)) (bw _)))))) (aF (bf jB)) bN))) (aF (bf jB))),?_⟩;refine⟨_,rfl,_,_,rfl,rfl,_,rfl,zsz 2,λt1 h1=>⟨_,rfl,_,rfl,_,_,rfl,rfl,zsz 2,λt2 h2=>⟨_,rfl,_,rfl,_,_,rfl,rfl,zsz 2,λt3 h3=>⟨_,rfl,_,_,rfl,rfl,_,rfl,zsz 2,λt4 h4=>⟨zsz 4,λT hT=>?_⟩⟩⟩⟩⟩;have s1:aA H (upd H t1 (HO.tup [.int (i-1),.int j])):=aA.upd h1;have s2:=s1.cB (o:=HO.tup [.int i,.int (j-1)]) (s1.free h2);have s3:=s2.cB (o:=HO.tup [.int i,.int (j+1)]) (s2.free h3);have s4:=s3.cB (o:=HO.tup [.int (i+1),.int j]) (s3.free h4);have s5:=s4.cB (o:=HO.lst [.ref t1,.ref t2,.ref t3,.ref t4]) (s4.free hT);have k5:aA _ _:=aA.upd (o:=HO.lst [.ref t1,.ref t2,.ref t3,.ref t4]) hT;have k4:aA _ _:=aA.upd (o:=HO.tup [.int (i+1),.int j]) h4;have k3:aA _ _:=aA.upd (o:=HO.tup [.int i,.int (j+1)]) h3;have k2:aA _ _:=aA.upd (o:=HO.tup [.int i,.int (j-1)]) h2;have e1:=k5 _ _ (k4 _ _ (k3 _ _ (k2 _ _ (au (H:=H) (a:=t1) (o:=HO.tup [.int (i-1),.int j])))));have e2:=k5 _ _ (k4 _ _ (k3 _ _ (au (a:=t2) (o:=HO.tup [.int i,.int (j-1)]))));have e3:=k5 _ _ (k4 _ _ (au (a:=t3) (o:=HO.tup [.int i,.int (j+1)])));have e4:=k5 _ _ (au (a:=t4) (o:=HO.tup [.int (i+1),.int j]));have e5:upd (upd (upd (upd (upd H t1 (HO.tup [.int (i-1),.int j])) t2 (HO.tup [.int i,.int (j-1)])) t3 (HO.tup [.int i,.int (j+1)])) t4 (HO.tup [.int (i+1),.int j])) T (HO.lst [.ref t1,.ref t2,.ref t3,.ref t4]) T=some (.lst ([t1,t2,t3,t4].map V.ref)):=au;generalize upd (upd (upd (upd (upd H t1 (HO.tup [.int (i-1),.int j])) t2 (HO.tup [.int i,.int (j-1)])) t3 (HO.tup [.int i,.int (j+1)])) t4 (HO.tup [.int (i+1),.int j])) T (HO.lst [.ref t1,.ref t2,.ref t3,.ref t4])=H5 at s5 e1 e2 e3 e4 e5 ⊢;have il5:IL2 H5 [t1,t2,t3,t4] (ur i j):=((dB.one (x:=(i-1,j)) e1).app (dB.one (x:=(i,j-1)) e2)).app ((dB.one (x:=(i,j+1)) e3).app (dB.one (x:=(i+1,j)) e4));have hp:=aP.of (K:=K) (s5 _ _ hp0);have je:(Ts ak).length=r:=by rw[aa,hb.len]
  have h0:0 < ak.length:=by rw[hb.len];lia
  have hw0:ak[0].length=w:=hb.gR _ (ah _);rw[<- ad_]at q;refine⟨T,rfl,⟨_,aW.of e5⟩,oA (K:=K) (a:=T) (xs:=[t1,t2,t3,t4].map V.ref) (λn σ H6=>H6=H5/\∃v3:Option V,σ=[some (.ref pr),some (.int i),some (.int j),v3]/\∀p∈(ur i j).take n,u6 ak r w p=false)
   ⟨rfl,none,rfl,λp hp=>by simp at hp⟩ (λn σ H6 _ h=>by rw[h.1];exact aW.of e5) ?_ ?_⟩
  ·rintro n x σ H6 hx ⟨rfl,v3,rfl,hfr⟩
   have hn:n < [t1,t2,t3,t4].length:=by have:=(af.mp hx).1;simpa using this
   rw[a7,ac hn]at hx;have hx:V.ref [t1,t2,t3,t4][n]=x:=aw hx;subst hx;obtain⟨⟨u,v⟩,eu,ht⟩:=il5.get hn;generalize [t1,t2,t3,t4][n]=t at ht ⊢;have hS:=aP.of (K:=K) ht;have nx:u6 ak r w (u,v)=false->H6=H6/\∃v3:Option V,([some (.ref pr),some (.int i),some (.int j),some (.ref t)]:St)=[some (.ref pr),some (.int i),some (.int j),v3]/\∀p∈(ur i j).take (n+1),u6 ak r w p=false:=λz=>⟨rfl,_,rfl,λp hp=>by
    rw[bu,eu]at hp;rcases a8.mp hp with y | y
    ·exact hfr p y
    ·rw[ay.mp y];exact z⟩
   refine⟨_,rfl,t,_,_,_,rfl,rfl,hS,aH (j:=0) rfl,_,_,rfl,rfl,_,rfl,?_⟩;by_cases c1:0<=u
   ·rw[am c1]
    refine bM ⟨_,rfl,pr,_,rfl,.inr hp,_,_,rfl,rfl,_,rfl,?_⟩;rw[je];by_cases c2:u < (r:Int)
    ·rw[am c2]
     refine bM ⟨_,rfl,t,_,_,_,rfl,rfl,hS,aH (j:=1) rfl,_,_,rfl,rfl,_,rfl,?_⟩;by_cases c3:0<=v
     ·rw[am c3]
      refine bM ⟨_,rfl,pr,_,_,.str (S ak[0]),rfl,rfl,hp,aH (j:=0) (fW (by simp[h0])),_,rfl,aT (aG (by lia)),_,_,rfl,rfl,_,rfl,?_⟩;rw[hw0];by_cases c4:v < (w:Int)
      ·rw[am c4]
       obtain⟨u,rfl⟩:∃k:Nat,u=k:=⟨u.toNat,by lia⟩
       obtain⟨v,rfl⟩:∃k:Nat,v=k:=⟨v.toNat,by lia⟩
       have hi:u < ak.length:=by rw[hb.len];lia
       have hgi:ak[u]?=some (ak.getD u []):=by rw[ai,ac hi];rfl
       have hw:(ak.getD u []).length=w:=hb.gR _ (be hgi);have hgj:(ak.getD u [])[v]?=some ((ak.getD u []).getD v 0):=by rw[ai (l:=ak.getD u []),ac (by lia)];rfl
       have hat:atC ak r w (u:Int) (v:Int)=(ak.getD u []).getD v 0:=u9 (by lia) (by lia);refine bM ⟨_,rfl,_,rfl,t,_,_,_,rfl,rfl,hS,aH (j:=0) rfl,pr,_,_,_,rfl,rfl,hp,aH (fW hgi),_,rfl,t,_,_,_,rfl,rfl,hS,aH (j:=1) rfl,_,_,_,rfl,rfl,aT (aG (by lia)),aH hgj,_,_,rfl,rfl,_,rfl,?_⟩;rw[<- hat];cases ht0:u6 ak r w ((u:Int),(v:Int)) with
       | true=>
        rw[show (!decide ([atC ak r w (u:Int) (v:Int)]=[46]))=true from ht0];have hq:=q H6 s5;rw[kz.mpr ⟨_,be eu,ht0⟩]at hq;exact bM hq
       | false=>
        rw[show (!decide ([atC ak r w (u:Int) (v:Int)]=[46]))=false from ht0];exact bB (nx ht0)
      ·rw[al c4]
       exact bB (bB (nx (En λz=>c4 z.2.2.2)))
     ·rw[al c3]
      exact bB ⟨_,rfl,bB (bB (nx (En λz=>c3 z.2.2.1)))⟩
    ·rw[al c2]
     exact bB (bB (nx (En λz=>c2 z.2.1)))
   ·rw[al c1]
    exact bB ⟨_,rfl,bB (bB (nx (En λz=>c1 z.1)))⟩
  ·rintro σ H6 ⟨rfl,v3,rfl,hfr⟩
   have hq:=q H6 s5;have:(ur i j).any (u6 ak r w)=false:=by
    rw[l6];intro p hp;rw[hfr p (by rw[bg (by show 4<=4;decide)];exact hp)];decide
   rw[this]at hq;exact hq
theorem abu {r w:Nat}{R:AA}(hb:Blk r w R){a b z i j:Nat}(ha:a < r)(hbw:b < w)(hi:i < r)(hj:j < w):cell (setAt R a b z) i j=if i=a/\j=b then z else cell R i j:=by
 have la:a < R.length:=by rw[hb.len];exact ha
 have li:i < R.length:=by rw[hb.len];exact hi
 have ga:R.getD a []=R[a]:=by rw[ai,ac la];rfl
 have gi:R.getD i []=R[i]:=by rw[ai,ac li];rfl
 have wa:R[a].length=w:=hb.gR _ (ah _);unfold cell setAt;rw[ai (l:=R.set a _)];by_cases e:i=a
 ·subst e
  rw[dC li,ga];show (R[i].set b z).getD j 0=_;rw[ai];by_cases e2:j=b
  ·subst e2
   rw[dC (by lia),if_pos ⟨rfl,rfl⟩];rfl
  ·rw[dS (λz=>e2 z.symm),if_neg (λz=>e2 z.2),ai]
 ·rw[dS (λz=>e z.symm),if_neg (λz=>e z.1),<- ai]
theorem Ma {r w i j:Nat}(hi:i < r)(hj:j < w):∀{ts:List aV} {R:AA},Blk r w R->(∀t∈ts,inB r w t)->((i,j)∉ts.map fH->cell (bQ R ts) i j=cell R i j)/\((i,j)∈ts.map fH->qe (cell (bQ R ts) i j))
 | [],R,_,_=>⟨λ_=>rfl,λh=>by simp at h⟩
 | t::ts,R,hb,bA=>by
  obtain⟨t1,t2,t3⟩:=bA t bq;have hb2:=Em hb t1 (j:=t.2.1) (z:=t.2.2);obtain⟨k1,k2⟩:=Ma hi hj (ts:=ts) hb2 λu hu=>bA u (a_ _ hu);have e:bQ R (t::ts)=bQ (setAt R t.1 t.2.1 t.2.2) ts:=rfl;rw[e];have hc:=abu hb t1 t2 hi hj (z:=t.2.2);constructor
  ·intro h
   rw[bP,bo,not_or]at h;rw[k1 h.2,hc,if_neg];intro z;exact h.1 (by show (i,j)=(t.1,t.2.1);rw[z.1,z.2])
  ·intro h
   by_cases hm:(i,j)∈ts.map fH
   ·exact k2 hm
   ·rw[k1 hm,hc]
    rw[bP,bo]at h;rcases h with z | z
    ·have z:(i,j)=(t.1,t.2.1):=z
     injection z with z1 z2;rw[if_pos ⟨z1,z2⟩];exact t3
    ·exact absurd z hm
theorem Zi {r w i j:Nat}(hi:i < r)(hj:j < w){ts:List aV}{R:AA}(hb:Blk r w R)(bA:∀t∈ts,inB r w t):cell (bQ R ts) i j=46↔cell R i j=46/\(i,j)∉ts.map fH:=by
 obtain⟨k1,k2⟩:=Ma hi hj hb bA;constructor
 ·intro h
  by_cases hm:(i,j)∈ts.map fH
  ·have:=k2 hm
   rw[h]at this;cases this
  ·exact⟨(k1 hm).symm.trans h,hm⟩
 ·intro h
  rw[k1 h.2];exact h.1
noncomputable def Qh (ak:AA)(r w bi bj:Nat)(cc:List (Nat × Nat)):Bool:=if isFree ak=true then decide ((bi,bj)∈cc) else cc.any λc=>gY ak r w c.1 c.2
theorem agt (ak:AA)(r w bi bj:Nat)(ts:List aV):Qh ak r w bi bj (ts.map fH)=nU ak r w bi bj ts:=by
 unfold Qh nU;rw[List.any_map];rfl
def lB (l:List Nat):Bool:=!decide (l=(List.replicate l.length [46]).flatten)
theorem abv (n:Nat):(List.replicate n [46]).flatten=List.replicate n 46:=by
 induction n with
 | zero=>rfl
 | succ n ih=>rw[hV,iE,ih,hV];rfl
theorem Qi {l:List Nat}:lB l=false↔∀c∈l,c=46:=by
 unfold lB;rw[abv];constructor
 ·intro h
  have:l=List.replicate l.length 46:=by simpa using h
  exact(kC.mp this).2
 ·intro h
  have:l=List.replicate l.length 46:=kC.mpr ⟨rfl,h⟩;rw[am this];rfl
theorem Qj {ak:AA}:isFree ak=true↔ak.filter lB=[]:=by
 unfold isFree;rw[cy,kr];constructor
 ·intro h l hl
  have:lB l=false:=Qi.mpr λc hc=>by
   have:=bv (h c (g9.mpr ⟨l,hl,hc⟩));injection this
  rw[this];decide
 ·intro h c hc
  obtain⟨l,hl,hcl⟩:=g9.mp hc;have:lB l=false:=by
   cases e:lB l with
   | false=>rfl
   | true=>exact absurd e (h l hl)
  rw[Qi.mp this c hcl];rfl
theorem dW.Je {H:Hp}:∀{ls:AA},(∀l∈ls,∀c∈l,c < 128)->dW K H 1 (ls.map Dt.str) (Ts ls)
 | [],_=>.nil
 | l::ls,h=>.cons (.str l (h l bq)) (dW.Je λl' hl'=>h l' (a_ _ hl'))
def Qk:Sp:=λvs H Q _=>∃(pr pb Lc:Addr) (ak:AA) (r w bi bj:Nat) (cs:List Addr) (cc:List (Nat × Nat)),vs=[.ref pr,.ref pb,.ref Lc]/\H pr=some (.tup (Ts ak))/\Blk r w ak/\1<=r/\r<=9/\1<=w/\w<=9/\(∀l∈ak,∀c∈l,uR c)/\H pb=some (.tup [.int bi,.int bj])/\H Lc=some (.lst (cs.map V.ref))/\Pr H cs cc/\cc.length<=7/\
 ∀H',aA H H'->Q (.bl (Qh ak r w bi bj cc)) H'
open Classical in
theorem Zj (D:aK K mg "_law_joined" yX ["_law_rows_here","_law_begin_here","_law_cells"])(aY:mg "len"=none)(Cd:bT P w K mg base "_law_is_near" 1 ["_law_rows_here","_law_row","_law_column"] J1):bT P w K mg base "_law_joined" 2 ["_law_rows_here","_law_begin_here","_law_cells"] Qk:=by
 refine D.dM Ye (λvs H Q E h=>?_) (λf bL A outer s H vs Q E hr h=>?_)
 ·obtain⟨pr,pb,Lc,ak,r,w,bi,bj,cs,cc,rfl,_⟩:=h
  rfl
 ·obtain⟨pr,pb,Lc,ak,r,w,bi,bj,cs,cc,rfl,hpr,hb,r1,r9,w1,w9,Bb,hpb,hLc,hcs,h7,q⟩:=h
  have je:(Ts ak).length=r:=by rw[aa,hb.len]
  have hcl:=hcs.len;refine⟨_,(aB (cF (bD (Hy hr.units) (fL (ns:=["_law_text"]) rfl (fD.of ["_law_rows_here","_law_begin_here","_law_cells"] [] (by kernel_rfl)) (dY (qv 0)) (λ_ _ _ _ _=>(oO (show (["_law_text","_law_rows_here","_law_begin_here","_law_cells"]:List Str).Nodup by decide +kernel) rfl (by rfl))) (λ_ _ _ _ _=>(xZ (bD nJ (qv 0) (bx Jw (b_ [46] (by decide +kernel)) (aN cI (by rfl) aY aS (aj (qv 0) aq))) (bw _)))) (λ_ _ _ _ _=>(qv 0))) (eU aq) (bw _)) (aF (bf (d_ (SJ hr.units) (qv 1) (qv 2) rfl))) bN) (aF (bf (d_ (Oe hr.units) (fL (ns:=["_law_cell"]) rfl (fD.of ["_law_rows_here","_law_begin_here","_law_cells"] [] (by kernel_rfl)) (gK (qv 2)) (λ_ _ _ _ _=>(oO (show (["_law_cell","_law_rows_here","_law_begin_here","_law_cells"]:List Str).Nodup by decide +kernel) rfl (by rfl))) (λ_ _ _ _ _=>(xZ (dj (aX Cd hr.mono rfl (aj (qv 1) (aj (aQ (mW K) (qv 0) aD (λ_ _=>rfl)) (aj (aQ (mW K) (qv 0) aD (λ_ _=>rfl)) aq))))))) (λ_ _ _ _ _=>(qv 0))) (eU aq) (bw _))))),?_⟩;refine⟨_,rfl,pr,rfl,⟨_,aP.of hpr⟩,λN hN=>tH (K:=K) (a:=pr) (f:=eG [] 0) (tt:=yJ (sO afB (iz 0) (sO acC (tC (V.str (S [46]))) (N5 Uy (mQ (iz 0) rQ))))) (te:=iz 0) (xs:=Ts ak) (λn ys H2=>ys=Ts ((ak.take n).filter lB)/\H2 N=some (.lst ys)/\aA H H2)
   ⟨rfl,au,aA.upd hN⟩ (λn ys H2 _ h=>aP.of (h.2.2 _ _ hpr)) ?_ ?_⟩
  ·rintro n x ys H2 hx ⟨rfl,Cy,sm⟩
   obtain⟨l,hl,rfl⟩:=uT hx;have hn:n < (Ts ak).length:=(af.mp hx).1;have pI:l.length=w:=hb.gR _ (be hl);refine⟨_,rfl,_,rfl,l,rfl,aT (aG (by lia)),[46],l.length,rfl,rfl,by lia,by lia,by decide,l,_,rfl,rfl,_,rfl,?_⟩;have et:(ak.take (n+1)).filter lB=(ak.take n).filter lB++[l].filter lB:=by rw[bu,hl,eJ];rfl
   cases hf:lB l with
   | true=>
    rw[show (!decide (l=(List.replicate l.length [46]).flatten))=true from hf];refine bM ⟨_,rfl,Cy,?_,dI.mk hn ⟨?_,au,sm.cB hN⟩⟩
    ·rw[aa]
     exact aG (cq (fR _ _) (by rw[aI];lia))
    ·rw[et,lF];simp[hf]
   | false=>
    rw[show (!decide (l=(List.replicate l.length [46]).flatten))=false from hf];refine bB (dI.mk hn ⟨?_,Cy,sm⟩);rw[et];simp[hf]
  ·rintro ys H2 ⟨rfl,Cy,sm⟩
   rw[aa,bX]at Cy;refine⟨zsz 0,λZ hZ=>?_⟩;have sZ:aA H2 (upd H2 Z (HO.lst [])):=aA.upd hZ;have eZ:upd H2 Z (HO.lst []) Z=some (.lst []):=au;have oY:=sZ _ _ Cy;have s3:=sm.trans sZ;generalize upd H2 Z (HO.lst [])=H3 at sZ eZ oY s3 ⊢;have aif:∀l∈ak.filter lB,∀c∈l,c < 128:=λl hl c hc=>by
    rcases Bb l (eR.mp hl).1 c hc with e | e
    ·lia
    ·exact e.lt
   refine⟨2,.lst ((ak.filter lB).map Dt.str),.lst [],by decide,.lst (aW.of oY) (dW.Je aif),.lst (aW.of eZ) .nil,_,rfl,?_⟩;simp only[cE,if_false];by_cases hf:isFree ak=true
   ·have he:Dt.lst ((ak.filter lB).map Dt.str)=Dt.lst []:=by rw[Qj.mp hf];rfl
    rw[am he];refine bM ⟨_,rfl,_,rfl,2,.tup [.int bi,.int bj],cc.map λc=>Dt.tup [.int c.1,.int c.2],by decide,.tup (aP.of (s3 _ _ hpb)) (.cons (.int _) (.cons (.int _) .nil)),.lst (aW.of (s3 _ _ hLc)) (dW.YQ (hcs.mv s3)),?_⟩;have hq:=q H3 s3;have e:Qh ak r w bi bj cc=decide ((bi,bj)∈cc):=by unfold Qh;rw[if_pos hf]
    rw[e]at hq;simp only[cE,if_false];by_cases hm:(bi,bj)∈cc
    ·rw[am hm]at hq
     rw[am (yE (c:=(bi,bj)).mpr hm)];exact hq
    ·rw[al hm]at hq
     rw[al (λz=>hm (yE (c:=(bi,bj)).mp z))];exact hq
   ·have he:¬Dt.lst ((ak.filter lB).map Dt.str)=Dt.lst []:=λz=>by
     injection z with z;exact hf (Qj.mpr (i9.mp z))
    rw[al he];refine bB ⟨_,rfl,Lc,rfl,⟨_,aW.of (s3 _ _ hLc)⟩,λM hM=>wV (K:=K) (a:=Lc) (f:=eG [] 0) (tt:=tB (Hq J1 [] E0 (mQ (iz 1) (mQ (sO (N7 K) (iz 0) (tC (V.int 0))) (mQ (sO (N7 K) (iz 0) (tC (V.int 1))) rQ))))) (te:=iz 0) (xs:=cs.map V.ref) (λn ys H4=>∃ds:List Addr,ys=ds.map V.ref/\ds.length<=n/\H4 M=some (.lst ys)/\aA H3 H4/\Pr H4 ds ((cc.take n).filter λc=>gY ak r w c.1 c.2))
     ⟨[],rfl,ap _,au,aA.upd hM,dB.nil⟩ (λn ys H4 _ h=>by obtain⟨_,_,_,_,sm,_⟩:=h;exact aW.of (sm _ _ (s3 _ _ hLc))) ?_ ?_⟩
    ·rintro n x ys H4 hx ⟨ds,rfl,hdl,vZ,nR,Zk⟩
     have hn:n < cs.length:=by have:=(af.mp hx).1;simpa using this
     rw[a7,ac hn]at hx;have hx:V.ref cs[n]=x:=aw hx;subst hx;have Cm:=s3.trans nR;obtain⟨u,eu,hu⟩:=(hcs.mv Cm).get hn;refine⟨_,rfl,_,rfl,cs[n],_,_,_,rfl,rfl,aP.of hu,aH (j:=0) rfl,_,rfl,cs[n],_,_,_,rfl,rfl,aP.of hu,aH (j:=1) rfl,pr,ak,r,w,_,_,rfl,Cm _ _ hpr,hb,r1,r9,w9,λH5 s5=>⟨_,rfl,?_⟩⟩;have et:(cc.take (n+1)).filter (λc=>gY ak r w c.1 c.2)=(cc.take n).filter (λc=>gY ak r w c.1 c.2)++[u].filter (λc=>gY ak r w c.1 c.2):=by rw[bu,eu,eJ];rfl
     cases hf2:gY ak r w u.1 u.2 with
     | true=>
      have Mf:=s5 _ _ vZ;refine bM ⟨_,rfl,Mf,by rw[aa];exact aG (by lia),dI.mk (by rw[aa];exact hn) ⟨ds++[cs[n]],by simp,by simp;lia,by rw[au],(nR.trans s5).cB hM,?_⟩⟩;rw[et];have e2:[u].filter (λc=>gY ak r w c.1 c.2)=[u]:=by simp[hf2]
      rw[e2];exact((Zk.mv s5).app (dB.one (s5 _ _ hu))).iw (lq Mf)
     | false=>
      refine bB (dI.mk (by rw[aa];exact hn) ⟨ds,rfl,by lia,s5 _ _ vZ,nR.trans s5,?_⟩);rw[et];have e2:[u].filter (λc=>gY ak r w c.1 c.2)=[]:=by simp[hf2]
      rw[e2,fh];exact Zk.mv s5
    ·rintro ys H4 ⟨ds,rfl,hdl,vZ,nR,Zk⟩
     rw[aa,hcl,bX]at Zk;refine⟨zsz 0,λZ2 hZ2=>?_⟩;have sZ2:aA H4 (upd H4 Z2 (HO.lst [])):=aA.upd hZ2;have eZ2:upd H4 Z2 (HO.lst []) Z2=some (.lst []):=au;have Mf:=sZ2 _ _ vZ;have hP5:=Zk.mv sZ2;generalize upd H4 Z2 (HO.lst [])=H5 at sZ2 eZ2 Mf hP5 ⊢;refine⟨2,.lst _,.lst [],by decide,.lst (aW.of Mf) (dW.YQ hP5),.lst (aW.of eZ2) .nil,?_⟩;have hq:=q H5 (s3.trans (nR.trans sZ2));have e:Qh ak r w bi bj cc=cc.any λc=>gY ak r w c.1 c.2:=by unfold Qh;rw[if_neg hf]
     rw[e]at hq;simp only[if_true];cases ha:(cc.any λc=>gY ak r w c.1 c.2) with
     | true=>
      rw[ha]at hq;have:¬(Dt.lst (((cc.filter λc=>gY ak r w c.1 c.2)).map λc=>Dt.tup [.int c.1,.int c.2])=Dt.lst []):=λz=>by
       injection z with z;have z:=i9.mp z;obtain⟨c,hc1,hc2⟩:=kz.mp ha;exact absurd hc2 (kr.mp z c hc1)
      rw[al this];exact hq
     | false=>
      rw[ha]at hq;have:Dt.lst (((cc.filter λc=>gY ak r w c.1 c.2)).map λc=>Dt.tup [.int c.1,.int c.2])=Dt.lst []:=by
       rw[kr.mpr λc hc=>by have:=l6.mp ha c hc;exact this];rfl
      rw[am this];exact hq
inductive J2 (ak:AA) (r w bi bj:Nat) (ts:List aV):Nat->Nat->Nat->Prop
 | mD {u:aV} (h:j5 ak ts=some u):J2 ak r w bi bj ts 1 u.1 u.2.1
 | mF (h1:j5 ak ts=none) (h:(gA ts||gW ts)=false):J2 ak r w bi bj ts 2 0 0
 | gap {i j:Nat} (h1:j5 ak ts=none) (h2:(gA ts||gW ts)=true) (h:Nq (bQ ak ts) (d8 ts).1 (dg ts).1 (d8 ts).2.1 (dg ts).2.1 i j):J2 ak r w bi bj ts 3 i j
 | mG (h1:j5 ak ts=none) (h2:(gA ts||gW ts)=true) (h3:lR (bQ ak ts) (d8 ts).1 (dg ts).1 (d8 ts).2.1 (dg ts).2.1) (h:nU ak r w bi bj ts=false):J2 ak r w bi bj ts 4 0 0
 | ok (h1:j5 ak ts=none) (h2:(gA ts||gW ts)=true) (h3:lR (bQ ak ts) (d8 ts).1 (dg ts).1 (d8 ts).2.1 (dg ts).2.1) (h:nU ak r w bi bj ts=true):J2 ak r w bi bj ts 9 0 0
theorem Zm {ts:List aV}(h0:0 < ts.length){g:aV->Nat}{m M:Int}(hm:m∈ts.map λt=>(g t:Int))(h1:∀x∈ts.map (λt=>(g t:Int)),m<=x)(hM:M∈ts.map λt=>(g t:Int))(h2:∀x∈ts.map (λt=>(g t:Int)),M>=x) :
  decide (V.int m=V.int M)=ts.all λt=>decide (g t=g (ts.headD (0,0,0))):=by
 rw[iY h0];cases e:(ts.all λt=>decide (g t=g ts[0])) with
 | true=>
  rw[cy]at e;have key:∀x∈ts.map (λt=>(g t:Int)),x=(g ts[0]:Int):=λx hx=>by
   obtain⟨t,ht,rfl⟩:=aE.mp hx;have:=bv (e t ht);rw[this]
  rw[key m hm,key M hM];simp
 | false=>
  refine al λz=>?_;injection z with z;have:(ts.all λt=>decide (g t=g ts[0]))=true:=cy.mpr λt ht=>by
   have a1:=h1 _ (aE.mpr ⟨t,ht,rfl⟩);have a2:=h2 _ (aE.mpr ⟨t,ht,rfl⟩);have b1:=h1 _ (aE.mpr ⟨ts[0],ah h0,rfl⟩);have b2:=h2 _ (aE.mpr ⟨ts[0],ah h0,rfl⟩);exact am (by lia)
  rw[this]at e;cases e
theorem zG {f:St->St}{σ:St}(ix:Nat){Hs H':Hp}{cs:List Addr}{cc:List (Nat × Nat)}{n:Nat}{x:V}{ys:List V}{N:Addr}(hx:(cs.map V.ref)[n]?=some x)
  (hh:ys=((cc.take n).map λc=>(((if ix=0 then c.1 else c.2:Nat)):Int)).map V.int/\H' N=some (.lst ys)/\aA Hs H') (hcs:Pr Hs cs cc) (h7:cc.length<=7) (hN:Hs N=none) (hix:ix=0\/ix=1) :
  nW (cs.map V.ref).length n N (λv H Q=>∃a p q,v=.ref a/\aP K H a [p,q]/\Q [some p,some q]) f σ gC (iz ix) x H' ys (λys H'=>ys=((cc.take (n+1)).map λc=>(((if ix=0 then c.1 else c.2:Nat)):Int)).map V.int/\H' N=some (.lst ys)/\aA Hs H'):=by
 obtain⟨rfl,hN',sm⟩:=hh;have hn:n < cs.length:=by have:=(af.mp hx).1;simpa using this
 have hcl:=hcs.len;rw[a7,ac hn]at hx;have hx:V.ref cs[n]=x:=aw hx;obtain⟨u,eu,hu⟩:=(hcs.mv sm).get hn;refine U3 hx.symm (aP.of hu) ?_;have hz:(((cc.take n).map λc=>(((if ix=0 then c.1 else c.2:Nat)):Int)).map V.int).length < sizeLine:=by rw[aa,aa,aI];exact aG (by lia)
 rcases hix with rfl | rfl
 ·refine⟨_,rfl,hN',hz,dI.mk (by rw[aa];exact hn) ⟨?_,au,sm.cB hN⟩⟩
  rw[take_snoc eu,bz];rfl
 ·refine⟨_,rfl,hN',hz,dI.mk (by rw[aa];exact hn) ⟨?_,au,sm.cB hN⟩⟩
  rw[take_snoc eu,bz];rfl
def Zn:Sp:=λvs H Q _=>∃(pr pb t:Addr) (ak:AA) (r w bi bj:Nat) (as:List Addr) (ts:List aV),vs=[.ref pr,.ref pb,.ref t]/\H pr=some (.tup (Ts ak))/\Blk r w ak/\1<=r/\r<=9/\1<=w/\w<=9/\(∀l∈ak,∀c∈l,uR c)/\H pb=some (.tup [.int bi,.int bj])/\H t=some (.tup (as.map V.ref))/\cH H as ts/\(∀t∈ts,inB r w t)/\0 < ts.length/\ts.length<=7/\
 ∀(T:Addr) (d x y:Nat) (H':Hp),aA H H'->J2 ak r w bi bj ts d x y->H' T=some (.tup [.int d,.int x,.int y])->Q (.ref T) H'
open Classical in
theorem Ql (D:aK K mg "_law_cells_due" qX ["_law_rows_here","_law_begin_here","_law_laying"])(cV:mg "range"=none)(Eo:mg "min"=none)(Ep:mg "max"=none)(abw:bT P w K mg base "_law_joined" 2 ["_law_rows_here","_law_begin_here","_law_cells"] Qk):bT P w K mg base "_law_cells_due" 3 ["_law_rows_here","_law_begin_here","_law_laying"] Zn:=by
 refine D.dM j4 (λvs H Q E h=>?_) (λf bL A outer s H vs Q E hr h=>?_)
 ·obtain⟨pr,pb,t,ak,r,w,bi,bj,as,ts,rfl,_⟩:=h
  rfl
 ·obtain⟨pr,pb,t,ak,r,w,bi,bj,as,ts,rfl,hpr,hb,r1,r9,w1,w9,Bb,hpb,ht,hL,bA,h0,h7,q⟩:=h
  have hal:=hL.len;refine⟨_,(aB (um (ix:=3) (ns:=["_law_row","_law_column","_law_sign_here"]) j4.nd rfl (Or.inl rfl) rfl (fD.of ["_law_rows_here","_law_begin_here","_law_laying","_law_cells",".4",".5"] [4,5] (by kernel_rfl)) (dY (qv 2)) (λ_ _ _ _ _=>(oR K rfl (show (["_law_row","_law_column","_law_sign_here","_law_rows_here","_law_begin_here","_law_laying","_law_cells",".4",".5"]:List Str).Nodup by decide +kernel) rfl rfl rfl (by rfl) (by rfl) (by rfl))) (λ_ _ _ _ _=>cU) (λ_ _ _ _ _=>(cQ (aj (qv 0) (aj (qv 1) aq))))) (aB (dX bS rfl (gK (qv 3)) (nO rfl (cD (bO (i:=4) j4.nd rfl (Or.inl rfl)) (cD (bO (i:=5) j4.nd rfl (Or.inl rfl)) jW))) (aF (cF (bD nJ (aQ nj (aQ bh (qv 0) (qv 4) (λ_ _=>rfl)) (qv 5) (λ_ _=>rfl)) (b_ [46] (by decide +kernel)) (bw _)) (aF (bf (cQ (aj aD (aj (qv 4) (aj (qv 5) aq)))))) bN))) (aB (gD (cF (bD o_ (aN (La rfl) (by rfl) Eo PyProof.Rows.boot_min (aj (fL (ns:=["_law_row","_law_column"]) rfl (fD.of ["_law_rows_here","_law_begin_here","_law_laying","_law_cells",".4",".5"] [4,5] (by kernel_rfl)) (gK (qv 3)) (λ_ _ _ _ _=>(uh K rfl (show (["_law_row","_law_column","_law_rows_here","_law_begin_here","_law_laying","_law_cells",".4",".5"]:List Str).Nodup by decide +kernel) rfl rfl (by rfl) (by rfl))) (λ_ _ _ _ _=>cU) (λ_ _ _ _ _=>(qv 0))) aq)) (aN (Ld rfl) (by rfl) Ep PyProof.Rows.boot_max (aj (fL (ns:=["_law_row","_law_column"]) rfl (fD.of ["_law_rows_here","_law_begin_here","_law_laying","_law_cells",".4",".5"] [4,5] (by kernel_rfl)) (gK (qv 3)) (λ_ _ _ _ _=>(uh K rfl (show (["_law_row","_law_column","_law_rows_here","_law_begin_here","_law_laying","_law_cells",".4",".5"]:List Str).Nodup by decide +kernel) rfl rfl (by rfl) (by rfl))) (λ_ _ _ _ _=>cU) (λ_ _ _ _ _=>(qv 0))) aq)) (bw _)) (aF (cF (bD o_ (aN (La rfl) (by rfl) Eo PyProof.Rows.boot_min (aj (fL (ns:=["_law_row","_law_column"]) rfl (fD.of ["_law_rows_here","_law_begin_here","_law_laying","_law_cells",".4",".5"] [4,5] (by kernel_rfl)) (gK (qv 3)) (λ_ _ _ _ _=>(uh K rfl (show (["_law_row","_law_column","_law_rows_here","_law_begin_here","_law_laying","_law_cells",".4",".5"]:List Str).Nodup by decide +kernel) rfl rfl (by rfl) (by rfl))) (λ_ _ _ _ _=>cU) (λ_ _ _ _ _=>(qv 1))) aq)) (aN (Ld rfl) (by rfl) Ep PyProof.Rows.boot_max (aj (fL (ns:=["_law_row","_law_column"]) rfl (fD.of ["_law_rows_here","_law_begin_here","_law_laying","_law_cells",".4",".5"] [4,5] (by kernel_rfl)) (gK (qv 3)) (λ_ _ _ _ _=>(uh K rfl (show (["_law_row","_law_column","_law_rows_here","_law_begin_here","_law_laying","_law_cells",".4",".5"]:List Str).Nodup by decide +kernel) rfl rfl (by rfl) (by rfl))) (λ_ _ _ _ _=>cU) (λ_ _ _ _ _=>(qv 1))) aq)) (bw _)) (aF (bf (cQ (aj aD (aj aD (aj aD aq)))))) bN)) bN)) (aB (dX bS rfl (vH (by rfl) cV (aj (aQ bh (aQ dD (qv 3) aD (λ_ _=>rfl)) aD (λ_ _=>rfl)) (aj (bx dU (aQ bh (aQ dD (qv 3) (yP uy aD) (λ_ _=>rfl)) aD (λ_ _=>rfl)) aD) aq))) (bO (i:=4) j4.nd rfl (Or.inl rfl)) (aF (dX bS rfl (vH (by rfl) cV (aj (aQ bh (aQ dD (qv 3) aD (λ_ _=>rfl)) aD (λ_ _=>rfl)) (aj (bx dU (aQ bh (aQ dD (qv 3) (yP uy aD) (λ_ _=>rfl)) aD (λ_ _=>rfl)) aD) aq))) (bO (i:=5) j4.nd rfl (Or.inl rfl)) (aF (cF (QW.qt (i_ (bD xX (aQ nj (aQ bh (qv 0) (qv 4) (λ_ _=>rfl)) (qv 5) (λ_ _=>rfl)) (b_ [46] (by decide +kernel)) (bw _)) (jw (bD (U8 hr.units) (cQ (aj (qv 4) (aj (qv 5) aq))) (qv 3) rfl)))) (aF (bf (cQ (aj aD (aj (qv 4) (aj (qv 5) aq)))))) bN))))) (aB (cF (fB (dj (aX abw hr.mono rfl (aj (qv 0) (aj (qv 1) (aj (qv 3) aq)))))) (aF (bf (cQ (aj aD (aj aD (aj aD aq)))))) bN) (aF (bf (cQ (aj aD (aj aD (aj aD aq))))))))))),?_⟩;refine⟨_,rfl,t,rfl,⟨_,aP.of ht⟩,λLc agu=>jD (K:=K) (KT:=K) (a:=t) (f:=eG [4,5] 0) (tt:=gC) (xs:=as.map V.ref) (λn ys H5=>∃cs:List Addr,ys=cs.map V.ref/\cs.length=n/\H5 Lc=some (.lst ys)/\aA H H5/\Pr H5 cs ((ts.take n).map fH))
   ⟨[],rfl,rfl,au,aA.upd agu,dB.nil⟩ (λn ys H5 _ h=>by obtain⟨_,_,_,_,sm,_⟩:=h;exact aP.of (sm _ _ ht)) ?_ ?_⟩
  ·rintro n x ys H5 hx ⟨cs,rfl,hcl,pN,jf,wk⟩
   have hn:n < as.length:=by have:=(af.mp hx).1;simpa using this
   have hnt:n < ts.length:=by lia
   rw[a7,ac hn]at hx;have hx:V.ref as[n]=x:=aw hx;obtain⟨_,en⟩:=gH (hL.mv jf) hnt;refine vI hx.symm (aP.of en) ?_;refine⟨_,rfl,_,rfl,zsz 2,λg hg=>?_⟩;have kg:aA H5 (upd H5 g (HO.tup [.int ts[n].1,.int ts[n].2.1])):=aA.upd hg;have Ly:=kg _ _ pN;refine⟨Ly,by rw[aa];exact aG (by lia),dI.mk (by rw[aa];exact hn) ⟨cs++[g],by simp,by simp[hcl],by rw[au],(jf.trans kg).cB agu,?_⟩⟩;rw[take_snoc (ac hnt)];exact((wk.mv kg).app (dB.one (x:=(ts[n].1,ts[n].2.1)) au)).iw (lq Ly)
  rintro ys H1 ⟨cs,rfl,hcl,hLc,s1,hcs⟩;rw[aa]at hcl;rw[aa,hal,bX]at hcs;have Qm:cs.length=ts.length:=by lia
  have VL:∀n,(h:n < ts.length)->(ts.map fH)[n]?=some (ts[n].1,ts[n].2.1):=λn h=>by rw[a7,ac h];rfl
  have VN:=s1 _ _ hpr;have Qn:(ts.map fH).length<=7:=by rw[aa];exact h7
  refine⟨_,rfl,Lc,rfl,⟨_,aW.of hLc⟩,oA (K:=K) (a:=Lc) (xs:=cs.map V.ref) (λn σ H'=>∃v4 v5:Option V,σ=[some (.ref pr),some (.ref pb),some (.ref t),some (.ref Lc),v4,v5]/\aA H1 H'/\∀x∈ts.take n,LR ak x=false)
   ⟨none,none,rfl,aA.refl _,λx hx=>by simp at hx⟩ (λn σ H' _ h=>by obtain⟨_,_,_,sm,_⟩:=h;exact aW.of (sm _ _ hLc)) ?_ ?_⟩
  ·rintro n x σ H' hx ⟨v4,v5,rfl,sm,hfr⟩
   have hn:n < cs.length:=by have:=(af.mp hx).1;simpa using this
   have hnt:n < ts.length:=by lia
   rw[a7,ac hn]at hx;have hx:V.ref cs[n]=x:=aw hx;subst hx;have en:=(hcs.mv sm).at_ n _ _ (ac hn) (VL n hnt);obtain⟨c1,c2,_⟩:=bA _ (ah hnt);have g1:ts[n].1 < ak.length:=by rw[hb.len];exact c1
   have hwi:ak[ts[n].1].length=w:=hb.gR _ (ah _);have g2:ts[n].2.1 < ak[ts[n].1].length:=by lia
   have hce:=cell_eq g1 g2;refine⟨cs[n],_,rfl,aP.of en,rfl,_,_,rfl,_,_,rfl,rfl,?_⟩;refine⟨_,rfl,_,rfl,pr,_,_,.str (S ak[ts[n].1]),rfl,rfl,aP.of (sm _ _ VN),aH (fW (by simp[g1])),_,rfl,ak[ts[n].1],_,ak[ts[n].1][ts[n].2.1],rfl,rfl,aT (aG (by lia)),aH (by simp[g2]),[ak[ts[n].1][ts[n].2.1]],[46],rfl,rfl,_,rfl,?_⟩;rw[<- hce];cases ht0:LR ak ts[n] with
   | true=>
    rw[show (!decide ([cell ak ts[n].1 ts[n].2.1]=[46]))=true from ht0];exact bM ⟨_,rfl,_,rfl,zsz 3,λT hT=>q T 1 _ _ _ ((s1.trans sm).trans (aA.upd hT)) (.mD (JR hnt hfr ht0)) au⟩
   | false=>
    rw[show (!decide ([cell ak ts[n].1 ts[n].2.1]=[46]))=false from ht0];refine bB ⟨_,_,rfl,sm,λx hx=>?_⟩;rw[bu,ac hnt]at hx;rcases a8.mp hx with z | z
    ·exact hfr x z
    ·rw[ay.mp z];exact ht0
  rintro σ H2 ⟨v4,v5,rfl,sm,hfr⟩;rw[aa,Qm,bX]at hfr;have d1:j5 ak ts=none:=JT hfr;have s2:=s1.trans sm;refine⟨λσ H'=>aA H2 H'/\σ=[some (.ref pr),some (.ref pb),some (.ref t),some (.ref Lc),v4,v5]/\(gA ts||gW ts)=true,?_,?_⟩
  ·refine⟨_,rfl,Lc,rfl,⟨_,aW.of (sm _ _ hLc)⟩,λA1 hA1=>nQ (K:=K) (KT:=K) (a:=Lc) (f:=eG [4,5] 0) (tt:=gC) (te:=iz 0) (xs:=cs.map V.ref) (λn ys H'=>ys=(((ts.map fH).take n).map λc=>(((if 0=0 then c.1 else c.2:Nat)):Int)).map V.int/\H' A1=some (.lst ys)/\aA H2 H')
    ⟨rfl,au,aA.upd hA1⟩ (λn ys H' _ h=>aW.of (h.2.2 _ _ (sm _ _ hLc))) (λn x ys H' hx hh=>zG 0 hx hh (hcs.mv sm) Qn hA1 (by decide)) ?_⟩
   rintro ys H3 ⟨rfl,Zo,k3⟩;rw[aa,Qm,bg (by rw[aa];exact ap _),show ((ts.map fH).map λc=>(((if 0=0 then c.1 else c.2:Nat)):Int))=ts.map (λt=>(t.1:Int)) by rw[b8];rfl]at Zo;refine⟨A1,ts.map λt=>(t.1:Int),rfl,aW.of Zo,by rw[aa];exact h0,λm hm hmn=>?_⟩;refine⟨_,rfl,Lc,rfl,⟨_,aW.of ((sm.trans k3) _ _ hLc)⟩,λA2 hA2=>nQ (K:=K) (KT:=K) (a:=Lc) (f:=eG [4,5] 0) (tt:=gC) (te:=iz 0) (xs:=cs.map V.ref) (λn ys H'=>ys=(((ts.map fH).take n).map λc=>(((if 0=0 then c.1 else c.2:Nat)):Int)).map V.int/\H' A2=some (.lst ys)/\aA H3 H')
    ⟨rfl,au,aA.upd hA2⟩ (λn ys H' _ h=>aW.of (h.2.2 _ _ ((sm.trans k3) _ _ hLc))) (λn x ys H' hx hh=>zG 0 hx hh (hcs.mv (sm.trans k3)) Qn hA2 (by decide)) ?_⟩
   rintro ys H4 ⟨rfl,Zq,k4⟩;rw[aa,Qm,bg (by rw[aa];exact ap _),show ((ts.map fH).map λc=>(((if 0=0 then c.1 else c.2:Nat)):Int))=ts.map (λt=>(t.1:Int)) by rw[b8];rfl]at Zq;refine⟨A2,ts.map λt=>(t.1:Int),rfl,aW.of Zq,by rw[aa];exact h0,λM hM hmx=>?_⟩;refine⟨rfl,_,rfl,?_⟩;have Fq:=k3.trans k4;rw[Zm (g:=λt=>t.1) h0 hm hmn hM hmx];cases ha:gA ts with
   | true=>
    rw[show (ts.all λt=>decide (t.1=(ts.headD (0,0,0)).1))=true from ha];exact bB ⟨Fq,rfl,by rw[Bool.true_or]⟩
   | false=>
    rw[show (ts.all λt=>decide (t.1=(ts.headD (0,0,0)).1))=false from ha];refine bM ?_;refine⟨_,rfl,Lc,rfl,⟨_,aW.of ((sm.trans Fq) _ _ hLc)⟩,λA3 Zo=>nQ (K:=K) (KT:=K) (a:=Lc) (f:=eG [4,5] 0) (tt:=gC) (te:=iz 1) (xs:=cs.map V.ref) (λn ys H'=>ys=(((ts.map fH).take n).map λc=>(((if 1=0 then c.1 else c.2:Nat)):Int)).map V.int/\H' A3=some (.lst ys)/\aA H4 H')
     ⟨rfl,au,aA.upd Zo⟩ (λn ys H' _ h=>aW.of (h.2.2 _ _ ((sm.trans Fq) _ _ hLc))) (λn x ys H' hx hh=>zG 1 hx hh (hcs.mv (sm.trans Fq)) Qn Zo (by decide)) ?_⟩
    rintro ys H5 ⟨rfl,wk,k5⟩;rw[aa,Qm,bg (by rw[aa];exact ap _),show ((ts.map fH).map λc=>(((if 1=0 then c.1 else c.2:Nat)):Int))=ts.map (λt=>(t.2.1:Int)) by rw[b8];rfl]at wk;refine⟨A3,ts.map λt=>(t.2.1:Int),rfl,aW.of wk,by rw[aa];exact h0,λm2 hm2 aii=>?_⟩;refine⟨_,rfl,Lc,rfl,⟨_,aW.of ((sm.trans (Fq.trans k5)) _ _ hLc)⟩,λA4 Zq=>nQ (K:=K) (KT:=K) (a:=Lc) (f:=eG [4,5] 0) (tt:=gC) (te:=iz 1) (xs:=cs.map V.ref) (λn ys H'=>ys=(((ts.map fH).take n).map λc=>(((if 1=0 then c.1 else c.2:Nat)):Int)).map V.int/\H' A4=some (.lst ys)/\aA H5 H')
     ⟨rfl,au,aA.upd Zq⟩ (λn ys H' _ h=>aW.of (h.2.2 _ _ ((sm.trans (Fq.trans k5)) _ _ hLc))) (λn x ys H' hx hh=>zG 1 hx hh (hcs.mv (sm.trans (Fq.trans k5))) Qn Zq (by decide)) ?_⟩
    rintro ys H6 ⟨rfl,hA6,k6⟩;rw[aa,Qm,bg (by rw[aa];exact ap _),show ((ts.map fH).map λc=>(((if 1=0 then c.1 else c.2:Nat)):Int))=ts.map (λt=>(t.2.1:Int)) by rw[b8];rfl]at hA6;refine⟨A4,ts.map λt=>(t.2.1:Int),rfl,aW.of hA6,by rw[aa];exact h0,λM2 lN aij=>?_⟩;refine⟨rfl,_,rfl,?_⟩;have wD:=Fq.trans (k5.trans k6);rw[Zm (g:=λt=>t.2.1) h0 hm2 aii lN aij];cases hd:gW ts with
    | true=>
     rw[show (ts.all λt=>decide (t.2.1=(ts.headD (0,0,0)).2.1))=true from hd];exact bB ⟨wD,rfl,rfl⟩
    | false=>
     rw[show (ts.all λt=>decide (t.2.1=(ts.headD (0,0,0)).2.1))=false from hd];exact bM ⟨zsz 3,λT hT=>q T 2 0 0 _ ((s2.trans wD).trans (aA.upd hT)) (.mF d1 (by rw[ha,hd];rfl)) au⟩
  rintro σ H3 ⟨k3,rfl,d2⟩;have s3:=s2.trans k3;have s13:=sm.trans k3;have J3:=s13 _ _ hLc;have VP:=hcs.mv s13;have z0:0 < cs.length:=by lia
  have zl:cs.length-1 < cs.length:=by lia
  have e0:=VP.at_ 0 _ _ (ac z0) (VL 0 h0);have el:=VP.at_ (cs.length-1) _ _ (ac zl) (by rw[show cs.length-1=ts.length-1 by lia];exact VL _ (by lia));have wj:oM (cs.map V.ref) (-1)=some (.ref cs[cs.length-1]):=JN z0;obtain⟨a1,a2,_⟩:=bA _ (ah h0);obtain⟨l1,l2,_⟩:=bA _ (ah (show ts.length-1 < ts.length by lia));have ef:d8 ts=ts[0]:=iY h0;have eg:=u_ h0;generalize hff:ts[0]=ff at e0 a1 a2 ef;generalize hll:ts[ts.length-1]=ll at el l1 l2 eg;have hR:∀i j,i < r->j < w->(cell (bQ ak ts) i j=46↔cell ak i j=46/\(i,j)∉ts.map fH):=λi j hi hj=>Zi hi hj hb bA;have hDs:∀H',aA H3 H'->jY K H' 2 (.lst ((ts.map fH).map λc=>Dt.tup [.int c.1,.int c.2])) (.ref Lc):=λH' sH=>.lst (aW.of (sH _ _ J3)) (dW.YQ (VP.mv sH));generalize hRR:bQ ak ts=R at hR;refine⟨_,rfl,Lc,_,_,.ref cs[0],rfl,rfl,aW.of J3,aH (j:=0) (by simp[z0]),cs[0],_,_,_,rfl,rfl,aP.of e0,aH (j:=0) rfl,_,rfl,_,rfl,Lc,_,_,.ref cs[cs.length-1],rfl,rfl,aW.of J3,wj,cs[cs.length-1],_,_,_,rfl,rfl,aP.of el,aH (j:=0) rfl,_,_,rfl,rfl,(ff.1:Int),(ll.1:Int)+1,rfl,⟨by lia,by lia,by lia,by lia⟩,?_⟩;refine iB (lo:=(ff.1:Int)) (λn σ H'=>∃v4 v5:Option V,σ=[some (.ref pr),some (.ref pb),some (.ref t),some (.ref Lc),v4,v5]/\aA H3 H'/\∀i j,ff.1<=i->i < ff.1+n->ff.2.1<=j->j<=ll.2.1->cell R i j≠46)
   ⟨_,_,rfl,aA.refl _,λi j z1 z2=>by lia⟩ ?_ ?_
  ·rintro n σ H' hn ⟨v4,v5,rfl,nR,hup⟩
   have hn2:ff.1+n<=ll.1:=by lia
   have en:(ff.1:Int)+(n:Int)=((ff.1+n:Nat):Int):=by lia
   rw[en];refine⟨_,rfl,Lc,_,_,.ref cs[0],rfl,rfl,aW.of (nR _ _ J3),aH (j:=0) (by simp[z0]),cs[0],_,_,_,rfl,rfl,aP.of (nR _ _ e0),aH (j:=1) rfl,_,rfl,_,rfl,Lc,_,_,.ref cs[cs.length-1],rfl,rfl,aW.of (nR _ _ J3),wj,cs[cs.length-1],_,_,_,rfl,rfl,aP.of (nR _ _ el),aH (j:=1) rfl,_,_,rfl,rfl,(ff.2.1:Int),(ll.2.1:Int)+1,rfl,⟨by lia,by lia,by lia,by lia⟩,?_⟩;refine iB (lo:=(ff.2.1:Int)) (λm σ H'=>∃v5:Option V,σ=[some (.ref pr),some (.ref pb),some (.ref t),some (.ref Lc),some (.int ((ff.1+n:Nat):Int)),v5]/\aA H3 H'/\∀j,ff.2.1<=j->j < ff.2.1+m->cell R (ff.1+n) j≠46)
    ⟨_,rfl,nR,λj z1 z2=>by lia⟩ ?_ ?_
   ·rintro m σ H5 hm ⟨v5,rfl,jf,hle⟩
    have hm2:ff.2.1+m<=ll.2.1:=by lia
    have em:(ff.2.1:Int)+(m:Int)=((ff.2.1+m:Nat):Int):=by lia
    rw[em];have ci:ff.1+n < r:=by lia
    have cj:ff.2.1+m < w:=by lia
    generalize hii:ff.1+n=ii at ci hle hn2 hup ⊢;generalize hjj:ff.2.1+m=jj at cj hle hm2 ⊢;have g1:ii < ak.length:=by rw[hb.len];exact ci
    have hwi:ak[ii].length=w:=hb.gR _ (ah _);have g2:jj < ak[ii].length:=by lia
    have hce:=cell_eq g1 g2;refine⟨_,rfl,_,rfl,pr,_,_,.str (S ak[ii]),rfl,rfl,aP.of (s3.trans jf _ _ hpr),aH (fW (by simp[g1])),_,rfl,ak[ii],_,ak[ii][jj],rfl,rfl,aT (aG (by lia)),aH (by simp[g2]),[ak[ii][jj]],[46],rfl,rfl,_,rfl,?_⟩;rw[<- hce];have nx:cell R ii jj≠46->∀H',aA H3 H'->∃v5:Option V,([some (.ref pr),some (.ref pb),some (.ref t),some (.ref Lc),some (.int (ii:Int)),some (.int (jj:Int))]:St)=[some (.ref pr),some (.ref pb),some (.ref t),some (.ref Lc),some (.int (ii:Int)),v5]/\aA H3 H'/\∀j,ff.2.1<=j->j < ff.2.1+(m+1)->cell R ii j≠46:=λz H' sH=>⟨_,rfl,sH,λj y1 y2=>by
     by_cases y:j=jj
     ·rw[y];exact z
     ·exact hle j y1 (by lia)⟩
    by_cases hc:cell ak ii jj=46
    ·rw[am (show [cell ak ii jj]=[46] by rw[hc])]
     refine bM ⟨_,rfl,_,rfl,zsz 2,λg hg=>?_⟩;have kg:aA H5 (upd H5 g (HO.tup [.int (ii:Int),.int (jj:Int)])):=aA.upd hg;have eg2:upd H5 g (HO.tup [.int (ii:Int),.int (jj:Int)]) g=some (.tup [.int (ii:Int),.int (jj:Int)]):=au;have sg:=jf.trans kg;generalize upd H5 g (HO.tup [.int (ii:Int),.int (jj:Int)])=H6 at kg eg2 sg ⊢;refine⟨_,rfl,2,.tup [.int (ii:Int),.int (jj:Int)],_,by decide,.tup (aP.of eg2) (.cons (.int _) (.cons (.int _) .nil)),hDs H6 sg,_,rfl,?_⟩;simp only[if_true];by_cases Zr:(ii,jj)∈ts.map fH
     ·rw[am (yE (c:=(ii,jj)).mpr Zr)]
      exact bB (nx (λz=>((hR ii jj ci cj).mp z).2 Zr) H6 sg)
     ·rw[al (λz=>Zr (yE (c:=(ii,jj)).mp z))]
      refine bM ⟨_,rfl,_,rfl,zsz 3,λT hT=>?_⟩;refine q T 3 ii jj _ ((s3.trans sg).trans (aA.upd hT)) (.gap d1 d2 ?_) au;rw[hRR,ef,eg];exact⟨by lia,hn2,by lia,hm2,(hR ii jj ci cj).mpr ⟨hc,Zr⟩,hup,λj y1 y2=>hle j y1 (by lia)⟩
    ·rw[al (show ¬[cell ak ii jj]=[46] from λz=>hc (by injection z))]
     exact bB (bB (nx (λz=>hc ((hR ii jj ci cj).mp z).1) H5 jf))
   ·rintro σ H5 ⟨v5,rfl,jf,hle⟩
    refine⟨_,_,rfl,jf,λi j z1 z2 z3 z4=>?_⟩;by_cases z:i=ff.1+n
    ·rw[z];exact hle j z3 (by lia)
    ·exact hup i j z1 (by lia) z3 z4
  ·rintro σ H4 ⟨v4,v5,rfl,nR,hup⟩
   have d3:lR (bQ ak ts) (d8 ts).1 (dg ts).1 (d8 ts).2.1 (dg ts).2.1:=by
    rw[hRR,ef,eg];exact λi j z1 z2 z3 z4=>hup i j z1 (by lia) z3 z4
   have s4:=s3.trans nR;refine⟨_,rfl,_,rfl,_,rfl,pr,pb,Lc,ak,r,w,bi,bj,cs,ts.map fH,rfl,s4 _ _ hpr,hb,r1,r9,w1,w9,Bb,s4 _ _ hpb,nR _ _ J3,VP.mv nR,Qn,λH5 k5=>⟨_,rfl,?_⟩⟩;rw[agt];have s5:=s4.trans k5;cases hj:nU ak r w bi bj ts with
   | true=>exact bB ⟨zsz 3,λT hT=>q T 9 0 0 _ (s5.trans (aA.upd hT)) (.ok d1 d2 d3 hj) au⟩
   | false=>exact bM ⟨zsz 3,λT hT=>q T 4 0 0 _ (s5.trans (aA.upd hT)) (.mG d1 d2 d3 hj) au⟩
theorem Ft {ak:AA}{ts:List aV}(h:ts.length<=7):(dN ak ts).length<=8:=by
 refine cq (fR _ _) ?_;rw[aa];unfold iW;rw[bc,aa,aa,aI];lia
theorem pU.lt {l:List Nat}(h:pU l):∀c∈l,c < 128:=λc hc=>by have:=(h.az c hc).2;lia
theorem Zt {r w:Nat}{R:AA}(hb:Blk r w R)(r9:r<=9)(w9:w<=9){i j wy:Nat}(hi:i < r):(gU R i j wy).2.2.2.length<=9:=by
 have hll:=pK hb hi (j:=j) (way:=(wy:Int));have h9:(lineOf R i j (wy:Int)).length<=9:=by rw[hll];split <;> assumption
 show (dR _++fO _).length<=9;have a1:=oW ((lineOf R i j (wy:Int)).take (placeOf i j (wy:Int)));have a2:=wg ((lineOf R i j (wy:Int)).drop (placeOf i j (wy:Int)));rw[aI]at a1;rw[bt]at a2;rw[bc];lia
theorem agv {c:Nat}(h:qe c):isLet (PyProof.Rows.lo1 c):=by
 unfold PyProof.Rows.lo1;rcases Y9 h with h | h
 ·have h1:=h.1
  have h2:=h.2;rw[if_neg (by lia)];exact h
 ·rw[if_pos h];exact⟨by lia,by lia⟩
theorem abx {r w:Nat}{ak:AA}{ts:List aV}(hb:Blk r w (bQ ak ts))(hp:∀l∈bQ ak ts,∀c∈l,uR c)(r9:r<=9)(w9:w<=9)(bA:∀t∈ts,inB r w t):∀q∈dN ak ts,pU (wY q):=λq hq=>by
 have hsg:=zB hb hp bA q hq;obtain⟨hm,hl⟩:=eR.mp hq;obtain⟨a,ha,e⟩:=aE.mp hm;have hi:a.1 < r:=by
  rcases a8.mp ha with z | z
  ·obtain⟨u,hu,rfl⟩:=aE.mp z
   exact(bA u (c6 hu)).1
  ·obtain⟨u,hu,rfl⟩:=aE.mp z
   exact(bA u hu).1
 have h9:q.2.2.2.length<=9:=by rw[<- e];exact Zt hb r9 w9 hi
 have h2:=bv hl;unfold wY;refine⟨by rw[aa];lia,by rw[aa];exact h9,λc hc=>?_⟩;obtain⟨d,hd,rfl⟩:=aE.mp hc;exact agv (hsg d hd)
theorem aea {xs:List V}{b:Nat}(h:b<=xs.length):oE xs none (some (b:Int))=xs.take b:=by
 unfold oE;rw[HT.qm,HT.uz,im h];simp
theorem Zu {xs:List V}{a:Nat}(h:a<=xs.length):oE xs (some (a:Int)) none=xs.drop a:=by
 unfold oE;rw[HT.qm,HT.uz,im h,bg (by rw[bt];lia)]
abbrev Tw:=List (List Key × V)
def Er (R W:Nat)(kv:List Key × V):Prop:=∃r c z:Nat,kv=([Sum.inl (r:Int),Sum.inl (c:Int)],.str (S [z]))/\r < R/\c < W/\qe z
theorem aby {R W:Nat}{kvs:Tw}{k:List Key}{v:V}(h:∀kv∈kvs,Er R W kv)(hk:Er R W (k,v)):∀kv∈putK kvs k v,Er R W kv:=by
 unfold putK;intro kv hkv
 split at hkv
 ·obtain⟨p,hp,rfl⟩:=aE.mp hkv
  split
  ·rename_i e
   rw[e];exact hk
  ·exact h p hp
 ·rcases a8.mp hkv with z | z
  ·exact h _ z
  ·rw[ay.mp z];exact hk
theorem aeb (kvs:Tw)(k:List Key)(v:V):0 < (putK kvs k v).length:=by
 unfold putK
 split
 ·rename_i e
  rw[aa];cases kvs with
  | nil=>simp at e
  | cons=>simp
 ·simp
theorem aec {kvs:Tw}{k:List Key}(h:k∈kvs.map (·.1)):∃v,kh kvs k=some v/\(k,v)∈kvs:=by
 induction kvs with
 | nil=>simp at h
 | cons p r ih=>
  by_cases e:p.1=k
  ·exact⟨p.2,uD e,by rw[<- e];exact bq⟩
  ·rw[bP]at h
   rcases bo.mp h with z | z
   ·exact absurd z.symm e
   ·obtain⟨v,a,b⟩:=ih z
    exact⟨v,by rw[uE e];exact a,a_ _ b⟩
def rkK (k:List Key):Nat:=match k with
 | [.inl x,.inl y]=>x.toNat*1000+y.toNat
 | _=>0
noncomputable def Qo (H:Hp)(a:Addr):Nat:=match H a with
 | some (.tup [.int x,.int y])=>x.toNat*1000+y.toNat
 | _=>0
theorem aed {R W:Nat}{H:Hp}:∀{kvs:Tw} {bs:List Addr},(∀kv∈kvs,Er R W kv)->Paired (λ(k:List Key) (b:Addr)=>H b=some (.tup (k.map kV))) (kvs.map (·.1)) bs->
  bs.map (Qo H)=(kvs.map (·.1)).map rkK/\∀b∈bs,∃r c:Nat,[Sum.inl (r:Int),Sum.inl (c:Int)]∈kvs.map (·.1)/\H b=some (.tup [.int r,.int c])/\Qo H b=r*1000+c/\r < R/\c < W:=by
 intro kvs
 induction kvs with
 | nil=>
  intro bs _ p;cases p;exact⟨rfl,λb hb=>by simp at hb⟩
 | cons kv kvs ih=>
  intro bs g p;cases p with
  | @cons _ b _ bs hb p=>
   obtain⟨i1,i2⟩:=ih (λx hx=>g x (a_ _ hx)) p;obtain⟨r,c,z,rfl,r9,c9,z9⟩:=g kv bq;have hb':H b=some (.tup [.int r,.int c]):=hb;have e1:Qo H b=r*1000+c:=by unfold Qo;rw[hb'];rfl
   refine⟨by rw[bP,bP,bP,i1,e1];rfl,λx hx=>?_⟩;rcases bo.mp hx with y | y
   ·subst y
    exact⟨r,c,bq,hb',e1,r9,c9⟩
   ·obtain⟨r,c,a1,a2⟩:=i2 x y
    exact⟨r,c,a_ _ a1,a2⟩
theorem ahz {R W:Nat}(hW:W<=9):∀{kvs:Tw},(∀kv∈kvs,Er R W kv)->(kvs.map (·.1)).Nodup->((kvs.map (·.1)).map rkK).Nodup:=by
 intro kvs
 induction kvs with
 | nil=>exact λ_ _=>gS
 | cons kv kvs ih=>
  intro g nd;rw[bP]at nd;obtain⟨n1,n2⟩:=fi.mp nd;rw[bP,bP];refine fi.mpr ⟨λhm=>n1 ?_,ih (λx hx=>g x (a_ _ hx)) n2⟩;obtain⟨k,hk,e⟩:=aE.mp hm;obtain⟨kv',hkv',rfl⟩:=aE.mp hk;obtain⟨r,c,z,rfl,r9,c9,_⟩:=g kv bq;obtain⟨r',c',z',e',r9',c9',_⟩:=g kv' (a_ _ hkv');rw[e']at e;have e2:r'*1000+c'=r*1000+c:=e;have er:r'=r:=by lia
  have ec:c'=c:=by lia
  have:kv'.1=[Sum.inl (r:Int),Sum.inl (c:Int)]:=by rw[e',er,ec]
  rw[<- this];exact hk
structure m_ (H0 H:Hp)(ps:List Addr)(ts:List aV):Prop where
 len:ps.length=ts.length
 nd:ps.Nodup
 fr:∀p∈ps,H0 p=none
 at_:∀(i:Nat) (p:Addr) (t:aV),ps[i]?=some p->ts[i]?=some t->H p=some (.lst [.int t.1,.int t.2.1,.str (S [t.2.2])])
theorem m_.mv {H0 H H':Hp}{ps:List Addr}{ts:List aV}(h:m_ H0 H ps ts)(k:∀p∈ps,H' p=H p):m_ H0 H' ps ts:=
 ⟨h.len,h.nd,h.fr,λi p t h1 h2=>by rw[k p (be h1)];exact h.at_ i p t h1 h2⟩
theorem m_.Ls {H0 H H':Hp}{ps:List Addr}{ts:List aV}(h:m_ H0 H ps ts)(k:aA H H'):m_ H0 H' ps ts:=
 ⟨h.len,h.nd,h.fr,λi p t h1 h2=>k _ _ (h.at_ i p t h1 h2)⟩
theorem m_.set {H0 H:Hp}{ps:List Addr}{ts:List aV}(h:m_ H0 H ps ts){k:Nat}(hk:k < ps.length)(t':aV):m_ H0 (upd H ps[k] (.lst [.int t'.1,.int t'.2.1,.str (S [t'.2.2])])) ps (ts.set k t'):=by
 refine⟨by rw[eI];exact h.len,h.nd,h.fr,λi p t h1 h2=>?_⟩;by_cases e:i=k
 ·subst e
  rw[ac hk]at h1;rw[dC (by rw[<- h.len];exact hk)]at h2;rw[<- aw h1,<- aw h2,au]
 ·rw[dS (λz=>e z.symm)]at h2
  have hi:i < ps.length:=(af.mp h1).1;have e1:p=ps[i]:=by rw[ac hi]at h1;exact(aw h1).symm
  rw[aM (by rw[e1];exact λz=>e ((my h.nd).mp z))];exact h.at_ i p t h1 h2
theorem m_.get {H0 H:Hp}{ps:List Addr}{ts:List aV}(h:m_ H0 H ps ts){k:Nat}(hk:k < ps.length):∃hk2:k < ts.length,H ps[k]=some (.lst [.int ts[k].1,.int ts[k].2.1,.str (S [ts[k].2.2])]):=
 ⟨by rw[<- h.len];exact hk,h.at_ k _ _ (ac hk) (ac _)⟩
theorem m_.sub {H0 H:Hp}{ps:List Addr}{ts:List aV}(h:m_ H0 H ps ts)(a b:Nat)(hab:a<=b):m_ H0 H (ps.take a++ps.drop b) (ts.take a++ts.drop b):=by
 refine⟨by rw[bc,bc,aI,aI,bt,bt,h.len],?_,λp hp=>?_,λi p t h1 h2=>?_⟩
 ·have:(ps.take a++ps.drop b).Sublist ps:=by
   have e:=kD a ps;rw[show ps.drop b=(ps.drop a).drop (b-a) by rw[List.drop_drop];congr 1;lia];exact(List.Sublist.append (List.Sublist.refl _) (List.drop_sublist _ _)).trans (by rw[e];exact List.Sublist.refl _)
  exact this.nodup h.nd
 ·rcases a8.mp hp with z | z
  ·exact h.fr p (c6 z)
  ·exact h.fr p (gN z)
 ·have hl:=h.len
  by_cases c:i < (ps.take a).length
  ·rw[c8 c,jb (by rw[aI]at c;lia)]at h1
   rw[c8 (by rw[aI]at c ⊢;lia),jb (by rw[aI]at c;lia)]at h2;exact h.at_ i p t h1 h2
  ·rw[cz (by lia),e9]at h1
   rw[cz (by rw[aI]at c ⊢;lia),e9]at h2;have e:(ps.take a).length=(ts.take a).length:=by rw[aI,aI,hl]
   rw[<- e]at h2;exact h.at_ _ p t h1 h2
theorem Zv {R:Addr}{H H1:Hp}{x y1 y2 y3:Int}{ps:List Addr}{ts:List aV}(hR:H R=some (.lst [.int x]))(s:aA H H1)(hl:m_ H H1 ps ts) :
  aA (upd H R (.lst [.int y3])) (upd (upd (upd H1 R (.lst [.int y1])) R (.lst [.int y2])) R (.lst [.int y3]))/\m_ (upd H R (.lst [.int y3])) (upd (upd (upd H1 R (.lst [.int y1])) R (.lst [.int y2])) R (.lst [.int y3])) ps ts:=by
 have ne:∀p∈ps,p≠R:=λp hp z=>by have:=hl.fr p hp;rw[z,hR]at this;cases this
 refine⟨λb o e=>?_,hl.len,hl.nd,λp hp=>?_,λi p t h1 h2=>?_⟩
 ·by_cases z:b=R
  ·rw[z,au]at e;rw[z,au];exact e
  ·rw[aM z]at e;rw[aM z,aM z,aM z];exact s _ _ e
 ·rw[aM (ne p hp)];exact hl.fr p hp
 ·have n:=ne p (be h1)
  rw[aM n,aM n,aM n];exact hl.at_ i p t h1 h2
def Zw:Sp:=λvs H Q _=>∃(t R pr:Addr) (x:Int) (ak:AA) (r w:Nat) (as:List Addr) (ts:List aV),vs=[.ref t,.ref R,.ref pr]/\H R=some (.lst [.int x])/\H pr=some (.tup (Ts ak))/\Blk r w ak/\1<=r/\r<=9/\1<=w/\w<=9/\H t=some (.tup (as.map V.ref))/\cH H as ts/\(∀t∈ts,inB r w t)/\0 < ts.length/\ts.length<=7/\
 ∀(p:Addr) (as:List Addr) (ts:List aV) (H':Hp),Kp R H H'->H' p=some (.tup (as.map V.ref))->cH H' as ts->(∀t∈ts,inB r w t)->(ts.map rk).Pairwise (· < ·)->0 < ts.length->ts.length<=7->Q (.ref p) H'
theorem aee (D:aK K mg "_law_bent" Ik ["_law_laying","_law_rest_here","_law_rows_here"])(aY:mg "len"=none)(g_:mg "list"=none)(cg:mg "tuple"=none)(gk:mg "sorted"=none)(cO:bT P w K mg base "_law_take" 1 ["_law_rest_here","_law_base"] lC):bT P w K mg base "_law_bent" 2 ["_law_laying","_law_rest_here","_law_rows_here"] Zw:=by
 refine D.dM lE (λvs H Q E h=>?_) (λf bL A outer s H vs Q E hr h=>?_)
 ·obtain⟨t,R,pr,x,ak,r,w,as,ts,rfl,_⟩:=h
  rfl
 ·obtain⟨t,R,pr,x,ak,r,w,as,ts,rfl,hR,hpr,hb,r1,r9,w1,w9,ht,hL,bA,h0,h7,q⟩:=h
  have hu:=Uw hr;have hal:=hL.len;have je:(Ts ak).length=r:=by rw[aa,hb.len]
  have hr0:0 < ak.length:=by rw[hb.len];lia
  have hw0:ak[0].length=w:=hb.gR _ (ah _);have hrw:r*w<=81:=e_ r9 w9;have aiL:1<=r*w:=e_ r1 w1;have Lx:pr≠R:=λz=>by rw[z,hR]at hpr;cases hpr
  refine⟨_,(aB (um (ix:=3) (ns:=["_law_one"]) lE.nd rfl (Or.inl rfl) rfl (fD.of ["_law_laying","_law_rest_here","_law_rows_here","_law_some","_law_bend","_law_at","_law_spot","_law_found","_law_row","_law_column","_law_sign_here"] [] (by kernel_rfl)) (dY (qv 0)) (λ_ _ _ _ _=>(oO (show (["_law_one","_law_laying","_law_rest_here","_law_rows_here","_law_some","_law_bend","_law_at","_law_spot","_law_found","_law_row","_law_column","_law_sign_here"]:List Str).Nodup by decide +kernel) rfl (by rfl))) (λ_ _ _ _ _=>cU) (λ_ _ _ _ _=>(dJ (Mt K) (by rfl) g_ fq (aj (qv 0) aq)))) (aB (aU (i:=4) lE.nd rfl (Or.inl rfl) (aX cO hr.mono rfl (aj (qv 1) (aj aD aq)))) (aB (aU (i:=5) lE.nd rfl (Or.inl rfl) (aX cO hr.mono rfl (aj (qv 1) (aj (aN bU (by rfl) aY aS (aj (qv 3) aq)) aq)))) (aB (aU (i:=6) lE.nd rfl (Or.inl rfl) (aX cO hr.mono rfl (aj (qv 1) (aj (bx rm (aN bU (by rfl) aY aS (aj (qv 2) aq)) (aN cI (by rfl) aY aS (aj (aQ bh (qv 2) aD (λ_ _=>rfl)) aq))) aq)))) (aB (gD (cF (QW.qt (mU (bD iJ (qv 4) aD (bw _)) (jX (bD iJ (qv 4) aD (bw _))))) (aF (rD (bx qj (qv 6) (aN cI (by rfl) aY aS (aj (aQ bh (qv 2) aD (λ_ _=>rfl)) aq))) (uK (aQ dD (qv 3) (qv 5) (λ_ _=>rfl)) aD set_list))) bN)) (aB (gD (cF (QW.qt (mU (bD iJ (qv 4) aD (bw _)) (jX (bD iJ (qv 4) aD (bw _))))) (aF (rD (bx o9 (qv 6) (aN cI (by rfl) aY aS (aj (aQ bh (qv 2) aD (λ_ _=>rfl)) aq))) (uK (aQ dD (qv 3) (qv 5) (λ_ _=>rfl)) aD set_list))) bN)) (aB (gD (cF (QW.qt (i_ (bD iJ (qv 4) aD (bw _)) (jw (bD Hl (aN bU (by rfl) aY aS (aj (qv 3) aq)) aD (bw _))))) (aF (aU (i:=3) lE.nd rfl (Or.inl rfl) (bx Ht (kI xW (qv 3) oN (lD (bx dU aD (bx o9 (qv 5) (bx iC (aN bU (by rfl) aY aS (aj (qv 3) aq)) aD))))) (kI xW (qv 3) (lD (bx dU aD (bx o9 (qv 5) (bx iC (aN bU (by rfl) aY aS (aj (qv 3) aq)) aD)))) oN)))) bN)) (aB (aU (i:=7) lE.nd rfl (Or.inr rfl) aaV) (aB (dX bS rfl (gK (qv 3)) (af7 rfl (cD (bO (i:=8) lE.nd rfl (Or.inl rfl)) (cD (bO (i:=9) lE.nd rfl (Or.inl rfl)) (cD (bO (i:=10) lE.nd rfl (Or.inl rfl)) jW)))) (aF (Sh hu (qv 7) (cQ (aj (qv 8) (aj (qv 9) aq))) (qv 10) rfl))) (aF (bf (dJ f9 (by rfl) cg cK (aj (fL (ns:=["_law_row","_law_column"]) rfl (fD.of ["_law_laying","_law_rest_here","_law_rows_here","_law_some","_law_bend","_law_at","_law_spot","_law_found",".8",".9","_law_sign_here"] [8,9] (by kernel_rfl)) (gK (aN Bu (by rfl) gk fT (aj (dJ (U6 rfl) (by rfl) g_ fq (aj (qv 7) aq)) aq))) (λ_ _ _ _ _=>(uh K rfl (show (["_law_row","_law_column","_law_laying","_law_rest_here","_law_rows_here","_law_some","_law_bend","_law_at","_law_spot","_law_found",".8",".9","_law_sign_here"]:List Str).Nodup by decide +kernel) rfl rfl (by rfl) (by rfl))) (λ_ _ _ _ _=>cU) (λ_ _ _ _ _=>(cQ (aj (qv 0) (aj (qv 1) (aj (adA hu (qv 9) (cQ (aj (qv 0) (aj (qv 1) aq))) (λ_ _=>rfl)) aq)))))) aq))))))))))))),?_⟩;refine⟨_,rfl,t,rfl,⟨_,aP.of ht⟩,λL hL0=>tH (K:=K) (a:=t) (f:=eG [] 0) (tt:=gC) (xs:=as.map V.ref) (λn ys H'=>∃ps:List Addr,ys=ps.map V.ref/\H' L=some (.lst ys)/\aA H H'/\m_ H H' ps (ts.take n)/\L∉ps)
   ⟨[],rfl,au,aA.upd hL0,⟨by simp,gS,λp h=>by simp at h,λi p t h=>by simp at h⟩,by simp⟩ (λn ys H' _ h=>by obtain⟨_,_,_,sm,_⟩:=h;exact aP.of (sm _ _ ht)) ?_ ?_⟩
  ·rintro n x ys H' hx ⟨ps,rfl,hL',sm,hl3,nL⟩
   have hn:n < as.length:=by have:=(af.mp hx).1;simpa using this
   have hnt:n < ts.length:=by lia
   rw[a7,ac hn]at hx;have hx:V.ref as[n]=x:=aw hx;subst hx;obtain⟨_,en⟩:=gH (hL.mv sm) hnt;have hpl:ps.length=n:=by rw[hl3.len,aI];lia
   refine U0 ⟨_,rfl,as[n],_,rfl,.inr (aP.of en),λp hp=>?_⟩;have nLp:L≠p:=λz=>by rw[<- z,hL']at hp;cases hp
   have npp:p∉ps:=λz=>by
    obtain⟨k,hk,e⟩:=c_.mp z;obtain⟨_,e2⟩:=hl3.get hk;rw[e,hp]at e2;cases e2
   have kp:aA H' (upd H' p (HO.lst [.int ts[n].1,.int ts[n].2.1,.str (S [ts[n].2.2])])):=aA.upd hp;refine⟨by rw[aM nLp];exact hL',by rw[aa];exact aG (by lia),dI.mk (by rw[aa];exact hn) ⟨ps++[p],by simp,au,(sm.trans kp).cB hL0,?_,?_⟩⟩
   ·rw[show ts.take (n+1)=ts.take n++[ts[n]] by rw[bu,ac hnt];rfl]
    refine m_.mv (H:=upd H' p (HO.lst [.int ts[n].1,.int ts[n].2.1,.str (S [ts[n].2.2])])) ⟨by simp[hl3.len];lia,?_,λy hy=>?_,λi y u h1 h2=>?_⟩ λy hy=>aM λz=>?_
    ·rw[ml]
     refine⟨hl3.nd,by simp,λa ha b hb=>?_⟩;rw[ay.mp hb];exact λz=>npp (z ▸ ha)
    ·rcases a8.mp hy with z | z
     ·exact hl3.fr y z
     ·rw[ay.mp z];exact sm.free hp
    ·by_cases ci:i < ps.length
     ·rw[c8 ci]at h1
      rw[c8 (by rw[<- hl3.len];exact ci)]at h2;exact kp _ _ (hl3.at_ i y u h1 h2)
     ·rw[cz (by lia)]at h1
      rw[cz (by rw[<- hl3.len];lia),<- hl3.len]at h2
      match i-ps.length,h1,h2 with
      | 0,h1,h2=>
       rw[<- aw h1,<- aw h2];exact au
      | m+1,h1,_=>simp at h1
    ·rcases a8.mp hy with u | u
     ·exact nL (z ▸ u)
     ·exact nLp (z.symm.trans (ay.mp u))
   ·intro z
    rcases a8.mp z with u | u
    ·exact nL u
    ·exact nLp (ay.mp u)
  rintro ys H1 ⟨ps,rfl,hL1,s1,hl3,nL⟩;rw[aa,hal,bX]at hl3;have hpl:ps.length=ts.length:=hl3.len;have hpm:(ps.map V.ref).length=ps.length:=aa ..;have Cz:L≠R:=λz=>by rw[z,hR]at hL0;cases hL0
  have yr:=s1 _ _ hR;have agw:=s1 _ _ hpr;refine⟨_,rfl,R,x,6,rfl,yr,by decide,by decide,λbd y1 hbd=>?_⟩;refine⟨_,rfl,_,rfl,L,_,rfl,.inl (aW.of (by rw[aM Cz];exact hL1)),R,y1,(ps.map V.ref).length,rfl,au,by lia,by lia,λk y2 hk0=>?_⟩;have hk:k < ps.length:=by lia
  have em:((Ts ak).length:Int)*((ak[0].length:Nat):Int)=((r*w:Nat):Int):=by rw[je,hw0];exact(Int.natCast_mul r w).symm
  have abz:upd (upd H1 R (.lst [.int y1])) R (.lst [.int y2]) pr=some (.tup (Ts ak)):=by rw[aM Lx,aM Lx];exact agw
  refine⟨_,rfl,_,rfl,pr,_,rfl,.inr (aP.of abz),_,rfl,pr,_,_,.str (S ak[0]),rfl,rfl,aP.of abz,aH (j:=0) (fW (by simp[hr0])),_,rfl,aT (aG (by lia)),_,_,rfl,rfl,.inl ⟨by lia,by lia⟩,R,y2,r*w,by show [V.ref R,V.int (((Ts ak).length:Int)*((ak[0].length:Nat):Int))]=_;rw[em],au,by lia,by lia,λsp y3 hsp=>?_⟩;obtain⟨sn,abA⟩:=Zv (y1:=y1) (y2:=y2) (y3:=y3) hR s1 hl3;have lO:upd (upd (upd H1 R (.lst [.int y1])) R (.lst [.int y2])) R (.lst [.int y3]) L=some (.lst (ps.map V.ref)):=by rw[aM Cz,aM Cz,aM Cz];exact hL1
  have agx:upd H R (.lst [.int y3]) pr=some (.tup (Ts ak)):=by rw[aM Lx];exact hpr
  have kn:Kp R H (upd H R (.lst [.int y3])):=Kp.up y3;generalize upd (upd (upd H1 R (.lst [.int y1])) R (.lst [.int y2])) R (.lst [.int y3])=Hm at sn abA lO ⊢;generalize upd H R (.lst [.int y3])=Hn at sn abA agx kn;clear hl3 hL1 s1 hpr hR yr agw abz ht hL hL0;have hpr:=agx;have hl3:=abA;have hL1:=lO;have s1:=sn;have VN:=s1 _ _ hpr;generalize Hm=H1 at *
  have hdiv:sp/w < r:=kX (by rw[mM];exact hsp);have hmod:sp%w < w:=Nat.mod_lt _ (by lia);have ediv:(sp:Int)/((ak[0].length:Nat):Int)=((sp/w:Nat):Int):=by rw[hw0];exact(Int.natCast_ediv sp w).symm
  have emod:(sp:Int)%((ak[0].length:Nat):Int)=((sp%w:Nat):Int):=by rw[hw0];exact(Int.natCast_emod sp w).symm
  have St1:∃S1:St->Hp->Prop,S1=λσ H'=>∃lU:List aV,σ=[some (.ref t),some (.ref R),some (.ref pr),some (.ref L),some (.int bd),some (.int (k:Int)),some (.int (sp:Int)),none,none,none,none]/\aA Hn H'/\H' L=some (.lst (ps.map V.ref))/\m_ Hn H' ps lU/\(∀t∈lU,inB r w t)/\lU.length=ts.length:=⟨_,rfl⟩
  obtain⟨S1,Tz⟩:=St1;have nLk:L≠ps[k]:=λz=>nL (by rw[z];exact ah _);have Qp:∀(lU:List aV) (H':Hp),aA Hn H'->H' L=some (.lst (ps.map V.ref))->m_ Hn H' ps lU->(∀t∈lU,inB r w t)->lU.length=ts.length->∀(i0 j0:Nat),i0 < r->j0 < w->∀(hk2:k < lU.length),S1 [some (.ref t),some (.ref R),some (.ref pr),some (.ref L),some (.int bd),some (.int (k:Int)),some (.int (sp:Int)),none,none,none,none] (upd H' ps[k] (.lst [.int (i0:Int),.int (j0:Int),.str (S [lU[k].2.2])])):=by
   intro lU H' sm hL' agy vg hlen2 i0 j0 hi0 hj0 hk2;rw[Tz];refine⟨lU.set k (i0,j0,lU[k].2.2),rfl,sm.cB (agy.fr _ (ah _)),by rw[aM nLk];exact hL',agy.set hk (i0,j0,lU[k].2.2),λu hu=>?_,by rw[eI];exact hlen2⟩;rcases d9 hu with z | z
   ·exact vg u z
   ·rw[z];exact⟨hi0,hj0,(vg _ (ah hk2)).2.2⟩
  have lz:ak[0].length<=sizeLine:=aT (aG (by lia));have lk3:∀x y z:V,([x,y,z]:List V).length=3:=λ_ _ _=>rfl;refine⟨S1,?_,?_⟩
  ·have stay:S1 [some (.ref t),some (.ref R),some (.ref pr),some (.ref L),some (.int bd),some (.int (k:Int)),some (.int (sp:Int)),none,none,none,none] H1:=by rw[Tz];exact⟨ts,rfl,s1,hL1,hl3,bA,rfl⟩
   obtain⟨hk2,ekk⟩:=hl3.get hk;refine⟨_,rfl,rfl,_,rfl,jl (λ_=>?_) (λ_=>⟨_,rfl,rfl,_,rfl,jl (λ_=>?_) (λ_=>stay)⟩)⟩
   ·refine⟨_,rfl,_,rfl,pr,_,_,.str (S ak[0]),rfl,rfl,aP.of (VN),aH (j:=0) (fW (by simp[hr0])),_,rfl,lz,_,_,rfl,rfl,⟨by lia,by lia⟩,_,rfl,_,rfl,L,_,_,.ref ps[k],rfl,rfl,aW.of hL1,aH (by simp[hk]),ps[k],_,_,0,rfl,rfl,ekk,rfl,?_⟩
    dsimp only;rw[ediv];exact Qp ts H1 s1 hL1 hl3 bA rfl (sp/w) ts[k].2.1 hdiv (bA _ (ah hk2)).2.1 hk2
   ·refine⟨_,rfl,_,rfl,pr,_,_,.str (S ak[0]),rfl,rfl,aP.of (VN),aH (j:=0) (fW (by simp[hr0])),_,rfl,lz,_,_,rfl,rfl,⟨by lia,by lia⟩,_,rfl,_,rfl,L,_,_,.ref ps[k],rfl,rfl,aW.of hL1,aH (by simp[hk]),ps[k],_,_,0,rfl,rfl,ekk,rfl,?_⟩
    dsimp only;rw[ediv];exact Qp ts H1 s1 hL1 hl3 bA rfl (sp/w) ts[k].2.1 hdiv (bA _ (ah hk2)).2.1 hk2
  intro σ2 H2 hS;rw[Tz]at hS;obtain⟨lU,rfl,s2,hL2,Qq,vg,hlen2⟩:=hS;refine⟨S1,?_,?_⟩
  ·have stay:S1 [some (.ref t),some (.ref R),some (.ref pr),some (.ref L),some (.int bd),some (.int (k:Int)),some (.int (sp:Int)),none,none,none,none] H2:=by rw[Tz];exact⟨lU,rfl,s2,hL2,Qq,vg,hlen2⟩
   obtain⟨hk2,ekk⟩:=Qq.get hk;refine⟨_,rfl,rfl,_,rfl,jl (λ_=>?_) (λ_=>⟨_,rfl,rfl,_,rfl,jl (λ_=>?_) (λ_=>stay)⟩)⟩
   ·refine⟨_,rfl,_,rfl,pr,_,_,.str (S ak[0]),rfl,rfl,aP.of (s2 _ _ hpr),aH (j:=0) (fW (by simp[hr0])),_,rfl,lz,_,_,rfl,rfl,(by show (0:Int) < ((ak[0].length:Nat):Int);lia),_,rfl,_,rfl,L,_,_,.ref ps[k],rfl,rfl,aW.of hL2,aH (by simp[hk]),ps[k],_,_,1,rfl,rfl,ekk,rfl,?_⟩
    dsimp only;rw[emod];exact Qp lU H2 s2 hL2 Qq vg hlen2 lU[k].1 (sp%w) (vg _ (ah hk2)).1 hmod hk2
   ·refine⟨_,rfl,_,rfl,pr,_,_,.str (S ak[0]),rfl,rfl,aP.of (s2 _ _ hpr),aH (j:=0) (fW (by simp[hr0])),_,rfl,lz,_,_,rfl,rfl,(by show (0:Int) < ((ak[0].length:Nat):Int);lia),_,rfl,_,rfl,L,_,_,.ref ps[k],rfl,rfl,aW.of hL2,aH (by simp[hk]),ps[k],_,_,1,rfl,rfl,ekk,rfl,?_⟩
    dsimp only;rw[emod];exact Qp lU H2 s2 hL2 Qq vg hlen2 lU[k].1 (sp%w) (vg _ (ah hk2)).1 hmod hk2
  intro σ4 H4 hS;rw[Tz]at hS;obtain⟨ts4,rfl,s4,j7,abB,VR,ahA⟩:=hS;clear Qp Tz;refine⟨λσ H'=>∃(M:Addr) (qs:List Addr) (CJ:List aV),σ=[some (.ref t),some (.ref R),some (.ref pr),some (.ref M),some (.int bd),some (.int (k:Int)),some (.int (sp:Int)),none,none,none,none]/\aA Hn H'/\H' M=some (.lst (qs.map V.ref))/\m_ Hn H' qs CJ/\(∀t∈CJ,inB r w t)/\0 < CJ.length/\CJ.length<=7,?_,?_⟩
  ·refine⟨_,rfl,rfl,_,rfl,?_⟩
   have stay:∃(M:Addr) (qs:List Addr) (CJ:List aV),([some (.ref t),some (.ref R),some (.ref pr),some (.ref L),some (.int bd),some (.int (k:Int)),some (.int (sp:Int)),none,none,none,none]:St)=[some (.ref t),some (.ref R),some (.ref pr),some (.ref M),some (.int bd),some (.int (k:Int)),some (.int (sp:Int)),none,none,none,none]/\aA Hn H4/\H4 M=some (.lst (qs.map V.ref))/\m_ Hn H4 qs CJ/\(∀t∈CJ,inB r w t)/\0 < CJ.length/\CJ.length<=7:=⟨L,ps,ts4,rfl,s4,j7,abB,VR,by lia,by lia⟩
   refine jl (λ_=>?_) (λ_=>bB stay);refine⟨_,rfl,L,_,rfl,.inl (aW.of j7),_,_,rfl,rfl,_,rfl,?_⟩;by_cases h2:(2:Int) < (((ps.map V.ref).length:Nat):Int)
   ·rw[am h2]
    obtain⟨m,em2,hm2⟩:∃m:Nat,(k:Int)%((((ps.map V.ref).length:Nat):Int)-2)=(m:Int)/\m+2 < ps.length:=by
     have a1:=Int.emod_nonneg (k:Int) (show (((ps.map V.ref).length:Nat):Int)-2≠0 by lia);have a2:=Int.emod_lt_of_pos (k:Int) (show (0:Int) < (((ps.map V.ref).length:Nat):Int)-2 by lia);exact⟨((k:Int)%((((ps.map V.ref).length:Nat):Int)-2)).toNat,by lia,by lia⟩
    refine bM ⟨_,rfl,_,rfl,_,rfl,L,_,rfl,.inl (aW.of j7),_,_,rfl,rfl,_,_,rfl,rfl,(by show (0:Int) < (((ps.map V.ref).length:Nat):Int)-2;lia),_,_,rfl,rfl,_,rfl,L,_,rfl,aW.of j7,λM1 hM1=>?_⟩;dsimp only;rw[em2,show (1:Int)+(m:Int)=((1+m:Nat):Int) by lia,aea (by lia),<- List.map_take];have k1:aA H4 (upd H4 M1 (HO.lst ((ps.take (1+m)).map V.ref))):=aA.upd hM1;have e1:upd H4 M1 (HO.lst ((ps.take (1+m)).map V.ref)) M1=some (.lst ((ps.take (1+m)).map V.ref)):=au;generalize upd H4 M1 (HO.lst ((ps.take (1+m)).map V.ref))=H5 at k1 e1 ⊢;refine⟨_,rfl,_,rfl,_,rfl,L,_,rfl,.inl (aW.of (k1 _ _ j7)),_,_,rfl,rfl,_,_,rfl,rfl,(by show (0:Int) < (((ps.map V.ref).length:Nat):Int)-2;lia),_,_,rfl,rfl,_,rfl,L,_,rfl,aW.of (k1 _ _ j7),λM2 lN=>?_⟩;dsimp only;rw[em2,show (2:Int)+(m:Int)=((2+m:Nat):Int) by lia,Zu (by lia),<- List.map_drop];have k2:aA H5 (upd H5 M2 (HO.lst ((ps.drop (2+m)).map V.ref))):=aA.upd lN;have e2:upd H5 M2 (HO.lst ((ps.drop (2+m)).map V.ref)) M2=some (.lst ((ps.drop (2+m)).map V.ref)):=au;have e1':=k2 _ _ e1;generalize upd H5 M2 (HO.lst ((ps.drop (2+m)).map V.ref))=H6 at k2 e2 e1' ⊢;refine⟨M1,M2,_,_,rfl,rfl,e1',e2,aT (aG (by rw[aa,aa,aI,bt];lia)),λM3 lZ=>?_⟩;have k3:aA H6 (upd H6 M3 (HO.lst ((ps.take (1+m)).map V.ref++(ps.drop (2+m)).map V.ref))):=aA.upd lZ;have s47:=(k1.trans k2).trans k3;refine⟨M3,ps.take (1+m)++ps.drop (2+m),ts4.take (1+m)++ts4.drop (2+m),rfl,s4.trans s47,by rw[au,bz],(abB.Ls s47).sub _ _ (by lia),λu hu=>?_,?_,?_⟩
    ·rcases a8.mp hu with z | z
     ·exact VR u (c6 z)
     ·exact VR u (gN z)
    ·rw[bc,aI];lia
    ·rw[bc,aI,bt];lia
   ·rw[al h2]
    exact bB stay
  clear j7 abB VR ahA s4 Qq hL2 vg hlen2 s2;rintro σ5 H5 ⟨M,qs,CJ,rfl,s5,Mf,agz,aik,h05,h75⟩;have hql:=agz.len;intro d hd;have s6:aA H5 (upd H5 d (.dT [])):=aA.upd hd;have hd0:Hn d=none:=s5.free hd;refine⟨_,rfl,M,rfl,⟨_,aW.of (s6 _ _ Mf)⟩,oA (K:=K) (a:=M) (xs:=qs.map V.ref) (λn σ H'=>∃(v7 v8 v9:Option V) (kvs:Tw),σ=[some (.ref t),some (.ref R),some (.ref pr),some (.ref M),some (.int bd),some (.int (k:Int)),some (.int (sp:Int)),some (.ref d),v7,v8,v9]/\aA H5 H'/\H' d=some (.dT kvs)/\(∀kv∈kvs,Er r w kv)/\kvs.length<=n/\(0 < n->0 < kvs.length))
   ⟨none,none,none,[],rfl,s6,au,λkv h=>by simp at h,ap _,λz=>absurd z (by decide)⟩ (λn σ H' _ h=>by obtain⟨_,_,_,_,_,sm,_⟩:=h;exact aW.of (sm _ _ Mf)) ?_ ?_⟩
  ·rintro n x σ H6 hx ⟨v7,v8,v9,kvs,rfl,sm,hd6,hg,hkl,_⟩
   have hn:n < qs.length:=by have:=(af.mp hx).1;simpa using this
   rw[a7,ac hn]at hx;have hx:V.ref qs[n]=x:=aw hx;subst hx;obtain⟨hn5,en⟩:=agz.get hn;obtain⟨b1,b2,b3⟩:=aik _ (ah hn5);generalize CJ[n]=z at en b1 b2 b3;refine⟨qs[n],_,rfl,aW.of (sm _ _ en),rfl,_,_,rfl,_,_,rfl,_,_,rfl,rfl,?_⟩;refine⟨_,rfl,_,rfl,_,rfl,_,rfl,zsz 2,λb hb=>?_⟩;have ndb:d≠b:=λy=>by rw[<- y,hd6]at hb;cases hb
   refine⟨d,_,rfl,yM.t (k:=[Sum.inl (z.1:Int),Sum.inl (z.2.1:Int)]) (by rw[aM ndb];exact hd6) au (aG (by lia)),?_⟩;refine⟨_,_,_,putK kvs [Sum.inl (z.1:Int),Sum.inl (z.2.1:Int)] (.str (S [z.2.2])),rfl,(sm.cB (sm.free hb)).cB hd,au,aby hg ⟨z.1,z.2.1,z.2.2,rfl,b1,b2,b3⟩,?_,λ_=>aeb _ _ _⟩;have:=wU kvs [Sum.inl (z.1:Int),Sum.inl (z.2.1:Int)] (.str (S [z.2.2]));lia
  ·rintro σ H2 ⟨v7,v8,v9,kvs,rfl,sm,hd2,hg,hkl,hkp⟩
   rw[aa]at hkl hkp;refine⟨_,rfl,d,kvs,rfl,hd2,λnd L bs hL pb=>?_⟩;obtain⟨e1,e2⟩:=aed hg pb;have mj:bs.length=kvs.length:=by have:=congrArg List.length e1;simpa using this
   have hk7:kvs.length<=7:=by lia
   have hk1:1<=kvs.length:=hkp (by lia);have s3:aA H2 (upd H2 L (.lst (bs.map V.ref))):=aA.upd hL;refine⟨L,bs,Qo H2,rfl,aW.of au,by lia,λb hb=>?_,by rw[e1];exact ahz w9 hg nd,λL2 bs' hL2 pm pw=>?_⟩
   ·obtain⟨r',c',_,a2,a3,r9',c9'⟩:=e2 b hb
    exact⟨r',c',[],s3 _ _ a2,by lia,a3,.inl rfl⟩
   ·have s4:=s3.cB (o:=.lst (bs'.map V.ref)) (s3.free hL2)
    refine⟨L2,rfl,⟨_,aW.of au⟩,λM hM=>nQ (f:=eG [8,9] 0) (tt:=gC) (xs:=bs'.map V.ref) (λi ys H6=>∃(as:List Addr) (ts:List aV),ys=as.map V.ref/\as.length=i/\H6 M=some (.lst ys)/\aA (upd (upd H2 L (.lst (bs.map V.ref))) L2 (.lst (bs'.map V.ref))) H6/\cH H6 as ts/\ts.map rk=(bs'.take i).map (Qo H2)/\∀t∈ts,inB r w t)
     ⟨[],[],rfl,rfl,au,aA.upd hM,cH.nil,rfl,λt h=>by simp at h⟩ (λi ys H6 _ h=>by obtain⟨_,_,_,_,_,rK,_⟩:=h;exact aW.of (rK _ _ au)) ?_ ?_⟩
    ·rintro i x ys H6 hx ⟨as,ts,rfl,hal,Mg,rK,hB,hrk,abC⟩
     rw[a7]at hx;have hi:i < bs'.length:=by
      rcases jv i bs'.length with z | z
      ·exact z
      ·rw[e7 z]at hx;cases hx
     rw[ac hi]at hx;have hx:V.ref bs'[i]=x:=aw hx;obtain⟨r',c',hkey,a2,a3,r9',c9'⟩:=e2 bs'[i] (pm.mem_iff.mp (ah _));obtain⟨v,hv,Ci⟩:=aec hkey;obtain⟨r'',c'',z,ez,_,_,z9⟩:=hg _ Ci;have ev:v=.str (S [z]):=(Prod.mk.inj ez).2;subst ev;have sd:aA H2 H6:=s4.trans rK;refine U3 hx.symm (aP.of (sd _ _ a2)) ?_;refine⟨_,rfl,_,rfl,_,rfl,_,rfl,_,rfl,zsz 2,λb hb=>?_⟩;have ndb:d≠b:=λy=>by rw[<- y,sd _ _ hd2]at hb;cases hb
     refine⟨d,.str (S [z]),rfl,hv ▸ uF.t (k:=[Sum.inl (r':Int),Sum.inl (c':Int)]) (by rw[aM ndb];exact sd _ _ hd2) au,zsz 3,λg hgn=>?_⟩;have s7:aA H6 (upd H6 b (.tup [.int r',.int c'])):=aA.upd hb;have s8:=s7.cB (o:=.tup [.int r',.int c',.str (S [z])]) (s7.free hgn);have hM8:=s8 _ _ Mg;refine⟨hM8,by rw[aa,hal];exact aG (by have:=pm.length_eq;lia),dI.mk (by rw[aa];exact hi) ⟨as++[g],ts++[(r',c',z)],by simp,by simp[hal],by rw[au],?_,?_,?_,?_⟩⟩
     ·exact(rK.trans s8).cB hM
     ·refine cH.snoc ((hB.mv s8).iw (zm hM8)) ?_
      exact zm hM8 _ _ au
     ·rw[bz,hrk,nB,ac hi]
      rw[bz];show _++[r'*1000+c']=_++[Qo H2 bs'[i]]
      rw[a3]
     ·intro t ht
      rcases a8.mp ht with y | y
      ·exact abC t y
      ·rw[ay.mp y];exact⟨r9',c9',z9⟩
    ·rintro ys H6 ⟨as,ts,rfl,hal,Mg,rK,hB,hrk,abC⟩
     rw[aa]at hal;rw[bg (by rw[aa];exact ap _)]at hrk;have aiM:=pm.length_eq;have aiN:=hB.len;refine⟨M,_,rfl,.inl ⟨aW.of Mg,λl hl=>?_⟩⟩;have sl:aA H6 (upd H6 l (.tup (as.map V.ref))):=aA.upd hl;exact q l as ts _ (kn.same (((s5.trans sm).trans (s4.trans rK)).trans sl)) au (hB.mv sl) abC (by rw[hrk];exact pw) (by lia) (by lia)
def TF:Sp:=λvs H Q _=>∃(t R:Addr) (x:Int) (as:List Addr) (ts:List aV) (ls:List Nat) (r w:Nat),vs=[.ref t,.ref R,.str (S ls)]/\H R=some (.lst [.int x])/\H t=some (.tup (as.map V.ref))/\cH H as ts/\(∀t∈ts,inB r w t)/\0 < ts.length/\ts.length<=7/\JF ls/\
 ∀(l:List Nat) (H':Hp),Kp R H H'->l.length<=7->Q (.str (S l)) H'
theorem abD (D:aK K mg "_law_rack" Il ["_law_laying","_law_rest_here","_law_letters_here"])(aY:mg "len"=none)(jH:mg "int"=none)(cO:bT P w K mg base "_law_take" 1 ["_law_rest_here","_law_base"] lC):bT P w K mg base "_law_rack" 2 ["_law_laying","_law_rest_here","_law_letters_here"] TF:=by
 refine D.dM iQ (λvs H Q E h=>?_) (λf bL A outer s H vs Q E hr h=>?_)
 ·obtain⟨t,R,x,as,ts,ls,r,w,rfl,_⟩:=h
  rfl
 ·obtain⟨t,R,x,as,ts,ls,r,w,rfl,hR,ht,hL,bA,h0,h7,hA,q⟩:=h
  have hal:=hL.len;have hl2:=hA.lo;have agA:=hA.hi;have Cp:ls.length<=sizeLine:=aT (aG (by lia));refine⟨_,(aB (aU (i:=3) iQ.nd rfl (Or.inl rfl) (eU aq)) (aB (dX bS rfl (dY (qv 0)) (nO rfl (cD (bO (i:=4) iQ.nd rfl (Or.inl rfl)) (cD (bO (i:=5) iQ.nd rfl (Or.inl rfl)) (cD (bO (i:=6) iQ.nd rfl (Or.inl rfl)) jW)))) (aF (dO (gw cv dm dq gP (qv 3) (aj (aQ dD (eU (aj (qv 6) (aj (b_ [63] (by decide +kernel)) aq))) (dJ vC (by rfl) jH gt (aj (d_ nJ (qv 6) (rE bE ft fv yc (qv 6)) (bw _)) aq)) (λ_ _=>rfl)) aq))))) (aB (aU (i:=7) iQ.nd rfl (Or.inl rfl) (aX cO hr.mono rfl (aj (qv 1) (aj aD aq)))) (aB (gD (cF (bD iJ (qv 7) aD (bw _)) (aF (aU (i:=3) iQ.nd rfl (Or.inl rfl) (kI xW (qv 3) oN (lD (aX cO hr.mono rfl (aj (qv 1) (aj (bx dU (aN bU (by rfl) aY aS (aj (qv 3) aq)) aD) aq))))))) bN)) (aB (gD (cF (bD iJ (qv 7) aD (bw _)) (aB (aU (i:=8) iQ.nd rfl (Or.inl rfl) (bx jg (qv 2) (b_ [63] (by decide +kernel)))) (aF (rD (aQ nj (qv 8) (aX cO hr.mono rfl (aj (qv 1) (aj (aN cI (by rfl) aY aS (aj (qv 8) aq)) aq))) (λ_ _=>rfl)) (uK (qv 3) (aX cO hr.mono rfl (aj (qv 1) (aj (aN bU (by rfl) aY aS (aj (qv 3) aq)) aq))) set_list)))) bN)) (aB (gD (cF (bD iJ (qv 7) aD (bw _)) (aF (dO (rE cv PySem.F.slot_list_reverse PySem.F.type_list_reverse Uv (qv 3)))) bN)) (aB (aU (i:=9) iQ.nd rfl (Or.inl rfl) (b_ [] (by decide +kernel))) (aB (dX bS rfl (gK (qv 3)) (bO (i:=10) iQ.nd rfl (Or.inl rfl)) (aF (gD (cF (QW.qt (mU (bD nJ (qv 10) (b_ [63] (by decide +kernel)) (bw _)) (jX (bD jQ (gw bE PySem.F.slot_str_count PySem.F.type_str_count XQ (qv 9) (aj (b_ [63] (by decide +kernel)) aq)) aD (bw _))))) (aF (aU (i:=9) iQ.nd rfl (Or.inl rfl) (bx jg (qv 9) (qv 10)))) bN)))) (aB (aU (i:=11) iQ.nd rfl (Or.inl rfl) (aX cO hr.mono rfl (aj (qv 1) (aj aD aq)))) (aB (gD (yO bS (QW.qt (i_ (bD jQ (aN cI (by rfl) aY aS (aj (qv 9) aq)) aD (bw _)) (jw (bD Hl (qv 11) aD (bw _))))) (aB (aU (i:=9) iQ.nd rfl (Or.inl rfl) (bx jg (qv 9) (aQ nj (qv 2) (aX cO hr.mono rfl (aj (qv 1) (aj (aN cI (by rfl) aY aS (aj (qv 2) aq)) aq))) (λ_ _=>rfl)))) (aF (aU (i:=11) iQ.nd rfl (Or.inl rfl) (bx qj (qv 11) aD)))))) (aF (bf (qv 9))))))))))))),?_⟩;refine⟨zsz 0,λL hL0=>?_⟩;have s1:aA H (upd H L (HO.lst [])):=aA.upd hL0;refine⟨_,rfl,t,rfl,⟨_,aP.of (s1 _ _ ht)⟩,mO (K:=K) (a:=t) (xs:=as.map V.ref) (λn σ H2=>∃(v4 v5 v6:Option V) (us:AA),σ=[some (.ref t),some (.ref R),some (.str (S ls)),some (.ref L),v4,v5,v6,none,none,none,none,none]/\aA H H2/\H2 L=some (.lst (Ts us))/\us.length=n/\∀u∈us,u.length=1)
   ⟨none,none,none,[],rfl,s1,au,rfl,λu hu=>by simp at hu⟩ (λn σ H2 _ h=>by obtain⟨_,_,_,_,_,sm,_⟩:=h;exact aP.of (sm _ _ ht)) ?_ ?_⟩
  ·rintro n x σ H2 hx ⟨v4,v5,v6,us,rfl,sm,hL2,Fl,hu1⟩
   have hn:n < as.length:=by have:=(af.mp hx).1;simpa using this
   have hnt:n < ts.length:=by lia
   rw[a7,ac hn]at hx;have hx:V.ref as[n]=x:=aw hx;subst hx;obtain⟨_,en⟩:=gH (hL.mv sm) hnt;have hsg:=(bA _ (ah hnt)).2.2;generalize hz:ts[n]=z at en hsg;refine⟨as[n],_,rfl,aP.of en,rfl,_,_,rfl,_,_,rfl,_,_,rfl,rfl,?_⟩;refine⟨_,rfl,.inl ⟨rfl,_,aW.of hL2⟩,_,rfl,zsz 2,λZ hZ=>?_⟩;have kZ:aA H2 (upd H2 Z (HO.lst [.str (S [z.2.2]),.str (S [63])])):=aA.upd hZ;have eZ:upd H2 Z (HO.lst [.str (S [z.2.2]),.str (S [63])]) Z=some (.lst [.str (S [z.2.2]),.str (S [63])]):=au;have sV:=kZ _ _ hL2;have s3:=sm.trans kZ;generalize upd H2 Z (HO.lst [.str (S [z.2.2]),.str (S [63])])=H3 at kZ eZ sV s3 ⊢;obtain⟨a,ha⟩:∃a:Nat,oM [V.str (S [z.2.2]),V.str (S [63])] (if (!decide ([z.2.2]=[z.2.2].map PyProof.Rows.lo1))=true then 1 else 0)=some (.str (S [a])):=by
    by_cases e:(!decide ([z.2.2]=[z.2.2].map PyProof.Rows.lo1))=true
    ·rw[if_pos e];exact⟨63,rfl⟩
    ·rw[if_neg e];exact⟨z.2.2,rfl⟩
   refine⟨_,rfl,_,rfl,rfl,[z.2.2],rfl,rfl,by show 1<=1000;decide,λd hd=>by rw[ay.mp hd];exact hsg.lt,_,_,rfl,rfl,.inr ⟨_,rfl,Z,_,_,.str (S [a]),rfl,rfl,aW.of eZ,ha,L,_,_,rfl,rfl,sV,by rw[aa];exact aG (by lia),?_⟩⟩;exact⟨_,_,_,us++[[a]],rfl,s3.cB hL0,by rw[au,lF],by simp[Fl],λu hu=>by
     rcases a8.mp hu with y | y
     ·exact hu1 u y
     ·rw[ay.mp y];rfl⟩
  rintro σ H2 ⟨v4,v5,v6,us,rfl,sm,hL2,Fl,hu1⟩;rw[aa]at Fl;have ail:us.length<=7:=by lia
  have ain:1<=us.length:=by lia
  have ner:∀M:Addr,H M=none->M≠R:=λM hM z=>by rw[z,hR]at hM;cases hM
  have Cz:=ner L hL0;refine⟨_,rfl,R,x,4,rfl,sm _ _ hR,by decide,by decide,λtn y1 htn=>?_⟩;have k3:Kp R H (upd H2 R (.lst [.int y1])):=(Kp.of hR sm).trans (Kp.up y1);have sW:upd H2 R (.lst [.int y1]) R=some (.lst [.int y1]):=au;have sV:upd H2 R (.lst [.int y1]) L=some (.lst (Ts us)):=by rw[aM Cz];exact hL2
  generalize upd H2 R (.lst [.int y1])=H3 at k3 sW sV ⊢;have aio:∀(H':Hp) (M:Addr) (o:HO),Kp R H H'->H' M=none->Kp R H (upd H' M o)/\H M=none:=λH' M o k hM=>by
   obtain⟨a,b⟩:=k.free hM;exact⟨k.new a b,a⟩
  refine⟨λσ' H'=>∃(L':Addr) (vs:AA),σ'=[some (.ref t),some (.ref R),some (.str (S ls)),some (.ref L'),v4,v5,v6,some (.int tn),none,none,none,none]/\Kp R H H'/\H L'=none/\H' L'=some (.lst (Ts vs))/\vs.length<=7/\(∀u∈vs,u.length=1)/\(tn=2->1<=vs.length),?_,?_⟩
  ·refine⟨_,rfl,rfl,_,rfl,?_⟩
   by_cases e:tn=1
   ·rw[am (show V.int (tn:Int)=V.int 1 by rw[e];rfl)]
    refine bM ⟨_,rfl,_,rfl,_,rfl,L,_,rfl,.inl (aW.of sV),_,_,rfl,rfl,R,y1,(Ts us).length+1,by show [V.ref R,V.int (((Ts us).length:Int)+1)]=_;rw[show ((Ts us).length:Int)+1=(((Ts us).length+1:Nat):Int) by lia],sW,by lia,by rw[aa];lia,λdd y2 hdd=>?_⟩;have k4:Kp R H (upd H3 R (.lst [.int y2])):=k3.trans (Kp.up y2);have j7:upd H3 R (.lst [.int y2]) L=some (.lst (Ts us)):=by rw[aM Cz];exact sV
    generalize upd H3 R (.lst [.int y2])=H4 at k4 j7 ⊢;refine⟨_,rfl,L,_,rfl,aW.of j7,λM hM=>?_⟩;obtain⟨vs,evs,hvl,hvm⟩:∃vs:List (List Nat),oE (Ts us) none (some (dd:Int))=Ts vs/\vs.length<=us.length/\∀x∈vs,x∈us:=by
     refine⟨_,by unfold oE Ts;rw[<- List.map_drop,<- List.map_take],?_,λx hx=>gN (c6 hx)⟩;rw[aI,bt];lia
    rw[evs];obtain⟨k5,hM0⟩:=aio H4 M (.lst (Ts vs)) k4 hM;exact⟨M,vs,rfl,k5,hM0,au,by lia,λu hu=>hu1 u (hvm u hu),λz=>by lia⟩
   ·rw[al (show ¬V.int (tn:Int)=V.int 1 from λz=>e (by injection z with z;lia))]
    exact bB ⟨L,us,rfl,k3,hL0,sV,ail,hu1,λ_=>ain⟩
  rintro σ' H4 ⟨L',vs,rfl,k4,nL',j7,hv7,hv1,hv2⟩;have V0:=ner L' nL';refine⟨λσ' H'=>∃(v7:Option V) (us:AA),σ'=[some (.ref t),some (.ref R),some (.str (S ls)),some (.ref L'),v4,v5,v6,some (.int tn),v7,none,none,none]/\Kp R H H'/\H' L'=some (.lst (Ts us))/\us.length<=7/\∀u∈us,u.length=1,?_,?_⟩
  ·refine⟨_,rfl,rfl,_,rfl,?_⟩
   by_cases e:tn=2
   ·rw[am (show V.int (tn:Int)=V.int 2 by rw[e];rfl)]
    have hvp:=hv2 e;have agB:(ls++[63]).length<=sizeLine:=aT (aG (by rw[bc];simp;lia));obtain⟨y4,Fg⟩:=k4.2;refine bM ⟨_,rfl,ls,[63],rfl,rfl,aT (aG (by show ls.length+1<=1000;lia)),?_⟩;refine⟨_,rfl,_,rfl,_,rfl,ls++[63],rfl,agB,R,y4,(ls++[63]).length,rfl,Fg,by simp,by rw[bc];simp;lia,λd1 y5 hd1=>?_⟩;have k5:Kp R H (upd H4 R (.lst [.int y5])):=k4.trans (Kp.up y5);have Lf:upd H4 R (.lst [.int y5]) R=some (.lst [.int y5]):=au;have mq:upd H4 R (.lst [.int y5]) L'=some (.lst (Ts vs)):=by rw[aM V0];exact j7
    generalize upd H4 R (.lst [.int y5])=H5 at k5 Lf mq ⊢;refine⟨ls++[63],_,(ls++[63])[d1],rfl,rfl,agB,aH (ac hd1),?_⟩;generalize (ls++[63])[d1]=y;refine⟨_,rfl,_,rfl,_,rfl,L',_,rfl,.inl (aW.of mq),R,y5,(Ts vs).length,rfl,Lf,by rw[aa];exact hvp,by rw[aa];lia,λk y6 hk0=>?_⟩;have hk:k < vs.length:=by rw[aa]at hk0;exact hk0
    have k6:Kp R H (upd H5 R (.lst [.int y6])):=k5.trans (Kp.up y6);have Zx:upd H5 R (.lst [.int y6]) L'=some (.lst (Ts vs)):=by rw[aM V0];exact mq
    generalize upd H5 R (.lst [.int y6])=H6 at k6 Zx ⊢;refine⟨L',_,_,k,rfl,rfl,Zx,?_,?_⟩
    ·unfold vD
     rw[aa,if_pos (by lia),if_pos (by lia)];rfl
    ·have eS:(Ts vs).set k (.str (S [y]))=Ts (vs.set k [y]):=by
      show ((vs.map λl=>V.str (S l)).set k (V.str (S [y])))=(vs.set k [y]).map λl=>V.str (S l);rw[mS]
     rw[eS];exact⟨_,vs.set k [y],rfl,k6.new nL' V0.symm,au,by rw[eI];exact hv7,λu hu=>by
      rcases d9 hu with z | z
      ·exact hv1 u z
      ·rw[z];rfl⟩
   ·rw[al (show ¬V.int (tn:Int)=V.int 2 from λz=>e (by injection z with z;lia))]
    exact bB ⟨_,vs,rfl,k4,j7,hv7,hv1⟩
  rintro σ' H5 ⟨v7,us,rfl,k5,mq,hu7,hu1⟩;refine⟨λσ' H'=>∃us:List (List Nat),σ'=[some (.ref t),some (.ref R),some (.str (S ls)),some (.ref L'),v4,v5,v6,some (.int tn),v7,none,none,none]/\Kp R H H'/\H' L'=some (.lst (Ts us))/\us.length<=7/\∀u∈us,u.length=1,?_,?_⟩
  ·refine⟨_,rfl,rfl,_,rfl,jl (λ_=>?_) (λ_=>⟨us,rfl,k5,mq,hu7,hu1⟩)⟩
   refine⟨_,rfl,.inl ⟨rfl,_,aW.of mq⟩,L',_,rfl,rfl,mq,us.reverse,rfl,k5.new nL' V0.symm,?_,by rw[i8];exact hu7,λu hu=>hu1 u (mT.mp hu)⟩;rw[au];show some (HO.lst ((us.map λl=>V.str (S l)).reverse))=some (.lst (us.reverse.map λl=>V.str (S l)));rw[List.map_reverse]
  clear mq hu7 hu1 k5;rintro σ' H5 ⟨us,rfl,k5,mq,hu7,hu1⟩;refine⟨_,rfl,L',rfl,⟨_,aW.of mq⟩,oA (K:=K) (a:=L') (xs:=Ts us) (λn σ H'=>∃(v10:Option V) (l:List Nat),σ=[some (.ref t),some (.ref R),some (.str (S ls)),some (.ref L'),v4,v5,v6,some (.int tn),v7,some (.str (S l)),v10,none]/\H'=H5/\l.length<=n)
   ⟨_,[],rfl,rfl,ap _⟩ (λn σ H' _ h=>by obtain⟨_,_,_,e,_⟩:=h;rw[e];exact aW.of mq) ?_ ?_⟩
  ·rintro n x σ H' hx ⟨v10,l,rfl,rfl,hl⟩
   obtain⟨y,hy,rfl⟩:=uT hx;have hn2:n < us.length:=(af.mp hy).1;have hy1:y.length=1:=hu1 y (be hy);have fin:∀m:List Nat,m.length<=n+1->∃(v10:Option V) (l:List Nat),([some (.ref t),some (.ref R),some (.str (S ls)),some (.ref L'),v4,v5,v6,some (.int tn),v7,some (.str (S m)),some (.str (S y)),none]:St)=[some (.ref t),some (.ref R),some (.str (S ls)),some (.ref L'),v4,v5,v6,some (.int tn),v7,some (.str (S l)),v10,none]/\H'=H'/\l.length<=n+1:=λm hm=>⟨_,m,rfl,rfl,hm⟩
   refine⟨λσ' m8=>∃(v10:Option V) (l:List Nat),σ'=[some (.ref t),some (.ref R),some (.str (S ls)),some (.ref L'),v4,v5,v6,some (.int tn),v7,some (.str (S l)),v10,none]/\m8=H'/\l.length<=n+1,?_,λσ' m8 h=>h⟩;refine⟨_,rfl,y,[63],rfl,rfl,_,rfl,?_⟩;refine jl (λ_=>?_) (λ_=>?_)
   ·exact⟨_,rfl,_,rfl,l,y,rfl,rfl,aT (aG (by lia)),fin _ (by rw[bc];lia)⟩
   ·refine⟨_,rfl,rfl,l,[63],rfl,rfl,λm=>⟨_,_,rfl,rfl,_,rfl,?_⟩⟩
    refine jl (λ_=>?_) (λ_=>?_)
    ·exact⟨_,rfl,_,rfl,l,y,rfl,rfl,aT (aG (by lia)),fin _ (by rw[bc];lia)⟩
    ·exact fin l (by lia)
  rintro σ' H' ⟨v10,l,rfl,rfl,hl⟩;rw[aa]at hl;obtain⟨y7,Lh⟩:=k5.2;refine⟨_,rfl,R,y7,8,rfl,Lh,by decide,by decide,λmo y8 hmo=>?_⟩;have k8:Kp R H (upd H' R (.lst [.int y8])):=k5.trans (Kp.up y8);generalize upd H' R (.lst [.int y8])=H8 at k8 ⊢;refine⟨λσ' m8=>∃(l:List Nat) (v11:Option V),σ'=[some (.ref t),some (.ref R),some (.str (S ls)),some (.ref L'),v4,v5,v6,some (.int tn),v7,some (.str (S l)),v10,v11]/\Kp R H m8/\l.length<=7,?_,?_⟩
  ·refine⟨λmm σ m8=>∃(l:List Nat) (mo:Int),σ=[some (.ref t),some (.ref R),some (.str (S ls)),some (.ref L'),v4,v5,v6,some (.int tn),v7,some (.str (S l)),v10,some (.int mo)]/\Kp R H m8/\l.length<=7/\mm=7-l.length,⟨_,l,_,rfl,k8,by lia,rfl⟩,?_⟩
   rintro mm σ m8 ⟨l,mo,rfl,k9,hl7,rfl⟩;have hzL:l.length<=sizeLine:=aT (aG (by lia));refine⟨_,rfl,l,rfl,hzL,_,_,rfl,rfl,_,rfl,?_⟩;by_cases c1:(l.length:Int) < 7
   ·rw[am c1]
    refine bM ⟨_,rfl,_,_,rfl,rfl,_,rfl,?_⟩;refine jl (λ_=>?_) (λ_=>⟨l,_,rfl,k9,hl7⟩);refine⟨λσ' agC=>∃(l2:List Nat) (mo:Int),σ'=[some (.ref t),some (.ref R),some (.str (S ls)),some (.ref L'),v4,v5,v6,some (.int tn),v7,some (.str (S l2)),v10,some (.int mo)]/\Kp R H agC/\l2.length=l.length+1,?_,?_⟩
    ·rintro σ' agC ⟨l2,mo2,rfl,k10,e2⟩
     exact⟨7-l2.length,by lia,l2,_,rfl,k10,by lia,rfl⟩
    ·obtain⟨y9,hR9⟩:=k9.2
     refine⟨_,rfl,_,rfl,_,rfl,_,rfl,ls,rfl,Cp,R,y9,ls.length,rfl,hR9,by lia,by lia,λd y10 hd=>?_⟩;refine⟨ls,_,ls[d],rfl,rfl,Cp,aH (ac hd),l,[ls[d]],rfl,rfl,aT (aG (by show l.length+1<=1000;lia)),?_⟩;exact⟨_,rfl,_,_,rfl,rfl,⟨by decide,by decide⟩,l++[ls[d]],_,rfl,k9.trans (Kp.up y10),by simp⟩
   ·rw[al c1]
    exact bB (bB ⟨l,_,rfl,k9,hl7⟩)
  rintro σ' m8 ⟨l,v11,rfl,k9,hl7⟩;exact⟨_,rfl,q l _ k9 hl7⟩
theorem TJ {α β:Type}(f:α->β):∀(l:List α) (j:Nat),(l.map f).eraseIdx j=(l.eraseIdx j).map f
 | [],_=>rfl
 | _::_,0=>rfl
 | a::l,j+1=>congrArg (f a :: ·) (TJ f l j)
def TQ:Sp:=λvs H Q _=>∃(pr t R:Addr) (x:Int) (ls:List Nat) (ak:AA) (r w:Nat) (as:List Addr) (ts:List aV),vs=[.ref pr,.ref t,.ref R,.str (S ls)]/\H R=some (.lst [.int x])/\JF ls/\H pr=some (.tup (Ts ak))/\Blk r w ak/\r<=9/\w<=9/\(∀l∈ak,∀c∈l,uR c)/\H t=some (.tup (as.map V.ref))/\cH H as ts/\(∀t∈ts,inB r w t)/\0 < ts.length/\ts.length<=7/\
 ∀(p:Addr) (ws:AA) (H':Hp),Kp R H H'->H' p=some (.lst (Ts ws))->(∀w∈ws,pU w)->ws.length<=20->Q (.ref p) H'
open Classical in
theorem abE (D:aK K mg "_law_known" Ei ["_law_rows_here","_law_laying","_law_rest_here","_law_letters_here"])(aY:mg "len"=none)(cV:mg "range"=none)(cO:bT P w K mg base "_law_take" 1 ["_law_rest_here","_law_base"] lC)(aef:bT P w K mg base "_law_words" 2 ["_law_rows_here","_law_laying"] Pg):bT P w K mg base "_law_known" 3 ["_law_rows_here","_law_laying","_law_rest_here","_law_letters_here"] TQ:=by
 refine D.dM oG (λvs H Q E h=>?_) (λf bL A outer s H vs Q E hr h=>?_)
 ·obtain⟨pr,t,R,x,ls,ak,r,w,as,ts,rfl,_⟩:=h
  rfl
 ·obtain⟨pr,t,R,x,ls,ak,r,w,as,ts,rfl,hR,hA,hpr,hb,r9,w9,Bb,ht,hL,bA,h0,h7,q⟩:=h
  have hb':=gj hb bA;have hp':=uV hb bA Bb;have hsg:=zB hb' hp' bA;have Y8:=Fo hb' r9 w9 bA;have TV:=abx hb' hp' r9 w9 bA;have hwl:=Ft (ak:=ak) h7;have hl2:=hA.lo;have agA:=hA.hi;have Cp:ls.length<=sizeLine:=aT (aG (by lia));refine⟨_,(aB (aU (i:=4) oG.nd rfl (Or.inl rfl) (eU aq)) (aB (dX bS rfl (dY (aX aef hr.mono rfl (aj (qv 0) (aj (qv 1) aq)))) (nO rfl (cD (bO (i:=5) oG.nd rfl (Or.inl rfl)) (cD (bO (i:=6) oG.nd rfl (Or.inl rfl)) (cD (bO (i:=7) oG.nd rfl (Or.inl rfl)) (cD (bO (i:=8) oG.nd rfl (Or.inl rfl)) jW))))) (aF (gD (cF (bD Bg (rE bE ft fv yc (qv 8)) (qv 4) rfl) (aF (dO (gw cv dm dq gP (qv 4) (aj (rE bE ft fv yc (qv 8)) aq)))) bN)))) (aB (dX bS rfl (j6 (by rfl) cV (aj (aX cO hr.mono rfl (aj (qv 2) (aj aD aq))) aq)) (bO (i:=9) oG.nd rfl (Or.inl rfl)) (aF (gD (cF (bD (Oe hr.units) (qv 4) (eU aq) (bw _)) (aF (dO (gw cv PySem.F.slot_list_pop PySem.F.type_list_pop aay (qv 4) (aj (aX cO hr.mono rfl (aj (qv 2) (aj (aN bU (by rfl) aY aS (aj (qv 4) aq)) aq))) aq)))) bN)))) (aF (bf (bx Ht (qv 4) (eU (aj (bx jg (aQ nj (qv 3) aD (λ_ _=>rfl)) (aQ nj (qv 3) aD (λ_ _=>rfl))) (aj (bx Jw (aQ nj (qv 3) aD (λ_ _=>rfl)) aD) aq))))))))),?_⟩;refine⟨zsz 0,λL hL0=>?_⟩;have k1:aA H (upd H L (HO.lst [])):=aA.upd hL0;have e1:upd H L (HO.lst []) L=some (.lst (Ts [])):=au;generalize upd H L (HO.lst [])=H1 at k1 e1 ⊢;refine⟨_,rfl,_,rfl,pr,t,as,ts,r,w,ak,rfl,k1 _ _ hpr,hb,r9,w9,k1 _ _ ht,hL.mv k1,bA,h0,h7,λT1 b1 H2 s2 hT1 Fp=>?_⟩;generalize hW:dN ak ts=W at hsg Y8 hwl TV Fp;have mj:=Fp.len;refine⟨T1,rfl,⟨_,aP.of hT1⟩,mO (K:=K) (a:=T1) (xs:=b1.map V.ref) (λn σ H'=>∃(v5 v6 v7 v8:Option V) (us:AA),σ=[some (.ref pr),some (.ref t),some (.ref R),some (.str (S ls)),some (.ref L),v5,v6,v7,v8,none]/\aA H H'/\H' T1=some (.tup (b1.map V.ref))/\QL H' b1 W/\H' L=some (.lst (Ts us))/\(∀u∈us,pU u)/\us.length<=n)
   ⟨none,none,none,none,[],rfl,k1.trans s2,hT1,Fp,s2 _ _ e1,λu hu=>by simp at hu,ap _⟩ (λn σ H' _ h=>by obtain⟨_,_,_,_,_,_,_,e,_⟩:=h;exact aP.of e) ?_ ?_⟩
  ·rintro n x σ H' hx ⟨v5,v6,v7,v8,us,rfl,sm,hT',hQ',hL',Fv,Fl⟩
   have hn:n < b1.length:=by have:=(af.mp hx).1;simpa using this
   have Cw:n < W.length:=by lia
   rw[a7,ac hn]at hx;have hx:V.ref b1[n]=x:=aw hx;subst hx;have en:=hQ'.at_ n _ _ (ac hn) (ac Cw);have hm:=ah Cw;have aie:=Y8 _ hm;have agD:∀c∈W[n].2.2.2,c < 128:=λc hc=>(hsg _ hm c hc).lt;refine⟨b1[n],_,rfl,aP.of en,rfl,_,_,rfl,_,_,rfl,_,_,rfl,_,_,rfl,rfl,?_⟩;refine⟨λσ' m8=>∃(v5 v6 v7 v8:Option V) (us:AA),σ'=[some (.ref pr),some (.ref t),some (.ref R),some (.str (S ls)),some (.ref L),v5,v6,v7,v8,none]/\aA H m8/\m8 T1=some (.tup (b1.map V.ref))/\QL m8 b1 W/\m8 L=some (.lst (Ts us))/\(∀u∈us,pU u)/\us.length<=n+1,?_,λσ' m8 h=>h⟩;refine⟨_,rfl,rfl,W[n].2.2.2,rfl,rfl,by lia,agD,_,rfl,L,Ts us,rfl,.inl (aW.of hL'),rfl,Tq us,_,rfl,?_⟩;refine jl (λ_=>?_) (λ_=>⟨_,_,_,_,us,rfl,sm,hT',hQ',hL',Fv,by lia⟩);refine⟨_,rfl,.inl ⟨rfl,_,aW.of hL'⟩,_,rfl,rfl,W[n].2.2.2,rfl,rfl,by lia,agD,L,_,_,rfl,rfl,hL',by rw[aa];exact aG (by lia),?_⟩;refine⟨_,_,_,_,us++[wY W[n]],rfl,sm.cB hL0,lq hL' _ _ hT',hQ'.iw (lq hL'),by rw[au,lF];rfl,λu hu=>?_,by simp;lia⟩;rcases a8.mp hu with z | z
   ·exact Fv u z
   ·rw[ay.mp z];exact TV _ hm
  rintro σ H3 ⟨v5,v6,v7,v8,us,rfl,s3,_,_,sV,Fv,Fl⟩;rw[aa,mj]at Fl;have Cz:L≠R:=λz=>by rw[z,hR]at hL0;cases hL0
  refine⟨_,rfl,R,x,3,rfl,s3 _ _ hR,by decide,by decide,λm y1 Zr=>⟨_,rfl,by lia,by lia,?_⟩⟩;have k3:Kp R H (upd H3 R (.lst [.int y1])):=(Kp.of hR s3).trans (Kp.up y1);have agE:upd H3 R (.lst [.int y1]) L=some (.lst (Ts us)):=by rw[aM Cz];exact sV
  generalize upd H3 R (.lst [.int y1])=H3' at k3 agE ⊢;refine iB (lo:=0) (λn σ H'=>∃(v9:Option V) (us:AA),σ=[some (.ref pr),some (.ref t),some (.ref R),some (.str (S ls)),some (.ref L),v5,v6,v7,v8,v9]/\Kp R H H'/\H' L=some (.lst (Ts us))/\(∀u∈us,pU u)/\us.length<=8)
   ⟨_,us,rfl,k3,agE,Fv,by lia⟩ ?_ ?_
  ·rintro n σ H4 hn ⟨v9,us,rfl,s4,j7,Fv,Fl⟩
   refine⟨λσ' H'=>∃(v9:Option V) (us:AA),σ'=[some (.ref pr),some (.ref t),some (.ref R),some (.str (S ls)),some (.ref L),v5,v6,v7,v8,v9]/\Kp R H H'/\H' L=some (.lst (Ts us))/\(∀u∈us,pU u)/\us.length<=8,?_,λσ' H' h=>h⟩;refine⟨_,rfl,zsz 0,λZ hZ=>?_⟩;have kZ:aA H4 (upd H4 Z (HO.lst [])):=aA.upd hZ;have eZ:upd H4 Z (HO.lst []) Z=some (.lst []):=au;have mq:=kZ _ _ j7;have s5:=s4.same kZ;generalize upd H4 Z (HO.lst [])=H5 at kZ eZ mq s5 ⊢;refine⟨2,.lst (us.map Dt.str),.lst [],by decide,.lst (aW.of mq) (dW.Je λl hl=>(Fv l hl).lt),.lst (aW.of eZ) .nil,_,rfl,?_⟩;simp only[if_true];by_cases hu0:us=[]
   ·subst hu0
    rw[am (show Dt.lst (([]:AA).map Dt.str)=Dt.lst [] from rfl)];exact bB ⟨_,[],rfl,s5,mq,Fv,by decide⟩
   ·rw[al (show ¬Dt.lst (us.map Dt.str)=Dt.lst [] from λz=>by injection z with z;exact hu0 (i9.mp z))]
    have hup:0 < us.length:=lj.mpr hu0;have hlu:(Ts us).length=us.length:=aa ..;obtain⟨y5,Lf⟩:=s5.2;refine bM ⟨_,rfl,.inl ⟨rfl,_,aW.of mq⟩,_,rfl,_,rfl,L,_,rfl,.inl (aW.of mq),R,y5,(Ts us).length,rfl,Lf,by lia,by lia,λj y6 hj0=>?_⟩;have hj:j < us.length:=by lia
    have k6:Kp R H (upd H5 R (.lst [.int y6])):=s5.trans (Kp.up y6);have Zx:upd H5 R (.lst [.int y6]) L=some (.lst (Ts us)):=by rw[aM Cz];exact mq
    generalize upd H5 R (.lst [.int y6])=H6 at k6 Zx ⊢;refine⟨L,_,_,j,.str (S us[j]),rfl,rfl,Zx,by lia,by lia,?_,?_,?_⟩
    ·rw[hlu];exact(PySem.StrLaws.seqIndex_nonneg (by lia) (by lia)).trans (congrArg some (by lia))
    ·exact fW (ac hj)
    ·have eE:(Ts us).eraseIdx j=Ts (us.eraseIdx j):=by
      show (us.map λl=>V.str (S l)).eraseIdx j=_;rw[TJ]
     rw[eE];exact⟨_,us.eraseIdx j,rfl,k6.new hL0 Cz.symm,au,λu hu=>Fv u ((List.eraseIdx_sublist us j).subset hu),by rw[List.length_eraseIdx];split <;> lia⟩
  ·rintro σ H4 ⟨v9,us,rfl,s4,j7,Fv,Fl⟩
   have l0:0 < ls.length:=by lia
   have l1:1 < ls.length:=by lia
   refine⟨_,rfl,_,rfl,ls,_,ls[0],rfl,rfl,Cp,aH (j:=0) (by simp[l0]),_,rfl,ls,_,ls[1],rfl,rfl,Cp,aH (j:=1) (by simp[l1]),[ls[0]],[ls[1]],rfl,rfl,zsz 2,_,rfl,ls,_,ls[1],rfl,rfl,Cp,aH (j:=1) (by simp[l1]),[ls[1]],3,rfl,rfl,by decide,by decide,by show 1 < 1000;decide,zsz 2,λM hM=>?_⟩;have kM:aA H4 (upd H4 M (HO.lst [.str (S ([ls[0]]++[ls[1]])),.str (S (List.replicate 3 [ls[1]]).flatten)])):=aA.upd hM;have eM:upd H4 M (HO.lst [.str (S ([ls[0]]++[ls[1]])),.str (S (List.replicate 3 [ls[1]]).flatten)]) M=some (.lst (Ts [[ls[0],ls[1]],[ls[1],ls[1],ls[1]]])):=au;have mq:=kM _ _ j7;generalize upd H4 M (HO.lst [.str (S ([ls[0]]++[ls[1]])),.str (S (List.replicate 3 [ls[1]]).flatten)])=H5 at kM eM mq ⊢;refine⟨L,M,_,_,rfl,rfl,mq,eM,aT (aG (by rw[aa,aa];simp;lia)),λp hp=>?_⟩;have ee:Ts us++Ts [[ls[0],ls[1]],[ls[1],ls[1],ls[1]]]=Ts (us++[[ls[0],ls[1]],[ls[1],ls[1],ls[1]]]):=by simp[Ts]
   rw[ee];have a0:=hA.az _ (ah l0);have a1:=hA.az _ (ah l1);refine q p _ _ ((s4.same kM).same (aA.upd hp)) au (λu hu=>?_) (by simp;lia);rcases a8.mp hu with z | z
   ·exact Fv u z
   ·rcases bo.mp z with z | z
    ·rw[z]
     refine⟨by show 2<=2;decide,by show 2<=9;decide,λc hc=>?_⟩;rcases bo.mp hc with y | y
     ·rw[y];exact a0
     ·rw[ay.mp y];exact a1
    ·rw[ay.mp z]
     refine⟨by show 2<=3;decide,by show 3<=9;decide,λc hc=>?_⟩;simp only[bo,g6,or_false,or_self]at hc;rw[hc];exact a1
theorem aeg {r w:Nat}{A B:AA}(ha:Blk r w A)(hb:Blk r w B)(h:∀i j,i < r->j < w->cell A i j=cell B i j):A=B:=by
 apply fE
 ·rw[ha.len,hb.len]
 ·intro i h1 h2
  have wa:=ha.gR A[i] (ah _);have wb:=hb.gR B[i] (ah _);have hr:i < r:=by rw[<- ha.len];exact h1
  apply fE
  ·rw[wa,wb]
  ·intro j h3 h4
   have:=h i j hr (by lia);rw[cell_eq h1 h3,cell_eq h2 h4]at this;exact this
theorem o7 {r w:Nat}{ak:AA}(hb:Blk r w ak){i j:Nat}(hi:i < r)(hj:j < w):cell (bZ ak w) j i=cell ak i j:=by
 have hi':i < ak.length:=by rw[hb.len];exact hi
 unfold cell;rw[show (bZ ak w).getD j []=jR ak j by
  unfold bZ;rw[ai,a7,lm hj];rfl]
 unfold jR;rw[ai,a7,ac hi',ai (l:=ak),ac hi'];rfl
theorem set_same {r w:Nat}{R:AA}(hb:Blk r w R){i j z:Nat}(hi:i < r)(hj:j < w):cell (setAt R i j z) i j=z:=by
 have hi':i < R.length:=by rw[hb.len];exact hi
 have hw:(R.getD i []).length=w:=by
  rw[ai,ac hi'];exact hb.gR _ (ah _)
 unfold cell setAt;rw[ai (l:=R.set _ _),dC hi'];show ((R.getD i []).set j z).getD j 0=z;rw[ai,dC (by rw[hw];exact hj)];rfl
theorem Zy {R:AA}{i j z i' j':Nat}(h:¬(i=i'/\j=j')):cell (setAt R i j z) i' j'=cell R i' j':=by
 unfold cell setAt;by_cases e:i=i'
 ·subst e
  have ne:j≠j':=λy=>h ⟨rfl,y⟩;rw[ai (l:=R.set _ _)];by_cases hi:i < R.length
  ·rw[dC hi]
   show ((R.getD i []).set j z).getD j' 0=_;rw[ai,dS ne,<- ai]
  ·rw[List.set_eq_of_length_le (by lia),<- ai]
 ·rw[ai (l:=R.set _ _),dS e,<- ai]
theorem tZ {i j:Nat}:∀{ts:List aV} {R:AA},(∀t∈ts,¬(t.1=i/\t.2.1=j))->cell (bQ R ts) i j=cell R i j
 | [],_,_=>rfl
 | t::ts,R,h=>(tZ (ts:=ts) λx hx=>h x (a_ _ hx)).trans (Zy (h t bq))
theorem J4 {r w:Nat}:∀{ts:List aV} {R:AA} {t:aV},Blk r w R->(∀t∈ts,inB r w t)->ts.Pairwise (λa b=>¬(a.1=b.1/\a.2.1=b.2.1))->t∈ts->cell (bQ R ts) t.1 t.2.1=t.2.2
 | u::ts,R,t,hb,bA,pw,hm=>by
  obtain⟨p1,p2⟩:=List.pairwise_cons.mp pw;have hu:=bA u bq;rcases bo.mp hm with z | z
  ·subst z
   exact(tZ λx hx y=>p1 x hx ⟨y.1.symm,y.2.symm⟩).trans (set_same hb hu.1 hu.2.1)
  ·exact J4 (ts:=ts) (R:=setAt R u.1 u.2.1 u.2.2) (Em hb hu.1) (λx hx=>bA x (a_ _ hx)) p2 z
theorem TX {ts:List aV}(pw:(ts.map rk).Pairwise (· < ·)):ts.Pairwise (λa b=>¬(a.1=b.1/\a.2.1=b.2.1)):=by
 rw[di]at pw;refine pw.imp λ{a b} h z=>?_;unfold rk at h;lia
theorem Mh {r w:Nat}{ak:AA}{ts ts':List aV}(hb:Blk r w ak)(bA:∀t∈ts,inB r w t)(pw:(ts.map rk).Pairwise (· < ·))(pm:ts'.Perm (ts.map sw))(pw':(ts'.map rk).Pairwise (· < ·)):bZ (bQ ak ts) w=bQ (bZ ak w) ts':=by
 have Ci:∀t∈ts',inB w r t:=λt ht=>by
  obtain⟨u,hu,e⟩:=aE.mp (pm.mem_iff.mp ht);have:=bA u hu;rw[<- e];exact⟨this.2.1,this.1,this.2.2⟩
 refine aeg (qC (gj hb bA)) (gj (qC hb) Ci) λj i hj hi=>?_;rw[o7 (gj hb bA) hi hj];by_cases h:∃t∈ts,t.1=i/\t.2.1=j
 ·obtain⟨t,ht,e1,e2⟩:=h
  have h1:=J4 hb bA (TX pw) ht;have hm:sw t∈ts':=pm.mem_iff.mpr (List.mem_map_of_mem ht);have h2:=J4 (qC hb) Ci (TX pw') hm;rw[e1,e2]at h1;have h2':cell (bQ (bZ ak w) ts') t.2.1 t.1=t.2.2:=h2;rw[e1,e2]at h2';rw[h1,h2']
 ·have n1:∀t∈ts,¬(t.1=i/\t.2.1=j):=λt ht z=>h ⟨t,ht,z⟩
  have n2:∀t∈ts',¬(t.1=j/\t.2.1=i):=λt ht z=>by
   obtain⟨u,hu,e⟩:=aE.mp (pm.mem_iff.mp ht);rw[<- e]at z;exact n1 u hu ⟨z.2,z.1⟩
  rw[tZ n1,tZ n2,o7 hb hi hj]
theorem V1 {r w:Nat}{ak:AA}(hb:Blk r w ak){i j:Nat}(hi:i < r):lineOf (bZ ak w) j i 1=lineOf ak i j 0:=by
 unfold lineOf;rw[if_neg (by decide),if_pos rfl];have e:=Lq hb;have:(bZ (bZ ak w) r).getD i []=jR (bZ ak w) i:=by
  unfold bZ;rw[ai,a7,lm hi];rfl
 rw[<- this,e]
theorem V2 {w:Nat}{ak:AA}{i j:Nat}(hj:j < w):lineOf (bZ ak w) j i 0=lineOf ak i j 1:=by
 unfold lineOf;rw[if_pos rfl,if_neg (by decide)];unfold bZ;rw[ai,a7,lm hj];rfl
theorem wF (ak:AA):isFree ak=true↔∀l∈ak,∀c∈l,c=46:=by
 unfold isFree;rw[cy];constructor
 ·intro h l hl c hc
  simpa using h c (g9.mpr ⟨l,hl,hc⟩)
 ·intro h c hc
  obtain⟨l,hl,hcl⟩:=g9.mp hc;simpa using h l hl c hcl
theorem Zz {r w:Nat}{ak:AA}(hb:Blk r w ak):isFree (bZ ak w)=isFree ak:=by
 cases h1:isFree ak with
 | true=>exact(wF _).mpr (zp hb ((wF _).mp h1))
 | false=>
  cases h2:isFree (bZ ak w) with
  | false=>rfl
  | true=>
   have:=zp (qC hb) ((wF _).mp h2);rw[Lq hb]at this;rw[(wF _).mpr this]at h1;cases h1
theorem uw {ts:List aV}(h:iR ts):(ts.map rk).Pairwise (· < ·):=by
 rw[di];rcases h with⟨i,h1,h2⟩ | ⟨j,h1,h2⟩
 ·exact h2.imp_of_mem λ{a b} ha hb hl=>by unfold rk;have:=h1 a ha;have:=h1 b hb;lia
 ·exact h2.imp_of_mem λ{a b} ha hb hl=>by unfold rk;have:=h1 a ha;have:=h1 b hb;lia
theorem iR.turn {ts:List aV}(h:iR ts):iR (ts.map sw):=by
 rcases h with⟨i,h1,h2⟩ | ⟨j,h1,h2⟩
 ·refine .inr ⟨i,λt ht=>?_,by rw[di];exact h2⟩
  obtain⟨u,hu,rfl⟩:=aE.mp ht;exact h1 u hu
 ·refine .inl ⟨j,λt ht=>?_,by rw[di];exact h2⟩
  obtain⟨u,hu,rfl⟩:=aE.mp ht;exact h1 u hu
theorem Mi {ts ts':List aV}(h:iR ts)(pm:ts'.Perm (ts.map sw))(pw':(ts'.map rk).Pairwise (· < ·)):ts'=ts.map sw:=by
 rw[di]at pw';have h2:=uw h.turn;rw[di]at h2;exact pm.eq_of_pairwise (le:=λa b=>rk a < rk b) (λa b _ _ z1 z2=>absurd z1 (by lia)) pw' h2
theorem TY {r w:Nat}{ts:List aV}(bA:∀t∈ts,inB r w t):∀t∈ts.map sw,inB w r t:=λt ht=>by
 obtain⟨u,hu,rfl⟩:=aE.mp ht;have:=bA u hu;exact⟨this.2.1,this.1,this.2.2⟩
def swA (a:Nat × Nat × Nat):Nat × Nat × Nat:=(a.2.1,a.1,1-a.2.2)
def CK (q:mz):mz:=(q.2.1,q.1,1-q.2.2.1,q.2.2.2)
theorem ZC {r w:Nat}{R:AA}(hb:Blk r w R){i j wy:Nat}(hi:i < r)(hj:j < w)(hwy:wy<=1):gU (bZ R w) j i (1-wy)=CK (gU R i j wy):=by
 rcases(show wy=0\/wy=1 by lia) with z | z
 ·subst z
  have e:lineOf (bZ R w) j i ((1:Nat):Int)=lineOf R i j ((0:Nat):Int):=V1 hb hi;show gU (bZ R w) j i 1=_;unfold gU CK;rw[e];rfl
 ·subst z
  have e:lineOf (bZ R w) j i ((0:Nat):Int)=lineOf R i j ((1:Nat):Int):=V2 hj;show gU (bZ R w) j i 0=_;unfold gU CK;rw[e];rfl
theorem abF {ts:List aV}(h:iR ts)(h2:2<=ts.length):fM (ts.map sw)=1-fM ts:=by
 have h0:0 < ts.length:=by lia
 have h0':0 < (ts.map sw).length:=by rw[aa];exact h0
 rw[oX h0,oX h0'];have e1:(ts.map sw)[0].1=ts[0].2.1:=by rw[de];rfl
 have e2:(ts.map sw)[(ts.map sw).length-1].1=ts[ts.length-1].2.1:=by
  rw[de];simp only[aa];rfl
 rw[e1,e2];rcases h with⟨i,a1,a2⟩ | ⟨j,a1,a2⟩
 ·have p:=(cn.mp a2) 0 (ts.length-1) h0 (by lia) (by lia)
  rw[if_neg (by lia),if_pos (by rw[a1 _ (ah _),a1 _ (ah _)])]
 ·have p:=(cn.mp a2) 0 (ts.length-1) h0 (by lia) (by lia)
  rw[if_pos (by rw[a1 _ (ah _),a1 _ (ah _)]),if_neg (by lia)]
theorem abG {ts:List aV}(h:iR ts)(h0:0 < ts.length):(iW (ts.map sw)).Perm ((iW ts).map swA):=by
 by_cases c:2<=ts.length
 ·have e:iW (ts.map sw)=(iW ts).map swA:=by
   unfold iW;rw[abF h c,bz,<- List.map_take,b8,b8,b8,b8];rfl
  rw[e]
 ·obtain⟨t,rfl⟩:∃t,ts=[t]:=by
   match ts,h0,c with
   | [t],_,_=>exact⟨t,rfl⟩
   | _::_::_,_,c=>exact absurd (by simp) c
  have l1:fM [t]=0:=if_pos rfl;have l2:fM ([t].map sw)=0:=if_pos rfl;unfold iW;rw[l1,l2];exact List.Perm.swap _ _ _
theorem Jf {r w:Nat}{ts:List aV}(bA:∀t∈ts,inB r w t){a:Nat × Nat × Nat}(h:a∈iW ts):a.1 < r/\a.2.1 < w/\a.2.2<=1:=by
 have je:=Iw ts;rcases a8.mp h with z | z
 ·obtain⟨u,hu,rfl⟩:=aE.mp z
  obtain⟨h1,h2,_⟩:=bA u (c6 hu);exact⟨h1,h2,je⟩
 ·obtain⟨u,hu,rfl⟩:=aE.mp z
  obtain⟨h1,h2,_⟩:=bA u hu;exact⟨h1,h2,show 1-fM ts<=1 by lia⟩
theorem Jg {r w:Nat}{ak:AA}{ts:List aV}(hb:Blk r w ak)(bA:∀t∈ts,inB r w t)(h:iR ts)(h0:0 < ts.length):(dN (bZ ak w) (ts.map sw)).Perm ((dN ak ts).map CK):=by
 unfold dN;rw[<- Mh hb bA (uw h) (nE _) (uw h.turn)];have hb':=gj hb bA;generalize bQ ak ts=R at hb';have p:=((abG h h0).map (qd (bZ R w))).filter pL;refine p.trans ?_;have e:((iW ts).map swA).map (qd (bZ R w))=((iW ts).map (qd R)).map CK:=by
  rw[b8,b8];refine eQ λa ha=>?_;obtain⟨a1,a2,a3⟩:=Jf bA ha;exact ZC hb' a1 a2 a3
 rw[e,List.filter_map];exact nE _
def Qs:Sp:=λvs H Q _=>∃(p:Addr) (as:List Addr) (ts:List aV),vs=[.ref p]/\H p=some (.tup (as.map V.ref))/\cH H as ts/\(∀t∈ts,okT t)/\(ts.map λt=>rk (sw t)).Nodup/\ts.length<=63/\
 ∀(p':Addr) (as':List Addr) (ts':List aV) (H':Hp),aA H H'->H' p'=some (.tup (as'.map V.ref))->cH H' as' ts'->ts'.Perm (ts.map sw)->(ts'.map rk).Pairwise (· < ·)->Q (.ref p') H'
theorem M9 (D:aK K mg "_law_turned" zc ["_law_laying"])(cg:mg "tuple"=none)(gk:mg "sorted"=none):bT P w K mg base "_law_turned" 1 ["_law_laying"] Qs:=by
 refine D.dM Yg (λvs H Q E h=>?_) (λf bL A outer s H vs Q E hr h=>?_)
 ·obtain⟨p,as,ts,rfl,_⟩:=h
  rfl
 ·obtain⟨p,as,ts,rfl,hp,hL,hok,hnd,h63,q⟩:=h
  refine⟨_,(aF (bf (dJ f9 (by rfl) cg cK (aj (aN Bu (by rfl) gk fT (aj (fL (ns:=["_law_row","_law_column","_law_sign_here"]) rfl (fD.of ["_law_laying"] [] (by kernel_rfl)) (dY (qv 0)) (λ_ _ _ _ _=>(oR K rfl (show (["_law_row","_law_column","_law_sign_here","_law_laying"]:List Str).Nodup by decide +kernel) rfl rfl rfl (by rfl) (by rfl) (by rfl))) (λ_ _ _ _ _=>cU) (λ_ _ _ _ _=>(cQ (aj (qv 1) (aj (qv 0) (aj (qv 2) aq)))))) aq)) aq)))),?_⟩;have bY:=hL.len;refine⟨_,rfl,p,rfl,⟨_,aP.of hp⟩,λM hM=>jD (f:=eG [] 0) (tt:=gC) (xs:=as.map V.ref) (λi ys H6=>∃bs:List Addr,ys=bs.map V.ref/\bs.length=i/\H6 M=some (.lst ys)/\aA H H6/\cH H6 bs ((ts.take i).map sw))
   ⟨[],rfl,rfl,au,aA.upd hM,cH.nil⟩ (λi ys H6 _ h=>by obtain⟨_,_,_,_,sm,_⟩:=h;exact aP.of (sm _ _ hp)) ?_ ?_⟩
  ·rintro i x ys H6 hx ⟨bs,rfl,mj,Mg,sm,hB⟩
   rw[a7]at hx;have hi:i < as.length:=by
    rcases jv i as.length with z | z
    ·exact z
    ·rw[e7 z]at hx;cases hx
   rw[ac hi]at hx;have hx:V.ref as[i]=x:=aw hx;obtain⟨t,et,hT⟩:=hL.get hi;refine vI hx.symm (aP.of (sm _ _ hT)) ?_;refine⟨_,rfl,_,rfl,_,rfl,zsz 3,λc hc=>?_⟩;have nM:M≠c:=λz=>by rw[<- z,Mg]at hc;cases hc
   have hM7:upd H6 c (.tup [.int t.2.1,.int t.1,.str (S [t.2.2])]) M=some (.lst (bs.map V.ref)):=by rw[aM nM];exact Mg
   refine⟨hM7,by rw[aa,mj];exact aG (by lia),dI.mk (by rw[aa];exact hi) ⟨bs++[c],by simp,by simp[mj],by rw[au],?_,?_⟩⟩
   ·exact(sm.cB (sm.free hc)).cB hM
   ·rw[show (ts.take (i+1)).map sw=(ts.take i).map sw++[sw t] by rw[nB,et];simp]
    refine cH.snoc ?_ ?_
    ·exact(hB.mv (aA.upd hc)).iw (zm hM7)
    ·exact zm hM7 _ _ au
  ·rintro ys H6 ⟨bs,rfl,mj,Mg,sm,hB⟩
   rw[aa]at mj;rw[bg (by rw[aa];lia)]at hB;have ecf:bs.map (λa=>rk (tO H6 a))=ts.map λt=>rk (sw t):=by
    have:(bs.map (tO H6)).map rk=(ts.map sw).map rk:=by rw[hB.eq]
    rw[b8,b8]at this;exact this
   have aip:∀a∈bs,okT (tO H6 a):=λa ha=>by
    have:tO H6 a∈ts.map sw:=by rw[<- hB.eq];exact List.mem_map_of_mem ha
    obtain⟨t,ht,e⟩:=aE.mp this;rw[<- e];have:=hok t ht;exact⟨this.2.1,this.1,this.2.2⟩
   refine⟨M,bs,λa=>rk (tO H6 a),rfl,aW.of Mg,by lia,λa ha=>?_,by rw[ecf];exact hnd,λp1 as' hp1 pm pw=>?_⟩
   ·have:=aip a ha
    exact⟨(tO H6 a).1,(tO H6 a).2.1,[.str (S [(tO H6 a).2.2])],hB.at_ a ha,by have:=this.2.1;lia,rfl,.inr ⟨_,rfl⟩⟩
   ·obtain⟨l1,l2⟩:=hB.perm pm
    refine⟨p1,_,rfl,.inl ⟨aW.of au,λl hl=>?_⟩⟩;have s1:aA H6 (upd H6 p1 (.lst (as'.map V.ref))):=aA.upd hp1;have s2:=s1.cB (o:=.tup (as'.map V.ref)) (s1.free hl);exact q l as' _ _ (sm.trans s2) au (l1.mv s2) l2 (by rw[b8];exact pw)
theorem Qt {ts:List aV}(hs:(gA ts||gW ts)=true)(hrk:(ts.map rk).Pairwise (· < ·)):iR ts:=by
 rw[di]at hrk;rcases Bool.or_eq_true_iff.mp hs with h | h
 ·have h1:∀t∈ts,t.1=(ts.headD (0,0,0)).1:=λt ht=>bv (cy.mp h t ht)
  refine .inl ⟨_,h1,f6 (λ{a b} ha hb hab=>?_) hrk⟩;have e1:=h1 a ha;have e2:=h1 b hb;unfold rk at hab;lia
 ·have h1:∀t∈ts,t.2.1=(ts.headD (0,0,0)).2.1:=λt ht=>bv (cy.mp h t ht)
  refine .inr ⟨_,h1,f6 (λ{a b} ha hb hab=>?_) hrk⟩;have e1:=h1 a ha;have e2:=h1 b hb;unfold rk at hab;lia
noncomputable def Qu:Vd->Nat
 | .ok=>0
 | .mD _ _=>1
 | .mF=>2
 | .gap _ _=>3
 | .mG=>4
 | .oZ _=>5
 | .nw _=>6
open Classical in
noncomputable def V3 (tk st:Bool) (ng:Prop) (jn lk mw:Bool):Nat:=if tk=true then 1 else if st=false then 2 else if ¬ng then 3 else if jn=false then 4 else if lk=true then 5 else if mw=true then 6 else 0
theorem ZD {ak:AA}{r w bi bj:Nat}{ws:AA}{cT:List Nat}{ts:List aV}{u:Vd}(h:tu ak r w bi bj ws cT ts u):Qu u=V3 (j5 ak ts).isSome (gA ts||gW ts) (lR (bQ ak ts) (d8 ts).1 (dg ts).1 (d8 ts).2.1 (dg ts).2.1) (nU ak r w bi bj ts) (Fj (cT.map λc=>[c]) (ts.map (·.2.2))).isLeft (sX ak ws ts).isSome:=by
 have ng:∀{R:AA} {a b c d i j:Nat},Nq R a b c d i j->¬lR R a b c d:=λz y=>y _ _ z.i1 z.i2 z.j1 z.j2 z.fr;unfold V3;cases h with
 | mD h=>rw[h];rfl
 | mF h1 h=>rw[h1,h];rfl
 | gap h1 h2 h=>rw[h1,h2,if_neg (by simp),if_neg (by simp),if_pos (ng h)];rfl
 | mG h1 h2 h3 h=>rw[h1,h2,h,if_neg (by simp),if_neg (by simp),if_neg (not_not_intro h3),if_pos rfl];rfl
 | oZ h1 h2 h3 h4 h=>rw[h1,h2,h4,h,if_neg (by simp),if_neg (by simp),if_neg (not_not_intro h3),if_neg (by simp)];rfl
 | nw h1 h2 h3 h4 h5 h=>obtain⟨l,h5⟩:=h5;rw[h1,h2,h4,h5,h,if_neg (by simp),if_neg (by simp),if_neg (not_not_intro h3),if_neg (by simp),if_neg (by simp)];rfl
 | ok h1 h2 h3 h4 h5 h=>obtain⟨l,h5⟩:=h5;rw[h1,h2,h4,h5,h,if_neg (by simp),if_neg (by simp),if_neg (not_not_intro h3),if_neg (by simp),if_neg (by simp),if_neg (by simp)];rfl
theorem abH {r w:Nat}{ak:AA}{ts ts':List aV}(hb:Blk r w ak)(bA:∀t∈ts,inB r w t)(pm:ts'.Perm (ts.map sw)):(j5 (bZ ak w) ts').isSome=(j5 ak ts).isSome:=by
 have e:∀t∈ts,LR (bZ ak w) (sw t)=LR ak t:=λt ht=>by
  have:=bA t ht;unfold LR sw;rw[o7 hb this.1 this.2.1]
 unfold j5;rw[e6,mn,mn];constructor
 ·rintro⟨x,hx,hp⟩
  obtain⟨t,ht,rfl⟩:=aE.mp (pm.mem_iff.mp hx);exact⟨t,ht,by rw[<- e t ht];exact hp⟩
 ·rintro⟨t,ht,hp⟩
  exact⟨sw t,pm.mem_iff.mpr (aE.mpr ⟨t,ht,rfl⟩),by rw[e t ht];exact hp⟩
theorem T4 {ts:List aV}(h0:0 < ts.length):gA ts=true↔∀t∈ts,∀u∈ts,t.1=u.1:=by
 have hh:=iY h0;unfold gA;rw[cy];constructor
 ·intro h t ht u hu
  rw[bv (h t ht),bv (h u hu)]
 ·intro h t ht
  rw[hh];exact am (h t ht _ (ah h0))
theorem T5 {ts:List aV}(h0:0 < ts.length):gW ts=true↔∀t∈ts,∀u∈ts,t.2.1=u.2.1:=by
 have hh:=iY h0;unfold gW;rw[cy];constructor
 ·intro h t ht u hu
  rw[bv (h t ht),bv (h u hu)]
 ·intro h t ht
  rw[hh];exact am (h t ht _ (ah h0))
theorem abI {ts ts':List aV}(h0:0 < ts.length)(pm:ts'.Perm (ts.map sw)):(gA ts'||gW ts')=(gA ts||gW ts):=by
 have h0':0 < ts'.length:=by rw[pm.length_eq,aa];exact h0
 have m1:∀t∈ts,sw t∈ts':=λt ht=>pm.mem_iff.mpr (aE.mpr ⟨t,ht,rfl⟩);have m2:∀x∈ts',∃t∈ts,sw t=x:=λx hx=>aE.mp (pm.mem_iff.mp hx);have e1:gA ts'=gW ts:=by
  rw[e6,T4 h0',T5 h0];constructor
  ·intro h t ht u hu
   exact h _ (m1 t ht) _ (m1 u hu)
  ·intro h x hx y hy
   obtain⟨t,ht,rfl⟩:=m2 x hx;obtain⟨u,hu,rfl⟩:=m2 y hy;exact h t ht u hu
 have e2:gW ts'=gA ts:=by
  rw[e6,T5 h0',T4 h0];constructor
  ·intro h t ht u hu
   exact h _ (m1 t ht) _ (m1 u hu)
  ·intro h x hx y hy
   obtain⟨t,ht,rfl⟩:=m2 x hx;obtain⟨u,hu,rfl⟩:=m2 y hy;exact h t ht u hu
 rw[e1,e2,Bool.or_comm]
theorem aeh {ts:List aV}(h0:0 < ts.length):d8 (ts.map sw)=sw (d8 ts)/\dg (ts.map sw)=sw (dg ts):=by
 have h0':0 < (ts.map sw).length:=by rw[aa];exact h0
 constructor
 ·rw[show d8 (ts.map sw)=(ts.map sw)[0] from iY h0',show d8 ts=ts[0] from iY h0,de]
 ·rw[u_ h0',u_ h0,de]
  simp only[aa]
theorem abJ {r w:Nat}{ak:AA}{ts:List aV}(hb:Blk r w ak)(bA:∀t∈ts,inB r w t)(h0:0 < ts.length)(hl:iR ts) :
  lR (bQ (bZ ak w) (ts.map sw)) (d8 (ts.map sw)).1 (dg (ts.map sw)).1 (d8 (ts.map sw)).2.1 (dg (ts.map sw)).2.1↔lR (bQ ak ts) (d8 ts).1 (dg ts).1 (d8 ts).2.1 (dg ts).2.1:=by
 obtain⟨e1,e2⟩:=aeh h0;have el:=Mh hb bA (uw hl) (nE _) (uw hl.turn);have hb':=gj hb bA;have wj:(dg ts).1 < r/\(dg ts).2.1 < w:=by
  rw[u_ h0];have:=bA _ (ah (show ts.length-1 < ts.length by lia));exact⟨this.1,this.2.1⟩
 rw[e1,e2,<- el];constructor
 ·intro h i j i1 i2 j1 j2
  have:=h j i j1 j2 i1 i2
  rwa [o7 hb' (by lia) (by lia)]at this
 ·intro h j i j1 j2 i1 i2
  have j2':j<=(dg ts).2.1:=j2;have i2':i<=(dg ts).1:=i2;rw[o7 hb' (by lia) (by lia)];exact h i j i1 i2 j1 j2
theorem abK {r w:Nat}{ak:AA}(hb:Blk r w ak)(i j:Int):atC (bZ ak w) w r j i=atC ak r w i j:=by
 by_cases h:0<=i/\i < r/\0<=j/\j < w
 ·obtain⟨a,rfl⟩:=Int.eq_ofNat_of_zero_le h.1
  obtain⟨b,rfl⟩:=Int.eq_ofNat_of_zero_le h.2.2.1;have:=o7 hb (i:=a) (j:=b) (by lia) (by lia);rw[u9 (by lia) (by lia),u9 (by lia) (by lia)];exact this
 ·unfold atC
  rw[if_neg (λz=>h ⟨z.2.2.1,z.2.2.2,z.1,z.2.1⟩),if_neg h]
theorem ZF {r w:Nat}{ak:AA}(hb:Blk r w ak)(i j:Int):gY (bZ ak w) w r j i=gY ak r w i j:=by
 unfold gY around u6;simp only[gu,List.any_nil,abK hb];generalize (!decide ([atC ak r w (i-1) j]=[46]))=a;generalize (!decide ([atC ak r w (i+1) j]=[46]))=b;generalize (!decide ([atC ak r w i (j-1)]=[46]))=c;generalize (!decide ([atC ak r w i (j+1)]=[46]))=d;cases a <;> cases b <;> cases c <;> cases d <;> rfl
theorem aei {r w bi bj:Nat}{ak:AA}{ts:List aV}(hb:Blk r w ak):nU (bZ ak w) w r bj bi (ts.map sw)=nU ak r w bi bj ts:=by
 unfold nU;rw[Zz hb]
 split
 ·apply decide_eq_decide.mpr
  constructor
  ·intro h
   obtain⟨x,hx,e⟩:=aE.mp h;obtain⟨t,ht,rfl⟩:=aE.mp hx;injection e with e1 e2;exact aE.mpr ⟨t,ht,Prod.ext e2 e1⟩
  ·intro h
   obtain⟨t,ht,e⟩:=aE.mp h;injection e with e1 e2;exact aE.mpr ⟨sw t,aE.mpr ⟨t,ht,rfl⟩,Prod.ext e2 e1⟩
 ·rw[List.any_map]
  congr 1;funext t;exact ZF hb _ _
theorem T6 {ak bs:AA}{ts:List aV}:(sX ak bs ts).isSome=false↔dN ak ts≠[]/\∀q∈dN ak ts,wY q∈bs:=by
 unfold sX;by_cases h:dN ak ts=[]
 ·rw[if_pos h]
  exact⟨λz=>(by cases z),λz=>absurd h z.1⟩
 ·rw[if_neg h,ma]
  have:((dN ak ts).find? (Gn bs)).isSome=false↔∀q∈dN ak ts,wY q∈bs:=by
   rw[Bool.eq_false_iff,ne_eq,mn];constructor
   ·intro z q hq
    by_cases y:wY q∈bs
    ·exact y
    ·exact absurd ⟨q,hq,by unfold Gn;rw[al y];rfl⟩ z
   ·rintro z ⟨q,hq,y⟩
    unfold Gn at y;rw[am (z q hq)]at y;cases y
  rw[this];exact⟨λz=>⟨h,z⟩,λz=>z.2⟩
theorem aej {r w:Nat}{ak bs:AA}{ts:List aV}(hb:Blk r w ak)(bA:∀t∈ts,inB r w t)(h0:0 < ts.length)(hl:iR ts):(sX (bZ ak w) bs (ts.map sw)).isSome=(sX ak bs ts).isSome:=by
 have pm:=Jg hb bA hl h0;have key:(sX (bZ ak w) bs (ts.map sw)).isSome=false↔(sX ak bs ts).isSome=false:=by
  rw[T6,T6];constructor
  ·rintro⟨a,b⟩
   refine⟨λz=>a ?_,λq hq=>?_⟩
   ·rw[z]at pm
    exact List.Perm.eq_nil pm
   ·exact b (CK q) (pm.mem_iff.mpr (aE.mpr ⟨q,hq,rfl⟩))
  ·rintro⟨a,b⟩
   refine⟨λz=>a ?_,λq hq=>?_⟩
   ·rw[z]at pm
    exact i9.mp (List.Perm.eq_nil pm.symm)
   ·obtain⟨q',hq',rfl⟩:=aE.mp (pm.mem_iff.mp hq)
    exact b q' hq'
 cases h1:(sX (bZ ak w) bs (ts.map sw)).isSome with
 | false=>exact(key.mp h1).symm
 | true=>
  cases h2:(sX ak bs ts).isSome with
  | true=>rfl
  | false=>rw[key.mpr h2]at h1;cases h1
theorem Qv {r w bi bj:Nat}{ak bs:AA}{cT:List Nat}{ts ts':List aV}{u v:Vd}(hb:Blk r w ak)(bA:∀t∈ts,inB r w t)(h0:0 < ts.length)(hrk:(ts.map rk).Pairwise (· < ·))(pm:ts'.Perm (ts.map sw))(pw':(ts'.map rk).Pairwise (· < ·))
  (h:tu ak r w bi bj bs cT ts u) (g:tu (bZ ak w) w r bj bi bs cT ts' v):Qu u=Qu v:=by
 rw[ZD h,ZD g,abH hb bA pm,abI h0 pm];by_cases h1:(j5 ak ts).isSome=true
 ·unfold V3;rw[if_pos h1,if_pos h1]
 by_cases h2:(gA ts||gW ts)=false
 ·unfold V3;rw[if_neg h1,if_neg h1,if_pos h2,if_pos h2]
 have hl:=Qt (by cases hh:(gA ts||gW ts) with | false=>exact absurd hh h2 | true=>rfl) hrk;have e:=Mi hl pm pw';subst e;have eg:(lR (bQ ak ts) (d8 ts).1 (dg ts).1 (d8 ts).2.1 (dg ts).2.1)=(lR (bQ (bZ ak w) (ts.map sw)) (d8 (ts.map sw)).1 (dg (ts.map sw)).1 (d8 (ts.map sw)).2.1 (dg (ts.map sw)).2.1):=propext (abJ hb bA h0 hl).symm;have es:(ts.map sw).map (·.2.2)=ts.map (·.2.2):=by rw[b8];rfl
 rw[eg,aei hb,es,aej hb bA h0 hl]
theorem agF {r w:Nat}{ak:AA}{ts:List aV}(w9:w<=9)(bA:∀t∈ts,inB r w t)(hl:iR ts)(h0:0 < ts.length):((dN ak ts).map jE).Nodup:=by
 have key:(((iW ts).map (qd (bQ ak ts))).map jE).Nodup:=by
  generalize bQ ak ts=R;have je:=Iw ts;have T7:∀i j wy:Nat,jE (gU R i j wy)=(gU R i j wy).1*1000000+(gU R i j wy).2.1*1000+wy:=λ_ _ _=>rfl;have c0:∀i j:Nat,(gU R i j 0).1=i/\(gU R i j 0).2.1<=j:=λi j=>⟨rfl,Nat.sub_le _ _⟩
  have c1:∀i j:Nat,(gU R i j 1).2.1=j:=λ_ _=>rfl;unfold iW;rw[bz,bz,ml,b8,b8,b8,b8];refine⟨?_,?_,λx hx y hy e=>?_⟩
  ·cases ts with
   | nil=>simp at h0
   | cons t rest=>simp
  ·show List.Pairwise _ _
   rw[di];rcases hl with⟨i,a1,a2⟩ | ⟨j,a1,a2⟩
   ·have e0:fM ts=0:=by rw[oX h0,a1 _ (ah _),a1 _ (ah _),if_pos rfl]
    refine f6 (λ{a b} ha hb hab z=>?_) a2;simp only[Function.comp,qd,e0,Nat.sub_zero]at z;rw[T7,T7,c1,c1]at z;have:=(bA a ha).2.1;have:=(bA b hb).2.1;lia
   ·by_cases h2:2<=ts.length
    ·have p:=(cn.mp a2) 0 (ts.length-1) h0 (by lia) (by lia)
     have e0:fM ts=1:=by rw[oX h0,if_neg (by lia)]
     refine f6 (λ{a b} ha hb hab z=>?_) a2;simp only[Function.comp,qd,e0,Nat.sub_self]at z;rw[T7,T7,(c0 a.1 a.2.1).1,(c0 b.1 b.2.1).1]at z;have:=(bA a ha).2.1;have:=(bA b hb).2.1;have:=(c0 a.1 a.2.1).2;have:=(c0 b.1 b.2.1).2;lia
    ·cases ts with
     | nil=>simp at h0
     | cons t rest=>
      cases rest with
      | nil=>exact ke _ _
      | cons u rest=>simp at h2
  ·obtain⟨a,_,rfl⟩:=aE.mp hx
   obtain⟨b,_,rfl⟩:=aE.mp hy;simp only[Function.comp,qd]at e;rw[T7,T7]at e;lia
 exact List.Sublist.nodup ((List.filter_sublist (l:=(iW ts).map (qd (bQ ak ts))) (p:=pL)).map jE) key
noncomputable def qO (H:Hp)(a:Addr):mz:=match H a with
 | some (.tup [.int x,.int y,.int z,.str s])=>(x.toNat,y.toNat,z.toNat,s.cps.toList)
 | _=>(0,0,0,[])
theorem acR {H:Hp}{a:Addr}{q:mz}(h:uX H a q):qO H a=q:=by
 unfold qO;rw[h];rfl
theorem Qw {H:Hp}{bs:List Addr}{qs:List mz}(h:QL H bs qs):bs.map (qO H)=qs:=by
 apply fE
 ·rw[aa];exact h.len
 ·intro i h1 h2
  rw[de];rw[aa]at h1;exact acR (h.at_ i _ _ (ac h1) (ac h2))
theorem Nr {H:Hp}{bs:List Addr}{qs:List mz}(h:QL H bs qs){a:Addr}(ha:a∈bs):uX H a (qO H a)/\qO H a∈qs:=by
 obtain⟨i,hi,rfl⟩:=c_.mp ha;have hi2:i < qs.length:=by rw[<- h.len];exact hi
 have e:=h.at_ i _ _ (ac hi) (ac hi2);have e2:uX H bs[i] qs[i]:=e;rw[acR e2];exact⟨e2,ah _⟩
theorem acS {H:Hp}{bs:List Addr}(h:∀a∈bs,uX H a (qO H a)):QL H bs (bs.map (qO H)):=⟨by rw[aa],λi a q h1 h2=>by
 rw[a7,h1]at h2;rw[<- aw h2];exact h a (be h1)⟩
def ZG (C:Addr):Sp:=λvs H Q _=>∃(b t:Addr) (as:List Addr) (ts:List aV) (r w:Nat) (ak aO:AA) (bi bj:Nat),vs=[.ref b,.ref t]/\dZ C H b r w ak aO bi bj/\H t=some (.tup (as.map V.ref))/\cH H as ts/\(∀t∈ts,inB r w t)/\0 < ts.length/\ts.length<=7/\iR ts/\∀H',aA H H'->Q (.bl true) H'
open Classical in
theorem aek {C f1:Addr}{iT:FuncData}(D:aK K mg "_law_same_words" pH ["_law_board","_law_laying"])(g_:mg "list"=none)(gk:mg "sorted"=none)(fP:gb K C)(qD:Meth K C "turned" f1)(qF:cM P w K mg base fU 8 f1 iT ["self"] (Ge C))(qG:cJ K iT ["self"] [])
  (zF:bT P w K mg base "formed" 10 ["board","laying"] (Gg C)) (Gq:bT P w K mg base "_law_turned" 1 ["_law_laying"] Qs):bT P w K mg base "_law_same_words" 12 ["_law_board","_law_laying"] (ZG C):=by
 refine D.dM rR (λvs H Q E h=>?_) (λf bL A outer s H vs Q E hr h=>?_)
 ·obtain⟨b,t,as,ts,r,w,ak,aO,bi,bj,rfl,_⟩:=h
  rfl
 ·obtain⟨b,t,as,ts,r,w,ak,aO,bi,bj,rfl,BA,ht,hL,bA,h0,h7,hl,q⟩:=h
  have hb:=BA.ok.br;have r9:=BA.ok.r9;have w9:=BA.ok.w9;have Bb:=BA.ok.cr;have hb':=gj hb bA;have hp':=uV hb bA Bb;have hlt:∀q∈dN ak ts,∀c∈q.2.2.2,c < 128:=λq hq c hc=>(zB hb' hp' bA q hq c hc).lt;have ZJ:=Jg hb bA hl h0;have V4:=TY bA;have h0T:0 < (ts.map sw).length:=by rw[aa];exact h0
  have ndT:=agF (ak:=bZ ak w) r9 V4 hl.turn h0T;have Vo:∀q∈dN ak ts,q.2.2.1<=1:=λq hq=>by
   obtain⟨a,ha,rfl⟩:=aE.mp (eR.mp hq).1;exact(Jf bA ha).2.2
  have aiq:∀(R:AA) (us:List aV) (x y:Nat),(∀t∈us,inB x y t)->∀q∈dN R us,q.2.1<=y:=λR us x y hu q hq=>by
   obtain⟨a,ha,rfl⟩:=aE.mp (eR.mp hq).1;have h2:=(Jf hu ha).2.1;show (if a.2.2=0 then a.2.1-_ else a.2.1)<=y
   split <;> lia
  have hT9:∀q∈dN (bZ ak w) (ts.map sw),q.2.1 < 1000/\q.2.2.1 < 1000:=λq hq=>by
   have h1:=aiq _ _ _ _ V4 q hq;obtain⟨a,ha,rfl⟩:=aE.mp (eR.mp hq).1;have h2:=(Jf V4 ha).2.2;exact⟨by lia,by show a.2.2 < 1000;lia⟩
  have hw8:=Ft (ak:=ak) h7;generalize hW:dN ak ts=W at hlt ZJ Vo hw8;have ndW:((W.map CK).map jE).Nodup:=(ZJ.map jE).nodup_iff.mp ndT;have hW9:∀q∈W.map CK,q.2.1 < 1000/\q.2.2.1 < 1000:=λq hq=>hT9 q (ZJ.mem_iff.mpr hq);have air:∀q∈W.map CK,∀c∈q.2.2.2,c < 128:=λq hq=>by
   obtain⟨p,hp,rfl⟩:=aE.mp hq;exact hlt p hp
  refine⟨_,(aB (um (ix:=2) (ns:=["_law_row","_law_column","_law_way","_law_signs"]) rR.nd rfl (Or.inl rfl) rfl (fD.of ["_law_board","_law_laying","_law_ones","_law_others"] [] (by kernel_rfl)) (dY (aX zF hr.mono rfl (aj (qv 0) (aj (qv 1) aq)))) (λ_ _ _ _ _=>(adN K rfl (show (["_law_row","_law_column","_law_way","_law_signs","_law_board","_law_laying","_law_ones","_law_others"]:List Str).Nodup by decide +kernel) rfl rfl rfl rfl (by rfl) (by rfl) (by rfl) (by rfl))) (λ_ _ _ _ _=>cU) (λ_ _ _ _ _=>(cQ (aj (qv 1) (aj (qv 0) (aj (bx iC aD (qv 2)) (aj (qv 3) aq))))))) (aB (aU (i:=3) rR.nd rfl (Or.inl rfl) (dJ Bh (by rfl) g_ fq (aj (aX zF hr.mono rfl (aj (FQ (qv 0) fP.cl qD qF hr.mono qG .nil kj) (aj (aX Gq hr.mono rfl (aj (qv 1) aq)) aq))) aq))) (aF (bf (d_ (Hy hr.units) (aN BJ (by rfl) gk fT (aj (qv 2) aq)) (aN BJ (by rfl) gk fT (aj (qv 3) aq)) (bw _)))))),?_⟩;refine⟨_,rfl,_,rfl,b,t,as,ts,r,w,ak,aO,bi,bj,rfl,BA,ht,hL,bA,h0,h7,hl.one,λT1 b1 H1 s1 hT1 Fp=>?_⟩;rw[hW]at Fp;have mj:=Fp.len;refine⟨T1,rfl,⟨_,aP.of hT1⟩,λN hN=>U9 (K:=K) (KT:=K) (a:=T1) (f:=eG [] 0) (tt:=gC) (xs:=b1.map V.ref) (λn ys H'=>∃gs:List Addr,ys=gs.map V.ref/\gs.length=n/\H' N=some (.lst ys)/\aA H1 H'/\QL H' gs ((W.take n).map CK))
   ⟨[],rfl,rfl,au,aA.upd hN,dB.nil⟩ (λn ys H' _ h=>by obtain⟨_,_,_,_,sm,_⟩:=h;exact aP.of (sm _ _ hT1)) ?_ ?_⟩
  ·rintro n x ys H' hx ⟨gs,rfl,vY,hN',sm,hQg⟩
   have hn:n < b1.length:=by have:=(af.mp hx).1;simpa using this
   have Cw:n < W.length:=by lia
   rw[a7,ac hn]at hx;have hx:V.ref b1[n]=x:=aw hx;have en:=(Fp.mv sm).at_ n _ _ (ac hn) (ac Cw);have hwn:=Vo _ (ah Cw);have ew:(1:Int)-(W[n].2.2.1:Int)=((1-W[n].2.2.1:Nat):Int):=by lia
   refine ahs hx.symm (aP.of en) ?_;refine⟨_,rfl,_,rfl,_,rfl,_,_,rfl,rfl,_,rfl,zsz 4,λg hg=>?_⟩;dsimp only;rw[ew];have kg:aA H' (upd H' g (HO.tup [.int W[n].2.1,.int W[n].1,.int ((1-W[n].2.2.1:Nat):Int),.str (S W[n].2.2.2)])):=aA.upd hg;have eg:upd H' g (HO.tup [.int W[n].2.1,.int W[n].1,.int ((1-W[n].2.2.1:Nat):Int),.str (S W[n].2.2.2)]) g=some (.tup [.int W[n].2.1,.int W[n].1,.int ((1-W[n].2.2.1:Nat):Int),.str (S W[n].2.2.2)]):=au;have Cy:=kg _ _ hN';refine⟨Cy,by rw[aa];exact aG (by lia),dI.mk (by rw[aa];exact hn) ⟨gs++[g],by simp,by simp[vY],by rw[au],(sm.trans kg).cB hN,?_⟩⟩;rw[take_snoc (ac Cw)];exact((hQg.mv kg).iw (lq Cy)).app (dB.one (lq Cy _ _ eg))
  rintro ys H2 ⟨gs,rfl,vY,Cy,s2,hQg⟩;rw[aa,mj,bX]at hQg;rw[aa]at vY;have sY:=s1.trans s2;have BA2:=BA.mv sY;obtain⟨dx2,_,_,_,ex2,_⟩:=id BA2.ex;have hok:∀t∈ts,okT t:=λt ht=>by
   obtain⟨a1,a2,a3⟩:=bA t ht;exact⟨by lia,by lia,a3.lt⟩
  have hnd:(ts.map λt=>rk (sw t)).Nodup:=by
   have:=uw hl.turn;rw[b8]at this;exact this.imp λh z=>by lia
  refine⟨_,rfl,b,dx2,_,rfl,ex2,rfl,b,r,w,ak,aO,bi,bj,rfl,BA2,λb2 H3 s3 BT=>?_⟩;have yD:=sY.trans s3;refine⟨_,rfl,t,as,ts,rfl,yD _ _ ht,hL.mv yD,hok,hnd,by lia,λt2 as2 lU H4 s4 uU hL2 Mj ZK=>?_⟩;have e2:=Mi hl Mj ZK;subst e2;refine⟨b2,t2,as2,ts.map sw,w,r,bZ ak w,bZ aO w,bj,bi,rfl,BT.mv s4,uU,hL2,V4,h0T,by rw[aa];exact h7,hl.turn.one,λT3 b3 H5 s5 hT3 Pj=>?_⟩;refine⟨T3,_,rfl,.inr (aP.of hT3),λL hL0=>?_⟩;have kL:aA H5 (upd H5 L (HO.lst (b3.map V.ref))):=aA.upd hL0;have eL:upd H5 L (HO.lst (b3.map V.ref)) L=some (.lst (b3.map V.ref)):=au;have Qx:=(s3.trans s4).trans (s5.trans kL);have Cq:=Qx _ _ Cy;have hQ6:=hQg.mv Qx;have Yr:=Pj.mv kL;have Za:=sY.trans Qx;generalize upd H5 L (HO.lst (b3.map V.ref))=H6 at eL Cq hQ6 Yr Za ⊢;have hb3:b3.length=W.length:=by rw[Yr.len,ZJ.length_eq,aa]
  have hq6:=Qw hQ6;have hr6:=Qw Yr;refine⟨_,rfl,N,gs,qO H6,rfl,aW.of Cq,by lia,λa ha=>?_,?_,λp1 a1 hp1 T8 pw1=>?_⟩
  ·obtain⟨x1,x2⟩:=Nr hQ6 ha
   exact⟨x1,hW9 _ x2⟩
  ·rw[show (gs.map λa=>jE (qO H6 a))=(gs.map (qO H6)).map jE by rw[b8];rfl,hq6]
   exact ndW
  have k1:aA H6 (upd H6 p1 (HO.lst (a1.map V.ref))):=aA.upd hp1;have e1:upd H6 p1 (HO.lst (a1.map V.ref)) p1=some (.lst (a1.map V.ref)):=au;have hA1:QL H6 a1 (a1.map (qO H6)):=acS λa ha=>(Nr hQ6 (T8.mem_iff.mp ha)).1;have hA7:=hA1.mv k1;have Lh:=Yr.mv k1;have eL7:=k1 _ _ eL;have Jd:=Za.trans k1;generalize upd H6 p1 (HO.lst (a1.map V.ref))=H7 at e1 hA7 Lh eL7 Jd ⊢;have hr7:=Qw Lh;refine⟨_,rfl,L,b3,qO H7,rfl,aW.of eL7,by lia,λa ha=>?_,?_,λp2 a2 hp2 pm3 pw3=>?_⟩
  ·obtain⟨x1,x2⟩:=Nr Lh ha
   exact⟨x1,hT9 _ x2⟩
  ·rw[show (b3.map λa=>jE (qO H7 a))=(b3.map (qO H7)).map jE by rw[b8];rfl,hr7]
   exact ndT
  have k2:aA H7 (upd H7 p2 (HO.lst (a2.map V.ref))):=aA.upd hp2;have e3:upd H7 p2 (HO.lst (a2.map V.ref)) p2=some (.lst (a2.map V.ref)):=au;have hA2:QL H7 a2 (a2.map (qO H7)):=acS λa ha=>(Nr Lh (pm3.mem_iff.mp ha)).1;have hA8:=hA7.mv k2;have hB8:=hA2.mv k2;have e18:=k2 _ _ e1;have s08:=Jd.trans k2;generalize upd H7 p2 (HO.lst (a2.map V.ref))=H8 at e3 hA8 hB8 e18 s08 ⊢;have pA:(a1.map (qO H6)).Perm (W.map CK):=by
   have:=T8.map (qO H6);rw[hq6]at this;exact this
  have pB:(a2.map (qO H7)).Perm (dN (bZ ak w) (ts.map sw)):=by
   have:=pm3.map (qO H7);rw[hr7]at this;exact this
  have ee:a1.map (qO H6)=a2.map (qO H7):=by
   have w1:(a1.map (qO H6)).Pairwise λx y=>jE x < jE y:=by
    rw[di];rw[di]at pw1;exact pw1
   have w2:(a2.map (qO H7)).Pairwise λx y=>jE x < jE y:=by
    rw[di];rw[di]at pw3;exact pw3
   exact(pA.trans (ZJ.symm.trans pB.symm)).eq_of_pairwise (le:=λx y=>jE x < jE y) (λx y _ _ z1 z2=>absurd z1 (by lia)) w1 w2
  have l1:∀q∈a1.map (qO H6),∀c∈q.2.2.2,c < 128:=λq hq=>air q (pA.mem_iff.mp hq);refine⟨2,.lst ((a1.map (qO H6)).map dQ),.lst ((a2.map (qO H7)).map dQ),by decide,.lst (aW.of e18) (dW.ofQ hA8 l1),.lst (aW.of e3) (dW.ofQ hB8 (by rw[<- ee];exact l1)),?_⟩;rw[ee];simp only[cE,if_false,decide_true];exact q _ s08
def vf.all (c:vf):List Addr:=[c.lay,c.mD,c.mF,c.gap,c.mG,c.oZ,c.nw]
structure VdF (K:W.Frag)(c:vf)(os:List Addr):Prop where
 lay:tY K c.all os c.lay 0
 mD:tY K c.all os c.mD 1
 mF:tY K c.all os c.mF 2
 gap:tY K c.all os c.gap 3
 mG:tY K c.all os c.mG 4
 oZ:tY K c.all os c.oZ 5
 nw:tY K c.all os c.nw 6
 non:W.kitOne K (.type "NoneType") (.ref c.lay)=some false
inductive ZL (c:vf) (H:Hp):V->Vd->Prop
 | ok:ZL c H .non .ok
 | no {a:Addr} {cls:Value} {dd:Option Addr} {v:Vd} (hx:tD c H cls dd v) (ha:H a=some (.ext (uN a cls dd))):ZL c H (.ref a) v
theorem tD.kn {c:vf}{H:Hp}{cls:Value}{dd:Option Addr}{v:Vd}(h:tD c H cls dd v):jm H dd:=by
 cases v with
 | ok=>exact h.elim
 | mD i j=>obtain⟨_,dx,rfl,e⟩:=h;exact⟨_,e⟩
 | mF=>obtain⟨_,rfl⟩:=h;trivial
 | gap i j=>obtain⟨_,dx,rfl,e⟩:=h;exact⟨_,e⟩
 | mG=>obtain⟨_,rfl⟩:=h;trivial
 | oZ t=>obtain⟨_,dx,rfl,e⟩:=h;exact⟨_,e⟩
 | nw l=>obtain⟨_,dx,rfl,e⟩:=h;exact⟨_,e⟩
theorem T9 {ts:List aV}(h:(ts.map rk).Pairwise (· < ·)):pO (ts.map fH)=true:=by
 unfold pO;rw[cy];intro p hp;obtain⟨i,hi,e⟩:=c_.mp hp;have hl:=hi;rw[List.length_zip,bt,aa]at hl;rw[List.getElem_zip,List.getElem_drop,de,de]at e;rw[<- e];refine am ?_;have:=cn.mp h i (1+i) (by rw[aa];lia) (by rw[aa];lia) (by lia);rw[de,de]at this;exact this
theorem ael {ds:List Int}{lo hi:Option Int}{v:V}(h:v∈oE (ds.map V.int) lo hi):∃d:Int,v=.int d:=by
 unfold oE at h;have h2:=gN (c6 h);obtain⟨d,hd,e⟩:=aE.mp h2;exact⟨d,e.symm⟩
theorem aA.kp {R:Addr}{H H1 H2:Hp}(s:aA H H1)(n:H R=none)(k:Kp R H1 H2):aA H H2:=λb o e=>k.1 b o (s b o e) (bJ e n)
theorem tD.ix {c:vf}{os:List Addr}(VF:VdF K c os){H:Hp}{cls:Value}{dd:Option Addr}{v:Vd}(h:tD c H cls dd v):0 < Qu v/\∃C,cls=.ref C/\tY K c.all os C (Qu v):=by
 cases v with
 | ok=>exact h.elim
 | mD i j=>exact⟨jS _,_,h.1,VF.mD⟩
 | mF=>exact⟨jS _,_,h.1,VF.mF⟩
 | gap i j=>exact⟨jS _,_,h.1,VF.gap⟩
 | mG=>exact⟨jS _,_,h.1,VF.mG⟩
 | oZ t=>exact⟨jS _,_,h.1,VF.oZ⟩
 | nw l=>exact⟨jS _,_,h.1,VF.nw⟩
theorem J5 {name:Str}{k:Nat}{ps:List Str}{sp NQ:Sp}(D:bT P w K mg base name k ps sp)(h:∀vs H Q E,NQ vs H Q E->sp vs H Q E):bT P w K mg base name k ps NQ:=by
 obtain⟨f,fd,a,b,c,d⟩:=D.ex;exact⟨f,fd,a.imp h,b,c,d⟩
theorem agG {ts:List aV}(hl:zq ts)(h0:0 < ts.length):gA ts=decide (fM ts=0):=by
 rw[<- YD hl h0,all_map];unfold gA;rw[iY h0];congr 1;funext t;rw[abm]
theorem agH {C CB f g0 g1 g2:Addr}{c:vf}{os:List Addr}{fd fe0 fe1 fe2:FuncData}(F:gQ K "law" "law" Np f fd)(VF:VdF K c os)
  (fP:gb K C) (uW:mg "Board"=some (.ref C)) (yu:Mk K C g0) (yw:cM P w K mg base fU 5 g0 fe0 ["self","rows","marks","begin"] (El C)) (yx:cJ K fe0 ["self","rows","marks","begin"] [])
  (qD:Meth K C "turned" g2) (qF:cM P w K mg base fU 8 g2 fe2 ["self"] (Ge C)) (qG:cJ K fe2 ["self"] [])
  (Y7:yF K CB) (aem:mg "Book"=some (.ref CB)) (agI:Mk K CB g1) (agJ:cM P w K mg base fU 3 g1 fe1 ["self","words"] (YS K CB)) (agK:cJ K fe1 ["self","words"] [])
  (CN:bT P w K mg base "_law_cell_at" 1 ["_law_script","_law_k"] (Yh K)) (Jh:bT P w K mg base "_law_rest" 1 ["_law_cell"] Yk) (ZM:bT P w K mg base "_law_letters" 2 ["_law_rest_here"] Yl)
  (agL:bT P w K mg base "_law_rows" 3 ["_law_rest_here","_law_letters_here","_law_most"] S8) (aen:bT P w K mg base "_law_begin" 2 ["_law_rest_here","_law_rows_here"] O7) (aeo:bT P w K mg base "_law_marks" 2 ["_law_rest_here","_law_rows_here"] O6)
  (V5:bT P w K mg base "_law_straight" 3 ["_law_rows_here","_law_rest_here","_law_letters_here"] Fi) (agM:bT P w K mg base "_law_bent" 2 ["_law_laying","_law_rest_here","_law_rows_here"] Zw) (agN:bT P w K mg base "_law_rack" 2 ["_law_laying","_law_rest_here","_law_letters_here"] TF)
  (RM:bT P w K mg base "_law_cells_due" 3 ["_law_rows_here","_law_begin_here","_law_laying"] Zn) (aep:bT P w K mg base "_law_known" 3 ["_law_rows_here","_law_laying","_law_rest_here","_law_letters_here"] TQ)
  (Gq:bT P w K mg base "_law_turned" 1 ["_law_laying"] Qs) (Qy:bT P w K mg base "_law_same_words" 12 ["_law_board","_law_laying"] (ZG C))
  (T_:bT P w K mg base "_law_class" 1 ["_law_error"] (Tv K c.all os)) (Qz:bT P w K mg base "_law_caught" 16 ["_law_board","_law_book","_law_rack_here","_law_laying"] (Qg K C CB c)):cM P w K mg base fU 18 f fd ["_law_script"] (Nj K):=by
 refine F.dM iH (λvs H Q E h=>?_) (λbL A outer s H vs Q E hr h=>?_)
 ·obtain⟨a,ns,rfl,_⟩:=h
  rfl
 ·obtain⟨a,ns,rfl,hS,hn,q⟩:=h
  refine⟨_,(aB (aU (i:=1) iH.nd rfl (Or.inl rfl) (aX ZM hr.mono rfl (aj (aX Jh hr.mono rfl (aj (aX CN hr.mono rfl (aj (qv 0) (aj aD aq))) aq)) aq))) (aB (aU (i:=2) iH.nd rfl (Or.inl rfl) (aX agL hr.mono rfl (aj (aX Jh hr.mono rfl (aj (aX CN hr.mono rfl (aj (qv 0) (aj aD aq))) aq)) (aj (qv 1) (aj aD aq))))) (aB (aU (i:=3) iH.nd rfl (Or.inl rfl) (aX Jh hr.mono rfl (aj (aX CN hr.mono rfl (aj (qv 0) (aj aD aq))) aq))) (aB (aU (i:=4) iH.nd rfl (Or.inl rfl) (aX aen hr.mono rfl (aj (qv 3) (aj (qv 2) aq)))) (aB (aU (i:=5) iH.nd rfl (Or.inl rfl) (Eb yu yw hr.mono rfl uW yx .nil kj (aj (qv 2) (aj (aX aeo hr.mono rfl (aj (qv 3) (aj (qv 2) aq))) (aj (qv 4) aq))))) (aB (aU (i:=6) iH.nd rfl (Or.inl rfl) (FQ (qv 5) fP.cl qD qF hr.mono qG .nil kj)) (aB (dX bS rfl (gK (kI xW (qv 0) (lD aD) (lD aD))) (bO (i:=7) iH.nd rfl (Or.inl rfl)) (aB (aU (i:=3) iH.nd rfl (Or.inl rfl) (aX Jh hr.mono rfl (aj (qv 7) aq))) (aB (aU (i:=8) iH.nd rfl (Or.inl rfl) (aX agM hr.mono rfl (aj (aX V5 hr.mono rfl (aj (qv 2) (aj (qv 3) (aj (qv 1) aq)))) (aj (qv 3) (aj (qv 2) aq))))) (aB (aU (i:=9) iH.nd rfl (Or.inl rfl) (aX agN hr.mono rfl (aj (qv 8) (aj (qv 3) (aj (qv 1) aq))))) (aB (aU (i:=10) iH.nd rfl (Or.inl rfl) (eU (aj (bx jg (aQ nj (qv 1) aD (λ_ _=>rfl)) (aQ nj (qv 1) aD (λ_ _=>rfl))) aq))) (aB (aU (i:=11) iH.nd rfl (Or.inl rfl) (d_ Hl (aQ bh (aX RM hr.mono rfl (aj (qv 2) (aj (qv 4) (aj (qv 8) aq)))) aD (λ_ _=>rfl)) aD (bw _))) (aB (gD (cF (dj (qv 11)) (aF (aU (i:=10) iH.nd rfl (Or.inl rfl) (aX aep hr.mono rfl (aj (qv 2) (aj (qv 8) (aj (qv 3) (aj (qv 1) aq))))))) bN)) (aB (aU (i:=12) iH.nd rfl (Or.inl rfl) (Eb agI agJ hr.mono rfl aem agK .nil kj (aj (qv 10) aq))) (aB (gD (aU (i:=13) iH.nd rfl (Or.inl rfl) (aX Qz hr.mono rfl (aj (qv 5) (aj (qv 12) (aj (qv 9) (aj (qv 8) aq))))))) (aB (aU (i:=14) iH.nd rfl (Or.inl rfl) (aX Qz hr.mono rfl (aj (qv 6) (aj (qv 12) (aj (qv 9) (aj (aX Gq hr.mono rfl (aj (qv 8) aq)) aq)))))) (aB (cF (QW.qt (mU (bD o_ (d_ WY (qv 13) Hx (bw _)) (d_ WY (qv 14) Hx (bw _)) (bw _)) (jX (QW.qt (i_ (bD ac2 (qv 13) Hx (bw _)) (jw (bD o_ (aX T_ hr.mono rfl (aj (qv 13) aq)) (aX T_ hr.mono rfl (aj (qv 14) aq)) (bw _)))))))) (aF (bf jB)) bN) (aF (cF (QW.qt (i_ (dj (qv 11)) (jw (fB (dj (aX Qy hr.mono rfl (aj (qv 5) (aj (qv 8) aq)))))))) (aF (bf jB)) bN))))))))))))) (aF (bf (d_ (Hy hr.units) (iD (qv 5) rfl) (qv 2) (bw _))))))))))),?_⟩;refine⟨_,rfl,a,ns,0,rfl,hS,λc0=>⟨c0,rfl,λR1 x1 H1 s1 yr ais=>⟨R1,x1,rfl,yr,λls H2 k2 hA=>?_⟩⟩⟩;have S2:aA H H2:=aA.kp s1 ais k2;refine⟨_,rfl,a,ns,1,rfl,S2.seq hS,λc1=>⟨c1,rfl,λR2 x4 H12 s12 ait aiu=>⟨_,rfl,R2,x4,ls,6,rfl,ait,hA,by decide,by decide,λpr ak r w H13 k13 hpr hb r1 r9 w1 w9 Bb hfree=>?_⟩⟩⟩;have S13:aA H H13:=S2.trans (aA.kp s12 aiu k13);have hl2:=hA.lo;have agA:=hA.hi;have Cp:ls.length<=sizeLine:=aT (aG (by lia));have l0:0 < ls.length:=by lia
  have l1:1 < ls.length:=by lia
  have agO:∀l∈ak,∀c∈l,c < 128:=λl hl c hc=>by
   rcases Bb l hl c hc with z | z
   ·lia
   ·exact z.lt
  refine⟨_,rfl,a,ns,2,rfl,S13.seq hS,λc2=>⟨c2,rfl,λR3 x5 H14 s14 aiv agP=>?_⟩⟩;have Lx:pr≠R3:=bJ hpr agP;refine⟨_,rfl,_,rfl,R3,x5,pr,ak,r,w,rfl,aiv,s14 _ _ hpr,hb,r1,r9,w1,w9,λpg bi bj H15 k15 hpg hbi hbj=>?_⟩;obtain⟨x6,agQ⟩:=k15.2;refine⟨_,rfl,_,rfl,_,rfl,R3,x6,pr,ak,r,w,rfl,agQ,k15.1 _ _ (s14 _ _ hpr) Lx,hb,r1,r9,w9,λpm aO H16 k16 hpm hbm hmk=>?_⟩;have s16:aA H13 H16:=aA.kp s14 agP (k15.trans k16);have V6:=s16 _ _ hpr;have V7:=k16.tup agQ _ _ hpg;have B:Le r w ak aO bi bj:=⟨r1,r9,w1,w9,hb,hbm,Bb,hmk,hbi,hbj⟩
  refine⟨_,rfl,λb dx nx ndx sU=>?_⟩;have t2:aA H16 (upd (upd H16 dx (HO.own b)) b (HO.ins C dx [])):=λc o e=>by rw[aM (bJ e nx),aM (bJ e ndx)];exact e
  refine⟨b,dx,pr,pm,pg,r,w,ak,aO,bi,bj,rfl,au,t2 _ _ V6,t2 _ _ hpm,t2 _ _ V7,B,λH17 kp agR=>⟨rfl,?_⟩⟩;have t3:aA H16 H17:=λc o e=>kp c o (t2 c o e) (bJ e nx);have agS:dZ C H17 b r w ak aO bi bj:=⟨⟨dx,pr,pm,pg,agR,t3 _ _ V6,t3 _ _ hpm,t3 _ _ V7⟩,B⟩
  refine⟨_,rfl,b,dx,_,rfl,agR,rfl,b,r,w,ak,aO,bi,bj,rfl,agS,λb2 ZP s18 BT=>?_⟩;have BA:=agS.mv s18;have S18:aA H ZP:=((S13.trans s16).trans t3).trans s18;have acT:=s18 _ _ (t3 _ _ V6);have ahB:=s18 _ _ (t3 _ _ V7);refine⟨_,rfl,_,rfl,_,rfl,a,_,rfl,S18.seq hS,λta hta=>?_⟩;generalize hxs:oE (ns.map V.int) (some 3) (some 63)=xs;have kta:aA ZP (upd ZP ta (HO.lst xs)):=aA.upd hta;have abL:upd ZP ta (HO.lst xs) ta=some (.lst xs):=au;generalize upd ZP ta (HO.lst xs)=H19 at kta abL ⊢;refine⟨ta,rfl,⟨_,aW.of abL⟩,oA (K:=K) (a:=ta) (xs:=xs) (λn σ H'=>∃v3 v7 v8 v9 v10 v11 Ua Ub Ml:Option V,σ=[some (.ref a),some (.str (S ls)),some (.ref pr),v3,some (.ref pg),some (.ref b),some (.ref b2),v7,v8,v9,v10,v11,Ua,Ub,Ml]/\aA H19 H')
   ⟨_,none,none,none,none,none,none,none,none,rfl,aA.refl _⟩ (λn σ H' _ h=>by obtain⟨_,_,_,_,_,_,_,_,_,_,sm⟩:=h;exact aW.of (sm _ _ abL)) ?_ ?_⟩
  ·rintro n1 x σ H20 hx ⟨v3,v7,v8,v9,v10,v11,Ua,Ub,Ml,rfl,s20⟩
   obtain⟨cc,rfl⟩:∃cc:Int,x=.int cc:=by
    have:=be hx;rw[<- hxs]at this;exact ael this
   have k20:=kta.trans s20;have Nt:=k20 _ _ acT;refine⟨_,rfl,cc,rfl,λR x7 H21 s21 aiw hRn=>?_⟩;refine⟨_,rfl,_,rfl,_,rfl,pr,ak,r,w,R,x7,ls,rfl,aiw,s21 _ _ Nt,hb,r1,r9,w1,w9,hfree,hA,λt0 as0 ts0 H22 k22 ht0 hL0 aix hne0 h70 _=>?_⟩;obtain⟨x8,aiy⟩:=k22.2;have s22:aA H20 H22:=aA.kp s21 hRn k22;refine⟨_,rfl,_,rfl,t0,R,pr,x8,ak,r,w,as0,ts0,rfl,aiy,s22 _ _ Nt,hb,r1,r9,w1,w9,ht0,hL0,aix,lj.mpr hne0,h70,λt as ts H23 k23 ht hL bA hrk h0 h7=>?_⟩;obtain⟨x9,abM⟩:=k23.2;have s23:aA H20 H23:=aA.kp s22 hRn k23;have Ir:=T9 hrk;refine⟨_,rfl,_,rfl,_,rfl,t,R,x9,as,ts,ls,r,w,rfl,abM,ht,hL,bA,h0,h7,hA,λcT ZQ k24 hrl=>?_⟩;obtain⟨x10,aiz⟩:=k24.2;have Fq:aA H20 ZQ:=aA.kp s23 hRn k24;have aiA:=k24.tup abM _ _ ht;have aiB:=hL.iw (k24.tup abM);clear ht hL;refine⟨_,rfl,ls,_,ls[0],rfl,rfl,Cp,aH (j:=0) (by simp[l0]),_,rfl,ls,_,ls[1],rfl,rfl,Cp,aH (j:=1) (by simp[l1]),[ls[0]],[ls[1]],rfl,rfl,zsz 2,zsz 1,λZR aiC=>?_⟩;have kW:aA ZQ (upd ZQ ZR (HO.lst [.str (S ([ls[0]]++[ls[1]]))])):=aA.upd aiC;have eW:upd ZQ ZR (HO.lst [.str (S ([ls[0]]++[ls[1]]))]) ZR=some (.lst (Ts [[ls[0],ls[1]]])):=au;generalize upd ZQ ZR (HO.lst [.str (S ([ls[0]]++[ls[1]]))])=H25 at kW eW ⊢;have Qx:=Fq.trans kW;have V8:=kW _ _ aiA;have V9:=aiB.mv kW;have abN:=kW _ _ aiz;have wd0:∀l∈[[ls[0],ls[1]]],pU l:=λl hl=>by
    rw[ay.mp hl];refine⟨by show 2<=2;decide,by show 2<=9;decide,λc hc=>?_⟩;rcases bo.mp hc with y | y
    ·rw[y];exact hA.az _ (ah l0)
    ·rw[ay.mp y];exact hA.az _ (ah l1)
   refine⟨_,rfl,_,rfl,_,rfl,pr,pg,t,ak,r,w,bi,bj,as,ts,rfl,Qx _ _ Nt,hb,r1,r9,w1,w9,Bb,Qx _ _ (k20 _ _ ahB),V8,V9,bA,h0,h7,λT d x y H26 wD hdr hT=>?_⟩;have abO:=Qx.trans wD;refine⟨T,_,_,.int d,rfl,rfl,aP.of hT,aH (j:=0) rfl,_,_,rfl,rfl,?_⟩;obtain⟨gd,egd⟩:∃gd:Bool,gd=decide ((3:Int) < (d:Int)):=⟨_,rfl⟩
   dsimp only;rw[show decide ((3:Int) < (d:Int))=gd from egd.symm];have vY:gd=true->iR ts:=λhg=>by
    rw[hg]at egd;have h3:=bv egd.symm;refine Qt ?_ hrk;cases hdr with
    | mD _=>exact absurd h3 (by decide)
    | mF _ _=>exact absurd h3 (by decide)
    | gap _ _ _=>exact absurd h3 (by decide)
    | mG _ h _ _=>exact h
    | ok _ h _ _=>exact h
   refine⟨λσ' H'=>∃(Lw:Addr) (ws:AA),σ'=[some (.ref a),some (.str (S ls)),some (.ref pr),some (.ref R),some (.ref pg),some (.ref b),some (.ref b2),some (.int cc),some (.ref t),some (.str (S cT)),some (.ref Lw),some (.bl gd),Ua,Ub,Ml]/\aA H20 H'/\H' t=some (.tup (as.map V.ref))/\cH H' as ts/\H' Lw=some (.lst (Ts ws))/\(∀l∈ws,pU l)/\ws.length<=20,?_,?_⟩
   ·refine⟨_,rfl,_,rfl,jl (λ_=>?_) (λ_=>?_)⟩
    ·refine⟨_,rfl,_,rfl,_,rfl,_,rfl,pr,t,R,x10,ls,ak,r,w,as,ts,rfl,wD _ _ abN,hA,abO _ _ Nt,hb,r9,w9,Bb,wD _ _ V8,V9.mv wD,bA,h0,h7,λp ws H27 k27 hp TV agT=>?_⟩
     exact⟨p,ws,rfl,aA.kp abO hRn k27,k27.tup (wD _ _ abN) _ _ (wD _ _ V8),(V9.mv wD).iw (k27.tup (wD _ _ abN)),hp,TV,agT⟩
    ·exact⟨ZR,_,rfl,abO,wD _ _ V8,V9.mv wD,wD _ _ eW,wd0,by show 1<=20;decide⟩
   rintro σ' H28 ⟨Lw,ws,rfl,s28,ht,hL,hLw,TV,agT⟩;refine⟨_,rfl,λk dk nk ndk nek=>?_⟩;have t4:aA H28 (upd (upd H28 dk (HO.own k)) k (HO.ins CB dk [])):=λc o e=>by rw[aM (bJ e nk),aM (bJ e ndk)];exact e
   refine⟨k,dk,Lw,ws,rfl,au,.inl (aW.of (t4 _ _ hLw)),TV,by lia,λd0 bs H29 hdn BK hbs mj kp=>⟨rfl,?_⟩⟩;have s29:aA H28 H29:=λc o e=>kp c o (t4 c o e) (bJ e nk);have k29:=k20.trans (s28.trans s29);refine⟨λσ' H'=>∃(x1:V) (u:Vd),σ'=[some (.ref a),some (.str (S ls)),some (.ref pr),some (.ref R),some (.ref pg),some (.ref b),some (.ref b2),some (.int cc),some (.ref t),some (.str (S cT)),some (.ref Lw),some (.bl gd),some (.ref k),some x1,Ml]/\aA H29 H'/\tu ak r w bi bj bs cT ts u/\ZL c H' x1 u,?_,?_⟩
   ·refine⟨_,rfl,_,rfl,_,rfl,_,rfl,b,k,d0,bs,cT,.ref t,r,w,ak,aO,bi,bj,rfl,BA.mv k29,BK,by lia,.inr ⟨t,as,ts,rfl,s29 _ _ ht,hL.mv s29,bA,h0,h7,Ir,λvd cls dd e H33 hv1 hv2 Fw he=>?_,λhv1 H33 Fw=>?_⟩⟩
    ·exact⟨_,vd,rfl,Fw,hv1,ZL.no hv2 he⟩
    ·exact⟨_,.ok,rfl,Fw,hv1,ZL.ok⟩
   rintro σ' H30 ⟨x1,u,rfl,s30,hu,hct⟩;have Ji:=s29.trans s30;have k30:=k29.trans s30;have hok:∀t∈ts,okT t:=λt ht=>by
    obtain⟨a1,a2,a3⟩:=bA t ht;exact⟨by lia,by lia,a3.lt⟩
   have hnd:(ts.map λt=>rk (sw t)).Nodup:=by
    rw[di]at hrk;show List.Pairwise _ _;rw[di];refine f6 (λ{a b} ha hb hab z=>?_) hrk;have z':a.2.1*1000+a.1=b.2.1*1000+b.1:=z;have h':a.1*1000+a.2.1 < b.1*1000+b.2.1:=hab;obtain⟨a1,a2,_⟩:=hok a ha;obtain⟨b1,b2,_⟩:=hok b hb;lia
   refine⟨_,rfl,_,rfl,_,rfl,_,rfl,t,as,ts,rfl,Ji _ _ ht,hL.mv Ji,hok,hnd,by lia,λt2 as2 lU H31 QB uU hL2 Mj ZK=>?_⟩;have vg:∀t∈lU,inB w r t:=λx hx=>TY bA x (Mj.mem_iff.mp hx);have hlen2:lU.length=ts.length:=by rw[Mj.length_eq,aa]
   have fin:∀H',aA H31 H'->∀Ml:Option V,∃v3 v7 v8 v9 v10 v11 Ua Ub w14:Option V,([some (.ref a),some (.str (S ls)),some (.ref pr),some (.ref R),some (.ref pg),some (.ref b),some (.ref b2),some (.int cc),some (.ref t),some (.str (S cT)),some (.ref Lw),some (.bl gd),some (.ref k),some x1,Ml]:St)=[some (.ref a),some (.str (S ls)),some (.ref pr),v3,some (.ref pg),some (.ref b),some (.ref b2),v7,v8,v9,v10,v11,Ua,Ub,w14]/\aA H19 H':=λH' s' Ml=>⟨_,_,_,_,_,_,_,_,_,rfl,s20.trans ((s28.trans Ji).trans (QB.trans s'))⟩
   have sS:∀H',aA H31 H'->dZ C H' b r w ak aO bi bj/\H' t=some (.tup (as.map V.ref))/\cH H' as ts:=λH' s'=>⟨BA.mv (k30.trans (QB.trans s')),(Ji.trans (QB.trans s')) _ _ ht,hL.mv (Ji.trans (QB.trans s'))⟩
   refine⟨b2,k,d0,bs,cT,.ref t2,w,r,bZ ak w,bZ aO w,bj,bi,rfl,BT.mv (k30.trans QB),BK.mv (s30.trans QB),by lia,.inr ⟨t2,as2,lU,rfl,uU,hL2,vg,by lia,by lia,T9 ZK,λvd cls dd e H33 hv1 hv2 Fw he=>?_,λhv1 H33 Fw=>?_⟩⟩
   ·have ec:=Qv hb bA h0 hrk Mj ZK hu hv1
    obtain⟨p2,C2,rfl,cx2⟩:=tD.ix VF hv2;cases hct with
    | ok=>rw[<- ec]at p2;exact absurd p2 (by decide)
    | @no a1 aiD dd1 _ hx1 ha1=>
     obtain⟨p1,C1,rfl,cx1⟩:=tD.ix VF hx1;have sA:=QB.trans Fw;refine⟨_,rfl,rfl,_,rfl,rfl,rfl,_,rfl,?_⟩;rw[al (show ¬V.ref a1=V.non from λz=>nomatch z),al (show ¬V.ref e=V.non from λz=>nomatch z)];refine vG rfl ⟨_,rfl,rfl,_,rfl,?_⟩;rw[al (show ¬V.ref a1=V.non from λz=>nomatch z)];refine bM ⟨_,rfl,a1,C1,dd1,_,rfl,sA _ _ ha1,jm.mv hx1.kn sA,cx1,λH34 s34=>⟨_,rfl,e,C2,dd,_,rfl,s34 _ _ he,jm.mv hv2.kn s34,cx2,λH35 s35=>⟨rfl,_,rfl,vG (by rw[ec]) ?_⟩⟩⟩;have V_:=Fw.trans (s34.trans s35);refine⟨_,rfl,_,rfl,?_⟩;cases gd with
     | false=>exact bB (fin _ V_ _)
     | true=>
      obtain⟨B35,abP,abQ⟩:=sS _ V_;exact bM ⟨_,rfl,_,rfl,b,t,as,ts,r,w,ak,aO,bi,bj,rfl,B35,abP,abQ,bA,h0,h7,vY rfl,λH36 s36=>⟨_,rfl,bB (fin _ (V_.trans s36) _)⟩⟩
   ·have ec:=Qv hb bA h0 hrk Mj ZK hu hv1
    cases hct with
    | @no a1 aiD dd1 _ hx1 ha1=>
     obtain⟨p1,_⟩:=tD.ix VF hx1;rw[ec]at p1;exact absurd p1 (by decide)
    | ok=>
     refine⟨_,rfl,rfl,_,rfl,rfl,rfl,_,rfl,?_⟩;rw[am (show V.non=V.non from rfl)];refine vG rfl ⟨_,rfl,rfl,_,rfl,?_⟩;rw[am (show V.non=V.non from rfl)];refine bB ?_;refine⟨_,rfl,_,rfl,?_⟩;cases gd with
     | false=>exact bB (fin _ Fw _)
     | true=>
      obtain⟨B35,abP,abQ⟩:=sS _ Fw;exact bM ⟨_,rfl,_,rfl,b,t,as,ts,r,w,ak,aO,bi,bj,rfl,B35,abP,abQ,bA,h0,h7,vY rfl,λH36 s36=>⟨_,rfl,bB (fin _ (Fw.trans s36) _)⟩⟩
  ·rintro σ H9 ⟨v3,v7,v8,v9,v10,v11,Ua,Ub,Ml,rfl,s9⟩
   have B9:=BA.mv (kta.trans s9);obtain⟨dx9,pr9,pm9,pb9,ex9,hr9,_,_⟩:=id B9.ex;refine⟨_,rfl,b,C,dx9,_,_,rfl,ex9,fP.cl,fP.nr,rfl,_,rfl,2,.tup (ak.map Dt.str),.tup (ak.map Dt.str),by decide,.tup (aP.of hr9) (dW.Je agO),.tup (aP.of ((kta.trans s9) _ _ acT)) (dW.Je agO),?_⟩;simp only[cE,if_false,decide_true];exact q _
end
end My
end
namespace My
open PySem L2
section
variable {P:Program}{w:World}{K:W.Frag}{mg:Str->Option Value}{base:Heap}
structure zH (K:W.Frag)(mg:Str->Option Value)(C f0 f1 f2 f3 f4 f5:Addr)(jt iT fd2 Uc Ud Ue:FuncData):Prop where
 T:gb K C
 E_:mg "Board"=some (.ref C)
 M:Mk K C f0
 F0:gQ K "__init__" "Board.__init__" jq f0 jt
 b0:cJ K jt ["self","rows","marks","begin"] []
 F1:gQ K "at" "Board.at" kO f1 iT
 b1:cJ K iT ["self","row","column"] []
 m1:Meth K C "at" f1
 F2:gQ K "is_free" "Board.is_free" gG f2 fd2
 b2:cJ K fd2 ["self"] []
 m2:Meth K C "is_free" f2
 F3:gQ K "run" "Board.run" jN f3 Uc
 b3:cJ K Uc ["self","row","column","way"] []
 m3:Meth K C "run" f3
 F4:gQ K "laid" "Board.laid" jr f4 Ud
 b4:cJ K Ud ["self","laying"] []
 m4:Meth K C "laid" f4
 F5:gQ K "turned" "Board.turned" ig f5 Ue
 b5:cJ K Ue ["self"] []
 m5:Meth K C "turned" f5
theorem abR {h:Heap}{C f0 f1 f2 f3 f4 f5:Addr}(X:K.In h)(G:h.Ns mainGlobals mg)
  {od0 an0 od1 an1 od2 an2 od3 an3 od4 an4 od5 an5:Option Addr} {sl0 sl1 sl2 X3 sl4 sl5:Array (Option Value)} {oc0 kV0 dc0 pm0 ZS ct0 oc1 kV1 dc1 T8 ZV ct1 oc2 kV2 dc2 Mj cd2 ct2 oc3 kV3 dc3 pm3 cd3 ct3 oc4 kV4 dc4 pm4 cd4 ct4 oc5 kV5 dc5 pm5 cd5 ct5:Value}
  (aC:W.nsIn K mainGlobals "Board"=some (some (.ref C)))
  (a0:W.findIn K (.ref C) "__init__"=some (some (.ref f0))) (i0:W.isFn K (.ref f0)=true) (l0:K.lookup f0=some ⟨oc0,od0,.func (W.fnOf "__init__" "Board.__init__" (fK jq) (dw jq) (aJ jq) .none kV0 dc0 pm0 an0 ZS ct0),sl0⟩) (c0:W.codeIn K ZS "Board.__init__"=true) (k0:W.keepIn K (.ref f0)=true)
  (a1:W.findIn K (.ref C) "at"=some (some (.ref f1))) (i1:W.isFn K (.ref f1)=true) (l1:K.lookup f1=some ⟨oc1,od1,.func (W.fnOf "at" "Board.at" (fK kO) (dw kO) (aJ kO) .none kV1 dc1 T8 an1 ZV ct1),sl1⟩) (c1:W.codeIn K ZV "Board.at"=true) (k1:W.keepIn K (.ref f1)=true)
  (a2:W.findIn K (.ref C) "is_free"=some (some (.ref f2))) (i2:W.isFn K (.ref f2)=true) (l2:K.lookup f2=some ⟨oc2,od2,.func (W.fnOf "is_free" "Board.is_free" (fK gG) (dw gG) (aJ gG) .none kV2 dc2 Mj an2 cd2 ct2),sl2⟩) (c2:W.codeIn K cd2 "Board.is_free"=true) (k2:W.keepIn K (.ref f2)=true)
  (a3:W.findIn K (.ref C) "run"=some (some (.ref f3))) (i3:W.isFn K (.ref f3)=true) (l3:K.lookup f3=some ⟨oc3,od3,.func (W.fnOf "run" "Board.run" (fK jN) (dw jN) (aJ jN) .none kV3 dc3 pm3 an3 cd3 ct3),X3⟩) (c3:W.codeIn K cd3 "Board.run"=true) (k3:W.keepIn K (.ref f3)=true)
  (a4:W.findIn K (.ref C) "laid"=some (some (.ref f4))) (i4:W.isFn K (.ref f4)=true) (l4:K.lookup f4=some ⟨oc4,od4,.func (W.fnOf "laid" "Board.laid" (fK jr) (dw jr) (aJ jr) .none kV4 dc4 pm4 an4 cd4 ct4),sl4⟩) (c4:W.codeIn K cd4 "Board.laid"=true) (k4:W.keepIn K (.ref f4)=true)
  (a5:W.findIn K (.ref C) "turned"=some (some (.ref f5))) (i5:W.isFn K (.ref f5)=true) (l5:K.lookup f5=some ⟨oc5,od5,.func (W.fnOf "turned" "Board.turned" (fK ig) (dw ig) (aJ ig) .none kV5 dc5 pm5 an5 cd5 ct5),sl5⟩) (c5:W.codeIn K cd5 "Board.turned"=true) (k5:W.keepIn K (.ref f5)=true)
  (pg:W.plainGet K C Str.empty=true) (hd:W.hasDictIn K C=true) (po:W.plainOver K C=true) (sa:W.findIn K (.ref C) "__setattr__"=some (some (.builtin "object.__setattr__"))) (mk:W.makesIn K C=true) (kc:W.keepIn K (.ref C)=true) (QD:W.findIn K (.ref C) "rows"=some none) (nf1:W.findIn K (.ref C) "marks"=some none) (nf2:W.findIn K (.ref C) "begin"=some none):∃C f0 f1 f2 f3 f4 f5 jt iT fd2 Uc Ud Ue,zH K mg C f0 f1 f2 f3 f4 f5 jt iT fd2 Uc Ud Ue:=by
 have F0:=jk (st:=jq) l0 c0 k0;have F1:=jk (st:=kO) l1 c1 k1;have F2:=jk (st:=gG) l2 c2 k2;have F3:=jk (st:=jN) l3 c3 k3;have F4:=jk (st:=jr) l4 c4 k4;have F5:=jk (st:=ig) l5 c5 k5;exact⟨C,f0,f1,f2,f3,f4,f5,_,_,_,_,_,_,⟨⟨pg,hd,po,sa⟩,QD,nf1,nf2⟩,ce X G aC,⟨mk,a0,i0,kc⟩,F0,F0.binds (ps:=["self","rows","marks","begin"]) (λ_ _ _ _ _ _ us hl=>L2.e4 (λ_ _ _ _=>rfl) us hl),F1,F1.binds (ps:=["self","row","column"]) (λ_ _ _ _ _ _ us hl=>L2.e3 (λ_ _ _=>rfl) us hl),⟨a1,i1,k1⟩,F2,F2.binds (ps:=["self"]) (λ_ _ _ _ _ _ us hl=>L2.e1 (λ_=>rfl) us hl),⟨a2,i2,k2⟩,F3,F3.binds (ps:=["self","row","column","way"]) (λ_ _ _ _ _ _ us hl=>L2.e4 (λ_ _ _ _=>rfl) us hl),⟨a3,i3,k3⟩,F4,F4.binds (ps:=["self","laying"]) (λ_ _ _ _ _ _ us hl=>L2.e2 (λ_ _=>rfl) us hl),⟨a4,i4,k4⟩,F5,F5.binds (ps:=["self"]) (λ_ _ _ _ _ _ us hl=>L2.e1 (λ_=>rfl) us hl),⟨a5,i5,k5⟩⟩
structure CP (K:W.Frag)(mg:Str->Option Value)(C f0 f1:Addr)(jt iT:FuncData):Prop where
 T:yF K C
 E_:mg "Book"=some (.ref C)
 M:Mk K C f0
 F0:gQ K "__init__" "Book.__init__" jO f0 jt
 b0:cJ K jt ["self","words"] []
 F1:gQ K "has" "Book.has" k_ f1 iT
 b1:cJ K iT ["self","text"] []
 m1:Meth K C "has" f1
theorem aer {h:Heap}{C f0 f1:Addr}(X:K.In h)(G:h.Ns mainGlobals mg)
  {od0 an0 od1 an1:Option Addr} {sl0 sl1:Array (Option Value)} {oc0 kV0 dc0 pm0 ZS ct0 oc1 kV1 dc1 T8 ZV ct1:Value}
  (aC:W.nsIn K mainGlobals "Book"=some (some (.ref C)))
  (a0:W.findIn K (.ref C) "__init__"=some (some (.ref f0))) (i0:W.isFn K (.ref f0)=true) (l0:K.lookup f0=some ⟨oc0,od0,.func (W.fnOf "__init__" "Book.__init__" (fK jO) (dw jO) (aJ jO) .none kV0 dc0 pm0 an0 ZS ct0),sl0⟩) (c0:W.codeIn K ZS "Book.__init__"=true) (k0:W.keepIn K (.ref f0)=true)
  (a1:W.findIn K (.ref C) "has"=some (some (.ref f1))) (i1:W.isFn K (.ref f1)=true) (l1:K.lookup f1=some ⟨oc1,od1,.func (W.fnOf "has" "Book.has" (fK k_) (dw k_) (aJ k_) .none kV1 dc1 T8 an1 ZV ct1),sl1⟩) (c1:W.codeIn K ZV "Book.has"=true) (k1:W.keepIn K (.ref f1)=true)
  (pg:W.plainGet K C Str.empty=true) (hd:W.hasDictIn K C=true) (po:W.plainOver K C=true) (sa:W.findIn K (.ref C) "__setattr__"=some (some (.builtin "object.__setattr__"))) (mk:W.makesIn K C=true) (kc:W.keepIn K (.ref C)=true) (QD:W.findIn K (.ref C) "held"=some none):∃C f0 f1 jt iT,CP K mg C f0 f1 jt iT:=by
 have F0:=jk (st:=jO) l0 c0 k0;have F1:=jk (st:=k_) l1 c1 k1;exact⟨C,f0,f1,_,_,⟨⟨pg,hd,po,sa⟩,QD⟩,ce X G aC,⟨mk,a0,i0,kc⟩,F0,F0.binds (ps:=["self","words"]) (λ_ _ _ _ _ _ us hl=>L2.e2 (λ_ _=>rfl) us hl),F1,F1.binds (ps:=["self","text"]) (λ_ _ _ _ _ _ us hl=>L2.e2 (λ_ _=>rfl) us hl),⟨a1,i1,k1⟩⟩
structure abS (K:W.Frag)(mg:Str->Option Value)(bF bV bK cG cu bC bI cW cP cX dF cY eV cZ dG CR gM jT fj fQ:Addr)(mJ rN jJ j8:FuncData):Prop where
 Jj:mg "NoLaying"=some (.ref bF)
 aes:mg "Taken"=some (.ref bV)
 Mp:mg "Crooked"=some (.ref bK)
 ahC:mg "Gap"=some (.ref cG)
 Ug:mg "Apart"=some (.ref cu)
 ZW:mg "Lacking"=some (.ref bC)
 abT:mg "NoWord"=some (.ref bI)
 abU:mg "NoBack"=some (.ref cW)
 ZX:mg "NoBoard"=some (.ref cP)
 abV:mg "NoDeed"=some (.ref cX)
 aeu:mg "NoRow"=some (.ref dF)
 abW:mg "NoText"=some (.ref cY)
 agU:mg "Over"=some (.ref eV)
 abX:mg "TooFew"=some (.ref cZ)
 aev:mg "Twice"=some (.ref dG)
 mR:mg "RackError"=some (.ref CR)
 I:InitOf K CR
 pY:W.excIn K bF jc "ValueError.__new__"=true
 rO:W.excIn K bK jc "ValueError.__new__"=true
 yG:W.excIn K cu jc "ValueError.__new__"=true
 Es:nu K mg "Taken" bV gM ["row","column"]
 Et:gQ K "__init__" "Taken.__init__" jo gM mJ
 JV:cJ K mJ ["self","row","column"] []
 Nu:nu K mg "Gap" cG jT ["row","column"]
 Nv:gQ K "__init__" "Gap.__init__" kJ jT rN
 Vs:cJ K rN ["self","row","column"] []
 wG:nu K mg "Lacking" bC fj ["tile"]
 wH:gQ K "__init__" "Lacking.__init__" h_ fj jJ
 Cu:cJ K jJ ["self","tile"] []
 zJ:nu K mg "NoWord" bI fQ ["word"]
 zK:gQ K "__init__" "NoWord.__init__" iV fQ j8
 zE:cJ K j8 ["self","word"] []
 M:VdM K ⟨bF,bV,bK,cG,cu,bC,bI⟩ CR
 V:VdF K ⟨bF,bV,bK,cG,cu,bC,bI⟩ [cW,cP,cX,dF,cY,eV,cZ,dG]
theorem qH {C:Addr}{Cs:List Addr}{j:Nat}(h:(Cs.zipIdx.all λp=>W.kitOne K (.ref C) (.ref p.1)==some (decide (p.2=j)))=true):∀i D,Cs[i]?=some D->W.kitOne K (.ref C) (.ref D)=some (decide (i=j)):=λi D e=>
 beq_iff_eq.mp (cy.mp h (D,i) (List.mem_zipIdx_iff_getElem?.mpr e))
theorem aew {h:Heap}{bF bV bK cG cu bC bI cW cP cX dF cY eV cZ dG CR gM jT fj fQ:Addr}(X:K.In h)(G:h.Ns mainGlobals mg)
  {abY abZ agV agW Wa Wb Z0 Z1:Option Addr} {ab0 agX Wc Z4:Array (Option Value)} {ab1 ab2 ab3 ab4 QF ab5 agY agZ ag0 ag1 Z5 ag2 Wd Wf Wg Wh Jk Wi Z6 Z7 Z8 Z9 Mq Z_:Value}
  (zL:W.nsIn K mainGlobals "NoLaying"=some (some (.ref bF)))
  (Eu:W.nsIn K mainGlobals "Taken"=some (some (.ref bV)))
  (CQ:W.nsIn K mainGlobals "Crooked"=some (some (.ref bK)))
  (Nx:W.nsIn K mainGlobals "Gap"=some (some (.ref cG)))
  (J6:W.nsIn K mainGlobals "Apart"=some (some (.ref cu)))
  (wI:W.nsIn K mainGlobals "Lacking"=some (some (.ref bC)))
  (zM:W.nsIn K mainGlobals "NoWord"=some (some (.ref bI)))
  (Gr:W.nsIn K mainGlobals "NoBack"=some (some (.ref cW)))
  (CV:W.nsIn K mainGlobals "NoBoard"=some (some (.ref cP)))
  (Gs:W.nsIn K mainGlobals "NoDeed"=some (some (.ref cX)))
  (J7:W.nsIn K mainGlobals "NoRow"=some (some (.ref dF)))
  (Gu:W.nsIn K mainGlobals "NoText"=some (some (.ref cY)))
  (QH:W.nsIn K mainGlobals "Over"=some (some (.ref eV)))
  (Gv:W.nsIn K mainGlobals "TooFew"=some (some (.ref cZ)))
  (J8:W.nsIn K mainGlobals "Twice"=some (some (.ref dG)))
  (aR:W.nsIn K mainGlobals "RackError"=some (some (.ref CR)))
  (pY:W.excIn K bF jc "ValueError.__new__"=true)
  (rO:W.excIn K bK jc "ValueError.__new__"=true)
  (yG:W.excIn K cu jc "ValueError.__new__"=true)
  (zN:W.exmOne K (.ref bF) (.ref CR)=some true)
  (J9:W.exmOne K (.ref bV) (.ref CR)=some true)
  (CZ:W.exmOne K (.ref bK) (.ref CR)=some true)
  (Wj:W.exmOne K (.ref cG) (.ref CR)=some true)
  (J_:W.exmOne K (.ref cu) (.ref CR)=some true)
  (C_:W.exmOne K (.ref bC) (.ref CR)=some true)
  (Gw:W.exmOne K (.ref bI) (.ref CR)=some true)
  (QJ:W.findIn K (.ref bV) "__init__"=some (some (.ref gM)))
  (Gx:W.isFn K (.ref gM)=true)
  (Gy:K.lookup gM=some ⟨ab1,abY,.func (W.fnOf "__init__" "Taken.__init__" (fK jo) (dw jo) (aJ jo) .none ab2 ab3 ab4 abZ QF ab5),ab0⟩)
  (Gz:W.codeIn K QF "Taken.__init__"=true)
  (GC:W.keepIn K (.ref gM)=true)
  (Dc:vL K bV gM=true)
  (GD:W.keepIn K (.ref bV)=true)
  (GF:((W.clsIn K bV).any λcd=>cd.hasDict&&qy cd.mro)=true)
  (GJ:W.findIn K (.ref bV) "__setattr__"=some (some (.builtin "object.__setattr__")))
  (GK:W.hasDictIn K bV=true)
  (w5:W.findIn K (.ref bV) "row"=some none)
  (qI:W.findIn K (.ref bV) "column"=some none)
  (aac:W.findIn K (.ref cG) "__init__"=some (some (.ref jT)))
  (QK:W.isFn K (.ref jT)=true)
  (QM:K.lookup jT=some ⟨agY,agV,.func (W.fnOf "__init__" "Gap.__init__" (fK kJ) (dw kJ) (aJ kJ) .none agZ ag0 ag1 agW Z5 ag2),agX⟩)
  (QV:W.codeIn K Z5 "Gap.__init__"=true)
  (QX:W.keepIn K (.ref jT)=true)
  (Ka:vL K cG jT=true)
  (QZ:W.keepIn K (.ref cG)=true)
  (Q0:((W.clsIn K cG).any λcd=>cd.hasDict&&qy cd.mro)=true)
  (Q5:W.findIn K (.ref cG) "__setattr__"=some (some (.builtin "object.__setattr__")))
  (Q6:W.hasDictIn K cG=true)
  (Dd:W.findIn K (.ref cG) "row"=some none)
  (vh:W.findIn K (.ref cG) "column"=some none)
  (Jl:W.findIn K (.ref bC) "__init__"=some (some (.ref fj)))
  (zO:W.isFn K (.ref fj)=true)
  (zP:K.lookup fj=some ⟨Wd,Wa,.func (W.fnOf "__init__" "Lacking.__init__" (fK h_) (dw h_) (aJ h_) .none Wf Wg Wh Wb Jk Wi),Wc⟩)
  (zQ:W.codeIn K Jk "Lacking.__init__"=true)
  (zR:W.keepIn K (.ref fj)=true)
  (w6:vL K bC fj=true)
  (zT:W.keepIn K (.ref bC)=true)
  (zU:((W.clsIn K bC).any λcd=>cd.hasDict&&qy cd.mro)=true)
  (zV:W.findIn K (.ref bC) "__setattr__"=some (some (.builtin "object.__setattr__")))
  (zW:W.hasDictIn K bC=true)
  (qJ:W.findIn K (.ref bC) "tile"=some none)
  (Mr:W.findIn K (.ref bI) "__init__"=some (some (.ref fQ)))
  (Df:W.isFn K (.ref fQ)=true)
  (Dg:K.lookup fQ=some ⟨Z6,Z0,.func (W.fnOf "__init__" "NoWord.__init__" (fK iV) (dw iV) (aJ iV) .none Z7 Z8 Z9 Z1 Mq Z_),Z4⟩)
  (Dh:W.codeIn K Mq "NoWord.__init__"=true)
  (Di:W.keepIn K (.ref fQ)=true)
  (zX:vL K bI fQ=true)
  (Dj:W.keepIn K (.ref bI)=true)
  (Dk:((W.clsIn K bI).any λcd=>cd.hasDict&&qy cd.mro)=true)
  (Dl:W.findIn K (.ref bI) "__setattr__"=some (some (.builtin "object.__setattr__")))
  (Dm:W.hasDictIn K bI=true)
  (rW:W.findIn K (.ref bI) "word"=some none)
  (hn:W.specialIn K (.builtin "object.__class__") "__get__"=some (some (.builtin "getset_descriptor.__get__")))
  (ht:W.takesIn K (.builtin "object.__class__")=some true)
  (xg:(W.clsIn K bF).isSome=true)
  (xq:W.findIn K (.ref bF) "__getattribute__"=some (some (.builtin "BaseException.__getattribute__")))
  (xr:W.findIn K (.ref bF) "__getattr__"=some none)
  (xu:W.findIn K (.ref bF) "__class__"=some (some (.builtin "object.__class__")))
  (xG:W.mroIn K bF (.type "object")=some true)
  (xH:W.mroIn K bF (.type "BaseException")=some true)
  (zY:W.kitOne K (.ref bF) (.type "ValueError")=some true)
  (zZ:(([bF,bV,bK,cG,cu,bC,bI]:List Addr).zipIdx.all λp=>W.kitOne K (.ref bF) (.ref p.1)==some (decide (p.2=0)))=true)
  (z_:W.kitAny K (.ref bF) (([cW,cP,cX,dF,cY,eV,cZ,dG]:List Addr).map Value.ref)=some false)
  (Aa:(W.clsIn K bV).isSome=true)
  (Ab:W.findIn K (.ref bV) "__getattribute__"=some (some (.builtin "BaseException.__getattribute__")))
  (Ac:W.findIn K (.ref bV) "__getattr__"=some none)
  (Ad:W.findIn K (.ref bV) "__class__"=some (some (.builtin "object.__class__")))
  (vm:W.mroIn K bV (.type "object")=some true)
  (Ae:W.mroIn K bV (.type "BaseException")=some true)
  (Kc:W.kitOne K (.ref bV) (.type "ValueError")=some true)
  (Kd:(([bF,bV,bK,cG,cu,bC,bI]:List Addr).zipIdx.all λp=>W.kitOne K (.ref bV) (.ref p.1)==some (decide (p.2=1)))=true)
  (Ke:W.kitAny K (.ref bV) (([cW,cP,cX,dF,cY,eV,cZ,dG]:List Addr).map Value.ref)=some false)
  (Af:(W.clsIn K bK).isSome=true)
  (Ag:W.findIn K (.ref bK) "__getattribute__"=some (some (.builtin "BaseException.__getattribute__")))
  (Ah:W.findIn K (.ref bK) "__getattr__"=some none)
  (Ai:W.findIn K (.ref bK) "__class__"=some (some (.builtin "object.__class__")))
  (Aj:W.mroIn K bK (.type "object")=some true)
  (Ak:W.mroIn K bK (.type "BaseException")=some true)
  (Dn:W.kitOne K (.ref bK) (.type "ValueError")=some true)
  (Dp:(([bF,bV,bK,cG,cu,bC,bI]:List Addr).zipIdx.all λp=>W.kitOne K (.ref bK) (.ref p.1)==some (decide (p.2=2)))=true)
  (Dq:W.kitAny K (.ref bK) (([cW,cP,cX,dF,cY,eV,cZ,dG]:List Addr).map Value.ref)=some false)
  (Jm:(W.clsIn K cG).isSome=true)
  (Jo:W.findIn K (.ref cG) "__getattribute__"=some (some (.builtin "BaseException.__getattribute__")))
  (Jp:W.findIn K (.ref cG) "__getattr__"=some none)
  (Jq:W.findIn K (.ref cG) "__class__"=some (some (.builtin "object.__class__")))
  (Dr:W.mroIn K cG (.type "object")=some true)
  (Jr:W.mroIn K cG (.type "BaseException")=some true)
  (Wk:W.kitOne K (.ref cG) (.type "ValueError")=some true)
  (Wm:(([bF,bV,bK,cG,cu,bC,bI]:List Addr).zipIdx.all λp=>W.kitOne K (.ref cG) (.ref p.1)==some (decide (p.2=3)))=true)
  (Wn:W.kitAny K (.ref cG) (([cW,cP,cX,dF,cY,eV,cZ,dG]:List Addr).map Value.ref)=some false)
  (GP:(W.clsIn K cu).isSome=true)
  (GQ:W.findIn K (.ref cu) "__getattribute__"=some (some (.builtin "BaseException.__getattribute__")))
  (GR:W.findIn K (.ref cu) "__getattr__"=some none)
  (GX:W.findIn K (.ref cu) "__class__"=some (some (.builtin "object.__class__")))
  (GZ:W.mroIn K cu (.type "object")=some true)
  (G3:W.mroIn K cu (.type "BaseException")=some true)
  (Kf:W.kitOne K (.ref cu) (.type "ValueError")=some true)
  (Kg:(([bF,bV,bK,cG,cu,bC,bI]:List Addr).zipIdx.all λp=>W.kitOne K (.ref cu) (.ref p.1)==some (decide (p.2=4)))=true)
  (Kh:W.kitAny K (.ref cu) (([cW,cP,cX,dF,cY,eV,cZ,dG]:List Addr).map Value.ref)=some false)
  (t_:(W.clsIn K bC).isSome=true)
  (uc:W.findIn K (.ref bC) "__getattribute__"=some (some (.builtin "BaseException.__getattribute__")))
  (ud:W.findIn K (.ref bC) "__getattr__"=some none)
  (uf:W.findIn K (.ref bC) "__class__"=some (some (.builtin "object.__class__")))
  (pZ:W.mroIn K bC (.type "object")=some true)
  (ug:W.mroIn K bC (.type "BaseException")=some true)
  (Du:W.kitOne K (.ref bC) (.type "ValueError")=some true)
  (Dv:(([bF,bV,bK,cG,cu,bC,bI]:List Addr).zipIdx.all λp=>W.kitOne K (.ref bC) (.ref p.1)==some (decide (p.2=5)))=true)
  (Dw:W.kitAny K (.ref bC) (([cW,cP,cX,dF,cY,eV,cZ,dG]:List Addr).map Value.ref)=some false)
  (wJ:(W.clsIn K bI).isSome=true)
  (wK:W.findIn K (.ref bI) "__getattribute__"=some (some (.builtin "BaseException.__getattribute__")))
  (wL:W.findIn K (.ref bI) "__getattr__"=some none)
  (wM:W.findIn K (.ref bI) "__class__"=some (some (.builtin "object.__class__")))
  (rP:W.mroIn K bI (.type "object")=some true)
  (wN:W.mroIn K bI (.type "BaseException")=some true)
  (G4:W.kitOne K (.ref bI) (.type "ValueError")=some true)
  (G5:(([bF,bV,bK,cG,cu,bC,bI]:List Addr).zipIdx.all λp=>W.kitOne K (.ref bI) (.ref p.1)==some (decide (p.2=6)))=true)
  (G6:W.kitAny K (.ref bI) (([cW,cP,cX,dF,cY,eV,cZ,dG]:List Addr).map Value.ref)=some false)
  (nn:W.kitOne K (.type "NoneType") (.ref bF)=some false)
  (g2:W.specialIn K (.ref CR) "__getattribute__"=some (some (.builtin "type.__getattribute__")))
  (rd:W.readsIn K CR (.type "type")=true)
  (fc:W.findCls K (.ref CR) (.type "type") "__init__"=some (.val (.builtin "ValueError.__init__")))
  : ∃bF bV bK cG cu bC bI cW cP cX dF cY eV cZ dG CR gM jT fj fQ mJ rN jJ j8,abS K mg bF bV bK cG cu bC bI cW cP cX dF cY eV cZ dG CR gM jT fj fQ mJ rN jJ j8:=by
 have Et:=jk (st:=jo) Gy Gz GC;have Nv:=jk (st:=kJ) QM QV QX;have wH:=jk (st:=h_) zP zQ zR;have zK:=jk (st:=iV) Dg Dh Di;have Es:nu K mg "Taken" bV gM ["row","column"]:=⟨ce X G Eu,⟨Dc,Gx,GD⟩,⟨GF,vm,GJ⟩,⟨Aa,Ab,Ac,Ad,hn,ht,vm,Ae⟩,GK,λg hg=>by
  rcases bo.mp hg with z | z
  ·rw[z];exact w5
  ·rw[ay.mp z];exact qI⟩
 have Nu:nu K mg "Gap" cG jT ["row","column"]:=⟨ce X G Nx,⟨Ka,QK,QZ⟩,⟨Q0,Dr,Q5⟩,⟨Jm,Jo,Jp,Jq,hn,ht,Dr,Jr⟩,Q6,λg hg=>by
  rcases bo.mp hg with z | z
  ·rw[z];exact Dd
  ·rw[ay.mp z];exact vh⟩
 have wG:nu K mg "Lacking" bC fj ["tile"]:=⟨ce X G wI,⟨w6,zO,zT⟩,⟨zU,pZ,zV⟩,⟨t_,uc,ud,uf,hn,ht,pZ,ug⟩,zW,λg hg=>by
  rw[ay.mp hg];exact qJ⟩
 have zJ:nu K mg "NoWord" bI fQ ["word"]:=⟨ce X G zM,⟨zX,Df,Dj⟩,⟨Dk,rP,Dl⟩,⟨wJ,wK,wL,wM,hn,ht,rP,wN⟩,Dm,λg hg=>by
  rw[ay.mp hg];exact rW⟩
 exact⟨bF,bV,bK,cG,cu,bC,bI,cW,cP,cX,dF,cY,eV,cZ,dG,CR,gM,jT,fj,fQ,_,_,_,_,⟨ce X G zL,ce X G Eu,ce X G CQ,ce X G Nx,ce X G J6,ce X G wI,ce X G zM,ce X G Gr,ce X G CV,ce X G Gs,ce X G J7,ce X G Gu,ce X G QH,ce X G Gv,ce X G J8,ce X G aR,⟨g2,rd,fc⟩,pY,rO,yG,Es,Et,Et.binds (ps:=["self","row","column"]) (λ_ _ _ _ _ _ us hl=>L2.e3 (λ_ _ _=>rfl) us hl),Nu,Nv,Nv.binds (ps:=["self","row","column"]) (λ_ _ _ _ _ _ us hl=>L2.e3 (λ_ _ _=>rfl) us hl),wG,wH,wH.binds (ps:=["self","tile"]) (λ_ _ _ _ _ _ us hl=>L2.e2 (λ_ _=>rfl) us hl),zJ,zK,zK.binds (ps:=["self","word"]) (λ_ _ _ _ _ _ us hl=>L2.e2 (λ_ _=>rfl) us hl),⟨zN,J9,CZ,Wj,J_,C_,Gw⟩,⟨⟨⟨xg,xq,xr,xu,hn,ht,xG,xH⟩,zY,qH zZ,z_,by decide⟩,⟨⟨Aa,Ab,Ac,Ad,hn,ht,vm,Ae⟩,Kc,qH Kd,Ke,by decide⟩,⟨⟨Af,Ag,Ah,Ai,hn,ht,Aj,Ak⟩,Dn,qH Dp,Dq,by decide⟩,⟨⟨Jm,Jo,Jp,Jq,hn,ht,Dr,Jr⟩,Wk,qH Wm,Wn,by decide⟩,⟨⟨GP,GQ,GR,GX,hn,ht,GZ,G3⟩,Kf,qH Kg,Kh,by decide⟩,⟨⟨t_,uc,ud,uf,hn,ht,pZ,ug⟩,Du,qH Dv,Dw,by decide⟩,⟨⟨wJ,wK,wL,wM,hn,ht,rP,wN⟩,G4,qH G5,G6,by decide⟩,nn⟩⟩⟩
theorem aex (aY:mg "len"=none)(cV:mg "range"=none)(cg:mg "tuple"=none)(g_:mg "list"=none)(gk:mg "sorted"=none)(bH:mg "isinstance"=none)(Cj:mg "bool"=none)(jH:mg "int"=none)(Ek:mg "str"=none)(fX:mg "all"=none)(wB:mg "any"=none)(IK:mg "zip"=none)(Eo:mg "min"=none)(Ep:mg "max"=none)(mH:mg "ValueError"=none)
  (fG:∃t,mg "FREE"=some (.str (S [46]) t)) (yq:∃t,mg "MARKS"=some (.str (S MK) t)) (yp:∃t,mg "MOST"=some (.int 9 t)) (mC:∃t,mg "MOST_TILES"=some (.int 7 t)) (Al:aK K mg "is_whole" tM ["thing"]) (Dy:aK K mg "is_sign" vM ["thing"]) (xJ:aK K mg "letter_of" qP ["sign"]) (Dz:aK K mg "tile_of" vN ["sign"]) (DG:aK K mg "left_of" vO ["rack","signs"]) (Am:aK K mg "is_block" tR ["thing"]) (Ao:aK K mg "are_rows" tU ["thing"]) (xK:aK K mg "are_marks" qR ["thing"]) (qb:aK K mg "is_cell_of" lX ["rows","row","column"]) (rY:aK K mg "is_begin_of" nY ["rows","thing"]) (Aq:aK K mg "is_board" tV ["rows","marks","begin"]) (rZ:aK K mg "column_text" nZ ["rows","column"]) (su:aK K mg "turned_rows" n6 ["rows"]) (xM:aK K mg "is_triple" qT ["board","thing"]) (xO:aK K mg "is_laying" qU ["board","thing"]) (Av:aK K mg "cells_of" tW ["laying"]) (xP:aK K mg "is_across" qW ["laying"]) (DK:aK K mg "is_down" vQ ["laying"]) (mK:aK K mg "is_next_to_taken" jF ["board","row","column"]) (G7:aK K mg "formed" yU ["board","laying"]) (vo:aK K mg "check_free" pC ["board","laying"]) (oH:aK K mg "check_straight" kY ["laying"]) (vp:aK K mg "check_gaps" pD ["board","laying"]) (qK:aK K mg "check_joined" mY ["board","laying"]) (sy:aK K mg "check_words" oh ["board","book","laying"]) (qL:aK K mg "check_laying" mZ ["board","book","rack","laying"]) (DN:aK K mg "is_word" vR ["text"]) (vq:aK K mg "check_word" pG ["text"]) (DP:aK K mg "_law_cell_at" vU ["_law_script","_law_k"]) (Q7:aK K mg "_law_take" Ib ["_law_rest_here","_law_base"]) (Q8:aK K mg "_law_rest" Ie ["_law_cell"]) (DQ:aK K mg "_law_letters" vV ["_law_rest_here"]) (Q9:aK K mg "_law_sign" Ig ["_law_rest_here","_law_letters_here","_law_great"]) (Q_:aK K mg "_law_rows" Ih ["_law_rest_here","_law_letters_here","_law_most"]) (Kl:aK K mg "_law_marks" Ec ["_law_rest_here","_law_rows_here"]) (Km:aK K mg "_law_begin" Ed ["_law_rest_here","_law_rows_here"]) (Ra:aK K mg "_law_grid" Ii ["_law_rows_here","_law_laying"]) (Wo:aK K mg "_law_run" Nm ["_law_grid_here","_law_row","_law_column","_law_way"]) (Ko:aK K mg "_law_words" Ef ["_law_rows_here","_law_laying"]) (DR:aK K mg "_law_is_near" vW ["_law_rows_here","_law_row","_law_column"]) (G8:aK K mg "_law_starts" yW ["_law_rows_here","_law_rest_here"]) (Aw:aK K mg "_law_straight" tX ["_law_rows_here","_law_rest_here","_law_letters_here"]) (G9:aK K mg "_law_joined" yX ["_law_rows_here","_law_begin_here","_law_cells"]) (xQ:aK K mg "_law_cells_due" qX ["_law_rows_here","_law_begin_here","_law_laying"]) (Kq:aK K mg "_law_class" Eh ["_law_error"]) (G_:aK K mg "_law_caught" za ["_law_board","_law_book","_law_rack_here","_law_laying"]) (Rb:aK K mg "_law_bent" Ik ["_law_laying","_law_rest_here","_law_rows_here"]) (Rc:aK K mg "_law_rack" Il ["_law_laying","_law_rest_here","_law_letters_here"]) (Kr:aK K mg "_law_known" Ei ["_law_rows_here","_law_laying","_law_rest_here","_law_letters_here"]) (Hf:aK K mg "_law_turned" zc ["_law_laying"]) (vA:aK K mg "_law_same_words" pH ["_law_board","_law_laying"]) {aey aez aeA aeB aeC aeD aeE:Addr} {ab6 ab7 ab8 ab9 ab_ acd:FuncData} (bW:zH K mg aey aez aeA aeB aeC aeD aeE ab6 ab7 ab8 ab9 ab_ acd) {ag3 ag4 ag5:Addr} {aeF aeG:FuncData} (mL:CP K mg ag3 ag4 ag5 aeF aeG) {bF bV bK cG cu bC bI cW cP cX dF cY eV cZ dG CR gM jT fj fQ:Addr} {mJ rN jJ j8:FuncData} (R:abS K mg bF bV bK cG cu bC bI cW cP cX dF cY eV cZ dG CR gM jT fj fQ mJ rN jJ j8)
  {f:Addr} {fd:FuncData} (F:gQ K "law" "law" Np f fd):cM P w K mg base fU 20 f fd ["_law_script"] (Nj K):=by
 have c1:=Vg (P:=P) (w:=w) (base:=base) DP aY;have r1:=adP (P:=P) (w:=w) (base:=base) Q7;have r2:=adQ (P:=P) (w:=w) (base:=base) Q8 cV;have r3:=Rx DQ aY cV r1;have r4:=aa5 Q9 aY r1;have r5:=aa6 Q_ jH cV cg r1 r4;have r6:=Ys Kl cg r1;have r7:=Yt Km aY r1;have p1:=Vf (P:=P) (w:=w) (base:=base) Dy aY Ek bH;have y1:=Pn (P:=P) (w:=w) (base:=base) Al jH Cj bH;have p2:=J5 y1 λ_ _ _ _ h=>.inl h;have p3:=Rt (P:=P) (w:=w) (base:=base) Am aY cg Ek fX bH yp;have p4:=Ru Ao fX fG p3 p1;have p5:=O4 xK fX yq p3;have p6:=MF qb aY p2;have p7:=JH rY aY cg bH p6;have p8:=Rv Aq aY p4 p5 p7;have p9:=JL (P:=P) (w:=w) (base:=base) rZ;have g0:=MN bW.F0 bW.T p8;have g1:=aht bW.F1 bW.T fG p6;have g2:=Vm (P:=P) (w:=w) (base:=base) bW.F2 bW.T fX fG;have g3:=agh bW.F3 bW.T aY fG p9;have g4:=adU bW.F4 bW.T g_ cg bW.E_ bW.M g0 bW.b0;have pA:=JM su aY cV cg p9;have g5:=Yw bW.F5 bW.T bW.E_ bW.M g0 bW.b0 pA;have w1:=Vt (P:=P) (w:=w) (base:=base) DN aY fX;have w2:=M7 vq w1;have k0:=ad3 mL.F0 mL.T w2;have k1:=agr (P:=P) (w:=w) (mg:=mg) (base:=base) mL.F1 mL.T;have l3:=RL (P:=P) (w:=w) (base:=base) DR aY;have c7:=J5 (NQ:=S9) l3 λ_ _ _ _ ⟨p,ak,r,w,i,j,a,b,c,d,e,f,q⟩=>⟨p,ak,r,w,i,j,a,b,c,d,e,f,λH s=>q _ H s⟩
 have r8:=Vk G8 aY cV r1 c7;have r9:=Pb Aw aY jH cg r1 r8 r4;have x1:=adV (P:=P) (w:=w) (base:=base) Ra g_;have x2:=Vp (P:=P) (w:=w) (base:=base) Wo aY;have x3:=Ph Ko aY jH cg x1 x2;have z1:=MP (P:=P) (w:=w) (base:=base) xP fX;have x4:=J5 (NQ:=Pk) z1 λ_ _ _ _ ⟨t,as,ts,a,b,c,d,e,f,q⟩=>⟨t,as,ts,a,b,c,d,e,λH s=>by rw[agG f d];exact q H s⟩
 have x5:=YG G7 aY cg bW.T bW.m4 g4 bW.b4 bW.m3 g3 bW.b3 x4;have y2:=JQ qb aY y1;have y3:=Pq xM aY cg bH bW.T y2 p1;have y4:=RD (P:=P) (w:=w) (base:=base) Av;have y5:=Px xO aY cg bH fX IK mC y3 y4;have e1:=adX (P:=P) (w:=w) (base:=base) R.Et R.mR R.I R.Es;have e2:=agp (P:=P) (w:=w) (base:=base) R.Nv R.mR R.I R.Nu;have e3:=Vv (P:=P) (w:=w) (base:=base) R.wH R.mR R.I R.wG;have e4:=Y6 (P:=P) (w:=w) (base:=base) R.zK R.mR R.I R.zJ;have z2:=Vr (P:=P) (w:=w) (base:=base) DK fX;have z3:=M4 mK wB fG bW.T bW.m1 g1 bW.b1;have z4:=Pz (P:=P) (w:=w) (base:=base) xJ;have z5:=Vu (P:=P) (w:=w) (base:=base) Dz;have q1:=M5 vo fG bW.T bW.m1 g1 bW.b1 R.Es e1 R.JV;have q2:=Ey oH R.Mp R.rO z1 z2;have q3:=M6 vp cV fG bW.T bW.m1 g1 bW.b1 bW.m4 g4 bW.b4 R.Nu e2 R.Vs;have q4:=IW qK wB bW.T bW.m2 g2 bW.b2 R.Ug R.yG y4 z3;have q5:=Vw DG g_ gk R.wG e3 R.Cu z5;have q6:=JX sy mL.T mL.m1 k1 mL.b1 R.zJ e4 R.zE x5 z4;have q7:=Jc (c:=⟨bF,bV,bK,cG,cu,bC,bI⟩) qL R.Jj R.pY y5 q1 q2 q3 q4 q5 q6;have l1:=abp (P:=P) (w:=w) (base:=base) Kq aY bH mH R.Jj R.aes R.Mp R.ahC R.Ug R.ZW R.abT R.abU R.ZX R.abV R.aeu R.abW R.agU R.abX R.aev;have l2:=Zh G_ R.mR R.M q7;have l4:=Zj G9 aY l3;have l5:=Ql xQ cV Eo Ep l4;have l7:=aee Rb aY g_ cg gk r1;have l8:=abD Rc aY jH r1;have l9:=abE Kr aY cV r1 x3;have m1:=M9 (P:=P) (w:=w) (base:=base) Hf cg gk;have m2:=aek vA g_ gk bW.T bW.m5 g5 bW.b5 x5 m1;exact(agH (c:=⟨bF,bV,bK,cG,cu,bC,bI⟩) F R.V bW.T bW.E_ bW.M g0 bW.b0 bW.m5 g5 bW.b5 mL.T mL.E_ mL.M k0 mL.b0 c1 r2 r3 r5 r7 r6 r9 l7 l8 l5 l9 m1 m2 l1 l2).mono (by decide)
end
end My
namespace PySem.W.Fast
abbrev U:=True
def tw4201129024603403154:=U
def tw11462425054111592921:=U
def tw16321744748591658425:=U
def tw3218498471860940892:=U
def tw6507292058633732404:=U
def tw16950262904194806612:=U
def tw15386914739975373556:=U
def tw17399359752602557184:=U
def tw7987272288050197050:=U
def tw12685817528031936495:=U
def tw371316228164392266:=U
def tw10506486740830000391:=U
def tw13534136428374975685:=U
def tw4586924874026727247:=U
def tw3883219392779175227:=U
def tw15131785271011998180:=U
def tw2645135323733715363:=U
def tw10823914569397747320:=U
def tw4893333334765604433:=U
def tw877789947498152534:=U
def tw13611598079774320598:=U
def tw9334969651912539078:=U
def tw130774363088490418:=U
def tw3226259673686579023:=U
def tw8580582804696392386:=U
def tw10256177307388540895:=U
def tw11499799418160804385:=U
def tw9182870468849161989:=U
def tw17613902833649060658:=U
def tw11304966705882977789:=U
def tw9658134074375502432:=U
def tw13216135127083746778:=U
def tw15579633952944256204:=U
def tw467916625746620919:=U
def tw2557025402784064697:=U
def tw5595120745076342905:=U
def tw7508808850121101895:=U
def tw5809273472878592518:=U
def tw15972737800423879311:=U
def tw2538966258614537953:=U
def tw14291894852141655374:=U
def tw15539623032599841939:=U
def tw9956263634527671564:=U
def tw11357706900127179918:=U
def tw30056858977480809:=U
def tw1830980761018742475:=U
def tw8010519348475910083:=U
def tw4874279272702076941:=U
def tw10827364776741625668:=U
def tw10925765749663423163:=U
def tw673144108906666460:=U
def tw2361178725788026062:=U
def tw733573078175079369:=U
def tw16710351786348586349:=U
def tw3077232896525285510:=U
def tw18264510030556117428:=U
def tw10837016789801026672:=U
def tw1160685599987105209:=U
def tw9216078972686933033:=U
def tw13420628277622994197:=U
def tw764049735259190358:=U
def tw14990826380919936596:=U
def tw300170942211298086:=U
def tw12513159451905110771:=U
def tw455630557512327571:=U
def tw8033673111218199339:=U
def tw1055120447280207076:=U
def tw14353665550162232049:=U
def tw16288689182858932239:=U
def tw3796453129205602731:=U
def tw5959487435756568973:=U
def tw4681968096055720644:=U
def tw836587528938077546:=U
def tw8249528367968516171:=U
def tw16984923757024051701:=U
def tw11844915191457812103:=U
def tw7944787326208111347:=U
def tw13251723898713425063:=U
def tw15824742001524339546:=U
def tw14955653548179547687:=U
def tw15218071454872705235:=U
def tw3729723257732706026:=U
def tw14593114392632021627:=U
def tw15086337098152588619:=U
def tw13927022581263673286:=U
def tw14274291142461555934:=U
def tw4706598875650710949:=U
def tw732097696636602522:=U
def tw5154703600945814359:=U
def tw2053810000307905480:=U
def tw8765640553208925851:=U
def tw10057473310700585838:=U
def tw13694722852579323308:=U
def tw2376720210462733321:=U
def tw11295809701954190314:=U
def tw12757264282334865956:=U
def tw7942005920120345665:=U
def tw12295097470231062064:=U
def tw9534443585550653269:=U
def tw8342459874240711663:=U
def tw277543941398682076:=U
def tw8745021443984384940:=U
def tw398492282244705384:=U
def tw3472876316338013524:=U
def tw10940055313805697851:=U
def tw16147417613691300946:=U
def tw4423747598937155707:=U
def tw10853463329726665890:=U
def tw13579282782069662660:=U
def tw8228975716804560570:=U
def tw4944730388743612425:=U
def tw1682216232095118943:=U
def tw7890234297035583000:=U
def tw18316029314586453339:=U
def tw2966769564642339023:=U
def tw173151310019299740:=U
def tw2593520830811501470:=U
def tw13958039373294297011:=U
def tw1868274821713761943:=U
def tw1162984181767090450:=U
def tw10357939111478312921:=U
def tw9302673793796123883:=U
def tw8119473196306106533:=U
def tw14889120989419458704:=U
def tw13963985731967936418:=U
def tw11502574738329860:=U
def tw15588298840024814917:=U
def tw4904249634284611496:=U
def tw8666827778935532698:=U
def tw15686488586352597063:=U
def tw13815104182121996428:=U
def tw14701440846236270798:=U
def tw10017260223860958273:=U
def tw17671278667595302764:=U
def tw228297894161534398:=U
def tw2137645250018365779:=U
def tw6410204342073005003:=U
def tw10297830323546691099:=U
def tw7327736144487090500:=U
def tw17266295344146151858:=U
def tw1414684161672063307:=U
def tw3695943744660941887:=U
def tw17753273770337146396:=U
def tw8994368992298345007:=U
def tw327718796560426643:=U
def tw8132361748850842454:=U
def tw5903913691424058478:=U
def tw9309777083313772878:=U
def tw1655988755538324528:=U
def tw5608671222947196341:=U
def tw10331163313605342367:=U
def tw1011568911407526323:=U
def tw15933800392438603035:=U
def tw18078477496567188528:=U
def tw6258575702015999203:=U
def tw614028024038057301:=U
def tw1129661122577620964:=U
def tw5984539877559774783:=U
def tw5389645632281371109:=U
def tw13574881551002986446:=U
def tw8488155914753245736:=U
def tw12520806077157517352:=U
def tw16684893006482234628:=U
def tw15641321630419141721:=U
def tw7817162047848071427:=U
def tw4385280871999934999:=U
def tw15172747228252535622:=U
def tw14680632745505348949:=U
def tw11848590545160817967:=U
def tw4766708231509767620:=U
def tw9699521076757748719:=U
def tw7427741093113022141:=U
def tw12676688421130169496:=U
def tw14211873469266843551:=U
def tw15609288946297528799:=U
def tw15757036799041972925:=U
def tw5738614017298518038:=U
def tw18313542993670312450:=U
def tw9358023495489581769:=U
def tw16623751114517986971:=U
def tw15278446764868605303:=U
def tw14200574816541861782:=U
def tw17881441267990202480:=U
def tw11431582691619632596:=U
def tw4235797580527957574:=U
def tw8418745210736766346:=U
def tw2779969623270270821:=U
def tw4135304302138527575:=U
def tw9874848530896747260:=U
def tw2797647590784089798:=U
def tw12312084835540413987:=U
def tw83470457210552828:=U
def tw16625349966103156177:=U
def tw7255161149801265143:=U
def tw16018361595575909481:=U
def tw6752971091874401981:=U
def tw11794534323123049447:=U
def tw746267552186124:=U
def tw3624124318171078581:=U
def tw13965281849280250889:=U
def tw6542681301301557408:=U
def tw18094010227088805630:=U
def tw8237160949055617759:=U
def tw6122465901272169538:=U
def tw2730753513610778368:=U
def tw3220245229949503989:=U
def tw11588995021509993622:=U
def tw15946625924620106480:=U
def tw18185477931377597542:=U
def tw10321181039422969292:=U
def tw7667253463044103924:=U
def tw15190355345752618814:=U
def tw847478505492656474:=U
def tw6943950814564725217:=U
def tw4651010958901276576:=U
def tw14923062376878991588:=U
def tw5433045007799555869:=U
def tw1694884471002966498:=U
def tw13559767336986781003:=U
def tw935957950081080140:=U
def tw4697739319982374933:=U
def tw13382469305383928733:=U
def tw13024232051697337242:=U
def tw14650087123622131181:=U
def tw1473955306544578498:=U
def tw4556508619961089915:=U
def tw9454192697066430581:=U
def tw16743486371126783542:=U
def tw16310135601429629043:=U
def tw17081335418047645898:=U
def tw235467557494376030:=U
def tw12464825935536158034:=U
def tw5632021977229012745:=U
def tw2281657852795501975:=U
def tw15957775366435293885:=U
def tw1635593846224893897:=U
def tw359153633994873274:=U
def tw12252869246983180557:=U
def tw4589556243890463263:=U
def tw4656142171927734723:=U
def tw6673899309696062842:=U
def tw5213482456609118821:=U
def tw1752209464583669468:=U
def tw6650753012552051775:=U
def tw1682911248950684143:=U
def tw15213119630563681388:=U
def tw4652877406820007347:=U
def tw2055963107607763441:=U
def tw17031676753127970927:=U
def tw7525080322732414638:=U
def tw2066694971953421929:=U
def tw12867903622244133216:=U
def tw3808517702597001496:=U
def tw3624223018554025519:=U
def tw8455084189166501900:=U
def tw9861308535481848337:=U
def tw11739920136108027506:=U
def tw14158082136292575364:=U
def tw1547516090967248100:=U
def tw14981408139778458603:=U
def tw8506557769283296845:=U
def tw17622249842808013700:=U
def tw15823067990426798640:=U
def tw4024043427348007657:=U
def tw13035311758245511089:=U
def tw4536630951720476031:=U
def tw15680875871095434661:=U
def tw11073699967541762998:=U
def tw4600658330606966820:=U
def tw17375018337786418157:=U
def tw8392814545753695909:=U
def tw6478304295171261733:=U
def tw12337795475630203991:=U
def tw8087550448259292677:=U
def tw17553759919089937544:=U
def tw14043443724532556040:=U
def tw288267660567184053:=U
def tw793214236617182438:=U
def tw2469093110770217820:=U
def tw7502001935745466010:=U
def tw11556312182130250701:=U
def tw4854534950210427622:=U
def tw6704619367076764294:=U
def tw9921038662941847748:=U
def tw3739866733514580021:=U
def tw14754732590551709291:=U
def tw13814678171680913650:=U
def tw12039093292216532088:=U
def tw9329049765169586603:=U
def tw9834424423848257515:=U
def tw14470304715206153972:=U
def tw15265574093062791446:=U
def tw2721068087835017752:=U
def tw14159534311165389128:=U
def tw1619825724303607864:=U
def tw2527712685794446042:=U
def tw13149699757714569295:=U
def tw8838697206421153121:=U
def tw4498910527987625704:=U
def tw7449568168404283775:=U
def tw18197375904071982865:=U
def tw9285449940062931109:=U
def tw1774056168947172296:=U
def tw16784964105073545754:=U
def tw9948470789534442367:=U
def tw13340344045295873176:=U
def tw14529203571923505925:=U
def tw12219608023959027602:=U
def tw14859231633430489477:=U
def tw16508372350365575137:=U
def tw18137432799834584916:=U
def tw503550770094874353:=U
def tw3522781889702101850:=U
def tw491024608553363628:=U
def tw2941275253292770937:=U
def tw17588071895325796743:=U
def tw11622924074270365619:=U
def tw7240883898597312432:=U
def tw2215550708826189215:=U
def tw16055473377526665961:=U
def tw12703920554254541268:=U
def tw17735350155329200000:=U
def tw593840588168923580:=U
def tw11209572015323795465:=U
def tw3053987249466378542:=U
def tw9351928190402218318:=U
def tw8686349928684225710:=U
def tw6593049270163815600:=U
def tw5202596887475855240:=U
def tw9086653494056273546:=U
def tw10013200626239281151:=U
def tw17073279467416380743:=U
def tw3207852692792517058:=U
def tw2659298952514152736:=U
def tw4206128424109024877:=U
def tw10722991356259143349:=U
def tw2211954358781141814:=U
def tw2539130759208525081:=U
def tw16532336976875845916:=U
def tw7715733380340064747:=U
def tw3440743215119980476:=U
def tw3647279100464675688:=U
def tw9147164659008843933:=U
def tw3073371963250053637:=U
def tw9365603001247605246:=U
def tw13295150399573810160:=U
def tw2148268484436486305:=U
def tw15988113315184485324:=U
def tw16299446117468717265:=U
def tw7107510954081256425:=U
def tw17903590800347631547:=U
def tw8783506397499423865:=U
def tw3576717228677188406:=U
def tw9848174118391924469:=U
def tw15016374036845323942:=U
def tw2484455227929137516:=U
def tw1109846255513702400:=U
def tw2317056270174604659:=U
def tw13780588614152940198:=U
def tw988924419629412321:=U
def tw1731804232162946486:=U
def tw10861643599494377226:=U
def tw14848434166449489350:=U
def tw4925001399313049411:=U
def tw4409594524884413008:=U
def tw8902765254508300862:=U
def tw13717541791068751529:=U
def tw9199972288814473884:=U
def tw8248467338239975833:=U
def tw178405543022199021:=U
def tw4921801645333889776:=U
def tw6532748987585312876:=U
def tw499183013842391136:=U
def tw14603300328817133233:=U
def tw2700499821539472646:=U
def tw9140374327376284:=U
def tw9007474251967593586:=U
def tw15043201748765723961:=U
def tw13744420547000257349:=U
def tw5829260820258091201:=U
def tw7856803559535314895:=U
def tw10353867229084385400:=U
def tw10633257298930495760:=U
def tw9489489091911009043:=U
def tw1121991768797866299:=U
def tw9370721675374275219:=U
def tw2773121389435494850:=U
def tw17835419681556997266:=U
def tw10783812531037066568:=U
def tw2650416385467553467:=U
def tw12790645812461911098:=U
def tw16657707898394107510:=U
def tw6394291863977476446:=U
def tw4226768618408115285:=U
def tw1567485116371819735:=U
def tw15988767692565926481:=U
def tw8150654820632984422:=U
def tw14462044611679730422:=U
def tw7793572851266838987:=U
def tw10061167132780351114:=U
def tw4257499355736646930:=U
def tw14859166301520632378:=U
def tw8761966106331953205:=U
def tw6598130203606837125:=U
def tw350950358313176010:=U
def tw4710719769094745263:=U
def tw5346948769567211553:=U
def tw1233863564453858185:=U
def tw14924580897728426733:=U
def tw13977246190382406291:=U
def tw18428165549686040148:=U
def tw4012271708773496141:=U
def tw1633958895129381661:=U
def tw14335728387992725296:=U
def tw11364247267328517903:=U
def tw16485222430940422929:=U
def tw7075706872367543876:=U
def tw9834381414890392176:=U
def tw8439142717139298442:=U
def tw316284943602413946:=U
def tw3361019432508063675:=U
def tw16188829404995418855:=U
def tw9195570451888933775:=U
def tw7999681911116866949:=U
def tw7006637541506650849:=U
def tw11959788226442170809:=U
def tw5642292836665780695:=U
def tw10156437538653703092:=U
def tw15981748266990370421:=U
def tw4414887300695384804:=U
def tw14008656268506751918:=U
def tw657569182779026393:=U
def tw9098678236893855267:=U
def tw17460427680809494693:=U
def tw12163587822573700053:=U
def tw4395854882146181029:=U
def tw12000365495821157355:=U
def tw13668470853895258335:=U
def tw99723585762199811:=U
def tw7117988044832251585:=U
def tw18005722314303556784:=U
def tw7366901293055777637:=U
def tw740037485891615614:=U
def tw13873792305213732340:=U
def tw17538018539031284896:=U
def tw17600947434848408837:=U
def tw10292281644954340403:=U
def tw15404814296306959951:=U
def tw3427595752225382511:=U
def tw10800047909520856778:=U
def tw12456696609920562055:=U
def tw15537873860797012048:=U
def tw7681780408841470521:=U
def tw9646549760875775306:=U
def tw12325360299927339250:=U
def tw1465554057257342019:=U
def tw3935019386867238061:=U
def tw612680375380926259:=U
def tw1022984860650809729:=U
def tw10513311578511500076:=U
def tw9032311350709914520:=U
def tw7150852865484386826:=U
def tw4917549645529502636:=U
def tw11638691278547324611:=U
def tw17115684355627244345:=U
def tw8726737474982606456:=U
def tw3562706285381825018:=U
def tw17880864206591711215:=U
def tw11829966900506894586:=U
def tw8447524943549125165:=U
def tw1188989966494766640:=U
def tw3194161257798142686:=U
def tw11383899158221749853:=U
def tw12346308660058694304:=U
def tw11473280283812744492:=U
def tw3508154553349786083:=U
def tw7157315575541818896:=U
def tw11380198188242643953:=U
def tw16969140010399144469:=U
def tw11040342262532321604:=U
def tw6700064848335340302:=U
def tw16540080517305131452:=U
def tw12295338800322170201:=U
def tw16135143294320360252:=U
def tw16910434763398955184:=U
def tw16477552580691540487:=U
def tw6836056067202455657:=U
def tw4743677404103679163:=U
def tw15250078153441304934:=U
def tw6357779934334714108:=U
def tw2634440523767903498:=U
def tw1773512221388327170:=U
def tw9070586807080928123:=U
def tw10990701339282818523:=U
def tw14586264893791093322:=U
def tw446269419277089362:=U
def tw2500612899413936414:=U
def tw4961911531630515122:=U
def tw11864719534898118011:=U
def tw16229544131194230825:=U
def tw8711094694092540622:=U
def tw16855091402193730369:=U
def tw1100269070998989732:=U
def tw10092848830225372349:=U
def tw2877999806458378068:=U
def tw12648949219932801095:=U
def tw13796728183198498570:=U
def tw9568854682754506979:=U
def tw8893083517576528626:=U
def tw10130063058318024589:=U
def tw17462985309412287399:=U
def tw8140105758864223716:=U
def tw8507323286023837860:=U
def tw9596278697544854412:=U
def tw6809271259474488434:=U
def tw2795376252382606477:=U
def tw5355271533424193377:=U
def tw18075342319889586058:=U
def tw1483034994685721868:=U
def tw15215086506037370382:=U
def tw9134592394542819452:=U
def tw2134575695717063328:=U
def tw14083132291084716159:=U
def tw5250098037773966731:=U
def tw2400588176171916940:=U
def tw1132338062420245214:=U
def tw3518298137779531987:=U
def tw15495085630119987460:=U
def tw14673301026180501563:=U
def tw5075393763374230258:=U
def tw2674877394503303839:=U
def tw2898312918999635895:=U
def tw4314189183393921843:=U
def tw14726493309786838791:=U
def tw9273272784745938884:=U
def tw11012763270206495271:=U
def tw11392649966657271839:=U
def tw16764899630073500313:=U
def tw13835656096339726077:=U
def tw2192691562777536505:=U
def tw18013336374063028540:=U
def tw1135070040708075764:=U
def tw18004690146287885727:=U
def tw6161920600100508009:=U
def tw8164887287224651451:=U
def tw3095207374091537547:=U
def tw61681700064422355:=U
def tw3901314150668555581:=U
def tw16074454497136277691:=U
def tw11124528143172228684:=U
def tw1559762954275118757:=U
def tw11640104313342681035:=U
def tw15340599628970505015:=U
def tw5025855073729192179:=U
def tw14575552966292281917:=U
def tw8340409291130478092:=U
def tw4233303220982185346:=U
def tw2411402152673971583:=U
def tw4923951867072761214:=U
def tw4476226491995593533:=U
def tw3514164061897231268:=U
def tw9605142249623903421:=U
def tw5420912723118106162:=U
def tw15996777909006860649:=U
def tw15120504497367018903:=U
def tw11812705906578205836:=U
def tw9057450824853314576:=U
def tw1554566859003672904:=U
def tw2279331743644128458:=U
def tw7466647079904874660:=U
def tw4354729112043997906:=U
def tw13167332387811900299:=U
def tw13043664860683660092:=U
def tw18274900243505325561:=U
def tw18323586981032747500:=U
def tw10420766985518542520:=U
def tw4451064171094250121:=U
def tw3531120763148160228:=U
def tw10518274751305011673:=U
def tw6558249081057376569:=U
def tw115151655858820009:=U
def tw15939440313730523584:=U
def tw1405616508519962140:=U
def tw15434297505032395289:=U
def tw521993898143743366:=U
def tw9780208562176320187:=U
def tw12090001244647270114:=U
def tw373296259199182647:=U
def tw17035684950373311293:=U
def tw13787201513116810535:=U
def tw4870958715175849151:=U
def tw11485048137431531327:=U
def tw6514488250301975190:=U
def tw12970845191545630646:=U
def tw1813258598182196847:=U
def tw3550665306934935256:=U
def tw9912099902123995686:=U
def tw4464431938708803866:=U
def tw3281172629849000901:=U
def tw4769535006494707521:=U
def tw5739324470860609168:=U
def tw2046326945928161352:=U
def tw1595166980624881705:=U
def tw6689049624750984922:=U
def tw15214802559402362495:=U
def tw12980287473824992532:=U
def tw18334862543297209331:=U
def tw9254598766399834711:=U
def tw16136377279269381839:=U
def tw8682881901194849402:=U
def tw11917042393144939540:=U
def tw13166339253883288424:=U
def tw3236472652954533124:=U
def tw5315809971549757978:=U
def tw3216025156939501136:=U
def tw2040423850699110923:=U
def tw2954392688277628296:=U
def tw4463009393883183368:=U
def tw11571335390194442684:=U
def tw7755857873635719853:=U
def tw5630838162927129876:=U
def tw17480111651421437200:=U
def tw14917994984662684467:=U
def tw18067068706279883241:=U
def tw732519051633672710:=U
def tw14513389893460161679:=U
def tw4619477942502171405:=U
def tw12549740383167881053:=U
def tw3643487664363246049:=U
def tw1296835034565218375:=U
def tw7809569779362438899:=U
def tw11945361660498720601:=U
def tw5656835256087831178:=U
def tw11083474499781656236:=U
def tw12388836959696521903:=U
def tw17815862553457931111:=U
def tw1612090970661644064:=U
def tw12519084845062659942:=U
def tw10630144452571190488:=U
def tw2502445717278880989:=U
def tw7829027567011999405:=U
def tw10224476316760220409:=U
def tw12872005637471067210:=U
def tw12548213136109816213:=U
def tw2682568498989703981:=U
def tw10903619329112543899:=U
def tw506569127406413770:=U
def tw2598950947779066249:=U
def tw7885188994225329258:=U
def tw15703133009141499131:=U
def tw9153653672497499479:=U
def tw16326190319961082717:=U
def tw5733942606241078552:=U
def tw17228348549739236856:=U
def tw13358517728513863708:=U
def tw10131336290638663442:=U
def tw11451395193160239483:=U
def tw13488247663962976613:=U
def tw10853893537844565774:=U
def tw1491025776463515184:=U
def tw645017731453781059:=U
def tw13443520033555843764:=U
def tw16831230953838902751:=U
end PySem.W.Fast
open PySem PySem.W PyProof.Rows
set_option maxRecDepth 100000 in
set_option maxHeartbeats 0 in
theorem PySem.Challenge.cw_letterrack_k26_whole_the_board_turned_holds : PySem.Challenge.rw_letterrack_k26_whole_the_board_turned.Holds := by
 w_on;o_law;k_head;(case hw=>w_witness2)
 k_fill
 refine L2.adt (x:="_law_script") (l:=PySem.Challenge.rw_letterrack_k26_whole_the_board_turned) rfl rfl (λw h Y=>W.kIn_of Y) ?F
 case F=>
  intro w mg fa h KX G hmg;have aY:mg "len"=none:=by
   refine' cS KX G ?z
   (case z=>k_is)
  have cV:mg "range"=none:=by
   refine' cS KX G ?z
   (case z=>k_is)
  have cg:mg "tuple"=none:=by
   refine' cS KX G ?z
   (case z=>k_is)
  have g_:mg "list"=none:=by
   refine' cS KX G ?z
   (case z=>k_is)
  have gk:mg "sorted"=none:=by
   refine' cS KX G ?z
   (case z=>k_is)
  have bH:mg "isinstance"=none:=by
   refine' cS KX G ?z
   (case z=>k_is)
  have Cj:mg "bool"=none:=by
   refine' cS KX G ?z
   (case z=>k_is)
  have jH:mg "int"=none:=by
   refine' cS KX G ?z
   (case z=>k_is)
  have Ek:mg "str"=none:=by
   refine' cS KX G ?z
   (case z=>k_is)
  have fX:mg "all"=none:=by
   refine' cS KX G ?z
   (case z=>k_is)
  have wB:mg "any"=none:=by
   refine' cS KX G ?z
   (case z=>k_is)
  have IK:mg "zip"=none:=by
   refine' cS KX G ?z
   (case z=>k_is)
  have Eo:mg "min"=none:=by
   refine' cS KX G ?z
   (case z=>k_is)
  have Ep:mg "max"=none:=by
   refine' cS KX G ?z
   (case z=>k_is)
  have mH:mg "ValueError"=none:=by
   refine' cS KX G ?z
   (case z=>k_is)
  have fG:∃t,mg "FREE"=some (.str (L2.S [46]) t):=by
   refine' L2.Og KX G ?z
   (case z=>k_is)
  have yq:∃t,mg "MARKS"=some (.str (L2.S My.MK) t):=by
   refine' L2.Og KX G ?z
   (case z=>k_is)
  have yp:∃t,mg "MOST"=some (.int 9 t):=by
   refine' L2.Oh KX G ?z
   (case z=>k_is)
  have mC:∃t,mg "MOST_TILES"=some (.int 7 t):=by
   refine' L2.Oh KX G ?z
   (case z=>k_is)
  have Al:L2.aK (L2.KOf KX) mg "is_whole" My.tM ["thing"]:=by
   dsimp only[L2.KOf];refine' L2.bG KX G ?a ?l ?c ?k ?b
   case a|l|c|k=>k_is
   (case b=>exact λ_ _ _ _ _ _ us hl=>L2.e1 (λ_=>rfl) us hl)
  have Dy:L2.aK (L2.KOf KX) mg "is_sign" My.vM ["thing"]:=by
   dsimp only[L2.KOf];refine' L2.bG KX G ?a ?l ?c ?k ?b
   case a|l|c|k=>k_is
   (case b=>exact λ_ _ _ _ _ _ us hl=>L2.e1 (λ_=>rfl) us hl)
  have xJ:L2.aK (L2.KOf KX) mg "letter_of" My.qP ["sign"]:=by
   dsimp only[L2.KOf];refine' L2.bG KX G ?a ?l ?c ?k ?b
   case a|l|c|k=>k_is
   (case b=>exact λ_ _ _ _ _ _ us hl=>L2.e1 (λ_=>rfl) us hl)
  have Dz:L2.aK (L2.KOf KX) mg "tile_of" My.vN ["sign"]:=by
   dsimp only[L2.KOf];refine' L2.bG KX G ?a ?l ?c ?k ?b
   case a|l|c|k=>k_is
   (case b=>exact λ_ _ _ _ _ _ us hl=>L2.e1 (λ_=>rfl) us hl)
  have DG:L2.aK (L2.KOf KX) mg "left_of" My.vO ["rack","signs"]:=by
   dsimp only[L2.KOf];refine' L2.bG KX G ?a ?l ?c ?k ?b
   case a|l|c|k=>k_is
   (case b=>exact λ_ _ _ _ _ _ us hl=>L2.e2 (λ_ _=>rfl) us hl)
  have Am:L2.aK (L2.KOf KX) mg "is_block" My.tR ["thing"]:=by
   dsimp only[L2.KOf];refine' L2.bG KX G ?a ?l ?c ?k ?b
   case a|l|c|k=>k_is
   (case b=>exact λ_ _ _ _ _ _ us hl=>L2.e1 (λ_=>rfl) us hl)
  have Ao:L2.aK (L2.KOf KX) mg "are_rows" My.tU ["thing"]:=by
   dsimp only[L2.KOf];refine' L2.bG KX G ?a ?l ?c ?k ?b
   case a|l|c|k=>k_is
   (case b=>exact λ_ _ _ _ _ _ us hl=>L2.e1 (λ_=>rfl) us hl)
  have xK:L2.aK (L2.KOf KX) mg "are_marks" My.qR ["thing"]:=by
   dsimp only[L2.KOf];refine' L2.bG KX G ?a ?l ?c ?k ?b
   case a|l|c|k=>k_is
   (case b=>exact λ_ _ _ _ _ _ us hl=>L2.e1 (λ_=>rfl) us hl)
  have qb:L2.aK (L2.KOf KX) mg "is_cell_of" My.lX ["rows","row","column"]:=by
   dsimp only[L2.KOf];refine' L2.bG KX G ?a ?l ?c ?k ?b
   case a|l|c|k=>k_is
   (case b=>exact λ_ _ _ _ _ _ us hl=>L2.e3 (λ_ _ _=>rfl) us hl)
  have rY:L2.aK (L2.KOf KX) mg "is_begin_of" My.nY ["rows","thing"]:=by
   dsimp only[L2.KOf];refine' L2.bG KX G ?a ?l ?c ?k ?b
   case a|l|c|k=>k_is
   (case b=>exact λ_ _ _ _ _ _ us hl=>L2.e2 (λ_ _=>rfl) us hl)
  have Aq:L2.aK (L2.KOf KX) mg "is_board" My.tV ["rows","marks","begin"]:=by
   dsimp only[L2.KOf];refine' L2.bG KX G ?a ?l ?c ?k ?b
   case a|l|c|k=>k_is
   (case b=>exact λ_ _ _ _ _ _ us hl=>L2.e3 (λ_ _ _=>rfl) us hl)
  have rZ:L2.aK (L2.KOf KX) mg "column_text" My.nZ ["rows","column"]:=by
   dsimp only[L2.KOf];refine' L2.bG KX G ?a ?l ?c ?k ?b
   case a|l|c|k=>k_is
   (case b=>exact λ_ _ _ _ _ _ us hl=>L2.e2 (λ_ _=>rfl) us hl)
  have su:L2.aK (L2.KOf KX) mg "turned_rows" My.n6 ["rows"]:=by
   dsimp only[L2.KOf];refine' L2.bG KX G ?a ?l ?c ?k ?b
   case a|l|c|k=>k_is
   (case b=>exact λ_ _ _ _ _ _ us hl=>L2.e1 (λ_=>rfl) us hl)
  have xM:L2.aK (L2.KOf KX) mg "is_triple" My.qT ["board","thing"]:=by
   dsimp only[L2.KOf];refine' L2.bG KX G ?a ?l ?c ?k ?b
   case a|l|c|k=>k_is
   (case b=>exact λ_ _ _ _ _ _ us hl=>L2.e2 (λ_ _=>rfl) us hl)
  have xO:L2.aK (L2.KOf KX) mg "is_laying" My.qU ["board","thing"]:=by
   dsimp only[L2.KOf];refine' L2.bG KX G ?a ?l ?c ?k ?b
   case a|l|c|k=>k_is
   (case b=>exact λ_ _ _ _ _ _ us hl=>L2.e2 (λ_ _=>rfl) us hl)
  have Av:L2.aK (L2.KOf KX) mg "cells_of" My.tW ["laying"]:=by
   dsimp only[L2.KOf];refine' L2.bG KX G ?a ?l ?c ?k ?b
   case a|l|c|k=>k_is
   (case b=>exact λ_ _ _ _ _ _ us hl=>L2.e1 (λ_=>rfl) us hl)
  have xP:L2.aK (L2.KOf KX) mg "is_across" My.qW ["laying"]:=by
   dsimp only[L2.KOf];refine' L2.bG KX G ?a ?l ?c ?k ?b
   case a|l|c|k=>k_is
   (case b=>exact λ_ _ _ _ _ _ us hl=>L2.e1 (λ_=>rfl) us hl)
  have DK:L2.aK (L2.KOf KX) mg "is_down" My.vQ ["laying"]:=by
   dsimp only[L2.KOf];refine' L2.bG KX G ?a ?l ?c ?k ?b
   case a|l|c|k=>k_is
   (case b=>exact λ_ _ _ _ _ _ us hl=>L2.e1 (λ_=>rfl) us hl)
  have mK:L2.aK (L2.KOf KX) mg "is_next_to_taken" My.jF ["board","row","column"]:=by
   dsimp only[L2.KOf];refine' L2.bG KX G ?a ?l ?c ?k ?b
   case a|l|c|k=>k_is
   (case b=>exact λ_ _ _ _ _ _ us hl=>L2.e3 (λ_ _ _=>rfl) us hl)
  have G7:L2.aK (L2.KOf KX) mg "formed" My.yU ["board","laying"]:=by
   dsimp only[L2.KOf];refine' L2.bG KX G ?a ?l ?c ?k ?b
   case a|l|c|k=>k_is
   (case b=>exact λ_ _ _ _ _ _ us hl=>L2.e2 (λ_ _=>rfl) us hl)
  have vo:L2.aK (L2.KOf KX) mg "check_free" My.pC ["board","laying"]:=by
   dsimp only[L2.KOf];refine' L2.bG KX G ?a ?l ?c ?k ?b
   case a|l|c|k=>k_is
   (case b=>exact λ_ _ _ _ _ _ us hl=>L2.e2 (λ_ _=>rfl) us hl)
  have oH:L2.aK (L2.KOf KX) mg "check_straight" My.kY ["laying"]:=by
   dsimp only[L2.KOf];refine' L2.bG KX G ?a ?l ?c ?k ?b
   case a|l|c|k=>k_is
   (case b=>exact λ_ _ _ _ _ _ us hl=>L2.e1 (λ_=>rfl) us hl)
  have vp:L2.aK (L2.KOf KX) mg "check_gaps" My.pD ["board","laying"]:=by
   dsimp only[L2.KOf];refine' L2.bG KX G ?a ?l ?c ?k ?b
   case a|l|c|k=>k_is
   (case b=>exact λ_ _ _ _ _ _ us hl=>L2.e2 (λ_ _=>rfl) us hl)
  have qK:L2.aK (L2.KOf KX) mg "check_joined" My.mY ["board","laying"]:=by
   dsimp only[L2.KOf];refine' L2.bG KX G ?a ?l ?c ?k ?b
   case a|l|c|k=>k_is
   (case b=>exact λ_ _ _ _ _ _ us hl=>L2.e2 (λ_ _=>rfl) us hl)
  have sy:L2.aK (L2.KOf KX) mg "check_words" My.oh ["board","book","laying"]:=by
   dsimp only[L2.KOf];refine' L2.bG KX G ?a ?l ?c ?k ?b
   case a|l|c|k=>k_is
   (case b=>exact λ_ _ _ _ _ _ us hl=>L2.e3 (λ_ _ _=>rfl) us hl)
  have qL:L2.aK (L2.KOf KX) mg "check_laying" My.mZ ["board","book","rack","laying"]:=by
   dsimp only[L2.KOf];refine' L2.bG KX G ?a ?l ?c ?k ?b
   case a|l|c|k=>k_is
   (case b=>exact λ_ _ _ _ _ _ us hl=>L2.e4 (λ_ _ _ _=>rfl) us hl)
  have DN:L2.aK (L2.KOf KX) mg "is_word" My.vR ["text"]:=by
   dsimp only[L2.KOf];refine' L2.bG KX G ?a ?l ?c ?k ?b
   case a|l|c|k=>k_is
   (case b=>exact λ_ _ _ _ _ _ us hl=>L2.e1 (λ_=>rfl) us hl)
  have vq:L2.aK (L2.KOf KX) mg "check_word" My.pG ["text"]:=by
   dsimp only[L2.KOf];refine' L2.bG KX G ?a ?l ?c ?k ?b
   case a|l|c|k=>k_is
   (case b=>exact λ_ _ _ _ _ _ us hl=>L2.e1 (λ_=>rfl) us hl)
  have DP:L2.aK (L2.KOf KX) mg "_law_cell_at" My.vU ["_law_script","_law_k"]:=by
   dsimp only[L2.KOf];refine' L2.bG KX G ?a ?l ?c ?k ?b
   case a|l|c|k=>k_is
   (case b=>exact λ_ _ _ _ _ _ us hl=>L2.e2 (λ_ _=>rfl) us hl)
  have Q7:L2.aK (L2.KOf KX) mg "_law_take" My.Ib ["_law_rest_here","_law_base"]:=by
   dsimp only[L2.KOf];refine' L2.bG KX G ?a ?l ?c ?k ?b
   case a|l|c|k=>k_is
   (case b=>exact λ_ _ _ _ _ _ us hl=>L2.e2 (λ_ _=>rfl) us hl)
  have Q8:L2.aK (L2.KOf KX) mg "_law_rest" My.Ie ["_law_cell"]:=by
   dsimp only[L2.KOf];refine' L2.bG KX G ?a ?l ?c ?k ?b
   case a|l|c|k=>k_is
   (case b=>exact λ_ _ _ _ _ _ us hl=>L2.e1 (λ_=>rfl) us hl)
  have DQ:L2.aK (L2.KOf KX) mg "_law_letters" My.vV ["_law_rest_here"]:=by
   dsimp only[L2.KOf];refine' L2.bG KX G ?a ?l ?c ?k ?b
   case a|l|c|k=>k_is
   (case b=>exact λ_ _ _ _ _ _ us hl=>L2.e1 (λ_=>rfl) us hl)
  have Q9:L2.aK (L2.KOf KX) mg "_law_sign" My.Ig ["_law_rest_here","_law_letters_here","_law_great"]:=by
   dsimp only[L2.KOf];refine' L2.bG KX G ?a ?l ?c ?k ?b
   case a|l|c|k=>k_is
   (case b=>exact λ_ _ _ _ _ _ us hl=>L2.e3 (λ_ _ _=>rfl) us hl)
  have Q_:L2.aK (L2.KOf KX) mg "_law_rows" My.Ih ["_law_rest_here","_law_letters_here","_law_most"]:=by
   dsimp only[L2.KOf];refine' L2.bG KX G ?a ?l ?c ?k ?b
   case a|l|c|k=>k_is
   (case b=>exact λ_ _ _ _ _ _ us hl=>L2.e3 (λ_ _ _=>rfl) us hl)
  have Kl:L2.aK (L2.KOf KX) mg "_law_marks" My.Ec ["_law_rest_here","_law_rows_here"]:=by
   dsimp only[L2.KOf];refine' L2.bG KX G ?a ?l ?c ?k ?b
   case a|l|c|k=>k_is
   (case b=>exact λ_ _ _ _ _ _ us hl=>L2.e2 (λ_ _=>rfl) us hl)
  have Km:L2.aK (L2.KOf KX) mg "_law_begin" My.Ed ["_law_rest_here","_law_rows_here"]:=by
   dsimp only[L2.KOf];refine' L2.bG KX G ?a ?l ?c ?k ?b
   case a|l|c|k=>k_is
   (case b=>exact λ_ _ _ _ _ _ us hl=>L2.e2 (λ_ _=>rfl) us hl)
  have Ra:L2.aK (L2.KOf KX) mg "_law_grid" My.Ii ["_law_rows_here","_law_laying"]:=by
   dsimp only[L2.KOf];refine' L2.bG KX G ?a ?l ?c ?k ?b
   case a|l|c|k=>k_is
   (case b=>exact λ_ _ _ _ _ _ us hl=>L2.e2 (λ_ _=>rfl) us hl)
  have Wo:L2.aK (L2.KOf KX) mg "_law_run" My.Nm ["_law_grid_here","_law_row","_law_column","_law_way"]:=by
   dsimp only[L2.KOf];refine' L2.bG KX G ?a ?l ?c ?k ?b
   case a|l|c|k=>k_is
   (case b=>exact λ_ _ _ _ _ _ us hl=>L2.e4 (λ_ _ _ _=>rfl) us hl)
  have Ko:L2.aK (L2.KOf KX) mg "_law_words" My.Ef ["_law_rows_here","_law_laying"]:=by
   dsimp only[L2.KOf];refine' L2.bG KX G ?a ?l ?c ?k ?b
   case a|l|c|k=>k_is
   (case b=>exact λ_ _ _ _ _ _ us hl=>L2.e2 (λ_ _=>rfl) us hl)
  have DR:L2.aK (L2.KOf KX) mg "_law_is_near" My.vW ["_law_rows_here","_law_row","_law_column"]:=by
   dsimp only[L2.KOf];refine' L2.bG KX G ?a ?l ?c ?k ?b
   case a|l|c|k=>k_is
   (case b=>exact λ_ _ _ _ _ _ us hl=>L2.e3 (λ_ _ _=>rfl) us hl)
  have G8:L2.aK (L2.KOf KX) mg "_law_starts" My.yW ["_law_rows_here","_law_rest_here"]:=by
   dsimp only[L2.KOf];refine' L2.bG KX G ?a ?l ?c ?k ?b
   case a|l|c|k=>k_is
   (case b=>exact λ_ _ _ _ _ _ us hl=>L2.e2 (λ_ _=>rfl) us hl)
  have Aw:L2.aK (L2.KOf KX) mg "_law_straight" My.tX ["_law_rows_here","_law_rest_here","_law_letters_here"]:=by
   dsimp only[L2.KOf];refine' L2.bG KX G ?a ?l ?c ?k ?b
   case a|l|c|k=>k_is
   (case b=>exact λ_ _ _ _ _ _ us hl=>L2.e3 (λ_ _ _=>rfl) us hl)
  have G9:L2.aK (L2.KOf KX) mg "_law_joined" My.yX ["_law_rows_here","_law_begin_here","_law_cells"]:=by
   dsimp only[L2.KOf];refine' L2.bG KX G ?a ?l ?c ?k ?b
   case a|l|c|k=>k_is
   (case b=>exact λ_ _ _ _ _ _ us hl=>L2.e3 (λ_ _ _=>rfl) us hl)
  have xQ:L2.aK (L2.KOf KX) mg "_law_cells_due" My.qX ["_law_rows_here","_law_begin_here","_law_laying"]:=by
   dsimp only[L2.KOf];refine' L2.bG KX G ?a ?l ?c ?k ?b
   case a|l|c|k=>k_is
   (case b=>exact λ_ _ _ _ _ _ us hl=>L2.e3 (λ_ _ _=>rfl) us hl)
  have Kq:L2.aK (L2.KOf KX) mg "_law_class" My.Eh ["_law_error"]:=by
   dsimp only[L2.KOf];refine' L2.bG KX G ?a ?l ?c ?k ?b
   case a|l|c|k=>k_is
   (case b=>exact λ_ _ _ _ _ _ us hl=>L2.e1 (λ_=>rfl) us hl)
  have G_:L2.aK (L2.KOf KX) mg "_law_caught" My.za ["_law_board","_law_book","_law_rack_here","_law_laying"]:=by
   dsimp only[L2.KOf];refine' L2.bG KX G ?a ?l ?c ?k ?b
   case a|l|c|k=>k_is
   (case b=>exact λ_ _ _ _ _ _ us hl=>L2.e4 (λ_ _ _ _=>rfl) us hl)
  have Rb:L2.aK (L2.KOf KX) mg "_law_bent" My.Ik ["_law_laying","_law_rest_here","_law_rows_here"]:=by
   dsimp only[L2.KOf];refine' L2.bG KX G ?a ?l ?c ?k ?b
   case a|l|c|k=>k_is
   (case b=>exact λ_ _ _ _ _ _ us hl=>L2.e3 (λ_ _ _=>rfl) us hl)
  have Rc:L2.aK (L2.KOf KX) mg "_law_rack" My.Il ["_law_laying","_law_rest_here","_law_letters_here"]:=by
   dsimp only[L2.KOf];refine' L2.bG KX G ?a ?l ?c ?k ?b
   case a|l|c|k=>k_is
   (case b=>exact λ_ _ _ _ _ _ us hl=>L2.e3 (λ_ _ _=>rfl) us hl)
  have Kr:L2.aK (L2.KOf KX) mg "_law_known" My.Ei ["_law_rows_here","_law_laying","_law_rest_here","_law_letters_here"]:=by
   dsimp only[L2.KOf];refine' L2.bG KX G ?a ?l ?c ?k ?b
   case a|l|c|k=>k_is
   (case b=>exact λ_ _ _ _ _ _ us hl=>L2.e4 (λ_ _ _ _=>rfl) us hl)
  have Hf:L2.aK (L2.KOf KX) mg "_law_turned" My.zc ["_law_laying"]:=by
   dsimp only[L2.KOf];refine' L2.bG KX G ?a ?l ?c ?k ?b
   case a|l|c|k=>k_is
   (case b=>exact λ_ _ _ _ _ _ us hl=>L2.e1 (λ_=>rfl) us hl)
  have vA:L2.aK (L2.KOf KX) mg "_law_same_words" My.pH ["_law_board","_law_laying"]:=by
   dsimp only[L2.KOf];refine' L2.bG KX G ?a ?l ?c ?k ?b
   case a|l|c|k=>k_is
   (case b=>exact λ_ _ _ _ _ _ us hl=>L2.e2 (λ_ _=>rfl) us hl)
  have aad:∃C f0 f1 f2 f3 f4 f5 jt iT fd2 Uc Ud Ue,My.zH (L2.KOf KX) mg C f0 f1 f2 f3 f4 f5 jt iT fd2 Uc Ud Ue:=by
   dsimp only[L2.KOf];refine' My.abR KX G ?aC ?a0 ?i0 ?l0 ?c0 ?k0 ?a1 ?i1 ?l1 ?c1 ?k1 ?a2 ?i2 ?l2 ?c2 ?k2 ?a3 ?i3 ?l3 ?c3 ?k3 ?a4 ?i4 ?l4 ?c4 ?k4 ?a5 ?i5 ?l5 ?c5 ?k5 ?pg ?hd ?po ?sa ?mk ?kc ?QD ?nf1 ?nf2
   (case aC=>k_is)
   (case a0=>k_is)
   (case i0=>k_is)
   (case l0=>k_is)
   (case c0=>k_is)
   (case k0=>k_is)
   (case a1=>k_is)
   (case i1=>k_is)
   (case l1=>k_is)
   (case c1=>k_is)
   (case k1=>k_is)
   (case a2=>k_is)
   (case i2=>k_is)
   (case l2=>k_is)
   (case c2=>k_is)
   (case k2=>k_is)
   (case a3=>k_is)
   (case i3=>k_is)
   (case l3=>k_is)
   (case c3=>k_is)
   (case k3=>k_is)
   (case a4=>k_is)
   (case i4=>k_is)
   (case l4=>k_is)
   (case c4=>k_is)
   (case k4=>k_is)
   (case a5=>k_is)
   (case i5=>k_is)
   (case l5=>k_is)
   (case c5=>k_is)
   (case k5=>k_is)
   (case pg=>k_is)
   (case hd=>k_is)
   (case po=>k_is)
   (case sa=>k_is)
   (case mk=>k_is)
   (case kc=>k_is)
   (case QD=>k_is)
   (case nf1=>k_is)
   (case nf2=>k_is)
  obtain⟨_,_,_,_,_,_,_,_,_,_,_,_,_,ace⟩:=aad;have acf:∃C f0 f1 jt iT,My.CP (L2.KOf KX) mg C f0 f1 jt iT:=by
   dsimp only[L2.KOf];refine' My.aer KX G ?aC ?a0 ?i0 ?l0 ?c0 ?k0 ?a1 ?i1 ?l1 ?c1 ?k1 ?pg ?hd ?po ?sa ?mk ?kc ?QD
   (case aC=>k_is)
   (case a0=>k_is)
   (case i0=>k_is)
   (case l0=>k_is)
   (case c0=>k_is)
   (case k0=>k_is)
   (case a1=>k_is)
   (case i1=>k_is)
   (case l1=>k_is)
   (case c1=>k_is)
   (case k1=>k_is)
   (case pg=>k_is)
   (case hd=>k_is)
   (case po=>k_is)
   (case sa=>k_is)
   (case mk=>k_is)
   (case kc=>k_is)
   (case QD=>k_is)
  obtain⟨_,_,_,_,_,aeH⟩:=acf;have xer:∃bF bV bK cG cu bC bI cW cP cX dF cY eV cZ dG CR gM jT fj fQ mJ rN jJ j8,My.abS (L2.KOf KX) mg bF bV bK cG cu bC bI cW cP cX dF cY eV cZ dG CR gM jT fj fQ mJ rN jJ j8:=by
   dsimp only[L2.KOf];refine' My.aew KX G ?zL ?Eu ?CQ ?Nx ?J6 ?wI ?zM ?Gr ?CV ?Gs ?J7 ?Gu ?QH ?Gv ?J8 ?aR ?pY ?rO ?yG ?zN ?J9 ?CZ ?Wj ?J_ ?C_ ?Gw ?QJ ?Gx ?Gy ?Gz ?GC ?Dc ?GD ?GF ?GJ ?GK ?w5 ?qI ?aac ?QK ?QM ?QV ?QX ?Ka ?QZ ?Q0 ?Q5 ?Q6 ?Dd ?vh ?Jl ?zO ?zP ?zQ ?zR ?w6 ?zT ?zU ?zV ?zW ?qJ ?Mr ?Df ?Dg ?Dh ?Di ?zX ?Dj ?Dk ?Dl ?Dm ?rW ?hn ?ht ?xg ?xq ?xr ?xu ?xG ?xH ?zY ?zZ ?z_ ?Aa ?Ab ?Ac ?Ad ?vm ?Ae ?Kc ?Kd ?Ke ?Af ?Ag ?Ah ?Ai ?Aj ?Ak ?Dn ?Dp ?Dq ?Jm ?Jo ?Jp ?Jq ?Dr ?Jr ?Wk ?Wm ?Wn ?GP ?GQ ?GR ?GX ?GZ ?G3 ?Kf ?Kg ?Kh ?t_ ?uc ?ud ?uf ?pZ ?ug ?Du ?Dv ?Dw ?wJ ?wK ?wL ?wM ?rP ?wN ?G4 ?G5 ?G6 ?nn ?g2 ?rd ?fc
   (case zL=>k_is)
   (case Eu=>k_is)
   (case CQ=>k_is)
   (case Nx=>k_is)
   (case J6=>k_is)
   (case wI=>k_is)
   (case zM=>k_is)
   (case Gr=>k_is)
   (case CV=>k_is)
   (case Gs=>k_is)
   (case J7=>k_is)
   (case Gu=>k_is)
   (case QH=>k_is)
   (case Gv=>k_is)
   (case J8=>k_is)
   (case aR=>k_is)
   (case pY=>k_exc)
   (case rO=>k_exc)
   (case yG=>k_exc)
   (case zN=>kernel_rfl)
   (case J9=>kernel_rfl)
   (case CZ=>kernel_rfl)
   (case Wj=>kernel_rfl)
   (case J_=>kernel_rfl)
   (case C_=>kernel_rfl)
   (case Gw=>kernel_rfl)
   (case QJ=>k_is)
   (case Gx=>k_is)
   (case Gy=>k_is)
   (case Gz=>k_is)
   (case GC=>k_is)
   (case Dc=>kernel_rfl)
   (case GD=>k_is)
   (case GF=>kernel_rfl)
   (case GJ=>k_is)
   (case GK=>k_is)
   (case w5=>k_is)
   (case qI=>k_is)
   (case aac=>k_is)
   (case QK=>k_is)
   (case QM=>k_is)
   (case QV=>k_is)
   (case QX=>k_is)
   (case Ka=>kernel_rfl)
   (case QZ=>k_is)
   (case Q0=>kernel_rfl)
   (case Q5=>k_is)
   (case Q6=>k_is)
   (case Dd=>k_is)
   (case vh=>k_is)
   (case Jl=>k_is)
   (case zO=>k_is)
   (case zP=>k_is)
   (case zQ=>k_is)
   (case zR=>k_is)
   (case w6=>kernel_rfl)
   (case zT=>k_is)
   (case zU=>kernel_rfl)
   (case zV=>k_is)
   (case zW=>k_is)
   (case qJ=>k_is)
   (case Mr=>k_is)
   (case Df=>k_is)
   (case Dg=>k_is)
   (case Dh=>k_is)
   (case Di=>k_is)
   (case zX=>kernel_rfl)
   (case Dj=>k_is)
   (case Dk=>kernel_rfl)
   (case Dl=>k_is)
   (case Dm=>k_is)
   (case rW=>k_is)
   (case hn=>k_is)
   (case ht=>k_is)
   (case xg=>kernel_rfl)
   (case xq=>k_is)
   (case xr=>k_is)
   (case xu=>k_is)
   (case xG=>k_is)
   (case xH=>k_is)
   (case zY=>kernel_rfl)
   (case zZ=>kernel_rfl)
   (case z_=>kernel_rfl)
   (case Aa=>kernel_rfl)
   (case Ab=>k_is)
   (case Ac=>k_is)
   (case Ad=>k_is)
   (case vm=>k_is)
   (case Ae=>k_is)
   (case Kc=>kernel_rfl)
   (case Kd=>kernel_rfl)
   (case Ke=>kernel_rfl)
   (case Af=>kernel_rfl)
   (case Ag=>k_is)
   (case Ah=>k_is)
   (case Ai=>k_is)
   (case Aj=>k_is)
   (case Ak=>k_is)
   (case Dn=>kernel_rfl)
   (case Dp=>kernel_rfl)
   (case Dq=>kernel_rfl)
   (case Jm=>kernel_rfl)
   (case Jo=>k_is)
   (case Jp=>k_is)
   (case Jq=>k_is)
   (case Dr=>k_is)
   (case Jr=>k_is)
   (case Wk=>kernel_rfl)
   (case Wm=>kernel_rfl)
   (case Wn=>kernel_rfl)
   (case GP=>kernel_rfl)
   (case GQ=>k_is)
   (case GR=>k_is)
   (case GX=>k_is)
   (case GZ=>k_is)
   (case G3=>k_is)
   (case Kf=>kernel_rfl)
   (case Kg=>kernel_rfl)
   (case Kh=>kernel_rfl)
   (case t_=>kernel_rfl)
   (case uc=>k_is)
   (case ud=>k_is)
   (case uf=>k_is)
   (case pZ=>k_is)
   (case ug=>k_is)
   (case Du=>kernel_rfl)
   (case Dv=>kernel_rfl)
   (case Dw=>kernel_rfl)
   (case wJ=>kernel_rfl)
   (case wK=>k_is)
   (case wL=>k_is)
   (case wM=>k_is)
   (case rP=>k_is)
   (case wN=>k_is)
   (case G4=>kernel_rfl)
   (case G5=>kernel_rfl)
   (case G6=>kernel_rfl)
   (case nn=>kernel_rfl)
   (case g2=>k_is)
   (case rd=>k_is)
   (case fc=>k_is)
  obtain⟨_,_,_,_,_,_,_,_,_,_,_,_,_,_,_,_,_,_,_,_,_,_,_,_,er⟩:=xer;have lw:∃fd:FuncData,L2.gQ (L2.KOf KX) "law" "law" My.Np fa fd/\∀(s:Shared) (v:Value),BindsTo s fd ⟨[v],[]⟩ [("_law_script",v)]:=by
   dsimp only[L2.KOf];refine' L2.afE KX G hmg ?a ?l ?c ?k ?b
   case a|l|c|k=>k_is
   (case b=>exact λ_ _ _ _ _ _ _=>rfl)
  obtain⟨fd,F,hb⟩:=lw;exact⟨fd,hb,λbase _ _=>My.aex aY cV cg g_ gk bH Cj jH Ek fX wB IK Eo Ep mH fG yq yp mC Al Dy xJ Dz DG Am Ao xK qb rY Aq rZ su xM xO Av xP DK mK G7 vo oH vp qK sy qL DN vq DP Q7 Q8 DQ Q9 Q_ Kl Km Ra Wo Ko DR G8 Aw G9 xQ Kq G_ Rb Rc Kr Hf vA ace aeH er F⟩

import PyProof.Rows.All
import Wide.All
import OpenK.AllK
import Wide.FinOn
import Lean
import PyProof.EqAt
import PyProof.EqKinds
import PyProof.TupleCall
import KE.KRevIter
import PyProof.JoinWalk
import PyProof.CollectIter
import KE.KDictSum
import KE.KSortTup
import OpenK.KRaise
import PyProof.StationsW
import OpenK.KOwn
import KE.KTryMore
import KE.KIsNot
import PyProof.NsDelKeeps
import KE.KIsAll
import PyProof.ExcArgs
import PyProof.ListMulRoad
import PyProof.Rows.SeqMore
import PyProof.FactsAll.tuple_2
import PyProof.ExcInit
import OpenK.KCls
import PyProof.WalkInts
import PyProof.SeqI3
import KE.KIntText
import KE.KEqDict
import KE.KDictOf
import PyProof.Rows.SetFrom
import KE.KBoundM
import KE.KMinKey
import KE.KDictLaws
import PyProof.DictItems
import KE.KPairComp
import KE.KRevSl
import PyProof.AutoSeq1
import PyProof.TupleOfSeq
import PyProof.AttrMiss
import PyProof.IsiH_tuple
import PyProof.TupleKey
import PyProof.DictRoadsH
import PyProof.IsRules
import PySem.Challenge.RW_letterrack_k45_the_turned_board
set_option Elab.async false
set_option linter.all false
set_option maxRecDepth 100000
set_option maxHeartbeats 4000000

set_option bootstrap.genMatcherCode false
section
variable{p:Prop}
def vE(h:p:=by lia):p:=h
def vF(h:p:=by simp):p:=h
def vS(h:p:=by decide):p:=h
def vT(h:p:=by rfl):p:=h
def v0(h:p:=by kernel_rfl):p:=h
def v_(h:p:=by decide +kernel):p:=h
def wc(h:p:=by first | lia | ((try dsimp only);lia)):p:=h
def wd(h:p:=by size_fits):p:=h
end
def zsz (n:Nat)(h:n<=1000:=by decide):n<=PySem.sizeLine:=Nat.le_trans h vS
abbrev aa:=@List.length_map
abbrev ab:=@PySem.wpAny_bind
abbrev ae:=@List.getElem?_eq_getElem
abbrev af:=@PySem.Heap.get?_push_of_some
abbrev ag:=@Nat.le_refl
abbrev ah:=@PySem.wpAny_pure
abbrev ai:=@List.getElem?_eq_some_iff
abbrev al:=@List.getD_eq_getElem?_getD
abbrev am:=@decide_eq_false
abbrev ap:=@List.mem_singleton
abbrev ar:=@List.mem_map
abbrev av:=@List.length_append
abbrev aw:=@List.getElem?_map
abbrev ax:=@Option.some.inj
abbrev ay:=@Nat.le_of_lt
abbrev aE:=@decide_eq_true
abbrev aI:=@List.mem_cons_of_mem
abbrev aS:=@PySem.Heap.get?_push_size
abbrev aT:=@List.mem_of_getElem?
abbrev a6:=@List.mem_cons_self
abbrev a7:=@PySem.Heap.lt_size
abbrev a8:=@List.getElem_mem
abbrev a9:=@Nat.le_trans
abbrev a_:=@PyProof.Rows.wpS_bind
abbrev ba:=@List.mem_append
abbrev bb:=@List.mem_cons
abbrev bd:=@Bool.false_eq_true
abbrev be:=@Nat.ne_of_lt
abbrev bg:=@PyProof.Rows.wpS_pure
abbrev bn:=@List.length_take
abbrev bo:=@Array.length_toList
abbrev bq:=@Nat.lt_of_lt_of_le
abbrev bt:=@List.length_cons
abbrev bu:=@List.append_assoc
abbrev bv:=@List.map_append
abbrev bz:=@List.take_add_one
abbrev bE:=@List.mem_range
abbrev bP:=@List.getElem?_eq_none
abbrev bS:=@Array.getElem?_eq_getElem
abbrev bX:=@Bool.false_ne_true
abbrev b6:=@List.map_map
abbrev b7:=@List.size_toArray
abbrev b8:=@Nat.sub_lt_left_of_lt_add
abbrev b9:=@Array.getElem?_toList
abbrev ci:=@PySem.F.plainAttrs_str
abbrev ck:=@PySem.boot_len
abbrev cn:=@Nat.lt_or_ge
abbrev cp:=@List.map_cons
abbrev cq:=@List.take_of_length_le
abbrev cw:=@Nat.zero_le
abbrev cx:=@List.mem_iff_getElem
abbrev cy:=@List.mem_map_of_mem
abbrev cz:=@List.take_length
abbrev cE:=@PyProof.Rows.boot_tuple
abbrev cK:=@PyProof.Rows.KeyOrd.kle_trans
abbrev cS:=@List.take_append_drop
abbrev c9:=@PySem.PassesOwn.never
abbrev c_:=@List.getElem?_append_right
abbrev de:=@Int.emod_lt_of_pos
abbrev df:=@List.pairwise_map
abbrev di:=@PySem.W.mg_none_of
abbrev dm:=@PySem.F.plainAttrs_list
abbrev dq:=@List.mem_append_right
abbrev du:=@Int.toNat_natCast
abbrev dA:=@PySem.wpAny_call_entry
abbrev dC:=@List.length_range
abbrev dE:=@Nat.le_of_lt_succ
abbrev dL:=@PyProof.Rows.KeyOrd.kle_of_klt
abbrev dP:=@List.length_drop
abbrev dQ:=@List.getElem?_append_left
abbrev dS:=@Bool.and_eq_true
abbrev d6:=@Int.emod_nonneg
abbrev ed:=@Nat.le_sub_one_of_lt
abbrev ee:=@PySem.wpAny_truthy_bool
abbrev ef:=@PySem.Heap.size_push
abbrev eB:=@Bool.not_true
abbrev eC:=@List.length_replicate
abbrev eD:=@PySem.wpAny_callSpecial?_slot
abbrev eI:=@List.map_congr_left
abbrev eJ:=@List.pairwise_iff_getElem
abbrev eK:=@Nat.lt_succ_of_lt
abbrev eL:=@List.mem_of_mem_take
abbrev eM:=@PySem.Obj.data_mapFields
abbrev eP:=@Nat.le_sub_of_add_le
abbrev eQ:=@Nat.sub_eq_of_eq_add
abbrev eR:=@PySem.Calls.spliced_cons
abbrev eT:=@List.filter_append
abbrev eW:=@PySem.wpAny_holding
abbrev e6:=@List.range_succ
abbrev e8:=@Nat.lt_succ_self
abbrev e_:=@PyProof.Rows.wpS_forRange
abbrev fb:=@Array.toList_append
abbrev fc:=@PySem.Heap.get?_update_self
abbrev fe:=@Nat.sub_le_iff_le_add
abbrev ff:=@Array.getD_eq_getD_getElem?
abbrev fg:=@List.cons_lt_cons_iff
abbrev fh:=@PySem.F.slot_str_join
abbrev fi:=@PySem.F.type_str_join
abbrev fk:=@PySem.wpAny_setState_of
abbrev fm:=@PySem.wpAny_mono
abbrev fo:=@PySem.wpAny_passesOwn
abbrev fq:=@List.append_nil
abbrev fw:=@List.pairwise_append
abbrev fz:=@Nat.mul_comm
abbrev fA:=@Nat.le_succ
abbrev fE:=@Option.map_eq_some_iff
abbrev fF:=@PySem.Heap.SameBut.update
abbrev fI:=@PySem.wpAny_newObj_type
abbrev fN:=@PySem.wpAny_seqItems
abbrev fR:=@PyProof.Rows.boot_isinstance
abbrev fS:=@PySem.F.slot_list_append
abbrev fT:=@PySem.F.type_list_append
abbrev f6:=@PySem.W.kia_one
abbrev f7:=@List.nodup_cons
abbrev f8:=@PyProof.Rows.callWith_type1
abbrev f_:=@PySem.wpAny_field
abbrev ga:=@PySem.StrLaws.subAt_one
abbrev gd:=@List.getElem?_range
abbrev ge:=@PySem.wpAny_rule
abbrev gf:=@PyProof.Rows.KeyOrd.kle_refl
abbrev gg:=@Classical.byContradiction
abbrev gh:=@Nat.lt_sub_iff_add_lt
abbrev gm:=@Nat.succ_le_succ
abbrev gp:=@Int.ofNat_lt
abbrev gr:=@Nat.sub_sub_self
abbrev gt:=@Nat.zero_add
abbrev gu:=@PySem.wpAny_isInstance
abbrev gv:=@List.not_mem_nil
abbrev gx:=@List.pairwise_cons
abbrev gy:=@PyProof.Rows.boot_sorted
abbrev gz:=@List.mem_flatMap
abbrev gE:=@List.sum_cons
abbrev gI:=@List.getElem?_of_mem
abbrev gL:=@Nat.add_sub_cancel_left
abbrev gN:=@Nat.le_succ_of_le
abbrev gS:=@PyProof.Rows.wpS_mono
abbrev gT:=@List.drop_sublist
abbrev gV:=@List.getElem?_set_self
abbrev g6:=@PySem.Heap.get?_update_other
abbrev g9:=@PySem.Calls.callWith_builtin
abbrev hG:=@Nat.lt_irrefl
abbrev hV:=@List.all_eq_true
abbrev ib:=@List.lookup_cons
abbrev ic:=@Nat.sub_lt_of_lt
abbrev ie:=@Ne.symm
abbrev ii:=@PySem.wpAny_setField
abbrev ij:=@List.Perm.append_left
abbrev ik:=@List.length_filter_le
abbrev im:=@PySem.wpAny_execs_nil
abbrev io:=@PySem.codeAny_mono
abbrev ip:=@List.find?_cons
abbrev iq:=@List.forIn_cons
abbrev iA:=@List.mem_of_mem_drop
abbrev iE:=@Nat.sub_le_of_le_add
abbrev iF:=@Nat.pow_succ
abbrev iL:=@Nat.not_lt_zero
abbrev iN:=@PySem.F.slot_list_extend
abbrev iO:=@PySem.F.type_list_extend
abbrev iP:=@Nat.mul_le_mul_right
abbrev iS:=@List.flatten_cons
abbrev iX:=@PySem.wpAny_pyIter_enum
abbrev i6:=@List.ext_getElem?
abbrev i7:=@of_decide_eq_true
abbrev i8:=@PySem.wpAny_attempt
abbrev i9:=@Int.ofNat.inj
abbrev ja:=@List.length_eq_zero_iff
abbrev jn:=@List.filterMap_cons
abbrev jI:=@Bool.false_and
abbrev jS:=@Bool.not_false
abbrev kd:=@Nat.mul_le_mul
abbrev ke:=@List.map_id
abbrev ki:=@Nat.ne_of_gt
abbrev km:=@PySem.wpAny_Call_Name_kw
abbrev ko:=@Nat.lt_of_le_of_lt
abbrev kq:=@Nat.eq_zero_or_pos
abbrev kr:=@Nat.succ_pos
abbrev ku:=@Bool.eq_iff_iff
abbrev kz:=@PySem.F.slot_dict_get
abbrev kC:=@PySem.Obj.isFreed_of_fields
abbrev kD:=@PySem.codeAny_builtin
abbrev kF:=@PySem.F.slot_tuple_iterator_next
abbrev kG:=@Nat.mul_assoc
abbrev kH:=@PySem.wpAny_pyIter_list
abbrev kK:=@PySem.Calls.spliced_nil
abbrev kM:=@Array.toList_push
abbrev kN:=@List.getElem?_set_ne
abbrev kP:=@PySem.Around.under_plainId
abbrev kQ:=@Bool.and_false
abbrev kR:=@PySem.wpAny_execs_cons
abbrev kS:=@Nat.le_of_eq
abbrev kU:=@List.map_nil
abbrev kX:=@Nat.lt_trans
abbrev lh:=@Array.toList_inj
abbrev lj:=@PySem.wpAny_askSetting
abbrev lv:=@Nat.ge_of_not_lt
abbrev lx:=@Nat.sub_self
abbrev ly:=@PySem.wpAny_forIn_list
abbrev lI:=@PySem.F.called_set
abbrev lL:=@List.Pairwise.imp_of_mem
abbrev lS:=@Int.ofNat_nonneg
abbrev lT:=@PySem.mem_of_lookup
abbrev l_:=@Nat.add_le_add_left
abbrev md:=@PySem.wpAny_setEntries_of
abbrev me:=@Nat.add_sub_cancel'
abbrev mf:=@PyProof.Rows.F.plain_set_update_loop
abbrev mh:=@List.any_cons
abbrev ml:=@PySem.W.mg_of
abbrev mr:=@Nat.add_assoc
abbrev mw:=@PySem.Calls.Constant_str
abbrev mx:=@PySem.wpAny_pyIter_tuple
abbrev my:=@PySem.SeqAt.EqAt.int_int
abbrev mB:=@PySem.wpAny_specialOf
abbrev mE:=@PySem.wpAny_tupleItemsOf
abbrev mI:=@PySem.wpAny_setField_rec
abbrev mM:=@PySem.wpAny_of_eq
abbrev mN:=@Array.getElem?_eq_none
abbrev mP:=@PySem.wpAny_pyIter_strU
abbrev mS:=@decide_eq_true_eq
abbrev ng:=@PySem.F.slot_tuple_hash
abbrev np:=@List.nodup_nil
abbrev nt:=@PySem.F.slot_enumerate_next
abbrev nw:=@PyProof.Rows.boot_int
abbrev ny:=@List.takeWhile_prefix
abbrev nB:=@PySem.Calls.evalArgs_plain
abbrev nE:=@Nat.mod_lt
abbrev nI:=@Array.toList_reverse
abbrev nK:=@Nat.div_lt_of_lt_mul
abbrev nL:=@List.ext_getElem
abbrev nN:=@List.getElem_map
abbrev nS:=@PySem.wpAny_letOwnedTupleGo_enum
abbrev nV:=@Iff.mpr
abbrev n0:=@List.length_pos_iff
abbrev n5:=@List.flatMap_append
abbrev n9:=@List.mem_filter
abbrev og:=@List.length_set
abbrev oj:=@Option.map_some
abbrev om:=@Nat.min_le_left
abbrev on:=@List.extract_eq_take_drop
abbrev oo:=@List.mem_or_eq_of_mem_set
abbrev oq:=@List.mem_filterMap
abbrev ox:=@PySem.W.callWith_K
abbrev oy:=@List.getElem?_take_of_lt
abbrev oz:=@PySem.F.called_enumerate
abbrev oB:=@PyProof.Rows.KeyOrd.klt_of_klt_of_kle
abbrev oC:=@List.getElem?_drop
abbrev oI:=@Array.forIn_toList
abbrev oP:=@of_decide_eq_false
abbrev oQ:=@List.map_singleton
abbrev oS:=@List.length_erase_of_mem
abbrev oT:=@Nat.add_sub_cancel
abbrev o0:=@PySem.wpAny_Name
abbrev o6:=@PyProof.Rows.wpS_get
abbrev ph:=@PySem.F.args_dict_get_3
abbrev pi:=@List.getElem?_cons_succ
abbrev pE:=@PySem.wpAny_pyNext_enum_itemD
abbrev pM:=@List.take_sublist
abbrev pT:=@PySem.Obj.cls_mapFields
abbrev pV:=@Nat.lt_trichotomy
abbrev p_:=@Bool.eq_false_iff
abbrev qf:=@Nat.lt_succ_of_le
abbrev qh:=@List.getElem?_set
abbrev qi:=@Sum.inr.inj
abbrev qk:=@PySem.F.entry_dict_get
abbrev qo:=@List.drop_of_length_le
abbrev qr:=@PyProof.Rows.boot_list
abbrev qB:=@PySem.F.slot_str_lower
abbrev qE:=@PySem.F.type_str_lower
abbrev qS:=@PySem.wpAny_standAt
abbrev qV:=@Bool.or_false
abbrev q0:=@Nat.succ_lt_succ
abbrev rc:=@Nat.succ_ne_self
abbrev re:=@Nat.lt_of_not_le
abbrev rg:=@List.nodup_range
abbrev rh:=@Array.toList_map
abbrev rj:=@decide_eq_decide
abbrev rl:=@List.mem_flatten
abbrev rn:=@List.mem_iff_getElem?
abbrev rq:=@List.perm_append_comm
abbrev rL:=@PyProof.Rows.KeyOrd.not_klt_of_kle
abbrev rS:=@List.mem_append_left
abbrev rV:=@PySem.wpAny_loadName_local
abbrev rX:=@Array.mem_toList_iff
abbrev r0:=@List.of_mem_zip
abbrev r8:=@List.length_nil
abbrev r_:=@Array.toArray_toList
abbrev sd:=@Nat.min_eq_left
abbrev se:=@PySem.wpAny_loadPart'
abbrev sf:=@PyProof.Rows.wpS_modify
abbrev sh:=@Array.toList_extract
abbrev si:=@Nat.sub_le_sub_right
abbrev sk:=@Nat.pow_le_pow_right
abbrev sn:=@PySem.codeAny_call_builtin
abbrev sq:=@PySem.F.slot_zip_next
abbrev sr:=@Nat.succ_mul
abbrev sv:=@List.count_le_length
abbrev sC:=@List.eq_nil_of_length_eq_zero
abbrev sD:=@PySem.W.plainGet_of
abbrev sF:=@List.take_succ_cons
abbrev sK:=@Nat.add_lt_add_left
abbrev sN:=@List.reverse_append
abbrev sP:=@List.flatten_append
abbrev sQ:=@PySem.Heap.get?_update_ne
abbrev sT:=@PySem.wpAny_fieldsOf
abbrev s_:=@List.Perm.refl
abbrev tf:=@Prod.ext
abbrev tj:=@Int.mul_le_mul
abbrev tm:=@PySem.wpAny_Constant_int
abbrev tq:=@PySem.isSubtype_tuple_tuple
abbrev tw:=@List.takeWhile_cons_of_pos
abbrev tz:=@Array.toList_setIfInBounds
abbrev tF:=@Array.perm_iff_toList_perm
abbrev tI:=@PySem.wpAny_assign_Name
abbrev tJ:=@PySem.wpAny_Assign_Name
abbrev tN:=@List.count_append
abbrev tP:=@Nat.le_pred_of_lt
abbrev tS:=@PySem.Heap.get?_push_ne
abbrev tT:=@List.Pairwise.imp
abbrev t7:=@PySem.wpAny_call
abbrev t9:=@PySem.F.plain_extend_loop
abbrev ue:=@Nat.sub_le
abbrev ui:=@List.drop_eq_getElem_cons
abbrev uj:=@Nat.sub_lt
abbrev uk:=@List.mem_of_find?_eq_some
abbrev ul:=@Nat.min_le_right
abbrev uu:=@List.any_eq_true
abbrev uv:=@List.filter_cons
abbrev uA:=@List.mem_reverse
abbrev uB:=@List.zipIdx_cons
abbrev uC:=@Nat.add_zero
abbrev uS:=@Nat.pow_zero
abbrev u7:=@Option.getD_some
abbrev u8:=@Array.toList_zip
abbrev ve:=@Int.lt_trans
abbrev vi:=@List.foldl_cons
abbrev vj:=@Nat.le_antisymm
abbrev vn:=@List.Perm.of_eq
abbrev vv:=@Nat.mul_add
abbrev vw:=@Nat.mul_one
abbrev vx:=@PySem.P.le_str
abbrev vy:=@List.drop_zero
abbrev vz:=@List.take_succ
abbrev AA:=List (List Nat)
abbrev AB:=PySem.Value->PySem.Shared->Prop
abbrev AC:=List (PySem.Addr×PySem.Obj)
noncomputable section
namespace L2
open PySem
def yK (h:Runs M Γ p t fs s e s'):s.toks<=s'.toks:=by
 induction h with| done|raise|yield=>exact ag _| fresh _ ih=>exact a9 (fA _) ih| again _ _ ih|rule _ ih|«at» _ ih|load _ _ ih|update _ _ ih|loadIfAlive _ ih|point _ ih|alloc _ ih|ask _ ih|choose _ _ ih|os _ ih|handled _ ih|genState _ _ ih|stack _ ih|thread _ ih|newGen _ ih=>exact ih| call _ _ ih1 ih2=>exact a9 ih1 ih2| callSusp _ ih=>exact ih| resumeFresh _ _ _ _ ih1 ih2=>exact a9 ih1 ih2| resumeSuspended _ _ _ _ ih1 ih2=>exact a9 ih1 ih2| resumeJustStarted _ _ _ ih=>exact ih| resumeThrowFresh _ _ ih=>exact ih| resumeRunning _ _ ih=>exact ih| resumeFinished _ _ ih=>exact ih| segRet _ _ ih1 ih2=>exact a9 ih1 ih2| segGen _ _ ih1 ih2=>exact a9 ih1 ih2| segSuspOut _ _ ih=>exact ih| segSuspGen _ _ _ _ ih1 ih2=>exact a9 ih1 ih2
def RK (h:Wakes M Γ p g r s res s'):s.toks<=s'.toks:=by
 unfold Wakes at h;split at h;.exact h.elim
 .split at h
  .obtain⟨e,s1,hr,_,_,rfl⟩:=h;have z:=yK hr;exact z
  .obtain⟨_,rfl⟩:=h;exact ag _
  .obtain⟨_,rfl⟩:=h;exact ag _
 .obtain⟨e,s1,hr,_,_,rfl⟩:=h;have z:=yK hr;exact z
 .obtain⟨_,rfl⟩:=h;exact ag _
 .obtain⟨_,rfl⟩:=h;exact ag _
def afC {α:Type}{M:Model}{Γ:Ctx}(t:Sem α)(n:Nat){Q:α->Pos->Shared->Prop}{E:Value->Pos->Shared->Prop}(p:Pos)(s:Shared)(hn:n<=s.toks)(h:Sem.wp M Γ t (λa p s=>n<=s.toks->Q a p s) (λe p s=>n<=s.toks->E e p s) p s):Sem.wp M Γ t Q E p s:=by
 revert h
 induction t generalizing p s with| pure x=>exact λh=>h hn| raise v=>exact λh=>h hn| unsupported|finish|yield|fork|await|register=>exact id| fresh k ih=>exact ih _ _ _ (a9 hn (fA _))| rule _ k ih|«at» _ k ih|alloc _ k ih|loadIfAlive _ k ih|point _ k ih|ask k ih|os _ _ k ih|handled _ k ih|newGen _ k ih|stack k ih|thread k ih=>exact ih _ _ _ hn| load a _ k ih|genState a k ih=>exact λ⟨o,ho,h⟩=>⟨o,ho,ih _ _ _ hn h⟩| update a _ f k ih|choose _ _ k ih=>exact λ⟨ha,h⟩=>⟨ha,ih _ _ _ hn h⟩| call c h g l k ih=>exact λ⟨r,s',hr,hR⟩=>⟨r,s',hr,ih _ _ _ (a9 hn (yK hr)) hR⟩| resume g r l k ih=>exact λ⟨res,s',hw,h⟩=>⟨res,s',hw,ih _ _ _ (a9 hn (RK hw)) h⟩
def pC {α:Type}{t:Sem α}{Q:α->Shared->Prop}{s:Shared}(h:wpAny M A t (λa s'=>s.toks<=s'.toks->Q a s') (λe s'=>s.toks<=s'.toks->E e s') s):wpAny M A t Q E s:=λΓ p hΓ=>afC t s.toks p s (ag _) (h Γ p hΓ)
end L2
namespace L2
open PySem PySem.Spec PyProof.Rows
abbrev Key:=Sum Int Str
def jt:Key->Value->Bool
 | .inl k,v=>Value.isInt k v
 | .inr x,v=>Value.isStrOf x v
def agf (w:World):Key->Int
 | .inl k=>hashInt k
 | .inr x=>hashStr w x
theorem dB:∀{k:Key} {v:Value},jt k v=true->(∃i t,k=Sum.inl i/\v=Value.int i t)\/(∃x t,k=Sum.inr x/\v=Value.str x t)
 | .inl i,v,h=>by obtain⟨t,e⟩:=Value.isInt_shape (k:=i) (v:=v) h;exact .inl ⟨i,t,rfl,e⟩
 | .inr x,v,h=>by obtain⟨t,e⟩:=Value.isStrOf_shape (x:=x) (v:=v) h;exact .inr ⟨x,t,rfl,e⟩
def H_ (i)(t:Tok):jt (.inl i) (.int i t)=true:=by simp[jt,Value.isInt]
def Ia (x)(t:Tok):jt (.inr x) (.str x t)=true:=by simp[jt,Value.isStrOf]
def acS (a b):decide ((Sum.inl a:Key)=Sum.inl b)=(a==b):=by
 by_cases e:a=b;.subst e;simp
 .have h:¬(Sum.inl a:Key)=Sum.inl b:=λq=>e (Sum.inl.inj q)
  rw[am h];exact(beq_eq_false_iff_ne.mpr e).symm
def acT (a b):decide ((Sum.inr a:Key)=Sum.inr b)=decide (a=b):=by
 by_cases e:a=b;.subst e;simp
 .have h:¬(Sum.inr a:Key)=Sum.inr b:=λq=>e (qi q)
  rw[am h,am e]
def acU (a)(b):decide ((Sum.inl a:Key)=Sum.inr b)=false:=am (λq=>nomatch q)
def acV (a)(b):decide ((Sum.inr a:Key)=Sum.inl b)=false:=am (λq=>nomatch q)
noncomputable def cC (prog:Program)(w:World):PySem.KeyKind prog w Key where
 is:=jt
 hash:=agf w
 inj:=λv a b ha hb=>by
  rcases dB ha with⟨i,t,rfl,rfl⟩|⟨x,t,rfl,rfl⟩
  .rcases dB hb with⟨j,u,rfl,e⟩|⟨y,u,rfl,e⟩
   .injection e with e1 _;rw[e1]
   .exact nomatch e
  .rcases dB hb with⟨j,u,rfl,e⟩|⟨y,u,rfl,e⟩;.exact nomatch e
   .injection e with e1 _;rw[e1]
 byValue:=λk v h=>by rcases dB h with⟨i,t,rfl,rfl⟩|⟨x,t,rfl,rfl⟩ <;> rfl
 pyHash:=λhv h=>by
  rcases dB hv with⟨i,t,rfl,rfl⟩|⟨x,t,rfl,rfl⟩;.exact wpAny_pyHash_int h
  .exact wpAny_pyHash_str h
 eqBool:=λhu hv h=>by
  rcases dB hu with⟨i,t,rfl,rfl⟩|⟨x,t,rfl,rfl⟩
  .rcases dB hv with⟨j,u,rfl,rfl⟩|⟨y,u,rfl,rfl⟩;.rw[acS]at h;exact wpAny_eqBool_int h
   .rw[acU]at h;exact SeqAt.EqAt.int_str i t y u _ _ _ _ h
  .rcases dB hv with⟨j,u,rfl,rfl⟩|⟨y,u,rfl,rfl⟩;.rw[acV]at h;exact SeqAt.EqAt.str_int x t j u _ _ _ _ h
   .rw[acT]at h;exact wpAny_eqBool_str h
 «strs»:=λk x t v h=>by
  rcases dB h with⟨i,u,rfl,e⟩|⟨y,u,rfl,e⟩;.exact nomatch e
  .injection e with e1 _;subst e1;cases v <;> rfl
def Oq (prog)(w)(i)(t:Tok):(cC prog w).is (.inl i) (.int i t)=true:=H_ i t
def ji (prog)(w)(x)(t:Tok):(cC prog w).is (.inr x) (.str x t)=true:=Ia x t
inductive V where
 | non|bl (b:Bool)|int (i:Int)|str (x:Str)|yx (b:Array UInt8)|flt (b:UInt64)|ref (a:Addr)|ty (n:String)
 deriving DecidableEq
def bJ:V->Value->Prop
 | .non,u=>u=Value.none
 | .bl b,u=>u=Value.bool b
 | .int i,u=>∃t,u=Value.int i t
 | .str x,u=>∃t,u=Value.str x t
 | .yx b,u=>∃t,u=Value.bytes b t
 | .flt b,u=>∃t,u=Value.float b t
 | .ref a,u=>u=Value.ref a
 | .ty n,u=>u=Value.type n
abbrev Vals:List V->List Value->Prop:=Paired bJ
def Vals.length (r:Vals xs us):xs.length=us.length:=Paired.length r
theorem Vals.get:∀{xs:List V} {us:List Value} {i:Nat} {x:V},Vals xs us->xs[i]?=some x->∃u,us[i]?=some u/\bJ x u
 | _,_,_,_,.nil,e=>by simp at e
 | _,_,0,_,.cons r _,e=>by simp at e;subst e;exact⟨_,rfl,r⟩
 | _,_,i+1,x,.cons _ t,e=>by obtain⟨u,h1,h2⟩:=Vals.get (i:=i) (x:=x) t (by simpa using e);exact⟨u,by simpa using h1,h2⟩
theorem Vals.set (r:bJ x u):∀{xs:List V} {us:List Value} (i:Nat),Vals xs us->Vals (xs.set i x) (us.set i u)
 | _,_,_,.nil=>.nil
 | _,_,0,.cons _ t=>.cons r t
 | _,_,i+1,.cons q t=>.cons q (Vals.set r i t)
theorem Vals.append:∀{xs ys:List V} {us ws:List Value},Vals xs us->Vals ys ws->Vals (xs++ys) (us++ws)
 | _,_,_,_,.nil,s=>s
 | _,_,_,_,.cons r t,s=>.cons r (Vals.append t s)
theorem Vals.take:∀{xs:List V} {us:List Value} (n:Nat),Vals xs us->Vals (xs.take n) (us.take n)
 | _,_,0,_=>.nil
 | _,_,_+1,.nil=>.nil
 | _,_,n+1,.cons r t=>.cons r (Vals.take n t)
theorem Vals.drop:∀{xs:List V} {us:List Value} (n:Nat),Vals xs us->Vals (xs.drop n) (us.drop n)
 | _,_,0,r=>r
 | _,_,_+1,.nil=>.nil
 | _,_,n+1,.cons _ t=>Vals.drop n t
def j4:Option V->Option Value->Prop
 | some v,some u=>bJ v u
 | none,none=>True
 | _,_=>False
def KV {κ:Type}:List (κ×V)->List (κ×Value)->Prop:=Paired λ(p:κ×V) (q:κ×Value)=>p.1=q.1/\bJ p.2 q.2
def kV:Key->V
 | .inl i=>.int i
 | .inr x=>.str x
inductive HO where
 | lst (xs:List V)
 | tup (xs:List V)
 | dK (kvs:List (Key×V))|dT (kvs:List (List Key×V))
 | set (S:Int->Bool) (n:Nat)
 | ins (C dx:Addr) (fs:List (Str×V))
 | own (x:Addr)
 | xd (fs:List (Str×V))
 | met (f x:Addr)
 | rng (lo hi:Int)
 | o9 (o:Obj) (u:HO)
 | Kw (ps:Array Value)
 | ext (φ:Heap->Prop)
abbrev Hp:=Addr->Option HO
def upd (H:Hp)(a:Addr)(o:HO):Hp:=λb=>if b=a then some o else H b
def au:upd H a o a=some o:=by unfold upd;rw[if_pos rfl]
def bw (h:b≠a):upd H a o b=H b:=by unfold upd;rw[if_neg h]
def afD {H:Hp}{a b:Addr}{o u:HO}(h:H a=some o)(h':H b=some u)(d:o≠u):a≠b:=by intro e;subst e;rw[h]at h';exact d (ax h')
def bM {H:Hp}{a b:Addr}{o:HO}(h:H a=some o)(h':H b=none):a≠b:=by intro e;subst e;rw[h]at h';cases h'
section
variable (P:Program)(w:World)
def dU (H:Hp)(h:Heap)(a:Addr):HO->Prop
 | .lst xs=>xs.length<=sizeLine/\∃(its:List Value) (n:Nat),Vals xs its/\h.get? a=some {cls:=.type "list",data:=.seq its.toArray n}
 | .tup xs=>xs.length<=sizeLine/\∃its:List Value,Vals xs its/\IsTup h a its.toArray
 | .dK kvs=>kvs.length<=sizeLine/\(a==sysModules)=false/\∃vs,KV kvs vs/\h.DictOf (cC P w) a vs
 | .dT kvs=>kvs.length<=sizeLine/\(a==sysModules)=false/\∃xs:List (List Key×Addr×Value),
   Paired (λ(p:List Key×V) (q:List Key×Addr×Value)=>p.1=q.1/\H q.2.1=some (.tup (p.1.map kV))/\bJ p.2 q.2.2) kvs xs/\
   ∃o es ep,h.get? a=some o/\o.ExactDict/\o.data=.dict es ep/\es.toList=xs.map (entryOfKey (tupleKind (cC P w)))/\(xs.map (·.1)).Nodup
 | .set S n=>h.SetOf (intKind P w) a S n
 | .ins C dx fs=>H dx=some (.own a)/\fs.length<=1000/\dx≠a/\h.get? a=some (W.instObj C dx)/\
   ∃mA,h.Ns1 dx mA/\(∀f,j4 (fs.lookup f) (mA f))/\PySem.Within mA (fs.map (·.1))
 | .own _=>∃o,h.get? a=some o
 | .xd fs=>∃mA,h.Ns1 a mA/\∀f,j4 (fs.lookup f) (mA f)
 | .rng lo hi=>∃t u v,h.get? a=some {cls:=.type "range",data:=.fields #[.int lo t,.int hi u,.int 1 v]}
 | .o9 o u=>h.get? a=some o/\dU H h a u
 | .Kw ps=>h.get? a=some {cls:=.none,data:=.fields ps}
 | .met f x=>h.get? a=some (W.methodObj (.ref f) (.ref x))
 | .ext φ=>φ h/\(∃o,h.get? a=some o)/\∀h1 h2:Heap,φ h1->(∀o,h1.get? a=some o->h2.get? a=some o)->φ h2
def iU (H:Hp)(h:Heap):Prop:=∀a o,H a=some o->dU P w H h a o
end
section
variable {P:Program}{w:World}{H H':Hp}{h h':Heap}{a:Addr}{o:HO}
def dU.lt (x:dU P w H h a o):a<h.objs.size:=by
 cases o with
 | lst xs=>obtain⟨_,_,_,_,e⟩:=x;exact a7 e
 | tup xs=>obtain⟨_,_,_,p⟩:=x;exact p.lt
 | dK kvs=>obtain⟨_,_,_,_,o,_,_,e,_⟩:=x;exact a7 e
 | dT kvs=>obtain⟨_,_,_,_,o,_,_,e,_⟩:=x;exact a7 e
 | set S n=>obtain⟨o,_,_,_,e,_⟩:=x;exact a7 e
 | ins C dx fs=>obtain⟨_,_,_,e,_⟩:=x;exact a7 e
 | own y=>obtain⟨_,e⟩:=x;exact a7 e
 | xd fs=>obtain⟨_,⟨_,_,_,e,_⟩,_⟩:=x;exact a7 e
 | rng lo hi=>obtain⟨_,_,_,e⟩:=x;exact a7 e
 | o9 ob u=>obtain⟨e,_⟩:=x;exact a7 e
 | Kw ps=>exact a7 (show h.get? a=some _ from x)
 | met f y=>exact a7 (show h.get? a=some _ from x)
 | ext φ=>obtain⟨_,⟨_,e⟩,_⟩:=x;exact a7 e
theorem Paired.Yk {α β:Type}{F G:α->β->Prop}:∀{l₁:List α} {l₂:List β},Paired F l₁ l₂->(∀a b,F a b->G a b)->Paired G l₁ l₂
 | _,_,.nil,_=>.nil
 | _,_,.cons r t,f=>.cons (f _ _ r) (Paired.Yk t f)
def dU.stay (x:dU P w H h a o)(k:∀b u,(b=a\/H b=some (.own a))->h.get? b=some u->h'.get? b=some u)(ho:∀b,H b=some (.own a)->H' b=some (.own a))(ht:∀b xs,H b=some (.tup xs)->H' b=some (.tup xs)):dU P w H' h' a o:=by
 induction o with
 | lst xs=>obtain⟨z,its,n,r,e⟩:=x;exact⟨z,its,n,r,k _ _ (.inl rfl) e⟩
 | tup xs=>obtain⟨z,its,r,ob,e,c⟩:=x;exact⟨z,its,r,ob,k _ _ (.inl rfl) e,c⟩
 | dK kvs=>obtain⟨z,y,vs,r,ob,es,ep,e,c⟩:=x;exact⟨z,y,vs,r,ob,es,ep,k _ _ (.inl rfl) e,c⟩
 | dT kvs=>obtain⟨z,y,xs,r,ob,es,ep,e,c⟩:=x;exact⟨z,y,xs,Paired.Yk r λp q z=>⟨z.1,ht _ _ z.2.1,z.2.2⟩,ob,es,ep,k _ _ (.inl rfl) e,c⟩
 | set S n=>obtain⟨ob,es,ep,t,e,c⟩:=x;exact⟨ob,es,ep,t,k _ _ (.inl rfl) e,c⟩
 | ins C dx fs=>obtain⟨d,z,ne,e,mA,⟨od,es,ep,e2,c⟩,r⟩:=x;exact⟨ho _ d,z,ne,k _ _ (.inl rfl) e,mA,⟨od,es,ep,k _ _ (.inr d) e2,c⟩,r⟩
 | own y=>obtain⟨ob,e⟩:=x;exact⟨ob,k _ _ (.inl rfl) e⟩
 | xd fs=>obtain⟨mA,⟨od,es,ep,e,c⟩,r⟩:=x;exact⟨mA,⟨od,es,ep,k _ _ (.inl rfl) e,c⟩,r⟩
 | rng lo hi=>obtain⟨t,u,v,e⟩:=x;exact⟨t,u,v,k _ _ (.inl rfl) e⟩
 | o9 ob u ih=>obtain⟨e,q⟩:=x;exact⟨k _ _ (.inl rfl) e,ih q⟩
 | Kw ps=>have e:h.get? a=some {cls:=.none,data:=.fields ps}:=x;show h'.get? a=some {cls:=.none,data:=.fields ps};exact k a _ (.inl rfl) e
 | met f y=>have e:h.get? a=some (W.methodObj (.ref f) (.ref y)):=x;show h'.get? a=some (W.methodObj (.ref f) (.ref y));exact k a _ (.inl rfl) e
 | ext φ=>obtain⟨p,⟨o,e⟩,st⟩:=x;exact⟨st _ _ p λo q=>k _ _ (.inl rfl) q,⟨o,k _ _ (.inl rfl) e⟩,st⟩
def iU.lt (x:iU P w H h)(e:H a=some o):a<h.objs.size:=(x a o e).lt
def iU.fresh (x:iU P w H h)(e:h.objs.size<=a):H a=none:=by
 cases q:H a with| none=>rfl| some u=>exact absurd (bq (x.lt q) e) (hG _)
def iU.kept (x:iU P w H h)(k:∀b u,h.get? b=some u->h'.get? b=some u):iU P w H h':=λa o e=>(x a o e).stay (λb u _ q=>k b u q) (λ_ q=>q) λ_ _ q=>q
def iU.laid (x:iU P w H h)(k:∀b u,h.get? b=some u->h'.get? b=some u)(hp:h.objs.size<=a)(new:dU P w (upd H a o) h' a o):iU P w (upd H a o) h':=λb u e=>by
 have hn:=x.fresh hp;by_cases hb:b=a;.subst hb;rw[au]at e;cases e;exact new
 .rw[bw hb]at e;exact(x b u e).stay (λc v _ q=>k c v q) (λc q=>by rw[bw (bM q hn)];exact q) λc xs q=>by rw[bw (bM q hn)];exact q
end
def Rd (H:Hp)(a:Addr)(u:HO):Prop:=H a=some u\/∃o,H a=some (.o9 o u)
def Rd.of (h:H a=some u):Rd H a u:=.inl h
def Rd.ok (r:Rd H a u)(x:iU P w H h):dU P w H h a u:=by
 rcases r with r|⟨o,r⟩;.exact x a u r
 .obtain⟨_,q⟩:=x a _ r;exact q
def UJ:Option HO->Prop
 | some (.lst _)=>True
 | some (.dK _)=>True
 | some (.dT _)=>True
 | some (.set _ _)=>True
 | some (.ins _ _ _)=>True
 | some (.ext _)=>True
 | _=>False
section
variable {P:Program}{w:World}{H:Hp}{h h':Heap}{x e:Addr}{o':HO}
def iU.write (ok:iU P w H h)(mu:UJ (H x))(he:e=x\/H e=some (.own x))(k:∀b u,b≠e->h.get? b=some u->h'.get? b=some u)(heo:∃u,h'.get? e=some u)(new:dU P w (upd H x o') h' x o'):iU P w (upd H x o') h':=λb u q=>by
 have acW:∀c y,H c=some (.own y)->c≠x:=λc y r z=>by subst z;rw[r]at mu;exact mu
 have agg:∀c xs,H c=some (.tup xs)->c≠x:=λc xs r z=>by subst z;rw[r]at mu;exact mu
 by_cases hb:b=x;.subst hb;rw[au]at q;cases q;exact new
 .rw[bw hb]at q;by_cases hbe:b=e
  .have q':H b=some (.own x):=by
    rcases he with z|z;.exact absurd (hbe.trans z) hb
    .rw[hbe];exact z
   rw[q]at q';cases q';obtain⟨v,hv⟩:=heo;exact⟨v,by rw[hbe];exact hv⟩
  .refine(ok b u q).stay (λc v hc r=>k c v ?_ r) (λc r=>by rw[bw (acW c b r)];exact r) λc xs r=>by rw[bw (agg c xs r)];exact r
   rcases hc with rfl|hc;.exact hbe
   .rintro rfl;rcases he with z|z;.exact acW c b hc z
    .rw[hc]at z;cases z;exact hb rfl
end
structure Un (fs ex:List Addr)(H H':Hp)(h h':Heap):Prop where
 keep:∀b o,h.get? b=some o->H b=none->b∉fs->b∉ex->h'.get? b=some o
 slot:∀b o,h.get? b=some o->H b=none->b∈fs->b∉ex->∃sl,h'.get? b=some {o with slots:=sl}
 free:∀b o,h.get? b=some o->H b=none->b∉ex->H' b=none
 there:∀b o,h.get? b=some o->b∉ex->∃o',h'.get? b=some o'
 tups:∀b xs,H b=some (.tup xs)->H' b=some (.tup xs)
 uU:∀b o u,H b=some (.o9 o u)->H' b=some (.o9 o u)
 wF:∀b ps,H b=some (.Kw ps)->∃more,H' b=some (.Kw (ps++more))
section
variable {fs ex:List Addr}{H H1:Hp}{h h1 h':Heap}{a x e:Addr}{o:HO}
def Un.any (u:Un fs ex H H1 h h1)(q:h.get? b=some ob)(n:H b=none)(hx:b∉ex):∃sl,h1.get? b=some {ob with slots:=sl}:=by
 by_cases hb:b∈fs;.exact u.slot b ob q n hb hx
 .exact⟨ob.slots,u.keep b ob q n hb hx⟩
def Un.kept (k:∀b u,h.get? b=some u->h'.get? b=some u):Un fs ex H H h h':=⟨λb ob q _ _ _=>k b ob q,λb ob q _ _ _=>⟨ob.slots,k b ob q⟩,λ_ _ _ n _=>n,λb ob q _=>⟨ob,k b ob q⟩,λ_ _ q=>q,λ_ _ _ q=>q,λ_ ps q=>⟨#[],by rw[q];simp⟩⟩
def Un.refl:Un fs ex H H h h:=Un.kept λ_ _ q=>q
def Un.laid (k:∀b u,h.get? b=some u->h'.get? b=some u)(hp:h.objs.size<=a)(hn:H a=none):Un fs ex H (upd H a o) h h' where
 keep:=λb u q _ _ _=>k b u q
 slot:=λb u q _ _ _=>⟨u.slots,k b u q⟩
 free:=λb u q n _=>by rw[bw (be (bq (a7 q) hp))];exact n
 there:=λb u q _=>⟨u,k b u q⟩
 tups:=λb xs q=>by rw[bw (bM q hn)];exact q
 uU:=λb u xs q=>by rw[bw (bM q hn)];exact q
 wF:=λb ps q=>⟨#[],by rw[bw (bM q hn),q];simp⟩
def Un.write (mu:UJ (H x))(he:e=x\/H e=some (.own x))(k:∀b u,b≠e->h.get? b=some u->h'.get? b=some u)(heo:∃u,h'.get? e=some u):Un fs ex H (upd H x o) h h':=by
 have hx:∀b,H b=none->b≠x:=λb n z=>by subst z;rw[n]at mu;exact mu
 have hb:∀b,H b=none->b≠e:=λb n z=>by
  subst z;rcases he with r|r;.exact hx b n r
  .rw[n]at r;cases r
 have hm:∀b u,H b=some u->¬UJ (some u)->b≠x:=λb u q nm z=>by subst z;rw[q]at mu;exact nm mu
 refine⟨λb u q n _ _=>k b u (hb b n) q,λb u q n _ _=>⟨u.slots,k b u (hb b n) q⟩,λb u q n _=>by rw[bw (hx b n)];exact n,λb u q _=>?_,
  λb xs q=>by rw[bw (hm b _ q λz=>z)];exact q,λb u xs q=>by rw[bw (hm b _ q λz=>z)];exact q,λb ps q=>⟨#[],by rw[bw (hm b _ q λz=>z),q];simp⟩⟩
 by_cases hbe:b=e;.subst hbe;exact heo
 .exact⟨u,k b u hbe q⟩
end
def trk (h:Heap)(H:Hp):List Addr:=(List.range h.objs.size).filter λa=>(H a).isSome
def wG (h:Heap)(H:Hp):Heap:=W.hideAll h (trk h H)
def UL (h)(H):(wG h H).objs.size=h.objs.size:=W.hideAll_size _ _
def Yl {h:Heap}(e:h.get? b=some o)(n:H b=none):(wG h H).get? b=some o:=
 W.hideAll_get _ e λhm=>by have q:(H b).isSome=true:=(n9.mp hm).2;rw[n]at q;simp at q
def aa6 (e:(wG h H).get? b=some o):h.get? b=some o/\H b=none:=by
 have e':h.get? b=some o:=W.of_hideAll (trk h H) e;refine⟨e',?_⟩;cases q:H b with| none=>rfl| some x=>have hm:b∈trk h H:=n9.mpr ⟨bE.mpr (a7 e'),by simp[q]⟩;have z:(wG h H).get? b=none:=W.hideAll_none (trk h H) hm;rw[z]at e;cases e
structure Mod (K:W.Frag)(mg:Str->Option Value)(base:Heap):Prop where
 Ky:K.In base
 glob:base.Ns mainGlobals mg
 blt:∃mb,base.Ns builtinsNs mb/\∀x:Str,x≠"__name__"->mb x=bootBuiltins x
 nolimit:base.NoLimit
structure Cx where
 prog:Program
 w:World
 K:W.Frag
 mg:Str->Option Value
 base:Heap
 A:Around
 N:List Str
 s₀:Shared
 H₀:Hp
 env:Env
 outer:List Env
 stack:List Env
 ex:List Addr
 fn:Str->Bool
 calm:Bool
 pn:List (Addr×Obj)
 xe:Value->Shared->Prop
def frs (l:List Env):List Addr:=l.filterMap (·.frame)
abbrev Cx.fs (X:Cx):List Addr:=frs X.outer
def UW (sc:Scope)(x:Str):Prop:=sc.names.lookup x=some .local\/sc.names.lookup x=some .cell\/sc.names.lookup x=some .free
def Loc (sc:Scope)(x:Str):Prop:=sc.names.lookup x=some .local\/sc.names.lookup x=some .cell
def Look (env:Env)(h:Heap)(m:Str->Option Value)(x:Str)(u:Value):Prop:=(env.kindOf x=some .local/\m x=some u)\/((env.kindOf x=some .cell\/env.kindOf x=some .free)/\∃c,env.cells.lookup x=some c/\h.IsCell c (some u))
structure Cx.Ok (X:Cx):Prop where
 mod:Mod X.K X.mg X.base
 kind:X.env.scope.kind=.function
 glob:X.env.globals=mainGlobals
 blt:X.env.builtins=builtinsNs
 above:X.s₀.heap.objs.size<=X.env.locals
 inj:∀x y c,X.env.cells.lookup x=some c->X.env.cells.lookup y=some c->x=y
 has:∀x,(X.env.kindOf x=some .cell\/X.env.kindOf x=some .free)->∃c,X.env.cells.lookup x=some c
 cab:∀x c,X.fn x=true->X.env.cells.lookup x=some c->X.s₀.heap.objs.size<=c
 hd:X.calm=true->X.A.handled=none
 frames:X.A.frames=some X.stack
 stk:X.stack=X.outer\/(X.stack=X.env::X.outer/\X.env.frame=some X.env.locals)
 exf:∀b∈X.ex,b≠X.env.locals/\∀x c,X.env.cells.lookup x=some c->c≠b
 bs:∀b o,X.base.get? b=some o->X.s₀.heap.get? b=some o/\X.H₀ b=none
 DG:X.base.objs.size<=X.s₀.heap.objs.size
 Kz:∀b o,X.base.get? b=some o->b∉X.ex
 RL:∀b∈X.ex,b∉X.fs
 qN:X.s₀.heap.FunFrames X.base X.outer
 KC:∀b∈X.fs,X.H₀ b=none
structure aJ (X:Cx)(aq:AC)(σ:List (Option V))(H:Hp)(s:Shared):Prop where
 ok:X.Ok
 os:s.os=X.s₀.os
 bare:AllBare s.gens
 base:Un X.fs X.ex X.H₀ H X.s₀.heap s.heap
 loc:∃m,s.heap.Ns X.env.locals m/\∀(i:Nat) (x:Str) (v:V),X.N[i]?=some x->σ[i]?=some (some v)->UW X.env.scope x->∃u,bJ v u/\Look X.env s.heap m x u
 cell:∀x c,X.env.cells.lookup x=some c->∃v,s.heap.IsCell c v
 free:H X.env.locals=none
 nT:∀x c,X.env.cells.lookup x=some c->H c=none
 pin:∀p∈X.pn++aq,s.heap.get? p.1=some p.2/\H p.1=none/\p.1≠X.env.locals/\p.1∉X.fs/\∀v,p.2.data≠.cell v
 hok:iU X.prog X.w H s.heap
 len:σ.length=X.N.length
section
variable {X:Cx}{aq:AC}{σ:List (Option V)}{H H':Hp}{s:Shared}{h':Heap}
def Cx.Ok.agh (ok:X.Ok)(e:X.base.get? b=some o):b∉X.fs:=λhb=>by have:=(ok.qN.mem hb).1;rw[e]at this;cases this
def aJ.bs (I:aJ X aq σ H s):∀b o,X.base.get? b=some o->s.heap.get? b=some o/\H b=none:=λb o e=>⟨I.base.keep b o (I.ok.bs b o e).1 (I.ok.bs b o e).2 (I.ok.agh e) (I.ok.Kz b o e),I.base.free b o (I.ok.bs b o e).1 (I.ok.bs b o e).2 (I.ok.Kz b o e)⟩
def aJ.bk (I:aJ X aq σ H s):∀b o,X.base.get? b=some o->s.heap.get? b=some o:=λb o e=>(I.bs b o e).1
def aJ.mod (I:aJ X aq σ H s):Mod X.K X.mg X.base:=I.ok.mod
def aJ.jq (I:aJ X aq σ H s):X.K.In s.heap:=I.ok.mod.Ky.keeps I.bk
def aJ.lt (I:aJ X aq σ H s):X.env.locals<s.heap.objs.size:=let ⟨_,hn,_⟩:=I.loc;hn.lt
def aJ.sz (I:aJ X aq σ H s):X.s₀.heap.objs.size<=s.heap.objs.size:=a9 I.ok.above (ay I.lt)
def aJ.agi (I:aJ X aq σ H s){a:Addr}(h:s.heap.objs.size<=a):a∉X.fs:=λhb=>by obtain⟨_,o,ho,_⟩:=I.ok.qN.mem hb;exact absurd (bq (a7 ho) (a9 I.sz h)) (hG _)
def aJ.Ib (I:aJ X aq σ H s):∀x c,X.env.cells.lookup x=some c->c≠X.env.locals:=λx c e z=>by obtain⟨v,o,ho,hd⟩:=I.cell x c e;obtain⟨m,⟨o',es,ep,ho',hd',_⟩,_⟩:=I.loc;rw[z,ho']at ho;cases ho;rw[hd']at hd;cases hd
def aJ.qN (I:aJ X aq σ H s):s.heap.FunFrames X.base X.outer:=by
 have all:∀(l:List Env),(∀b∈frs l,b∈X.fs)->X.s₀.heap.FunFrames X.base l->s.heap.FunFrames X.base l:=by
  intro l
  induction l with| nil=>intro _ _;trivial| cons env r ih=>intro hs hl;obtain⟨hk,⟨L,o,hf,hn,ho,hd⟩,hr⟩:=hl;have hL:L∈X.fs:=hs L (by unfold frs;rw[jn,hf];exact a6);obtain⟨sl,e⟩:=I.base.slot L o ho (I.ok.KC L hL) hL λz=>I.ok.RL L z hL;exact⟨hk,⟨L,_,hf,hn,e,hd⟩,ih (λb hb=>hs b (by unfold frs;rw[jn,hf];exact aI _ hb)) hr⟩
 exact all X.outer (λ_ hb=>hb) I.ok.qN
def aJ.stack (I:aJ X aq σ H s):s.heap.FunFrames X.base X.stack:=by
 rcases I.ok.stk with e|⟨e,hf⟩;.rw[e];exact I.qN
 .rw[e];obtain⟨m,hn,_⟩:=I.loc;refine .cons (by rw[I.ok.kind];decide) hf hn ?_ I.qN;exact Heap.get?_none_of_le (a9 I.ok.DG I.ok.above)
def aJ.KD (I:aJ X aq σ H s):∀b∈frs X.stack,b∈X.env.locals::X.fs:=λb hb=>by
 rcases I.ok.stk with e|⟨e,hf⟩;.rw[e]at hb;exact aI _ hb
 .rw[e]at hb;unfold frs at hb;rw[jn,hf]at hb;exact hb
def aJ.PX (I:aJ X aq σ H s):∀b∈frs X.stack,H b=none:=λb hb=>by
 rcases bb.mp (I.KD b hb) with e|hb;.rw[e];exact I.free
 .obtain⟨_,o,ho,_⟩:=I.ok.qN.mem hb;exact I.base.free b o ho (I.ok.KC b hb) λz=>I.ok.RL b z hb
def aJ.step {g':Array GenState}{t':Nat}{d':Drawn}{ch:List Addr}(I:aJ X aq σ H s)(hch:∀b∈ch,(b∈X.ex\/X.s₀.heap.objs.size<=b)/\b≠X.env.locals/\(∀x c,X.env.cells.lookup x=some c->c≠b)/\∀p∈X.pn++aq,p.1≠b)(keep:∀b o,b≠X.env.locals->b∉X.fs->b∉ch->s.heap.get? b=some o->H b=none->h'.get? b=some o)(slot:∀b o,b≠X.env.locals->b∈X.fs->b∉ch->s.heap.get? b=some o->H b=none->∃sl,h'.get? b=some {o with slots:=sl})(free:∀b o,b∉ch->s.heap.get? b=some o->H b=none->H' b=none)(there:∀b o,b∉ch->s.heap.get? b=some o->∃o',h'.get? b=some o')(tups:∀b xs,H b=some (.tup xs)->H' b=some (.tup xs))(uU:∀b o u,H b=some (.o9 o u)->H' b=some (.o9 o u))(wF:∀b ps,H b=some (.Kw ps)->∃more,H' b=some (.Kw (ps++more)))(ns:∀m,s.heap.Ns X.env.locals m->h'.Ns X.env.locals m)(hok:iU X.prog X.w H' h')(hg:AllBare g'):aJ X aq σ H' {s with heap:=h',gens:=g',drawn:=d',toks:=t' }:=by
 have neL:∀b o,X.s₀.heap.get? b=some o->b≠X.env.locals:=λb o e=>be (bq (a7 e) I.ok.above);have Ie:∀b o,X.s₀.heap.get? b=some o->b∉X.ex->b∉ch:=λb o e hx hb=>by
  rcases(hch b hb).1 with z|z;.exact hx z
  .exact absurd (bq (a7 e) z) (hG _)
 have cellK:∀x c,X.env.cells.lookup x=some c->∀v,s.heap.IsCell c v->h'.IsCell c v:=λx c e v ⟨o,ho,hd⟩=>by
  have U0:c∉ch:=λz=>(hch c z).2.2.1 x c e rfl;by_cases hc:c∈X.fs
  .obtain⟨sl,q⟩:=slot c o (I.Ib x c e) hc U0 ho (I.nT x c e);exact⟨_,q,hd⟩
  .exact⟨o,keep c o (I.Ib x c e) hc U0 ho (I.nT x c e),hd⟩
 refine⟨I.ok,I.os,hg,⟨λb o e n hb hx=>?_,λb o e n hb hx=>?_,λb o e n hx=>?_,λb o e hx=>?_,λb xs e=>tups b xs (I.base.tups b xs e),λb o xs e=>uU b o xs (I.base.uU b o xs e),λb ps e=>?_⟩,?_,λx c e=>?_,?_,λx c e=>?_,λp hp=>?_,hok,I.len⟩;.exact keep b o (neL b o e) hb (Ie b o e hx) (I.base.keep b o e n hb hx) (I.base.free b o e n hx)
 .obtain⟨sl,e1⟩:=I.base.slot b o e n hb hx;obtain⟨sl',e2⟩:=slot b _ (neL b o e) hb (Ie b o e hx) e1 (I.base.free b o e n hx);exact⟨sl',e2⟩
 .obtain⟨o',e1⟩:=I.base.there b o e hx;exact free b o' (Ie b o e hx) e1 (I.base.free b o e n hx)
 .obtain⟨o',e1⟩:=I.base.there b o e hx;exact there b o' (Ie b o e hx) e1
 .obtain⟨m1,e1⟩:=I.base.wF b ps e;obtain⟨m2,e2⟩:=wF b _ e1;exact⟨m1++m2,by rw[e2,Array.append_assoc]⟩
 .obtain⟨m,hn,hl⟩:=I.loc;refine⟨m,ns m hn,λi x v e1 e2 e3=>?_⟩;obtain⟨u,r,l⟩:=hl i x v e1 e2 e3;refine⟨u,r,?_⟩;rcases l with l|⟨k,c,e,z⟩;.exact .inl l
  .exact .inr ⟨k,c,e,cellK x c e _ z⟩
 .obtain⟨v,z⟩:=I.cell x c e;exact⟨v,cellK x c e v z⟩
 .obtain⟨m,⟨o,_,_,ho,_⟩,_⟩:=I.loc;exact free _ o (λz=>(hch _ z).2.1 rfl) ho I.free
 .obtain⟨v,o,ho,hd⟩:=I.cell x c e;exact free c o (λz=>(hch c z).2.2.1 x c e rfl) ho (I.nT x c e)
 .obtain⟨e,n,ne,nf,d⟩:=I.pin p hp;have U0:p.1∉ch:=λz=>(hch p.1 z).2.2.2 p hp rfl;exact⟨keep p.1 p.2 ne nf U0 e n,free p.1 p.2 U0 e n,ne,nf,d⟩
def aJ.un (I:aJ X aq σ H s)(u:Un X.fs [] H H' s.heap h')(hok:iU X.prog X.w H' h'):aJ X aq σ H' {s with heap:=h',toks:=t' }:=by
 obtain⟨m,⟨o,es,ep,ho,r⟩,_⟩:=id I.loc;obtain⟨sl,hL⟩:=u.any ho I.free vF;exact I.step (g':=s.gens) (d':=s.drawn) (ch:=[]) (λ_ z=>nomatch z) (λb o _ hb _ e n=>u.keep b o e n hb vF) (λb o _ hb _ e n=>u.slot b o e n hb vF) (λb o _ e n=>u.free b o e n vF) (λb o _ e=>u.there b o e vF) u.tups u.uU u.wF (λm' hm=>by obtain⟨o',es',ep',ho',r'⟩:=hm;rw[ho]at ho';cases ho';exact⟨_,es',ep',hL,r'⟩) hok I.bare
def aJ.call (I:aJ X aq σ H s)(u:Un (frs X.stack) ch H H' s.heap h')(hok:iU X.prog X.w H' h')(hg:AllBare g')(hch:∀b∈ch,(b∈X.ex\/X.s₀.heap.objs.size<=b)/\b≠X.env.locals/\(∀x c,X.env.cells.lookup x=some c->c≠b)/\∀p∈X.pn++aq,p.1≠b):aJ X aq σ H' {s with heap:=h',gens:=g',drawn:=d',toks:=t' }:=by
 obtain⟨m,⟨o,es,ep,ho,r⟩,_⟩:=id I.loc;obtain⟨sl,hL⟩:=u.any ho I.free λz=>(hch _ z).2.1 rfl;exact I.step (ch:=ch) hch (λb o hL hb hc e n=>u.keep b o e n (λz=>(bb.mp (I.KD b z)).elim hL hb) hc) (λb o _ _ hc e n=>u.any e n hc) (λb o hc e n=>u.free b o e n hc) (λb o hc e=>u.there b o e hc) u.tups u.uU u.wF (λm' hm=>by obtain⟨o',es',ep',ho',r'⟩:=hm;rw[ho]at ho';cases ho';exact⟨_,es',ep',hL,r'⟩) hok hg
def aJ.turned (I:aJ X aq σ H s)(k:∀b o,b≠it->s.heap.get? b=some o->h'.get? b=some o)(hn:H it=none)(hL:it≠X.env.locals)(h1:it∈X.ex\/X.s₀.heap.objs.size<=it)(h2:∀x c,X.env.cells.lookup x=some c->c≠it)(h3:∀p∈X.pn++aq,p.1≠it):aJ X aq σ H {s with heap:=h',toks:=t' }:=by
 have U3:∀b u,H b=some u->b≠it:=λb u e z=>by rw[z,hn]at e;cases e
 refine I.step (g':=s.gens) (d':=s.drawn) (ch:=[it]) (λb hb=>?_) (λb o _ _ hc e _=>k b o (λz=>hc (by simp[z])) e) (λb o _ _ hc e _=>⟨o.slots,k b o (λz=>hc (by simp[z])) e⟩) (λ_ _ _ _ n=>n)
  (λb o hc e=>⟨o,k b o (λz=>hc (by simp[z])) e⟩) (λ_ _ e=>e) (λ_ _ _ e=>e) (λb ps e=>⟨#[],by rw[e];simp⟩) (λm hm=>?_) (λb u e=>?_) I.bare
 .have e:b=it:=by simpa using hb
  subst e;exact⟨h1,hL,h2,h3⟩
 .obtain⟨o,es,ep,ho,r⟩:=hm;exact⟨o,es,ep,k _ o (ie hL) ho,r⟩
 .refine(I.hok b u e).stay (λc v hc q=>k c v ?_ q) (λ_ q=>q) λ_ _ q=>q
  rcases hc with z|z;.rw[z];exact U3 b u e
  .exact U3 c _ z
def aJ.tok (I:aJ X aq σ H s)(t):aJ X aq σ H {s with toks:=t}:=I.un (h':=s.heap) (t':=t) Un.refl I.hok
def aJ.kept (I:aJ X aq σ H s)(k:∀b u,s.heap.get? b=some u->h'.get? b=some u):aJ X aq σ H {s with heap:=h',toks:=t' }:=I.un (Un.kept k) (I.hok.kept k)
def aJ.laid {a:Addr}{o:HO}{t':Nat}(I:aJ X aq σ H s)(k:∀b u,s.heap.get? b=some u->h'.get? b=some u)(hp:s.heap.objs.size<=a)(new:dU X.prog X.w (upd H a o) h' a o):aJ X aq σ (upd H a o) {s with heap:=h',toks:=t' }:=I.un (Un.laid k hp (I.hok.fresh hp)) (I.hok.laid k hp new)
def aJ.write (I:aJ X aq σ H s)(mu:UJ (H x))(he:e=x\/H e=some (.own x))(k:∀b u,b≠e->s.heap.get? b=some u->h'.get? b=some u)(heo:∃u,h'.get? e=some u)(new:dU X.prog X.w (upd H x o) h' x o):aJ X aq σ (upd H x o) {s with heap:=h',toks:=t' }:=I.un (Un.write mu he k heo) (I.hok.write mu he k heo new)
def aJ.P0 (I:aJ X aq σ H s)(h:∀p∈aaC,s.heap.get? p.1=some p.2/\H p.1=none/\p.1≠X.env.locals/\p.1∉X.fs/\∀v,p.2.data≠.cell v):aJ X aaC σ H s:=⟨I.ok,I.os,I.bare,I.base,I.loc,I.cell,I.free,I.nT,λp hp=>(ba.mp hp).elim (λz=>I.pin p (rS _ z)) (h p),I.hok,I.len⟩
def KH {N:List Str}(hN:N.Nodup){i j:Nat}{x:Str}(a:N[i]?=some x)(b:N[j]?=some x):i=j:=by obtain⟨h1,e1⟩:=ai.mp a;obtain⟨h2,e2⟩:=ai.mp b;exact(List.getElem_inj hN).mp (e1.trans e2.symm)
def uq (I:aJ X aq σ H s)(hN:X.N.Nodup)(hi:X.N[i]?=some x)(hx:Loc X.env.scope x)(r:bJ v u)(h:∀s',aJ X aq (σ.set i (some v)) H s'->(∃a,Heap.SameBut a s.heap s'.heap/\(a=X.env.locals\/X.env.cells.lookup x=some a))->(∃m,s'.heap.Ns X.env.locals m/\Look X.env s'.heap m x u)->Q () s')(hf:X.fn x=true\/X.env.scope.names.lookup x=some .local:=by first|exact .inl rfl|exact .inr rfl|assumption):wpAny M A (storeName X.env x u) Q E s:=by
 obtain⟨m,hn,hl⟩:=id I.loc;have hcls:(X.env.scope.kind == .class||(X.env.scope.kind == .module&&X.env.locals != X.env.globals))=false:=by rw[I.ok.kind];rfl
 have hiσ:i<σ.length:=by rw[I.len];exact(ai.mp hi).1
 have Ib:=I.Ib;have tracked:∀{a:Addr} {h':Heap},(∃o,s.heap.get? a=some o/\H a=none)->Heap.SameBut a s.heap h'->iU X.prog X.w H h':=λ{a h'} ha hs b ob e=>by
  obtain⟨_,_,hfree⟩:=ha;refine(I.hok b ob e).stay (λc w' hc q=>(hs.2 c ?_).trans q) (λ_ q=>q) λ_ _ q=>q;rintro rfl;rcases hc with rfl|hc
  .rw[hfree]at e;cases e
  .rw[hfree]at hc;cases hc
 rcases hx with hk|hk
 .refine wpAny_storeName_local hk hn (λh' hn' hs=>?_) hcls;obtain⟨oL,_,_,hoL,_⟩:=id hn;refine h _ ⟨I.ok,I.os,I.bare,⟨λb o e n hb hx=>?_,λb o e n hb hx=>?_,I.base.free,λb o e hx=>?_,I.base.tups,I.base.uU,I.base.wF⟩,⟨_,hn',λj y v' e1 e2 e3=>?_⟩,λy c e=>?_,I.free,I.nT,λp hp=>?_,tracked ⟨oL,hoL,I.free⟩ hs,by simpa using I.len⟩ ⟨_,hs,.inl rfl⟩ ⟨_,hn',.inl ⟨hk,vF⟩⟩;.exact(hs.2 b (be (bq (a7 e) I.ok.above))).trans (I.base.keep b o e n hb hx)
  .obtain⟨sl,e1⟩:=I.base.slot b o e n hb hx;exact⟨sl,(hs.2 b (be (bq (a7 e) I.ok.above))).trans e1⟩
  .obtain⟨o',e1⟩:=I.base.there b o e hx;exact⟨o',(hs.2 b (be (bq (a7 e) I.ok.above))).trans e1⟩
  .by_cases hj:j=i
   .subst hj;rw[hi]at e1;cases e1;rw[gV hiσ]at e2;cases e2;exact⟨u,r,.inl ⟨hk,vF⟩⟩
   .rw[kN (ie hj)]at e2;obtain⟨u',r',q⟩:=hl j y v' e1 e2 e3;refine⟨u',r',?_⟩;rcases q with⟨k,e⟩|⟨k,c,e,z⟩
    .refine .inl ⟨k,?_⟩;have:y≠x:=λe=>hj (KH hN e1 (e ▸ hi));simp[this,e]
    .exact .inr ⟨k,c,e,z.sameBut hs (Ib y c e)⟩
  .obtain⟨w',z⟩:=I.cell y c e;exact⟨w',z.sameBut hs (Ib y c e)⟩
  .obtain⟨e,n,ne,nf,d⟩:=I.pin p hp;exact⟨(hs.2 p.1 ne).trans e,n,ne,nf,d⟩
 .have hfn:X.fn x=true:=by
   rcases hf with z|z;.exact z
   .rw[z]at hk;cases hk
  obtain⟨c,hc⟩:=I.ok.has x (.inl hk);obtain⟨w',z⟩:=I.cell x c hc;refine wpAny_storeName_cell I.ok.kind hk hc z (λh' hc' hs=>?_);obtain⟨oc,hoc,agj⟩:=id z;refine h {s with heap:=h' } ⟨I.ok,I.os,I.bare,⟨λb o e n hb hx=>?_,λb o e n hb hx=>?_,I.base.free,λb o e hx=>?_,I.base.tups,I.base.uU,I.base.wF⟩,⟨m,hn.sameBut hs (ie (Ib x c hc)),λj y v' e1 e2 e3=>?_⟩,λy c' e=>?_,I.free,I.nT,λp hp=>?_,tracked ⟨oc,hoc,I.nT x c hc⟩ hs,by simpa using I.len⟩ ⟨c,hs,.inr hc⟩ ⟨m,hn.sameBut hs (ie (Ib x c hc)),.inr ⟨.inl hk,c,hc,hc'⟩⟩;.exact(hs.2 b (be (bq (a7 e) (I.ok.cab x c hfn hc)))).trans (I.base.keep b o e n hb hx)
  .obtain⟨sl,e1⟩:=I.base.slot b o e n hb hx;exact⟨sl,(hs.2 b (be (bq (a7 e) (I.ok.cab x c hfn hc)))).trans e1⟩
  .obtain⟨o',e1⟩:=I.base.there b o e hx;exact⟨o',(hs.2 b (be (bq (a7 e) (I.ok.cab x c hfn hc)))).trans e1⟩
  .by_cases hj:j=i
   .subst hj;rw[hi]at e1;cases e1;rw[gV hiσ]at e2;cases e2;exact⟨u,r,.inr ⟨.inl hk,c,hc,hc'⟩⟩
   .rw[kN (ie hj)]at e2;obtain⟨u',r',q⟩:=hl j y v' e1 e2 e3;refine⟨u',r',?_⟩;rcases q with q|⟨k,c',e,z'⟩;.exact .inl q
    .refine .inr ⟨k,c',e,z'.sameBut hs ?_⟩;rintro rfl;exact hj (KH hN e1 (I.ok.inj _ _ _ e hc ▸ hi))
  .by_cases hcc:c'=c;.subst hcc;exact⟨_,hc'⟩
   .obtain⟨w2,z2⟩:=I.cell y c' e;exact⟨w2,z2.sameBut hs hcc⟩
  .obtain⟨e,n,ne,nf,d⟩:=I.pin p hp;refine⟨(hs.2 p.1 ?_).trans e,n,ne,nf,d⟩;intro q;rw[q,hoc]at e;have q':oc=p.2:=ax e;exact d w' (by rw[<-q'];exact agj)
def Cm (I:aJ X aq σ H s)(hN:X.N.Nodup)(hi:X.N[i]?=some x)(hx:Loc X.env.scope x)(r:bJ v u)(h:∀s',aJ X aq (σ.set i (some v)) H s'->Q () s')(hf:X.fn x=true\/X.env.scope.names.lookup x=some .local:=by first|exact .inl rfl|exact .inr rfl|assumption):wpAny M A (storeName X.env x u) Q E s:=uq I hN hi hx r (λs' I' _ _=>h s' I') hf
def aJ.call' {s':Shared}(I:aJ X aq σ H s)(ho:s'.os=s.os)(u:Un (frs X.stack) ch H H' s.heap s'.heap)(hok:iU X.prog X.w H' s'.heap)(hg:AllBare s'.gens)(hch:∀b∈ch,(b∈X.ex\/X.s₀.heap.objs.size<=b)/\b≠X.env.locals/\(∀x c,X.env.cells.lookup x=some c->c≠b)/\∀p∈X.pn++aq,p.1≠b):aJ X aq σ H' s':=by obtain⟨h',g',d',t',o'⟩:=s';have e:o'=s.os:=ho;subst e;exact I.call (g':=g') (t':=t') (d':=d') u hok hg hch
end
abbrev XK:=Value->Option Addr->Hp->Prop
abbrev St:=List (Option V)
abbrev VK:=V->Hp->Prop
abbrev TE:=St->Hp->VK->Prop
abbrev TT:=St->Hp->(Bool->Hp->Prop)->Prop
abbrev TA:=St->Hp->(List V->Hp->Prop)->Prop
structure Ends where
 nx:St->Hp->Prop
 rt:VK
 bk:St->Hp->Prop:=λ_ _=>False
 ct:St->Hp->Prop:=λ_ _=>False
abbrev TS:=Ends->St->Hp->Prop
def EP (X:Cx)(aq:AC)(σ:St)(Q:VK)(u:Value)(s':Shared):Prop:=∃v H',aJ X aq σ H' s'/\bJ v u/\Q v H'
def TP (X:Cx)(aq:AC)(σ:St)(Q:Bool->Hp->Prop)(b:Bool)(s':Shared):Prop:=∃H',aJ X aq σ H' s'/\Q b H'
def AP (X:Cx)(aq:AC)(σ:St)(Q:List V->Hp->Prop)(us:List Value)(s':Shared):Prop:=∃vs H',aJ X aq σ H' s'/\Vals vs us/\Q vs H'
def SP (X:Cx)(aq:AC)(D:Ends)(f:Flow)(s':Shared):Prop:=match f with| .next=>∃σ' H',aJ X aq σ' H' s'/\D.nx σ' H'| .brk=>∃σ' H',aJ X aq σ' H' s'/\D.bk σ' H'| .cont=>∃σ' H',aJ X aq σ' H' s'/\D.ct σ' H'| .ret u=>∃v σ' H',aJ X aq σ' H' s'/\bJ v u/\D.rt v H'
def PE (X:Cx)(e:Expr)(t:TE):Prop:=∀(aq:AC) (s:Shared) (σ:St) (H:Hp) (Q:VK),aJ X aq σ H s->t σ H Q->wpAny (model X.prog X.w) X.A (eval e X.env) (EP X aq σ Q) X.xe s
def PT (X:Cx)(e:Expr)(t:TT):Prop:=∀(aq:AC) (s:Shared) (σ:St) (H:Hp) (Q:Bool->Hp->Prop),aJ X aq σ H s->t σ H Q->wpAny (model X.prog X.w) X.A (isTrue e X.env (eval e X.env)) (TP X aq σ Q) X.xe s
def PW (X:Cx)(e:Expr)(t:TT):Prop:=∀(whole:Sem Value) (aq:AC) (s:Shared) (σ:St) (H:Hp) (Q:Bool->Hp->Prop),aJ X aq σ H s->t σ H Q->wpAny (model X.prog X.w) X.A (isTrue e X.env whole) (TP X aq σ Q) X.xe s
def PW.pt (h:PW X e t):PT X e t:=h _
def PA (X:Cx)(es:List Expr)(t:TA):Prop:=∀(pos:Pos) (aq:AC) (s:Shared) (σ:St) (H:Hp) (Q:List V->Hp->Prop),aJ X aq σ H s->t σ H Q->wpAny (model X.prog X.w) X.A (spliced (backTo pos (starEach es X.env))) (AP X aq σ Q) X.xe s
def PS (X:Cx)(st:Stmt)(t:TS):Prop:=∀(aq:AC) (s:Shared) (σ:St) (H:Hp) (D:Ends),aJ X aq σ H s->t D σ H->wpAny (model X.prog X.w) X.A (exec st X.env) (SP X aq D) X.xe s
def rD (X:Cx)(st:List Stmt)(t:TS):Prop:=∀(aq:AC) (s:Shared) (σ:St) (H:Hp) (D:Ends),aJ X aq σ H s->t D σ H->wpAny (model X.prog X.w) X.A (execs st X.env) (SP X aq D) X.xe s
def bH {α:Type}{t:Sem α}{Q Q':α->Shared->Prop}(h:wpAny M A t Q E s)(hQ:∀a s,Q a s->Q' a s):wpAny M A t Q' E s:=fm h hQ λ_ _ x=>x
section
variable {X:Cx}
def eO (i:Nat):TE:=λσ H Q=>∃v,σ[i]?=some (some v)/\Q v H
def tC (v:V):TE:=λ_ H Q=>Q v H
def acX {i:Nat}{x:Str}{pos:Pos}(hN:X.N[i]?=some x)(hv:UW X.env.scope x)(hd:(x==("__debug__":Str))=false:=by decide)(hcd:(x==("__classdict__":Str))=false:=by decide):PE X (.Name x pos) (eO i):=by
 intro aq s σ H Q I h;obtain⟨v,e,h⟩:=h;obtain⟨m,hn,hl⟩:=I.loc;obtain⟨u,r,l⟩:=hl i x v hN e hv;have fin:EP X aq σ Q u s:=⟨v,H,I,r,h⟩
 rcases l with⟨hk,hm⟩|⟨hk,c,hc,hcell⟩;.exact o0 (rV I.ok.kind hk hn hm fin) hd
 .rcases hk with hk|hk;.exact o0 (wpAny_loadName_cell I.ok.kind hk hc hcell fin) hd
  .exact o0 (wpAny_loadName_free I.ok.kind hk hc hcell fin hcd) hd
def acY {i j pos}:PE X (.Constant (.int i) j pos) (tC (.int i)):=λ_ _ _ H _ I h=>tm ⟨.int i,H,I.tok _,⟨_,rfl⟩,h⟩
def afE {b j pos}:PE X (.Constant (.bool b) j pos) (tC (.bl b)):=λ_ _ _ H _ I h=>Constant_bool ⟨.bl b,H,I,rfl,h⟩
def acZ {x j pos}:PE X (.Constant (.str x) j pos) (tC (.str x)):=λ_ _ _ H _ I h=>mw ⟨.str x,H,I.tok _,⟨_,rfl⟩,h⟩
def Gl (X:Cx)(x:Str):Prop:=X.env.kindOf x=some .globalImplicit
def Af {E:AB}{aq:AC}{s:Shared}{σ:St}{H:Hp}{x:Str}{u:Value}{pos:Pos}{Q:AB}(I:aJ X aq σ H s)(hg:Gl X x)(hm:X.mg x=some u)(h:Q u s)(hd:(x==("__debug__":Str))=false:=by decide):wpAny (model X.prog X.w) X.A (eval (.Name x pos) X.env) Q E s:=Calls.Name_function_global I.ok.kind hg (Calls.loadGlobal_global (by rw[I.ok.glob];exact I.mod.glob.keeps I.bk) hm h) hd
def nU {E:AB}{aq:AC}{s:Shared}{σ:St}{H:Hp}{x:Str}{u:Value}{pos:Pos}{Q:AB}(I:aJ X aq σ H s)(hg:Gl X x)(hm:X.mg x=none)(hv:bootBuiltins x=some u)(h:Q u s)(hn:x≠"__name__":=by decide)(hd:(x==("__debug__":Str))=false:=by decide):wpAny (model X.prog X.w) X.A (eval (.Name x pos) X.env) Q E s:=by obtain⟨mb,h1,h2⟩:=I.mod.blt;exact Calls.Name_function_global I.ok.kind hg (Calls.loadGlobal_builtin (by rw[I.ok.glob];exact I.mod.glob.keeps I.bk) hm (by rw[I.ok.blt];exact h1.keeps I.bk) ((h2 x hn).trans hv) h) hd
def aa7 (hg:Gl X x)(hm:X.mg x=some u)(r:bJ v u)(hd:(x==("__debug__":Str))=false:=by decide):PE X (.Name x pos) (tC v):=λ_ _ _ H _ I h=>Af I hg hm ⟨v,H,I,r,h⟩ hd
def aa8 {x:Str}{v:V}{u:Value}{pos:Pos}(hg:Gl X x)(hm:X.mg x=none)(hv:bootBuiltins x=some u)(r:bJ v u)(hn:x≠"__name__":=by decide)(hd:(x==("__debug__":Str))=false:=by decide):PE X (.Name x pos) (tC v):=λ_ _ _ H _ I h=>nU I hg hm hv ⟨v,H,I,r,h⟩ hn hd
variable {a b:Expr}{ta tb:TE}{pos:Pos}
def PC (X:Cx)(op:CmpOp)(a b:Expr)(t:TE):Prop:=∀(aq:AC) (s:Shared) (σ:St) (H:Hp) (Q:VK),aJ X aq σ H s->t σ H Q->
  wpAny (model X.prog X.w) X.A (eval a X.env) (λv s₁=>wpAny (model X.prog X.w) X.A (eval b X.env) (λu s₂=>wpAny (model X.prog X.w) X.A (compareOp op v u) (EP X aq σ Q) X.xe s₂) X.xe s₁) X.xe s
def tB (t:TE):TT:=λσ H Q=>t σ H λx H1=>∃c,x=.bl c/\Q c H1
def ac0 (h:PC X op a b t)(h1:behindInMarks op b=false:=by first|exact Ym _ vS vS|rfl):PE X (.Compare a [op] [b] pos) t:=λaq s σ H Q I hw=>wpAny_Compare1 (h aq s σ H Q I hw) h1
def ac1 (h:PE X e t)(he:∀whole,isTrue e X.env whole=(do let v <- whole;standAt e.pos;holding [v] (truthy v)):=by intro _;rfl):PT X e (tB t):=by intro aq s σ H Q I hw;refine isTrue_plain (bH (h aq s σ H _ I hw) λv s1 zz=>?_) (he _);obtain⟨x,H1,I1,r1,q1⟩:=zz;obtain⟨d,rfl,q⟩:=q1;cases r1;exact ee ⟨H1,I1,q⟩
variable {tA mF:TT}{rest:List Expr}
def ac2 (t u:TT):TT:=λσ H Q=>t σ H λc H1=>if c=true then u σ H1 Q else Q false H1
def tOr (t u:TT):TT:=λσ H Q=>t σ H λc H1=>if c=true then Q true H1 else u σ H1 Q
def ac3 (t:TT):TT:=λσ H Q=>t σ H λc H1=>Q (!c) H1
def aa9 (ha:PT X a tA):PW X (.BoolOp .And [a] pos) tA:=by
 intro wh aq s σ H Q I h;refine isTrue_and (bH (ha aq s σ H Q I h) λc s1 e=>?_);cases c with| true=>exact isTrue_and_nil e| false=>exact e
def ac4 (ha:PT X a tA):PW X (.BoolOp .Or [a] pos) tA:=by
 intro wh aq s σ H Q I h;refine isTrue_or (bH (ha aq s σ H Q I h) λc s1 e=>?_);cases c with| false=>exact isTrue_or_nil e| true=>exact e
def ac5 (ha:PT X a tA)(hb:PW X (.BoolOp .And (b::rest) pos) mF):PW X (.BoolOp .And (a::b::rest) pos) (ac2 tA mF):=by
 intro wh aq s σ H Q I h;refine isTrue_and (bH (ha aq s σ H _ I h) λc s1 zz=>?_);obtain⟨H1,I1,q1⟩:=zz;cases c with| true=>exact hb wh aq s1 σ H1 Q I1 q1| false=>exact⟨H1,I1,q1⟩
def afF (ha:PT X a tA)(hb:PW X (.BoolOp .Or (b::rest) pos) mF):PW X (.BoolOp .Or (a::b::rest) pos) (tOr tA mF):=by
 intro wh aq s σ H Q I h;refine isTrue_or (bH (ha aq s σ H _ I h) λc s1 zz=>?_);obtain⟨H1,I1,q1⟩:=zz;cases c with| true=>exact⟨H1,I1,q1⟩| false=>exact hb wh aq s1 σ H1 Q I1 q1
def ac6 (ha:PT X a tA):PT X (.UnaryOp .Not a pos) (ac3 tA):=by intro aq s σ H Q I h;exact isTrue_not (ha aq s σ H (λc H1=>Q (!c) H1) I h)
def aaD (ta tb:TE):TE:=λσ H Q=>ta σ H λx H1=>∃c,x=.bl c/\if c=true then tb σ H1 Q else Q (.bl false) H1
def ac7 (ta tb:TE):TE:=λσ H Q=>ta σ H λx H1=>∃c,x=.bl c/\if c=true then Q (.bl true) H1 else tb σ H1 Q
def aaE (ta:TE):TE:=λσ H Q=>ta σ H λx H1=>∃c,x=.bl c/\Q (.bl (!c)) H1
def ac8 {op}(h:PE X a t):PE X (.BoolOp op [a] pos) t:=λaq s σ H Q I hw=>BoolOp_one (h aq s σ H Q I hw)
def ac9 (ha:PE X a ta)(hb:PE X (.BoolOp .And (b::rest) pos) tb):PE X (.BoolOp .And (a::b::rest) pos) (aaD ta tb):=by
 intro aq s σ H Q I h;refine BoolOp_and (bH (ha aq s σ H _ I h) λv s1 zz=>?_);obtain⟨x,H1,I1,r1,q1⟩:=zz;obtain⟨c,rfl,q1⟩:=q1;cases r1;refine ee ?_;cases c with| true=>exact hb aq s1 σ H1 Q I1 q1| false=>exact⟨.bl false,H1,I1,rfl,q1⟩
def afG (ha:PE X a ta)(hb:PE X (.BoolOp .Or (b::rest) pos) tb):PE X (.BoolOp .Or (a::b::rest) pos) (ac7 ta tb):=by
 intro aq s σ H Q I h;refine BoolOp_or (bH (ha aq s σ H _ I h) λv s1 zz=>?_);obtain⟨x,H1,I1,r1,q1⟩:=zz;obtain⟨c,rfl,q1⟩:=q1;cases r1;refine ee ?_;cases c with| false=>exact hb aq s1 σ H1 Q I1 q1| true=>exact⟨.bl true,H1,I1,rfl,q1⟩
def ac_ (ha:PE X a ta):PE X (.UnaryOp .Not a pos) (aaE ta):=by intro aq s σ H Q I h;refine UnaryOp_ (bH (ha aq s σ H _ I h) λv s1 zz=>?_);obtain⟨x,H1,I1,r1,q1⟩:=zz;obtain⟨c,rfl,q1⟩:=q1;cases r1;exact not_of (ee ⟨.bl (!c),H1,I1,rfl,q1⟩)
def tIf (t:TT)(ta tb:TE):TE:=λσ H Q=>t σ H λc H1=>if c=true then ta σ H1 Q else tb σ H1 Q
def Yn (hc:PT X c tA)(ha:PE X a ta)(hb:PE X b tb):PE X (.IfExp c a b pos) (tIf tA ta tb):=by
 intro aq s σ H Q I h;refine wpAny_IfExp (bH (hc aq s σ H _ I h) λd s1 zz=>?_);obtain⟨H1,I1,q1⟩:=zz;cases d with| true=>exact ha aq s1 σ H1 Q I1 q1| false=>exact hb aq s1 σ H1 Q I1 q1
end
def aQ (K:W.Frag)(H:Hp)(a:Addr)(xs:List V):Prop:=Rd H a (.lst xs)\/
  ∃(o:Obj) (its:Array Value) (n:Nat),K.lookup a=some o/\o.cls=.type "list"/\o.dict=none/\o.data=.seq its n/\its.size<=sizeLine/\Vals xs its.toList
def aU (K:W.Frag)(H:Hp)(a:Addr)(xs:List V):Prop:=Rd H a (.tup xs)\/
  ∃(o:Obj) (its:Array Value) (n:Nat),K.lookup a=some o/\o.cls=.type "tuple"/\o.data=.seq its n/\its.size<=sizeLine/\Vals xs its.toList
noncomputable def agk:Value->Option V
 | .none=>some .non
 | .bool b=>some (.bl b)
 | .int i _=>some (.int i)
 | .str x _=>some (.str x)
 | .bytes b _=>some (.yx b)
 | .float b _=>some (.flt b)
 | .ref a=>some (.ref a)
 | .type n=>some (.ty n)
 | _=>none
def bJ.abs (r:bJ x u):agk u=some x:=by
 cases x with
 | non=>cases r;rfl
 | bl _=>cases r;rfl
 | int _=>obtain⟨t,rfl⟩:=r;rfl
 | str _=>obtain⟨t,rfl⟩:=r;rfl
 | yx _=>obtain⟨t,rfl⟩:=r;rfl
 | flt _=>obtain⟨t,rfl⟩:=r;rfl
 | ref _=>cases r;rfl
 | ty _=>cases r;rfl
def bJ.inj (r:bJ x u)(q:bJ y u):x=y:=ax (r.abs.symm.trans q.abs)
theorem Vals.inj:∀{xs ys:List V} {us:List Value},Vals xs us->Vals ys us->xs=ys
 | _,_,_,.nil,.nil=>rfl
 | _,_,_,.cons r t,.cons r' t'=>by rw[r.inj r',Vals.inj t t']
section
variable {X:Cx}{aq:AC}{σ:St}{H:Hp}{s:Shared}{a:Addr}{xs ys:List V}
def aQ.of {K:W.Frag}(h:H a=some (.lst xs)):aQ K H a xs:=.inl (.inl h)
def aU.of {K:W.Frag}(h:H a=some (.tup xs)):aU K H a xs:=.inl (.inl h)
def aJ.list (I:aJ X aq σ H s)(h:aQ X.K H a xs):∃its:List Value,Vals xs its/\PlainL s.heap a its.toArray/\xs.length<=sizeLine:=by
 rcases h with h|⟨o,its,n,hk,hc,hd,hs,hz,r⟩
 .obtain⟨z,its,n,r,e⟩:=h.ok I.hok;exact⟨its,r,⟨_,n,e,rfl,rfl,rfl⟩,z⟩
 .refine⟨its.toList,r,⟨o,n,I.jq a o hk,hc,hd,by simpa using hs⟩,?_⟩;have e:=r.length;simp only[bo]at e;lia
def aJ.tuple (I:aJ X aq σ H s)(h:aU X.K H a xs):∃its:List Value,Vals xs its/\IsTup s.heap a its.toArray/\xs.length<=sizeLine:=by
 rcases h with h|⟨o,its,n,hk,hc,hs,hz,r⟩
 .obtain⟨z,its,r,p⟩:=h.ok I.hok;exact⟨its,r,p,z⟩
 .refine⟨its.toList,r,⟨o,I.jq a o hk,hc,n,by simpa using hs⟩,?_⟩;have e:=r.length;simp only[bo]at e;lia
def aJ.Cp (I:aJ X aq σ H s)(h:aQ X.K H a xs)(h':aQ X.K H a ys):xs=ys:=by
 obtain⟨its,r,⟨o,n,e,_,_,d⟩,_⟩:=I.list h;obtain⟨its',r',⟨o',n',e',_,_,d'⟩,_⟩:=I.list h';rw[e]at e';cases e';rw[d]at d';injection d' with d1 _;have:its=its':=by simpa using congrArg Array.toList d1
 subst this;exact r.inj r'
def aJ.Ig (I:aJ X aq σ H s)(h:aU X.K H a xs)(h':aU X.K H a ys):xs=ys:=by
 obtain⟨its,r,⟨o,e,_,n,d⟩,_⟩:=I.tuple h;obtain⟨its',r',⟨o',e',_,n',d'⟩,_⟩:=I.tuple h';rw[e]at e';cases e';rw[d]at d';injection d' with d1 _;have:its=its':=by simpa using congrArg Array.toList d1
 subst this;exact r.inj r'
end
abbrev Cx.wish (X:Cx)(E:AB):Cx:={X with xe:=E}
abbrev Cx.Ih (X:Cx):Cx:=X.wish λ_ _=>False
def Cx.Ok.wish {X:Cx}(ok:X.Ok)(E:AB):(X.wish E).Ok:=⟨ok.mod,ok.kind,ok.glob,ok.blt,ok.above,ok.inj,ok.has,ok.cab,ok.hd,ok.frames,ok.stk,ok.exf,ok.bs,ok.DG,ok.Kz,ok.RL,ok.qN,ok.KC⟩
def Cx.Ok.qw {X:Cx}(ok:(X.wish E).Ok):X.Ok:=⟨ok.mod,ok.kind,ok.glob,ok.blt,ok.above,ok.inj,ok.has,ok.cab,ok.hd,ok.frames,ok.stk,ok.exf,ok.bs,ok.DG,ok.Kz,ok.RL,ok.qN,ok.KC⟩
section
variable {X:Cx}{aq:AC}{σ:St}{H:Hp}{s:Shared}{E:AB}
def aJ.wish (I:aJ X aq σ H s)(E:AB):aJ (X.wish E) aq σ H s:=⟨I.ok.wish E,I.os,I.bare,I.base,I.loc,I.cell,I.free,I.nT,I.pin,I.hok,I.len⟩
def aJ.qw (I:aJ (X.wish E) aq σ H s):aJ X aq σ H s:=⟨I.ok.qw,I.os,I.bare,I.base,I.loc,I.cell,I.free,I.nT,I.pin,I.hok,I.len⟩
def SP.qw (h:SP (X.wish E) aq D f s'):SP X aq D f s':=by
 cases f with
 | next=>obtain⟨σ',H',I,q⟩:=h;exact⟨σ',H',I.qw,q⟩
 | brk=>obtain⟨σ',H',I,q⟩:=h;exact⟨σ',H',I.qw,q⟩
 | cont=>obtain⟨σ',H',I,q⟩:=h;exact⟨σ',H',I.qw,q⟩
 | ret u=>obtain⟨v,σ',H',I,r,q⟩:=h;exact⟨v,σ',H',I.qw,r,q⟩
def rD.Ih {st:List Stmt}(h:rD X.Ih st t):rD X st t:=λaq s σ H D I hw=>fm (h aq s σ H D (I.wish _) hw) (λ_ _ q=>q.qw) λ_ _ z=>False.elim z
end
section
variable {X:Cx}{st:Stmt}{rest:List Stmt}{t u:TS}{e:Expr}{te:TE}{pos:Pos}
def aaF:TS:=λD σ H=>D.nx σ H
def ada (t u:TS):TS:=λD σ H=>t {D with nx:=u D} σ H
def aa_:rD X [] aaF:=λ_ _ σ H _ I h=>im ⟨σ,H,I,h⟩
def Yo (h1:PS X st t)(h2:rD X rest u):rD X (st::rest) (ada t u):=by
 intro aq s σ H D I h;refine kR (bH (h1 aq s σ H {D with nx:=u D} I h) λf s1 q=>?_);cases f with
 | next=>obtain⟨σ',H',I',q⟩:=q;exact h2 aq s1 σ' H' D I' q
 | ret v=>exact q
 | brk=>exact q
 | cont=>exact q
def abb (h1:PS X st t):rD X [st] t:=by
 intro aq s σ H D I h;refine kR (bH (h1 aq s σ H D I h) λf s1 q=>?_);cases f with| next=>exact im q| ret v=>exact q| brk=>exact q| cont=>exact q
def aJ.quiet {aq:AC}{σ:St}{H:Hp}{s:Shared}(I:aJ X aq σ H s):interactive X.env=false:=by simp[interactive,I.ok.kind]
def DK (te:TE):TS:=λD σ H=>te σ H λ_ H1=>D.nx σ H1
def abd (he:PE X e te)(hs:swapsWith e none pos.line X.env=pure false:=by rfl):PS X (.Expr e pos) (DK te):=by intro aq s σ H D I h;exact wpAny_Expr_any (bH (he aq s σ H _ I h) λv s1 ⟨x,H1,I1,r1,q1⟩=>⟨σ,H1,I1,q1⟩) I.quiet hs
def RM (te:TE):TS:=λD σ H=>te σ H D.rt
def adb (he:PE X e te):PS X (.Return (some e) pos) (RM te):=by intro aq s σ H D I h;exact wpAny_Return_some (bH (he aq s σ H _ I h) λv s1 ⟨x,H1,I1,r1,q1⟩=>⟨x,σ,H1,I1,r1,q1⟩)
def ade (c:TT)(t u:TS):TS:=λD σ H=>c σ H λb H1=>if b=true then t D σ H1 else u D σ H1
def afH (hc:PT X c tc)(ha:rD X a t)(hb:rD X b u):PS X (.If c a b pos) (ade tc t u):=by
 intro aq s σ H D I h;refine wpAny_If (bH (hc aq s σ H _ I h) λd s1 zz=>?_);obtain⟨H1,I1,q1⟩:=zz;cases d with| true=>exact ha aq s1 σ H1 D I1 q1| false=>exact hb aq s1 σ H1 D I1 q1
def U4:TS:=λ_ _ _=>False
def U5:rD X sts U4:=λ_ _ _ _ _ _ h=>h.elim
end
abbrev TG:=V->St->Hp->(St->Hp->Prop)->Prop
abbrev Ii:=List V->St->Hp->(St->Hp->Prop)->Prop
def PG (X:Cx)(target:Expr)(t:TG):Prop:=∀(aq:AC) (s:Shared) (σ:St) (H:Hp) (v:V) (u:Value) (Q:St->Hp->Prop),aJ X aq σ H s->bJ v u->t v σ H Q->
  wpAny (model X.prog X.w) X.A (assign target X.env u) (λ_ s'=>∃σ' H',aJ X aq σ' H' s'/\Q σ' H') X.xe s
def U6 (X:Cx)(ts:List Expr)(t:Ii):Prop:=∀(aq:AC) (s:Shared) (σ:St) (H:Hp) (vs:List V) (us:List Value) (Q:St->Hp->Prop),aJ X aq σ H s->Vals vs us->t vs σ H Q->
  wpAny (model X.prog X.w) X.A (assignInOrder ((assignEach ts X.env).map (·.2)) us) (λ_ s'=>∃σ' H',aJ X aq σ' H' s'/\Q σ' H') X.xe s
abbrev adf:=V->V->V->Hp->(Hp->Prop)->Prop
def Yp (X:Cx)(t:adf):Prop:=∀(aq:AC) (s:Shared) (σ:St) (H:Hp) (o i v:V) (ov iv u:Value) (Q:Hp->Prop),aJ X aq σ H s->bJ o ov->bJ i iv->bJ v u->t o i v H Q->
  wpAny (model X.prog X.w) X.A (setItem ov iv u) (λ_ s'=>∃H',aJ X aq σ H' s'/\Q H') X.xe s
section
variable {X:Cx}{pos:Pos}
def nW (i:Nat):TG:=λv σ H Q=>Q (σ.set i (some v)) H
def pD (hN:X.N.Nodup)(hi:X.N[i]?=some x)(hx:Loc X.env.scope x)(hf:X.fn x=true\/X.env.scope.names.lookup x=some .local:=by first|exact .inl rfl|exact .inr rfl|assumption):PG X (.Name x pos) (nW i):=by intro aq s σ H v u Q I r h;exact tI (Cm I hN hi hx r (λs' I'=>⟨_,H,I',h⟩) hf)
def RN:Ii:=λvs σ H Q=>vs=[]/\Q σ H
def wH (t:TG)(u:Ii):Ii:=λvs σ H Q=>∃v r,vs=v::r/\t v σ H λσ' H'=>u r σ' H' Q
def Gp:U6 X [] RN:=by intro aq s σ H vs us Q I r h;obtain⟨e,h⟩:=h;subst e;cases r;exact assignInOrder_nil ⟨σ,H,I,h⟩
def pF (h1:PG X e t)(h2:U6 X es u)(hs:(assignEach (e::es) X.env).map (·.2)=assign e X.env::(assignEach es X.env).map (·.2):=by rfl):U6 X (e::es) (wH t u):=by
 intro aq s σ H vs us Q I r h;obtain⟨v,vr,e1,h⟩:=h;subst e1;cases r with| cons r rr=>rw[hs];refine assignInOrder_cons (bH (h1 aq s σ H _ _ _ I r h) λ_ s1 zz=>?_);obtain⟨σ1,H1,I1,q1⟩:=zz;exact h2 aq s1 σ1 H1 _ _ Q I1 rr q1
def RP (K:W.Frag)(n:Nat)(t:Ii):TG:=λv σ H Q=>∃a xs,v=.ref a/\aU K H a xs/\xs.length=n/\t xs σ H Q
def KJ {es:List Expr}{k:Nat}{t:Ii}{n:Nat}(hc:X.calm=true)(h:U6 X es t)(hn:(assignEach es X.env).length=n:=by rfl)(hst:(assignEach es X.env).findIdx? (·.1)=none:=by rfl):PG X (.Tuple es k pos) (RP X.K n t):=by intro aq s σ H v u Q I r hw;obtain⟨a,xs,e1,hq,hl,hw⟩:=hw;subst e1;cases r;obtain⟨its,rv,ht,hz⟩:=I.tuple hq;refine assign_Tuple_tuple (I.ok.hd hc) ht (by simp[hn,<-hl,rv.length]) hst λh' hx=>?_;have I1:aJ X aq σ H {s with heap:=h' }:=I.kept (t':=s.toks) λb o e=>hx b o (be (a7 e)) e;exact h aq _ σ H xs _ Q I1 (by simpa using rv) hw
def adg (to ti:TE)(t:adf):TG:=λv σ H Q=>to σ H λo H1=>ti σ H1 λi H2=>t o i v H2 λH3=>Q σ H3
def adh (ho:PE X o to)(hi:PE X i ti)(hs:Yp X t)(ha:∀v,assign (.Subscript o i pos) X.env v=(do
   let ov <- holding [v] (eval o X.env)
   let iv <- holding [v,ov] (eval i X.env)
   standAt pos
   holding [v,ov,iv] (setItem ov iv v)
   release [v,ov,iv] []):=by intro _;rfl):PG X (.Subscript o i pos) (adg to ti t):=by
 intro aq s σ H v u Q I r h;rw[ha];refine ab (eW (bH (ho aq s σ H _ I h) λov s1 zz=>?_));obtain⟨x,H1,I1,r1,q1⟩:=zz;refine ab (eW (bH (hi aq s1 σ H1 _ I1 q1) λiv s2 zz=>?_));obtain⟨y,H2,I2,r2,q2⟩:=zz;refine ab (qS (ab (eW (bH (hs aq s2 σ H2 x y v ov iv u _ I2 r1 r2 r q2) λ_ s3 zz=>?_))));obtain⟨H3,I3,q3⟩:=zz;exact wpAny_release ⟨σ,H3,I3,q3⟩
def Gq (te:TE)(g:TG):TS:=λD σ H=>te σ H λx H1=>g x σ H1 D.nx
def adi (he:PE X e te)(hg:PG X tg g)(hs:swapsWithSole [tg] e pos.line X.env=pure false:=by rfl)(hw:swappedStores [tg] e X.env=pure none:=by rfl)(h1:(assignEach [tg] X.env).map (·.2)=[assign tg X.env]:=by rfl):PS X (.Assign [tg] e pos) (Gq te g):=by intro aq s σ H D I h;refine wpAny_Assign_stores (bH (he aq s σ H _ I h) λv s1 zz=>?_) hs hw;obtain⟨x,H1,I1,r1,q1⟩:=zz;rw[h1];exact bH (hg aq s1 σ H1 x v _ I1 r1 q1) λ_ s2 q=>q
def adk (hN:X.N.Nodup)(hi:X.N[i]?=some x)(hx:Loc X.env.scope x)(he:PE X e te)(hs:swapsWith e (some (.Name x pos')) pos.line X.env=pure false:=by rfl)(hf:X.fn x=true\/X.env.scope.names.lookup x=some .local:=by first|exact .inl rfl|exact .inr rfl|assumption):PS X (.Assign [.Name x pos'] e pos) (Gq te (nW i)):=by intro aq s σ H D I h;refine tJ (bH (he aq s σ H _ I h) λv s1 zz=>?_) hs;obtain⟨y,H1,I1,r1,q1⟩:=zz;exact Cm I1 hN hi hx r1 (λs2 I2=>⟨_,H1,I2,q1⟩) hf
def U7 (c:TT)(tb:TS):TS:=λD σ H=>∃W:Nat->St->Hp->Prop,(∃m,W m σ H)/\∀m σ H,W m σ H->
 c σ H λb H1=>if b=true then ∃N:St->Hp->Prop,(∀σ' H',N σ' H'->∃m',m'<m/\W m' σ' H')/\tb {D with nx:=N,ct:=N,bk:=D.nx} σ H1 else D.nx σ H1
def Yq (hp:PassesOwn (model X.prog X.w) X.A X.env X.xe)(hc:PT X c tc)(hb:rD X body tb):PS X (.While c body [] pos) (U7 tc tb):=by
 intro aq s σ H D I h;obtain⟨W,⟨m0,w0⟩,turn⟩:=h;refine wpAny_While (codeAny_whileLoop (λn s'=>∃σ' H',aJ X aq σ' H' s'/\W n σ' H') ?_ m0 ⟨σ,H,I,w0⟩);rintro n s1 ⟨σ1,H1,I1,w1⟩;refine fo hp (bH (hc aq s1 σ1 H1 _ I1 (turn n σ1 H1 w1)) λb s2 zz=>?_);obtain⟨H2,I2,q2⟩:=zz;cases b with
 | true=>
  obtain⟨N,hN,q2⟩:=q2;rw[if_pos rfl];refine fo hp (bH (hb aq s2 σ1 H2 _ I2 q2) λf s3 q3=>?_);cases f with
  | next=>obtain⟨σ3,H3,I3,n3⟩:=q3;obtain⟨m',hm,w3⟩:=hN σ3 H3 n3;exact⟨m',hm,σ3,H3,I3,w3⟩
  | cont=>obtain⟨σ3,H3,I3,n3⟩:=q3;obtain⟨m',hm,w3⟩:=hN σ3 H3 n3;exact⟨m',hm,σ3,H3,I3,w3⟩
  | brk=>exact q3
  | ret v=>exact q3
 | false=>rw[if_neg bX];exact im ⟨σ1,H2,I2,q2⟩
end
structure It where
 go:Nat->Hp->Prop
 Ij:Nat->Hp->V->Hp->Prop
 stop:Nat->Hp->Prop
def nu (X:Cx)(aq:AC)(H:Hp)(b:Addr):Prop:=H b=none/\b≠X.env.locals/\b∉X.fs/\(b∈X.ex\/X.s₀.heap.objs.size<=b)/\(∀x c,X.env.cells.lookup x=some c->c≠b)/\∀p∈X.pn++aq,p.1≠b
def aJ.mC {X:Cx}{aq:AC}{σ:St}{H H':Hp}{s:Shared}{b:Addr}(I:aJ X aq σ H s)(hb:s.heap.objs.size<=b)(hn:H' b=none):nu X aq H' b:=by
 refine⟨hn,ki (bq I.lt hb),I.agi hb,.inr (a9 I.sz hb),λx c e z=>?_,λp hp z=>?_⟩
 .obtain⟨v,q⟩:=I.cell x c e;exact absurd (bq q.lt (by rw[z];exact hb)) (hG _)
 .exact absurd (bq (a7 (I.pin p hp).1) (by rw[z];exact hb)) (hG _)
structure Turn (P:Program)(w:World)(K:W.Frag)(tg:Expr)(J:It)(fp:List Addr)(it:Addr)(tn:Nat->Heap->Prop):Prop where
 mem:it∈fp
 obj:∀i h,tn i h->∀b∈fp,∃o,h.get? b=some o/\∀v,o.data≠.cell v
 keep:∀i h h',tn i h->(∀b∈fp,∀o,h.get? b=some o->h'.get? b=some o)->tn i h'
 item:∀(X:Cx),X.prog=P->X.w=w->X.K=K->X.calm=true->∀(i:Nat) (aq:AC) (s:Shared) (σ:St) (H:Hp) (E:AB),aJ X aq σ H s->(∀b∈fp,nu X aq H b)->tn i s.heap->J.go i H->
  wpAny (model P w) X.A (pyNext (.ref it)) (λr s1=>∃u,r=some u/\
   wpAny (model P w) X.A (letOwnedTupleGo tg (.ref it) u) (λ_ s2=>∃x H',aJ X aq σ H' s2/\bJ x u/\J.Ij i H x H'/\tn (i+1) s2.heap/\∀b∈fp,H' b=none) E s1) E s
 done:∀(X:Cx),X.prog=P->X.w=w->X.K=K->X.calm=true->∀(i:Nat) (aq:AC) (s:Shared) (σ:St) (H:Hp) (E:AB),aJ X aq σ H s->(∀b∈fp,nu X aq H b)->tn i s.heap->J.stop i H->
  wpAny (model P w) X.A (pyNext (.ref it)) (λr s1=>r=none/\aJ X aq σ H s1) E s
 self:∀(A:Around) (i:Nat) (s:Shared) (Q:AB) (E:AB),tn i s.heap->Q (.ref it) s->wpAny (model P w) A (pyIter (.ref it)) Q E s
abbrev TI:=St->Hp->(It->Hp->Prop)->Prop
def PIE (X:Cx)(aq:AC)(σ:St)(tg:Expr)(R:It->Hp->Prop)(itv:Value)(s2:Shared):Prop:=∃(it:Addr) (fp:List Addr) (tn:Nat->Heap->Prop) (J:It) (H':Hp),itv=.ref it/\aJ X aq σ H' s2/\Turn X.prog X.w X.K tg J fp it tn/\tn 0 s2.heap/\(∀b∈fp,nu X aq H' b)/\R J H'
def PI (X:Cx)(tg iter:Expr)(wi:TI):Prop:=∀(aq:AC) (s:Shared) (σ:St) (H:Hp) (R:It->Hp->Prop),aJ X aq σ H s->wi σ H R->
  wpAny (model X.prog X.w) X.A (eval iter X.env) (λv s1=>wpAny (model X.prog X.w) X.A (pyIter v) (PIE X aq σ tg R) X.xe s1) X.xe s
def DN {s : Shared}(ho : s.heap.get? it = some o)(hc : o.cls = .type n)(hd : o.data = .fields vs)(hn : ["enumerate", "zip", "dict_itemiterator", "dict_reverseitemiterator", "odict_iterator", "itertools.zip_longest", "itertools.pairwise"].contains n = false)(hQ : Q () s) : wpAny M A (letOwnedTupleGo tg (.ref it) u) Q E s := by
  unfold letOwnedTupleGo;cases tg <;> first
    | exact ah hQ
    | (cases u <;> first
        | exact ah hQ
        | (refine ab (wpAny_load ho ?_)
           rw[hc, hd];show wpAny M A (if (["enumerate", "zip", "dict_itemiterator", "dict_reverseitemiterator", "odict_iterator", "itertools.zip_longest", "itertools.pairwise"].contains n&&vs[0]? == some (rawInt _)) = true then _ else _) Q E s;rw[if_neg (by intro h; rw[hn, jI]at h; cases h)];exact ah hQ))
abbrev ItS (Sq:Hp->List V->Prop):It:=⟨λi H=>∃xs x,Sq H xs/\xs[i]?=some x,λi H x H'=>H'=H/\∀xs,Sq H xs->xs[i]?=some x,λi H=>∃xs,Sq H xs/\xs.length<=i⟩
def Itl (K:W.Frag)(a:Addr):It:=ItS λH=>aQ K H a
def Itt (K:W.Frag)(a:Addr):It:=ItS λH=>aU K H a
def U8 (lo:Int)(n:Nat):It:=⟨λi _=>i<n,λi H x H'=>H'=H/\x=.int (lo+i),λi _=>n<=i⟩
def U9 {P:Program}{w:World}{K:W.Frag}{tg:Expr}(a it:Addr):Turn P w K tg (Itl K a) [it] it (λi h=>h.IsListIter it a i) where
 mem:=by simp
 obj:=λi h st b hb=>by
  have e:b=it:=by simpa using hb
  subst e;obtain⟨o,e,c,d⟩:=st;exact⟨o,e,λv z=>by rw[d]at z;cases z⟩
 keep:=λi h h' st k=>st.at λo e=>k it vF o e
 item:=by intro X hP hw hK hc i aq s σ H E I hf st hg;subst hP hw hK;obtain⟨xs,x,hq,hx⟩:=hg;obtain⟨its,rv,p,hz⟩:=I.list hq;obtain⟨u,hu,ru⟩:=rv.get hx;obtain⟨f0,f1,f2,f3,f4,f5⟩:=hf it vF;refine wpAny_pyNext_list_item st p.isList (x:=u) (by simpa using hu) λh' st' sb=>?_;have I1:aJ X aq σ H {s with heap:=h' }:=I.turned (t':=s.toks) (λb o hb e=>(sb.2 b hb).trans e) f0 f1 f3 f4 f5;obtain⟨o,e,c,d⟩:=id st';exact⟨u,rfl,DN (s:={s with heap:=h' }) e c d vS ⟨x,H,I1,ru,⟨rfl,λys hy=>by rw[I.Cp hy hq];exact hx⟩,st',λb hb=>(hf b hb).1⟩⟩
 done:=by intro X hP hw hK hc i aq s σ H E I hf st hg;subst hP hw hK;obtain⟨xs,hq,hx⟩:=hg;obtain⟨its,rv,p,hz⟩:=I.list hq;obtain⟨f0,f1,f2,f3,f4,f5⟩:=hf it vF;have hl:=rv.length;exact wpAny_pyNext_list_end (I.ok.hd hc) st p.isList (by simp;simp_all) λh' eb=>⟨rfl,I.turned (t':=s.toks) (λb o hb e=>eb b o hb e) f0 f1 f3 f4 f5⟩
 self:=λ_ _ _ _ _ st h=>wpAny_pyIter_listiter st h
def RQ {P:Program}{w:World}{K:W.Frag}{tg:Expr}(a it:Addr):Turn P w K tg (Itt K a) [it] it (λi h=>h.IsTupleIter it a i) where
 mem:=by simp
 obj:=λi h st b hb=>by
  have e:b=it:=by simpa using hb
  subst e;obtain⟨o,e,c,d⟩:=st;exact⟨o,e,λv z=>by rw[d]at z;cases z⟩
 keep:=λi h h' st k=>st.at λo e=>k it vF o e
 item:=by intro X hP hw hK hc i aq s σ H E I hf st hg;subst hP hw hK;obtain⟨xs,x,hq,hx⟩:=hg;obtain⟨its,rv,p,hz⟩:=I.tuple hq;obtain⟨u,hu,ru⟩:=rv.get hx;obtain⟨f0,f1,f2,f3,f4,f5⟩:=hf it vF;refine wpAny_pyNext_tuple_item st (show s.heap.IsTuple a its.toArray from p) (x:=u) (by simpa using hu) λh' st' sb=>?_;have I1:aJ X aq σ H {s with heap:=h' }:=I.turned (t':=s.toks) (λb o hb e=>(sb.2 b hb).trans e) f0 f1 f3 f4 f5;obtain⟨o,e,c,d⟩:=id st';exact⟨u,rfl,DN (s:={s with heap:=h' }) e c d vS ⟨x,H,I1,ru,⟨rfl,λys hy=>by rw[I.Ig hy hq];exact hx⟩,st',λb hb=>(hf b hb).1⟩⟩
 done:=by intro X hP hw hK hc i aq s σ H E I hf st hg;subst hP hw hK;obtain⟨xs,hq,hx⟩:=hg;obtain⟨its,rv,p,hz⟩:=I.tuple hq;obtain⟨f0,f1,f2,f3,f4,f5⟩:=hf it vF;have hl:=rv.length;exact wpAny_pyNext_tuple_end (I.ok.hd hc) st (show s.heap.IsTuple a its.toArray from p) (by simp;lia) λh' eb=>⟨rfl,I.turned (t':=s.toks) (λb o hb e=>eb b o hb e) f0 f1 f3 f4 f5⟩
 self:=λ_ _ _ _ _ st h=>wpAny_pyIter_tupleiter st h
def RT {P:Program}{w:World}{K:W.Frag}{tg:Expr}(it:Addr)(lo:Int)(n:Nat):Turn P w K tg (U8 lo n) [it] it (λi h=>IsRangeIter h it (lo+(i:Nat)*1) ((n:Int)-(i:Nat)) 1) where
 mem:=by simp
 obj:=λi h st b hb=>by
  have e:b=it:=by simpa using hb
  subst e;exact⟨_,st,λv z=>by have z':Data.fields _=Data.cell v:=z;cases z'⟩
 keep:=λi h h' st k=>k it vF _ st
 item:=by intro X hP hw hK hc i aq s σ H E I hf st hg;subst hP hw hK;obtain⟨f0,f1,f2,f3,f4,f5⟩:=hf it vF;have W:=Walks.range (prog:=X.prog) (w:=X.w) (I.ok.hd hc) it lo 1 n;refine W.item i s _ _ hg st λv h' tk hv st' kk=>?_;obtain⟨t,rfl⟩:=hv;have I1:aJ X aq σ H {s with heap:=h',toks:=tk}:=I.turned (λb o hb e=>kk b o (by simpa using hb) e) f0 f1 f3 f4 f5;refine⟨_,rfl,DN (s:={s with heap:=h',toks:=tk}) (n:="range_iterator") st' rfl rfl vS ⟨.int (lo+i),H,I1,⟨t,?_⟩,⟨rfl,rfl⟩,st',λb hb=>(hf b hb).1⟩⟩;rw[Int.mul_one]
 done:=by intro X hP hw hK hc i aq s σ H E I hf st hg;subst hP hw hK;obtain⟨f0,f1,f2,f3,f4,f5⟩:=hf it vF;exact wpAny_pyNext_range_end (I.ok.hd hc) st (by have:n<=i:=hg;lia) λh' eb=>⟨rfl,I.turned (t':=s.toks) (λb o hb e=>eb b o hb e) f0 f1 f3 f4 f5⟩
 self:=λ_ _ _ _ _ st h=>wpAny_pyIter_rangeiter st h
section
variable {X:Cx}{tg:Expr}
def DP (K:W.Frag)(tl:TE):TI:=λσ H R=>tl σ H λx H1=>∃a,x=.ref a/\(∃xs,aQ K H1 a xs)/\R (Itl K a) H1
def adl (K:W.Frag)(tl:TE):TI:=λσ H R=>tl σ H λx H1=>∃a,x=.ref a/\(∃xs,aU K H1 a xs)/\R (Itt K a) H1
def abe (hl:PE X l tl):PI X tg l (DP X.K tl):=by
 intro aq s σ H R I h;refine bH (hl aq s σ H _ I h) λv s1 zz=>?_;obtain⟨x,H1,I1,r1,q1⟩:=zz;obtain⟨a,e,⟨xs,hq⟩,q⟩:=q1;subst e;cases r1;obtain⟨its,rv,p,hz⟩:=I1.list hq;refine kH p.isList ?_;refine⟨s1.heap.objs.size,[s1.heap.objs.size],_,_,H1,rfl,I1.kept (t':=s1.toks) λb o e=>af _ e,U9 a _,⟨_,aS _ rfl,rfl,rfl⟩,λb hb=>?_,q⟩;have e:b=s1.heap.objs.size:=by simpa using hb
 subst e;exact I1.mC (ag _) (I1.hok.fresh (ag _))
def adn (hl:PE X l tl):PI X tg l (adl X.K tl):=by
 intro aq s σ H R I h;refine bH (hl aq s σ H _ I h) λv s1 zz=>?_;obtain⟨x,H1,I1,r1,q1⟩:=zz;obtain⟨a,e,⟨xs,hq⟩,q⟩:=q1;subst e;cases r1;obtain⟨its,rv,p,hz⟩:=I1.tuple hq;refine mx (show s1.heap.IsTuple a its.toArray from p) ?_;refine⟨s1.heap.objs.size,[s1.heap.objs.size],_,_,H1,rfl,I1.kept (t':=s1.toks) λb o e=>af _ e,RQ a _,⟨_,aS _ rfl,rfl,rfl⟩,λb hb=>?_,q⟩;have e:b=s1.heap.objs.size:=by simpa using hb
 subst e;exact I1.mC (ag _) (I1.hok.fresh (ag _))
def Yr {aq:AC}{σ:St}{H:Hp}{s:Shared}{R:It->Hp->Prop}{E:AB}{lo hi:Int}{t u v:Tok}{tk:Nat}(I:aJ X aq σ H s)(h1:-(2^62)<=lo)(h2:lo<2^62)(h3:-(2^62)<=hi)(h4:hi<2^62)(q:R (U8 lo (hi-lo).toNat) H):wpAny (model X.prog X.w) X.A (pyIter (.ref s.heap.objs.size)) (PIE X aq σ tg R) E {s with heap:=s.heap.push {cls:=.type "range",data:=.fields #[.int lo t,.int hi u,.int 1 v]},toks:=tk}:=by
 refine wpAny_pyIter_range (IsRange.new ..) (small_one h1 h2 h3 h4) ?_;have I1:aJ X aq σ H {s with heap:=s.heap.push {cls:=.type "range",data:=.fields #[.int lo t,.int hi u,.int 1 v]},toks:=tk}:=I.kept λb o e=>af _ e;refine⟨(s.heap.push {cls:=.type "range",data:=.fields #[.int lo t,.int hi u,.int 1 v]}).objs.size,[(s.heap.push {cls:=.type "range",data:=.fields #[.int lo t,.int hi u,.int 1 v]}).objs.size],_,_,H,rfl,
  I1.kept (t':=tk) λb o e=>af _ e,RT _ lo (hi-lo).toNat,?_,λb hb=>?_,q⟩
 .have e1:lo+((0:Nat):Int)*1=lo:=vF;have e2:(((hi-lo).toNat:Nat):Int)-((0:Nat):Int)=Builtin.Range.rangeSize lo hi 1:=by rw[rangeSize_one];split <;> grind
  show IsRangeIter _ _ (lo+((0:Nat):Int)*1) ((((hi-lo).toNat:Nat):Int)-((0:Nat):Int)) 1;rw[e1,e2];exact aS _ rfl
 .have e:b=(s.heap.push {cls:=.type "range",data:=.fields #[.int lo t,.int hi u,.int 1 v]}).objs.size:=by simpa using hb
  subst e;exact I1.mC (ag _) (I1.hok.fresh (ag _))
def aaG (ta:TA):TI:=λσ H R=>ta σ H λvs H1=>∃j:Int,vs=[.int j]/\-(2^62)<=j/\j<2^62/\R (U8 0 j.toNat) H1
def U_ (hg:Gl X "range")(hm:X.mg "range"=none)(ha:PA X [a] ta)(hs:starEach [a] X.env=[(false,eval a X.env)]:=by rfl):PI X tg (.Call (.Name "range" p) [a] [] pos) (aaG ta):=by
 intro aq s σ H R I h;refine Call_ (nU I hg hm boot_range (f8 (bH (ha pos aq s σ H _ I h) λus s1 zz=>?_) hs rfl));obtain⟨vs,H1,I1,r1,q1⟩:=zz;obtain⟨j,e,q1,q2,q⟩:=q1;subst e;cases r1 with| cons r rr=>cases rr;obtain⟨t,rfl⟩:=r;exact call_range_1 (Yr I1 vE vE q1 q2 (by simpa using q))
abbrev yL (J:It)(g:TG)(tb:TS)(D:Ends)(σ:St)(H:Hp):Prop:=∃W:Nat->Nat->St->Hp->Prop,(∃m,W 0 m σ H)/\∀i m σ H,W i m σ H->
 (J.stop i H/\D.nx σ H)\/(J.go i H/\∃N:St->Hp->Prop,(∀σ' H',N σ' H'->∃m',m'<m/\W (i+1) m' σ' H')/\∀x H',J.Ij i H x H'->g x σ H' λσ2 H2=>tb {D with nx:=N,ct:=N,bk:=D.nx} σ2 H2)
def ado (wi:TI)(g:TG)(tb:TS):TS:=λD σ H=>wi σ H λJ H1=>yL J g tb D σ H1
def Gr {J:It}{g:TG}{tb:TS}{D:Ends}{σ:St}{H:Hp}(n:Nat)(Pv:Nat->St->Hp->Prop)(h0:Pv 0 σ H)(hg:∀i σ H,i<n->Pv i σ H->J.go i H/\∀x H',J.Ij i H x H'->g x σ H' λσ2 H2=>tb {D with nx:=Pv (i+1),ct:=Pv (i+1),bk:=D.nx} σ2 H2)(he:∀σ H,Pv n σ H->J.stop n H/\D.nx σ H):yL J g tb D σ H:=by
 refine⟨λi m σ H=>m=n-i/\i<=n/\Pv i σ H,⟨n,vF,cw _,h0⟩,?_⟩;rintro i m σ H ⟨rfl,hi,p⟩;by_cases hlt:i<n;.exact .inr ⟨(hg i σ H hlt p).1,Pv (i+1),λσ' H' p'=>⟨n-(i+1),Nat.sub_lt_sub_left hlt (e8 _),rfl,hlt,p'⟩,(hg i σ H hlt p).2⟩
 .have e:i=n:=vE;subst e;exact .inl (he σ H p)
def aaH {Sq:Hp->List V->Prop}{xs:List V}{g:TG}{tb:TS}{D:Ends}{σ:St}{H:Hp}(Pv:Nat->St->Hp->Prop)(h0:Pv 0 σ H)(hl:∀i σ H,i<=xs.length->Pv i σ H->Sq H xs)(hs:∀i x σ H,xs[i]?=some x->Pv i σ H->g x σ H λσ2 H2=>tb {D with nx:=Pv (i+1),ct:=Pv (i+1),bk:=D.nx} σ2 H2)(hd:∀σ H,Pv xs.length σ H->D.nx σ H):yL (ItS Sq) g tb D σ H:=Gr xs.length Pv h0 (λi σ H h p=>⟨⟨xs,xs[i],hl i σ H (ay h) p,by simp[h]⟩,λx H' ⟨e,y⟩=>by subst e;exact hs i x σ _ (y xs (hl i σ _ (ay h) p)) p⟩) λσ H p=>⟨⟨xs,hl _ σ H (ag _) p,ag _⟩,hd σ H p⟩
def yM (fp:List Addr)(h:Heap):List (Addr×Obj):=fp.filterMap λb=>(h.get? b).map λo=>(b,o)
def nZ {h:Heap}(hb:b∈fp)(e:h.get? b=some o):(b,o)∈yM fp h:=oq.mpr ⟨b,hb,by rw[e];rfl⟩
def Va (hp:p∈yM fp h):p.1∈fp/\h.get? p.1=some p.2:=by
 obtain⟨b,hb,e⟩:=oq.mp hp;cases q:h.get? b with
 | none=>rw[q]at e;cases e
 | some o=>rw[q]at e;have e':(b,o)=p:=ax e;subst e';exact⟨hb,q⟩
def aJ.pinned {aq:AC}{σ:St}{H:Hp}{s:Shared}{fp:List Addr}(I:aJ X aq σ H s)(hf:∀b∈fp,nu X aq H b)(ho:∀b∈fp,∃o,s.heap.get? b=some o/\∀v,o.data≠.cell v):aJ X (aq++yM fp s.heap) σ H s:=
 I.P0 λp hp=>(ba.mp hp).elim (λz=>I.pin p (dq _ z)) λz=>by obtain⟨hb,e⟩:=Va z;obtain⟨f0,f1,f2,_⟩:=hf p.1 hb;obtain⟨o,e',d⟩:=ho p.1 hb;rw[e]at e';cases e';exact⟨e,f0,f1,f2,d⟩
def aJ.nA {aq pl:AC}{σ:St}{H:Hp}{s:Shared}(I:aJ X (aq++pl) σ H s):aJ X aq σ H s:=I.P0 λp hp=>I.pin p (dq _ (rS _ hp))
def adp (hp:PassesOwn (model X.prog X.w) X.A X.env X.xe)(hc:X.calm=true)(hi:PI X tg iter wi)(hg:PG X tg g)(hb:rD X body tb)(hs:∀x,foldedSetIterable iter X.env x=pure x:=by intro _;rfl):PS X (.For tg iter body [] pos) (ado wi g tb):=by
 intro aq s σ H D I h;refine wpAny_For (bH (hi aq s σ H _ I h) λv s1 h1=>bH h1 λitv s2 h2=>?_) hs;obtain⟨it,fp,tn,J,H2,e,I2,T,st2,f2,W,⟨m0,w0⟩,turn⟩:=h2;subst e;have stat:∀{H':Hp},(∀b∈fp,H' b=none)->∀b∈fp,nu X aq H' b:=λhn b hb=>⟨hn b hb,(f2 b hb).2⟩
 refine codeAny_forLoop_any (λn s'=>∃i σ' H',aJ X aq σ' H' s'/\tn i s'.heap/\(∀b∈fp,H' b=none)/\W i n σ' H') ?_ m0 ⟨0,σ,H2,I2,st2,λb hb=>(f2 b hb).1,w0⟩;rintro n s3 ⟨i,σ3,H3,I3,st3,fr3,w3⟩;rcases turn i n σ3 H3 w3 with⟨stop,qn⟩|⟨go,N,hN,step⟩
 .refine fo hp (bH (T.done X rfl rfl rfl hc i aq s3 σ3 H3 X.xe I3 (stat fr3) st3 stop) λr s4 ⟨hr,I4⟩=>?_);subst hr;exact im ⟨σ3,H3,I4,qn⟩
 .refine fo hp (bH (T.item X rfl rfl rfl hc i aq s3 σ3 H3 X.xe I3 (stat fr3) st3 go) λr s4 zz=>?_);obtain⟨u,hr,h4⟩:=zz;subst hr;refine fo hp (bH h4 λ_ s5 zz=>?_);obtain⟨x,H5,I5,r5,y5,KN,fr5⟩:=zz;have I5':=I5.pinned (stat fr5) (T.obj _ _ KN);refine fo hp (bH (hg _ s5 σ3 H5 x u _ I5' r5 (step x H5 y5)) λ_ s6 zz=>?_);obtain⟨σ6,H6,I6,q6⟩:=zz;refine fo hp (bH (hb _ s6 σ6 H6 _ I6 q6) λf s7 q7=>?_);have again:∀{σ7:St} {H7:Hp},aJ X (aq++yM fp s5.heap) σ7 H7 s7->N σ7 H7->∃m,m<n/\∃i σ' H',aJ X aq σ' H' s7/\tn i s7.heap/\(∀b∈fp,H' b=none)/\W i m σ' H':=λ{σ7 H7} I7 n7=>by
   obtain⟨m',hm,w7⟩:=hN σ7 H7 n7;refine⟨m',hm,i+1,σ7,H7,I7.nA,T.keep _ _ _ KN λb hb o e=>(I7.pin (b,o) (dq _ (dq _ (nZ hb e)))).1,λb hb=>?_,w7⟩;obtain⟨o,e,d⟩:=T.obj _ _ KN b hb;exact(I7.pin (b,o) (dq _ (dq _ (nZ hb e)))).2.1
  cases f with
  | next=>obtain⟨σ7,H7,I7,n7⟩:=q7;exact again I7 n7
  | cont=>obtain⟨σ7,H7,I7,n7⟩:=q7;exact again I7 n7
  | brk=>obtain⟨σ7,H7,I7,q7⟩:=q7;exact⟨σ7,H7,I7.nA,q7⟩
  | ret v=>obtain⟨x7,σ7,H7,I7,r7,q7⟩:=q7;exact⟨x7,σ7,H7,I7.nA,r7,q7⟩
end
def jJ {K:W.Frag}{a:Addr}:=@aaH λH=>aQ K H a
def Gs {K:W.Frag}{a:Addr}:=@aaH λH=>aU K H a
def uw {lo:Int}{n:Nat}{g:TG}{tb:TS}{D:Ends}{σ:St}{H:Hp}(Pv:Nat->St->Hp->Prop)(h0:Pv 0 σ H)(hs:∀i σ H,i<n->Pv i σ H->g (.int (lo+i)) σ H λσ2 H2=>tb {D with nx:=Pv (i+1),ct:=Pv (i+1),bk:=D.nx} σ2 H2)(hd:∀σ H,Pv n σ H->D.nx σ H):yL (U8 lo n) g tb D σ H:=Gr n Pv h0 (λi σ H h p=>⟨h,λx H' y=>by obtain⟨rfl,rfl⟩:=y;exact hs i σ _ h p⟩) λσ H p=>⟨ag _,hd σ H p⟩
abbrev R2:=V->V->Hp->VK->Prop
def eX (X:Cx)(f:Value->Value->Sem Value)(r:R2):Prop:=∀(aq:AC) (s:Shared) (σ:St) (H:Hp) (x y:V) (v u:Value) (Q:VK),aJ X aq σ H s->bJ x v->bJ y u->r x y H Q->
  wpAny (model X.prog X.w) X.A (f v u) (EP X aq σ Q) X.xe s
def fj (X:Cx)(f:Value)(r:List V->Hp->VK->Prop):Prop:=∀(aq:AC) (s:Shared) (σ:St) (H:Hp) (xs:List V) (us:List Value) (Q:VK),aJ X aq σ H s->Vals xs us->r xs H Q->
  wpAny (model X.prog X.w) X.A (call f us) (EP X aq σ Q) X.xe s
def rE (r:R2)(ta tb:TE):TE:=λσ H Q=>ta σ H λx H1=>tb σ H1 λy H2=>r x y H2 Q
def rI (C:Int->Int->Prop)(g:Int->Int->V):R2:=λx y H Q=>∃i j,x=.int i/\y=.int j/\C i j/\Q (g i j) H
def Ik (g:Int->Int->V):R2:=λx y H Q=>∃i j,x=.int i/\y=.int j/\Q (g i j) H
section
variable {X:Cx}{a b:Expr}{ta tb:TE}{pos:Pos}
def Ys (ha:PE X a ta)(hb:PE X b tb){aq:AC}{s:Shared}{σ:St}{H:Hp}{R:V->V->Hp->Prop}(I:aJ X aq σ H s)(h:ta σ H λx H1=>tb σ H1 λy H2=>R x y H2){Q:AB}{f:Value->Value->Sem Value}(hf:∀v u s2 x y H2,aJ X aq σ H2 s2->bJ x v->bJ y u->R x y H2->wpAny (model X.prog X.w) X.A (f v u) Q X.xe s2):wpAny (model X.prog X.w) X.A (eval a X.env) (λv s₁=>wpAny (model X.prog X.w) X.A (eval b X.env) (λu s₂=>wpAny (model X.prog X.w) X.A (f v u) Q X.xe s₂) X.xe s₁) X.xe s:=by refine bH (ha aq s σ H _ I h) λv s1 zz=>?_;obtain⟨x,H1,I1,r1,q1⟩:=zz;refine bH (hb aq s1 σ H1 _ I1 q1) λu s2 zz=>?_;obtain⟨y,H2,I2,r2,q2⟩:=zz;exact hf v u s2 x y H2 I2 r1 r2 q2
def afI (ho:eX X (binaryOp op) r)(ha:PE X a ta)(hb:PE X b tb):PE X (.BinOp a op b pos) (rE r ta tb):=by intro aq s σ H Q I h;exact wpAny_BinOp (Ys ha hb I h λv u s2 x y H2 I2 rx ry q=>ho aq s2 σ H2 x y v u Q I2 rx ry q)
def opI {f:Value->Value->Sem Value}{C:Int->Int->Prop}{g:Int->Int->Int}(rule:∀(i j:Int) (t u:Tok) (s:Shared) (Q:AB) (E:AB),C i j->Q (.int (g i j) s.toks) {s with toks:=s.toks+1}->wpAny (model X.prog X.w) X.A (f (.int i t) (.int j u)) Q E s):eX X f (rI C λi j=>.int (g i j)):=by intro aq s σ H x y v u Q I rx ry h;obtain⟨i,j,rfl,rfl,hc,q⟩:=h;obtain⟨t,rfl⟩:=rx;obtain⟨t',rfl⟩:=ry;exact rule i j t t' s _ _ hc ⟨.int (g i j),H,I.tok _,⟨_,rfl⟩,q⟩
def adq {f:Value->Value->Sem Value}{g:Int->Int->Int}(rule:∀(i j:Int) (t u:Tok) (s:Shared) (Q:AB) (E:AB),Q (.int (g i j) s.toks) {s with toks:=s.toks+1}->wpAny (model X.prog X.w) X.A (f (.int i t) (.int j u)) Q E s):eX X f (Ik λi j=>.int (g i j)):=by intro aq s σ H x y v u Q I rx ry h;obtain⟨i,j,rfl,rfl,q⟩:=h;obtain⟨t,rfl⟩:=rx;obtain⟨t',rfl⟩:=ry;exact rule i j t t' s _ _ ⟨.int (g i j),H,I.tok _,⟨_,rfl⟩,q⟩
def RW {f:Value->Value->Sem Value}{g:Int->Int->Bool}(rule:∀(i j:Int) (t u:Tok) (s:Shared) (Q:AB) (E:AB),Q (.bool (g i j)) s->wpAny (model X.prog X.w) X.A (f (.int i t) (.int j u)) Q E s):eX X f (Ik λi j=>.bl (g i j)):=by intro aq s σ H x y v u Q I rx ry h;obtain⟨i,j,rfl,rfl,q⟩:=h;obtain⟨t,rfl⟩:=rx;obtain⟨t',rfl⟩:=ry;exact rule i j t t' s _ _ ⟨.bl (g i j),H,I,rfl,q⟩
def agl (i j:Int):Prop:=0<j/\j<1073741824
def agm (i j:Int):Prop:=0<=j/\j<=1000000/\i.natAbs<2^64
def Yt (i j:Int):Prop:=(-(2^64)<i/\i<2^64)\/(-(2^64)<j/\j<2^64)
def Yt.ok (h:Yt i j):IntMulOk i j:=by
 rcases h with⟨h1,h2⟩|⟨h1,h2⟩;.exact .of_left (intBits_le_64 h1 h2)
 .exact .of_right (intBits_le_64 h1 h2)
def cu:eX X (binaryOp .Add) (Ik λi j=>.int (i+j)):=adq λ_ _ _ _ _ _ _ q=>add_int q
def qx:eX X (binaryOp .Sub) (Ik λi j=>.int (i-j)):=adq λ_ _ _ _ _ _ _ q=>sub_int q
def mG:eX X (binaryOp .Mult) (rI Yt λi j=>.int (i*j)):=opI λ_ _ _ _ _ _ _ hc q=>mul_int q hc.ok
def eV:eX X (binaryOp .FloorDiv) (rI agl λi j=>.int (i/j)):=opI λi j _ _ _ _ _ hc q=>by have h1:(0:Int)<j:=hc.1;have h2:j<1073741824:=hc.2;exact floordiv_int vE (by rw[Int.fdiv_eq_ediv_of_nonneg i (Int.le_of_lt h1)];exact q) (.inl (PyProof.noPylong_small (by grind)))
def b_:eX X (binaryOp .Mod) (rI (λ_ j=>0<j) λi j=>.int (i%j)):=opI λi j _ _ _ _ _ hc q=>by have h1:(0:Int)<j:=hc;exact mod_int' vE (by rw[Int.fmod_eq_emod_of_nonneg i vE];exact q)
def adt:eX X (binaryOp .Pow) (rI agm λi j=>.int (i^j.toNat)):=opI λ_ _ _ _ _ _ _ hc q=>pow_int_small hc.1 hc.2.1 hc.2.2 q
end
noncomputable def adu:V->V->Bool
 | .non,.non=>true|.non,.int _=>true|.int _,.non=>true|.non,.bl _=>true|.bl _,.non=>true|.non,.str _=>true|.str _,.non=>true
 | .int _,.int _=>true|.bl _,.bl _=>true|.str _,.str _=>true|.yx _,.yx _=>true
 | .int _,.str _=>true|.str _,.int _=>true|.bl _,.str _=>true|.str _,.bl _=>true
 | _,_=>false
def rEq:R2:=λx y H Q=>adu x y=true/\Q (.bl (decide (x=y))) H
def rNe:R2:=λx y H Q=>adu x y=true/\Q (.bl (!decide (x=y))) H
def P_:decide (V.int i=V.int j)=(i==j):=by rw[ku];simp
def Vb:decide (V.bl i=V.bl j)=(i==j):=by rw[ku];simp
def Qa:decide (V.str i=V.str j)=(i==j):=by rw[ku];simp
def Qc:decide (V.yx i=V.yx j)=(i.toList==j.toList):=by rw[ku];cases i;cases j;simp
section
variable {X:Cx}{a b c:Expr}{ta tb tc:TE}{pos:Pos}
def cH {aq:AC}{σ:St}{H:Hp}{s:Shared}{Q:VK}{k k':Bool}(I:aJ X aq σ H s)(q:Q (.bl k) H)(e:k=k'):EP X aq σ Q (.bool k') s:=by subst e;exact⟨.bl k,H,I,rfl,q⟩
def jc:eX X (compareOp .Eq) rEq:=by
 intro aq s σ H x y v u Q I rx ry h;obtain⟨hs,q⟩:=h;cases x with
 | non=>
  cases rx;cases y with
  | non=>cases ry;exact PySem.EqNone.eq_none_none (cH I q vF)
  | bl j=>cases ry;exact PySem.EqNone.eq_none_bool (cH I q vF)
  | int j=>obtain⟨t',rfl⟩:=ry;exact PySem.EqNone.eq_none_int (cH I q vF)
  | str j=>obtain⟨t',rfl⟩:=ry;exact PySem.EqNone.eq_none_str (cH I q vF)
  | _=>exact absurd (show false=true from hs) bX
 | bl i=>
  cases rx;cases y with
  | non=>cases ry;exact PySem.EqNone.eq_bool_none (cH I q vF)
  | bl j=>cases ry;exact eq_bool (cH I q Vb)
  | str j=>obtain⟨t',rfl⟩:=ry;exact PySem.EqMixed.eq_bool_str (cH I q vF)
  | _=>exact absurd (show false=true from hs) bX
 | int i=>
  obtain⟨t,rfl⟩:=rx;cases y with
  | non=>cases ry;exact PySem.EqNone.eq_int_none (cH I q vF)
  | int j=>obtain⟨t',rfl⟩:=ry;exact eq_int (cH I q P_)
  | str j=>obtain⟨t',rfl⟩:=ry;exact PySem.EqMixed.eq_int_str (cH I q vF)
  | _=>exact absurd (show false=true from hs) bX
 | str i=>
  obtain⟨t,rfl⟩:=rx;cases y with
  | non=>cases ry;exact PySem.EqNone.eq_str_none (cH I q vF)
  | bl j=>cases ry;exact PySem.EqMixed.eq_str_bool (cH I q vF)
  | int j=>obtain⟨t',rfl⟩:=ry;exact PySem.EqMixed.eq_str_int (cH I q vF)
  | str j=>obtain⟨t',rfl⟩:=ry;exact eq_str (cH I q Qa)
  | _=>exact absurd (show false=true from hs) bX
 | yx i=>
  obtain⟨t,rfl⟩:=rx;cases y with
  | yx j=>obtain⟨t',rfl⟩:=ry;exact W.eq_bytes (cH I q Qc)
  | _=>exact absurd (show false=true from hs) bX
 | _=>cases y <;> exact absurd (show false=true from hs) bX
def DQ:eX X (compareOp .NotEq) rNe:=by
 intro aq s σ H x y v u Q I rx ry h;obtain⟨hs,q⟩:=h;cases x with
 | non=>
  cases rx;cases y with
  | non=>cases ry;exact PySem.EqNone.ne_none_none (cH I q vF)
  | bl j=>cases ry;exact PySem.EqNone.ne_none_bool (cH I q vF)
  | int j=>obtain⟨t',rfl⟩:=ry;exact PySem.EqNone.ne_none_int (cH I q vF)
  | str j=>obtain⟨t',rfl⟩:=ry;exact PySem.EqNone.ne_none_str (cH I q vF)
  | _=>exact absurd (show false=true from hs) bX
 | bl i=>
  cases rx;cases y with
  | non=>cases ry;exact PySem.EqNone.ne_bool_none (cH I q vF)
  | bl j=>cases ry;exact ne_bool (cH I q (congrArg not Vb))
  | str j=>obtain⟨t',rfl⟩:=ry;exact PySem.EqMixed.ne_bool_str (cH I q vF)
  | _=>exact absurd (show false=true from hs) bX
 | int i=>
  obtain⟨t,rfl⟩:=rx;cases y with
  | non=>cases ry;exact PySem.EqNone.ne_int_none (cH I q vF)
  | int j=>obtain⟨t',rfl⟩:=ry;exact ne_int (cH I q (congrArg not P_))
  | str j=>obtain⟨t',rfl⟩:=ry;exact PySem.EqMixed.ne_int_str (cH I q vF)
  | _=>exact absurd (show false=true from hs) bX
 | str i=>
  obtain⟨t,rfl⟩:=rx;cases y with
  | non=>cases ry;exact PySem.EqNone.ne_str_none (cH I q vF)
  | bl j=>cases ry;exact PySem.EqMixed.ne_str_bool (cH I q vF)
  | int j=>obtain⟨t',rfl⟩:=ry;exact PySem.EqMixed.ne_str_int (cH I q vF)
  | str j=>obtain⟨t',rfl⟩:=ry;exact ne_str (cH I q (congrArg not Qa))
  | _=>exact absurd (show false=true from hs) bX
 | yx i=>
  obtain⟨t,rfl⟩:=rx;cases y with
  | yx j=>obtain⟨t',rfl⟩:=ry;exact W.ne_bytes (cH I q (congrArg not Qc))
  | _=>exact absurd (show false=true from hs) bX
 | _=>cases y <;> exact absurd (show false=true from hs) bX
def Ag:eX X (compareOp .Lt) (Ik λi j=>.bl (decide (i<j))):=RW λ_ _ _ _ _ _ _ q=>lt_int q
def pW:eX X (compareOp .LtE) (Ik λi j=>.bl (decide (i<=j))):=RW λ_ _ _ _ _ _ _ q=>le_int q
def aaI:eX X (compareOp .Gt) (Ik λi j=>.bl (decide (j<i))):=RW λ_ _ _ _ _ _ _ q=>gt_int q
def aaJ:eX X (compareOp .GtE) (Ik λi j=>.bl (decide (j<=i))):=RW λ_ _ _ _ _ _ _ q=>ge_int q
def Vc:eX X (compareOp .In) (λx y H Q=>∃i j,x=.str i/\y=.str j/\Q (.bl (!(Builtin.Str.occurrences j i 0 j.length 1).isEmpty)) H):=by intro aq s σ H x y v u Q I rx ry h;obtain⟨i,j,rfl,rfl,q⟩:=h;obtain⟨t,rfl⟩:=rx;obtain⟨t',rfl⟩:=ry;exact in_str (cH I q rfl)
def bU (b)(h:op≠.In:=by decide)(h2:op≠.NotIn:=by decide):behindInMarks op b=false:=by
 have e1:(op==CmpOp.In)=false:=by cases op <;> first|rfl|exact absurd rfl h
 have e2:(op==CmpOp.NotIn)=false:=by cases op <;> first|rfl|exact absurd rfl h2
 cases b <;> simp[behindInMarks,e1,e2]
def abf (ho:eX X (compareOp op) r)(ha:PE X a ta)(hb:PE X b tb)(hm:behindInMarks op b=false):PE X (.Compare a [op] [b] pos) (rE r ta tb):=by intro aq s σ H Q I h;exact wpAny_Compare1 (Ys ha hb I h λv u s2 x y H2 I2 rx ry q=>ho aq s2 σ H2 x y v u Q I2 rx ry q) hm
def Km (t:TE):TT:=λσ H Q=>t σ H λx H'=>∃k,x=.bl k/\Q k H'
def abg (ho:eX X (compareOp op) r)(ha:PE X a ta)(hb:PE X b tb)(hm:behindInMarks op b=false):PT X (.Compare a [op] [b] pos) (Km (rE r ta tb)):=by
 intro aq s σ H Q I h;refine wpAny_isTrue_Compare1 (bH (ha aq s σ H _ I h) λv s1 ⟨x,H1,I1,r1,q1⟩=>bH (hb aq s1 σ H1 _ I1 q1) λu s2 ⟨y,H2,I2,r2,q2⟩=>bH (ho aq s2 σ H2 x y v u _ I2 r1 r2 q2) λc s3 ⟨z,H3,I3,r3,k,e,q3⟩=>?_) hm
 subst e;cases r3;exact ee ⟨H3,I3,q3⟩
def yN (r r':R2)(ta tb tc:TE):TE:=λσ H Q=>ta σ H λx H1=>tb σ H1 λy H2=>r x y H2 λz H3=>∃k,z=.bl k/\
 (if k=true then tc σ H3 λw' H4=>r' y w' H4 Q else Q (.bl false) H3)
def Yu (ho:eX X (compareOp op) r)(ho':eX X (compareOp op') r')(ha:PE X a ta)(hb:PE X b tb)(hc:PE X c tc)(hm:lastMarks [op,op'] [b,c]=false:=by with_unfolding_all rfl):PE X (.Compare a [op,op'] [b,c] pos) (yN r r' ta tb tc):=by
 intro aq s σ H Q I h;refine Compare_chain (bH (ha aq s σ H _ I h) λv s1 ⟨x,H1,I1,r1,q1⟩=>chain_link (bH (hb aq s1 σ H1 _ I1 q1) λu s2 ⟨y,H2,I2,r2,q2⟩=>bH (ho aq s2 σ H2 x y v u _ I2 r1 r2 q2) λd s3 ⟨z,H3,I3,r3,k,e,q3⟩=>?_)) hm
 subst e;cases r3;refine ee ?_;cases k with| false=>exact ite_ff ⟨.bl false,H3,I3,rfl,q3⟩| true=>exact ite_tt (chain_last (bH (hc aq s3 σ H3 _ I3 q3) λw' s4 ⟨z',H4,I4,r4,q4⟩=>ho' aq s4 σ H4 y z' u w' Q I4 r2 r4 q4))
def Yv (ho:eX X (compareOp op) r)(ho':eX X (compareOp op') r')(ha:PE X a ta)(hb:PE X b tb)(hc:PE X c tc)(hm:lastMarks [op,op'] [b,c]=false:=by with_unfolding_all rfl):PT X (.Compare a [op,op'] [b,c] pos) (Km (yN r r' ta tb tc)):=by
 intro aq s σ H Q I h;refine isTrue_chain (bH (ha aq s σ H _ I h) λv s1 ⟨x,H1,I1,r1,q1⟩=>test_link (bH (hb aq s1 σ H1 _ I1 q1) λu s2 ⟨y,H2,I2,r2,q2⟩=>bH (ho aq s2 σ H2 x y v u _ I2 r1 r2 q2) λd s3 ⟨z,H3,I3,r3,k,e,q3⟩=>?_)) hm
 subst e;cases r3;refine ee ?_;cases k with
 | false=>obtain⟨k',e',q'⟩:=q3;cases e';exact ite_ff ⟨H3,I3,q'⟩
 | true=>refine ite_tt (test_last (bH (hc aq s3 σ H3 _ I3 q3) λw' s4 zz=>?_));obtain⟨z',H4,I4,r4,q4⟩:=zz;refine bH (ho' aq s4 σ H4 y z' u w' _ I4 r2 r4 q4) λd' s5 zz=>?_;obtain⟨z2,H5,I5,r5,k2,e2,q5⟩:=zz;subst e2;cases r5;exact ee ⟨H5,I5,q5⟩
def sJ:(sizeLine:Nat)<2^63:=by rw[sizeLine_eq];decide
def RX:eX X (binaryOp .Add) (λx y H Q=>∃i j,x=.str i/\y=.str j/\i.length+j.length<=sizeLine/\Q (.str (i++j)) H):=by intro aq s σ H x y v u Q I rx ry h;obtain⟨i,j,rfl,rfl,hz,q⟩:=h;obtain⟨t,rfl⟩:=rx;obtain⟨t',rfl⟩:=ry;exact add_str (λt' tk=>⟨.str (i++j),H,I.tok _,⟨_,rfl⟩,q⟩) hz
def vals1 (r:Vals [x] us):∃u,us=[u]/\bJ x u:=by
 cases r with| cons r1 r2=>cases r2;exact⟨_,rfl,r1⟩
def vals2 (r:Vals [x,y] us):∃u w',us=[u,w']/\bJ x u/\bJ y w':=by
 cases r with
 | cons r1 r2=>
  cases r2 with| cons r3 r4=>cases r4;exact⟨_,_,rfl,r1,r3⟩
def Vd (hc:X.calm=true):fj X (.builtin "min") (λxs H Q=>∃i j,xs=[.int i,.int j]/\Q (.int (if j<i then j else i)) H):=by
 intro aq s σ H xs us Q I r h;obtain⟨i,j,rfl,q⟩:=h;obtain⟨u,w',rfl,⟨t,rfl⟩,⟨t',rfl⟩⟩:=vals2 r;refine min_two_ints (I.ok.hd hc) λh' tk k=>⟨_,H,I.kept k,?_,q⟩
 by_cases hj:j<i;.rw[if_pos hj,if_pos hj];exact⟨_,rfl⟩
 .rw[if_neg hj,if_neg hj];exact⟨_,rfl⟩
def yO:fj X (.type "int") (λxs H Q=>(∃i,xs=[.int i]/\Q (.int i) H)\/∃k,xs=[.bl k]/\Q (.int (if k then 1 else 0)) H):=by
 intro aq s σ H xs us Q I r h;rcases h with⟨i,rfl,q⟩|⟨k,rfl,q⟩
 .obtain⟨u,rfl,t,rfl⟩:=vals1 r;exact call_int_int ⟨.int i,H,I,⟨_,rfl⟩,q⟩
 .obtain⟨u,rfl,r1⟩:=vals1 r;cases r1;exact call_int_bool ⟨.int (if k then 1 else 0),H,I.tok _,⟨_,rfl⟩,q⟩
end
structure Cq (h:Heap)(x dx C:Addr)(mA:Str->Option Value):Prop where
 obj:h.get? x=some (W.instObj C dx)
 ns:h.Ns1 dx mA
 ne:dx≠x
def Ve {h:Heap}(n:h.Ns1 dx mA):∃od,h.get? dx=some od/\∀name,W.lookIn name od=some (mA name):=by
 obtain⟨o,es,ep,ho,hd,hk,_,hm⟩:=n;refine⟨o,ho,λname=>?_⟩;have e:=hm name;unfold nsFind findBy at e;rw[<-Array.find?_toList]at e;unfold W.lookIn;rw[hd];dsimp only;split
 .rename_i y q;rw[q]at e;exact congrArg some e
 .rename_i q;rw[q]at e;have a:es.toList.any (·.refKey)=false:=by
   rw[List.any_eq_false];intro y hy;obtain⟨z,t,hkey⟩:=hk y (rX.mp hy);simp[DictEntry.refKey,hkey]
  have a':¬es.toList.any (·.refKey)=true:=by rw[a];exact bX
  rw[if_neg a'];exact congrArg some e
def Cq.look (I:Cq h x dx C mA):∃od,W.InstAt h x (W.instObj C dx) C (some od)/\∀name,W.lookIn name od=some (mA name):=let ⟨od,ho,hl⟩:=Ve I.ns
 ⟨od,⟨I.obj,rfl,rfl,ho⟩,hl⟩
section
variable {prog:Program}{w:World}{A:Around}{E:AB}{s:Shared}{K:W.Frag}{x dx C f:Addr}{mA:Str->Option Value}{name:Str}{v:Value}
def get_map (X:K.In s.heap)(I:Cq s.heap x dx C mA)(hg:W.plainGet K C name=true)(hh:W.hasDictIn K C=true)(ha:W.findIn K (.ref C) name=some none)(hv:mA name=some v)(hv':W.handedIn v=true)(h:Q v {s with toks:=s.toks+1}):wpAny (model prog w) A (getAttr (.ref x) name expr) Q E s:=by obtain⟨od,J,hl⟩:=I.look;exact W.get_value X J (sD hg).1 (W.findObj_own hh ha rfl (by rw[hl,hv])) hv' h
def Yw (X:K.In s.heap)(I:Cq s.heap x dx C mA)(hg:W.plainGet K C name=true)(hf:W.findIn K (.ref C) name=some (some (.ref f)))(ht:W.isFn K (.ref f)=true)(hv:mA name=none)(h:Q (.ref f,[.ref x]) s):wpAny (model prog w) A (getMethod (.ref x) name pl) Q E s:=by obtain⟨od,J,hl⟩:=I.look;exact W.method_fn X J (sD hg).1 (sD hg).2 hf (beq_iff_eq.mp ht) (by show (W.lookIn name od).map (·.isSome)=some false;rw[hl,hv];rfl) h
def abh (X:K.In s.heap)(I:Cq s.heap x dx C mA)(hs:W.findIn K (.ref C) "__setattr__"=some (some (.builtin "object.__setattr__")))(hp:W.plainOver K C=true)(ht:W.takerIn K C name=some none)(hh:W.hasDictIn K C=true)(hw:PySem.Within mA ns)(hsz:ns.length<=sizeLine)(h:∀h',Cq h' x dx C (λy=>if y=name then some v else mA y)->Heap.SameBut dx s.heap h'->Q () {s with heap:=h',toks:=s.toks+2}):wpAny (model prog w) A (setAttr (.ref x) name v) Q E s:=by obtain⟨od,J,hl⟩:=I.look;refine W.set_plain X J hs (W.osa_open (s:={s with toks:=s.toks+1}) (r:=none) X J hp ht λb=>?_);obtain⟨cd,hc,hd'⟩:=W.any_some hh;have hx:s.heap.get? x=some ⟨.ref C,some dx,.plain,#[]⟩:=I.obj;refine ab (ah (ab (ab (wpAny_loadPart hx (ab (W.Looks.here (s:={s with toks:=s.toks+1}) (W.looks_clsIn X hc) ?_))))));rw[hd'];refine ah (a:=some dx) (ab (ah (ab ?_)));refine wpAny_nsSet1 (s:={s with toks:=s.toks+1}) I.ns λh' hn2 hs2=>?_;obtain⟨oD,esD,epD,hoD,hdD,hcD⟩:=hn2.count (PySem.Within.cons name v hw);refine ab (wpAny_lookBehind hoD (by rw[hdD];exact pastItsLine_dict (a9 hcD (by rw[bt];exact gm hsz))) ?_);exact ah (h _ ⟨(hs2.2 _ (ie I.ne)).trans I.obj,hn2,I.ne⟩ hs2)
def Yx (X:K.In s.heap)(hm:W.makesIn K C=true)(hi:W.findIn K (.ref C) "__init__"=some (some (.ref f)))(hf:W.typeIn K (.ref f)=some (.type "function"))(h:codeAny (model prog w) (A.under (.builtin "type.__call__" ⟨.ref C::vs,kw⟩)) (.call (.ref f) ⟨.ref (s.heap.objs.size+1)::vs,kw⟩) (W.InitBack (s.heap.objs.size+1) R) {s with heap:=(s.heap.push W.emptyDict).push (W.instObj C s.heap.objs.size)}):codeAny (model prog w) A (.call (.ref C) ⟨vs,kw⟩) R s:=by obtain⟨hh,g,d,t,os⟩:=s;exact W.make_core (W.makes_of X hm) (W.looks_findIn X hi) (λself=>W.bind_fn X self hf) (.inl rfl) h
end
def jx (f:Str)(v:V):List (Str×V)->List (Str×V)
 | []=>[(f,v)]
 | (g,x)::r=>if g=f then (g,v)::r else (g,x)::jx f v r
theorem BL (f g)(v):∀fs:List (Str×V),(jx f v fs).lookup g=if g=f then some v else fs.lookup g
 | []=>by
  show List.lookup g [(f,v)]=_;by_cases h:g=f
  .have hb:(g==f)=true:=beq_iff_eq.mpr h;simp only[List.lookup,hb,if_pos h]
  .have hb:(g==f)=false:=beq_eq_false_iff_ne.mpr h;simp only[List.lookup,hb,if_neg h]
 | (k,x)::r=>by
  have ih:=BL f g v r;rw[show jx f v ((k,x)::r)=(if k=f then (k,v)::r else (k,x)::jx f v r) from rfl];by_cases hk:k=f
  .rw[if_pos hk];by_cases h:g=k
   .have hb:(g==k)=true:=beq_iff_eq.mpr h;simp only[List.lookup,hb,if_pos (h.trans hk)]
   .have hb:(g==k)=false:=beq_eq_false_iff_ne.mpr h;simp only[List.lookup,hb,if_neg (λe:g=f=>h (e.trans hk.symm))]
  .rw[if_neg hk];by_cases h:g=k
   .have hb:(g==k)=true:=beq_iff_eq.mpr h;simp only[List.lookup,hb,if_neg (λe:g=f=>hk (h.symm.trans e))]
   .have hb:(g==k)=false:=beq_eq_false_iff_ne.mpr h;simp only[List.lookup,hb];exact ih
theorem yP (f)(v):∀fs:List (Str×V),f∈(jx f v fs).map (·.1)/\∀g,g∈fs.map (·.1)->g∈(jx f v fs).map (·.1)
 | []=>⟨by simp[jx],λg h=>by simp at h⟩
 | (k,x)::r=>by
  obtain⟨i1,i2⟩:=yP f v r;rw[show jx f v ((k,x)::r)=(if k=f then (k,v)::r else (k,x)::jx f v r) from rfl];by_cases hk:k=f
  .rw[if_pos hk];subst hk;exact⟨vF,λg h=>by simpa using h⟩
  .rw[if_neg hk];refine⟨?_,λg h=>?_⟩
   .rw[cp];exact aI _ i1
   .rw[cp]at h ⊢;rcases bb.mp h with e|e;.exact bb.mpr (.inl e)
    .exact aI _ (i2 g e)
theorem BP (f)(v):∀fs:List (Str×V),(jx f v fs).length<=fs.length+1
 | []=>by simp[jx]
 | (k,x)::r=>by
  have ih:=BP f v r;rw[show jx f v ((k,x)::r)=(if k=f then (k,v)::r else (k,x)::jx f v r) from rfl];by_cases hk:k=f;.rw[if_pos hk,bt,bt];lia
  .rw[if_neg hk,bt,bt];exact gm ih
def j4.some_of (r:j4 (some v) o):∃u,o=some u/\bJ v u:=by
 cases o with| none=>exact(show False from r).elim| some u=>exact⟨u,rfl,r⟩
def j4.none_of (r:j4 none o):o=none:=by
 cases o with| none=>rfl| some u=>exact(show False from r).elim
def Vf (r:bJ v u):W.handedIn u=true:=by
 cases v with
 | non=>cases(show u=Value.none from r);rfl
 | bl b=>cases(show u=Value.bool b from r);rfl
 | int i=>obtain⟨t,e⟩:=(show ∃t,u=Value.int i t from r);cases e;rfl
 | str x=>obtain⟨t,e⟩:=(show ∃t,u=Value.str x t from r);cases e;rfl
 | yx b=>obtain⟨t,e⟩:=(show ∃t,u=Value.bytes b t from r);cases e;rfl
 | flt b=>obtain⟨t,e⟩:=(show ∃t,u=Value.float b t from r);cases e;rfl
 | ref a=>cases(show u=Value.ref a from r);rfl
 | ty n=>cases(show u=Value.type n from r);rfl
section
variable {P:Program}{w:World}{H:Hp}{h:Heap}{a C dx:Addr}{fs:List (Str×V)}
def Ah (hok:iU P w H h)(e:H a=some (.ins C dx fs)):∃mA,Cq h a dx C mA/\(∀f,j4 (fs.lookup f) (mA f))/\PySem.Within mA (fs.map (·.1))/\fs.length<=1000/\H dx=some (.own a):=by
 obtain⟨d,z,ne,ob,mA,n,r,q⟩:=(show dU P w H h a (.ins C dx fs) from hok a _ e)
 exact⟨mA,⟨ob,n,ne⟩,r,q,z,d⟩
end
structure Cls (K:W.Frag)(C:Addr):Prop where
 pg:W.plainGet K C Str.empty=true
 hd:W.hasDictIn K C=true
 po:W.plainOver K C=true
 sa:W.findIn K (.ref C) "__setattr__"=some (some (.builtin "object.__setattr__"))
def Cls.get {K:W.Frag}(c:Cls K C)(f:Str):W.plainGet K C f=true:=c.pg
def mH (K:W.Frag)(C:Addr)(f:Str):Prop:=W.findIn K (.ref C) f=some none
def mH.taker {K:W.Frag}{f:Str}(n:mH K C f):W.takerIn K C f=some none:=by unfold W.takerIn;rw[show W.findIn K (.ref C) f=some none from n];rfl
structure Meth (K:W.Frag)(C:Addr)(m:Str)(f:Addr):Prop where
 at_:W.findIn K (.ref C) m=some (some (.ref f))
 fn:W.isFn K (.ref f)=true
 kp:W.keepIn K (.ref f)=true
section
variable {X:Cx}{aq:AC}{σ:St}{H:Hp}{s:Shared}{a C dx:Addr}{fs:List (Str×V)}{f:Str}{v:V}{A:Around}{E:AB}
def RZ (I:aJ X aq σ H s)(e:H a=some (.ins C dx fs))(c:Cls X.K C)(n:mH X.K C f)(l:fs.lookup f=some v)(h:∀u s',aJ X aq σ H s'->bJ v u->Q u s'):wpAny (model X.prog X.w) A (getAttr (.ref a) f b) Q E s:=by obtain⟨mA,O,r,_,_,_⟩:=Ah I.hok e;obtain⟨u,hu,ru⟩:=j4.some_of (v:=v) (o:=mA f) (by rw[<-l];exact r f);exact get_map I.jq O (c.get f) c.hd n hu (Vf ru) (h u _ (I.tok _) ru)
def DR (I:aJ X aq σ H s)(e:H a=some (.ins C dx fs))(c:Cls X.K C)(k:Meth X.K C m g)(l:fs.lookup m=none)(h:Q (.ref g,[.ref a]) s):wpAny (model X.prog X.w) A (getMethod (.ref a) m pl) Q E s:=by obtain⟨mA,O,r,_,_,_⟩:=Ah I.hok e;have hn:mA m=none:=j4.none_of (by rw[<-l];exact r m);exact Yw I.jq O (c.get m) k.at_ k.fn hn h
def R6 (I:aJ X aq σ H s)(e:H a=some (.ins C dx fs))(c:Cls X.K C)(n:mH X.K C f)(hl:fs.length<1000)(ry:bJ y u)(h:∀s',aJ X aq σ (upd H a (.ins C dx (jx f y fs))) s'->Q () s'):wpAny (model X.prog X.w) A (setAttr (.ref a) f u) Q E s:=by
 obtain⟨mA,O,r,wi,_,ho⟩:=Ah I.hok e;have hz:(fs.map (·.1)).length<=sizeLine:=by rw[aa,sizeLine_eq];lia
 refine abh I.jq O c.sa c.po n.taker c.hd wi hz λh' O' sb=>h _ ?_;have hd:∃o,h'.get? dx=some o:=let ⟨o,_,_,e',_⟩:=O'.ns;⟨o,e'⟩
 refine I.write (x:=a) (e:=dx) (by rw[e];exact True.intro) (.inr ho) (λb q hb z=>(sb.2 b hb).trans z) hd ?_;refine⟨by rw[bw O.ne];exact ho,?_,O.ne,O'.obj,_,O'.ns,λg=>?_,λg hg=>?_⟩;.have:=BP f y fs;lia
 .show j4 ((jx f y fs).lookup g) (if g=f then some u else mA g);rw[BL];by_cases q:g=f;.rw[if_pos q,if_pos q];exact ry
  .rw[if_neg q,if_neg q];exact r g
 .by_cases q:g=f;.rw[q];exact(yP f y fs).1
  .refine(yP f y fs).2 g (wi g λz=>hg ?_);show (if g=f then some u else mA g)=none;rw[if_neg q];exact z
def aJ.made (I:aJ X aq σ H s):aJ X aq σ (upd (upd H s.heap.objs.size (.own (s.heap.objs.size+1))) (s.heap.objs.size+1) (.ins C s.heap.objs.size [])) {s with heap:=(s.heap.push W.emptyDict).push (W.instObj C s.heap.objs.size)}:=by
 have e1:(s.heap.push W.emptyDict).get? s.heap.objs.size=some W.emptyDict:=aS s.heap rfl;have e2:((s.heap.push W.emptyDict).push (W.instObj C s.heap.objs.size)).get? (s.heap.objs.size+1)=some (W.instObj C s.heap.objs.size):=by
  have:=aS (s.heap.push W.emptyDict) (o:=W.instObj C s.heap.objs.size) rfl
  rwa [ef]at this
 have e3:(s.heap.push W.emptyDict).Ns s.heap.objs.size (λ_=>none):=⟨W.emptyDict,#[],_,e1,rfl,(λe he=>absurd he vF),λ_=>rfl⟩
 have I1:=I.laid (a:=s.heap.objs.size) (o:=.own (s.heap.objs.size+1)) (h':=s.heap.push W.emptyDict) (t':=s.toks) (λb u q=>af _ q) (ag _) ⟨_,e1⟩;refine I1.laid (a:=s.heap.objs.size+1) (o:=.ins C s.heap.objs.size []) (t':=s.toks) (λb u q=>af _ q) (kS (ef _ _)) ?_;have ne:s.heap.objs.size≠s.heap.objs.size+1:=be (e8 _);refine⟨by rw[bw ne,au],cw _,ne,e2,λ_=>none,(Heap.Ns1.of_empty e3).at λo q=>af _ q,λ_=>True.intro,λy hy=>absurd rfl hy⟩
def abj (hb:attributeBase e f env (eval e env)=eval e env)(h:wpAny (model prog w) A (eval e env) (λo s₁=>wpAny (model prog w) A (getAttr o f true) Q E s₁) E s):wpAny (model prog w) A (eval (.Attribute e f pos) env) Q E s:=Attribute_any_ h (by rw[arm_eval_Attribute,hb])
end
def adv (K:W.Frag)(ta:TE)(f:Str):TE:=λσ H Q=>ta σ H λx H1=>∃a C dx fs v,x=.ref a/\H1 a=some (.ins C dx fs)/\Cls K C/\mH K C f/\fs.lookup f=some v/\Q v H1
def adw (K:W.Frag)(ta tv:TE)(f:Str):TS:=λD σ H=>tv σ H λy H1=>ta σ H1 λx H2=>∃a C dx fs,x=.ref a/\H2 a=some (.ins C dx fs)/\Cls K C/\mH K C f/\fs.length<1000/\
 D.nx σ (upd H2 a (.ins C dx (jx f y fs)))
section
variable {X:Cx}{o e value:Expr}{f:Str}{pos pos':Pos}{ta tv:TE}
variable {aq:AC}{σ:St}{H:Hp}{s:Shared}{A:Around}{E Q:AB}{c:Value}{b:Bool}
def adx (he:PE X e ta)(hb:attributeBase e f X.env (eval e X.env)=eval e X.env):PE X (.Attribute e f pos) (adv X.K ta f):=by intro aq s σ H Q I h;refine abj hb (bH (he aq s σ H _ I h) λu s1 zz=>?_);obtain⟨x,H1,I1,rx,a,C,dx,fs,v,ex,ea,c,n,l,q⟩:=zz;subst ex;obtain rfl:u=Value.ref a:=rx;exact RZ I1 ea c n l λu' s2 I2 ru=>⟨v,H1,I2,ru,q⟩
def ady (ha:PE X o ta)(hv:PE X value tv)(hs:swapsWith value (some (.Attribute o f pos')) pos.line X.env=pure false):PS X (.Assign [.Attribute o f pos'] value pos) (adw X.K ta tv f):=by intro aq s σ H D I h;refine plainObj_wpAny_Assign_Attribute (bH (hv aq s σ H _ I h) λu s1 zz=>?_) hs;obtain⟨y,H1,I1,ry,q⟩:=zz;refine bH (ha aq s1 σ H1 _ I1 q) λov s2 zz=>?_;obtain⟨x,H2,I2,rx,a,C,dx,fs,ex,ea,c,n,l,q2⟩:=zz;subst ex;obtain rfl:ov=Value.ref a:=rx;exact R6 I2 ea c n l ry λs3 I3=>⟨σ,_,I3,q2⟩
inductive n6 (K:W.Frag) (H:Hp):V->Value->Prop where
 | non:n6 K H .non (.type "NoneType")
 | bl (x:Bool):n6 K H (.bl x) (.type "bool")
 | int (i:Int):n6 K H (.int i) (.type "int")
 | str (x:Str):n6 K H (.str x) (.type "str")
 | flt (x:UInt64):n6 K H (.flt x) (.type "float")
 | lst {a:Addr} {xs:List V} (e:H a=some (.lst xs)):n6 K H (.ref a) (.type "list")
 | o9 {a:Addr} {o:Obj} {xs:List V} (e:H a=some (.o9 o (.lst xs))):n6 K H (.ref a) (.type "list")
 | tup {a:Addr} {xs:List V} (e:H a=some (.tup xs)):n6 K H (.ref a) (.type "tuple")
 | dK {a:Addr} {kvs:List (Key×V)} (e:H a=some (.dK kvs)):n6 K H (.ref a) (.type "dict")
 | dT {a:Addr} {kvs:List (List Key×V)} (e:H a=some (.dT kvs)):n6 K H (.ref a) (.type "dict")
 | ins {a C dx:Addr} {fs:List (Str×V)} (e:H a=some (.ins C dx fs)) (cl:Cls K C) (ha:W.findIn K (.ref C) "__class__"=some (some (.builtin "object.__class__")))
   (hn:W.specialIn K (.builtin "object.__class__") "__get__"=some (some (.builtin "getset_descriptor.__get__"))) (htk:W.takesIn K (.builtin "object.__class__")=some true)
   (hm:W.mroIn K C (.type "object")=some true):n6 K H (.ref a) (.ref C)
def Vg (I:aJ X aq σ H s)(rx:bJ x u)(ty:n6 X.K H x t)(e:W.kitOne X.K t c=some b)(h:∀tk,Q (.bool b) {s with toks:=tk}):wpAny (model X.prog X.w) A (call (.builtin "isinstance") [u,c]) Q E s:=by
 cases ty with
 | non=>cases(show u=Value.none from rx);exact f6 W.kitx_none I.jq True.intro e (λz=>nomatch z) h
 | bl y=>cases(show u=Value.bool y from rx);exact f6 W.kitx_bool I.jq True.intro e (λz=>nomatch z) h
 | int i=>obtain⟨t,q⟩:=(show ∃t,u=Value.int i t from rx);cases q;exact f6 W.kitx_int I.jq True.intro e (λz=>nomatch z) h
 | str y=>obtain⟨t,q⟩:=(show ∃t,u=Value.str y t from rx);cases q;exact f6 W.kitx_str I.jq True.intro e (λz=>nomatch z) h
 | flt y=>obtain⟨t,q⟩:=(show ∃t,u=Value.float y t from rx);cases q;exact f6 W.kitx_float I.jq True.intro e (λz=>nomatch z) h
 | @lst a xs ea=>
  cases(show u=Value.ref a from rx);obtain⟨_,_,n,_,h1⟩:=(show dU X.prog X.w H s.heap a (.lst xs) from I.hok a _ ea)
  exact f6 W.kitx_list I.jq ⟨_,h1,rfl⟩ e (λz=>nomatch z) h
 | @o9 a ob xs ea=>
  cases(show u=Value.ref a from rx);obtain⟨_,_,_,n,_,h1⟩:=(show dU X.prog X.w H s.heap a (.o9 ob (.lst xs)) from I.hok a _ ea)
  exact f6 W.kitx_list I.jq ⟨_,h1,rfl⟩ e (λz=>nomatch z) h
 | @tup a xs ea=>
  cases(show u=Value.ref a from rx);obtain⟨_,_,_,p⟩:=(show dU X.prog X.w H s.heap a (.tup xs) from I.hok a _ ea)
  obtain⟨o,h1,h2,_⟩:=p;exact f6 W.kitx_tuple I.jq ⟨o,h1,h2⟩ e (λz=>nomatch z) h
 | @dK a kvs ea=>
  cases(show u=Value.ref a from rx);obtain⟨_,_,vs,_,p⟩:=(show dU X.prog X.w H s.heap a (.dK kvs) from I.hok a _ ea)
  obtain⟨o,es,ep,h1,h2,_⟩:=p;exact f6 W.kitx_dict I.jq ⟨o,h1,h2.1⟩ e (λz=>nomatch z) h
 | @dT a kvs ea=>
  cases(show u=Value.ref a from rx);obtain⟨_,_,xs,_,o,es,ep,h1,h2,_⟩:=(show dU X.prog X.w H s.heap a (.dT kvs) from I.hok a _ ea)
  exact f6 W.kitx_dict I.jq ⟨o,h1,h2.1⟩ e (λz=>nomatch z) h
 | @ins a C dx fs ea cl ha hn htk hm=>cases(show u=Value.ref a from rx);obtain⟨mA,O,_⟩:=Ah I.hok ea;obtain⟨od,J,_⟩:=O.look;exact f6 (W.kitx_own (cl.get _) cl.hd ha hn htk hm) I.jq J e (λz=>nomatch z) h
end
structure dY (k:Nat)(A:Around):Prop where
 hd:A.handled=none
 dp:A.depth+3*k+5<recursionLimit
 un:A.units+16*k+200<cLine
def dY.mono (r:dY k A)(h:j<=k:=by decide):dY j A:=⟨r.hd,by have:=r.dp;lia,by have:=r.un;lia⟩
def dY.deeper (r:dY (k+1) A)(env):dY k (A.deeper env):=⟨r.hd,by have:=r.dp;show A.depth+1+3*k+5<_;lia,by have:=r.un;show A.units+3+16*k+200<_;lia⟩
def R7 {A:Around}:(A.under (.builtin "type.__call__" ⟨.ref C::us,kw⟩)).depth=A.depth+1:=by first|rfl|simp[Around.under,Code.weight,Code.isCreation,Code.isGuard,Code.isCaller,Code.frames,Code.isFrame,guardIds]
def R8 {A:Around}:(A.under (.builtin "type.__call__" ⟨.ref C::us,kw⟩)).units=A.units+1:=by first|rfl|simp[Around.under,Code.cUnits,Code.frames,Code.isFrame]
def dY.make (r:dY (k+1) A)(C)(us)(kw):dY k (A.under (.builtin "type.__call__" ⟨.ref C::us,kw⟩)):=⟨r.hd,by have:=r.dp;rw[R7];(simp_all;lia),by have:=r.un;rw[R8];(simp_all;lia)⟩
def dY.depth (r:dY k A):A.depth<recursionLimit:=by have:=r.dp;lia
def dY.units (r:dY k A):A.units+64<cLine:=by have:=r.un;lia
def n8:TA:=λ_ H Q=>Q [] H
def iR (ta:TE)(tr:TA):TA:=λσ H Q=>ta σ H λx H1=>tr σ H1 λxs H2=>Q (x::xs) H2
section
variable {X:Cx}{e:Expr}{es:List Expr}{te:TE}{t:TA}{pos:Pos}
def adz:PA X [] n8:=λ_ _ _ _ H Q I h=>kK ⟨[],H,I,.nil,h⟩
def abk (ha:PE X e te)(hr:PA X es t)(hs:starEach (e::es) X.env=(false,eval e X.env)::starEach es X.env:=by rfl):PA X (e::es) (iR te t):=by intro pos aq s σ H Q I h;rw[hs];show wpAny _ _ (spliced ((false,eval e X.env)::backTo pos (starEach es X.env))) _ _ s;refine eR (bH (ha aq s σ H _ I h) λu s1 zz=>?_);obtain⟨x,H1,I1,r1,q1⟩:=zz;exact bH (hr pos aq s1 σ H1 _ I1 q1) λus s2 ⟨xs,H2,I2,r2,q2⟩=>⟨x::xs,H2,I2,.cons r1 r2,q2⟩
def Yy (t:TA):TE:=λσ H Q=>t σ H λxs H1=>xs.length<=sizeLine/\∀p,H1 p=none->Q (.ref p) (upd H1 p (.tup xs))
def adA (t:TA):TE:=λσ H Q=>t σ H λxs H1=>xs.length<=sizeLine/\∀p,H1 p=none->Q (.ref p) (upd H1 p (.lst xs))
def adB {x1}(h:PA X es t):PE X (.Tuple es x1 pos) (Yy t):=by intro aq s σ H Q I hq;refine wpAny_Tuple_spliced (bH (h pos aq s σ H _ I hq) λus s1 ⟨xs,H1,I1,r,z,q⟩=>⟨by rw[<-r.length];exact z,?_⟩);have hf:H1 s1.heap.objs.size=none:=I1.hok.fresh (ag _);refine⟨.ref s1.heap.objs.size,upd H1 s1.heap.objs.size (.tup xs),I1.laid (t':=s1.toks) (λb u e=>af _ e) (ag _) ?_,rfl,q _ hf⟩;exact⟨z,us,r,⟨_,aS _ rfl,rfl,_,rfl⟩⟩
def adC (h:PA X es t):PE X (.List es pos) (adA t):=by intro aq s σ H Q I hq;refine wpAny_List_spliced (bH (h pos aq s σ H _ I hq) λus s1 ⟨xs,H1,I1,r,z,q⟩=>⟨by rw[<-r.length];exact z,?_⟩);have hf:H1 s1.heap.objs.size=none:=I1.hok.fresh (ag _);refine⟨.ref s1.heap.objs.size,upd H1 s1.heap.objs.size (.lst xs),I1.laid (t':=s1.toks) (λb u e=>af _ e) (ag _) ?_,rfl,q _ hf⟩;exact⟨z,us,0,r,aS _ rfl⟩
end
abbrev Sp:=List V->Hp->VK->XK->Prop
abbrev rF:=List Env->Hp->Shared->XK->Value->Shared->Prop
structure yQ (P:Program)(w:World)(K:W.Frag)(mg:Str->Option Value)(base:Heap)(A:Around)(outer:List Env)(s:Shared)(H:Hp):Prop where
 frames:A.frames=some outer
 mod:Mod K mg base
 bs:∀b o,base.get? b=some o->s.heap.get? b=some o/\H b=none
 DG:base.objs.size<=s.heap.objs.size
 qN:s.heap.FunFrames base outer
 KC:∀b∈frs outer,H b=none
 hok:iU P w H s.heap
 bare:AllBare s.gens
def CE (outer:List Env)(P:Program)(w:World)(H:Hp)(s:Shared)(Q:VK)(u:Value)(s':Shared):Prop:=∃v H',s'.os=s.os/\AllBare s'.gens/\Un (frs outer) [] H H' s.heap s'.heap/\iU P w H' s'.heap/\bJ v u/\Q v H'
def CR (CX:rF)(outer:List Env)(P:Program)(w:World)(H:Hp)(s:Shared)(Q:VK)(E:XK)(r:Result)(s':Shared):Prop:=match r with| .ok (.ret u)=>CE outer P w H s Q u s'| .ok _=>False| .error e=>CX outer H s E e s'
structure cL (P:Program)(w:World)(K:W.Frag)(mg:Str->Option Value)(base:Heap)(CX:rF)(k:Nat)(f:Addr)(fd:FuncData)(ps:List Str)(sp:Sp):Prop where
 len:∀vs H Q E,sp vs H Q E->vs.length=ps.length
 run:∀(A:Around) (outer:List Env) (s:Shared) (H:Hp) (args:Args) (us:List Value) (vs:List V) (Q:VK) (E:XK),dY k A->yQ P w K mg base A outer s H->BindsTo s fd args (ps.zip us)->Vals vs us->sp vs H Q E->
  codeAny (model P w) A (.call (.ref f) args) (CR CX outer P w H s Q E) s
def cL.mono {K:W.Frag}{mg:Str->Option Value}{CX:rF}{j k:Nat}{ps:List Str}{sp:Sp}(F:cL P w K mg base CX j f fd ps sp)(h:j<=k):cL P w K mg base CX k f fd ps sp:=⟨F.len,λA outer s H args us vs Q E hr=>F.run A outer s H args us vs Q E (hr.mono h)⟩
def yQ.make {K:W.Frag}{mg:Str->Option Value}{outer:List Env}(e:yQ P w K mg base A outer s H)(C:Addr)(us:List Value)(kw:List (Str×Value)):yQ P w K mg base (A.under (.builtin "type.__call__" ⟨.ref C::us,kw⟩)) outer s H:=⟨by first|exact e.frames|(simpa [Around.under,Code.envs,Code.isFrame,pushEnvs] using e.frames),e.mod,e.bs,e.DG,e.qN,e.KC,e.hok,e.bare⟩
section
variable {X:Cx}{aq:AC}{σ:St}{H:Hp}{s s':Shared}
def aJ.env0 (I:aJ X aq σ H s):yQ X.prog X.w X.K X.mg X.base X.A X.stack s H:=⟨I.ok.frames,I.ok.mod,I.bs,a9 I.ok.DG I.sz,I.stack,I.PX,I.hok,I.bare⟩
def aJ.after (I:aJ X aq σ H s)(h:CE X.stack X.prog X.w H s Q u s'):EP X aq σ Q u s':=by obtain⟨v,H',os,bare,un,hok,r,q⟩:=h;obtain⟨hh,g,d,t,os'⟩:=s';obtain rfl:os'=s.os:=os;exact⟨v,H',I.call (h':=hh) (g':=g) (d':=d) (t':=t) (ch:=[]) un hok bare (λb z=>absurd z vF),r,q⟩
end
def wI (sp:Sp)(iC:List V)(E:XK)(t:TA):TE:=λσ H Q=>t σ H λvs H1=>sp (vs++iC) H1 Q E
def DW (C:Addr)(m:Str)(sp:Sp)(iC:List V)(E:XK)(ta:TE)(t:TA):TE:=λσ H Q=>ta σ H λx H1=>∃a dx fs,x=.ref a/\H1 a=some (.ins C dx fs)/\fs.lookup m=none/\
 t σ H1 λvs H2=>sp (x::(vs++iC)) H2 Q E
def aaK (C:Addr)(sp:Sp)(iC:List V)(E:XK)(t:TA):TE:=λσ H Q=>t σ H λvs H1=>∀x dx,H1 x=none->H1 dx=none->dx≠x->
 sp (.ref x::(vs++iC)) (upd (upd H1 dx (.own x)) x (.ins C dx [])) (λv H2=>v=.non/\Q (.ref x) H2) E
def cj (K:W.Frag)(fd:FuncData)(ps:List Str)(ds:List Value):Prop:=∀(s:Shared) (us:List Value),K.In s.heap->(us++ds).length=ps.length->BindsTo s fd ⟨us,[]⟩ (ps.zip (us++ds))
def cj.all {K:W.Frag}{ps:List Str}(h:∀us:List Value,us.length=ps.length->bindArgs fd ⟨us,[]⟩=pure (ps.zip us)):cj K fd ps []:=λs us _ hl=>by rw[fq]at hl ⊢;exact .of_eq (h us hl)
def Passes (CX:rF)(X:Cx)(E:XK):Prop:=∀(aq:AC) (σ:St) (H:Hp) (s:Shared) (e:Value) (s':Shared),aJ X aq σ H s->CX X.stack H s E e s'->X.xe e s'
section
variable {X:Cx}{CX:rF}{k:Nat}{f C:Addr}{fd:FuncData}{ps:List Str}{sp:Sp}{iC:List V}{ds:List Value}{E:XK}{x m:Str}{p pos apos:Pos}{e o:Expr}{es:List Expr}{ta:TE}{t:TA}
def KQ {aq:AC}{σ:St}{H:Hp}{s:Shared}{Q:VK}{us:List Value}{vs:List V}(F:cL X.prog X.w X.K X.mg X.base CX k f fd ps sp)(hr:dY k X.A)(hb:cj X.K fd ps ds)(hd:Vals iC ds)(hx:Passes CX X E)(I:aJ X aq σ H s)(r:Vals vs us)(h:sp (vs++iC) H Q E):wpAny (model X.prog X.w) X.A (call (.ref f) us) (EP X aq σ Q) X.xe s:=by
 have r2:Vals (vs++iC) (us++ds):=r.append hd;have hl:(us++ds).length=ps.length:=by rw[<-r2.length];exact F.len _ _ _ _ h
 refine t7 (io (F.run X.A X.stack s H ⟨us,[]⟩ (us++ds) (vs++iC) Q E hr I.env0 (hb s us I.jq hl) r2 h) λr s' hq=>?_);cases r with
 | error e=>exact hx aq σ H s e s' I hq
 | ok fl=>
  cases fl with| ret u=>exact I.after hq| next=>exact False.elim hq| brk=>exact False.elim hq| cont=>exact False.elim hq
def abl (F:cL X.prog X.w X.K X.mg X.base CX k f fd ps sp)(hr:dY k X.A)(hg:Gl X x)(hm:X.mg x=some (.ref f))(hk:W.keepIn X.K (.ref f)=true)(hb:cj X.K fd ps ds)(hd:Vals iC ds)(hx:Passes CX X E)(ha:PA X (e::es) t)(hdb:(x==("__debug__":Str))=false:=by decide)(he:starEach (e::es) X.env=(false,eval e X.env)::starEach es X.env:=by rfl)(hpl:(backTo pos (starEach es X.env)).any (·.1)=false:=by rfl):PE X (.Call (.Name x p) (e::es) [] pos) (wI sp iC E t):=by intro aq s σ H Q I h;refine km (Af I hg hm ?_ hdb);refine ox (h₀:=X.base) I.ok.mod.Ky hk (bH (ha pos aq s σ H _ I h) λus s1 ⟨vs,H1,I1,r,q⟩=>⟨I1.jq,?_⟩) he hpl;exact KQ F hr hb hd hx I1 r q
def abm {pl:Sem Bool}(he:PE X o ta)(c:Cls X.K C)(hm:Meth X.K C m f)(F:cL X.prog X.w X.K X.mg X.base CX k f fd ps sp)(hr:dY k X.A)(hb:cj X.K fd ps ds)(hd:Vals iC ds)(hx:Passes CX X E)(ha:PA X (e::es) t)(hst:starEach (e::es) X.env=(false,eval e X.env)::starEach es X.env:=by rfl)(hpl:(backTo pos (starEach es X.env)).any (·.1)=false:=by rfl)(ht:eval (.Call (.Attribute o m apos) (e::es) [] pos) X.env=(do
   let ov <- eval o X.env
   standAt apos.atName
   let (f,first) <- holding [ov] (getMethod ov m pl)
   callWith pos f first (backTo pos (starEach (e::es) X.env)) (backToKw pos (keywordEach [] X.env))):=by rfl) :
  PE X (.Call (.Attribute o m apos) (e::es) [] pos) (DW C m sp iC E ta t):=by
 intro aq s σ H Q I h;refine W.methodCall_KW (pl:=pl) (bH (he aq s σ H _ I h) λu s1 zz=>?_) ht;obtain⟨x,H1,I1,rx,a,dx,fs,ex,ea,l,q⟩:=zz;subst ex;obtain rfl:u=Value.ref a:=rx;refine DR I1 ea c hm l ?_;refine ox (first:=[.ref a]) (h₀:=X.base) I.ok.mod.Ky hm.kp (bH (ha pos aq s1 σ H1 _ I1 q) λus s2 ⟨vs,H2,I2,r,q2⟩=>⟨I2.jq,?_⟩) hst hpl;exact KQ (us:=.ref a::us) (vs:=.ref a::vs) F hr hb hd hx I2 (.cons rfl r) q2
def Yz (he:PE X o ta)(c:Cls X.K C)(hm:Meth X.K C m f)(F:cL X.prog X.w X.K X.mg X.base CX k f fd ps sp)(hr:dY k X.A)(hb:cj X.K fd ps ds)(hd:Vals iC ds)(hx:Passes CX X E)(ht:eval (.Call (.Attribute o m apos) [] [] pos) X.env=(do
   let ov <- eval o X.env
   standAt apos.atName
   let (f,first) <- holding [ov] (getMethod ov m pl)
   callWith pos f first (backTo pos (starEach [] X.env)) (backToKw pos (keywordEach [] X.env))):=by rfl) :
  PE X (.Call (.Attribute o m apos) [] [] pos) (DW C m sp iC E ta n8):=by
 intro aq s σ H Q I h;refine W.methodCall_KW (pl:=pl) (bH (he aq s σ H _ I h) λu s1 zz=>?_) ht;obtain⟨x,H1,I1,rx,a,dx,fs,ex,ea,l,q⟩:=zz;subst ex;obtain rfl:u=Value.ref a:=rx;refine DR I1 ea c hm l ?_;exact W.callWith_K0 (first:=[.ref a]) I1.jq hm.kp (KQ (us:=[.ref a]) (vs:=[.ref a]) F hr hb hd hx I1 (.cons rfl .nil) q)
structure Mk (K:W.Frag)(C f:Addr):Prop where
 makes:W.makesIn K C=true
 init:W.findIn K (.ref C) "__init__"=some (some (.ref f))
 fn:W.isFn K (.ref f)=true
 kp:W.keepIn K (.ref C)=true
def YB {aq:AC}{σ:St}{H:Hp}{s:Shared}{Q:VK}{us:List Value}{vs:List V}(M:Mk X.K C f)(F:cL X.prog X.w X.K X.mg X.base CX k f fd ps sp)(hr:dY (k+1) X.A)(hb:cj X.K fd ps ds)(hd:Vals iC ds)(hx:Passes CX X E)(I:aJ X aq σ H s)(r:Vals vs us)(h:∀x dx,H x=none->H dx=none->dx≠x->sp (.ref x::(vs++iC)) (upd (upd H dx (.own x)) x (.ins C dx [])) (λv H2=>v=.non/\Q (.ref x) H2) E):wpAny (model X.prog X.w) X.A (call (.ref C) us) (EP X aq σ Q) X.xe s:=by
 have hq:=h (s.heap.objs.size+1) s.heap.objs.size (I.hok.fresh (fA _)) (I.hok.fresh (ag _)) (be (e8 _));have I2:=aJ.made (C:=C) I;have r2:Vals (V.ref (s.heap.objs.size+1)::(vs++iC)) (Value.ref (s.heap.objs.size+1)::(us++ds)):=.cons rfl (r.append hd);have hl:(Value.ref (s.heap.objs.size+1)::us++ds).length=ps.length:=by have e:=r2.length;rw[F.len _ _ _ _ hq]at e;exact e.symm
 refine t7 (Yx (f:=f) I.jq M.makes M.init (beq_iff_eq.mp M.fn) (io (F.run _ X.stack _ _ ⟨Value.ref (s.heap.objs.size+1)::us,[]⟩ (Value.ref (s.heap.objs.size+1)::(us++ds)) _ _ E (hr.make C us [])
  (I2.env0.make C us []) (hb _ (Value.ref (s.heap.objs.size+1)::us) I2.jq hl) r2 hq) λr s' hq'=>?_))
 cases r with
 | error e=>exact hx aq σ _ _ e s' I2 hq'
 | ok fl=>
  cases fl with
  | ret u=>obtain⟨v,H',I3,rv,ev,q3⟩:=I2.after hq';subst ev;exact⟨rv,⟨V.ref (s.heap.objs.size+1),H',I3,rfl,q3⟩⟩
  | next=>exact False.elim hq'
  | brk=>exact False.elim hq'
  | cont=>exact False.elim hq'
def abn (M:Mk X.K C f)(F:cL X.prog X.w X.K X.mg X.base CX k f fd ps sp)(hr:dY (k+1) X.A)(hg:Gl X x)(hm:X.mg x=some (.ref C))(hb:cj X.K fd ps ds)(hd:Vals iC ds)(hx:Passes CX X E)(ha:PA X (e::es) t)(hdb:(x==("__debug__":Str))=false:=by decide)(he:starEach (e::es) X.env=(false,eval e X.env)::starEach es X.env:=by rfl)(hpl:(backTo pos (starEach es X.env)).any (·.1)=false:=by rfl):PE X (.Call (.Name x p) (e::es) [] pos) (aaK C sp iC E t):=by intro aq s σ H Q I h;refine km (Af I hg hm ?_ hdb);refine ox (h₀:=X.base) I.ok.mod.Ky M.kp (bH (ha pos aq s σ H _ I h) λus s1 ⟨vs,H1,I1,r,q⟩=>⟨I1.jq,?_⟩) he hpl;exact YB M F hr hb hd hx I1 r q
end
def PK (X:Cx)(kws:List Keyword)(t:TA):Prop:=∀(pos:Pos) (aq:AC) (s:Shared) (σ:St) (H:Hp) (Q:List V->Hp->Prop),aJ X aq σ H s->t σ H Q->wpAny (model X.prog X.w) X.A (evalAll ((backToKw pos (keywordEach kws X.env)).map (·.2))) (AP X aq σ Q) X.xe s
section
variable {X:Cx}{x:Str}{pos kpos:Pos}{e:Expr}{kws:List Keyword}{te:TE}{t:TA}{nm:Option Str}
def adD:PK X [] n8:=λ_ _ _ _ H Q I h=>wpAny_evalAll_nil ⟨[],H,I,.nil,h⟩
def abo (ha:PE X e te)(hr:PK X kws t):PK X (⟨nm,e,kpos⟩::kws) (iR te t):=by intro pos aq s σ H Q I h;show wpAny _ _ (evalAll ((do let v <- eval e X.env;standAt pos;pure v)::(backToKw pos (keywordEach kws X.env)).map (·.2))) _ _ s;refine wpAny_evalAll_cons (ab (bH (ha aq s σ H _ I h) λu s1 ⟨x,H1,I1,r1,q1⟩=>ab (qS (ah ?_))));exact bH (hr pos aq s1 σ H1 _ I1 q1) λus s2 ⟨xs,H2,I2,r2,q2⟩=>⟨x::xs,H2,I2,.cons r1 r2,q2⟩
end
structure aW (N P:List Str)(sc:Scope):Prop where
 kind:sc.kind=.function:=by rfl
 co:sc.isCoroutine=false:=by rfl
 gen:sc.isGenerator=false:=by rfl
 nd:N.Nodup:=by decide +kernel
 pre:N.take P.length=P:=by rfl
 par:∀x∈P,sc.names.lookup x=some .local\/sc.names.lookup x=some .cell:=by decide +kernel
 adE:∀y∈sc.names,y.2≠.free:=by decide +kernel
theorem Il {kindOf:Str->Option NameKind}{x:Str}:∀{binds:List (Str×Value)} {m:Str->Option Value},(∀v,(x,v)∉binds)->bindL kindOf binds m x=m x
 | [],_,_=>rfl
 | (n,v)::r,m,h=>by
  unfold bindL;rw[Il λw hw=>h w (aI _ hw)];split
  .have:x≠n:=by rintro rfl;exact h v a6
   simp[this]
  .rfl
theorem Im {kindOf:Str->Option NameKind}{x:Str}:∀{binds:List (Str×Value)} {m:Str->Option Value},(∀v,(x,v)∉binds)->bindC kindOf binds m x=m x
 | [],_,_=>rfl
 | (n,v)::r,m,h=>by
  unfold bindC;rw[Im λw hw=>h w (aI _ hw)];split;.rfl
  .have:x≠n:=by rintro rfl;exact h v a6
   simp[this]
theorem yR {kindOf:Str->Option NameKind}{x:Str}:∀{P:List Str} {vs:List Value} {i:Nat} {m:Str->Option Value},P.Nodup->P[i]?=some x->vs[i]?=some v->kindOf x=some .local->
  bindL kindOf (P.zip vs) m x=some v
 | [],_,_,_,_,h,_,_=>by simp at h
 | _::_,[],_,_,_,_,h,_=>by simp at h
 | p::P,w::vs,0,m,nd,h1,h2,hk=>by simp at h1 h2;subst h1;subst h2;show bindL kindOf ((p,w)::P.zip vs) m p=_;unfold bindL;rw[Il λv hv=>(f7.mp nd).1 (r0 hv).1,if_pos hk];simp
 | p::P,w::vs,i+1,m,nd,h1,h2,hk=>by show bindL kindOf ((p,w)::P.zip vs) m x=_;unfold bindL;exact yR (i:=i) (f7.mp nd).2 (by simpa using h1) (by simpa using h2) hk
theorem Io {kindOf:Str->Option NameKind}{x:Str}:∀{P:List Str} {vs:List Value} {i:Nat} {m:Str->Option Value},P.Nodup->P[i]?=some x->vs[i]?=some v->kindOf x≠some .local->
  bindC kindOf (P.zip vs) m x=some v
 | [],_,_,_,_,h,_,_=>by simp at h
 | _::_,[],_,_,_,_,h,_=>by simp at h
 | p::P,w::vs,0,m,nd,h1,h2,hk=>by simp at h1 h2;subst h1;subst h2;show bindC kindOf ((p,w)::P.zip vs) m p=_;unfold bindC;rw[Im λv hv=>(f7.mp nd).1 (r0 hv).1,if_neg hk];simp
 | p::P,w::vs,i+1,m,nd,h1,h2,hk=>by show bindC kindOf ((p,w)::P.zip vs) m x=_;unfold bindC;exact Io (i:=i) (f7.mp nd).2 (by simpa using h1) (by simpa using h2) hk
def start (N:List Str)(vs:List V):St:=vs.map some++List.replicate (N.length-vs.length) none
noncomputable def sO (CX:rF)(P:Program)(w:World)(K:W.Frag)(mg:Str->Option Value)(base:Heap)(N:List Str)(qual:Str)(scope:Scope)(f:Addr)(cd:Value)(A:Around)(outer:List Env)(s:Shared)(H:Hp)(E:XK):Cx where
 prog:=P
 w:=w
 K:=K
 mg:=mg
 base:=base
 A:=A.deeper (envOfC qual scope s.heap.objs.size f cd)
 N:=N
 s₀:=s
 H₀:=H
 env:=envOfC qual scope s.heap.objs.size f cd
 outer:=outer
 stack:=envOfC qual scope s.heap.objs.size f cd::outer
 ex:=[]
 calm:=true
 fn:=λ_=>true
 pn:=[]
 xe:=λe s'=>wpAny (model P w) (A.deeper (envOfC qual scope s.heap.objs.size f cd)) (leaving (envOfC qual scope s.heap.objs.size f cd) e) (λ_ s''=>CX outer H s E e s'') (λe' s''=>CX outer H s E e' s'') s'
def KR {sc:Scope}(h:sc.names.lookup x=some .cell):∃c,(cellsFrom n sc.names []).lookup x=some c:=by have q:=W.cellsFrom_some sc.names n [] (.inl h);exact Option.isSome_iff_exists.mp q
def Ip {CX:rF}{K:W.Frag}{mg:Str->Option Value}{N ps:List Str}{qual:Str}{scope:Scope}{A:Around}{outer:List Env}{E:XK}{vs:List V}(S:aW N ps scope)(hd:A.handled=none)(e0:yQ P w K mg base A outer s H)(hl:vs.length=ps.length)(r:Vals vs us)(x:InCallC s s.heap.objs.size (bindL (envOfC qual scope s.heap.objs.size f cd).kindOf (ps.zip us) λ_=>none) (cellsFrom (s.heap.objs.size+1) scope.names []) (bindC (envOfC qual scope s.heap.objs.size f cd).kindOf (ps.zip us) λ_=>none) s1):aJ (sO CX P w K mg base N qual scope f cd A outer s H E) [] (start N vs) H s1:=by
 have hpl:ps.length<=N.length:=by have:=congrArg List.length S.pre;rw[bn]at this;lia
 obtain⟨h1,tk,rfl,hk⟩:=x.done;have Vh:∀b:Addr,b∉(sO CX P w K mg base N qual scope f cd A outer s H E).ex:=λb z=>absurd (show b∈([]:List Addr) from z) vF;refine⟨⟨e0.mod,S.kind,rfl,rfl,ag _,λy z c h1 h2=>?_,λy hy=>?_,λy c _ h=>?_,λ_=>hd,Around.frames_deeper e0.frames,.inr ⟨rfl,rfl⟩,λb z=>absurd z (Vh b),e0.bs,e0.DG,λb _ _=>Vh b,λb z=>absurd z (Vh b),e0.qN,e0.KC⟩,
  rfl,e0.bare,Un.kept hk,⟨_,x.toInCall.ns,λi y v h1 h2 h3=>?_⟩,λy c h=>⟨_,x.cell y c h⟩,e0.hok.fresh (ag _),λy c h=>?_,λp hp=>absurd (show p∈([]:AC) from hp) vF,e0.hok.kept hk,?_⟩
 .exact name_of_addr x.apart (lT h1) (lT h2)
 .have hy:scope.names.lookup y=some .cell\/scope.names.lookup y=some .free:=hy;rcases hy with hy|hy;.exact KR hy
  .exact absurd rfl (S.adE _ (lT hy))
 .exact ay (x.above y c (lT h))
 .have hi:i<vs.length:=by
   unfold start at h2;by_cases hi:i<vs.length;.exact hi
   .rw[c_ (by simpa using hi)]at h2;rw[List.getElem?_replicate]at h2;split at h2 <;> cases h2
  have ha:vs[i]?=some v:=by
   unfold start at h2;rw[dQ (by simpa using hi),aw]at h2;cases e:vs[i]? with
   | none=>rw[e]at h2;cases h2
   | some a=>rw[e]at h2;cases h2;rfl
  obtain⟨u,hu,rv⟩:=r.get ha;have hp:ps[i]?=some y:=by rw[<-S.pre,oy (by simp_all)];exact h1
  have ndP:ps.Nodup:=by rw[<-S.pre];exact S.nd.sublist (pM _ _)
  refine⟨u,rv,?_⟩;rcases S.par y (aT hp) with k|k;.exact .inl ⟨k,yR ndP hp hu k⟩
  .obtain⟨c,e⟩:=KR (n:=s.heap.objs.size+1) k;refine .inr ⟨.inl k,c,e,?_⟩;have q:=x.cell y c e;rw[Io ndP hp hu (by show scope.names.lookup y≠_;rw[k];decide)]at q;exact q
 .exact e0.hok.fresh (ay (x.above y c (lT h)))
 .unfold start;show _=N.length;rw[av,aa,eC];simp_all
def afJ {CX:rF}{P:Program}{w:World}{K:W.Frag}{mg:Str->Option Value}{base:Heap}{k:Nat}{f:Addr}{name qual:Str}{params:Arguments}{body:List Stmt}{scope:Scope}{dV kV doc pm bD ct oc:Value}{an od:Option Addr}{osl:Array (Option Value)}{N ps:List Str}{sp:Sp}(lk:K.lookup f=some ⟨oc,od,.func (W.fnOf name qual params body scope dV kV doc pm an bD ct),osl⟩)(hcd:W.codeIn K bD qual=true)(S:aW N ps scope)(len:∀vs H Q E,sp vs H Q E->vs.length=ps.length)(hbody:∀(A:Around) (outer:List Env) (s:Shared) (H:Hp) (vs:List V) (Q:VK) (E:XK),dY k (A.deeper (envOfC qual scope s.heap.objs.size f bD))->sp vs H Q E->
   ∃t,rD (sO CX P w K mg base N qual scope f bD A outer s H E) body t/\t {nx:=λ_ H'=>Q .non H',rt:=Q} (start N vs) H) :
  cL P w K mg base CX (k+1) f (W.fnOf name qual params body scope dV kV doc pm an bD ct) ps sp:=by
 refine⟨len,λA outer s H args us vs Q E hr e0 hb r hsp=>?_⟩;have hl:=len _ _ _ _ hsp;have KX:K.In s.heap:=e0.mod.Ky.keeps λb o e=>(e0.bs b o e).1;have lim:s.heap.NoLimit:=e0.mod.nolimit.keeps λb o e=>(e0.bs b o e).1;have hkind:∀y∈ps.zip us,scope.names.lookup y.1=some .local\/(scope.names.lookup y.1=some .cell/\((cellsFrom (s.heap.objs.size+1) scope.names []).lookup y.1).isSome=true):=λ⟨n,v⟩ hy=>by
  rcases S.par n (r0 hy).1 with q|q;.exact .inl q
  .exact .inr ⟨q,W.cellsFrom_some _ _ _ (.inl q)⟩
 refine codeAny_call_function hr.depth (KX _ _ lk) rfl S.co S.gen rfl (W.codeRec_of KX hcd) (hb _ _ _ _ ?_);refine wpAny_newFunctionEnv_cells S.kind hkind λenv he s1 x=>?_;subst he;refine⟨lim.keeps x.toInCall.keep,codeAny_func ?_⟩;obtain⟨t,ht,hq⟩:=hbody A outer s H vs Q E (hr.deeper _) hsp;have I:aJ (sO CX P w K mg base N qual scope f bD A outer s H E) [] (start N vs) H s1:=Ip S hr.hd e0 hl r x;refine fm (ht [] s1 (start N vs) H _ I hq) (λfl s' hs=>?_) λe s' hs=>hs;have fin:∀{σ':St} {H':Hp} {v:V} {u:Value},aJ (sO CX P w K mg base N qual scope f bD A outer s H E) [] σ' H' s'->bJ v u->Q v H'->CE outer P w H s Q u s':=λ{σ' H' v u} J rv q=>⟨v,H',J.os,J.bare,J.base,J.hok,rv,q⟩
 cases fl with
 | ret u=>obtain⟨v,σ',H',J,rv,q⟩:=hs;exact fin J rv q
 | next=>obtain⟨σ',H',J,q⟩:=hs;exact fin (v:=V.non) (u:=Value.none) J rfl q
 | brk=>obtain⟨_,_,_,q⟩:=hs;exact False.elim q
 | cont=>obtain⟨_,_,_,q⟩:=hs;exact False.elim q
section
variable {X:Cx}{x:Str}{p pos:Pos}{e:Expr}{es:List Expr}{t:TA}{id T:String}{r:List V->Hp->VK->Prop}
def tCB (r:List V->Hp->VK->Prop)(t:TA):TE:=λσ H Q=>t σ H λvs H1=>r vs H1 Q
def YC (hc:fj X (.builtin id) r)(hg:Gl X x)(hm:X.mg x=none)(hv:bootBuiltins x=some (.builtin id))(ha:PA X (e::es) t)(hn:x≠"__name__":=by decide)(hdb:(x==("__debug__":Str))=false:=by decide)(he:starEach (e::es) X.env=(false,eval e X.env)::starEach es X.env:=by rfl)(hpl:(backTo pos (starEach es X.env)).any (·.1)=false:=by rfl):PE X (.Call (.Name x p) (e::es) [] pos) (tCB r t):=by intro aq s σ H Q I h;refine km (nU I hg hm hv ?_ hn hdb);exact PyProof.Rows.callWith_builtin1 (bH (ha pos aq s σ H _ I h) λus s1 ⟨vs,H1,I1,r1,q1⟩=>hc aq s1 σ H1 vs us Q I1 r1 q1) he hpl
def Vi (hc:fj X (.type T) r)(hg:Gl X x)(hm:X.mg x=none)(hv:bootBuiltins x=some (.type T))(ha:PA X (e::es) t)(hn:x≠"__name__":=by decide)(hdb:(x==("__debug__":Str))=false:=by decide)(he:starEach (e::es) X.env=(false,eval e X.env)::starEach es X.env:=by rfl)(hpl:(backTo pos (starEach es X.env)).any (·.1)=false:=by rfl):PE X (.Call (.Name x p) (e::es) [] pos) (tCB r t):=by intro aq s σ H Q I h;refine km (nU I hg hm hv ?_ hn hdb);exact f8 (bH (ha pos aq s σ H _ I h) λus s1 ⟨vs,H1,I1,r1,q1⟩=>hc aq s1 σ H1 vs us Q I1 r1 q1) he hpl
end
end L2
namespace HT
open PySem PyProof.Rows
section
def gq (n d:Nat):Option Int->Nat
 | none=>d
 | some v=>if v<0 then (v+(n:Int)).toNat else min v.toNat n
def Ai (n d k:Nat):gq n d (some (k:Int))=min k n:=by show (if (k:Int)<0 then ((k:Int)+(n:Int)).toNat else min (k:Int).toNat n)=min k n;rw[if_neg vE,du]
def adF (n d)(hd:d<=n)(o):gq n d o<=n:=by
 cases o with
 | none=>exact hd
 | some v=>
  show (if v<0 then (v+(n:Int)).toNat else min v.toNat n)<=n;by_cases hv:v<0;.rw[if_pos hv];lia
  .rw[if_neg hv];exact ul _ _
def abp (v:Int)(n d:Nat):(if v<0 then max (v+(n:Int)) 0 else min v (n:Int))=((gq n d (some v):Nat):Int):=by
 show (if v<0 then max (v+(n:Int)) 0 else min v (n:Int))=(((if v<0 then (v+(n:Int)).toNat else min v.toNat n):Nat):Int)
 by_cases hv:v<0;.simp only[if_pos hv];lia
 .simp only[if_neg hv];grind
end
end HT
namespace L2
open PySem PySem.Spec PyProof.Rows
abbrev TO:=St->Hp->(Option Int->Hp->Prop)->Prop
def PO (X:Cx)(e:Option Expr)(t:TO):Prop:=∀(aq:AC) (s:Shared) (σ:St) (H:Hp) (Q:Option Int->Hp->Prop),aJ X aq σ H s->t σ H Q->
  wpAny (model X.prog X.w) X.A (evalPart e X.env) (λu s'=>∃o H',aJ X aq σ H' s'/\IsPart u o/\Q o H') X.xe s
def vD:TO:=λ_ H Q=>Q none H
def DX (t:TE):TO:=λσ H Q=>t σ H λx H1=>∃i,x=.int i/\Q (some i) H1
section
variable {X:Cx}{e:Expr}{te:TE}{lo hi:Option Expr}{tl th:TO}{pos p2:Pos}
def abq:PO X none vD:=by intro aq s σ H Q I h;rw[evalPart_none];exact ah ⟨none,H,I,.none,h⟩
def abr (h:PE X e te):PO X (some e) (DX te):=by intro aq s σ H Q I hw;rw[evalPart_some];refine bH (h aq s σ H _ I hw) λu s1 zz=>?_;obtain⟨x,H1,I1,r1,q1⟩:=zz;obtain⟨i,rfl,q⟩:=q1;obtain⟨t,rfl⟩:=r1;exact⟨some i,H1,I1,.int i t,q⟩
def SlR (X:Cx)(r:V->Option Int->Option Int->Hp->VK->Prop):Prop:=∀(aq:AC) (s:Shared) (σ:St) (H:Hp) (x:V) (v vl vu:Value) (lo hi:Option Int) (sl:Addr) (Q:VK),aJ X aq σ H s->bJ x v->s.heap.IsSliceOf sl vl vu .none->IsPart vl lo->IsPart vu hi->r x lo hi H Q->
  ∃T id,typeLookup (.type T) "__getitem__"=pure (some (.builtin id))/\s.TypeIs v T/\wpAny (model X.prog X.w) X.A (getItem v (.ref sl)) (EP X aq σ Q) X.xe s
def Vj (r:V->Option Int->Option Int->Hp->VK->Prop)(te:TE)(tl th:TO):TE:=λσ H Q=>te σ H λx H1=>tl σ H1 λl H2=>th σ H2 λu H3=>r x l u H3 Q
def YD (hr:SlR X r)(he:PE X e te)(hl:PO X lo tl)(hu:PO X hi th):PE X (.Subscript e (.Slice lo hi none p2) pos) (Vj r te tl th):=by intro aq s σ H Q I h;refine Subscript_ (bH (he aq s σ H _ I h) λv s1 zz=>?_);obtain⟨x,H1,I1,r1,q1⟩:=zz;refine wpAny_Slice (bH (hl aq s1 σ H1 _ I1 q1) λvl s2 zz=>?_);obtain⟨l,H2,I2,pl,q2⟩:=zz;refine bH (hu aq s2 σ H2 _ I2 q2) λvu s3 zz=>?_;obtain⟨u,H3,I3,pu,q3⟩:=zz;rw[evalPart_none];refine ah ?_;have I4:aJ X aq σ H3 {s3 with heap:=s3.heap.push {cls:=.type "slice",data:=.fields #[vl,vu,.none]} }:=I3.kept (t':=s3.toks) λb ob q=>af _ q;obtain⟨T,id,hT,ht,hg⟩:=hr aq {s3 with heap:=s3.heap.push {cls:=.type "slice",data:=.fields #[vl,vu,.none]} } σ H3 x v vl vu l u s3.heap.objs.size Q I4 r1 (Heap.IsSliceOf.new ..) pl pu q3;show wpAny (model X.prog X.w) X.A (subscriptTail e (.Slice lo hi none p2) v (.ref s3.heap.objs.size)) (EP X aq σ Q) X.xe {s3 with heap:=s3.heap.push {cls:=.type "slice",data:=.fields #[vl,vu,.none]} };exact tail_any (ops:=[.ref s3.heap.objs.size,v]) ht hT hg (by with_unfolding_all rfl)
noncomputable def n_ (xs:List V)(lo hi:Option Int):List V:=(xs.drop (HT.gq xs.length 0 lo)).take (HT.gq xs.length xs.length hi-HT.gq xs.length 0 lo)
def Ot (xs)(lo hi):(n_ xs lo hi).length<=xs.length:=by unfold n_;rw[bn,dP];lia
end
noncomputable def Ir (n:Nat)(i:Int):Option Nat:=if 0<=i then (if i<n then some i.toNat else none) else if -(n:Int)<=i then some (i+n).toNat else none
def j_ {α:Type}(xs:List α)(i:Int):Option α:=(Ir xs.length i).bind λj=>xs[j]?
def Qd (h:Ir n i=some j):seqIndex? i n=some j/\j<n/\-(n:Int)<=i/\i<n:=by
 unfold Ir at h;by_cases h0:0<=i
 .rw[if_pos h0]at h;by_cases h1:i<n
  .rw[if_pos h1]at h;have e:i.toNat=j:=ax h;exact⟨by rw[seqIndex_of h0 h1,e],vE,vE,h1⟩
  .rw[if_neg h1]at h;cases h
 .rw[if_neg h0]at h;by_cases h1:-(n:Int)<=i
  .rw[if_pos h1]at h;have e:(i+n).toNat=j:=ax h;exact⟨by rw[seqIndex_neg vE h1,e],vE,h1,vE⟩
  .rw[if_neg h1]at h;cases h
def Aj {α:Type}{xs:List α}{v:α}(h:j_ xs i=some v):∃j,seqIndex? i xs.length=some j/\xs[j]?=some v/\j<xs.length/\-(xs.length:Int)<=i/\i<xs.length:=by
 unfold j_ at h;cases e:Ir xs.length i with
 | none=>rw[e]at h;cases h
 | some j=>rw[e]at h;obtain⟨h1,h2,h3,h4⟩:=Qd e;exact⟨j,h1,h,h2,h3,h4⟩
def aN {α:Type}{xs:List α}{j:Nat}{v:α}(h:xs[j]?=some v):j_ xs (j:Int)=some v:=by
 have hj:j<xs.length:=(ai.mp h).1;have e:Ir xs.length (j:Int)=some j:=by unfold Ir;rw[if_pos vE,if_pos (nV gp hj)];simp
 unfold j_;rw[e];exact h
def Gu (b:Expr):Prop:=∀o i,subscripted b false o i=operate [o,i] (getItem o i)
def Iu (X:Cx)(r:R2):Prop:=∀(value slice:Expr) (aq:AC) (s:Shared) (σ:St) (H:Hp) (x y:V) (v u:Value) (Q:VK),aJ X aq σ H s->bJ x v->bJ y u->r x y H Q->
  subscripted slice false v u=operate [v,u] (getItem v u)->wpAny (model X.prog X.w) X.A (subscriptTail value slice v u) (EP X aq σ Q) X.xe s
def vG (X:Cx)(id:String)(r:V->List V->Hp->VK->Prop):Prop:=∀(aq:AC) (s:Shared) (σ:St) (H:Hp) (x:V) (xs:List V) (v:Value) (us:List Value) (Q:VK),aJ X aq σ H s->bJ x v->Vals xs us->r x xs H Q->
  wpAny (model X.prog X.w) X.A (call (.builtin id) (v::us)) (EP X aq σ Q) X.xe s
section
variable {X:Cx}{a b:Expr}{ta tb:TE}{pos:Pos}
def afK (hr:Iu X r)(ha:PE X a ta)(hb:PE X b tb)(hs:Gu b):PE X (.Subscript a b pos) (rE r ta tb):=by intro aq s σ H Q I h;exact Subscript_ (Ys ha hb I h λv u s2 x y H2 I2 rx ry q=>hr a b aq s2 σ H2 x y v u Q I2 rx ry q (hs _ _))
def adG (K:W.Frag):R2:=λx y H Q=>∃p xs i v,x=.ref p/\y=.int i/\aQ K H p xs/\j_ xs i=some v/\Q v H
def R9 (K:W.Frag):R2:=λx y H Q=>∃p xs i v,x=.ref p/\y=.int i/\aU K H p xs/\j_ xs i=some v/\Q v H
def adH:R2:=λx y H Q=>∃z i c,x=.str z/\y=.int i/\z.length<=sizeLine/\j_ z.cps.toList i=some c/\Q (.str ⟨#[c]⟩) H
def fU:Iu X (adG X.K):=by
 intro value slice aq s σ H x y v u Q I rx ry h hs;obtain⟨p,xs,i,z,rfl,rfl,hq,he,q⟩:=h;cases rx;obtain⟨t,rfl⟩:=ry;obtain⟨its,r,pl,hz⟩:=I.list hq;obtain⟨j,h1,h2,h3,h4,h5⟩:=Aj he;obtain⟨w,ew,yS⟩:=r.get h2;have hl:=r.length;have hn:=sJ;have fin:EP X aq σ Q w s:=⟨z,H,I,yS,q⟩
 by_cases h0:0<=i
 .have hj:i.toNat=j:=by
   rw[seqIndex_of h0 h5]at h1;exact ax h1
  exact item_listR pl.isList h0 vE (by rw[hj];simpa using ew) fin hs
 .have hj:(i+(its.toArray.size:Int)).toNat=j:=by
   rw[seqIndex_neg vE h4]at h1;rw[b7,<-hl];exact ax h1
  exact subscriptTail_builtinR (x:=w) pl.isList.typeIs slot_list_getitem.lookup
   (wpAny_getItem_list_neg (Q:=λr s'=>r=w/\EP X aq σ Q r s') pl.isList vE (by rw[b7] <;> lia) vE (by rw[hj];simpa using ew) ⟨rfl,fin⟩) hs
def bV:Iu X (R9 X.K):=by
 intro value slice aq s σ H x y v u Q I rx ry h hs;obtain⟨p,xs,i,z,rfl,rfl,hq,he,q⟩:=h;cases rx;obtain⟨t,rfl⟩:=ry;obtain⟨its,r,pl,hz⟩:=I.tuple hq;obtain⟨j,h1,h2,h3,h4,h5⟩:=Aj he;obtain⟨w,ew,yS⟩:=r.get h2;have hl:=r.length;have hn:=sJ;have fin:EP X aq σ Q w s:=⟨z,H,I,yS,q⟩
 exact subscriptTail_builtinR (x:=w) pl.typeIs slot_tuple_getitem.lookup
  (getItem_tuple (j:=j) (Q:=λr s'=>r=w/\EP X aq σ Q r s') pl vE vE (by rw[b7,<-hl];exact h1) (by simpa using ew) ⟨rfl,fin⟩) hs
def adI:Iu X adH:=by
 intro value slice aq s σ H x y v u Q I rx ry h hs;obtain⟨z,i,c,rfl,rfl,hz,he,q⟩:=h;obtain⟨t,rfl⟩:=rx;obtain⟨t',rfl⟩:=ry;obtain⟨j,h1,h2,h3,h4,h5⟩:=Aj he;have hl:z.cps.toList.length=z.length:=by simp[Str.length]
 rw[hl]at h1 h4 h5;have hn:=sJ;exact tail_any (typeIs_str s z t) slot_str_getitem.lookup (getItem_str (c:=c) (by
  have e1:decide (i < -(2^63:Int))=false:=am vE;have e2:decide (i>=2^63)=false:=am vE;rw[e1,e2,qV]) (by rw[h1];simpa using h2) ⟨.str ⟨#[c]⟩,H,I.tok _,⟨_,rfl⟩,q⟩) hs
def R_ (its:List Value)(n j)(u):Obj.mapSeq (·.setIfInBounds j u) {cls:=.type "list",data:=.seq its.toArray n}={cls:=.type "list",data:=.seq (its.set j u).toArray n}:=by simp[Obj.mapSeq]
def aJ.lst {aq:AC}{σ:St}{H:Hp}{s:Shared}{p:Addr}{xs:List V}(I:aJ X aq σ H s)(h:H p=some (.lst xs)):∃(its:List Value) (n:Nat),Vals xs its/\s.heap.get? p=some {cls:=.type "list",data:=.seq its.toArray n}/\xs.length<=sizeLine:=by obtain⟨z,its,n,r,e⟩:=I.hok p _ h;exact⟨its,n,r,e,z⟩
def aJ.adJ {aq:AC}{σ:St}{H:Hp}{s:Shared}{p:Addr}{xs ys:List V}{its its':List Value}{n n':Nat}{f:Obj->Obj}(I:aJ X aq σ H s)(h:H p=some (.lst xs))(ho:s.heap.get? p=some {cls:=.type "list",data:=.seq its.toArray n})(hf:f {cls:=.type "list",data:=.seq its.toArray n}={cls:=.type "list",data:=.seq its'.toArray n' })(r:Vals ys its')(hz:ys.length<=sizeLine)(t:Nat):aJ X aq σ (upd H p (.lst ys)) {s with heap:=s.heap.update p f,toks:=t}:=by
 have e:(s.heap.update p f).get? p=some {cls:=.type "list",data:=.seq its'.toArray n' }:=by rw[fc f ho (by rw[hf] <;> rfl),hf]
 refine I.write (x:=p) (e:=p) (by rw[h];trivial) (.inl rfl) (λb u hb q=>(g6 _ _ (ie hb)).trans q) ⟨_,e⟩ ?_;exact⟨hz,its',n',r,e⟩
def afL:V->V->V->Hp->(Hp->Prop)->Prop:=λo i v H Q=>∃p xs k j,o=.ref p/\i=.int k/\H p=some (.lst xs)/\Ir xs.length k=some j/\Q (upd H p (.lst (xs.set j v)))
def set_list:Yp X afL:=by
 intro aq s σ H o i v ov iv u Q I ro ri rv h;obtain⟨p,xs,k,j,rfl,rfl,hp,hj,q⟩:=h;cases ro;obtain⟨t,rfl⟩:=ri;obtain⟨its,n,r,ho,hz⟩:=I.lst hp;obtain⟨h1,h2,h3,h4⟩:=Qd hj;have hl:=r.length;have hn:=sJ;have I':aJ X aq σ (upd H p (.lst (xs.set j v))) {s with heap:=s.heap.update p (Obj.mapSeq (·.setIfInBounds j u))}:=I.adJ hp ho (R_ its n j u) (r.set rv j) (by rw[og];exact hz) s.toks
 by_cases h0:0<=k
 .have hk:k.toNat=j:=by
   rw[seqIndex_of h0 h4]at h1;exact ax h1
  exact W.ki_setAt ho h0 vE (by rw[b7,<-hl];exact h4) (by rw[hk];exact⟨_,I',q⟩)
 .have hk:(k+(its.toArray.size:Int)).toNat=j:=by
   rw[seqIndex_neg vE h3]at h1;rw[b7,<-hl];exact ax h1
  exact W.ki_setBack ho vE (by rw[b7,<-hl];exact h3) vE (by rw[hk];exact⟨_,I',q⟩)
def KY (lo hi)(n):(sliceBounds lo hi none n).1=((HT.gq n 0 lo:Nat):Int)/\(sliceBounds lo hi none n).2.1=((HT.gq n n hi:Nat):Int)/\(sliceBounds lo hi none n).2.2=1:=by
 refine⟨?_,?_,rfl⟩
 .cases lo with
  | none=>simp[sliceBounds,HT.gq]
  | some i=>
   simp only[sliceBounds,HT.gq,Option.getD_none,show (1:Int) > 0 by decide,if_true];by_cases h:i<0
   .simp only[h,if_true] <;> grind
   .simp only[h,if_false] <;> grind
 .cases hi with
  | none=>simp[sliceBounds,HT.gq]
  | some i=>
   simp only[sliceBounds,HT.gq,Option.getD_none,show (1:Int) > 0 by decide,if_true];by_cases h:i<0
   .simp only[h,if_true] <;> lia
   .simp only[h,if_false] <;> lia
def JX (its:List Value)(lo hi):slicePick its.toArray lo hi none=((its.drop (HT.gq its.length 0 lo)).take (HT.gq its.length its.length hi-HT.gq its.length 0 lo)).toArray:=by obtain⟨h1,h2,h3⟩:=KY lo hi its.toArray.size;unfold slicePick;rw[h1,h2,h3];simp only[sliceRange_one,pick_run,b7] <;> rfl
def agn (K:W.Frag):V->Option Int->Option Int->Hp->VK->Prop:=λx lo hi H Q=>∃a xs,x=.ref a/\aQ K H a xs/\∀p,H p=none->Q (.ref p) (upd H p (.lst (n_ xs lo hi)))
def Gv:SlR X (agn X.K):=by intro aq s σ H x v vl vu lo hi sl Q I rx hs pl pu h;obtain⟨a,xs,rfl,hx,q⟩:=h;cases rx;obtain⟨its,r,ht,hz⟩:=I.list hx;have bW:=r.length;refine⟨"list",_,slot_list_getitem.lookup,ht.isList.typeIs,?_⟩;refine wpAny_getItem_list_slice ht.isList hs pl pu .none vF ?_ (by rw[b7] <;> simp_all);rw[JX,<-bW];refine⟨.ref s.heap.objs.size,_,I.laid (t':=s.toks) (o:=.lst (n_ xs lo hi)) (λb ob q=>af _ q) (ag _) ?_,rfl,q _ (I.hok.fresh (ag _))⟩;exact⟨a9 (Ot xs lo hi) hz,_,0,(r.drop (HT.gq xs.length 0 lo)).take (HT.gq xs.length xs.length hi-HT.gq xs.length 0 lo),aS _ rfl⟩
def rN:V->Bool
 | .non=>true
 | .bl _=>true
 | .int _=>true
 | .str _=>true
 | _=>false
noncomputable def ux:V->V->Bool
 | .non,.non=>true
 | .bl a,.bl b=>a==b
 | .bl a,.int b=>(if a then 1 else 0)==b
 | .int a,.bl b=>a==(if b then 1 else 0)
 | .int a,.int b=>a==b
 | .str a,.str b=>a==b
 | _,_=>false
def adK (ry:bJ y u)(rx:bJ x v)(fy:rN y=true)(fx:rN x=true):SeqAt.EqAt A s u v (ux y x):=by
 cases y with
 | non=>
  cases ry;cases x with
  | non=>cases rx;exact SeqAt.EqAt.same _
  | bl b=>cases rx;exact SeqAt.EqAt.none_bool b
  | int b=>obtain⟨t,rfl⟩:=rx;exact SeqAt.EqAt.none_int b t
  | str b=>obtain⟨t,rfl⟩:=rx;exact SeqAt.EqAt.none_str b t
  | _=>exact absurd (show false=true from fx) bX
 | bl a=>
  cases ry;cases x with
  | non=>cases rx;exact SeqAt.EqAt.bool_none a
  | bl b=>cases rx;exact SeqAt.EqAt.bool_bool a b
  | int b=>obtain⟨t,rfl⟩:=rx;exact SeqAt.EqAt.bool_int a b t
  | str b=>obtain⟨t,rfl⟩:=rx;exact SeqAt.EqAt.bool_str a b t
  | _=>exact absurd (show false=true from fx) bX
 | int a=>
  obtain⟨t',rfl⟩:=ry;cases x with
  | non=>cases rx;exact SeqAt.EqAt.int_none a t'
  | bl b=>cases rx;exact SeqAt.EqAt.int_bool a t' b
  | int b=>obtain⟨t,rfl⟩:=rx;exact my a t' b t
  | str b=>obtain⟨t,rfl⟩:=rx;exact SeqAt.EqAt.int_str a t' b t
  | _=>exact absurd (show false=true from fx) bX
 | str a=>
  obtain⟨t',rfl⟩:=ry;cases x with
  | non=>cases rx;exact SeqAt.EqAt.str_none a t'
  | bl b=>cases rx;exact SeqAt.EqAt.str_bool a t' b
  | int b=>obtain⟨t,rfl⟩:=rx;exact SeqAt.EqAt.str_int a t' b t
  | str b=>obtain⟨t,rfl⟩:=rx;exact SeqAt.EqAt.str_str a t' b t
  | _=>exact absurd (show false=true from fx) bX
 | _=>exact absurd (show false=true from fy) bX
noncomputable def DY (x:V)(u:Value):Bool:=match u with| .none=>ux .non x| .bool b=>ux (.bl b) x| .int i _=>ux (.int i) x| .str z _=>ux (.str z) x| _=>false
def Vk (r:bJ y u)(f:rN y=true):DY x u=ux y x:=by
 cases y with
 | non=>cases r;rfl
 | bl b=>cases r;rfl
 | int i=>obtain⟨t,rfl⟩:=r;rfl
 | str z=>obtain⟨t,rfl⟩:=r;rfl
 | _=>exact absurd (show false=true from f) bX
theorem Gw:∀{xs:List V} {us:List Value},Vals xs us->xs.all rN=true->us.any (DY x)=xs.any λy=>ux y x
 | _,_,.nil,_=>rfl
 | y::xs,u::us,.cons r t,f=>by rw[List.all_cons,dS]at f;rw[mh,mh,Vk r f.1,Gw t f.2]
theorem Cr (rx:bJ x v)(fx:rN x=true):∀{xs:List V} {us:List Value},Vals xs us->xs.all rN=true->∀u∈us,SeqAt.EqAt A s u v (DY x u)
 | _,_,.nil,_=>λu hu=>by cases hu
 | y::xs,u::us,.cons r t,f=>λu' hu=>by
  rw[List.all_cons,dS]at f;rcases bb.mp hu with rfl|hu;.rw[Vk r f.1];exact adK r rx f.1 fx
  .exact Cr rx fx t f.2 u' hu
def inV (x:V)(xs:List V):Bool:=xs.any λy=>ux y x
def rIn (K:W.Frag)(neg:Bool):R2:=λx y H Q=>∃p xs,y=.ref p/\(aQ K H p xs\/aU K H p xs)/\rN x=true/\xs.all rN=true/\Q (.bl (if neg then !inV x xs else inV x xs)) H
def Vl:eX X (compareOp .In) (rIn X.K false):=by
 intro aq s σ H x y v u Q I rx ry h;obtain⟨p,xs,rfl,hq,fx,fs,q⟩:=h;cases ry;rcases hq with hq|hq
 .obtain⟨its,r,pl,hz⟩:=I.list hq;refine SeqAt.in_listAt (DY x) pl.isList (λw hw=>Cr rx fx r fs w (by simpa using hw)) ⟨.bl _,H,I,rfl,?_⟩;rw[show its.toArray.any (DY x)=its.any (DY x) by simp,Gw r fs];exact q
 .obtain⟨its,r,pl,hz⟩:=I.tuple hq;refine SeqAt.in_tupleAt (DY x) pl (λw hw=>Cr rx fx r fs w (by simpa using hw)) ⟨.bl _,H,I,rfl,?_⟩;rw[show its.toArray.any (DY x)=its.any (DY x) by simp,Gw r fs];exact q
def dh:fj X (.builtin "len") (λxs H Q=>∃p ys,xs=[.ref p]/\(aQ X.K H p ys\/aU X.K H p ys)/\Q (.int ys.length) H):=by
 intro aq s σ H xs us Q I r h;obtain⟨p,ys,rfl,hq,q⟩:=h;obtain⟨u,rfl,rx⟩:=vals1 r;cases rx;have hn:=sJ;rcases hq with hq|hq
 .obtain⟨its,r',pl,hz⟩:=I.list hq;have bW:=r'.length;exact Calls.call_len_list pl.isList (by simp only[b7] <;> lia) ⟨.int ys.length,H,I.tok _,⟨s.toks+1,by rw[b7,bW]⟩,q⟩
 .obtain⟨its,r',pl,hz⟩:=I.tuple hq;have bW:=r'.length;exact len_tuple pl (by simp only[b7] <;> lia) ⟨.int ys.length,H,I.tok _,⟨s.toks+1,by rw[b7,bW]⟩,q⟩
def KZ:fj X (.builtin "len") (λxs H Q=>∃z,xs=[.str z]/\z.length<=sizeLine/\Q (.int z.length) H):=by intro aq s σ H xs us Q I r h;obtain⟨z,rfl,hz,q⟩:=h;obtain⟨u,rfl,t,rfl⟩:=vals1 r;have hn:=sJ;exact len_str vE ⟨.int z.length,H,I.tok _,⟨_,rfl⟩,q⟩
def dg:fj X (.type "tuple") (λxs H Q=>∃p ys,xs=[.ref p]/\((aQ X.K H p ys/\∀l,H l=none->Q (.ref l) (upd H l (.tup ys)))\/(aU X.K H p ys/\Q (.ref p) H))):=by
 intro aq s σ H xs us Q I r h;obtain⟨p,ys,rfl,h⟩:=h;obtain⟨u,rfl,rx⟩:=vals1 r;cases rx;rcases h with⟨hq,q⟩|⟨hq,q⟩
 .obtain⟨its,r',pl,hz⟩:=I.list hq;have bW:=r'.length;refine call_tuple_list pl.isList (λh' kp=>?_) (by simp only[b7] <;> lia);have I1:aJ X aq σ H {s with heap:=h' }:=I.kept (t':=s.toks) kp;have I2:aJ X aq σ (upd H h'.objs.size (.tup ys)) {s with heap:=h'.push {cls:=.type "tuple",data:=.seq its.toArray} }:=
   I1.laid (t':=s.toks) (λb o e=>af _ e) (ag _) (show dU X.prog X.w _ _ _ (.tup ys) from ⟨hz,its,r',IsTup.new _ _⟩)
  exact⟨.ref h'.objs.size,_,I2,rfl,q _ (I1.hok.fresh (ag _))⟩
 .obtain⟨its,r',pl,hz⟩:=I.tuple hq;exact call_tuple_same pl ⟨.ref p,H,I,rfl,q⟩
def tyV (K:W.Frag)(T:String)(x:V)(H:Hp):Prop:=match x with
 | .str _=>T="str"
 | .int _=>T="int"
 | .ref p=>(T="list"/\∃xs,aQ K H p xs)\/(T="tuple"/\∃o,K.lookup p=some o/\o.cls=.type "tuple"/\o.dict=none)\/
   (T="dict"/\((∃kvs,H p=some (.dK kvs))\/∃kvs,H p=some (.dT kvs)))\/(T="set"/\∃S n,H p=some (.set S n))
 | _=>False
def Vm {aq:AC}{σ:St}{H:Hp}{s:Shared}{T:String}{x:V}{v:Value}(I:aJ X aq σ H s)(r:bJ x v)(ty:tyV X.K T x H):s.TypeIs v T/\∀a,v=.ref a->∃ob,s.heap.get? a=some ob/\ob.dict=none:=by
 cases x with
 | str z=>obtain⟨t,rfl⟩:=r;cases(show T="str" from ty);exact⟨typeIs_str s z t,λ_ e=>nomatch e⟩
 | int i=>obtain⟨t,rfl⟩:=r;cases(show T="int" from ty);exact⟨typeIs_int s i t,λ_ e=>nomatch e⟩
 | ref p=>
  cases r;rcases ty with⟨rfl,xs,hq⟩|⟨rfl,o,hk,hc,hd⟩|⟨rfl,hk⟩|⟨rfl,S,n,hk⟩
  .obtain⟨its,_,pl,_⟩:=I.list hq;refine⟨pl.isList.typeIs,λa e=>?_⟩;cases e;obtain⟨o,n,e,c,hd,_⟩:=pl;exact⟨o,e,hd⟩
  .refine⟨⟨o,I.jq p o hk,hc⟩,λa e=>?_⟩;cases e;exact⟨o,I.jq _ o hk,hd⟩
  .have z:∃o,s.heap.get? p=some o/\o.ExactDict:=by
    rcases hk with⟨kvs,hk⟩|⟨kvs,hk⟩
    .obtain⟨_,_,_,_,o,_,_,e,ex,_⟩:=I.hok p _ hk;exact⟨o,e,ex⟩
    .obtain⟨_,_,_,_,o,_,_,e,ex,_⟩:=I.hok p _ hk;exact⟨o,e,ex⟩
   obtain⟨o,e,ex⟩:=z;refine⟨⟨o,e,ex.1⟩,λa e2=>?_⟩;cases e2;exact⟨o,e,ex.2.1⟩
  .obtain⟨o,_,_,_,e,ex,_⟩:=I.hok p _ hk;refine⟨⟨o,e,ex.1⟩,λa e2=>?_⟩;cases e2;exact⟨o,e,ex.2.1⟩
 | _=>exact False.elim ty
def adL (K:W.Frag)(T:String)(r:V->List V->Hp->VK->Prop)(to:TE):TE:=λσ H Q=>to σ H λx H1=>tyV K T x H1/\r x [] H1 Q
def Qe (K:W.Frag)(T:String)(r:V->List V->Hp->VK->Prop)(to:TE)(t:TA):TE:=λσ H Q=>to σ H λx H1=>tyV K T x H1/\t σ H1 λxs H2=>r x xs H2 Q
variable {o e:Expr}{es:List Expr}{to:TE}{t:TA}{name:Str}{apos cpos:Pos}{T id:String}{r:V->List V->Hp->VK->Prop}
def adM (pa:PlainAttrs T)(slot:Slot T name id)(hty:typeOf (.builtin id)=pure (.type "method_descriptor"))(hm:vG X id r)(ho:PE X o to)(hbase:attributeBase o name X.env (eval o X.env)=eval o X.env:=by rfl)(hline:(apos.endLine==cpos.line)=true:=by rfl):PE X (.Call (.Attribute o name apos) [] [] cpos) (adL X.K T r to):=by intro aq s σ H Q I h;refine wpAny_Call_method0_late hbase hline (bH (ho aq s σ H _ I h) λv s1 zz=>?_);obtain⟨x,H1,I1,r1,ty,q1⟩:=zz;obtain⟨h1,h2⟩:=Vm I1 r1 ty;exact⟨T,id,pa,slot,hty,h1,h2,g9 rfl (PySem.evalArgs_none (hm aq s1 σ H1 x [] v [] Q I1 r1 .nil q1))⟩
def afM (pa:PlainAttrs T)(slot:Slot T name id)(hty:typeOf (.builtin id)=pure (.type "method_descriptor"))(hm:vG X id r)(ho:PE X o to)(ha:PA X (e::es) t)(hbase:attributeBase o name X.env (eval o X.env)=eval o X.env:=by rfl)(hfew:((backTo cpos (starEach (e::es) X.env)).all (λx=>!x.1)&&(backToKw cpos (keywordEach [] X.env)).all (λx=>x.1.isSome)
   && decide ((e::es).length+([]:List Keyword).length+(if ([]:List Keyword).isEmpty then 0 else 1)<30))=true:=by rfl)
  (hline:(apos.endLine==cpos.line)=true:=by rfl) (hs:starEach (e::es) X.env=(false,eval e X.env)::starEach es X.env:=by rfl) (hplain:(backTo cpos (starEach es X.env)).any (·.1)=false:=by rfl) :
  PE X (.Call (.Attribute o name apos) (e::es) [] cpos) (Qe X.K T r to t):=by
 intro aq s σ H Q I h;refine wpAny_Call_method_late hbase hfew hline rfl (bH (ho aq s σ H _ I h) λv s1 zz=>?_);obtain⟨x,H1,I1,r1,ty,q1⟩:=zz;obtain⟨h1,h2⟩:=Vm I1 r1 ty;refine⟨T,id,pa,slot,hty,h1,h2,?_⟩;have hA:=ha cpos aq s1 σ H1 _ I1 q1;rw[hs]at hA ⊢;refine g9 (by show (false||(backTo cpos (starEach es X.env)).any (·.1))=false;rw[hplain] <;> rfl) (nB ?_);exact bH hA λus s2 ⟨vs,H2,I2,r2,q2⟩=>hm aq s2 σ H2 x vs v us Q I2 r1 r2 q2
end
def MtM (X:Cx)(id:String)(r:V->List V->Hp->VK->Prop):Prop:=∀(aq:AC) (s:Shared) (σ:St) (H:Hp) (x:V) (xs:List V) (v:Value) (us:List Value) (Q:VK),aJ X aq σ H s->bJ x v->Vals xs us->r x xs H Q->
  wpAny (model X.prog X.w) X.A (call (.builtin id) (v::us)) (EP X aq σ Q) X.xe s
theorem Vals.one:∀{x:V} {us:List Value},Vals [x] us->∃u,us=[u]/\bJ x u
 | _,_,.cons r .nil=>⟨_,rfl,r⟩
theorem Vals.zero:∀{us:List Value},Vals [] us->us=[]
 | _,.nil=>rfl
section
variable {X:Cx}{aq:AC}{σ:St}{H:Hp}{s:Shared}{l:Addr}{xs ys:List V}
def aJ.adN {its its':List Value}(I:aJ X aq σ H s)(hH:H l=some (.lst xs))(e:s.heap.get? l=some {cls:=.type "list",data:=.seq its.toArray n})(hf:f its.toArray=its'.toArray)(hv:Vals ys its')(hz:ys.length<=sizeLine):aJ X aq σ (upd H l (.lst ys)) {s with heap:=s.heap.update l (Obj.mapSeq f),toks:=t' }:=by have q:=PySem.IsL.update e f;rw[hf]at q;refine I.write (x:=l) (e:=l) (by rw[hH];exact trivial) (.inl rfl) (λb' u hb hu=>(g6 s.heap (Obj.mapSeq f) (ie hb)).trans hu) ⟨_,q⟩ ?_;exact⟨hz,its',_,hv,q⟩
def aJ.adO (I:aJ X aq σ H s)(hv:Vals ys its)(hz:ys.length<=sizeLine):aJ X aq σ (upd H s.heap.objs.size (.lst ys)) {s with heap:=s.heap.push {cls:=.type "list",data:=.seq its.toArray},toks:=t' }:=I.laid (λ_ _ q=>af _ q) (ag _) ⟨hz,its,0,hv,aS _ rfl⟩
def aJ.fresh (I:aJ X aq σ H s):H s.heap.objs.size=none:=I.hok.fresh (ag _)
def aJ.K1 (I:aJ X aq σ H s)(hH:H l=some (.lst xs)):xs.length<=sizeLine/\∃(its:List Value) (n:Nat),Vals xs its/\xs.length=its.length/\s.heap.get? l=some {cls:=.type "list",data:=.seq its.toArray n}:=by obtain⟨z,its,n,r,e⟩:=I.hok l _ hH;exact⟨z,its,n,r,r.length,e⟩
def YF (h:n<=sizeLine):Builtin.List.listTooLong n=false:=by unfold Builtin.List.listTooLong;exact am vE
end
section
variable {X:Cx}
def abt:V->List V->Hp->VK->Prop:=λx vs H Q=>∃l xs y,x=.ref l/\vs=[y]/\H l=some (.lst xs)/\xs.length<sizeLine/\Q .non (upd H l (.lst (xs++[y])))
def jE:MtM X "list.append" abt:=by intro aq s σ H x vs v us Q I rx rv h;obtain⟨l,xs,y,rfl,rfl,hH,hz,q⟩:=h;cases rx;obtain⟨u,rfl,ru⟩:=rv.one;obtain⟨z,its,n,r,hl,e⟩:=I.K1 hH;refine call_meets F.slot_list_append ⟨_,e,rfl⟩ F.entry_list_append (F.args_list_append_2 _ _) (PySem.list_append l its.toArray n u (by rw[b7];simp_all)) ⟨e,?_⟩;refine⟨.non,_,I.adN (its':=its++[u]) hH e vF (r.append (.cons ru .nil)) ?_,rfl,q⟩;rw[av,List.length_singleton];exact hz
def Ak:V->List V->Hp->VK->Prop:=λx vs H Q=>∃l b xs zs,x=.ref l/\vs=[.ref b]/\H l=some (.lst xs)/\H b=some (.lst zs)/\xs.length+zs.length<=sizeLine/\Q .non (upd H l (.lst (xs++zs)))
def qy:MtM X "list.extend" Ak:=by
 intro aq s σ H x vs v us Q I rx rv h;obtain⟨l,b,xs,zs,rfl,rfl,hH,hB,hz,q⟩:=h;cases rx;obtain⟨u,rfl,ru⟩:=rv.one;cases ru;obtain⟨z,its,n,r,hl,e⟩:=I.K1 hH;obtain⟨z2,its2,n2,r2,hl2,e2⟩:=I.K1 hB;have hsz:its.toArray.size+its2.toArray.size<=sizeLine:=by rw[b7,b7];simp_all
 have afN:¬(!its.toArray.isEmpty&&Builtin.List.listTooLong (its.toArray.size+its2.toArray.size))=true:=by rw[YF hsz,kQ];exact bX
 refine call_meets F.slot_list_extend ⟨_,e,rfl⟩ F.entry_list_extend (F.args_list_extend_2 _ _)
  (AutoSeq1.list_extend_list_list_0 l its.toArray n b its2.toArray n2 afN (by rw[b7];simp_all) (gN hsz)) ⟨e,e2,?_⟩
 refine⟨.non,_,I.adN (its':=its++its2) hH e vF (r.append r2) ?_,rfl,q⟩;rw[av];exact hz
def ago:R2:=λx y H Q=>∃l b xs zs,x=.ref l/\y=.ref b/\H l=some (.lst xs)/\H b=some (.lst zs)/\xs.length+zs.length<=sizeLine/\∀p,H p=none->Q (.ref p) (upd H p (.lst (xs++zs)))
def adP:eX X (binaryOp .Add) ago:=by intro aq s σ H x y v u Q I rx ry h;obtain⟨l,b,xs,zs,rfl,rfl,hH,hB,hz,q⟩:=h;cases rx;cases ry;obtain⟨z,its,n,r,hl,e⟩:=I.K1 hH;obtain⟨z2,its2,n2,r2,hl2,e2⟩:=I.K1 hB;refine PySem.P.add_list e e2 ?_ (by rw[b7,b7];lia);have ea:its.toArray++its2.toArray=(its++its2).toArray:=vF;rw[ea];exact⟨.ref _,_,I.adO (t':=s.toks) (r.append r2) (by rw[av];lia),rfl,q _ I.fresh⟩
end
section
variable {κ:Type}[DecidableEq κ]
def cX (kvs:List (κ×V))(k:κ):Option V:=(kvs.find? λkv=>decide (kv.1=k)).map (·.2)
noncomputable def putK (kvs:List (κ×V))(k:κ)(v:V):List (κ×V):=if (kvs.any λkv=>decide (kv.1=k))=true then kvs.map (λkv=>if kv.1=k then (kv.1,v) else kv) else kvs++[(k,v)]
def gO {p:κ×V}(e:p.1=k):cX (p::r) k=some p.2:=by simp[cX,ip,e]
def gP {p:κ×V}(e:¬p.1=k):cX (p::r) k=cX r k:=by simp[cX,ip,e]
theorem pG (k:κ):∀kvs:List (κ×V),(kvs.any λkv=>decide (kv.1=k))=(cX kvs k).isSome
 | []=>rfl
 | p::r=>by
  rw[mh];by_cases e:p.1=k;.simp only[gO e,aE e,Bool.true_or,Option.isSome_some]
  .rw[gP e,am e,Bool.false_or];exact pG k r
theorem K4 (k j:κ)(y):∀kvs:List (κ×V),cX (kvs.map λkv=>if kv.1=k then (kv.1,y) else kv) j=(cX kvs j).map λx=>if j=k then y else x
 | []=>rfl
 | p::r=>by
  have ih:=K4 k j y r;rw[cp];by_cases h:p.1=k
  .rw[if_pos h];by_cases e:p.1=j;.rw[gO (p:=(p.1,y)) e,gO e,oj,if_pos (e.symm.trans h)]
   .rw[gP (p:=(p.1,y)) e,gP e,ih]
  .rw[if_neg h];by_cases e:p.1=j;.rw[gO (p:=p) e,gO e,oj,if_neg (λz=>h (e.trans z))]
   .rw[gP (p:=p) e,gP e,ih]
theorem Iw (k j:κ)(y):∀kvs:List (κ×V),cX kvs k=none->cX (kvs++[(k,y)]) j=if j=k then some y else cX kvs j
 | [],_=>by
  by_cases e:k=j;.rw[if_pos e.symm];exact gO (p:=(k,y)) e
  .rw[if_neg (λz=>e z.symm)];exact gP (p:=(k,y)) e
 | p::r,hn=>by
  rw[List.cons_append];have hk:¬p.1=k:=λz=>by rw[gO z]at hn;cases hn
  rw[gP hk]at hn;have ih:=Iw k j y r hn;by_cases e:p.1=j;.rw[gO e,gO e,if_neg (λz=>hk (e.trans z))]
  .rw[gP e,gP e,ih]
def K5 (kvs:List (κ×V))(k j:κ)(y):cX (putK kvs k y) j=if j=k then some y else cX kvs j:=by
 unfold putK;by_cases a:(kvs.any λkv=>decide (kv.1=k))=true
 .rw[if_pos a,K4];rw[pG]at a;by_cases e:j=k
  .obtain⟨x,hx⟩:=Option.isSome_iff_exists.mp a;rw[if_pos e,e,hx,oj,if_pos rfl]
  .rw[if_neg e];cases cX kvs j with| none=>rfl| some x=>rw[oj,if_neg e]
 .rw[if_neg a];refine Iw k j y kvs ?_;rw[pG]at a;cases q:cX kvs k with| none=>rfl| some x=>rw[q]at a;exact(a rfl).elim
def uV (kvs:List (κ×V))(k:κ)(v):(putK kvs k v).length<=kvs.length+1:=by
 unfold putK;split;.rw[aa];lia
 .rw[av,bt,r8];lia
def YG {kvs:List (κ×V)}{k:κ}(v:V)(h:cX kvs k=none):putK kvs k v=kvs++[(k,v)]:=by unfold putK;rw[pG,h];exact if_neg vS
def j4.yU (r:j4 o u):o.isSome=u.isSome:=by
 cases o with
 | none=>cases u with| none=>rfl| some _=>exact(show False from r).elim
 | some _=>cases u with| none=>exact(show False from r).elim| some _=>rfl
def j4.getD (r:j4 o u)(rd:bJ d d'):bJ (o.getD d) (u.getD d'):=by
 cases o with
 | none=>cases u with| none=>exact rd| some _=>exact(show False from r).elim
 | some _=>cases u with| none=>exact(show False from r).elim| some _=>exact r
def KV.val (r:KV kvs vs)(k:κ):j4 (cX kvs k) (valueAt vs k):=by
 unfold KV at r
 induction r with
 | nil=>exact True.intro
 | @cons p q ps qs h t ih=>
  obtain⟨h1,h2⟩:=h;by_cases e:p.1=k
  .have e':q.1=k:=h1.symm.trans e;have b:valueAt (q::qs) k=some q.2:=by simp[valueAt,ip,e']
   rw[gO e,b];exact h2
  .have e':¬q.1=k:=λz=>e (h1.trans z)
   have b:valueAt (q::qs) k=valueAt qs k:=by simp[valueAt,ip,e']
   rw[gP e,b];exact ih
def KV.any (r:KV kvs vs)(k:κ):(kvs.any λkv=>decide (kv.1=k))=vs.any λkv=>decide (kv.1=k):=by
 unfold KV at r
 induction r with| nil=>rfl| cons h t ih=>rw[mh,mh,ih,h.1]
def KV.repl (r:KV kvs vs)(k:κ)(ry:bJ y u):KV (kvs.map λkv=>if kv.1=k then (kv.1,y) else kv) (vs.map λkv=>if kv.1=k then (kv.1,u) else kv):=by
 unfold KV at r ⊢
 induction r with
 | nil=>exact .nil
 | @cons p q ps qs h t ih=>
  rw[cp,cp];refine .cons ?_ ih;obtain⟨h1,h2⟩:=h;by_cases e:p.1=k;.rw[if_pos e,if_pos (h1.symm.trans e)];exact⟨h1,ry⟩
  .rw[if_neg e,if_neg (λz=>e (h1.trans z))];exact⟨h1,h2⟩
def KV.put (r:KV kvs vs)(k:κ)(ry:bJ y u):KV (putK kvs k y) (stored vs k u):=by
 unfold putK stored;rw[r.any k];by_cases e:(vs.any λkv=>decide (kv.1=k))=true;.rw[if_pos e,if_pos e];exact r.repl k ry
 .rw[if_neg e,if_neg e];exact Paired.snoc r ⟨rfl,ry⟩
def KV.keys {kvs:List (κ×V)}{vs:List (κ×Value)}(r:KV kvs vs):kvs.map (·.1)=vs.map (·.1):=by
 unfold KV at r
 induction r with| nil=>rfl| cons h t ih=>rw[cp,cp,ih,h.1]
def KV.length {kvs:List (κ×V)}{vs:List (κ×Value)}(r:KV kvs vs):kvs.length=vs.length:=Paired.length r
end
def Al (r:bJ (kV k) u):(cC P w).is k u=true:=by
 cases k with
 | inl i=>obtain⟨t,e⟩:=(show ∃t,u=Value.int i t from r);subst e;exact Oq P w i t
 | inr x=>obtain⟨t,e⟩:=(show ∃t,u=Value.str x t from r);subst e;exact ji P w x t
theorem Iz:∀{ks:List Key} {us:List Value},Vals (ks.map kV) us->ItemsAre (cC P w) ks us
 | [],_,r=>by rw[kU]at r;cases r;exact .nil
 | k::ks,_,r=>by
  rw[cp]at r;cases r with| cons h t=>exact .cons (Al h) (Iz t)
abbrev KT (H:Hp):List (List Key×V)->List (List Key×Addr×Value)->Prop:=Paired λp q=>p.1=q.1/\H q.2.1=some (.tup (p.1.map kV))/\bJ p.2 q.2.2
def KT.val (r:KT H kvs xs)(k:List Key):j4 (cX kvs k) ((atKey xs k).map (·.2)):=by
 induction r with
 | nil=>exact True.intro
 | @cons p q ps qs h t ih=>
  obtain⟨h1,_,h2⟩:=h;by_cases e:p.1=k
  .have e':q.1=k:=h1.symm.trans e;have b:atKey (q::qs) k=some q.2:=by simp[atKey,ip,e']
   rw[gO e,b];exact h2
  .have e':¬q.1=k:=λz=>e (h1.trans z)
   have b:atKey (q::qs) k=atKey qs k:=by simp[atKey,ip,e']
   rw[gP e,b];exact ih
def KT.repl (r:KT H kvs xs)(k:List Key)(ry:bJ y u):KT H (kvs.map λkv=>if kv.1=k then (kv.1,y) else kv) (xs.map (putAt k u)):=by
 induction r with
 | nil=>exact .nil
 | @cons p q ps qs h t ih=>
  rw[cp,cp];refine .cons ?_ ih;obtain⟨h1,h2,h3⟩:=h;unfold putAt;by_cases e:p.1=k;.rw[if_pos e,if_pos (h1.symm.trans e)];exact⟨h1,h2,ry⟩
  .rw[if_neg e,if_neg (λz=>e (h1.trans z))];exact⟨h1,h2,h3⟩
def KT.put (r:KT H kvs xs)(k:List Key)(hb:H b=some (.tup (k.map kV)))(ry:bJ y u):KT H (putK kvs k y) (storedH xs k b u):=by
 have e:(kvs.any λkv=>decide (kv.1=k))=(atKey xs k).isSome:=by rw[pG,(r.val k).yU,Option.isSome_map]
 unfold putK storedH;rw[e];by_cases q:(atKey xs k).isSome=true;.rw[if_pos q,if_pos q];exact r.repl k ry
 .rw[if_neg q,if_neg q];exact Paired.snoc r ⟨rfl,hb,ry⟩
def KT.keeps (r:KT H kvs xs)(ht:∀b ys,H b=some (.tup ys)->H' b=some (.tup ys)):KT H' kvs xs:=Paired.Yk r λ_ _ z=>⟨z.1,ht _ _ z.2.1,z.2.2⟩
section
variable {P:Program}{w:World}{H:Hp}{h:Heap}{a:Addr}
def aaL (ok:iU P w H h)(e:Rd H a u):dU P w H h a u:=e.ok ok
def Am (ok:iU P w H h)(e:Rd H a (.dK kvs)):kvs.length<=sizeLine/\(a==sysModules)=false/\∃vs,KV kvs vs/\h.DictOf (cC P w) a vs:=show dU P w H h a (.dK kvs) from aaL ok e
def Sd (ok:iU P w H h)(e:H a=some (.dK kvs)):kvs.length<=sizeLine/\(a==sysModules)=false/\∃vs,KV kvs vs/\h.DictOf (cC P w) a vs:=Am ok (.inl e)
def yV {ks:List Key}(ok:iU P w H h)(e:H a=some (.tup (ks.map kV))):(tupleKind (cC P w)).is h ks a:=by
 obtain⟨_,its,r,o,h1,h2,n,h3⟩:=(show dU P w H h a (.tup (ks.map kV)) from ok a _ e)
 exact⟨o,its.toArray,n,h1,h2,h3,by simpa using Iz r⟩
def Ao (ok:iU P w H h)(e:Rd H a (.dT kvs)):kvs.length<=sizeLine/\(a==sysModules)=false/\
  ∃xs,KT H kvs xs/\h.DictOfH (tupleKind (cC P w)) a xs:=by
 obtain⟨z,y,xs,r,o,es,ep,h1,h2,h3,h4,h5⟩:=(show dU P w H h a (.dT kvs) from aaL ok e)
 refine⟨z,y,xs,r,o,es,ep,h1,h2,h3,h4,λx hx=>?_,h5⟩;have all:∀{l:List (List Key×V)} {m:List (List Key×Addr×Value)},KT H l m->∀x∈m,(tupleKind (cC P w)).is h x.1 x.2.1:=by
  intro l m q
  induction q with
  | nil=>intro x hx;exact nomatch hx
  | @cons p q ps qs hq t ih=>
   intro x hx;rcases bb.mp hx with e|hx
   .subst e;exact yV ok (by rw[<-hq.1];exact hq.2.1)
   .exact ih x hx
 exact all r x hx
def afO (ok:iU P w H h)(e:H a=some (.dT kvs)):kvs.length<=sizeLine/\(a==sysModules)=false/\
  ∃xs,KT H kvs xs/\h.DictOfH (tupleKind (cC P w)) a xs:=Ao ok (.inl e)
end
def mD (H:Hp)(a:Addr)(y:V)(r:Option V):Prop:=(∃kvs k,Rd H a (.dK kvs)/\y=kV k/\r=cX kvs k)\/∃kvs k b,Rd H a (.dT kvs)/\y=.ref b/\H b=some (.tup (k.map kV))/\r=cX kvs k
def sS (H:Hp)(a:Addr)(y v:V)(H':Hp):Prop:=(∃kvs k,H a=some (.dK kvs)/\y=kV k/\kvs.length<sizeLine/\H'=upd H a (.dK (putK kvs k v)))\/
 ∃kvs k b,H a=some (.dT kvs)/\y=.ref b/\H b=some (.tup (k.map kV))/\kvs.length<sizeLine/\H'=upd H a (.dT (putK kvs k v))
theorem mD.k {kvs:List (Key×V)}{k:Key}(e:H a=some (.dK kvs)):mD H a (kV k) (cX kvs k):=.inl ⟨kvs,k,.inl e,rfl,rfl⟩
def mD.t {k:List Key}(e:H a=some (.dT kvs))(eb:H b=some (.tup (k.map kV))):mD H a (.ref b) (cX kvs k):=.inr ⟨kvs,k,b,.inl e,rfl,eb,rfl⟩
theorem sS.k {kvs:List (Key×V)}{k:Key}{v:V}(e:H a=some (.dK kvs))(hl:kvs.length<sizeLine):sS H a (kV k) v (upd H a (.dK (putK kvs k v))):=.inl ⟨kvs,k,e,rfl,hl,rfl⟩
def sS.t {k:List Key}(e:H a=some (.dT kvs))(eb:H b=some (.tup (k.map kV)))(hl:kvs.length<sizeLine):sS H a (.ref b) v (upd H a (.dT (putK kvs k v))):=.inr ⟨kvs,k,b,e,rfl,eb,hl,rfl⟩
section
variable {X:Cx}{aq:AC}{σ:St}{H:Hp}{s:Shared}{a:Addr}{y v:V}{u r:Value}{o:Option V}{A:Around}{E:AB}
def aJ.big (I:aJ X aq σ H s):sysModules<s.heap.objs.size:=by have h:mainGlobals<s.heap.objs.size:=(I.mod.glob.keeps I.bk).lt;exact kX vS h
def Vn (hu:A.units+1<cLine)(I:aJ X aq σ H s)(g:mD H a y (some v))(ry:bJ y u)(h:∀w' s',aJ X aq σ H s'->bJ v w'->Q w' s'):wpAny (model X.prog X.w) A (getItem (.ref a) u) Q E s:=by
 rcases g with⟨kvs,k,e,ey,l⟩|⟨kvs,k,b,e,ey,eb,l⟩
 .subst ey;obtain⟨z,hd,vs,rel,dd⟩:=Am I.hok e;obtain⟨w',hw,yS⟩:=j4.some_of (v:=v) (o:=valueAt vs k) (by rw[l];exact rel.val k);exact wpAny_getItem_of (Al ry) dd.mapOf hw (h w' _ (I.tok _) yS)
 .subst ey;cases(show u=Value.ref b from ry);obtain⟨z,hd,xs,rel,dd⟩:=Ao I.hok e;obtain⟨w',hw,yS⟩:=j4.some_of (v:=v) (o:=(atKey xs k).map (·.2)) (by rw[l];exact rel.val k);obtain⟨p,hp,hp2⟩:=fE.mp hw;refine wpAny_getItem_heap (tupleKind_room_in1 hu) (yV I.hok eb) dd hp ?_;rw[hp2];exact h w' _ (I.tok _) yS
def agp (hu:A.units+1<cLine)(I:aJ X aq σ H s)(g:mD H a y o)(ry:bJ y u)(h:∀s',aJ X aq σ H s'->Q (.bool o.isSome) s'):wpAny (model X.prog X.w) A (compareOp .In u (.ref a)) Q E s:=by
 rcases g with⟨kvs,k,e,ey,l⟩|⟨kvs,k,b,e,ey,eb,l⟩
 .subst ey;obtain⟨z,hd,vs,rel,dd⟩:=Am I.hok e;refine wpAny_in_of (Al ry) hd dd.mapOf ?_;rw[<-(rel.val k).yU,<-l];exact h _ (I.tok _)
 .subst ey;cases(show u=Value.ref b from ry);obtain⟨z,hd,xs,rel,dd⟩:=Ao I.hok e;refine wpAny_in_heap (tupleKind_room_in1 hu) (yV I.hok eb) hd dd ?_;have q:=(rel.val k).yU;rw[Option.isSome_map]at q;rw[<-q,<-l];exact h _ (I.tok _)
def Qf (I:aJ X aq σ H s)(mu:UJ (H a))(hs:Heap.SameBut a s.heap h')(he:∃q,h'.get? a=some q)(new:dU X.prog X.w (upd H a ob) h' a ob):aJ X aq σ (upd H a ob) {s with heap:=h',toks:=t' }:=I.write (x:=a) (e:=a) mu (.inl rfl) (λb q hb z=>(hs.2 b hb).trans z) he new
def adQ {h':Heap}{kvs:List (Key×V)}(z:kvs.length<=sizeLine)(hd:(a==sysModules)=false)(rel:KV kvs vs)(dd:h'.DictOf (cC P w) a vs):dU P w H' h' a (.dK kvs):=⟨z,hd,vs,rel,dd⟩
def Vo (hu:A.units+1<cLine)(I:aJ X aq σ H s)(g:sS H a y v H')(ry:bJ y u)(rv:bJ v r)(h:∀s',aJ X aq σ H' s'->Q () s'):wpAny (model X.prog X.w) A (setItem (.ref a) u r) Q E s:=by
 rcases g with⟨kvs,k,e,ey,l,eH⟩|⟨kvs,k,b,e,ey,eb,l,eH⟩
 .subst ey eH;obtain⟨z,hd,vs,rel,dd⟩:=Sd I.hok e;have hz:vs.length<=sizeLine:=by rw[<-rel.length];exact z
  have hl:(putK kvs k v).length<=sizeLine:=by have:=uV kvs k v;lia
  refine wpAny_setItem_pairs (hsz:=hz) (Al ry) dd λh' dd' hs=>h _ ?_;have he:∃q,h'.get? a=some q:=let ⟨q,_,_,hq,_⟩:=dd';⟨q,hq⟩
  exact Qf I (by rw[e];exact True.intro) hs he (adQ hl hd (rel.put k rv) dd')
 .subst ey eH;cases(show u=Value.ref b from ry);obtain⟨z,hd,xs,rel,dd⟩:=afO I.hok e;have hz:xs.length<=sizeLine:=by rw[<-Paired.length rel];exact z
  have hl:(putK kvs k v).length<=sizeLine:=by have:=uV kvs k v;lia
  refine wpAny_setItem_heap (hsz:=hz) (tupleKind_room_in1 hu) (yV I.hok eb) dd λh' dd' hs=>h _ ?_;obtain⟨q,es,ep,hq,h2,h3,h4,_,h5⟩:=dd';refine Qf I (by rw[e];exact True.intro) hs ⟨q,hq⟩ ⟨hl,hd,_,(rel.put k eb rv).keeps λc ys ec=>?_,q,es,ep,hq,h2,h3,h4,h5⟩;rw[bw (afD ec e (λz=>nomatch z))];exact ec
end
def YH (i:Expr):Prop:=∀ov iv,subscripted i false ov iv=operate [ov,iv] (getItem ov iv)
def abu {T id:String}(hl:typeLookup (.type T) "__getitem__"=pure (some (.builtin id)))(hs:YH slice)(h:wpAny (model prog w) A (eval value env) (λo s₁=>wpAny (model prog w) A (eval slice env) (λi s₂=>s₂.TypeIs o T/\wpAny (model prog w) A (getItem o i) Q E s₂) E s₁) E s):wpAny (model prog w) A (eval (.Subscript value slice pos) env) Q E s:=by
 refine Subscript_ (fm h (λo s₁ h₁=>fm h₁ (λi s₂ h₂=>?_) λ_ _ x=>x) λ_ _ x=>x);obtain⟨hT,h₂⟩:=h₂;unfold subscriptTail;refine ab ?_;rw[getitemInPython_of_ne hT.not_modules];refine ab (mB hT hl ?_);have fin:wpAny (model prog w) A (subscripted slice false o i) (λr s₃=>wpAny (model prog w) A (letTemporaryGo value o r >>= λ_=>pure r) Q E s₃) E s₂:=by rw[hs o i];exact wpAny_operating (fm h₂ (λr s₃ h₃=>ab (wpAny_letTemporaryGo (ah h₃))) λ_ _ x=>x)
 first| exact ah (ab fin)| exact ab (ah (ab fin))| exact ab fin
def Ou {X:Cx}{aq:AC}{σ:St}{H:Hp}{s:Shared}{a:Addr}{y:V}{o:Option V}(I:aJ X aq σ H s)(g:mD H a y o):s.TypeIs (.ref a) "dict":=by
 rcases g with⟨kvs,k,e,_,_⟩|⟨kvs,k,b,e,_,_,_⟩
 .obtain⟨_,_,vs,_,dd⟩:=Am I.hok e;exact dd.typeIs
 .obtain⟨_,_,xs,_,dd⟩:=Ao I.hok e;exact dd.typeIs
def aaM (td ty:TE):TE:=λσ H Q=>td σ H λx H1=>ty σ H1 λy H2=>∃a v,x=.ref a/\mD H2 a y (some v)/\Q v H2
def adR (ty td:TE):TE:=λσ H Q=>ty σ H λy H1=>td σ H1 λx H2=>∃a o,x=.ref a/\mD H2 a y o/\Q (.bl o.isSome) H2
def aaN (td ty tv:TE):TS:=λD σ H=>tv σ H λv H1=>td σ H1 λx H2=>ty σ H2 λy H3=>∃a H4,x=.ref a/\sS H3 a y v H4/\D.nx σ H4
section
variable {X:Cx}{o i value:Expr}{pos pos':Pos}{td ty tv:TE}
def abv (hu:X.A.units+1<cLine)(ho:PE X o td)(hi:PE X i ty)(hs:YH i):PE X (.Subscript o i pos) (aaM td ty):=by intro aq s σ H Q I h;refine abu PySem.F.slot_dict_getitem.lookup hs (bH (ho aq s σ H _ I h) λu s1 zz=>?_);obtain⟨x,H1,I1,rx,q1⟩:=zz;refine bH (hi aq s1 σ H1 _ I1 q1) λiv s2 zz=>?_;obtain⟨y,H2,I2,ry,a,v,ex,g,q2⟩:=zz;subst ex;obtain rfl:u=Value.ref a:=rx;exact⟨Ou I2 g,Vn hu I2 g ry λw' s3 I3 yS=>⟨v,H2,I3,yS,q2⟩⟩
def adS (hu:X.A.units+1<cLine)(hi:PE X i ty)(ho:PE X o td):PC X .In i o (adR ty td):=by intro aq s σ H Q I h;refine bH (hi aq s σ H _ I h) λiv s1 zz=>?_;obtain⟨y,H1,I1,ry,q1⟩:=zz;refine bH (ho aq s1 σ H1 _ I1 q1) λu s2 zz=>?_;obtain⟨x,H2,I2,rx,a,ov,ex,g,q2⟩:=zz;subst ex;obtain rfl:u=Value.ref a:=rx;exact agp hu I2 g ry λs3 I3=>⟨.bl ov.isSome,H2,I3,rfl,q2⟩
def abw (hu:X.A.units+1<cLine)(ho:PE X o td)(hi:PE X i ty)(hv:PE X value tv)(hs:swapsWith value (some (.Subscript o i pos')) pos.line X.env=pure false):PS X (.Assign [.Subscript o i pos'] value pos) (aaN td ty tv):=by intro aq s σ H D I h;refine wpAny_Assign_Subscript (bH (hv aq s σ H _ I h) λr s1 zz=>?_) hs;obtain⟨v,H1,I1,rv,q1⟩:=zz;refine bH (ho aq s1 σ H1 _ I1 q1) λu s2 zz=>?_;obtain⟨x,H2,I2,rx,q2⟩:=zz;refine bH (hi aq s2 σ H2 _ I2 q2) λiv s3 zz=>?_;obtain⟨y,H3,I3,ry,a,H4,ex,g,q3⟩:=zz;subst ex;obtain rfl:u=Value.ref a:=rx;exact Vo hu I3 g ry rv λs4 I4=>⟨σ,H4,I4,q3⟩
end
def YJ (h:Heap)(hb:sysModules<h.objs.size):dU P w H (h.push {cls:=.type "dict",data:=.dict #[]}) h.objs.size (.dK []):=⟨cw _,beq_eq_false_iff_ne.mpr (ie (be hb)),[],.nil,Heap.DictOf.new h⟩
def YK (h:Heap)(hb:sysModules<h.objs.size):dU P w H (h.push {cls:=.type "dict",data:=.dict #[]}) h.objs.size (.dT []):=⟨cw _,beq_eq_false_iff_ne.mpr (ie (be hb)),[],.nil,_,#[],0,aS _ rfl,⟨rfl,rfl,rfl⟩,rfl,rfl,np⟩
def Vp:TE:=λ_ H Q=>∀p,H p=none->Q (.ref p) (upd H p (.dK []))
def Vq:TE:=λ_ H Q=>∀p,H p=none->Q (.ref p) (upd H p (.dT []))
section
variable {X:Cx}{pos:Pos}
def YL:PE X (.Dict [] [] pos) Vp:=λaq s σ H Q I h=>wpAny_Dict_empty ⟨.ref s.heap.objs.size,_,I.laid (a:=s.heap.objs.size) (o:=.dK []) (t':=s.toks) (λ_ _ q=>af _ q) (ag _) (YJ s.heap I.big),rfl,h _ (I.hok.fresh (ag _))⟩
def YM:PE X (.Dict [] [] pos) Vq:=λaq s σ H Q I h=>wpAny_Dict_empty ⟨.ref s.heap.objs.size,_,I.laid (a:=s.heap.objs.size) (o:=.dT []) (t':=s.toks) (λ_ _ q=>af _ q) (ag _) (YK s.heap I.big),rfl,h _ (I.hok.fresh (ag _))⟩
end
structure M2 (X:Cx)(o:Expr)(m:Str)(apos:Pos)(e f:Expr)(cpos:Pos):Prop where
 base:attributeBase o m X.env (eval o X.env)=eval o X.env
 few:((backTo cpos (starEach [e,f] X.env)).all (λx=>!x.1)&&(backToKw cpos (keywordEach [] X.env)).all (λx=>x.1.isSome)
  && decide (([e,f]:List Expr).length+([]:List Keyword).length+(if ([]:List Keyword).isEmpty then 0 else 1)<30))=true
 line:(apos.endLine==cpos.line)=true
 trees:backTo cpos (starEach [e,f] X.env)=[(false,eval e X.env),(false,eval f X.env)]
def IsD (H:Hp)(a:Addr):Prop:=(∃kvs,Rd H a (.dK kvs))\/∃kvs,Rd H a (.dT kvs)
def adT {X:Cx}{aq:AC}{σ:St}{H:Hp}{s:Shared}{a:Addr}(I:aJ X aq σ H s)(d:IsD H a):s.TypeIs (.ref a) "dict"/\(∀b,Value.ref a=.ref b->∃ob,s.heap.get? b=some ob/\ob.dict=none)/\(a==sysModules)=false:=by
 rcases d with⟨kvs,e⟩|⟨kvs,e⟩
 .obtain⟨_,hd,vs,_,dd⟩:=Am I.hok e;refine⟨dd.typeIs,λb q=>?_,hd⟩;cases q;obtain⟨ob,_,_,h1,h2,_⟩:=dd;exact⟨ob,h1,h2.2.1⟩
 .obtain⟨_,hd,xs,_,dd⟩:=Ao I.hok e;refine⟨dd.typeIs,λb q=>?_,hd⟩;cases q;obtain⟨ob,_,_,h1,h2,_⟩:=dd;exact⟨ob,h1,h2.2.1⟩
section
variable {X:Cx}{aq:AC}{σ:St}{H:Hp}{s:Shared}{a:Addr}{y d:V}{u r:Value}{o:Option V}{A:Around}{E:AB}
def adU (hu:A.units+1<cLine)(I:aJ X aq σ H s)(g:mD H a y o)(ry:bJ y u)(rd:bJ d r)(h:∀w' s',aJ X aq σ H s'->bJ (o.getD d) w'->Q w' s'):wpAny (model X.prog X.w) A (call (.builtin "dict.get") [.ref a,u,r]) Q E s:=by
 rcases g with⟨kvs,k,e,ey,l⟩|⟨kvs,k,b,e,ey,eb,l⟩
 .subst ey;obtain⟨z,hd,vs,rel,dd⟩:=Am I.hok e;refine call_meetsIn kz dd.typeIs qk (ph _ _ _) (meets_dict_get_default (cC X.prog X.w) a (Al ry) hd r) ⟨_,dd.mapOf,h _ _ (I.tok _) ?_⟩;rw[l];exact(rel.val k).getD rd
 .subst ey;cases(show u=Value.ref b from ry);obtain⟨z,hd,xs,rel,dd⟩:=Ao I.hok e;refine call_meetsIn kz dd.typeIs qk (ph _ _ _) (meetsH_dict_get_default (tupleKind (cC X.prog X.w)) a b hd r) ⟨tupleKind_room_in1 hu,k,xs,yV I.hok eb,dd,h _ _ (I.tok _) ?_⟩;rw[l];exact(rel.val k).getD rd
end
def Vr (td ty tx:TE):TE:=λσ H Q=>td σ H λx H1=>∃a,x=.ref a/\IsD H1 a/\ty σ H1 λy H2=>tx σ H2 λz H3=>∃o,mD H3 a y o/\Q (o.getD z) H3
section
variable {X:Cx}{o e f:Expr}{apos cpos:Pos}{td ty tx:TE}
def YQ (hu:X.A.units+1<cLine)(ho:PE X o td)(he:PE X e ty)(hf:PE X f tx)(m:M2 X o "get" apos e f cpos):PE X (.Call (.Attribute o "get" apos) [e,f] [] cpos) (Vr td ty tx):=by
 intro aq s σ H Q I h;refine wpAny_Call_method m.base m.few m.line PySem.F.plainAttrs_dict kz PySem.F.type_dict_get (bH (ho aq s σ H _ I h) λu s1 ⟨x,H1,I1,rx,a,ex,d,q1⟩=>?_);subst ex;obtain rfl:u=Value.ref a:=rx;obtain⟨t1,t2,_⟩:=adT I1 d;refine⟨t1,t2,?_⟩;rw[m.trees];refine g9 rfl (nB (eR (bH (he aq s1 σ H1 _ I1 q1) λiv s2 ⟨y,H2,I2,ry,q2⟩=>eR (bH (hf aq s2 σ H2 _ I2 q2) λfv s3 ⟨z,H3,I3,rz,ov,g,q3⟩=>kK ?_))))
 exact adU hu I3 g ry rz λw' s4 I4 yS=>⟨_,H3,I4,yS,q3⟩
end
end L2
namespace Att
open PySem PySem.W PySem.Calls PyProof.Rows
def D_:∀(ns:List Int) (vs:List Value),WellAll P h vs (ns.map WData.int)->IntsAre vs ns:=by
 intro ns
 induction ns with
 | nil=>intro vs w;rw[kU]at w;cases w;exact .nil
 | cons n ns ih=>
  intro vs w;rw[cp]at w;cases w with| cons a b=>cases a;exact .cons _ _ (ih _ b)
def Vs {l:OpenLaw}(hn:l.most=some n)(hpre:l.row.toRowW.claim.pre args=true)(hwl:WellAll P h vals args):∃a vs ns,vals=[Value.ref a]/\args=[WData.list (ns.map WData.int)]/\h.get? a=some {cls:=.type "list",data:=.seq vs.toArray}/\IntsAre vs ns/\ns.length<=n:=by
 have hsh:WShape.hasAll [] args [.list .int]=true:=(pre_splitW hpre).1;have hc:l.pre.holds [] {args:=args}=true:=(pre_splitW hpre).2;obtain⟨d,r,rfl,h1,h2⟩:=hasAllW_cons hsh;obtain rfl:=hasAllW_nil h2;obtain⟨xs,rfl,h3⟩:=hasW_list h1;obtain⟨ns,rfl⟩:=items_int h3;have bW:ns.length<=n:=by
  unfold OpenLaw.pre at hc;have h4:(WTm.not (.lt (.lit (.int (n:Int))) (.len (.arg 0)))).holds [] {args:=[.list (ns.map .int)]}=true:=by have h4:=(holds_andW hc).1;rw[hn]at h4;exact h4
  have h5:=condW_of h4 (w_not (w_lt w_lit (w_len_list (w_arg rfl))));rw[aa]at h5;refine Nat.le_of_not_lt λq=>?_;have q':(n:Int)<((ns.length:Nat):Int):=nV gp q
  first| (rw[aE q']at h5;exact absurd h5 vS)| (simp at h5;lia)
 cases hwl with
 | cons w1 w2=>
  cases w2;cases w1 with| list ho hall=>exact⟨_,_,ns,rfl,rfl,ho,D_ ns _ hall,bW⟩
def Vt (l:OpenLaw)(args:List WData):l.row.toRowW.claim.post args (.bool true) args=true:=postW_of (r:=l.row.toRowW) (X:=(true==true))
  (show WShape.has [] (.bool true) .bool=true by first|rfl|decide|simp[WShape.has,WShape.arms,WShape.armsAll])
  (show (WTm.eq .res (.lit (.bool true))).value [] {args:=args,res:=some (.bool true),after:=args}=some (.bool (true==true)) from w_eq_bool (w_res rfl) w_lit) rfl
def Ov {l:OpenLaw}{d:DefRec}(hn:l.most=some n)(hdf:d.params.defaults=[])(call:∀(w:World) (s₀ s₁:Shared) (mg mb:Str->Option Value) (fa:Addr) (o:Obj) (pm cd doc:Value) (a:Addr) (vs:List Value) (ns:List Int),
   Ground q loose [] XP w s₀ mg mb s₁.heap->YP w s₁.heap->
   s₁.heap.get? fa=some o->o.data=.func (docDef d.name d.params d.body d.scope pm cd doc)->s₁.heap.CodeRec cd d.name->mg d.name=some (.ref fa)->
   s₁.heap.get? a=some {cls:=.type "list",data:=.seq vs.toArray}->IntsAre vs ns->ns.length<=n->s₁.gens=#[]->
   codeAny (model l.prog w) callerA (.call (.ref fa) ⟨[.ref a],[]⟩) (λr s'=>r=.ok (.ret (.bool true))/\OldK s₁.heap s'.heap/\s'.os=s₁.os/\AllBare s'.gens) s₁) :
  WalkO q loose XP YP l.row.toRowW d [] (λf vs=>PySem.call f vs):=by
 intro w s₀ s₁ mg mb G Y fa o pm cd doc dV kV ho hd hcd hD hmg hg args vals as hpre hlay hrd hwl hlo;obtain rfl:dV=.none:=Dflts.none hD hdf;obtain rfl:kV=.none:=Dflts.noKw hD;obtain⟨a,vs,ns,rfl,rfl,hobj,hints,bW⟩:=Vs hn hpre hwl;refine enter_call (io (call w s₀ s₁ mg mb fa o pm cd doc a vs ns G Y ho (fd_plain hd) hcd hmg hobj hints bW hg) λr s' hq=>?_);obtain⟨rfl,h2,h3,h4⟩:=hq;exact⟨.inl ⟨.bool true,.bool true,[],rfl,λ_=>rfl,.bool true,Vt l _,λ_=>⟨List.Pairwise.nil,λ_ hm=>(nomatch hm)⟩⟩,h2,h3,h4⟩
end Att
namespace L2
open PySem PySem.Spec PyProof.Rows
theorem IK:∀{vs:List Value} {ns:List Int},IntsAre vs ns->Vals (ns.map V.int) vs
 | _,_,.nil=>.nil
 | _,_,.cons n t h=>.cons ⟨t,rfl⟩ (IK h)
def Only (H:Hp):Prop:=∀b,H b=none\/∃o xs,H b=some (.o9 o (.lst xs))
def YS {K:W.Frag}{s₁:Shared}{vs:List Value}(KX:K.In s₁.heap)(hns:s₁.heap.Ns mainGlobals mg)(hb:s₁.heap.Ns builtinsNs mb)(hbb:∀x:Str,x≠"__name__"->mb x=bootBuiltins x)(hlim:s₁.heap.NoLimit)(hg:s₁.gens=#[])(ha:s₁.heap.get? a=some {cls:=.type "list",data:=.seq vs.toArray})(hi:IntsAre vs ns)(hl:ns.length<=sizeLine)(hr:dY k callerA)(F:∀base:Heap,K.In base->base.Ns mainGlobals mg->cL P w K mg base CX k fa fd [x] sp)(hbind:∀(s:Shared) (u:Value),BindsTo s fd ⟨[u],[]⟩ [(x,u)])(hsp:∀H:Hp,Only H->aQ K H a (ns.map V.int)->sp [.ref a] H (λv _=>v=.bl true) λ_ _ _=>False)(hCX:∀H e s',CX [] H s₁ (λ_ _ _=>False) e s'->False):codeAny (model P w) callerA (.call (.ref fa) ⟨[.ref a],[]⟩) (λr s'=>r=.ok (.ret (.bool true))/\OldK s₁.heap s'.heap/\s'.os=s₁.os/\AllBare s'.gens) s₁:=by
 have rv:=IK hi;have lenV:=hi.length;have core:∀H:Hp,Only H->aQ K H a (ns.map V.int)->iU P w H s₁.heap->(∀b,H b≠none->b=a)->(H a≠none->K.lookup a=none)->
   codeAny (model P w) callerA (.call (.ref fa) ⟨[.ref a],[]⟩) (λr s'=>r=.ok (.ret (.bool true))/\OldK s₁.heap s'.heap/\s'.os=s₁.os/\AllBare s'.gens) s₁:=by
  intro H hO hS hok hA hK;have Qg:∀{b:Addr} {o:Obj},s₁.heap.get? b=some o->H b=none->(wG s₁.heap H).get? b=some o:=λe n=>Yl e n;have Vh:∀{b:Addr} {o:Obj} {es:Array DictEntry} {ep:Nat},s₁.heap.get? b=some o->o.data=.dict es ep->H b=none:=λ{b o es ep} e d=>by
   cases q:H b with| none=>rfl| some u=>have e':b=a:=hA b (by rw[q];simp);subst e';rw[ha]at e;cases e;have d':Data.seq vs.toArray _=Data.dict es ep:=d;cases d'
  have nsK:∀{b:Addr} {m:Str->Option Value},s₁.heap.Ns b m->(wG s₁.heap H).Ns b m:=λ{b m} ⟨o,es,ep,e,d,r⟩=>⟨o,es,ep,Qg e (Vh e d),d,r⟩
  have hKb:K.In (wG s₁.heap H):=λb o e=>Qg (KX b o e) (by
   cases q:H b with
   | none=>rfl
   | some u=>have e':b=a:=hA b (by rw[q];simp);subst e';rw[hK (by rw[q];simp)]at e;cases e)
  have hM:Mod K mg (wG s₁.heap H):=⟨hKb,nsK hns,⟨mb,nsK hb,hbb⟩,let ⟨mc,h1,h2⟩:=hlim;⟨mc,nsK h1,h2⟩⟩
  have e0:yQ P w K mg (wG s₁.heap H) callerA [] s₁ H:=⟨rfl,hM,λb o e=>aa6 e,kS (UL _ _),trivial,λb hb=>absurd (show b∈([]:List Addr) from hb) vF,hok,.of_eq hg⟩
  refine io ((F _ hKb (nsK hns)).run callerA [] s₁ H ⟨[.ref a],[]⟩ [.ref a] [.ref a] _ _ hr e0 (hbind s₁ (.ref a)) (.cons rfl .nil) (hsp H hO hS)) λr s' h=>?_;cases r with
  | error e=>exact(hCX H e s' h).elim
  | ok fl=>
   cases fl with
   | next=>exact False.elim h
   | brk=>exact False.elim h
   | cont=>exact False.elim h
   | ret u=>
    obtain⟨v,H',os,bare,un,hok',r',q⟩:=h;have q':v=.bl true:=q;subst q';obtain rfl:u=Value.bool true:=r';refine⟨rfl,OldK.of_keep λb o e=>?_,os,bare⟩;cases q:H b with
    | none=>exact un.keep b o e q (by intro z;exact absurd (show b∈([]:List Addr) from z) vF) vF
    | some u=>
     rcases hO b with z|⟨ob,xs,z⟩;.rw[q]at z;cases z
     .have z2:=un.uU b ob _ z;obtain⟨e1,_⟩:=hok b _ z;obtain⟨e2,_⟩:=hok' b _ z2;rw[e]at e1;cases e1;exact e2
 cases hk:K.lookup a with
 | some o=>have e:=KX a o hk;rw[ha]at e;cases e;refine core (λ_=>none) (λ_=>.inl rfl) (.inr ⟨_,vs.toArray,_,hk,rfl,rfl,rfl,by rw[b7,lenV];exact hl,by simpa using rv⟩) (λb u z=>by have z':(none:Option HO)=some u:=z;cases z') (λb z=>absurd rfl z) λz=>absurd rfl z
 | none=>
  refine core (λb=>if b=a then some (.o9 {cls:=.type "list",data:=.seq vs.toArray} (.lst (ns.map V.int))) else none) (λb=>?_) (.inl (.inr ⟨{cls:=.type "list",data:=.seq vs.toArray},if_pos rfl⟩)) (λb u z=>?_) (λb z=>?_) λ_=>hk
  .by_cases hb:b=a;.exact .inr ⟨_,_,if_pos hb⟩
   .exact .inl (if_neg hb)
  .by_cases hb:b=a
   .have z':=(if_pos hb).symm.trans z;cases z';subst hb;exact⟨ha,by rw[aa];exact hl,vs,_,rv,ha⟩
   .have z':=(if_neg hb).symm.trans z;cases z'
  .by_cases hb:b=a;.exact hb
   .exact absurd (if_neg hb) z
abbrev KOf {K:W.Frag}{h:Heap}(_:K.In h):W.Frag:=K
def abx {l:W.OpenLaw}{n k:Nat}{loose:List Str}{XP:(Str->Option Value)->Heap->Prop}{YP:World->Heap->Prop}{d:DefRec}{K:Params->W.Frag}{CX:World->rF}{sp:World->Sp}{x:Str}(hn:l.most=some n)(hn2:n<=sizeLine)(hdf:d.params.defaults=[])(hr:dY k callerA)(hY:∀(w:World) (h:Heap),YP w h->(K w.params).In h)(F:∀(w:World) (mg:Str->Option Value) (fa:Addr) (h:Heap),(K w.params).In h->h.Ns mainGlobals mg->mg d.name=some (.ref fa)->
   ∃fd:FuncData,(∀(s:Shared) (u:Value),BindsTo s fd ⟨[u],[]⟩ [(x,u)])/\
    ∀base:Heap,(K w.params).In base->base.Ns mainGlobals mg->cL l.prog w (K w.params) mg base (CX w) k fa fd [x] (sp w))
  (hsp:∀(w:World) (H:Hp) (a:Addr) (ns:List Int),ns.length<=n->Only H->aQ (K w.params) H a (ns.map V.int)->sp w [.ref a] H (λv _=>v=.bl true) λ_ _ _=>False)
  (hCX:∀(w:World) (H:Hp) (s:Shared) (e:Value) (s':Shared),CX w [] H s (λ_ _ _=>False) e s'->False) :
  W.WalkO q loose XP YP l.row.toRowW d [] (λf vs=>PySem.call f vs):=by
 refine Att.Ov hn hdf λw s₀ s₁ mg mb fa o pm cd doc a vs ns G Y ho hd hcd hmg hobj hints bW hg=>?_;have KX:=hY w _ Y;obtain⟨fd,hb,hF⟩:=F w mg fa _ KX G.T.g hmg;exact YS KX G.T.g G.T.b G.T.builtins G.T.nolimit hg hobj hints (a9 bW hn2) hr hF hb (λH hO hS=>hsp w H a ns bW hO hS) λH e s'=>hCX w H s₁ e s'
def inClass (s:Stmt)(j:Nat):Stmt:=match s with| .ClassDef _ _ _ body _ _ _ _ _ _ _=>body.getD j (.Pass ⟨0,0,0,0⟩)| _=>.Pass ⟨0,0,0,0⟩
noncomputable def eF (s:Stmt):Arguments:=match s with| .FunctionDef _ a _ _ _ _ _ _ _ _=>a| _=>{posonlyargs:=[],args:=[],vararg:=none,kwonlyargs:=[],kw_defaults:=[],kwarg:=none,defaults:=[]}
def cM (s:Stmt):List Stmt:=match s with| .FunctionDef _ _ b _ _ _ _ _ _ _=>b| _=>[]
noncomputable def aH (s:Stmt):Scope:=match s with| .FunctionDef _ _ _ _ _ _ sc _ _ _=>sc| _=>{kind:=.function,names:=[],isGenerator:=false,isCoroutine:=false}
abbrev fW:rF:=λ_ _ _ _ _ _=>False
abbrev E0:XK:=λ_ _ _=>False
def gD:Passes fW X E0:=λ_ _ _ _ _ _ _ h=>h.elim
structure iD (K:W.Frag)(x qual:Str)(st:Stmt)(f:Addr)(fd:FuncData):Prop where
 ex:∃(oc:Value) (od:Option Addr) (kV doc pm:Value) (an:Option Addr) (bD ct:Value) (osl:Array (Option Value)),
  fd=W.fnOf x qual (eF st) (cM st) (aH st) .none kV doc pm an bD ct/\K.lookup f=some ⟨oc,od,.func fd,osl⟩/\W.codeIn K bD qual=true
 kp:W.keepIn K (.ref f)=true
section
variable {P:Program}{w:World}{K:W.Frag}{mg:Str->Option Value}{base:Heap}
def iD.ok {x qual:Str}{st:Stmt}{N ps:List Str}{k:Nat}{sp:Sp}(F:iD K x qual st f fd)(S:aW N ps (aH st))(len:∀vs H Q E,sp vs H Q E->vs.length=ps.length)(hbody:∀(bD:Value) (A:Around) (outer:List Env) (s:Shared) (H:Hp) (vs:List V) (Q:VK) (E:XK),dY k (A.deeper (envOfC qual (aH st) s.heap.objs.size f bD))->sp vs H Q E->
   ∃t,rD (sO fW P w K mg base N qual (aH st) f bD A outer s H E).Ih (cM st) t/\t {nx:=λ_ H'=>Q .non H',rt:=Q} (start N vs) H):cL P w K mg base fW (k+1) f fd ps sp:=by
 obtain⟨oc,od,kV,doc,pm,an,bD,ct,osl,rfl,lk,hcd⟩:=F.ex;refine afJ lk hcd S len λA outer s H vs Q E hr hsp=>?_;obtain⟨t,h,q⟩:=hbody bD A outer s H vs Q E hr hsp;exact⟨t,h.Ih,q⟩
def iD.binds {x qual:Str}{st:Stmt}{ps:List Str}(F:iD K x qual st f fd)(h:∀(kV doc pm:Value) (an:Option Addr) (bD ct:Value) (us:List Value),us.length=ps.length->bindArgs (W.fnOf x qual (eF st) (cM st) (aH st) .none kV doc pm an bD ct) ⟨us,[]⟩=pure (ps.zip us)):cj K fd ps []:=by obtain⟨oc,od,kV,doc,pm,an,bD,ct,osl,rfl,lk,hcd⟩:=F.ex;exact .all (h kV doc pm an bD ct)
def jV {x qual:Str}{st:Stmt}{f:Addr}{oc:Value}{od an:Option Addr}{osl:Array (Option Value)}{kV doc pm bD ct:Value}(l:K.lookup f=some ⟨oc,od,.func (W.fnOf x qual (eF st) (cM st) (aH st) .none kV doc pm an bD ct),osl⟩)(c:W.codeIn K bD qual=true)(k:W.keepIn K (.ref f)=true):iD K x qual st f (W.fnOf x qual (eF st) (cM st) (aH st) .none kV doc pm an bD ct):=⟨⟨oc,od,kV,doc,pm,an,bD,ct,osl,rfl,l,c⟩,k⟩
end
def wJ (hr:dY k A):A.units+1<cLine:=ko (l_ (by decide:1<=64) _) hr.units
def aM (h:n<=1000):n<sizeLine:=ko h vS
section
variable {X:Cx}
def pv (i:Nat){x:Str}{pos:Pos}(hN:X.N[i]?=some x:=by rfl)(hv:UW X.env.scope x:=by first|exact Or.inl rfl|exact Or.inr (Or.inl rfl)|exact Or.inr (Or.inr rfl))(hd:(x==("__debug__":Str))=false:=by decide)(hcd:(x==("__classdict__":Str))=false:=by decide):PE X (.Name x pos) (eO i):=acX hN hv hd hcd
end
def cA {A B:Prop}(h:B):if false=true then A else B:=by rw[if_neg bX];exact h
def cB {A B:Prop}(h:A):if true=true then A else B:=by rw[if_pos rfl];exact h
def sV {c A B:Prop} [Decidable c] (h1:c->A)(h2:¬c->B):if c then A else B:=by
 by_cases h:c
 .rw[if_pos h];exact h1 h
 .rw[if_neg h];exact h2 h
def Sg {c A B:Prop} [Decidable c] (hc:c)(h:B):if (!decide c)=true then A else B:=by rw[aE hc];exact cA h
def aB (H H':Hp):Prop:=∀b o,H b=some o->H' b=some o
def aB.refl (H):aB H H:=λ_ _ h=>h
def aB.trans (a:aB H H1)(b:aB H1 H2):aB H H2:=λc o h=>b c o (a c o h)
def aB.free (e:aB H H')(h:H' l=Option.none):H l=Option.none:=by
 cases q:H l with| none=>rfl| some o=>rw[e l o q]at h;cases h
def aB.seq {K:W.Frag}{xs:List V}(e:aB H H')(h:aQ K H a xs):aQ K H' a xs:=by
 rcases h with(h|⟨o,h⟩)|h;.exact .inl (.inl (e _ _ h))
 .exact .inl (.inr ⟨o,e _ _ h⟩)
 .exact .inr h
section
variable {κ:Type}[DecidableEq κ]
theorem Qh:∀{l:List κ} {k:κ},l.Nodup->¬k∈l->(l++[k]).Nodup
 | [],k,_,_=>by simp
 | a::r,k,h,hk=>by
  obtain⟨h1,h2⟩:=f7.mp h;show (a::(r++[k])).Nodup;refine f7.mpr ⟨λm=>?_,Qh h2 λm=>hk (bb.mpr (Or.inr m))⟩;rcases ba.mp m with q|q;.exact h1 q
  .exact hk (bb.mpr (Or.inl (ap.mp q).symm))
end
noncomputable def blk (X:Cx)(scope:Scope)(cl:List (Str×Addr))(C:Addr)(x:Str)(s₀:Shared)(H₀:Hp)(fp:List Addr):Cx:={X with N:=x::X.N,s₀:=s₀,H₀:=H₀,env:=compEnvC scope cl C X.env,outer:=X.stack,ex:=fp,fn:=λ_=>false,pn:=[],xe:=λ_ _=>False}
structure fH (X:Cx)(scope:Scope)(x:Str):Prop where
 kind:scope.kind=.function
 Ea:∀y∈scope.names,y.2≠.cell
 names:∀y∈scope.names,y.2=.local->scope.names.lookup y.1=some .local
 hx:scope.names.lookup x=some .local
 free:∀y∈scope.names,y.2=.free->X.env.kindOf y.1=some .cell\/X.env.kindOf y.1=some .free
 out:∀y∈X.N,scope.names.lookup y≠some .local
 nd:X.N.Nodup
noncomputable def Qi (sc:Scope)(N:List Str)(scope:Scope)(x:Str):Bool:=scope.kind == .function&&scope.names.all (λy=>y.2 != .cell)&&scope.names.all (λy=>y.2 != .local||scope.names.lookup y.1==some .local)&&scope.names.lookup x==some .local &&
 scope.names.all (λy=>y.2 != .free||sc.names.lookup y.1==some .cell||sc.names.lookup y.1==some .free)&&N.all (λy=>scope.names.lookup y != some .local)
def fH.of {X:Cx}(hN:X.N.Nodup)(h:Qi X.env.scope X.N scope x=true):fH X scope x:=by
 unfold Qi at h;simp only[dS,hV,Bool.or_eq_true,bne_iff_ne,beq_iff_eq,ne_eq]at h;obtain⟨⟨⟨⟨⟨h1,h2⟩,h3⟩,h4⟩,h5⟩,h6⟩:=h;refine⟨h1,λy hy=>h2 y hy,λy hy e=>(h3 y hy).resolve_left λz=>z e,h4,λy hy e=>?_,λy hy=>h6 y hy,hN⟩;rcases h5 y hy with(z|z)|z;.exact absurd e z
 .exact .inl z
 .exact .inr z
theorem jk {α:Type}:∀{l:List (Str×α)} {x:Str} {a:α},l.lookup x=some a->(x,a)∈l
 | [],_,_,h=>by simp at h
 | (y,b)::r,x,a,h=>by
  rw[ib]at h;split at h
  .rename_i e;have e':x=y:=by simpa using e
   cases h;subst e';exact a6
  .exact aI _ (jk h)
theorem wK {env:Env}:∀(names:List (Str×NameKind)),(∀y∈names,y.2=.free->∃c,env.cells.lookup y.1=some c)->∀acc:List (Str×Addr),(∀n c,acc.lookup n=some c->env.cells.lookup n=some c)->
  ∃cl,(forIn names acc (λ(p:Str×NameKind) (cs:List (Str×Addr))=>if (p.2==NameKind.free)=true then (do let a <- cellOf env p.1;pure (ForInStep.yield ((p.1,a)::cs))) else (pure (ForInStep.yield cs):Sem _)):Sem (List (Str×Addr)))=pure cl/\
   (∀n c,cl.lookup n=some c->env.cells.lookup n=some c)/\(∀n,(∃c,acc.lookup n=some c)->∃c,cl.lookup n=some c)/\∀n,(n,NameKind.free)∈names->∃c,cl.lookup n=some c
 | [],_,acc,ha=>⟨acc,vF,ha,λ_ h=>h,λ_ h=>by simp at h⟩
 | (n,k)::r,hf,acc,ha=>by
  have hr:∀y∈r,y.2=.free->∃c,env.cells.lookup y.1=some c:=λy hy=>hf y (aI _ hy);by_cases hk:k=.free
  .subst hk;obtain⟨c,hc⟩:=hf (n,.free) a6 rfl;obtain⟨cl,e,h1,h2,h3⟩:=wK r hr ((n,c)::acc) (λn' c' h=>by
    rw[ib]at h;split at h
    .rename_i q;have q':n'=n:=by simpa using q
     cases h;subst q';exact hc
    .exact ha n' c' h)
   refine⟨cl,?_,h1,λn' h=>h2 n' ?_,λn' h=>?_⟩
   .rw[iq];simp only[beq_self_eq_true,if_true];have e2:cellOf env n=pure c:=by unfold cellOf;rw[hc]
    rw[e2];simp only[pure_bind];exact e
   .obtain⟨c',hc'⟩:=h;rw[ib];split;.exact⟨c,rfl⟩
    .exact⟨c',hc'⟩
   .rcases bb.mp h with q|q
    .refine h2 n' ⟨c,?_⟩;cases q;rw[ib,beq_self_eq_true]
    .exact h3 n' q
  .have hb:(k==NameKind.free)=false:=by simpa using hk
   obtain⟨cl,e,h1,h2,h3⟩:=wK r hr acc ha;refine⟨cl,?_,h1,h2,λn' h=>?_⟩
   .rw[iq];simp only[hb,bd,if_false,pure_bind];exact e
   .rcases bb.mp h with q|q;.cases q;exact absurd rfl hk
    .exact h3 n' q
theorem iu {env:Env}:∀{names:List (Str×NameKind)} {x:Str} {k:NameKind},
  (names.map λ(n,k)=>if (k==NameKind.free&&env.scope.kind == .function&&env.kindOf n==some .cell) then (n,NameKind.cell) else (n,k)).lookup x=some k->names.lookup x=some k\/(k=.cell/\names.lookup x=some .free)
 | [],_,_,h=>by simp at h
 | (n,j)::r,x,k,h=>by
  have ih:=@iu env r x k;have h':List.lookup x ((if (j==NameKind.free&&env.scope.kind == .function&&env.kindOf n==some .cell)=true then (n,NameKind.cell) else (n,j))::_)=some k:=h;by_cases hc:(j==NameKind.free&&env.scope.kind == .function&&env.kindOf n==some .cell)=true
  .rw[if_pos hc]at h';cases hx:x==n with
   | true=>
    simp only[ib,hx]at h' ⊢;cases h';have:j=.free:=by simp at hc;exact hc.1.1
    exact .inr ⟨rfl,by rw[this]⟩
   | false=>simp only[ib,hx]at h' ⊢;exact ih h'
  .rw[if_neg hc]at h';cases hx:x==n with| true=>simp only[ib,hx]at h' ⊢;exact .inl h'| false=>simp only[ib,hx]at h' ⊢;exact ih h'
def Sh (I:Nat->Shared->Prop)(turn:∀n s,I n s->wpAny (model prog w) A (pyNext it) (λr s₁=>match r with
   | none=>R (.ok .next) s₁
   | some v=>wpAny (model prog w) A (letOwnedTupleGo target it v) (λ_ s₀=>wpAny (model prog w) A (assign target env v) (λ_ s₂=>
     wpAny (model prog w) A (forIn ifs true λc r=>if r=true then do let ok <- isTrue c env (eval c env);pure (ForInStep.yield ok) else pure (ForInStep.yield r)) (λok s₃=>
      if ok=true then wpAny (model prog w) A (eval elt env) (λx s₄=>wpAny (model prog w) A (call (.builtin "list.append") [acc,x]) (λ_ s₅=>∃m,m<n/\I m s₅) (λ_ _=>False) s₄) (λ_ _=>False) s₃
      else ∃m,m<n/\I m s₃) (λ_ _=>False) s₂) (λ_ _=>False) s₀) (λ_ _=>False) s₁) (λ_ _=>False) s)
  (n) (h:I n s) :
  codeAny (model prog w) A (.compLoop (.ListComp elt [⟨target,iter,ifs,0⟩] scope pos) 0 it acc env) R s:=by
 refine codeAny_loop rfl I (λn s hI=>?_) n h;show wpAny _ A ((compTurn (.ListComp elt [⟨target,iter,ifs,0⟩] scope pos) 0 it acc env).onRaise (λx=>do noteFrame x env;theTreesLotGoes x)) _ _ s;refine wpAny_noted ?_;rw[compTurn_list];refine ab (qS (ab (fm (turn n s hI) (λr s₁ h₁=>?_) λ_ _ h'=>h'.elim)));cases r with
 | none=>exact ah h₁
 | some v=>
  refine ab (fm h₁ (λ_ s₀ h₀=>?_) λ_ _ h'=>h'.elim);refine ab (fm h₀ (λ_ s₂ h₂=>ab (fm h₂ (λok s₃ h₃=>?_) λ_ _ h'=>h'.elim)) λ_ _ h'=>h'.elim);cases ok with| false=>exact ah ⟨rfl,h₃⟩| true=>exact ab (ab (fm h₃ (λx s₄ h₄=>ab (fm h₄ (λ_ s₅ h₅=>ah (ah ⟨rfl,h₅⟩)) λ_ _ h'=>h'.elim)) λ_ _ h'=>h'.elim))
def K6 (X:Cx)(ifs:List Expr)(t:TT):Prop:=∀(aq:AC) (s:Shared) (σ:St) (H:Hp) (Q:Bool->Hp->Prop),aJ X aq σ H s->t σ H Q->
  wpAny (model X.prog X.w) X.A (forIn ifs true λc r=>if r=true then do let ok <- isTrue c X.env (eval c X.env);pure (ForInStep.yield ok) else pure (ForInStep.yield r)) (TP X aq σ Q) X.xe s
def gF:TT:=λ_ H Q=>Q true H
def aby:K6 X [] gF:=λ_ _ _ H _ I h=>wpAny_tests_nil ⟨H,I,h⟩
def abz (h:PT X c t):K6 X [c] t:=λaq s σ H Q I q=>wpAny_tests_one (h aq s σ H Q I q)
def dJ (n i:Nat)(P:Prop):Prop:=∃m',m'<n-i/\m'=n-(i+1)/\i+1<=n/\P
abbrev Cu (n i:Nat)(D:Addr)(ys:List V)(P:List V->Hp->Prop)(y:V)(H3:Hp):Prop:=H3 D=some (.lst ys)/\ys.length<sizeLine/\dJ n i (P (ys++[y]) (upd H3 D (.lst (ys++[y]))))
abbrev qO (J:It)(D:Addr)(H:Hp)(R:Hp->Prop)(B:V->Hp->VK->(Hp->Prop)->Prop):Prop:=∃W:Nat->Nat->List V->Hp->Prop,(∃m,W 0 m [] (upd H D (.lst [])))/\
 ∀i m ys H,W i m ys H->(J.stop i H/\R H)\/(J.go i H/\∀x H',J.Ij i H x H'->B x H' (λy H3=>H3 D=some (.lst ys)/\ys.length<sizeLine/\∃m',m'<m/\W (i+1) m' (ys++[y]) (upd H3 D (.lst (ys++[y])))) λH2=>∃m',m'<m/\W (i+1) m' ys H2)
def Cv {J:It}{D:Addr}{H:Hp}{R:Hp->Prop}{B:V->Hp->VK->(Hp->Prop)->Prop}(n:Nat)(Pv:Nat->List V->Hp->Prop)(h0:Pv 0 [] (upd H D (.lst [])))(hg:∀i ys H,i<n->Pv i ys H->J.go i H/\∀x H',J.Ij i H x H'->B x H' (Cu n i D ys (Pv (i+1))) λH2=>dJ n i (Pv (i+1) ys H2))(he:∀ys H,Pv n ys H->J.stop n H/\R H):qO J D H R B:=by
 refine⟨λi m ys H=>m=n-i/\i<=n/\Pv i ys H,⟨n,vF,cw _,h0⟩,?_⟩;rintro i m ys H ⟨rfl,hi,p⟩;by_cases hlt:i<n;.exact .inr (hg i ys H hlt p)
 .have e:i=n:=vE;subst e;exact .inl (he ys H p)
def Aq {Sq:Hp->List V->Prop}{B:V->Hp->VK->(Hp->Prop)->Prop}{xs:List V}{D:Addr}{H:Hp}{R:Hp->Prop}(Pv:Nat->List V->Hp->Prop)(h0:Pv 0 [] (upd H D (.lst [])))(hl:∀i ys H,i<=xs.length->Pv i ys H->Sq H xs)(hs:∀i x ys H,xs[i]?=some x->Pv i ys H->B x H (Cu xs.length i D ys (Pv (i+1))) λH2=>dJ xs.length i (Pv (i+1) ys H2))(hd:∀ys H,Pv xs.length ys H->R H):qO (ItS Sq) D H R B:=Cv xs.length Pv h0 (λi ys H h p=>⟨⟨xs,xs[i],hl i ys H (ay h) p,by simp[h]⟩,λx H' ⟨e,y⟩=>by subst e;exact hs i x ys _ (y xs (hl i ys _ (ay h) p)) p⟩) λys H p=>⟨⟨xs,hl _ ys H (ag _) p,ag _⟩,hd ys H p⟩
abbrev K7 (σ:St)(tt:TT)(te:TE)(x:V)(H:Hp)(k:VK)(l:Hp->Prop):Prop:=tt (some x::σ) H λb H2=>if b=true then te (some x::σ) H2 k else l H2
def Eb (wi:TI)(tt:TT)(te:TE):TE:=λσ H Q=>wi σ H λJ H1=>∀D,H1 D=none->qO J D H1 (Q (.ref D)) (K7 σ tt te)
noncomputable def d8 (X:Cx)(scope:Scope)(cl:List (Str×Addr))(C:Addr)(N:List Str)(s₀:Shared)(H₀:Hp)(fp:List Addr):Cx:={X with N:=N,s₀:=s₀,H₀:=H₀,env:=compEnvC scope cl C X.env,outer:=X.stack,ex:=fp,fn:=λ_=>false,pn:=[],xe:=λ_ _=>False}
structure fu (X:Cx)(scope:Scope)(ns N2:List Str)(f:St->St):Prop where
 kind:scope.kind=.function
 Ea:∀y∈scope.names,y.2≠.cell
 names:∀y∈scope.names,y.2=.local->scope.names.lookup y.1=some .local
 free:∀y∈scope.names,y.2=.free->X.env.kindOf y.1=some .cell\/X.env.kindOf y.1=some .free
 agq:∀σ:St,(f σ).length=σ.length
 agr:N2.length=X.N.length
 out:∀(σ:St) (i:Nat) (y:Str) (v:V),N2[i]?=some y->(f σ)[i]?=some (some v)->X.N[i]?=some y/\σ[i]?=some (some v)/\scope.names.lookup y≠some .local
def IV (X:Cx)(tg:Expr)(k:Nat)(TP:V->Hp->(St->Prop)->Prop):Prop:=∀(aq:AC) (s:Shared) (pre rest:St) (H:Hp) (v:V) (u:Value) (Q:St->Prop),pre.length=k->aJ X aq (pre++rest) H s->bJ v u->TP v H Q->
  wpAny (model X.prog X.w) X.A (assign tg X.env u) (λ_ s'=>∃pre',pre'.length=k/\aJ X aq (pre'++rest) H s'/\Q pre') (λ_ _=>False) s
def BR (TP:V->Hp->(St->Prop)->Prop)(f:St->St)(σ:St)(tt:TT)(te:TE)(x:V)(H:Hp)(k:VK)(l:Hp->Prop):Prop:=TP x H λpre=>tt (pre++f σ) H λb H2=>if b=true then te (pre++f σ) H2 k else l H2
def yW (f:St->St)(k:Nat)(wi:TI)(TP:V->Hp->(St->Prop)->Prop)(tt:TT)(te:TE):TE:=λσ H Q=>wi σ H λJ H1=>∀D,H1 D=none->qO J D H1 (Q (.ref D)) (BR TP f σ tt te)
def yX {X:Cx}{elt iter tg:Expr}{ns N2:List Str}{f:St->St}{TP:V->Hp->(St->Prop)->Prop}{ifs:List Expr}{scope:Scope}{pos:Pos}{wi:TI}{tt:TT}{te:TE}(hc:X.calm=true)(ok:fu X scope ns N2 f)(hi:PI X tg iter wi)(hg:∀cl C s₀ H₀ fp,IV (d8 X scope cl C (ns++N2) s₀ H₀ fp) tg ns.length TP)(ht:∀cl C s₀ H₀ fp,K6 (d8 X scope cl C (ns++N2) s₀ H₀ fp) ifs tt)(he:∀cl C s₀ H₀ fp,PE (d8 X scope cl C (ns++N2) s₀ H₀ fp) elt te)(hs:∀x,foldedSetIterable iter X.env x=pure x:=by intro _;rfl){use:Option (Value->Sem Unit)}{RR:AB}{p1:Pos}{aq:AC}{s:Shared}{σ:St}{H:Hp}{Q:V->Hp->Prop}(I:aJ X aq σ H s)(h:yW f ns.length wi TP tt te σ H Q)(fin:∀(D C:Addr) (H4:Hp) (s5:Shared) (m:Str->Option Value),s5.heap.Ns C m->(∀h',Heap.SameBut C s5.heap h'->aJ X aq σ H4 {s5 with heap:=h' })->nu X aq H4 C->Q (.ref D) H4->compPost (model X.prog X.w) X.A X.xe use RR (.ref D) C (.ok .next) s5):wpAny (model X.prog X.w) X.A (comprehension (.ListComp elt [⟨tg,iter,ifs,0⟩] scope pos) scope X.env p1 (newList []) false (eval iter X.env) use) RR X.xe s:=by
 obtain⟨cl,hcl,hsub,_,hall⟩:=wK (env:=X.env) scope.names (λy hy e=>I.ok.has y.1 (ok.free y hy e)) [] (λ_ _ z=>by simp at z);have hclos:closureFor scope X.env=pure cl:=by unfold closureFor;simp only[bind_pure];exact hcl
 refine wpAny_comprehension_free (use:=use) (E:=X.xe) (cl:=cl) rfl hs hclos ok.kind ok.names (bH (hi aq s σ H _ I h) λv s1 h1=>bH h1 λitv s2 h2=>?_);obtain⟨it,fp,tn,J,H2,e,I2,T,st2,f2,R⟩:=h2;subst e;obtain⟨W,⟨m0,w0⟩,turn⟩:=R s2.heap.objs.size I2.fresh;refine fI (wpAny_newFunctionEnv ok.Ea (by intro y hy;simp at hy) (λh₁ hns₁ hsb₁=>?_) ok.kind);dsimp only at hns₁ hsb₁ ⊢;have I3:aJ X aq σ (upd H2 s2.heap.objs.size (.lst [])) {s2 with heap:=s2.heap.push {cls:=.type "list",data:=.seq ([]:List Value).toArray} }:=I2.adO (t':=s2.toks) (ys:=[]) (its:=[]) .nil (cw _);generalize hH3:upd H2 s2.heap.objs.size (HO.lst [])=H3 at *
 generalize hs3:s2.heap.push {cls:=.type "list",data:=.seq ([]:List Value).toArray}=hp3 at *
 generalize hD:s2.heap.objs.size=D at *
 generalize hC:hp3.objs.size=C at *
 have hDC:D<C:=by rw[<-hC,<-hs3,ef,hD];exact e8 _
 have old:∀b o,hp3.get? b=some o->h₁.get? b=some o:=λb o e=>(hsb₁.2 b (by rw[<-hC];exact be (a7 e))).trans (af _ e);have fpl:∀b∈fp,b<C:=λb hb=>by obtain⟨o,e,_⟩:=T.obj _ _ st2 b hb;rw[<-hC,<-hs3,ef];exact eK (a7 e)
 have f3:∀b∈fp,nu X aq H3 b:=λb hb=>by obtain⟨o,e,_⟩:=T.obj _ _ st2 b hb;refine⟨?_,(f2 b hb).2⟩;rw[<-hH3,bw (by rw[<-hD];exact be (a7 e))];exact(f2 b hb).1
 have adV:∀b∈fp,b∉frs X.stack:=λb hb z=>by
  obtain⟨_,g1,g2,_⟩:=f3 b hb;rcases bb.mp (I3.KD b z) with q|q;.exact g1 q
  .exact g2 q
 have YOk:(d8 X scope cl C (ns++N2) {s2 with heap:=hp3} H3 fp).Ok:=by
  refine⟨I.ok.mod,?_,I.ok.glob,I.ok.blt,kS hC,?_,?_,?_,I.ok.hd,I.ok.frames,.inl rfl,?_,?_,?_,?_,?_,?_,?_⟩;.exact ok.kind
  .exact λa b c h1 h2=>I.ok.inj a b c (hsub a c h1) (hsub b c h2)
  .intro a ha;refine hall a ?_;rcases ha with z|z
   .rcases iu (env:=X.env) z with q|⟨_,q⟩;.exact absurd rfl (ok.Ea _ (jk q))
    .exact jk q
   .rcases iu (env:=X.env) z with q|⟨q,_⟩;.exact jk q
    .cases q
  .intro a c hf;cases hf
  .intro b hb;refine⟨be (fpl b hb),λa c h1=>(f3 b hb).2.2.2.2.1 a c (hsub a c h1)⟩
  .exact I3.bs
  .exact a9 I.ok.DG I3.sz
  .intro b o e hb;rcases(f3 b hb).2.2.2.1 with z|z;.exact I.ok.Kz b o e z
   .exact absurd (bq (a7 e) (a9 I.ok.DG z)) (hG _)
  .exact adV
  .exact I3.stack
  .exact I3.PX
 have Y0:aJ (d8 X scope cl C (ns++N2) {s2 with heap:=hp3} H3 fp) [] (List.replicate ns.length none++f σ) H3 {s2 with heap:=h₁,toks:=s2.toks+([]:List (Str×Value)).length}:=by
  refine⟨YOk,rfl,I3.bare,Un.kept old,⟨_,hns₁,?_⟩,?_,?_,?_,λp hp=>by simp[d8]at hp,I3.hok.kept old,?_⟩
  .intro i y v e1 e2 e3;by_cases cV:i<ns.length
   .rw[dQ (by rw[eC];exact cV),List.getElem?_replicate,if_pos cV]at e2;simp at e2
   .obtain⟨i,rfl⟩:∃k,i=ns.length+k:=⟨i-ns.length,by simp_all⟩
    have e1a:(ns++N2)[ns.length+i]?=some y:=e1;rw[c_ vE,gL]at e1a;rw[c_ (by rw[eC];lia),eC,gL]at e2;obtain⟨e1',e2',hout⟩:=ok.out σ i y v e1a e2;have hfree:(y,NameKind.free)∈scope.names:=by
     have key:∀k,(relabel scope X.env).names.lookup y=some k->k≠.local->k=.cell\/k=.free->(y,NameKind.free)∈scope.names:=λk q n hk=>by
      rcases iu (env:=X.env) q with z|⟨_,z⟩
      .rcases hk with rfl|rfl;.exact absurd rfl (ok.Ea _ (jk z))
       .exact jk z
      .exact jk z
     rcases e3 with z|z|z
     .rcases iu (env:=X.env) z with q|⟨q,_⟩;.exact absurd q hout
      .cases q
     .exact key _ z vS (.inl rfl)
     .exact key _ z vS (.inr rfl)
    have hk:=ok.free _ hfree rfl;obtain⟨m,hn,hl⟩:=I3.loc;obtain⟨u,r,q⟩:=hl i y v e1' e2' (by rcases hk with z|z;exact .inr (.inl z);exact .inr (.inr z));refine⟨u,r,.inr ⟨?_,?_⟩⟩
    .rcases e3 with z|z|z
     .rcases iu (env:=X.env) z with q|⟨q,_⟩;.exact absurd q hout
      .cases q
     .exact .inl z
     .exact .inr z
    .rcases q with⟨z,_⟩|⟨_,c,hc',hcell⟩
     .rcases hk with q|q <;> (rw[z]at q;cases q)
     .obtain⟨c',hc2⟩:=hall y hfree;have:c'=c:=by have:=hsub y c' hc2;rw[hc']at this;exact(ax this).symm
      subst this;obtain⟨o,ho,hd⟩:=hcell;exact⟨c',hc2,o,old _ _ ho,hd⟩
  .intro a c h1;obtain⟨v,o,ho,hd⟩:=I3.cell a c (hsub a c h1);exact⟨v,o,old _ _ ho,hd⟩
  .show H3 C=none;exact I3.hok.fresh (kS hC)
  .exact λa c h1=>I3.nT a c (hsub a c h1)
  .show (List.replicate ns.length none++f σ).length=(ns++N2).length;rw[av,av,eC,ok.agq,I.len,ok.agr]
 have back:∀(s':Shared) (v:St) (H':Hp) (h':Heap),aJ (d8 X scope cl C (ns++N2) {s2 with heap:=hp3} H3 fp) [] v H' s'->Heap.SameBut C s'.heap h'->(∀b∈fp,H' b=none)->aJ X aq σ H' {s' with heap:=h' }:=by
  intro s' v H' h' I' sb fr;have Ie:∀b o,hp3.get? b=some o->b≠C:=λb o e=>by rw[<-hC];exact be (a7 e)
  have U:Un (frs X.stack) fp H3 H' hp3 s'.heap:=I'.base;refine I3.call' (ch:=fp) (H':=H') (s':={s' with heap:=h' }) I'.os ⟨λb o e n h1 h2=>(sb.2 b (Ie b o e)).trans (U.keep b o e n h1 h2),λb o e n h1 h2=>?_,U.free,λb o e h2=>?_,U.tups,U.uU,U.wF⟩ (λb ob e=>?_) I'.bare λb hb=>?_
  .obtain⟨sl,q⟩:=U.slot b o e n h1 h2;exact⟨sl,(sb.2 b (Ie b o e)).trans q⟩
  .obtain⟨o',q⟩:=U.there b o e h2;exact⟨o',(sb.2 b (Ie b o e)).trans q⟩
  .have fC:H' C=none:=I'.free;refine(I'.hok b ob e).stay (λc w' hc q=>(sb.2 c ?_).trans q) (λ_ q=>q) λ_ _ q=>q;rintro rfl;rcases hc with rfl|hc
   .rw[fC]at e;cases e
   .rw[fC]at hc;cases hc
  .obtain⟨_,g1,_,g3,g4,g5⟩:=f3 b hb;exact⟨g3,g1,g4,g5⟩
 have stat:∀{H':Hp},(∀b∈fp,H' b=none)->∀b∈fp,nu (d8 X scope cl C (ns++N2) {s2 with heap:=hp3} H3 fp) [] H' b:=λhn b hb=>⟨hn b hb,be (fpl b hb),adV b hb,.inl hb,λa c h1=>(f3 b hb).2.2.2.2.1 a c (hsub a c h1),λp hp=>by simp[d8]at hp⟩
 have st₁:tn 0 h₁:=T.keep _ _ _ st2 λb _ o e=>old b o (by rw[<-hs3];exact af _ e);have loop:codeAny (model X.prog X.w) X.A (.compLoop (.ListComp elt [⟨tg,iter,ifs,0⟩] scope pos) 0 (.ref it) (.ref D) (compEnvC scope cl C X.env)) (compPost (model X.prog X.w) X.A X.xe use RR (.ref D) C)
   {s2 with heap:=h₁,toks:=s2.toks+([]:List (Str×Value)).length}:=by
  refine Sh (λn s'=>∃i v ys H',v.length=ns.length/\aJ (d8 X scope cl C (ns++N2) {s2 with heap:=hp3} H3 fp) [] (v++f σ) H' s'/\tn i s'.heap/\(∀b∈fp,H' b=none)/\W i n ys H') ?_ m0 ⟨0,List.replicate ns.length none,[],H3,eC,Y0,st₁,λb hb=>(f3 b hb).1,w0⟩;rintro n s4 ⟨i,v,ys,H4,hv4,I4,eE,Qj,w4⟩;rcases turn i n ys H4 w4 with⟨stop,qn⟩|⟨go,step⟩
  .refine bH (T.done (d8 X scope cl C (ns++N2) {s2 with heap:=hp3} H3 fp) rfl rfl rfl hc i [] s4 (v++f σ) H4 _ I4 (stat Qj) eE stop) λr s5 ⟨hr,I5⟩=>?_
   subst hr;obtain⟨m,hn,_⟩:=id I5.loc;exact fin D C H4 s5 m hn (λh' sb=>back s5 (v++f σ) H4 h' I5 sb Qj) ⟨I5.free,(I3.mC (H':=H3) (kS hC) (I3.hok.fresh (kS hC))).2⟩ qn
  .refine bH (T.item (d8 X scope cl C (ns++N2) {s2 with heap:=hp3} H3 fp) rfl rfl rfl hc i [] s4 (v++f σ) H4 _ I4 (stat Qj) eE go) λr s5 zz=>?_;obtain⟨u,hr,h5⟩:=zz
   subst hr;refine bH h5 λ_ s6 zz=>?_;obtain⟨y,H6,I6,r6,y6,st6,fr6⟩:=zz;have I6':=I6.pinned (stat fr6) (T.obj _ _ st6);refine bH (hg cl C {s2 with heap:=hp3} H3 fp _ s6 v (f σ) H6 y u _ hv4 I6' r6 (step y H6 y6)) λ_ s7 zz=>?_;obtain⟨pre,hpre,I7',q7⟩:=zz;refine bH (ht cl C {s2 with heap:=hp3} H3 fp _ s7 _ H6 _ I7' q7) λb s8 zz=>?_;obtain⟨H8,I8,q8⟩:=zz;have Vu:∀{σ':St} {H':Hp} {s':Shared},aJ (d8 X scope cl C (ns++N2) {s2 with heap:=hp3} H3 fp) ([]++yM fp s6.heap) σ' H' s'->tn (i+1) s'.heap/\∀b∈fp,H' b=none:=λ{σ' H' s'} I9=>by refine⟨T.keep _ _ _ st6 λb hb o e=>(I9.pin (b,o) (dq _ (dq _ (nZ hb e)))).1,λb hb=>?_⟩;obtain⟨o,e,d⟩:=T.obj _ _ st6 b hb;exact(I9.pin (b,o) (dq _ (dq _ (nZ hb e)))).2.1
   cases b with
   | false=>obtain⟨m',hm,w'⟩:=q8;obtain⟨k1,k2⟩:=Vu I8;exact⟨m',hm,i+1,pre,ys,H8,hpre,I8.nA,k1,k2,w'⟩
   | true=>have q8':te (pre++f σ) H8 _:=q8;show wpAny _ _ (eval elt _) _ _ _;refine bH (he cl C {s2 with heap:=hp3} H3 fp _ s8 _ H8 _ I8 q8') λz s9 zz=>?_;obtain⟨zv,H9,I9,r9,hD9,hz9,m',hm,w'⟩:=zz;refine bH (jE (X:=d8 X scope cl C (ns++N2) {s2 with heap:=hp3} H3 fp) _ s9 _ H9 (.ref D) [zv] (.ref D) [z] (λ_ H'=>H'=upd H9 D (.lst (ys++[zv]))) I9 rfl (.cons r9 .nil) ⟨D,ys,zv,rfl,rfl,hD9,hz9,rfl⟩) λ_ s10 zz=>?_;obtain⟨_,H10,I10,_,e10⟩:=zz;subst e10;obtain⟨k1,k2⟩:=Vu I10;exact⟨m',hm,i+1,pre,ys++[zv],_,hpre,I10.nA,k1,k2,w'⟩
 exact codeAny_compStart_list loop (T.self X.A 0 _ _ _ st₁ loop)
def pH {scope:Scope}{N:List Str}(hN:N.Nodup)(h0:N[0]?=some x)(hx:scope.names.lookup x=some .local):IV (d8 X scope cl C N s₀ H₀ fp) (.Name x pos) 1 (λv _ Q=>Q [some v]):=by intro aq s pre rest H v u Q hp I r q;obtain⟨p0,rfl⟩:=List.length_eq_one_iff.mp hp;refine bH (pD (X:=d8 X scope cl C N s₀ H₀ fp) (i:=0) hN h0 (.inl (lookup_relabel_local hx)) (.inr (lookup_relabel_local hx)) aq s _ H v u (λσ' H'=>H'=H/\σ'=some v::rest) I r ⟨rfl,rfl⟩) λ_ s' zz=>?_;obtain⟨σ',H',I',e1,e2⟩:=zz;subst e1 e2;exact⟨[some v],rfl,I',q⟩
def abA {X:Cx}(hc:X.calm=true)(ok:fH X scope x)(hi:PI X (.Name x px) iter wi)(ht:∀cl C s₀ H₀ fp,K6 (blk X scope cl C x s₀ H₀ fp) ifs tt)(he:∀cl C s₀ H₀ fp,PE (blk X scope cl C x s₀ H₀ fp) elt te)(hs:∀x,foldedSetIterable iter X.env x=pure x:=by intro _;rfl):PE X (.ListComp elt [⟨.Name x px,iter,ifs,0⟩] scope pos) (Eb wi tt te):=λaq s σ H Q I h=>by
 have e:∀cl C s₀ H₀ fp,d8 X scope cl C ([x]++X.N) s₀ H₀ fp=blk X scope cl C x s₀ H₀ fp:=λ_ _ _ _ _=>rfl;have nd:([x]++X.N).Nodup:=f7.mpr ⟨λz=>ok.out x z ok.hx,ok.nd⟩;have okG:fu X scope [x] X.N id:=⟨ok.kind,ok.Ea,ok.names,ok.free,λ_=>rfl,rfl,λσ i y v e1 e2=>⟨e1,e2,ok.out y (aT e1)⟩⟩
 rw[eval_ListComp];exact yX hc okG hi (λcl C s₀ H₀ fp=>pH nd rfl ok.hx) (λcl C s₀ H₀ fp=>ht cl C s₀ H₀ fp) (λcl C s₀ H₀ fp=>he cl C s₀ H₀ fp) hs I h λD C H4 s5 m hn bk _ q=>⟨m,hn,λh' sb=>⟨.ref D,H4,bk h' sb,rfl,q⟩⟩
def dJ.mk {P:Prop}(h:i<n)(p:P):dJ n i P:=⟨_,Nat.sub_lt_sub_left h (e8 _),rfl,h,p⟩
def qz {K:W.Frag}{a D:Addr}{xs:List V}{te:TE}{σ:St}{H:Hp}{R:Hp->Prop}(Pv:Nat->List V->Hp->Prop)(h0:Pv 0 [] (upd H D (.lst [])))(hl:∀i ys H,i<=xs.length->Pv i ys H->aQ K H a xs)(hs:∀i x ys H,xs[i]?=some x->Pv i ys H->te (some x::σ) H (Cu xs.length i D ys (Pv (i+1))))(hd:∀ys H,Pv xs.length ys H->R H):qO (Itl K a) D H R (K7 σ gF te):=Aq Pv h0 hl hs hd
def Ec {lo:Int}{n:Nat}{D:Addr}{te:TE}{σ:St}{H:Hp}{R:Hp->Prop}(Pv:Nat->List V->Hp->Prop)(h0:Pv 0 [] (upd H D (.lst [])))(hs:∀i ys H,i<n->Pv i ys H->te (some (.int (lo+i))::σ) H (Cu n i D ys (Pv (i+1))))(hd:∀ys H,Pv n ys H->R H):qO (U8 lo n) D H R (K7 σ gF te):=Cv n Pv h0 (λi ys H h p=>⟨h,λx H' y=>by obtain⟨rfl,rfl⟩:=y;exact hs i ys _ h p⟩) λys H p=>⟨ag _,hd ys H p⟩
def S (l:List Nat):Str:=⟨l.toArray⟩
def aaO (l):(S l).cps.toList=l:=rfl
def lM (l):(S l).length=l.length:=rfl
def pX (h:S a=S b):a=b:=congrArg (λs:Str=>s.cps.toList) h
def adW (z:Str):S z.cps.toList=z:=by cases z;rfl
def afP (a b):S a++S b=S (a++b):=by
 show (⟨a.toArray++b.toArray⟩:Str)=⟨(a++b).toArray⟩
 simp
def aaP (a b):decide (V.str (S a)=V.str (S b))=decide (a=b):=by
 by_cases e:a=b;.subst e;simp
 .rw[am e,am];intro z;injection z with z;exact e (pX z)
section
variable {X:Cx}{a b c e o:Expr}{pos:Pos}
def abB (l){j pos}(h:x=S l):PE X (.Constant (.str x) j pos) (tC (.str (S l))):=by rw[h];exact acZ
def Av:R2:=λx y H Q=>∃i j,x=.str (S i)/\y=.str (S j)/\i.length+j.length<=sizeLine/\Q (.str (S (i++j))) H
def sE:eX X (binaryOp .Add) Av:=by intro aq s σ H x y v u Q I rx ry h;obtain⟨i,j,rfl,rfl,hz,q⟩:=h;exact RX aq s σ H _ _ v u Q I rx ry ⟨S i,S j,rfl,rfl,hz,by rw[afP];exact q⟩
def afQ:R2:=λx y H Q=>∃l i c,x=.str (S l)/\y=.int i/\l.length<=sizeLine/\j_ l i=some c/\Q (.str (S [c])) H
def Gx:Iu X afQ:=by intro value slice aq s σ H x y v u Q I rx ry h hs;obtain⟨l,i,c,rfl,rfl,hz,hc,q⟩:=h;exact adI value slice aq s σ H _ _ v u Q I rx ry ⟨S l,i,c,rfl,rfl,hz,hc,q⟩ hs
def afR:List V->Hp->VK->Prop:=λxs H Q=>∃l,xs=[.str (S l)]/\l.length<=sizeLine/\Q (.int l.length) H
def d9:fj X (.builtin "len") afR:=by intro aq s σ H xs us Q I r h;obtain⟨l,rfl,hz,q⟩:=h;exact KZ aq s σ H _ us Q I r ⟨S l,rfl,hz,q⟩
def ags:R2:=λx y H Q=>∃i j,x=.str (S i)/\y=.str (S j)/\Q (.bl (decide (i=j))) H
def yZ:eX X (compareOp .Eq) ags:=by intro aq s σ H x y v u Q I rx ry h;obtain⟨i,j,rfl,rfl,q⟩:=h;exact jc aq s σ H _ _ v u Q I rx ry ⟨rfl,by rw[aaP];exact q⟩
def agt:R2:=λx y H Q=>∃i j,x=.str (S i)/\y=.str (S j)/\Q (.bl (!decide (i=j))) H
def Ed:eX X (compareOp .NotEq) agt:=by intro aq s σ H x y v u Q I rx ry h;obtain⟨i,j,rfl,rfl,q⟩:=h;exact DQ aq s σ H _ _ v u Q I rx ry ⟨rfl,by rw[aaP];exact q⟩
def agu:R2:=λx y H Q=>∃c l,x=.str (S [c])/\y=.str (S l)/\Q (.bl (decide (c∈l))) H
def Vv:eX X (compareOp .In) agu:=by
 intro aq s σ H x y v u Q I rx ry h;obtain⟨c,l,rfl,rfl,q⟩:=h;exact Vc aq s σ H _ _ v u Q I rx ry ⟨S [c],S l,rfl,rfl,by
  have e:=StrLaws.found_one (S l) c;rw[aaO]at e;rw[show (S [c])=(⟨#[c]⟩:Str) from rfl,e];exact q⟩
noncomputable def pI (l:List Nat)(lo hi:Option Int):List Nat:=(l.drop (HT.gq l.length 0 lo)).take (HT.gq l.length l.length hi-HT.gq l.length 0 lo)
def Qk (lo hi)(n):Builtin.Str.strSliceIndices lo hi 1 n=(List.range (HT.gq n n hi-HT.gq n 0 lo)).map (λk=>HT.gq n 0 lo+k):=by
 have clip:∀(v:Int) (d:Nat),max (0:Int) (min (if v<0 then v+(n:Int) else v) (n:Int))=((HT.gq n d (some v):Nat):Int):=λv d=>by rw[<-HT.abp];split <;> grind
 have key:∀a b:Nat,sliceRange (a:Int) (b:Int) 1=(List.range (b-a)).map (λk=>a+k):=λa b=>by
  simp only[sliceRange,show ((1:Int) > 0)=True from by simp,if_true];by_cases hlt:(a:Int)<b
  .have e3:(((b:Int)-a+1-1)/1).toNat=b-a:=by first|simp|(simp;done)|(simp;lia)
   simp only[hlt,if_true,e3];refine eI λk _=>?_;lia
  .have:b-a=0:=by simp_all
   simp[hlt,this]
 unfold Builtin.Str.strSliceIndices;simp only[show ((1:Int) > 0)=True from by simp,if_true];cases lo with
 | none=>
  cases hi with| none=>exact key 0 n| some j=>dsimp only;rw[clip j n];exact key 0 _
 | some i=>
  cases hi with| none=>dsimp only;rw[clip i 0];exact key _ n| some j=>dsimp only;rw[clip i 0,clip j n];exact key _ _
def Vw (l)(lo hi):Txt.slice (S l) lo hi=S (pI l lo hi):=by
 have hle:HT.gq l.length l.length hi<=l.length:=HT.adF _ _ (ag _) _;have key:((Builtin.Str.strSliceIndices lo hi 1 (S l).length).filterMap ((S l).cps[·]?))=pI l lo hi:=by
  rw[Qk];have h:=StrLaws.picks l (HT.gq l.length l.length hi-HT.gq l.length 0 lo) (HT.gq l.length 0 lo);unfold pI;by_cases hc:HT.gq l.length 0 lo<=HT.gq l.length l.length hi
  .have h2:=h (by simp_all);rw[lM];simpa [S] using h2
  .have e:HT.gq l.length l.length hi-HT.gq l.length 0 lo=0:=Nat.sub_eq_zero_of_le vE;rw[lM,e];simp
 unfold Txt.slice;split
 .rename_i hc;have bW:(Builtin.Str.strSliceIndices lo hi 1 (S l).length).length=l.length:=by
   simp at hc;simpa [lM] using hc
  have hl2:HT.gq l.length l.length hi-HT.gq l.length 0 lo=l.length:=by rw[Qk,lM]at bW;simpa using bW
  have h0:HT.gq l.length 0 lo=0\/l.length=0:=vE;have e:pI l lo hi=l:=by
   unfold pI;rw[hl2];rcases h0 with z|z;.rw[z];simp
   .have:l=[]:=ja.mp z;subst this;simp
  rw[e]
 .rw[key];rfl
def Ss:V->Option Int->Option Int->Hp->VK->Prop:=λx lo hi H Q=>∃l,x=.str (S l)/\l.length<=sizeLine/\Q (.str (S (pI l lo hi))) H
def part_of {o:Option Int}(p:IsPart v o):∃l:Option (Int×Tok),v=partValue l/\l.map (·.1)=o:=by
 cases p with| none=>exact⟨none,rfl,rfl⟩| int i t=>exact⟨some (i,t),rfl,rfl⟩
def K8:SlR X Ss:=by intro aq s σ H x v vl vu lo hi sl Q I rx hs pl pu h;obtain⟨l,rfl,hz,q⟩:=h;obtain⟨t,rfl⟩:=rx;obtain⟨p1,rfl,rfl⟩:=part_of pl;obtain⟨p2,rfl,rfl⟩:=part_of pu;refine⟨"str",_,F.slot_str_getitem.lookup,typeIs_str _ _ _,?_⟩;refine wpAny_getItem_str_slice (l:=p1) (u:=p2) (st:=none) hs rfl ?_;have e:=Vw l (p1.map (·.1)) (p2.map (·.1));have hle:(Txt.slice (S l) (p1.map (·.1)) (p2.map (·.1))).length<=sizeLine:=a9 (Txt.slice_le _ _ _) hz;refine post_val_or_str ⟨hle,λt' k=>?_⟩;have e':(if ((Option.map (λx:Int×Tok=>x.1) none).getD 1==1&&(slicePicked (S l) p1 p2 none).length==(S l).length)=true then S l else ⟨((slicePicked (S l) p1 p2 none).filterMap ((S l).cps[·]?)).toArray⟩)=S (pI l (p1.map (·.1)) (p2.map (·.1))):=e;exact⟨.str (S (pI l (p1.map (·.1)) (p2.map (·.1)))),H,I.tok _,⟨t',congrArg (λz=>Value.str z t') e'⟩,q⟩
abbrev Ts (ls:AA):List V:=ls.map λl=>V.str (S l)
def aaQ (K:W.Frag):List V->Hp->VK->Prop:=λxs H Q=>∃x n t b,xs=[x,.ty n]/\n6 K H x t/\W.kitOne K t (.type n)=some b/\Q (.bl b) H
def jY:fj X (.builtin "isinstance") (aaQ X.K):=by intro aq s σ H xs us Q I r h;obtain⟨x,n,t,b,rfl,ty,k,q⟩:=h;obtain⟨u,w',rfl,r1,r2⟩:=vals2 r;cases r2;exact Vg I r1 ty k λtk=>⟨.bl b,H,I.tok tk,rfl,q⟩
def Ql (ls:AA):Txt.join (S []) (ls.map S)=S ls.flatten:=by
 unfold Txt.join Builtin.Str.glued;have key:∀(ls:AA) (acc:Array Nat),((ls.map S).foldl (λacc p=>acc++(S []).cps++p.cps) acc).toList=acc.toList++ls.flatten:=by
  intro ls
  induction ls with| nil=>intro acc;simp| cons l r ih=>intro acc;rw[cp,vi,ih];simp[S]
 unfold S;congr 1;apply lh.mp;cases ls with| nil=>rfl| cons l r=>have:=key r (S l).cps;have e:(List.map S (l::r)).drop 1=List.map S r:=rfl;show (((List.map S (l::r)).drop 1).foldl _ (S l).cps).toList=_;rw[e];exact this.trans (by simp[S])
def rJoin (K:W.Frag):V->List V->Hp->VK->Prop:=λx vs H Q=>∃p ls,x=.str (S [])/\vs=[.ref p]/\aQ K H p (Ts ls)/\ls.flatten.length<=1000/\Q (.str (S ls.flatten)) H
theorem Aw:∀{ls:AA} {us:List Value},Vals (Ts ls) us->StrsAre us (ls.map S)
 | [],_,.nil=>.nil
 | l::r,_,.cons q t=>by obtain⟨t',rfl⟩:=q;exact .cons (S l) t' (Aw t)
def Qm (ls:AA):((ls.map S).map (·.length)).sum=ls.flatten.length:=by
 induction ls with| nil=>rfl| cons l r ih=>rw[cp,cp,gE,ih,iS,av,lM]
def sG:vG X "str.join" (rJoin X.K):=by
 intro aq s σ H x vs v us Q I rx rv h;obtain⟨p,ls,rfl,rfl,hq,hz,q⟩:=h;obtain⟨t,rfl⟩:=rx;obtain⟨u,rfl,ru⟩:=vals1 rv;cases ru;obtain⟨its,r,pl,_⟩:=I.list hq;refine join_list pl.isList (ys:=ls.map S) (by simpa using Aw r) ?_ λt' k=>?_
 .rw[Qm];show _+_*0<=_;lia
 .exact⟨.str (S ls.flatten),H,I.tok k,⟨t',congrArg (λz=>Value.str z t') (Ql ls)⟩,q⟩
end
structure aK (K:W.Frag)(mg:Str->Option Value)(name:Str)(st:Stmt)(ps:List Str):Prop where
 ex:∃f fd,iD K name name st f fd/\cj K fd ps []/\mg name=some (.ref f)
structure bF (P:Program)(w:World)(K:W.Frag)(mg:Str->Option Value)(base:Heap)(name:Str)(k:Nat)(ps:List Str)(sp:Sp):Prop where
 ex:∃f fd,cL P w K mg base fW k f fd ps sp/\cj K fd ps []/\mg name=some (.ref f)/\W.keepIn K (.ref f)=true
def aK.ok {K:W.Frag}{mg:Str->Option Value}{name:Str}{st:Stmt}{N ps:List Str}{k:Nat}{sp:Sp}(D:aK K mg name st ps)(S:aW N ps (aH st))(len:∀vs H Q E,sp vs H Q E->vs.length=ps.length)(hbody:∀(f:Addr) (bD:Value) (A:Around) (outer:List Env) (s:Shared) (H:Hp) (vs:List V) (Q:VK) (E:XK),dY k (A.deeper (envOfC name (aH st) s.heap.objs.size f bD))->sp vs H Q E->
   ∃t,rD (sO fW P w K mg base N name (aH st) f bD A outer s H E).Ih (cM st) t/\t {nx:=λ_ H'=>Q .non H',rt:=Q} (start N vs) H):bF P w K mg base name (k+1) ps sp:=by
 obtain⟨f,fd,F,b,g⟩:=D.ex;exact⟨f,fd,F.ok S len (hbody f),b,g,F.kp⟩
section
variable {X:Cx}{x:Str}{p pos:Pos}{e:Expr}{es:List Expr}{t:TA}
def adX (D:bF X.prog X.w X.K X.mg X.base x k ps sp)(hr:dY k X.A)(hg:Gl X x)(ha:PA X (e::es) t)(hdb:(x==("__debug__":Str))=false:=by decide)(hs:starEach (e::es) X.env=(false,eval e X.env)::starEach es X.env:=by rfl)(hpl:(backTo pos (starEach es X.env)).any (·.1)=false:=by rfl):PE X (.Call (.Name x p) (e::es) [] pos) (wI sp [] E0 t):=by obtain⟨f,fd,G,b,g,kp⟩:=D.ex;exact abl G hr hg g kp b .nil gD ha hdb hs hpl
end
theorem aB.upd (h:H p=none):aB H (upd H p o):=λb o' e=>by rw[bw (bM e h)];exact e
def aB.bG (s:aB H H')(h:H p=none):aB H (L2.upd H' p o):=λb o' e=>by rw[bw (bM e h)];exact s b o' e
def YT {K:W.Frag}{h:Heap}{mg:Str->Option Value}{name:Str}{st:Stmt}{ps:List Str}{f:Addr}{oc:Value}{od an:Option Addr}{osl:Array (Option Value)}{kV doc pm bD ct:Value}(X:K.In h)(G:h.Ns mainGlobals mg)(a:W.nsIn K mainGlobals name=some (some (.ref f)))(l:K.lookup f=some ⟨oc,od,.func (W.fnOf name name (eF st) (cM st) (aH st) .none kV doc pm an bD ct),osl⟩)(c:W.codeIn K bD name=true)(k:W.keepIn K (.ref f)=true)(hb:∀(kV doc pm:Value) (an:Option Addr) (bD ct:Value) (us:List Value),us.length=ps.length->bindArgs (W.fnOf name name (eF st) (cM st) (aH st) .none kV doc pm an bD ct) ⟨us,[]⟩=pure (ps.zip us)):aK K mg name st ps:=⟨f,_,jV l c k,(jV l c k).binds hb,ml X G a⟩
def adY {K:W.Frag}{h:Heap}{mg:Str->Option Value}{st:Stmt}{x:Str}{f fa:Addr}{oc:Value}{od an:Option Addr}{osl:Array (Option Value)}{kV doc pm bD ct:Value}(X:K.In h)(G:h.Ns mainGlobals mg)(hfa:mg "law"=some (.ref fa))(a:W.nsIn K mainGlobals "law"=some (some (.ref f)))(l:K.lookup f=some ⟨oc,od,.func (W.fnOf "law" "law" (eF st) (cM st) (aH st) .none kV doc pm an bD ct),osl⟩)(c:W.codeIn K bD "law"=true)(k:W.keepIn K (.ref f)=true)(hb:∀(kV doc pm:Value) (an:Option Addr) (bD ct v:Value),bindArgs (W.fnOf "law" "law" (eF st) (cM st) (aH st) .none kV doc pm an bD ct) ⟨[v],[]⟩=pure [(x,v)]):∃fd:FuncData,iD K "law" "law" st fa fd/\∀(s:Shared) (v:Value),BindsTo s fd ⟨[v],[]⟩ [(x,v)]:=by have e:=hfa.symm.trans (ml X G a);cases e;exact⟨_,jV l c k,λs v=>.of_eq (hb kV doc pm an bD ct v)⟩
def Ko (K:W.Frag):Sp:=λvs H Q _=>∃(a:Addr) (ns:List Int),vs=[.ref a]/\aQ K H a (ns.map V.int)/\ns.length<=63/\∀H',Q (.bl true) H'
def abC {x:Str}{l:W.OpenLaw}{loose:List Str}{XP:(Str->Option Value)->Heap->Prop}{YP:World->Heap->Prop}{d:DefRec}{K:Params->W.Frag}(hn:l.most=some 63)(hdf:d.params.defaults=[])(hY:∀(w:World) (h:Heap),YP w h->(K w.params).In h)(F:∀(w:World) (mg:Str->Option Value) (fa:Addr) (h:Heap),(K w.params).In h->h.Ns mainGlobals mg->mg d.name=some (.ref fa)->
   ∃fd:FuncData,(∀(s:Shared) (u:Value),BindsTo s fd ⟨[u],[]⟩ [(x,u)])/\∀base:Heap,(K w.params).In base->base.Ns mainGlobals mg->cL l.prog w (K w.params) mg base fW 20 fa fd [x] (Ko (K w.params))) :
  W.WalkO q loose XP YP l.row.toRowW d [] (λf vs=>PySem.call f vs):=
 L2.abx (n:=63) (k:=20) (x:=x) (CX:=λ_=>fW) (sp:=λw=>Ko (K w.params)) hn vS hdf ⟨rfl,vS,vS⟩ hY F (λ_ _ a ns hl _ hS=>⟨a,ns,rfl,hS,hl,λ_=>rfl⟩) λ_ _ _ _ _ z=>z
namespace RV
end RV
structure QE (X:Cx)(e:Expr)(t:TE):Prop where
 out:PE X e t
structure QT (X:Cx)(e:Expr)(t:TT):Prop where
 out:PT X e t
structure QW (X:Cx)(e:Expr)(t:TT):Prop where
 out:PW X e t
structure QA (X:Cx)(es:List Expr)(t:TA):Prop where
 out:PA X es t
structure QS (X:Cx)(st:Stmt)(t:TS):Prop where
 out:PS X st t
structure vH (X:Cx)(st:List Stmt)(t:TS):Prop where
 out:rD X st t
structure QG (X:Cx)(e:Expr)(t:TG):Prop where
 out:PG X e t
structure QGs (X:Cx)(es:List Expr)(t:Ii):Prop where
 out:U6 X es t
structure QI (X:Cx)(tg iter:Expr)(wi:TI):Prop where
 out:PI X tg iter wi
structure QO (X:Cx)(e:Option Expr)(t:TO):Prop where
 out:PO X e t
structure QC (X:Cx)(op:CmpOp)(a b:Expr)(t:TE):Prop where
 out:PC X op a b t
structure Vx (X:Cx)(ifs:List Expr)(t:TT):Prop where
 out:K6 X ifs t
def QW.qt (h:QW X e t):QT X e t:=⟨h.out.pt⟩
section
variable {X:Cx}{st:Stmt}{rest:List Stmt}{t u:TS}
variable {pos:Pos}
variable {e:Expr}{te:TE}
def cD  : vH X [] aaF:=⟨aa_⟩
def aG (h1:QS X st t)(h2:vH X rest u):vH X (st::rest) (ada t u):=⟨Yo h1.out h2.out⟩
def aL (h1:QS X st t):vH X [st] t:=⟨abb h1.out⟩
def d7 (hc:QT X c tc)(ha:vH X a t)(hb:vH X b u):QS X (.If c a b pos) (ade tc t u):=⟨afH hc.out ha.out hb.out⟩
def aX (he:QE X e te):QS X (.Return (some e) pos) (RM te):=⟨adb he.out⟩
def iw (he:QE X e te)(hs:swapsWith e none pos.line X.env=pure false:=by rfl):QS X (.Expr e pos) (DK te):=⟨abd he.out hs⟩
end
section
variable {X:Cx}{tg:Expr}
def fJ (hp:PassesOwn (model X.prog X.w) X.A X.env X.xe)(hc:X.calm=true)(hi:QI X tg iter wi)(hg:QG X tg g)(hb:vH X body tb)(hs:∀x,foldedSetIterable iter X.env x=pure x:=by intro _;rfl):QS X (.For tg iter body [] pos) (ado wi g tb):=⟨adp hp hc hi.out hg.out hb.out hs⟩
end
section
variable {X:Cx}{o value:Expr}{f:Str}{pos pos':Pos}{ta tv:TE}
def YW (hp:PassesOwn (model X.prog X.w) X.A X.env X.xe)(hc:QT X c tc)(hb:vH X body tb):QS X (.While c body [] pos) (U7 tc tb):=⟨Yq hp hc.out hb.out⟩
def aV (hN:X.N.Nodup)(hi:X.N[i]?=some x)(hx:Loc X.env.scope x)(he:QE X e te)(hs:swapsWith e (some (.Name x pos')) pos.line X.env=pure false:=by rfl)(hf:X.fn x=true\/X.env.scope.names.lookup x=some .local:=by first|exact .inl rfl|exact .inr rfl|assumption):QS X (.Assign [.Name x pos'] e pos) (Gq te (nW i)):=⟨adk hN hi hx he.out hs hf⟩
def IW:vH X sts U4:=⟨U5⟩
def Ef (ha:QE X o ta)(hv:QE X value tv)(hs:swapsWith value (some (.Attribute o f pos')) pos.line X.env=pure false):QS X (.Assign [.Attribute o f pos'] value pos) (adw X.K ta tv f):=⟨ady ha.out hv.out hs⟩
def Vy (he:QE X e te)(hg:QG X tg g)(hs:swapsWithSole [tg] e pos.line X.env=pure false:=by rfl)(hw:swappedStores [tg] e X.env=pure none:=by rfl)(h1:(assignEach [tg] X.env).map (·.2)=[assign tg X.env]:=by rfl):QS X (.Assign [tg] e pos) (Gq te g):=⟨adi he.out hg.out hs hw h1⟩
def bY (hN:X.N.Nodup)(hi:X.N[i]?=some x)(hx:Loc X.env.scope x)(hf:X.fn x=true\/X.env.scope.names.lookup x=some .local:=by first|exact .inl rfl|exact .inr rfl|assumption):QG X (.Name x pos) (nW i):=⟨pD hN hi hx hf⟩
def oh {es:List Expr}{k:Nat}{t:Ii}{n:Nat}(hc:X.calm=true)(h:QGs X es t)(hn:(assignEach es X.env).length=n:=by rfl)(hst:(assignEach es X.env).findIdx? (·.1)=none:=by rfl):QG X (.Tuple es k pos) (RP X.K n t):=⟨KJ hc h.out hn hst⟩
def lN  : QGs X [] RN:=⟨Gp⟩
def dj (h1:QG X e t)(h2:QGs X es u)(hs:(assignEach (e::es) X.env).map (·.2)=assign e X.env::(assignEach es X.env).map (·.2):=by rfl):QGs X (e::es) (wH t u):=⟨pF h1.out h2.out hs⟩
end
section
variable {X:Cx}
def aD {i j pos}:QE X (.Constant (.int i) j pos) (tC (.int i)):=⟨acY⟩
def lQ {b j pos}:QE X (.Constant (.bool b) j pos) (tC (.bl b)):=⟨afE⟩
end
section
variable {X:Cx}{a b c:Expr}{ta tb tc:TE}{pos:Pos}
variable {tA:TT}
variable {mF:TT}{rest:List Expr}
def aP (ho:eX X (binaryOp op) r)(ha:QE X a ta)(hb:QE X b tb):QE X (.BinOp a op b pos) (rE r ta tb):=⟨afI ho ha.out hb.out⟩
def gJ (ho:eX X (compareOp op) r)(ha:QE X a ta)(hb:QE X b tb)(hm:behindInMarks op b=false):QE X (.Compare a [op] [b] pos) (rE r ta tb):=⟨abf ho ha.out hb.out hm⟩
def bZ (ho:eX X (compareOp op) r)(ha:QE X a ta)(hb:QE X b tb)(hm:behindInMarks op b=false):QT X (.Compare a [op] [b] pos) (Km (rE r ta tb)):=⟨abg ho ha.out hb.out hm⟩
def nC (ho:eX X (compareOp op) r)(ho':eX X (compareOp op') r')(ha:QE X a ta)(hb:QE X b tb)(hc:QE X c tc)(hm:lastMarks [op,op'] [b,c]=false:=by with_unfolding_all rfl):QE X (.Compare a [op,op'] [b,c] pos) (yN r r' ta tb tc):=⟨Yu ho ho' ha.out hb.out hc.out hm⟩
def Cw (ho:eX X (compareOp op) r)(ho':eX X (compareOp op') r')(ha:QE X a ta)(hb:QE X b tb)(hc:QE X c tc)(hm:lastMarks [op,op'] [b,c]=false:=by with_unfolding_all rfl):QT X (.Compare a [op,op'] [b,c] pos) (Km (yN r r' ta tb tc)):=⟨Yv ho ho' ha.out hb.out hc.out hm⟩
def gU (h:QE X e t)(he:∀whole,isTrue e X.env whole=(do let v <- whole;standAt e.pos;holding [v] (truthy v)):=by intro _;rfl):QT X e (tB t):=⟨ac1 h.out he⟩
def jW (ha:QT X a tA):QT X (.UnaryOp .Not a pos) (ac3 tA):=⟨ac6 ha.out⟩
def adZ (ha:QT X a tA)(hb:QW X (.BoolOp .And (b::rest) pos) mF):QW X (.BoolOp .And (a::b::rest) pos) (ac2 tA mF):=⟨ac5 ha.out hb.out⟩
def abD (ha:QT X a tA):QW X (.BoolOp .And [a] pos) tA:=⟨aa9 ha.out⟩
def wL (ha:QT X a tA)(hb:QW X (.BoolOp .Or (b::rest) pos) mF):QW X (.BoolOp .Or (a::b::rest) pos) (tOr tA mF):=⟨afF ha.out hb.out⟩
def sW (ha:QT X a tA):QW X (.BoolOp .Or [a] pos) tA:=⟨ac4 ha.out⟩
def qC (ha:QE X a ta)(hb:QE X (.BoolOp .And (b::rest) pos) tb):QE X (.BoolOp .And (a::b::rest) pos) (aaD ta tb):=⟨ac9 ha.out hb.out⟩
def Sv (ha:QE X a ta)(hb:QE X (.BoolOp .Or (b::rest) pos) tb):QE X (.BoolOp .Or (a::b::rest) pos) (ac7 ta tb):=⟨afG ha.out hb.out⟩
def mJ {op}(h:QE X a t):QE X (.BoolOp op [a] pos) t:=⟨ac8 h.out⟩
def ad0 (ha:QE X a ta):QE X (.UnaryOp .Not a pos) (aaE ta):=⟨ac_ ha.out⟩
def jK (hc:QT X c tA)(ha:QE X a ta)(hb:QE X b tb):QE X (.IfExp c a b pos) (tIf tA ta tb):=⟨Yn hc.out ha.out hb.out⟩
def bB (hr:Iu X r)(ha:QE X a ta)(hb:QE X b tb)(hs:Gu b):QE X (.Subscript a b pos) (rE r ta tb):=⟨afK hr ha.out hb.out hs⟩
end
section
variable {X:Cx}{e:Expr}{te:TE}{lo hi:Option Expr}{tl th:TO}{pos p2:Pos}
variable {es:List Expr}{t:TA}
variable {x:Str}{p:Pos}{id:String}{r:List V->Hp->VK->Prop}
variable {T:String}
def kY {r:V->Option Int->Option Int->Hp->VK->Prop}(hr:SlR X r)(he:QE X e te)(hl:QO X lo tl)(hu:QO X hi th):QE X (.Subscript e (.Slice lo hi none p2) pos) (Vj r te tl th):=⟨YD hr he.out hl.out hu.out⟩
def vI  : QO X none vD:=⟨abq⟩
def jy (h:QE X e te):QO X (some e) (DX te):=⟨abr h.out⟩
def eY (h:QA X es t):QE X (.List es pos) (adA t):=⟨adC h.out⟩
def cO {x1}(h:QA X es t):QE X (.Tuple es x1 pos) (Yy t):=⟨adB h.out⟩
def aA  : QA X [] n8:=⟨adz⟩
def ak (ha:QE X e te)(hr:QA X es t)(hs:starEach (e::es) X.env=(false,eval e X.env)::starEach es X.env:=by rfl):QA X (e::es) (iR te t):=⟨abk ha.out hr.out hs⟩
def bh (hc:fj X (.builtin id) r)(hg:Gl X x)(hm:X.mg x=none)(hv:bootBuiltins x=some (.builtin id))(ha:QA X (e::es) t)(hn:x≠"__name__":=by decide)(hdb:(x==("__debug__":Str))=false:=by decide)(he:starEach (e::es) X.env=(false,eval e X.env)::starEach es X.env:=by rfl)(hpl:(backTo pos (starEach es X.env)).any (·.1)=false:=by rfl):QE X (.Call (.Name x p) (e::es) [] pos) (tCB r t):=⟨YC hc hg hm hv ha.out hn hdb he hpl⟩
def cP (hc:fj X (.type T) r)(hg:Gl X x)(hm:X.mg x=none)(hv:bootBuiltins x=some (.type T))(ha:QA X (e::es) t)(hn:x≠"__name__":=by decide)(hdb:(x==("__debug__":Str))=false:=by decide)(he:starEach (e::es) X.env=(false,eval e X.env)::starEach es X.env:=by rfl)(hpl:(backTo pos (starEach es X.env)).any (·.1)=false:=by rfl):QE X (.Call (.Name x p) (e::es) [] pos) (tCB r t):=⟨Vi hc hg hm hv ha.out hn hdb he hpl⟩
end
section
variable {X:Cx}{o e:Expr}{es:List Expr}{to:TE}{t:TA}{name:Str}{apos cpos:Pos}{T id:String}{r:V->List V->Hp->VK->Prop}
variable {tg:Expr}
def fB (pa:PlainAttrs T)(slot:Slot T name id)(hty:typeOf (.builtin id)=pure (.type "method_descriptor"))(hm:vG X id r)(ho:QE X o to)(ha:QA X (e::es) t)(hbase:attributeBase o name X.env (eval o X.env)=eval o X.env:=by rfl)(hfew:((backTo cpos (starEach (e::es) X.env)).all (λx=>!x.1)&&(backToKw cpos (keywordEach [] X.env)).all (λx=>x.1.isSome)
   && decide ((e::es).length+([]:List Keyword).length+(if ([]:List Keyword).isEmpty then 0 else 1)<30))=true:=by rfl) (hline:(apos.endLine==cpos.line)=true:=by rfl) (hs:starEach (e::es) X.env=(false,eval e X.env)::starEach es X.env:=by rfl) (hplain:(backTo cpos (starEach es X.env)).any (·.1)=false:=by rfl):QE X (.Call (.Attribute o name apos) (e::es) [] cpos) (Qe X.K T r to t):=
 ⟨afM pa slot hty hm ho.out ha.out hbase hfew hline hs hplain⟩
def Eh (pa:PlainAttrs T)(slot:Slot T name id)(hty:typeOf (.builtin id)=pure (.type "method_descriptor"))(hm:vG X id r)(ho:QE X o to)(hbase:attributeBase o name X.env (eval o X.env)=eval o X.env:=by rfl)(hline:(apos.endLine==cpos.line)=true:=by rfl):QE X (.Call (.Attribute o name apos) [] [] cpos) (adL X.K T r to):=⟨adM pa slot hty hm ho.out hbase hline⟩
def sH {x:Str}{v:V}{u:Value}{pos:Pos}(hg:Gl X x)(hm:X.mg x=none)(hv:bootBuiltins x=some u)(r:bJ v u)(hn:x≠"__name__":=by decide)(hd:(x==("__debug__":Str))=false:=by decide):QE X (.Name x pos) (tC v):=⟨aa8 hg hm hv r hn hd⟩
def Ax (hg:Gl X x)(hm:X.mg x=some u)(r:bJ v u)(hd:(x==("__debug__":Str))=false:=by decide):QE X (.Name x pos) (tC v):=⟨aa7 hg hm r hd⟩
def eG (hl:QE X l tl):QI X tg l (DP X.K tl):=⟨abe hl.out⟩
def iG (hl:QE X l tl):QI X tg l (adl X.K tl):=⟨adn hl.out⟩
def nJ (hg:Gl X "range")(hm:X.mg "range"=none)(ha:QA X [a] ta)(hs:starEach [a] X.env=[(false,eval a X.env)]:=by rfl):QI X tg (.Call (.Name "range" p) [a] [] pos) (aaG ta):=⟨U_ hg hm ha.out hs⟩
end
section
variable {X:Cx}{e:Expr}{f:Str}{pos:Pos}{ta:TE}
def eN (he:QE X e ta)(hb:attributeBase e f X.env (eval e X.env)=eval e X.env):QE X (.Attribute e f pos) (adv X.K ta f):=⟨adx he.out hb⟩
end
section
variable {X:Cx}{CX:rF}{k:Nat}{f C:Addr}{fd:FuncData}{ps:List Str}{sp:Sp}{iC:List V}{ds:List Value}{E:XK}{m:Str}{pos apos:Pos}{e o:Expr}{es:List Expr}{ta:TE}{t:TA}
variable {x:Str}{p:Pos}
variable {i:Expr}{td ty:TE}
variable {value:Expr}{tv:TE}{pos':Pos}
def lR {pl:Sem Bool}(he:QE X o ta)(c:Cls X.K C)(hm:Meth X.K C m f)(F:cL X.prog X.w X.K X.mg X.base CX k f fd ps sp)(hr:dY k X.A)(hb:cj X.K fd ps ds)(hd:Vals iC ds)(hx:Passes CX X E)(ha:QA X (e::es) t)(hst:starEach (e::es) X.env=(false,eval e X.env)::starEach es X.env:=by rfl)(hpl:(backTo pos (starEach es X.env)).any (·.1)=false:=by rfl)(ht:eval (.Call (.Attribute o m apos) (e::es) [] pos) X.env=(do
   let ov <- eval o X.env
   standAt apos.atName
   let (f,first) <- holding [ov] (getMethod ov m pl)
   callWith pos f first (backTo pos (starEach (e::es) X.env)) (backToKw pos (keywordEach [] X.env))):=by rfl):QE X (.Call (.Attribute o m apos) (e::es) [] pos) (DW C m sp iC E ta t):=
 ⟨abm he.out c hm F hr hb hd hx ha.out hst hpl ht⟩
def nD (he:QE X o ta)(c:Cls X.K C)(hm:Meth X.K C m f)(F:cL X.prog X.w X.K X.mg X.base CX k f fd ps sp)(hr:dY k X.A)(hb:cj X.K fd ps ds)(hd:Vals iC ds)(hx:Passes CX X E)(ht:eval (.Call (.Attribute o m apos) [] [] pos) X.env=(do
   let ov <- eval o X.env
   standAt apos.atName
   let (f,first) <- holding [ov] (getMethod ov m pl)
   callWith pos f first (backTo pos (starEach [] X.env)) (backToKw pos (keywordEach [] X.env))):=by rfl):QE X (.Call (.Attribute o m apos) [] [] pos) (DW C m sp iC E ta n8):=
 ⟨Yz he.out c hm F hr hb hd hx ht⟩
def Ay (M:Mk X.K C f)(F:cL X.prog X.w X.K X.mg X.base CX k f fd ps sp)(hr:dY (k+1) X.A)(hg:Gl X x)(hm:X.mg x=some (.ref C))(hb:cj X.K fd ps ds)(hd:Vals iC ds)(hx:Passes CX X E)(ha:QA X (e::es) t)(hdb:(x==("__debug__":Str))=false:=by decide)(he:starEach (e::es) X.env=(false,eval e X.env)::starEach es X.env:=by rfl)(hpl:(backTo pos (starEach es X.env)).any (·.1)=false:=by rfl):QE X (.Call (.Name x p) (e::es) [] pos) (aaK C sp iC E t):=⟨abn M F hr hg hm hb hd hx ha.out hdb he hpl⟩
def Cy  : QE X (.Dict [] [] pos) Vp:=⟨YL⟩
def ad1 (hu:X.A.units+1<cLine)(hi:QE X i ty)(ho:QE X o td):QC X .In i o (adR ty td):=⟨adS hu hi.out ho.out⟩
def Az (hu:X.A.units+1<cLine)(ho:QE X o td)(hi:QE X i ty)(hv:QE X value tv)(hs:swapsWith value (some (.Subscript o i pos')) pos.line X.env=pure false):QS X (.Assign [.Subscript o i pos'] value pos) (aaN td ty tv):=⟨abw hu ho.out hi.out hv.out hs⟩
end
section
variable {X:Cx}{a b:Expr}{pos:Pos}
def ad2 (h:QC X op a b t)(h1:behindInMarks op b=false:=by first|exact Ym _ vS vS|rfl):QE X (.Compare a [op] [b] pos) t:=⟨ac0 h.out h1⟩
def qv (i:Nat){x:Str}{pos:Pos}(hN:X.N[i]?=some x:=by rfl)(hv:UW X.env.scope x:=by first|exact Or.inl rfl|exact Or.inr (Or.inl rfl)|exact Or.inr (Or.inr rfl))(hd:(x==("__debug__":Str))=false:=by decide)(hcd:(x==("__classdict__":Str))=false:=by decide):QE X (.Name x pos) (eO i):=⟨pv i hN hv hd hcd⟩
def cF:Vx X [] gF:=⟨aby⟩
def A_ (h:QT X c t):Vx X [c] t:=⟨abz h.out⟩
end
section
variable {X:Cx}
def cG (l){j pos}(h:x=S l):QE X (.Constant (.str x) j pos) (tC (.str (S l))):=⟨abB l h⟩
end
section
variable {X:Cx}{x:Str}{p pos:Pos}{e:Expr}{es:List Expr}{t:TA}
def aZ (D:bF X.prog X.w X.K X.mg X.base x k ps sp)(hr:dY k X.A)(hg:Gl X x)(ha:QA X (e::es) t)(hdb:(x==("__debug__":Str))=false:=by decide)(hs:starEach (e::es) X.env=(false,eval e X.env)::starEach es X.env:=by rfl)(hpl:(backTo pos (starEach es X.env)).any (·.1)=false:=by rfl):QE X (.Call (.Name x p) (e::es) [] pos) (wI sp [] E0 t):=⟨adX D hr hg ha.out hdb hs hpl⟩
end
def f9 {X:Cx}(hc:X.calm=true)(ok:fH X scope x)(hi:QI X (.Name x px) iter wi)(ht:∀cl C s₀ H₀ fp,Vx (blk X scope cl C x s₀ H₀ fp) ifs tt)(he:∀cl C s₀ H₀ fp,QE (blk X scope cl C x s₀ H₀ fp) elt te)(hs:∀x,foldedSetIterable iter X.env x=pure x:=by intro _;rfl):QE X (.ListComp elt [⟨.Name x px,iter,ifs,0⟩] scope pos) (Eb wi tt te):=⟨abA hc ok hi.out (λcl C s₀ H₀ fp=>(ht cl C s₀ H₀ fp).out) (λcl C s₀ H₀ fp=>(he cl C s₀ H₀ fp).out) hs⟩
def aK.cY {K:W.Frag}{mg:Str->Option Value}{name:Str}{st:Stmt}{N ps:List Str}{k:Nat}{sp:Sp}(D:aK K mg name st ps)(S:aW N ps (aH st))(len:∀vs H Q E,sp vs H Q E->vs.length=ps.length)(hbody:∀(f:Addr) (bD:Value) (A:Around) (outer:List Env) (s:Shared) (H:Hp) (vs:List V) (Q:VK) (E:XK),dY k (A.deeper (envOfC name (aH st) s.heap.objs.size f bD))->sp vs H Q E->
   ∃t,vH (sO fW P w K mg base N name (aH st) f bD A outer s H E).Ih (cM st) t/\t {nx:=λ_ H'=>Q .non H',rt:=Q} (start N vs) H):bF P w K mg base name (k+1) ps sp:=
 D.ok S len λf bD A outer s H vs Q E hr h=>let ⟨t,a,b⟩:=hbody f bD A outer s H vs Q E hr h;⟨t,a.out,b⟩
def iD.cY {K:W.Frag}{mg:Str->Option Value}{x qual:Str}{st:Stmt}{N ps:List Str}{k:Nat}{sp:Sp}(F:iD K x qual st f fd)(S:aW N ps (aH st))(len:∀vs H Q E,sp vs H Q E->vs.length=ps.length)(hbody:∀(bD:Value) (A:Around) (outer:List Env) (s:Shared) (H:Hp) (vs:List V) (Q:VK) (E:XK),dY k (A.deeper (envOfC qual (aH st) s.heap.objs.size f bD))->sp vs H Q E->
   ∃t,vH (sO fW P w K mg base N qual (aH st) f bD A outer s H E).Ih (cM st) t/\t {nx:=λ_ H'=>Q .non H',rt:=Q} (start N vs) H):cL P w K mg base fW (k+1) f fd ps sp:=
 F.ok S len λbD A outer s H vs Q E hr h=>let ⟨t,a,b⟩:=hbody bD A outer s H vs Q E hr h;⟨t,a.out,b⟩
section
variable {prog:Program}{w:World}{A:Around}{E:AB}{s:Shared}
def Sw (YX:wpAny (model prog w) A.in1 (collect v) (λvs s1=>∃ss,StrsAre vs ss/\vs.length<64/\
   ∀(h':Heap) (vs':List Value) (ss':List Str) (e:Nat),(∀b o,s1.heap.get? b=some o->h'.get? b=some o)->h'.get? s1.heap.objs.size=some (seqObj "list" vs'.toArray e)->StrsAre vs' ss'->ss'.Perm ss->sortedS ss'=true->
    Q (.ref s1.heap.objs.size) {s1 with heap:=h' }) E s):wpAny (model prog w) A (call (.builtin "sorted") [v]) Q E s:=by
 refine Calls.call_function_entry kind_sorted plain_sorted entry_sorted (args_sorted1 _) ?_;unfold Builtin.«sorted»;refine ab (m:=checkCount "sorted" 1 1 _) (ah ?_);refine ab (bH YX λvs s1 ⟨ss,hS,h64,h⟩=>?_);refine ab (wpAny_newList ?_);have hoL:(s1.heap.push (seqObj "list" vs.toArray 0)).get? s1.heap.objs.size=some (seqObj "list" vs.toArray 0):=aS _ rfl;refine ab (eW (dA slot_list_sort (s:={s1 with heap:=s1.heap.push (seqObj "list" vs.toArray 0)}) ⟨_,hoL,rfl⟩ entry_list_sort
  (list_sort_treeK (s:={s1 with heap:=s1.heap.push (seqObj "list" vs.toArray 0)}) strKind_oneLt hoL hS.keysOf (λv₁ v₂ rest e=>keyKind_strs (by rw[<-e];exact hS)) h64 λst' hp hs=>⟨_,rfl,?_⟩) (args_list_sort _)))
 obtain⟨ss',h1,h2,h3⟩:=sorted_out_str hS hp hs;obtain⟨e,he⟩:=sortedHeap_at (vs:=vs) (out:=(arrOf st').map (·.2)) hoL;refine ah ⟨_,rfl,h _ ((arrOf st').map (·.2)).toList ss' e (λb o z=>?_) (by rw[r_];exact he) h1 h2 h3⟩;have hb:b<s1.heap.objs.size:=a7 z;rw[sortedHeap_old (be hb) (by rw[ef];exact eK hb)];exact af _ z
theorem sX:∀{ss:List Str} {us:List Value},StrsAre us ss->Vals (ss.map V.str) us
 | _,_,.nil=>.nil
 | _,_,.cons x t r=>.cons ⟨t,rfl⟩ (sX r)
end
def Its (l:List Nat):It:=⟨λi _=>i<l.length,λi H x H'=>H'=H/\∃c,l[i]?=some c/\x=.str (S [c]),λi _=>l.length<=i⟩
def YZ {P:Program}{w:World}{K:W.Frag}{tg:Expr}{ty:String}(hty:ty="str_ascii_iterator"\/ty="str_iterator")(l:List Nat)(t:Tok)(it:Addr):Turn P w K tg (Its l) [it] it (λi h=>i<=l.length/\h.IsStrIter it ty (S l) t i) where
 mem:=by simp
 obj:=λi h st b hb=>by
  have e:b=it:=by simpa using hb
  subst e;obtain⟨_,o,e,c,d⟩:=st;exact⟨o,e,λv z=>by rw[d]at z;cases z⟩
 keep:=λi h h' st k=>⟨st.1,let ⟨o,ho,r⟩:=st.2;⟨o,k it vF o ho,r⟩⟩
 item:=by
  intro X hP hw hK hc i aq s σ H E I hf st hg;subst hP hw hK;obtain⟨f0,f1,f2,f3,f4,f5⟩:=hf it vF;have hg':i<(S l).cps.size:=hg;have fin:∀(v:Value) (h':Heap) (tk:Nat),SignAt (S l) i v->h'.IsStrIter it ty (S l) t (i+1)->(∀b o,b∉[it]->s.heap.get? b=some o->h'.get? b=some o)->
    ∃u,some v=some u/\wpAny (model X.prog X.w) X.A (letOwnedTupleGo tg (.ref it) u) (λ_ s2=>∃x H',aJ X aq σ H' s2/\bJ x u/\(Its l).Ij i H x H'/\(i+1<=l.length/\s2.heap.IsStrIter it ty (S l) t (i+1))/\∀b∈[it],H' b=none) E {s with heap:=h',toks:=tk}:=by
   intro v h' tk hv st' kk;obtain⟨c,u,hc',rfl⟩:=hv;have I1:aJ X aq σ H {s with heap:=h',toks:=tk}:=I.turned (λb o hb e=>kk b o (by simpa using hb) e) f0 f1 f3 f4 f5;obtain⟨o,e,c2,d2⟩:=id st';refine⟨_,rfl,DN (s:={s with heap:=h',toks:=tk}) e c2 d2 (by rcases hty with rfl|rfl <;> decide) ⟨.str (S [c]),H,I1,⟨u,rfl⟩,⟨rfl,c,by simpa [S] using hc',rfl⟩,⟨hg,st'⟩,λb hb=>(hf b hb).1⟩⟩
  rcases hty with rfl|rfl;.exact(Walks.strAscii (prog:=X.prog) (w:=X.w) (I.ok.hd hc) it (S l) t).item i s _ _ hg' st.2 λv h' tk hv st' kk=>fin v h' tk hv st' kk
  .exact(Walks.strWide (prog:=X.prog) (w:=X.w) (I.ok.hd hc) it (S l) t).item i s _ _ hg' st.2 λv h' tk hv st' kk=>fin v h' tk hv st' kk
 done:=by
  intro X hP hw hK hc i aq s σ H E I hf st hg;subst hP hw hK;obtain⟨f0,f1,f2,f3,f4,f5⟩:=hf it vF;have hi:i=(S l).cps.size:=vj st.1 hg;have st':=st.2;rw[hi]at st';rcases hty with rfl|rfl
  .exact(Walks.strAscii (prog:=X.prog) (w:=X.w) (I.ok.hd hc) it (S l) t).done s _ _ st' λh' tk kk=>⟨rfl,I.turned (λb o hb e=>kk b o (by simpa using hb) e) f0 f1 f3 f4 f5⟩
  .exact(Walks.strWide (prog:=X.prog) (w:=X.w) (I.ok.hd hc) it (S l) t).done s _ _ st' λh' tk kk=>⟨rfl,I.turned (λb o hb e=>kk b o (by simpa using hb) e) f0 f1 f3 f4 f5⟩
 self:=λA i s Q E st h=>by
  rcases hty with rfl|rfl;.exact wpAny_pyIter_striter_ascii st.2 h
  .exact wpAny_pyIter_striter_wide st.2 h
def Vz {a b c:List Nat}(h1:¬b<a)(h2:¬c<b):¬c<a:=by have h1':a<=b:=h1;have h2':b<=c:=h2;exact List.le_trans h1' h2'
theorem I_:∀(r:List Str) (p:Str),risingS p r=true->(∀x∈r,¬x.cps.toList<p.cps.toList)/\(r.map λy=>y.cps.toList).Pairwise (λa b=>decide (b<a)=false)
 | [],_,_=>⟨λ_ h=>by simp at h,List.Pairwise.nil⟩
 | y::r,p,h=>by
  rw[risingS,dS]at h;have h0:¬y.cps.toList<p.cps.toList:=by have:=h.1;simpa [ltCps_eq] using this
  obtain⟨h1,h2⟩:=I_ r y h.2;refine⟨λx hx=>?_,?_⟩
  .rcases bb.mp hx with e|e;.rw[e];exact h0
   .exact Vz h0 (h1 x e)
  .rw[cp];refine List.Pairwise.cons (λb hb=>?_) h2;obtain⟨x,hx,rfl⟩:=ar.mp hb;exact am (h1 x hx)
def Ja (ss)(h:sortedS ss=true):(ss.map λy=>y.cps.toList).Pairwise (λa b=>decide (b<a)=false):=by
 cases ss with| nil=>exact List.Pairwise.nil| cons x r=>obtain⟨h1,h2⟩:=I_ r x h;rw[cp];refine List.Pairwise.cons (λb hb=>?_) h2;obtain⟨y,hy,rfl⟩:=ar.mp hb;exact am (h1 y hy)
section
variable {X:Cx}{tg:Expr}
def agv (tl:TE):TI:=λσ H R=>tl σ H λx H1=>∃l,x=.str (S l)/\R (Its l) H1
def zf (hl:QE X l tl):QI X tg l (agv tl):=⟨by
 intro aq s σ H R I h;refine bH (hl.out aq s σ H _ I h) λv s1 zz=>?_;obtain⟨x,H1,I1,r1,q1⟩:=zz;obtain⟨l,e,q⟩:=q1;subst e;obtain⟨t,rfl⟩:=r1;refine mP ?_;have hty:strIterType (S l)="str_ascii_iterator"\/strIterType (S l)="str_iterator":=by unfold strIterType;split <;> simp
 refine⟨s1.heap.objs.size,[s1.heap.objs.size],_,_,H1,rfl,I1.kept (t':=s1.toks) λb o e=>af _ e,YZ hty l t _,⟨cw _,_,aS _ rfl,rfl,rfl⟩,λb hb=>?_,q⟩;have e:b=s1.heap.objs.size:=by simpa using hb
 subst e;exact I1.mC (ag _) (I1.hok.fresh (ag _))⟩
def wM {l:List Nat}{D:Addr}{te:TE}{σ:St}{H:Hp}{R:Hp->Prop}(Pv:Nat->List V->Hp->Prop)(h0:Pv 0 [] (upd H D (.lst [])))(hs:∀i c ys H,l[i]?=some c->Pv i ys H->te (some (.str (S [c]))::σ) H (Cu l.length i D ys (Pv (i+1))))(hd:∀ys H,Pv l.length ys H->R H):qO (Its l) D H R (K7 σ gF te):=Cv l.length Pv h0 (λi ys H h p=>⟨h,λx H' y=>by obtain⟨rfl,c,hc,rfl⟩:=y;exact hs i c ys _ hc p⟩) λys H p=>⟨ag _,hd ys H p⟩
def kZ (hc:X.calm=true):fj X (.builtin "all") (λxs H Q=>∃(p:Addr) (bs:List Bool),xs=[.ref p]/\aQ X.K H p (bs.map V.bl)/\Q (.bl (bs.all id)) H):=by
 intro aq s σ H xs us Q I r h;obtain⟨p,bs,rfl,hq,q⟩:=h;obtain⟨u,rfl,ru⟩:=vals1 r;cases ru;obtain⟨its,rv,pl,hz⟩:=I.list hq;have hne:p≠s.heap.objs.size:=by obtain⟨o,ho,_⟩:=pl.isList;exact be (a7 ho)
 have hb:∀(i:Nat) (v:Value),its[i]?=some v->v=.bool (bs.getD i true):=λi v hv=>by
  have bW:=rv.length;have hi:i<bs.length:=by have:=(ai.mp hv).1;simp at bW;simp_all
  obtain⟨u,hu,ru⟩:=rv.get (i:=i) (x:=.bl bs[i]) (by simp[hi]);rw[hv]at hu;cases hu;cases ru;simp[List.getD,hi]
 refine call_all_walk (kH pl.isList ?_);refine⟨s.heap.objs.size,_,_,_,_,_,λi=>bs.getD i true,rfl,Walks.list (A:=X.A.in1) (I.ok.hd hc) s.heap.objs.size p hne its.toArray,⟨⟨_,aS _ rfl,rfl,rfl⟩,pl.isList.at λo e=>af _ e⟩,?_,λh' tk kk=>?_⟩
 .intro i v s' Q' E' hv hq';have e:=hb i v (by simpa using hv);subst e;exact ee hq'
 .have I1:aJ X aq σ H {s with heap:=h',toks:=tk}:=I.kept λb o e=>kk b o (by
   intro hm;have:b=s.heap.objs.size:=by simpa using hm
   subst this;exact absurd (a7 e) (hG _)) (af _ e)
  refine⟨.bl (bs.all id),H,I1,?_,q⟩;show Value.bool _=Value.bool _;have bW:its.toArray.size=bs.length:=by have:=rv.length;simp at this;simp[this]
  rw[bW];congr 1;have key:∀bs:List Bool,(List.range bs.length).all (λi=>bs.getD i true)=bs.all id:=λbs=>by
   rw[ku,hV,hV];constructor
   .intro h x hx;obtain⟨i,hi,rfl⟩:=cx.mp hx;have:=h i (bE.mpr hi);simpa [List.getD,hi] using this
   .intro h i hi;have hi':=bE.mp hi;have:=h bs[i] (a8 _);simpa [List.getD,hi'] using this
  exact key bs
def Y4:R2:=λx y H Q=>∃i j,x=.str (S i)/\y=.str (S j)/\Q (.bl (!decide (j<i))) H
def qD:eX X (compareOp .LtE) Y4:=by intro aq s σ H x y v u Q I rx ry h;obtain⟨i,j,rfl,rfl,q⟩:=h;obtain⟨t,rfl⟩:=rx;obtain⟨t',rfl⟩:=ry;exact vx ⟨.bl _,H,I,rfl,q⟩
abbrev bQ (l:List Nat):Key:=Sum.inr (S l)
def K9 (hc:X.calm=true):fj X (.builtin "sorted") (λxs H Q=>∃(d:Addr) (kvs:List (Key×V)) (ws:AA),xs=[.ref d]/\H d=some (.dK kvs)/\kvs.map (·.1)=ws.map bQ/\ws.length<64/\
  ∀(p:Addr) (ws':AA),H p=none->ws'.Perm ws->ws'.Pairwise (λa b=>decide (b<a)=false)->Q (.ref p) (upd H p (.lst (Ts ws')))):=by
 intro aq s σ H xs us Q I r h;obtain⟨d,kvs,ws,rfl,hd,hk,h64,q⟩:=h;obtain⟨u,rfl,ru⟩:=vals1 r;cases ru;obtain⟨hz,lo,vs,rel,dd⟩:=Sd I.hok hd;obtain⟨ep,hat⟩:=dd.dictAt;have hkv:=KV.keys rel;have zj:vs.length=ws.length:=by have h1:=KV.length rel;have h2:=congrArg List.length hk;simp at h2;lia
 refine Sw (W.kdu_collect (A:=X.A.in1) (W.kdl_dict (knd:=cC X.prog X.w) (kvs:=vs) (ep:=ep) lo) (I.ok.hd hc) hat (by rw[zj];exact ay (aM vE)) λh' tk acc kk hacc=>?_);have hS:StrsAre acc.toList (ws.map S):=by
  have key:∀(l:List Value) (m:AA),l.length=m.length->(∀(j:Nat) v,l[j]?=some v->∃c,m[j]?=some c/\∃u,v=.str (S c) u)->StrsAre l (m.map S):=by
   intro l
   induction l with
   | nil=>intro m hl _;cases m with|nil=>exact .nil|cons c r=>simp at hl
   | cons a r ih=>
    intro m hl hv;cases m with
    | nil=>simp at hl
    | cons c m=>
     obtain⟨c',e,u,rfl⟩:=hv 0 a rfl;have e':c=c':=by simpa using e
     subst e';exact .cons _ u (ih m (by simpa using hl) λj v hj=>hv (j+1) v hj)
  refine key _ _ (by rw[bo,hacc.1,zj]) λj v hj=>?_;obtain⟨k,x,hx,hi⟩:=hacc.2 j v (by simpa using hj);have hkj:(ws.map bQ)[j]?=some k:=by rw[<-hk,hkv,aw,hx];rfl
  rw[aw]at hkj;cases hw:ws[j]? with
  | none=>rw[hw]at hkj;cases hkj
  | some c=>
   rw[hw]at hkj;have e:bQ c=k:=by simpa using hkj
   subst e;refine⟨c,rfl,?_⟩;rcases dB (show jt (Sum.inr (S c)) v=true from hi) with⟨i,t,e1,_⟩|⟨y,t,e1,e2⟩;.cases e1
   .cases e1;exact⟨t,e2⟩
 have I1:aJ X aq σ H {s with heap:=h',toks:=tk}:=I.kept kk;refine⟨_,hS,by rw[bo,hacc.1,zj];exact h64,λh2 vs' ss' e k2 he hS' pm so=>?_⟩;have es:ss'=(ss'.map λy=>y.cps.toList).map S:=by rw[b6];refine(ke _).symm.trans (eI λy _=>?_);exact(adW y).symm
 have vJ:(ss'.map λy=>y.cps.toList).Perm ws:=by have:=pm.map λy:Str=>y.cps.toList;rw[b6]at this;have e:((λy:Str=>y.cps.toList) ∘ S)=id:=rfl;rw[e,ke]at this;exact this
 have hv:Vals (Ts (ss'.map λy=>y.cps.toList)) vs':=by have:=sX hS';rw[es]at this;simpa [Ts,Function.comp_def] using this
 have hl:(Ts (ss'.map λy=>y.cps.toList)).length<=sizeLine:=by rw[aa,vJ.length_eq];exact ay (aM vE)
 refine⟨.ref h'.objs.size,_,I1.laid (o:=.lst _) (t':=tk) k2 (ag _) ⟨hl,vs',e,hv,he⟩,rfl,q _ _ I1.fresh vJ (Ja ss' so)⟩
def QI.or (h1:QI X tg iter w1)(h2:QI X tg iter w2):QI X tg iter (λσ H R=>w1 σ H R\/w2 σ H R):=⟨λaq s σ H R I h=>by
 rcases h with h|h;.exact h1.out aq s σ H R I h
 .exact h2.out aq s σ H R I h⟩
end
def aQ.keep {K:W.Frag}{xs:List V}(k:∀b o,H b=some o->b≠p->H' b=some o)(hp:∀o,H p=some o->(∀ys,o≠.lst ys)/\∀u ys,o≠.o9 u (.lst ys))(h:aQ K H a xs):aQ K H' a xs:=by
 rcases h with(h|⟨o,h⟩)|h;.exact .inl (.inl (k _ _ h λe=>(hp _ (e ▸ h)).1 _ rfl))
 .exact .inl (.inr ⟨o,k _ _ h λe=>(hp _ (e ▸ h)).2 _ _ rfl⟩)
 .exact .inr h
def aU.keep {K:W.Frag}{xs:List V}(k:∀b o,H b=some o->b≠p->H' b=some o)(hp:∀o,H p=some o->(∀ys,o≠.tup ys)/\∀u ys,o≠.o9 u (.tup ys))(h:aU K H a xs):aU K H' a xs:=by
 rcases h with(h|⟨o,h⟩)|h;.exact .inl (.inl (k _ _ h λe=>(hp _ (e ▸ h)).1 _ rfl))
 .exact .inl (.inr ⟨o,k _ _ h λe=>(hp _ (e ▸ h)).2 _ _ rfl⟩)
 .exact .inr h
section
variable {X:Cx}
def agw:V->List V->Hp->VK->Prop:=λx vs H Q=>∃l,x=.str (S l)/\vs=[]/\l.length<=1000/\(∀c∈l,c<128)/\Q (.str (S (l.map up1))) H
def ad3:vG X "str.upper" agw:=by
 intro aq s σ H x vs v us Q I rx rv h;obtain⟨l,rfl,rfl,hz,ha,q⟩:=h;obtain⟨t,rfl⟩:=rx;have hus:=rv.zero;subst hus;have hfit:Builtin.Str.tooLong (Txt.upper (S l)).length=false:=fit_upper (by rw[lM];lia);refine call_gives F.slot_str_upper (typeIs_str s _ t) F.entry_str_upper (F.args_str_upper_1 _) (gives_str_upper (S l) t hfit) ⟨fit_le hfit,?_⟩;have e:Txt.upper (S l)=S (l.map up1):=by rw[upper_ascii (x:=S l) ha];simp[S]
 exact⟨.str (S (l.map up1)),H,I.tok _,⟨s.toks,congrArg (λz=>Value.str z s.toks) e⟩,q⟩
def agx:V->List V->Hp->VK->Prop:=λx vs H Q=>∃l,x=.str (S l)/\vs=[]/\l.length<=1000/\(∀c∈l,c<128)/\Q (.str (S (l.map lo1))) H
def K_:vG X "str.lower" agx:=by
 intro aq s σ H x vs v us Q I rx rv h;obtain⟨l,rfl,rfl,hz,ha,q⟩:=h;obtain⟨t,rfl⟩:=rx;have hus:=rv.zero;subst hus;have hfit:Builtin.Str.tooLong (Txt.lower (S l)).length=false:=fit_lower (by rw[lM];lia);refine call_gives F.slot_str_lower (typeIs_str s _ t) F.entry_str_lower (F.args_str_lower_1 _) (gives_str_lower (S l) t hfit) ⟨fit_le hfit,?_⟩;have e:Txt.lower (S l)=S (l.map lo1):=by rw[lower_ascii (x:=S l) ha];simp[S]
 exact⟨.str (S (l.map lo1)),H,I.tok _,⟨s.toks,congrArg (λz=>Value.str z s.toks) e⟩,q⟩
end
def AL:List Nat:=(List.range 26).map (97 + ·)
def Cz {ds:List Int}{lo hi:Option Int}{v:V}(h:v∈n_ (ds.map V.int) lo hi):∃d∈ds,v=.int d:=by unfold n_ at h;have h2:=iA (eL h);obtain⟨d,hd,e⟩:=ar.mp h2;exact⟨d,hd,e.symm⟩
def Qn {α:Type}{xs:List α}(hn:xs.length=n)(h:0<n)(c):∃v,j_ xs (c%(n:Int))=some v/\v∈xs:=by
 have h0:0<=c%(n:Int):=d6 _ vE;have h1:c%(n:Int)<n:=de _ (nV gp h);obtain⟨k,hk⟩:∃k:Nat,c%(n:Int)=(k:Int):=⟨(c%(n:Int)).toNat,vE⟩
 rw[hk];have hl:k<xs.length:=by simp_all
 exact⟨xs[k],aN (by simp[hl]),a8 _⟩
inductive Dt where
 | non|int (i:Int)|str (l:List Nat)|tup (ds:List Dt)|lst (ds:List Dt)
mutual
def toP:Dt->PyData
 | .non=>.none
 | .int i=>.int i
 | .str l=>.str (S l)
 | .tup ds=>.tuple (dZ ds)
 | .lst ds=>.list (dZ ds)
def dZ:List Dt->List PyData
 | []=>[]
 | d::ds=>toP d::dZ ds
end
mutual
theorem Ei:∀d e:Dt,PyData.eqv (toP d) (toP e)=true↔d=e
 | .non,.non=>by simp[toP,PyData.eqv]
 | .non,.int _=>by simp[toP,PyData.eqv]
 | .non,.str _=>by simp[toP,PyData.eqv]
 | .non,.tup _=>by simp[toP,PyData.eqv]
 | .non,.lst _=>by simp[toP,PyData.eqv]
 | .int _,.non=>by simp[toP,PyData.eqv]
 | .int _,.int _=>by simp[toP,PyData.eqv]
 | .int _,.str _=>by simp[toP,PyData.eqv]
 | .int _,.tup _=>by simp[toP,PyData.eqv]
 | .int _,.lst _=>by simp[toP,PyData.eqv]
 | .str _,.non=>by simp[toP,PyData.eqv]
 | .str _,.int _=>by simp[toP,PyData.eqv]
 | .str a,.str b=>by simp only[toP,PyData.eqv,beq_iff_eq,Dt.str.injEq];exact⟨pX,λz=>by rw[z]⟩
 | .str _,.tup _=>by simp[toP,PyData.eqv]
 | .str _,.lst _=>by simp[toP,PyData.eqv]
 | .tup _,.non=>by simp[toP,PyData.eqv]
 | .tup _,.int _=>by simp[toP,PyData.eqv]
 | .tup _,.str _=>by simp[toP,PyData.eqv]
 | .tup ds,.tup es=>by simp only[toP,PyData.eqv,Dt.tup.injEq];exact La ds es
 | .tup _,.lst _=>by simp[toP,PyData.eqv]
 | .lst _,.non=>by simp[toP,PyData.eqv]
 | .lst _,.int _=>by simp[toP,PyData.eqv]
 | .lst _,.str _=>by simp[toP,PyData.eqv]
 | .lst _,.tup _=>by simp[toP,PyData.eqv]
 | .lst ds,.lst es=>by simp only[toP,PyData.eqv,Dt.lst.injEq];exact La ds es
theorem La:∀ds es:List Dt,PyData.eqvAll (dZ ds) (dZ es)=true↔ds=es
 | [],[]=>by simp[dZ,PyData.eqvAll]
 | [],_::_=>by simp[dZ,PyData.eqvAll]
 | _::_,[]=>by simp[dZ,PyData.eqvAll]
 | d::ds,e::es=>by simp only[dZ,PyData.eqvAll,dS,List.cons.injEq];rw[Ei d e,La ds es]
end
open Classical in
def Gy (d e:Dt):PyData.eqv (toP d) (toP e)=decide (d=e):=by
 by_cases h:d=e;.rw[aE h];exact(Ei d e).mpr h
 .rw[am h];cases z:PyData.eqv (toP d) (toP e) with| false=>rfl| true=>exact absurd ((Ei d e).mp z) h
mutual
inductive fK (K:W.Frag) (H:Hp):Nat->Dt->V->Prop
 | non {n}:fK K H n .non .non
 | int {n} (i:Int):fK K H n (.int i) (.int i)
 | str {n} (l:List Nat) (h:∀c∈l,c<128):fK K H n (.str l) (.str (S l))
 | tup {n a ds xs} (h:aU K H a xs) (hs:jL K H n ds xs):fK K H (n+1) (.tup ds) (.ref a)
 | lst {n a ds xs} (h:aQ K H a xs) (hs:jL K H n ds xs):fK K H (n+1) (.lst ds) (.ref a)
inductive jL (K:W.Frag) (H:Hp):Nat->List Dt->List V->Prop
 | nil {n}:jL K H n [] []
 | cons {n d ds x xs} (h:fK K H n d x) (hs:jL K H n ds xs):jL K H n (d::ds) (x::xs)
end
def Qo (h:∀c∈l,c<128):PyData.strOk (S l)=true:=by unfold PyData.strOk;show l.toArray.all _=true;rw[Array.all_eq_true_iff_forall_mem];intro x hx;have:=h x (by simpa using hx);exact aE vE
mutual
theorem fK.lay {K:W.Frag}:∀{n:Nat} {d:Dt} {x:V},fK K H n d x->(toP d).canLay0=true/\(toP d).depth<=n
 | _,_,_,.non=>by simp[toP,PyData.canLay0,PyData.depth]
 | _,_,_,.int _=>by simp[toP,PyData.canLay0,PyData.depth]
 | _,_,_,.str l h=>by simp only[toP,PyData.canLay0,PyData.depth];exact⟨Qo h,cw _⟩
 | _,_,_,.tup _ hs=>by simp only[toP,PyData.canLay0,PyData.depth];have:=hs.lay;exact⟨this.1,gm this.2⟩
 | _,_,_,.lst _ hs=>by simp only[toP,PyData.canLay0,PyData.depth];have:=hs.lay;exact⟨this.1,gm this.2⟩
theorem jL.lay {K:W.Frag}:∀{n:Nat} {ds:List Dt} {xs:List V},jL K H n ds xs->PyData.canLayAll0 (dZ ds)=true/\PyData.depthAll (dZ ds)<=n
 | _,_,_,.nil=>by simp[dZ,PyData.canLayAll0,PyData.depthAll]
 | _,_,_,.cons h hs=>by have a:=h.lay;have b:=hs.lay;simp only[dZ,PyData.canLayAll0,PyData.depthAll,dS];exact⟨⟨a.1,b.1⟩,Nat.max_le.mpr ⟨a.2,b.2⟩⟩
end
mutual
theorem fK.same {K:W.Frag}(sm:aB H H')(st:∀a xs,aU K H a xs->aU K H' a xs):∀{n:Nat} {d:Dt} {x:V},fK K H n d x->fK K H' n d x
 | _,_,_,.non=>.non
 | _,_,_,.int i=>.int i
 | _,_,_,.str l h=>.str l h
 | _,_,_,.tup h hs=>.tup (st _ _ h) (hs.same sm st)
 | _,_,_,.lst h hs=>.lst (sm.seq h) (hs.same sm st)
theorem jL.same {K:W.Frag}(sm:aB H H')(st:∀a xs,aU K H a xs->aU K H' a xs):∀{n:Nat} {ds:List Dt} {xs:List V},jL K H n ds xs->jL K H' n ds xs
 | _,_,_,.nil=>.nil
 | _,_,_,.cons h hs=>.cons (h.same sm st) (hs.same sm st)
end
def aB.ad4 {K:W.Frag}{xs:List V}(e:aB H H')(h:aU K H a xs):aU K H' a xs:=by
 rcases h with(h|⟨o,h⟩)|h;.exact .inl (.inl (e _ _ h))
 .exact .inl (.inr ⟨o,e _ _ h⟩)
 .exact .inr h
def fK.mv {K:W.Frag}(sm:aB H H'){n:Nat}{d:Dt}{x:V}(h:fK K H n d x):fK K H' n d x:=h.same sm λ_ _=>sm.ad4
section
variable {X:Cx}
mutual
theorem fK.reads {aq:AC}{σ:St}{H:Hp}{s:Shared}(I:aJ X aq σ H s):∀{n:Nat} {d:Dt} {x:V} {u:Value},fK X.K H n d x->bJ x u->∃as,Reads s.heap u (toP d) as
 | _,_,_,u,.non,r=>by cases r;exact⟨[],by rw[toP];exact .none⟩
 | _,_,_,u,.int i,r=>by obtain⟨t,rfl⟩:=r;exact⟨[],by rw[toP];exact .int i t⟩
 | _,_,_,u,.str l h,r=>by obtain⟨t,rfl⟩:=r;exact⟨[],by rw[toP];exact .str _ t⟩
 | _,_,_,u,.tup h hs,r=>by cases r;obtain⟨its,rv,pl,_⟩:=I.tuple h;obtain⟨as,ra⟩:=hs.reads I rv;obtain⟨o,ho,hc,n,hd⟩:=pl;exact⟨as,by rw[toP];exact .tuple ho hc hd (by simpa using ra)⟩
 | _,_,_,u,.lst h hs,r=>by cases r;obtain⟨its,rv,pl,_⟩:=I.list h;obtain⟨as,ra⟩:=hs.reads I rv;obtain⟨o,ho,hc,n,hd⟩:=pl.isList;exact⟨_::as,by rw[toP];exact .list ho hc hd (by simpa using ra)⟩
theorem jL.reads {aq:AC}{σ:St}{H:Hp}{s:Shared}(I:aJ X aq σ H s):∀{n:Nat} {ds:List Dt} {xs:List V} {us:List Value},jL X.K H n ds xs->Vals xs us->∃as,ReadsAll s.heap us (dZ ds) as
 | _,_,_,us,.nil,r=>by cases r;exact⟨[],by rw[dZ];exact .nil⟩
 | _,_,_,us,.cons h hs,r=>by
  cases r with| cons q t=>obtain⟨as,a⟩:=h.reads I q;obtain⟨bs,b⟩:=hs.reads I t;exact⟨as++bs,by rw[dZ];exact .cons a b⟩
end
def fK.shaped {K:W.Frag}{n:Nat}{d:Dt}{x:V}(h:fK K H n d x)(hn:n<=64):SeqAt.shaped (toP d)=true:=by unfold SeqAt.shaped;rw[h.lay.1,aE (a9 h.lay.2 hn)];rfl
open Classical in
def ad5 (K:W.Frag)(neg:Bool):R2:=λx y H Q=>∃n d e,n<=64/\fK K H n d x/\fK K H n e y/\Q (.bl (if neg then !decide (d=e) else decide (d=e))) H
def ad6 (hu:X.A.units+64<cLine):eX X (compareOp .Eq) (ad5 X.K false):=by intro aq s σ H x y v u Q I rx ry h;obtain⟨n,d,e,hn,hd,he,q⟩:=h;obtain⟨as,ra⟩:=hd.reads I rx;obtain⟨bs,rb⟩:=he.reads I ry;refine SeqAt.compareEq_shaped ra rb (hd.shaped hn) (he.shaped hn) hu ⟨.bl _,H,I,rfl,?_⟩;rw[Gy];exact q
def VB (hu:X.A.units+64<cLine):eX X (compareOp .NotEq) (ad5 X.K true):=by intro aq s σ H x y v u Q I rx ry h;obtain⟨n,d,e,hn,hd,he,q⟩:=h;obtain⟨as,ra⟩:=hd.reads I rx;obtain⟨bs,rb⟩:=he.reads I ry;refine SeqAt.compareNe_shaped ra rb (hd.shaped hn) (he.shaped hn) hu ⟨.bl _,H,I,rfl,?_⟩;rw[Gy];exact q
def ad7 (K:W.Frag):V->List V->Hp->VK->Prop:=λx vs H Q=>∃p ls,x=.str (S [])/\vs=[.ref p]/\aU K H p (Ts ls)/\ls.flatten.length<=1000/\Q (.str (S ls.flatten)) H
def CG:vG X "str.join" (ad7 X.K):=by
 intro aq s σ H x vs v us Q I rx rv h;obtain⟨p,ls,rfl,rfl,hq,hz,q⟩:=h;obtain⟨t,rfl⟩:=rx;obtain⟨u,rfl,ru⟩:=vals1 rv;cases ru;obtain⟨its,r,pl,_⟩:=I.tuple hq;refine join_tuple pl (ys:=ls.map S) (by simpa using Aw r) ?_ λt' k=>?_
 .rw[Qm];show _+_*0<=_;lia
 .exact⟨.str (S ls.flatten),H,I.tok k,⟨t',congrArg (λz=>Value.str z t') (Ql ls)⟩,q⟩
end
def wN {K:W.Frag}{a D:Addr}{xs:List V}{te:TE}{σ:St}{H:Hp}{R:Hp->Prop}(Pv:Nat->List V->Hp->Prop)(h0:Pv 0 [] (upd H D (.lst [])))(hl:∀i ys H,i<=xs.length->Pv i ys H->aU K H a xs)(hs:∀i x ys H,xs[i]?=some x->Pv i ys H->te (some x::σ) H (Cu xs.length i D ys (Pv (i+1))))(hd:∀ys H,Pv xs.length ys H->R H):qO (Itt K a) D H R (K7 σ gF te):=Aq Pv h0 hl hs hd
section
variable {X:Cx}{x:Str}{pos:Pos}
def lU (hg:Gl X x)(hm:∃t,X.mg x=some (.str (S l) t))(hd:(x==("__debug__":Str))=false:=by decide):QE X (.Name x pos) (tC (.str (S l))):=let ⟨t,e⟩:=hm;Ax hg e ⟨t,rfl⟩ hd
def Sx (hg:Gl X x)(hm:∃t,X.mg x=some (.int i t))(hd:(x==("__debug__":Str))=false:=by decide):QE X (.Name x pos) (tC (.int i)):=let ⟨t,e⟩:=hm;Ax hg e ⟨t,rfl⟩ hd
def ad8 (ho:QE X o to)(hi:QE X i ti)(hs:Yp X t)(ha:∀v,assign (.Subscript o i pos) X.env v=(do
   let ov <- holding [v] (eval o X.env)
   let iv <- holding [v,ov] (eval i X.env)
   standAt pos
   holding [v,ov,iv] (setItem ov iv v)
   release [v,ov,iv] []):=by intro _;rfl):QG X (.Subscript o i pos) (adg to ti t):=⟨adh ho.out hi.out hs ha⟩
end
def k_:bootBuiltins "all"=some (.builtin "all"):=by decide +kernel
def Jb:bootBuiltins "any"=some (.builtin "any"):=by decide +kernel
def CJ {K:W.Frag}(X:K.In h)(G:h.Ns mainGlobals mg)(a:W.nsIn K mainGlobals x=some (some (.str (S l) t))):∃t,mg x=some (.str (S l) t):=⟨t,ml X G a⟩
def Lb {K:W.Frag}(X:K.In h)(G:h.Ns mainGlobals mg)(a:W.nsIn K mainGlobals x=some (some (.int i t))):∃t,mg x=some (.int i t):=⟨t,ml X G a⟩
section
variable {X:Cx}
def Y5 (K:W.Frag)  (h:X.K=K:=by rfl):Iu X (adG K):=by subst h;exact fU
def nO (K:W.Frag)  (h:X.K=K:=by rfl):Iu X (R9 K):=by subst h;exact bV
def JZ (K:W.Frag)  (h:X.K=K:=by rfl):fj X (.builtin "len") (λxs H Q=>∃p ys,xs=[.ref p]/\(aQ K H p ys\/aU K H p ys)/\Q (.int ys.length) H):=by subst h;exact dh
def Ld (K:W.Frag)  (h:X.K=K:=by rfl):fj X (.builtin "isinstance") (aaQ K):=by subst h;exact jY
def Y6 (K:W.Frag)  (h:X.K=K:=by rfl):vG X "str.join" (rJoin K):=by subst h;exact sG
def ad9 {name:Str}{apos cpos:Pos}{T id:String}(K:W.Frag)(pa:PlainAttrs T)(slot:Slot T name id)(hty:typeOf (.builtin id)=pure (.type "method_descriptor"))(hm:vG X id r)(ho:QE X o to)(ha:QA X (e::es) t)(hbase:attributeBase o name X.env (eval o X.env)=eval o X.env:=by rfl)(hfew:((backTo cpos (starEach (e::es) X.env)).all (λx=>!x.1)&&(backToKw cpos (keywordEach [] X.env)).all (λx=>x.1.isSome)
   && decide ((e::es).length+([]:List Keyword).length+(if ([]:List Keyword).isEmpty then 0 else 1)<30))=true:=by rfl) (hline:(apos.endLine==cpos.line)=true:=by rfl) (hs:starEach (e::es) X.env=(false,eval e X.env)::starEach es X.env:=by rfl) (hplain:(backTo cpos (starEach es X.env)).any (·.1)=false:=by rfl) (h:X.K=K:=by rfl):QE X (.Call (.Attribute o name apos) (e::es) [] cpos) (Qe K T r to t):=by subst h;exact fB pa slot hty hm ho ha hbase hfew hline hs hplain
end
def dW (l:List Nat):List Nat:=l.takeWhile λc=>c != 46
def cQ (l:List Nat):List Nat:=(l.reverse.takeWhile λc=>c != 46).reverse
theorem CK:∀{l:List Nat} {i:Nat},l[i]?=some 46->(∀k,k<i->l[k]?≠some 46)->dW l=l.take i
 | [],i,h,_=>by simp at h
 | c::l,0,h,_=>by
  have:c=46:=by simpa using h
  subst this;simp[dW]
 | c::l,i+1,h,hk=>by have hc:c≠46:=λe=>hk 0 vE (by simp[e]);have ih:=CK (l:=l) (i:=i) (by simpa using h) (λk hk'=>by have:=hk (k+1) (q0 hk');simpa using this);unfold dW at ih ⊢;rw[tw (by simpa using hc),ih,sF]
def Jc (h:46∉l):dW l=l:=by
 unfold dW
 induction l with| nil=>rfl| cons c r ih=>have hc:c≠46:=λe=>h (by rw[e];exact a6);rw[tw (by simpa using hc),ih λz=>h (aI _ z)]
def VD (h:46∉l):cQ l=l:=by have:=Jc (l:=l.reverse) (by simpa using h);unfold dW at this;unfold cQ;rw[this,List.reverse_reverse]
def Y7 (h:l[i]?=some 46)(hk:∀k,i<k->l[k]?≠some 46):cQ l=l.drop (i+1):=by
 have hi:i<l.length:=(ai.mp h).1;have e:dW l.reverse=l.reverse.take (l.length-(i+1)):=by
  refine CK ?_ λk hk'=>?_
  .rw[List.getElem?_reverse (b8 vE vE),show l.length-1-(l.length-(i+1))=i by lia];exact h
  .rw[List.getElem?_reverse (by simp[fe,gh]at *;lia)];exact hk _ (by simp[fe,gh]at *;lia)
 unfold dW at e;unfold cQ;rw[e,List.take_reverse,List.reverse_reverse,show l.length-(l.length-(i+1))=i+1 by rw[gr (by assumption)]]
def Le (l:List Nat)(n:Nat):pI l none (some (n:Int))=l.take n:=by
 unfold pI;rw[HT.Ai];show (l.drop 0).take (min n l.length-0)=_;rw[vy,Nat.sub_zero];by_cases h:n<=l.length;.rw[sd h]
 .rw[Nat.min_eq_right vE,cq (ag _),cq vE]
def wO (l:List Nat)(n:Nat):pI l (some (n:Int)) none=l.drop n:=by
 unfold pI;rw[HT.Ai];show (l.drop (min n l.length)).take (l.length-min n l.length)=_;rw[cq (by rw[dP];lia)];by_cases h:n<=l.length;.rw[sd h]
 .rw[Nat.min_eq_right vE,qo (ag _),qo vE]
def Kp (l)(i j):Builtin.Str.strSub (S l) i j=S ((l.take j).drop i):=by unfold Builtin.Str.strSub S;congr 1;apply lh.mp;simp[List.drop_take]
section
variable {X:Cx}
def VF (l):(Txt.partition (S l) (S [46])).1=S (dW l):=by
 rcases partition_head (S l) (S [46]) with⟨e,h⟩|⟨i,e,h,hk⟩
 .rw[e,Jc λhm=>?_];obtain⟨i,hi⟩:=rn.mp hm;exact h i ((ga (S l) 46 i).mpr hi)
 .rw[e,Kp,vy,CK (l:=l) ((ga (S l) 46 i).mp h) λk hk' z=>hk k hk' ((ga (S l) 46 k).mpr z)]
def Sy (l):(Txt.rpartition (S l) (S [46])).2.2=S (cQ l):=by
 unfold Txt.rpartition;rcases StrLaws.last_spec (S l) (S [46]) with⟨e,h⟩|⟨i,e,h,hk⟩
 .rw[e];show S l=_;rw[VD λhm=>?_];obtain⟨i,hi⟩:=rn.mp hm;exact h i ((ga (S l) 46 i).mpr hi)
 .rw[e];show Builtin.Str.strSub (S l) (i+1) l.length=_;rw[Kp,cq (ag _),Y7 (l:=l) ((ga (S l) 46 i).mp h) λk hk' z=>hk k hk' ((ga (S l) 46 k).mpr z)]
def afS:V->List V->Hp->VK->Prop:=λx vs H Q=>∃l,x=.str (S l)/\vs=[.str (S [46])]/\l.length<=1000/\∀(p:Addr) (b c:Str),H p=none->Q (.ref p) (upd H p (.tup [.str (S (dW l)),.str b,.str c]))
def abE:vG X "str.partition" afS:=by
 intro aq s σ H x vs v us Q I rx rv h;obtain⟨l,rfl,rfl,hz,q⟩:=h;obtain⟨t,rfl⟩:=rx;obtain⟨u,rfl,ru⟩:=vals1 rv;obtain⟨t2,rfl⟩:=ru;have hsz:(S l).length<=sizeLine:=ay (aM hz);refine call_meets F.slot_str_partition (typeIs_str _ _ _) F.entry_str_partition (F.args_str_partition_2 _ _) (meets_str_partition (S l) (S [46]) t t2 rfl hsz) ?_;have e:=VF l;have q':=λb c=>q s.heap.objs.size b c (I.hok.fresh (ag _));rw[<-e]at q';unfold Txt.partition at q'
 revert q'
 cases Builtin.Str.occurrences (S l) (S [46]) 0 (S l).length 1 with| nil=>intro q';refine⟨.ref s.heap.objs.size,_,I.laid (o:=.tup _) (t':=s.toks+1) (λb ob z=>af _ z) (ag _) ?_,rfl,q' Str.empty Str.empty⟩;exact⟨zsz 3,_,.cons ⟨_,rfl⟩ (.cons ⟨_,rfl⟩ (.cons ⟨_,rfl⟩ .nil)),⟨_,aS _ rfl,rfl,0,rfl⟩⟩| cons i r=>intro q';refine⟨.ref s.heap.objs.size,_,I.laid (o:=.tup _) (t':=s.toks+1+1) (λb ob z=>af _ z) (ag _) ?_,rfl,q' (S [46]) (Builtin.Str.strSub (S l) (i+(S [46]).length) (S l).length)⟩;exact⟨zsz 3,_,.cons ⟨_,rfl⟩ (.cons ⟨_,rfl⟩ (.cons ⟨_,rfl⟩ .nil)),⟨_,aS _ rfl,rfl,0,rfl⟩⟩
def ad_:V->List V->Hp->VK->Prop:=λx vs H Q=>∃l,x=.str (S l)/\vs=[.str (S [46])]/\l.length<=1000/\∀(p:Addr) (a b:Str),H p=none->Q (.ref p) (upd H p (.tup [.str a,.str b,.str (S (cQ l))]))
def Y8:vG X "str.rpartition" ad_:=by
 intro aq s σ H x vs v us Q I rx rv h;obtain⟨l,rfl,rfl,hz,q⟩:=h;obtain⟨t,rfl⟩:=rx;obtain⟨u,rfl,ru⟩:=vals1 rv;obtain⟨t2,rfl⟩:=ru;have hsz:(S l).length<=sizeLine:=ay (aM hz);refine call_meets F.slot_str_rpartition (typeIs_str _ _ _) F.entry_str_rpartition (F.args_str_rpartition_2 _ _) (meets_str_rpartition (S l) (S [46]) t t2 rfl hsz) ?_;have e:=Sy l;have q':=λb c=>q s.heap.objs.size b c (I.hok.fresh (ag _));rw[<-e]at q';unfold Txt.rpartition at q'
 revert q'
 cases Builtin.Str.lastOccurrence (S l) (S [46]) 0 (S l).length with| none=>intro q';refine⟨.ref s.heap.objs.size,_,I.laid (o:=.tup _) (t':=s.toks+1) (λb ob z=>af _ z) (ag _) ?_,rfl,q' Str.empty Str.empty⟩;exact⟨zsz 3,_,.cons ⟨_,rfl⟩ (.cons ⟨_,rfl⟩ (.cons ⟨_,rfl⟩ .nil)),⟨_,aS _ rfl,rfl,0,rfl⟩⟩| some i=>intro q';refine⟨.ref s.heap.objs.size,_,I.laid (o:=.tup _) (t':=s.toks+1+1) (λb ob z=>af _ z) (ag _) ?_,rfl,q' (Builtin.Str.strSub (S l) 0 i) (S [46])⟩;exact⟨zsz 3,_,.cons ⟨_,rfl⟩ (.cons ⟨_,rfl⟩ (.cons ⟨_,rfl⟩ .nil)),⟨_,aS _ rfl,rfl,0,rfl⟩⟩
end
def Y9 {X:Cx}{elt iter tg:Expr}{ns N2:List Str}{f:St->St}{TP:V->Hp->(St->Prop)->Prop}{ifs:List Expr}{scope:Scope}{wi:TI}(hc:X.calm=true)(ok:fu X scope ns N2 f)(hi:PI X tg iter wi)(hg:∀cl C s₀ H₀ fp,IV (d8 X scope cl C (ns++N2) s₀ H₀ fp) tg ns.length TP)(ht:∀cl C s₀ H₀ fp,K6 (d8 X scope cl C (ns++N2) s₀ H₀ fp) ifs tt)(he:∀cl C s₀ H₀ fp,PE (d8 X scope cl C (ns++N2) s₀ H₀ fp) elt te)(hs:∀x,foldedSetIterable iter X.env x=pure x:=by intro _;rfl):PE X (.ListComp elt [⟨tg,iter,ifs,0⟩] scope pos) (yW f ns.length wi TP tt te):=λaq s σ H Q I h=>by rw[eval_ListComp];exact yX hc ok hi hg ht he hs I h λD C H4 s5 m hn bk _ q=>⟨m,hn,λh' sb=>⟨.ref D,H4,bk h' sb,rfl,q⟩⟩
def eU (ks:List Nat):Nat->St->St
 | _,[]=>[]
 | i,v::r=>(if ks.contains i=true then none else v)::eU ks (i+1) r
theorem Jd (ks):∀(i:Nat) (σ:St),(eU ks i σ).length=σ.length
 | _,[]=>rfl
 | i,_::r=>by rw[eU,bt,bt,Jd ks (i+1) r]
theorem Je (ks):∀(i:Nat) (σ:St) (j:Nat) (v:V),(eU ks i σ)[j]?=some (some v)->ks.contains (i+j)=false/\σ[j]?=some (some v)
 | _,[],j,v,h=>by simp[eU]at h
 | i,x::r,0,v,h=>by
  rw[eU]at h;cases e:ks.contains i with| true=>rw[e]at h;simp at h| false=>rw[e]at h;exact⟨by first|rfl|exact e,by simpa using h⟩
 | i,x::r,j+1,v,h=>by rw[eU,pi]at h;obtain⟨a,b⟩:=Je ks (i+1) r j v h;exact⟨by rw[show i+(j+1)=i+1+j by lia];exact a,by rw[pi];exact b⟩
noncomputable def aea (sc:Scope)(N:List Str)(scope:Scope)(N2:List Str)(ks:List Nat):Bool:=scope.kind == .function&&scope.names.all (λy=>y.2 != .cell)&&scope.names.all (λy=>y.2 != .local||scope.names.lookup y.1==some .local) &&
 scope.names.all (λy=>y.2 != .free||sc.names.lookup y.1==some .cell||sc.names.lookup y.1==some .free)&&N2.length==N.length &&
 (List.range N.length).all (λi=>ks.contains i||(N2[i]? == N[i]? && (N[i]?.map λy=>scope.names.lookup y != some .local)==some true))
def fu.of {X:Cx}(N2)(ks)(h:aea X.env.scope X.N scope N2 ks=true):fu X scope ns N2 (eU ks 0):=by
 unfold aea at h;simp only[dS,hV,Bool.or_eq_true,bne_iff_ne,beq_iff_eq,ne_eq]at h;obtain⟨⟨⟨⟨⟨h1,h2⟩,h3⟩,h5⟩,h6⟩,h7⟩:=h;refine⟨h1,λy hy=>h2 y hy,λy hy e=>(h3 y hy).resolve_left λz=>z e,λy hy e=>?_,Jd ks 0,h6,λσ i y v e1 e2=>?_⟩
 .rcases h5 y hy with(z|z)|z;.exact absurd e z
  .exact .inl z
  .exact .inr z
 .obtain⟨a,b⟩:=Je ks 0 σ i v e2;rw[gt]at a;have hi:i<X.N.length:=by rw[<-h6];exact(ai.mp e1).1
  rcases h7 i (bE.mpr hi) with z|⟨z1,z2⟩;.rw[a]at z;cases z
  .rw[<-z1,e1]at z2;rw[z1]at e1;exact⟨e1,b,by simpa using z2⟩
def Gz {X:Cx}{scope:Scope}{N:List Str}(K:W.Frag)(hc:X.calm=true)(hN:N.Nodup)(h0:N[0]?=some x)(h1:N[1]?=some y)(hx:scope.names.lookup x=some .local)(hy:scope.names.lookup y=some .local)(hK:X.K=K:=by rfl):IV (d8 X scope cl C N s₀ H₀ fp) (.Tuple [.Name x px,.Name y py] k pos) 2 (λv H Q=>∃a p q,v=.ref a/\aU K H a [p,q]/\Q [some p,some q]):=by
 subst hK;intro aq s pre rest H v u Q hp I r q;obtain⟨a,p,q',rfl,hq,q⟩:=q;obtain⟨p0,p1,rfl⟩:∃p0 p1,pre=[p0,p1]:=by
  match pre,hp with| [p0,p1],_=>exact⟨p0,p1,rfl⟩
 have P:PG (d8 X scope cl C N s₀ H₀ fp) (.Tuple [.Name x px,.Name y py] k pos) (RP X.K 2 (wH (nW 0) (wH (nW 1) RN))):=KJ (X:=d8 X scope cl C N s₀ H₀ fp) hc (pF (pD (i:=0) hN h0 (.inl (lookup_relabel_local hx)) (.inr (lookup_relabel_local hx))) (pF (pD (i:=1) hN h1 (.inl (lookup_relabel_local hy)) (.inr (lookup_relabel_local hy))) Gp));refine bH (P aq s _ H (.ref a) u (λσ' H'=>H'=H/\σ'=some p::some q'::rest) I r
  ⟨a,[p,q'],rfl,hq,rfl,p,[q'],rfl,q',[],rfl,rfl,rfl,rfl⟩) λ_ s' ⟨σ',H',I',e1,e2⟩=>?_
 subst e1 e2;exact⟨[some p,some q'],rfl,I',q⟩
def pJ {X:Cx}{scope:Scope}{N:List Str}(K:W.Frag)(hc:X.calm=true)(hN:N.Nodup)(h0:N[0]?=some x)(h1:N[1]?=some y)(h2:N[2]?=some z)(hx:scope.names.lookup x=some .local)(hy:scope.names.lookup y=some .local)(hz:scope.names.lookup z=some .local)(hK:X.K=K:=by rfl):IV (d8 X scope cl C N s₀ H₀ fp) (.Tuple [.Name x px,.Name y py,.Name z pz] k pos) 3 (λv H Q=>∃a p q r,v=.ref a/\aU K H a [p,q,r]/\Q [some p,some q,some r]):=by
 subst hK;intro aq s pre rest H v u Q hp I r q;obtain⟨a,p,q',r',rfl,hq,q⟩:=q;obtain⟨p0,p1,p2,rfl⟩:∃p0 p1 p2,pre=[p0,p1,p2]:=by
  match pre,hp with| [p0,p1,p2],_=>exact⟨p0,p1,p2,rfl⟩
 have P:PG (d8 X scope cl C N s₀ H₀ fp) (.Tuple [.Name x px,.Name y py,.Name z pz] k pos) (RP X.K 3 (wH (nW 0) (wH (nW 1) (wH (nW 2) RN)))):=KJ (X:=d8 X scope cl C N s₀ H₀ fp) hc (pF (pD (i:=0) hN h0 (.inl (lookup_relabel_local hx)) (.inr (lookup_relabel_local hx))) (pF (pD (i:=1) hN h1 (.inl (lookup_relabel_local hy)) (.inr (lookup_relabel_local hy))) (pF (pD (i:=2) hN h2 (.inl (lookup_relabel_local hz)) (.inr (lookup_relabel_local hz))) Gp)));refine bH (P aq s _ H (.ref a) u (λσ' H'=>H'=H/\σ'=some p::some q'::some r'::rest) I r
  ⟨a,[p,q',r'],rfl,hq,rfl,p,[q',r'],rfl,q',[r'],rfl,r',[],rfl,rfl,rfl,rfl⟩) λ_ s' ⟨σ',H',I',e1,e2⟩=>?_
 subst e1 e2;exact⟨[some p,some q',some r'],rfl,I',q⟩
def gb {X:Cx}{elt iter tg:Expr}{ns N2:List Str}{f:St->St}{TP:V->Hp->(St->Prop)->Prop}{ifs:List Expr}{scope:Scope}{wi:TI}(hc:X.calm=true)(ok:fu X scope ns N2 f)(hi:QI X tg iter wi)(hg:∀cl C s₀ H₀ fp,IV (d8 X scope cl C (ns++N2) s₀ H₀ fp) tg ns.length TP)(ht:∀cl C s₀ H₀ fp,Vx (d8 X scope cl C (ns++N2) s₀ H₀ fp) ifs tt)(he:∀cl C s₀ H₀ fp,QE (d8 X scope cl C (ns++N2) s₀ H₀ fp) elt te)(hs:∀x,foldedSetIterable iter X.env x=pure x:=by intro _;rfl):QE X (.ListComp elt [⟨tg,iter,ifs,0⟩] scope pos) (yW f ns.length wi TP tt te):=⟨Y9 hc ok hi.out hg (λcl C s₀ H₀ fp=>(ht cl C s₀ H₀ fp).out) (λcl C s₀ H₀ fp=>(he cl C s₀ H₀ fp).out) hs⟩
def uy (n i:Nat)(D:Addr)(TP:V->Hp->(St->Prop)->Prop)(f:St->St)(σ:St)(tt:TT)(te:TE)(x:V)(H:Hp)(ys:List V)(P:List V->Hp->Prop):Prop:=BR TP f σ tt te x H (Cu n i D ys P) λH2=>dJ n i (P ys H2)
def BW {K:W.Frag}{a:Addr}{f:St->St}{σ:St}{tt:TT}{te:TE}:=@Aq (λH=>aQ K H a) (BR (λv _ Q=>Q [some v]) f σ tt te)
def wQ {K:W.Frag}{a:Addr}{f:St->St}{σ:St}{tt:TT}{te:TE}:=@Aq (λH=>aU K H a) (BR (λv _ Q=>Q [some v]) f σ tt te)
def SJ {l:List Nat}{f:St->St}{tt:TT}{D:Addr}{te:TE}{σ:St}{H:Hp}{R:Hp->Prop}(Pv:Nat->List V->Hp->Prop)(h0:Pv 0 [] (upd H D (.lst [])))(hs:∀i c ys H,l[i]?=some c->Pv i ys H->uy l.length i D (λv _ Q=>Q [some v]) f σ tt te (.str (S [c])) H ys (Pv (i+1)))(hd:∀ys H,Pv l.length ys H->R H):qO (Its l) D H R (BR (λv _ Q=>Q [some v]) f σ tt te):=Cv l.length Pv h0 (λi ys H h p=>⟨h,λx H' y=>by obtain⟨rfl,c,hc,rfl⟩:=y;exact hs i c ys _ hc p⟩) λys H p=>⟨ag _,hd ys H p⟩
noncomputable def uW {K KT:W.Frag}{a:Addr}{f:St->St}{σ:St}{tt:TT}{te:TE}:=@Aq (λH=>aQ K H a) (BR (λv H Q=>∃a p q r,v=.ref a/\aU KT H a [p,q,r]/\Q [some p,some q,some r]) f σ tt te)
noncomputable def oA {K KT:W.Frag}{a:Addr}{f:St->St}{σ:St}{tt:TT}{te:TE}:=@Aq (λH=>aU K H a) (BR (λv H Q=>∃a p q r,v=.ref a/\aU KT H a [p,q,r]/\Q [some p,some q,some r]) f σ tt te)
def Kq (h:te ([some x]++f σ) H λy H3=>H3 D=some (.lst ys)/\ys.length<sizeLine/\dJ n i (P (ys++[y]) (upd H3 D (.lst (ys++[y]))))):uy n i D (λv _ Q=>Q [some v]) f σ gF te x H ys P:=by show (if true=true then (te ([some x]++f σ) H λy H3=>H3 D=some (.lst ys)/\ys.length<sizeLine/\dJ n i (P (ys++[y]) (upd H3 D (.lst (ys++[y]))))) else dJ n i (P ys H));rw[if_pos rfl];exact h
def afT {KT:W.Frag}{n i:Nat}{p q:V}{f:St->St}{x:V}{ys:List V}{P:List V->Hp->Prop}(hx:x=.ref a)(hS:aU KT H a [p,q])(h:te ([some p,some q]++f σ) H λy H3=>H3 D=some (.lst ys)/\ys.length<sizeLine/\dJ n i (P (ys++[y]) (upd H3 D (.lst (ys++[y]))))):uy n i D (λv H Q=>∃a p q,v=.ref a/\aU KT H a [p,q]/\Q [some p,some q]) f σ gF te x H ys P:=by refine⟨a,p,q,hx,hS,?_⟩;show (if true=true then (te ([some p,some q]++f σ) H λy H3=>H3 D=some (.lst ys)/\ys.length<sizeLine/\dJ n i (P (ys++[y]) (upd H3 D (.lst (ys++[y]))))) else dJ n i (P ys H));rw[if_pos rfl];exact h
def wR {KT:W.Frag}{n i:Nat}{p q r:V}{f:St->St}{x:V}{ys:List V}{P:List V->Hp->Prop}(hx:x=.ref a)(hS:aU KT H a [p,q,r])(h:te ([some p,some q,some r]++f σ) H λy H3=>H3 D=some (.lst ys)/\ys.length<sizeLine/\dJ n i (P (ys++[y]) (upd H3 D (.lst (ys++[y]))))):uy n i D (λv H Q=>∃a p q r,v=.ref a/\aU KT H a [p,q,r]/\Q [some p,some q,some r]) f σ gF te x H ys P:=by refine⟨a,p,q,r,hx,hS,?_⟩;show (if true=true then (te ([some p,some q,some r]++f σ) H λy H3=>H3 D=some (.lst ys)/\ys.length<sizeLine/\dJ n i (P (ys++[y]) (upd H3 D (.lst (ys++[y]))))) else dJ n i (P ys H));rw[if_pos rfl];exact h
section
variable {X:Cx}
def aeb (K:W.Frag):List V->Hp->VK->Prop:=λxs H Q=>∃(a:Addr) (ws:AA),xs=[.ref a]/\aQ K H a (Ts ws)/\ws.length<64/\∀(p:Addr) (ws':AA),H p=none->ws'.Perm ws->ws'.Pairwise (λa b=>decide (b<a)=false)->Q (.ref p) (upd H p (.lst (Ts ws')))
def Lf:fj X (.builtin "sorted") (aeb X.K):=by
 intro aq s σ H xs us Q I r h;obtain⟨a,ws,rfl,hS,h64,q⟩:=h;obtain⟨u,rfl,ru⟩:=vals1 r;cases ru;obtain⟨its,rv,pl,_⟩:=I.list hS;have bW:its.length=ws.length:=by have:=rv.length;simpa using this.symm
 refine sorted_strs pl.isList (Aw rv) (by simp_all) λout ss' a1 a2 a3=>?_;obtain⟨e,he⟩:=sortedAll_at s.heap its out;have vJ:(ss'.map λy=>y.cps.toList).Perm ws:=by have:=a2.map λy:Str=>y.cps.toList;rw[b6]at this;have e:((λy:Str=>y.cps.toList) ∘ S)=id:=rfl;rw[e,ke]at this;exact this
 have hv:Vals (Ts (ss'.map λy=>y.cps.toList)) out.toList:=by
  have:=sX a1;have es:(ss'.map V.str)=Ts (ss'.map λy=>y.cps.toList):=by rw[Ts,b6];exact eI λy _=>by simp[Function.comp_def,adW]
  rw[es]at this;exact this
 have hl:(Ts (ss'.map λy=>y.cps.toList)).length<=sizeLine:=by rw[aa,vJ.length_eq];exact ay (aM vE)
 refine⟨.ref (s.heap.objs.size+1),_,I.laid (o:=.lst _) (t':=s.toks) (λb o z=>sortedAll_old z) (fA _) ⟨hl,out.toList,e,hv,by rw[r_];exact he⟩,rfl,q _ _ (I.hok.fresh (fA _)) vJ (Ja ss' a3)⟩
def agy (t:TS):TS:=λD σ H=>∃Iv:St->Hp->Prop,t {D with nx:=Iv} σ H/\∀σ' H',Iv σ' H'->D.nx σ' H'
def zm {st:Stmt}(h:QS X st t):QS X st (agy t):=⟨λaq s σ H D I ⟨Iv,a,b⟩=>by
 refine bH (h.out aq s σ H _ I a) λf s' q=>?_;cases f with
 | next=>obtain⟨σ7,H7,I7,n7⟩:=q;exact⟨σ7,H7,I7,b _ _ n7⟩
 | cont=>exact q
 | brk=>exact q
 | ret v=>exact q⟩
end
end L2
namespace L2
open PySem PySem.Spec PyProof.Rows PySem.W
def aec (H:Hp)(cf:Addr->Nat)(a:Addr):Prop:=∃(x y:Nat) (rest:List V),H a=some (.tup (.int x :: .int y::rest))/\y<1000/\cf a=x*1000+y/\(rest=[]\/∃z,rest=[.str z])
section
variable {X:Cx}{pos:Pos}
def aed (K:W.Frag):List V->Hp->VK->Prop:=λxs H Q=>∃(L:Addr) (as:List Addr) (cf:Addr->Nat),xs=[.ref L]/\aQ K H L (as.map V.ref)/\as.length<64/\(∀a∈as,aec H cf a)/\(as.map cf).Nodup/\
 ∀(p:Addr) (as':List Addr),H p=none->as'.Perm as->(as'.map cf).Pairwise (·<·)->Q (.ref p) (upd H p (.lst (as'.map V.ref)))
theorem zp:∀{as:List Addr} {us:List Value},Vals (as.map V.ref) us->us=as.map Value.ref
 | [],_,.nil=>rfl
 | a::as,_,.cons r t=>by cases r;rw[cp,zp t]
theorem zq:∀(as:List Addr),Vals (as.map V.ref) (as.map Value.ref)
 | []=>.nil
 | a::as=>.cons rfl (zq as)
open Classical in
def aee (K:W.Frag)(neg:Bool):R2:=λx y H Q=>∃n d es,n<=60/\fK K H n d x/\fK K H n (.tup es) y/\Q (.bl (if neg then !decide (d∈es) else decide (d∈es))) H
open Classical in
theorem GC (d:Dt):∀es:List Dt,((dZ es).any λy=>PyData.eqv y (toP d))=decide (d∈es)
 | []=>by simp[dZ]
 | e::es=>by
  rw[dZ,mh,GC d es,Gy];by_cases z:e=d;.subst z;simp
  .have z':¬d=e:=λy=>z y.symm
   simp[z,z']
def abF {o i:Expr}{td ty:TE}(hu:X.A.units+1<cLine)(ho:QE X o td)(hi:QE X i ty)(hs:YH i):QE X (.Subscript o i pos) (aaM td ty):=⟨abv hu ho.out hi.out hs⟩
def Y_:QE X (.Dict [] [] pos) Vq:=⟨YM⟩
def aef:List V->Hp->VK->Prop:=λxs H Q=>∃l:List Nat,xs=[.str (S l)]/\l.length<=1000/\∀p,H p=none->Q (.ref p) (upd H p (.lst (Ts (l.map λc=>[c]))))
theorem Jf:∀(l:List Nat) (us:List Value),us.length=l.length->(∀(i c:Nat),l[i]?=some c->∃t,us[i]?=some (.str (S [c]) t))->Vals (Ts (l.map λc=>[c])) us
 | [],[],_,_=>.nil
 | [],_::_,h,_=>by simp at h
 | _::_,[],h,_=>by simp at h
 | c::l,u::us,h,k=>by obtain⟨t,e⟩:=k 0 c rfl;have e:u=.str (S [c]) t:=ax e;exact .cons ⟨t,e⟩ (Jf l us (by simpa using h) λi d hd=>k (i+1) d hd)
def Ej (hc:X.calm=true):fj X (.type "list") aef:=by
 intro aq s σ H xs us Q I r h;obtain⟨l,rfl,hl,q⟩:=h;obtain⟨u,rfl,ru⟩:=vals1 r;obtain⟨t,rfl⟩:=ru;have hz:l.length<=sizeLine:=ay (aM hl);refine call_list_str (I.ok.hd hc) (S l) t (λh' tk acc c' hk hD hacc=>?_) (by show l.toArray.size<=_;simpa using hz);have hsz:acc.size=l.length:=by rw[hacc.1];show l.toArray.size=_;simp
 refine⟨.ref s.heap.objs.size,_,I.laid (o:=.lst (Ts (l.map λc=>[c]))) (t':=tk) hk (ag _) ⟨by rw[aa,aa];exact hz,acc.toList,c',?_,by simpa using hD⟩,rfl,q _ (I.hok.fresh (ag _))⟩;refine Jf l acc.toList (by rw[bo];exact hsz) λi c hc=>?_;have hi:i<acc.size:=by rw[hsz];exact(ai.mp hc).1
 obtain⟨c2,t2,e1,e2⟩:=hacc.2 i acc[i] (by simp[hi]);have e1:l.toArray[i]?=some c2:=e1;rw[List.getElem?_toArray,hc]at e1;have e1:=ax e1;exact⟨t2,by rw[b9,bS hi,e2,e1];rfl⟩
end
end L2
namespace L2
open PySem PySem.Spec PyProof.Rows
def abG {X:Cx}{ix:Nat}{xn:Str}{GD spos:Pos}{elt iter tg:Expr}{ns N2:List Str}{f:St->St}{TP:V->Hp->(St->Prop)->Prop}{ifs:List Expr}{scope:Scope}{pos:Pos}{wi:TI}{tt:TT}{te:TE}(hN:X.N.Nodup)(hxi:X.N[ix]?=some xn)(BX:Loc X.env.scope xn)(hc:X.calm=true)(ok:fu X scope ns N2 f)(hi:PI X tg iter wi)(hg:∀cl C s₀ H₀ fp,IV (d8 X scope cl C (ns++N2) s₀ H₀ fp) tg ns.length TP)(ht:∀cl C s₀ H₀ fp,K6 (d8 X scope cl C (ns++N2) s₀ H₀ fp) ifs tt)(he:∀cl C s₀ H₀ fp,PE (d8 X scope cl C (ns++N2) s₀ H₀ fp) elt te)(hs:∀x,foldedSetIterable iter X.env x=pure x:=by intro _;rfl)(hsw:swapsWith (.ListComp elt [⟨tg,iter,ifs,0⟩] scope pos) (some (.Name xn GD)) spos.line X.env=pure true:=by rfl)(hf:X.fn xn=true\/X.env.scope.names.lookup xn=some .local:=by first|exact .inl rfl|exact .inr rfl|assumption):PS X (.Assign [.Name xn GD] (.ListComp elt [⟨tg,iter,ifs,0⟩] scope pos) spos) (Gq (yW f ns.length wi TP tt te) (nW ix)):=λaq s σ H De I h=>by
 rw[exec_Assign_Name_used _ _ _ _ hsw];refine ab (qS (ab (ab ?_)));refine bH (Q:=λ_ s'=>∃σ' H',aJ X aq σ' H' s'/\De.nx σ' H') ?_ λ_ s' hq=>ah (ah hq);refine yX (use:=some (assign (.Name xn GD) X.env)) hc ok hi hg ht he hs I h λD C H4 s5 m hn bk fC qn=>?_;refine tI (uq (bk s5.heap (Heap.SameBut.refl _ _)) hN hxi BX (show bJ (.ref D) (.ref D) from rfl) (λs6 I6 ⟨a,sb6,ha⟩ _=>?_) hf);have nCa:C≠a:=by
  rcases ha with z|z;.rw[z];exact fC.2.1
  .exact λy=>fC.2.2.2.2.1 _ _ z y.symm
 obtain⟨o,es,ep,e1,e2⟩:=hn;refine⟨m,⟨o,es,ep,(sb6.2 C nCa).trans e1,e2⟩,λh' sb=>⟨_,H4,I6.turned (t':=s6.toks) (λb o hb e=>(sb.2 b hb).trans e) fC.1 fC.2.1 fC.2.2.2.1 fC.2.2.2.2.1 fC.2.2.2.2.2,qn⟩⟩
def GF {X:Cx}{ix:Nat}{xn:Str}{GD spos:Pos}{elt iter tg:Expr}{ns N2:List Str}{f:St->St}{TP:V->Hp->(St->Prop)->Prop}{ifs:List Expr}{scope:Scope}{pos:Pos}{wi:TI}{tt:TT}{te:TE}(hN:X.N.Nodup)(hxi:X.N[ix]?=some xn)(BX:Loc X.env.scope xn)(hc:X.calm=true)(ok:fu X scope ns N2 f)(hi:QI X tg iter wi)(hg:∀cl C s₀ H₀ fp,IV (d8 X scope cl C (ns++N2) s₀ H₀ fp) tg ns.length TP)(ht:∀cl C s₀ H₀ fp,Vx (d8 X scope cl C (ns++N2) s₀ H₀ fp) ifs tt)(he:∀cl C s₀ H₀ fp,QE (d8 X scope cl C (ns++N2) s₀ H₀ fp) elt te)(hs:∀x,foldedSetIterable iter X.env x=pure x:=by intro _;rfl)(hsw:swapsWith (.ListComp elt [⟨tg,iter,ifs,0⟩] scope pos) (some (.Name xn GD)) spos.line X.env=pure true:=by rfl)(hf:X.fn xn=true\/X.env.scope.names.lookup xn=some .local:=by first|exact .inl rfl|exact .inr rfl|assumption):QS X (.Assign [.Name xn GD] (.ListComp elt [⟨tg,iter,ifs,0⟩] scope pos) spos) (Gq (yW f ns.length wi TP tt te) (nW ix)):=⟨abG hN hxi BX hc ok hi.out hg (λa b c d e=>(ht a b c d e).out) (λa b c d e=>(he a b c d e).out) hs hsw hf⟩
end L2
namespace L2
open PySem PySem.Spec PyProof.Rows PySem.W
section
variable {X:Cx}
theorem Ek:∀(m:AA) (l:List Value),l.length=m.length->(∀(j:Nat) (c:List Nat),m[j]?=some c->∃t,l[j]?=some (.str (S c) t))->Vals (Ts m) l
 | [],[],_,_=>.nil
 | [],_::_,h,_=>by simp at h
 | _::_,[],h,_=>by simp at h
 | c::m,a::l,h,k=>by
  obtain⟨t,e⟩:=k 0 c rfl;have e':a=.str (S c) t:=by simpa using e
  subst e';exact .cons ⟨t,rfl⟩ (Ek m l (by simpa using h) λj c hj=>k (j+1) c hj)
def aeg:List V->Hp->VK->Prop:=λxs H Q=>∃(d:Addr) (kvs:List (Key×V)) (ws:AA),xs=[.ref d]/\H d=some (.dK kvs)/\kvs.map (·.1)=ws.map bQ/\ws.length<=900/\∀p:Addr,H p=none->Q (.ref p) (upd H p (.lst (Ts ws)))
def SM (hc:X.calm=true):fj X (.type "list") aeg:=by
 intro aq s σ H xs us Q I r h;obtain⟨d,kvs,ws,rfl,hd,hk,h64,q⟩:=h;obtain⟨u,rfl,ru⟩:=vals1 r;cases ru;obtain⟨hz,lo,vs,rel,dd⟩:=Sd I.hok hd;obtain⟨ep,hat⟩:=dd.dictAt;have hkv:=KV.keys rel;have zj:vs.length=ws.length:=by have h1:=KV.length rel;have h2:=congrArg List.length hk;simp at h2;lia
 refine kdl_call (kdl_dict (knd:=cC X.prog X.w) (kvs:=vs) (ep:=ep) lo) (I.ok.hd hc) hat (by rw[zj];exact ay (aM vE)) λh' tk acc c' hk' hD hacc=>?_;have hv:Vals (Ts ws) acc.toList:=by
  refine Ek ws _ (by rw[bo,hacc.1,zj]) λj c hj=>?_;have hjl:j<acc.size:=by rw[hacc.1,zj];exact(ai.mp hj).1
  obtain⟨k,x,hx,hi⟩:=hacc.2 j acc[j] (by simp[hjl]);have hkj:(ws.map bQ)[j]?=some k:=by rw[<-hk,hkv,aw,hx];rfl
  rw[aw,hj]at hkj;have e:bQ c=k:=by simpa using hkj
  subst e;rcases dB (show jt (Sum.inr (S c)) acc[j]=true from hi) with⟨i,t,e1,_⟩|⟨y,t,e1,e2⟩;.cases e1
  .cases e1;exact⟨t,by rw[b9,bS hjl,e2]⟩
 exact⟨.ref s.heap.objs.size,_,I.laid (o:=.lst _) (t':=tk) hk' (ag _) ⟨by rw[aa];exact ay (aM vE),acc.toList,c',hv,by simpa using hD⟩,rfl,q _ (I.hok.fresh (ag _))⟩
end
end L2
namespace L2
open PySem PySem.Spec PyProof.Rows PySem.W
open AutoSeq1 (wpAny_loadPart')
section
variable {prog:Program}{w:World}{A:Around}{E:AB}{s:Shared}
def Za (t:s.heap.IsTupleIter u a i)(p:s.heap.IsTuple a g)(hx:g[i]?=some x)(q:∀h',h'.IsTupleIter u a (i+1)->Heap.SameBut u s.heap h'->Q x {s with heap:=h' }):wpAny (model prog w) A (Builtin.SmallTypes.nextOf (.ref u)) Q E s:=by obtain⟨o,ho,hc,hd⟩:=id t;obtain⟨ol,hol,_,nl,hdl⟩:=p;unfold Builtin.SmallTypes.nextOf;refine ab (eD (name:=Str.ofString "__next__") t.typeIs kF (dA kF t.typeIs F.entry_tuple_iterator_next ?_ (F.args_tuple_iterator_next_1 _)));show wpAny _ _ (field (.ref u) 0 >>= _) _ _ s;refine ab (f_ ho hd (x:=.ref a) rfl ?_);show wpAny _ _ (if (Value.ref a==Value.none)=true then _ else _) _ _ s;rw[if_neg (show ¬((Value.ref a==Value.none)=true) from bX)];show wpAny _ _ (field (.ref u) 1 >>= _) _ _ s;refine ab (f_ ho hd (x:=.int i 0) rfl ?_);show wpAny _ _ (seqItems? (.ref a) >>= _) _ _ s;refine ab (fN hol hdl ?_);simp only[du,hx];refine ab (ii ho hd vF (ah ⟨x,rfl,ah (q _ ?_ (fF ..))⟩));exact⟨_,fc _ ho (kC (eM hd _)),(pT ..).trans hc,by rw[eM hd];simp[rawInt]⟩
def Qp (hh:A.handled=none)(t:s.heap.IsTupleIter u a i)(p:s.heap.IsTuple a g)(hx:g[i]?=none)(q:∀h' e,Heap.ExtBut u s.heap h'->(∃o,h'.get? e=some o/\o.cls=.type "StopIteration")->E (.ref e) {s with heap:=h' }):wpAny (model prog w) A (Builtin.SmallTypes.nextOf (.ref u)) Q E s:=by
 obtain⟨o,ho,hc,hd⟩:=id t;obtain⟨ol,hol,_,nl,hdl⟩:=p;unfold Builtin.SmallTypes.nextOf;refine ab (eD (name:=Str.ofString "__next__") t.typeIs kF (dA kF t.typeIs F.entry_tuple_iterator_next ?_ (F.args_tuple_iterator_next_1 _)));show wpAny _ _ (field (.ref u) 0 >>= _) _ _ s;refine ab (f_ ho hd (x:=.ref a) rfl ?_);show wpAny _ _ (if (Value.ref a==Value.none)=true then _ else _) _ _ s;rw[if_neg (show ¬((Value.ref a==Value.none)=true) from bX)];show wpAny _ _ (field (.ref u) 1 >>= _) _ _ s;refine ab (f_ ho hd (x:=.int i 0) rfl ?_);show wpAny _ _ (seqItems? (.ref a) >>= _) _ _ s;refine ab (fN hol hdl ?_);simp only[du,hx]
 first|refine ab (ge (ab (ii ho hd vF ?_)))|refine ab (ii ho hd vF ?_)
 show wpAny _ _ (newExc (.type "StopIteration") [] >>= _) _ _ _;refine ab ?_;simp only[newExc,newTuple];refine ab (fI ?_ wd);refine ab (m:=firstArgMember _ _) (mM (a:=Value.none) (by first|rfl|(simp only[firstArgMember];rfl)) ?_);refine fI ?_ wd;simp only[raiseNew];refine ab (wpAny_handled ?_)
 first|rw[show A.in1.handled=none from hh]|rw[hh]
 refine ab (ah (wpAny_throw ?_));exact q _ _ (((fF ..).extBut.push _).push _) ⟨_,aS _ rfl,rfl⟩
def aeh (hh:A.handled=none)(u a:Addr)(hne:a≠u)(g:Array Value):Draws prog w A u [u,a] g.size (λi v=>g[i]?=some v) (λi h=>h.IsTupleIter u a i/\h.IsTuple a g) where
 live:=λ_ _ st=>let ⟨o,ho,_⟩:=st.1;⟨o,ho⟩
 frame:=λ_ _ _ st hk=>⟨st.1.at λo e=>hk u vF o e,let ⟨o,ho,r⟩:=st.2;⟨o,hk a vF o ho,r⟩⟩
 item:=λi s Q E hi st hQ=>by refine Za st.1 st.2 (x:=g[i]) (by simp[hi]) λh' hit' hs'=>?_;exact hQ _ h' s.toks (by simp[hi]) ⟨hit',let ⟨o,ho,r⟩:=st.2;⟨o,hs'.extBut a o hne ho,r⟩⟩ hs'
 done:=λs Q E st hE=>Qp hh st.1 st.2 vF hE
def newT (a)(g)(n)(dct)(sl):Meets (Builtin.«enumerate.__new__» ⟨[.type "enumerate",.ref a],[]⟩) (λ_ R s=>s.heap.get? a=some {cls:=.type "tuple",dict:=dct,data:=.seq g n,slots:=sl}/\
   R (.ok (.ret (.ref (s.heap.push {cls:=.type "tuple_iterator",data:=.fields #[.ref a,.int 0 0]}).objs.size)))
    {s with heap:=(s.heap.push {cls:=.type "tuple_iterator",data:=.fields #[.ref a,.int 0 0]}).push {cls:=.type "enumerate",data:=.fields #[.none,.bool false,.ref s.heap.objs.size,rawInt 0,.none,.none]} }):=
 .of_wp λprog w A R s h=>by
  obtain⟨hp,g,d,tk,os⟩:=s;obtain⟨hl,h⟩:=h;have hsub:=sub_enumerate;have hL:Heap.IsTuple (Shared.heap ⟨hp,g,d,tk,os⟩) a _:=⟨_,hl,rfl,n,rfl⟩
  wp_walk using se hl
  refine wpAny_stack_any λst=>ah ?_
  split
  .rename_i c _ _ _ _ _;cases(c==Value.type "enumerate")
   .wp_walk using se hl,mx hL
    exact⟨_,rfl,h⟩
   .wp_walk using se hl,mx hL
    exact⟨_,rfl,h⟩
  .wp_walk using se hl,mx hL
   exact⟨_,rfl,h⟩
def afU (hL:s.heap.IsTuple a g)(q:∀h',IsEnum h' (s.heap.objs.size+1) s.heap.objs.size 0 .none->h'.IsTupleIter s.heap.objs.size a 0->h'.objs.size=s.heap.objs.size+2->(∀b o,s.heap.get? b=some o->h'.get? b=some o)->Q (.ref (s.heap.objs.size+1)) {s with heap:=h' }):wpAny (model prog w) A (call (.type "enumerate") [.ref a]) Q E s:=by
 obtain⟨⟨c,dct,dt,sl⟩,hl,hc,n,hd⟩:=hL;replace hc:c=.type "tuple":=hc;replace hd:dt=.seq g n:=hd;subst hc hd;refine callType_new oz vS (F.typeCall_enumerate_1 _) (F.newCall_enumerate_1 _) (λobj=>F.args_object_init_2 obj _) F.entry_enumerate_new (newT a g n dct sl) ⟨hl,?_⟩;have hz:(s.heap.push {cls:=.type "tuple_iterator",data:=.fields #[.ref a,.int 0 0]}).objs.size=s.heap.objs.size+1:=ef ..;show _/\_;rw[hz];have he:IsEnum ((s.heap.push {cls:=.type "tuple_iterator",data:=.fields #[.ref a,.int 0 0]}).push {cls:=.type "enumerate",data:=.fields #[.none,.bool false,.ref s.heap.objs.size,rawInt 0,.none,.none]}) (s.heap.objs.size+1) s.heap.objs.size 0 .none:=by have:=aS (s.heap.push {cls:=.type "tuple_iterator",data:=.fields #[.ref a,.int 0 0]}) (o:={cls:=.type "enumerate",data:=.fields #[.none,.bool false,.ref s.heap.objs.size,rawInt 0,.none,.none]}) rfl;rw[hz]at this;exact this
 exact⟨⟨_,he,rfl⟩,q _ he ⟨_,af _ (aS _ rfl),rfl,rfl⟩ (by rw[ef,hz]) λb o x=>af _ (af _ x)⟩
end
section
variable {X:Cx}{aq:AC}{σ:St}{H:Hp}{s:Shared}{h':Heap}
def aJ.GJ {t':Nat}{fp:List Addr}(I:aJ X aq σ H s)(k:∀b o,b∉fp->s.heap.get? b=some o->h'.get? b=some o)(hf:∀b∈fp,nu X aq H b):aJ X aq σ H {s with heap:=h',toks:=t' }:=by
 have U3:∀b u,H b=some u->b∉fp:=λb u e z=>by rw[(hf b z).1]at e;cases e
 refine I.step (g':=s.gens) (d':=s.drawn) (ch:=fp) (λb hb=>?_) (λb o _ _ hc e _=>k b o hc e) (λb o _ _ hc e _=>⟨o.slots,k b o hc e⟩) (λ_ _ _ _ n=>n)
  (λb o hc e=>⟨o,k b o hc e⟩) (λ_ _ e=>e) (λ_ _ _ e=>e) (λb ps e=>⟨#[],by rw[e];simp⟩) (λm hm=>?_) (λb u e=>?_) I.bare
 .obtain⟨f0,f1,f2,f3,f4,f5⟩:=hf b hb;exact⟨f3,f1,f4,f5⟩
 .obtain⟨o,es,ep,ho,r⟩:=hm;exact⟨o,es,ep,k _ o (λz=>(hf _ z).2.1 rfl) ho,r⟩
 .refine(I.hok b u e).stay (λc v hc q=>k c v ?_ q) (λ_ q=>q) λ_ _ q=>q
  rcases hc with z|z;.rw[z];exact U3 b u e
  .exact U3 c _ z
def aJ.pair {e it:Addr}{i tk:Nat}{x:V}{u:Value}{h1 h2:Heap}(I:aJ X aq σ H s)(hf:∀b∈[e,it],nu X aq H b)(le:e<s.heap.objs.size)(li:it<s.heap.objs.size)(rx:bJ x u)(hT:h1.get? s.heap.objs.size=some {cls:=.type "tuple",data:=.seq #[.int i tk,u]})(hk:∀b o,b≠e->b≠it->s.heap.get? b=some o->h1.get? b=some o)(hs:Heap.SameBut e h1 h2):aJ X aq σ (upd H s.heap.objs.size (.tup [.int i,x])) {s with heap:=h2,toks:=tk+1}/\∀b∈[e,it],upd H s.heap.objs.size (.tup [.int i,x]) b=none:=by
 have I2:aJ X aq σ (upd H s.heap.objs.size (.tup [.int i,x])) {s with heap:=s.heap.push {cls:=.type "tuple",data:=.seq #[.int i tk,u]},toks:=tk+1}:=I.laid (λb v e=>af _ e) (ag _) ⟨zsz 2,[.int i tk,u],.cons ⟨tk,rfl⟩ (.cons rx .nil),⟨_,aS _ rfl,rfl,_,rfl⟩⟩
 have ne:∀b∈[e,it],b≠s.heap.objs.size:=λb hb=>by
  rcases bb.mp hb with z|z;.rw[z];exact be le
  .rw[ap.mp z];exact be li
 have fr:∀b∈[e,it],upd H s.heap.objs.size (.tup [.int i,x]) b=none:=λb hb=>by rw[bw (ne b hb)];exact(hf b hb).1
 have I3:=aJ.GJ (s:={s with heap:=s.heap.push {cls:=.type "tuple",data:=.seq #[.int i tk,u]},toks:=tk+1}) (h':=h2) (fp:=[e,it]) (t':=tk+1) I2 (λb o hb g=>?_) λb hb=>?_
 .exact⟨I3,fr⟩
 .have nbe:b≠e:=λz=>hb (by simp[z])
  have nbi:b≠it:=λz=>hb (by simp[z]);rw[hs.2 b nbe];rcases Heap.get?_push_cases g with⟨z1,z2⟩|z
  .rw[z1,z2];exact hT
  .exact hk b o nbe nbi z
 .obtain⟨f0,f1,f2,f3,f4,f5⟩:=hf b hb;exact⟨fr b hb,f1,f2,f3,f4,f5⟩
end
def SN (K:W.Frag)(a:Addr):It:=⟨λi H=>∃xs x,aU K H a xs/\xs[i]?=some x,λi H v H'=>∃T y,H T=none/\v=.ref T/\(∀xs,aU K H a xs->xs[i]?=some y)/\H'=upd H T (.tup [.int i,y]),λi H=>∃xs,aU K H a xs/\xs.length<=i⟩
def GK (l:List Nat):It:=⟨λi _=>i<l.length,λi H v H'=>∃T c,H T=none/\v=.ref T/\l[i]?=some c/\H'=upd H T (.tup [.int i,.str (S [c])]),λi _=>l.length<=i⟩
section
variable {prog:Program}{w:World}{A:Around}{E:AB}{s:Shared}
def Ow {it:Addr}{fp:List Addr}{n:Nat}{Pv:Nat->Value->Prop}{St:Nat->Heap->Prop}(D:Draws prog w A it fp n Pv St)(k:Nat):Draws prog w A it fp (k+n) (λj v=>∃i,j=k+i/\Pv i v) (λj h=>∃i,j=k+i/\St i h) where
 live:=λj h ⟨i,_,st⟩=>D.live i h st
 frame:=λj h h' ⟨i,e,st⟩ hk=>⟨i,e,D.frame i h h' st hk⟩
 item:=λj s Q E hj ⟨i,e,st⟩ hQ=>by subst e;exact D.item i s Q E (by simp_all) st λv h' tk hp st' hs'=>hQ v h' tk ⟨i,rfl,hp⟩ ⟨i+1,rfl,st'⟩ hs'
 done:=λs Q E ⟨i,e,st⟩ hE=>by
  have:i=n:=by lia
  subst this;exact D.done s Q E st hE
end
def zu (l:List Nat)(k:Nat):It:=⟨λi _=>i<l.length,λi H v H'=>∃T c,H T=none/\v=.ref T/\l[i]?=some c/\H'=upd H T (.tup [.int ((k+i:Nat):Int),.str (S [c])]),λi _=>l.length<=i⟩
def El {P:Program}{w:World}{K:W.Frag}{elts:List Expr}{x1}{pos:Pos}{ty:String}(hty:ty="str_ascii_iterator"\/ty="str_iterator")(l:List Nat)(k:Nat)(t:Tok)(it e:Addr):Turn P w K (.Tuple elts x1 pos) (zu l k) [e,it] e (λi h=>e≠it/\i<=l.length/\(∃old,IsEnum h e it ((k+i:Nat):Int) old)/\h.IsStrIter it ty (S l) t i) where
 mem:=by simp
 obj:=λi h st b hb=>by
  obtain⟨_,_,⟨old,he⟩,o,ho,_,hd⟩:=st;rcases bb.mp hb with z|z;.exact⟨_,by rw[z];exact he,λv y=>by cases y⟩
  .exact⟨o,by rw[ap.mp z];exact ho,λv y=>by rw[hd]at y;cases y⟩
 keep:=λi h h' st k=>by obtain⟨n,le,⟨old,he⟩,o,ho,r⟩:=st;exact⟨n,le,⟨old,k e vF _ he⟩,o,k it vF o ho,r⟩
 item:=by
  intro X hP hw hK hc i aq s σ H E I hf st hg;subst hP hw hK;obtain⟨ne,le,⟨old,he⟩,hs⟩:=st;have hh:X.A.in1.handled=none:=by simp[I.ok.hd hc]
  have hg':k+i<k+(S l).cps.size:=sK hg k;have fin:∀(D:Draws X.prog X.w X.A.in1 it [it] (S l).cps.size (λi v=>∃c u,(S l).cps[i]?=some c/\v=.str ⟨#[c]⟩ u) (λi h=>h.IsStrIter it ty (S l) t i)),
    wpAny (model X.prog X.w) X.A (pyNext (.ref e)) (λr s1=>∃u,r=some u/\wpAny (model X.prog X.w) X.A (letOwnedTupleGo (.Tuple elts x1 pos) (.ref e) u) (λ_ s2=>∃x H',aJ X aq σ H' s2/\bJ x u/\(zu l k).Ij i H x H'/\(e≠it/\i+1<=l.length/\(∃old,IsEnum s2.heap e it ((k+(i+1):Nat):Int) old)/\s2.heap.IsStrIter it ty (S l) t (i+1))/\∀b∈[e,it],H' b=none) E s1) E s:=by
   intro D;refine pE (Ow D k) he ⟨i,rfl,hs⟩ hg' ne (by simp[ne]) λx h' tk hP ho hs' hT hsz hk=>?_;obtain⟨i',ei,c,u,hc',rfl⟩:=hP;obtain⟨i'',ei2,hs'⟩:=hs';obtain rfl:i'=i:=by lia
   obtain rfl:i''=i'+1:=by lia
   refine⟨_,rfl,nS ho λh2 he2 hs2=>?_⟩;obtain⟨o,ho2,r2⟩:=hs';obtain⟨oi,hoi,_⟩:=id hs;obtain⟨I3,fr⟩:=aJ.pair (i:=k+i') (x:=.str (S [c])) I hf (a7 he) (a7 hoi) ⟨u,rfl⟩ hT hk hs2;refine⟨.ref s.heap.objs.size,_,I3,rfl,⟨s.heap.objs.size,c,I.hok.fresh (ag _),rfl,by simpa [S] using hc',rfl⟩,⟨ne,hg,⟨_,by simpa [Int.add_assoc] using he2⟩,o,(hs2.2 it (ie ne)).trans ho2,r2⟩,fr⟩
  rcases hty with rfl|rfl;.exact fin (Draws.strAscii hh it (S l) t)
  .exact fin (Draws.strWide hh it (S l) t)
 done:=by
  intro X hP hw hK hc i aq s σ H E I hf st hg;subst hP hw hK;obtain⟨ne,le,⟨old,he⟩,hs⟩:=st;have hh:X.A.in1.handled=none:=by simp[I.ok.hd hc]
  have hi:i=(S l).cps.size:=vj le hg;have hs':=hs;rw[hi]at hs';obtain⟨f0,f1,f2,f3,f4,f5⟩:=hf it vF;rcases hty with rfl|rfl
  .exact wpAny_pyNext_enum_endD (Draws.strAscii hh it (S l) t) he hs' λh' eb=>⟨rfl,I.turned (t':=s.toks) (λb o hb e=>eb b o hb e) f0 f1 f3 f4 f5⟩
  .exact wpAny_pyNext_enum_endD (Draws.strWide hh it (S l) t) he hs' λh' eb=>⟨rfl,I.turned (t':=s.toks) (λb o hb e=>eb b o hb e) f0 f1 f3 f4 f5⟩
 self:=λA i s Q E st h=>by obtain⟨_,_,⟨old,he⟩,_⟩:=st;exact iX he h
def SQ {K:W.Frag}{elts:List Expr}{x1}{ty:String}(hty:ty="str_ascii_iterator"\/ty="str_iterator")(l:List Nat)(t:Tok)(it e:Addr):Turn P w K (.Tuple elts x1 pos) (GK l) [e,it] e (λi h=>e≠it/\i<=l.length/\(∃old,IsEnum h e it i old)/\h.IsStrIter it ty (S l) t i):=by
 have h:=El (P:=P) (w:=w) (K:=K) (elts:=elts) (x1:=x1) (pos:=pos) hty l 0 t it e;have e1:zu l 0=GK l:=by unfold zu GK;simp only[gt]
 simp only[gt]at h;rw[e1]at h;exact h
def SX {P:Program}{w:World}{K:W.Frag}{elts:List Expr}{x1}{pos:Pos}(a it e:Addr):Turn P w K (.Tuple elts x1 pos) (SN K a) [e,it] e (λi h=>(e≠it/\a≠e/\a≠it)/\(∃old,IsEnum h e it i old)/\h.IsTupleIter it a i) where
 mem:=by simp
 obj:=λi h st b hb=>by
  obtain⟨_,⟨old,he⟩,o,ho,_,hd⟩:=st;rcases bb.mp hb with z|z;.exact⟨_,by rw[z];exact he,λv y=>by cases y⟩
  .exact⟨o,by rw[ap.mp z];exact ho,λv y=>by rw[hd]at y;cases y⟩
 keep:=λi h h' st k=>by obtain⟨n,⟨old,he⟩,o,ho,r⟩:=st;exact⟨n,⟨old,k e vF _ he⟩,o,k it vF o ho,r⟩
 item:=by
  intro X hP hw hK hc i aq s σ H E I hf st hg;subst hP hw hK;obtain⟨⟨ne,Lg,Lh⟩,⟨old,he⟩,hs⟩:=st;obtain⟨xs,x,hq,hx⟩:=hg;obtain⟨its,rv,p,hz⟩:=I.tuple hq;obtain⟨v,hv,ru⟩:=rv.get hx;have hh:X.A.in1.handled=none:=by simp[I.ok.hd hc]
  have hit:i<its.toArray.size:=by have:=(ai.mp hv).1;simpa using this
  have hpa:s.heap.IsTuple a its.toArray:=p;refine pE (aeh hh it a Lh its.toArray) he ⟨hs,hpa⟩ hit ne (by simp[ne,Lg.symm]) λy h' tk hP ho hs' hT hsz hk=>?_;refine⟨_,rfl,nS ho λh2 he2 hs2=>?_⟩;obtain⟨⟨o,ho2,r2⟩,_⟩:=hs';obtain⟨oi,hoi,_⟩:=id hs;have ey:y=v:=by
   have h1:its[i]?=some y:=by simpa using hP
   rw[hv]at h1;exact(ax h1).symm
  subst ey;obtain⟨I3,fr⟩:=aJ.pair (x:=x) I hf (a7 he) (a7 hoi) ru hT hk hs2;refine⟨.ref s.heap.objs.size,_,I3,rfl,⟨s.heap.objs.size,x,I.hok.fresh (ag _),rfl,λys hy=>by rw[I.Ig hy hq];exact hx,rfl⟩,⟨⟨ne,Lg,Lh⟩,⟨_,by simpa using he2⟩,o,(hs2.2 it (ie ne)).trans ho2,r2⟩,fr⟩
 done:=by
  intro X hP hw hK hc i aq s σ H E I hf st hg;subst hP hw hK;obtain⟨⟨ne,Lg,Lh⟩,⟨old,he⟩,hs⟩:=st;obtain⟨xs,hq,hx⟩:=hg;obtain⟨its,rv,p,hz⟩:=I.tuple hq;have hl:=rv.length;have hh:X.A.in1.handled=none:=by simp[I.ok.hd hc]
  obtain⟨f0,f1,f2,f3,f4,f5⟩:=hf it vF;have hT:s.TypeIs (.ref e) "enumerate":=⟨_,he,rfl⟩
  unfold pyNext;refine ab (i8 (eD (name:=Str.ofString "__next__") hT nt (dA nt hT F.entry_enumerate_next ?_ (F.args_enumerate_next_1 _))));show wpAny _ _ (field (.ref e) 2 >>= _) _ _ _;refine ab (f_ he rfl (x:=.ref it) rfl ?_);refine ab (Qp hh hs (show s.heap.IsTuple a its.toArray from p) (by simp;simp_all) λh' x he' hx'=>?_);obtain⟨o,ho,hc'⟩:=hx';refine ab (gu (T:="StopIteration") (b:=true) ⟨o,ho,hc'⟩ isSubtype_stop ?_);exact ah ⟨rfl,I.turned (t':=s.toks) (λb o hb e=>he' b o hb e) f0 f1 f3 f4 f5⟩
 self:=λA i s Q E st h=>by obtain⟨_,⟨old,he⟩,_⟩:=st;exact iX he h
section
variable {X:Cx}{elts:List Expr}{x1:Nat}{tp:Pos}
def aei (ta:TA):TI:=λσ H R=>ta σ H λvs H1=>∃l,vs=[.str (S l)]/\R (GK l) H1
def aej (K:W.Frag)(ta:TA):TI:=λσ H R=>ta σ H λvs H1=>∃a,vs=[.ref a]/\(∃xs,aU K H1 a xs)/\R (SN K a) H1
def Li (hg:Gl X "enumerate")(hm:X.mg "enumerate"=none)(ha:QA X [a] ta)(hs:starEach [a] X.env=[(false,eval a X.env)]:=by rfl):QI X (.Tuple elts x1 tp) (.Call (.Name "enumerate" p) [a] [] pos) (aei ta):=⟨by
 intro aq s σ H R I h;refine Call_ (nU I hg hm boot_enumerate (f8 (bH (ha.out pos aq s σ H _ I h) λus s1 zz=>?_) hs rfl));obtain⟨vs,H1,I1,r1,q1⟩:=zz;obtain⟨l,e,q⟩:=q1;subst e;cases r1 with
 | cons r rr=>
  cases rr;obtain⟨t,rfl⟩:=r;have hty:strIterType (S l)="str_ascii_iterator"\/strIterType (S l)="str_iterator":=by unfold strIterType;split <;> simp
  refine call_enumerate_str λh' he hit hsz hk=>iX he ?_;refine⟨s1.heap.objs.size+1,[s1.heap.objs.size+1,s1.heap.objs.size],_,_,H1,rfl,I1.kept (t':=s1.toks) hk,SQ hty l t s1.heap.objs.size _,⟨rc _,cw _,⟨_,he⟩,hit⟩,λb hb=>?_,q⟩;rcases bb.mp hb with z|z
  .rw[z];exact I1.mC (fA _) (I1.hok.fresh (fA _))
  .rw[ap.mp z];exact I1.mC (ag _) (I1.hok.fresh (ag _))⟩
def Lj (hg:Gl X "enumerate")(hm:X.mg "enumerate"=none)(ha:QA X [a] ta)(hs:starEach [a] X.env=[(false,eval a X.env)]:=by rfl):QI X (.Tuple elts x1 tp) (.Call (.Name "enumerate" p) [a] [] pos) (aej X.K ta):=⟨by
 intro aq s σ H R I h;refine Call_ (nU I hg hm boot_enumerate (f8 (bH (ha.out pos aq s σ H _ I h) λus s1 zz=>?_) hs rfl));obtain⟨vs,H1,I1,r1,q1⟩:=zz;obtain⟨a,e,⟨xs,hq⟩,q⟩:=q1;subst e;cases r1 with
 | cons r rr=>
  cases rr;cases r;obtain⟨its,rv,pp,hz⟩:=I1.tuple hq;have hlt:a<s1.heap.objs.size:=by
   obtain⟨o,ho,_⟩:=(show s1.heap.IsTuple a its.toArray from pp)
   exact a7 ho
  refine afU (show s1.heap.IsTuple a its.toArray from pp) λh' he hit hsz hk=>iX he ?_;refine⟨s1.heap.objs.size+1,[s1.heap.objs.size+1,s1.heap.objs.size],_,_,H1,rfl,I1.kept (t':=s1.toks) hk,SX a s1.heap.objs.size _,⟨⟨rc _,be (eK hlt),be hlt⟩,⟨_,he⟩,hit⟩,λb hb=>?_,q⟩;rcases bb.mp hb with z|z
  .rw[z];exact I1.mC (fA _) (I1.hok.fresh (fA _))
  .rw[ap.mp z];exact I1.mC (ag _) (I1.hok.fresh (ag _))⟩
end
def VG {K:W.Frag}{a:Addr}{xs:List V}{g:TG}{tb:TS}{D:Ends}{σ:St}{H:Hp}(Pv:Nat->St->Hp->Prop)(h0:Pv 0 σ H)(hl:∀i σ H,i<=xs.length->Pv i σ H->aU K H a xs)(hs:∀i x σ H T,xs[i]?=some x->Pv i σ H->H T=none->g (.ref T) σ (upd H T (.tup [.int i,x])) λσ2 H2=>tb {D with nx:=Pv (i+1),ct:=Pv (i+1),bk:=D.nx} σ2 H2)(hd:∀σ H,Pv xs.length σ H->D.nx σ H):yL (SN K a) g tb D σ H:=Gr xs.length Pv h0 (λi σ H h p=>⟨⟨xs,xs[i],hl i σ H (ay h) p,by simp[h]⟩,λx H' y=>by obtain⟨T,y,hT,rfl,hy,rfl⟩:=y;exact hs i y σ _ T (hy xs (hl i σ H (ay h) p)) p hT⟩) λσ H p=>⟨⟨xs,hl _ σ H (ag _) p,ag _⟩,hd σ H p⟩
def VH {l:List Nat}{f:St->St}{tt:TT}{KT:W.Frag}{D:Addr}{te:TE}{σ:St}{H:Hp}{R:Hp->Prop}(Pv:Nat->List V->Hp->Prop)(h0:Pv 0 [] (upd H D (.lst [])))(hs:∀i c ys H T,l[i]?=some c->Pv i ys H->H T=none->uy l.length i D (λv H Q=>∃a p q,v=.ref a/\aU KT H a [p,q]/\Q [some p,some q]) f σ tt te (.ref T) (upd H T (.tup [.int i,.str (S [c])])) ys (Pv (i+1)))(hd:∀ys H,Pv l.length ys H->R H):qO (GK l) D H R (BR (λv H Q=>∃a p q,v=.ref a/\aU KT H a [p,q]/\Q [some p,some q]) f σ tt te):=Cv l.length Pv h0 (λi ys H h p=>⟨h,λx H' y=>by obtain⟨T,c,hT,rfl,hc,rfl⟩:=y;exact hs i c ys H T hc p hT⟩) λys H p=>⟨ag _,hd ys H p⟩
section
variable {X:Cx}
def Lk (hc:X.calm=true):fj X (.builtin "any") (λxs H Q=>∃(p:Addr) (bs:List Bool),xs=[.ref p]/\aQ X.K H p (bs.map V.bl)/\Q (.bl (bs.any id)) H):=by
 intro aq s σ H xs us Q I r h;obtain⟨p,bs,rfl,hq,q⟩:=h;obtain⟨u,rfl,ru⟩:=vals1 r;cases ru;obtain⟨its,rv,pl,hz⟩:=I.list hq;have hne:p≠s.heap.objs.size:=by obtain⟨o,ho,_⟩:=pl.isList;exact be (a7 ho)
 have hb:∀(i:Nat) (v:Value),its[i]?=some v->v=.bool (bs.getD i false):=λi v hv=>by
  have bW:=rv.length;have hi:i<bs.length:=by have:=(ai.mp hv).1;simp at bW;simp_all
  obtain⟨u,hu,ru⟩:=rv.get (i:=i) (x:=.bl bs[i]) (by simp[hi]);rw[hv]at hu;cases hu;cases ru;simp[List.getD,hi]
 refine call_any_walk (kH pl.isList ?_);refine⟨s.heap.objs.size,_,_,_,_,_,λi=>bs.getD i false,rfl,Walks.list (A:=X.A.in1) (I.ok.hd hc) s.heap.objs.size p hne its.toArray,⟨⟨_,aS _ rfl,rfl,rfl⟩,pl.isList.at λo e=>af _ e⟩,?_,λh' tk kk=>?_⟩
 .intro i v s' Q' E' hv hq';have e:=hb i v (by simpa using hv);subst e;exact ee hq'
 .have I1:aJ X aq σ H {s with heap:=h',toks:=tk}:=I.kept λb o e=>kk b o (by
   intro hm;have:b=s.heap.objs.size:=by simpa using hm
   subst this;exact absurd (a7 e) (hG _)) (af _ e)
  refine⟨.bl (bs.any id),H,I1,?_,q⟩;show Value.bool _=Value.bool _;have bW:its.toArray.size=bs.length:=by have:=rv.length;simp at this;simp[this]
  rw[bW];congr 1;have key:∀bs:List Bool,(List.range bs.length).any (λi=>bs.getD i false)=bs.any id:=λbs=>by
   rw[ku,uu,uu];constructor
   .rintro⟨i,hi,h⟩;have hi':=bE.mp hi;exact⟨bs[i],a8 _,by simpa [List.getD,hi'] using h⟩
   .rintro⟨x,hx,h⟩;obtain⟨i,hi,rfl⟩:=cx.mp hx;exact⟨i,bE.mpr hi,by simpa [List.getD,hi] using h⟩
  exact key bs
end
structure ZA (z ti to u v a b:Addr):Prop where
 q1:ti≠z
 q2:to≠z
 q3:u≠z
 q4:v≠z
 q5:ti≠to
 q6:ti≠u
 q7:ti≠v
 q8:to≠u
 q9:to≠v
 p1:u≠v
 p2:a≠z
 p3:a≠to
 p4:a≠u
 p5:a≠v
 p6:b≠z
 p7:b≠to
 p8:b≠u
 p9:b≠v
section
variable {X:Cx}{aq:AC}{σ:St}{H:Hp}{s:Shared}
def aJ.afV {fp:List Addr}{tk:Nat}{x y:V}{p q:Value}{h2:Heap}(I:aJ X aq σ H s)(hf:∀b∈fp,nu X aq H b)(lt:∀b∈fp,b<s.heap.objs.size)(rx:bJ x p)(ry:bJ y q)(hT:h2.get? s.heap.objs.size=some {cls:=.type "tuple",data:=.seq #[p,q]})(hk:∀b o,b∉fp->s.heap.get? b=some o->h2.get? b=some o):aJ X aq σ (upd H s.heap.objs.size (.tup [x,y])) {s with heap:=h2,toks:=tk}/\∀b∈fp,upd H s.heap.objs.size (.tup [x,y]) b=none:=by
 have I2:aJ X aq σ (upd H s.heap.objs.size (.tup [x,y])) {s with heap:=s.heap.push {cls:=.type "tuple",data:=.seq #[p,q]},toks:=tk}:=I.laid (λb v e=>af _ e) (ag _) ⟨zsz 2,[p,q],.cons rx (.cons ry .nil),⟨_,aS _ rfl,rfl,_,rfl⟩⟩
 have fr:∀b∈fp,upd H s.heap.objs.size (.tup [x,y]) b=none:=λb hb=>by rw[bw (be (lt b hb))];exact(hf b hb).1
 have I3:=aJ.GJ (s:={s with heap:=s.heap.push {cls:=.type "tuple",data:=.seq #[p,q]},toks:=tk}) (h':=h2) (fp:=fp) (t':=tk) I2 (λb o hb g=>?_) λb hb=>?_
 .exact⟨I3,fr⟩
 .rcases Heap.get?_push_cases g with⟨z1,z2⟩|z;.rw[z1,z2];exact hT
  .exact hk b o hb z
 .obtain⟨f0,f1,f2,f3,f4,f5⟩:=hf b hb;exact⟨fr b hb,f1,f2,f3,f4,f5⟩
def VJ:bootBuiltins "zip"=some (.type "zip"):=by decide +kernel
end
end L2
namespace HT
open PySem PySem.Spec PyProof.Rows
end HT
namespace L2
open PySem PySem.Spec PyProof.Rows PySem.W
section
variable {a:Addr}
variable {X:Cx}
variable {o e f:Expr}{apos cpos:Pos}{td ty tx:TE}
abbrev zl1 (h:Heap)(a:Addr):Heap:=h.push {cls:=.type "list_iterator",data:=.fields #[.ref a,.int 0 0]}
open Classical in
def afW (K:W.Frag)(neg:Bool):R2:=λx y H Q=>∃n d es,n<=60/\fK K H n d x/\fK K H n (.lst es) y/\Q (.bl (if neg then !decide (d∈es) else decide (d∈es))) H
def abH (hu:X.A.units+64<cLine):eX X (compareOp .In) (afW X.K false):=by intro aq s σ H x y v u Q I rx ry h;obtain⟨n,d,es,hn,hd,he,q⟩:=h;obtain⟨as,ra⟩:=hd.reads I rx;obtain⟨bs,rb⟩:=he.reads I ry;have l1:=hd.lay;have l2:=he.lay;rw[toP]at rb;simp only[toP,PyData.canLay0,PyData.depth]at l2;refine SeqAt.in_list_reads rb ra l2.1 l1.1 (by have:=ul (PyData.depthAll (dZ es)) (toP d).depth;lia) ⟨.bl _,H,I,rfl,?_⟩;rw[GC];exact q
def Zb (hu:X.A.units+1<cLine)(ho:QE X o td)(he:QE X e ty)(hf:QE X f tx)(m:M2 X o "get" apos e f cpos):QE X (.Call (.Attribute o "get" apos) [e,f] [] cpos) (Vr td ty tx):=⟨YQ hu ho.out he.out hf.out m⟩
structure KDict (P:Program)(w:World)(K:W.Frag)(a:Addr)(kvs:List (Key×V)):Prop where
 z:(a==sysModules)=false
 ex:∃o vs,K.lookup a=some o/\KV kvs vs/\o.IsDictOf (cC P w) vs
def aek (P:Program)(w:World)(K:W.Frag)(td ty tx:TE):TE:=λσ H Q=>td σ H λx H1=>∃a kvs,x=.ref a/\KDict P w K a kvs/\ty σ H1 λy H2=>tx σ H2 λz H3=>∃k,y=kV k/\Q ((cX kvs k).getD z) H3
def Ln (ho:QE X o td)(he:QE X e ty)(hf:QE X f tx)(m:M2 X o "get" apos e f cpos):QE X (.Call (.Attribute o "get" apos) [e,f] [] cpos) (aek X.prog X.w X.K td ty tx):=⟨by
 intro aq s σ H Q I h;refine wpAny_Call_method m.base m.few m.line PySem.F.plainAttrs_dict kz PySem.F.type_dict_get (bH (ho.out aq s σ H _ I h) λu s1 zz=>?_);obtain⟨x,H1,I1,rx,a,kvs,ex,d,q1⟩:=zz;subst ex;obtain rfl:u=Value.ref a:=rx;obtain⟨ob,vs,hk,rel,hd⟩:=d.ex;have dd:∀{s':Shared} {σ':St} {H':Hp},aJ X aq σ' H' s'->s'.heap.DictOf (cC X.prog X.w) a vs:=λJ=>Heap.dictOf_iff.mpr ⟨ob,J.jq a ob hk,hd⟩;refine⟨(dd I1).typeIs,λb q=>?_,?_⟩
 .cases q;obtain⟨ob,_,_,h1,h2,_⟩:=dd I1;exact⟨ob,h1,h2.2.1⟩
 rw[m.trees];refine g9 rfl (nB (eR (bH (he.out aq s1 σ H1 _ I1 q1) λiv s2 ⟨y,H2,I2,ry,q2⟩=>eR (bH (hf.out aq s2 σ H2 _ I2 q2) λfv s3 ⟨z,H3,I3,rz,k,ey,q3⟩=>kK ?_))))
 subst ey;refine call_meetsIn kz (dd I3).typeIs qk (ph _ _ _) (meets_dict_get_default (cC X.prog X.w) a (Al ry) d.z fv) ⟨_,(dd I3).mapOf,?_⟩;exact⟨_,H3,I3.tok _,(rel.val k).getD rz,q3⟩⟩
end
def VL {l:List Nat}{g:TG}{tb:TS}{D:Ends}{σ:St}{H:Hp}(Pv:Nat->St->Hp->Prop)(h0:Pv 0 σ H)(hs:∀i c σ H T,l[i]?=some c->Pv i σ H->H T=none->g (.ref T) σ (upd H T (.tup [.int i,.str (S [c])])) λσ2 H2=>tb {D with nx:=Pv (i+1),ct:=Pv (i+1),bk:=D.nx} σ2 H2)(hd:∀σ H,Pv l.length σ H->D.nx σ H):yL (GK l) g tb D σ H:=Gr l.length Pv h0 (λi σ H h p=>⟨h,λx H' y=>by obtain⟨T,c,hT,rfl,hc,rfl⟩:=y;exact hs i c σ _ T hc p hT⟩) λσ H p=>⟨ag _,hd σ H p⟩
def SetT (w:World)(h:Heap)(a:Addr)(es:Array (Int×Value))(ep:Nat)(t:SetTable):Prop:=∃o,h.get? a=some o/\o.ExactSet/\o.data=.set es ep t/\t.fits es.size=true/\(w.params.followText "set-order"=true\/t.led=true)/\(t.plain=false\/es.size=0)
def SetT.mv {h h':Heap}(m:SetT w h a es ep t)(k:∀o,h.get? a=some o->h'.get? a=some o):SetT w h' a es ep t:=let ⟨o,p,q⟩:=m;⟨o,k _ p,q⟩
def SetT.ty {s:Shared}(m:SetT w s.heap a es ep t):s.TypeIs (.ref a) "set":=let ⟨o,p,q,_⟩:=m;⟨o,p,q.1⟩
def SetT.lt (m:SetT w h a es ep t):a<h.objs.size:=let ⟨o,p,_⟩:=m;a7 p
section
variable {prog:Program}{w:World}{A:Around}{E:AB}{s:Shared}{a:Addr}{es:Array (Int×Value)}{ep:Nat}{t:SetTable}
def Em {es':Array (Int×Value)}{t':SetTable}(m:SetT w s.heap a es ep t)(hf:t'.fits es'.size=true)(hl:t'.led=t.led)(hp:t'.plain=false)(hz:es'.size<scanBound)(q:∀h',Heap.SameBut a s.heap h'->SetT w h' a es' (ep+1) t'->Q () {s with heap:=h' }):wpAny (model prog w) A (storeSet a es' t') Q E s:=by obtain⟨o,ho,hex,hd,_,hb,_⟩:=m;refine wpAny_storeSet_of ho hd (q _ (fF s.heap a (Obj.putSet es' t')) ?_) (fits_of_scanBound hz);have hg:=fc (Obj.putSet es' t') ho (by rw[putSet_of es' t' hd];rfl);rw[putSet_of es' t' hd]at hg;exact⟨_,hg,hex,rfl,hf,by rw[hl];exact hb,.inl hp⟩
def J0 (a)(h:Q₁ (.ref s.heap.objs.size) {s with heap:=s.heap.push {cls:=.type "set",dict:=none,data:=.set #[] 0 (.fresh 0 0 (!w.params.followText "set-order"))} }):codeAny (model prog w) A (.call (.builtin "set.__new__") ⟨[.type "set",a],[]⟩) (wants Q₁ E) s:=by
 refine codeAny_of_tree ?_;show wpAny _ A.in1 (do checkBuiltinCall "set.__new__" ⟨[.type "set",a],[]⟩;again (.builtin "set.__new__" ⟨[.type "set",a],[]⟩)) _ _ s;refine ab (mM (F.newCall_set_1 a) (ah ⟨plainId_quiet F.plain_set_new _,kD F.entry_set_new ?_⟩));rw[kP F.plain_set_new _];unfold Builtin.«set.__new__» Builtin.Frozenset.newClass;have hsub:=sub_set_self;obtain⟨hp,g,d,tk,os⟩:=s;dsimp only
 wp_walk
 refine lj (ah ?_);dsimp only;simp only[newObj];refine ab (wpAny_alloc (ah ?_));exact ah h
end
theorem wU {α:Type}:∀(l:List α) (i:Nat) (h:i<l.length),(l[i]::l.eraseIdx i).Perm l
 | a::l,0,h=>.refl _
 | a::l,i+1,h=>(List.Perm.swap a _ _).trans ((wU l i (by simpa using h)).cons a)
def uz {α:Type}(next:Nat->Nat)(xs:Array α):(pickOrder next xs).toList.Perm xs.toList:=by
 have key:∀(f k:Nat) (l:List α) (o:Array α),f=l.length->(pickOrder.go next f k l o).toList.Perm (o.toList++l):=by
  intro f
  induction f with
  | zero=>intro k l o e;cases l with|nil=>simp[pickOrder.go]|cons a r=>simp at e
  | succ f ih=>intro k l o e;have h0:0<l.length:=vE;have hi:next k%l.length<l.length:=nE _ h0;unfold pickOrder.go;rw[ae hi];dsimp only;refine(ih _ _ _ (by rw[List.length_eraseIdx,if_pos hi];lia)).trans ?_;rw[kM,bu];exact ij _ (by simpa using wU _ _ hi)
 have:=key xs.size 0 xs.toList #[] vF;simpa [pickOrder] using this
section
variable {prog:Program}{w:World}{A:Around}{E:AB}{s:Shared}
def J1 (hn:n≠0)(h:∀i d,i<n->Q i {s with drawn:=d}):wpAny (model prog w) A (choose src n) Q E s:=λ_ _ _=>⟨hn,h _ _ (nE _ (Nat.pos_of_ne_zero hn))⟩
theorem BZ {α:Type}:∀(n:Nat) (xs:List α) {s:Shared} {Q:List α->Shared->Prop},n=xs.length->(∀ys d,ys.Perm xs->Q ys {s with drawn:=d})->wpAny (model prog w) A (drawOrder n xs) Q E s
 | 0,xs,s,Q,e,h=>by have:xs=[]:=ja.mp e.symm;subst this;unfold drawOrder;exact ah (h [] s.drawn .nil)
 | n+1,[],s,Q,e,h=>by simp at e
 | n+1,x::xs,s,Q,e,h=>by unfold drawOrder;refine ab (J1 vF λi d hi=>?_);rw[ae hi];dsimp only;refine ab (BZ n _ (by rw[List.length_eraseIdx,if_pos hi];simp_all) λys d' p=>ah ?_);refine h _ d' ?_;exact((p.cons _).trans (wU _ _ hi))
end
end L2
namespace PySem.F
def bR:Slot "set_iterator" "__next__" "set_iterator.__next__":=
 .of (owner:="set_iterator") (n:="__next__") (by rw[typeLookup_type,builtinLookup_eq_fast];kernel_rfl) v_ v_ v_
  (by first|exact .inl v_|exact .inr v_) (by rw[isSubtype_type];kernel_rfl)
def mK:Slot "set_iterator" "__iter__" "set_iterator.__iter__":=
 .of (owner:="set_iterator") (n:="__iter__") (by rw[typeLookup_type,builtinLookup_eq_fast];kernel_rfl) v_ v_ v_
  (by first|exact .inl v_|exact .inr v_) (by rw[isSubtype_type];kernel_rfl)
def fX:entryFor table "set_iterator.__next__"=some Builtin.«set_iterator.__next__»:=entryFor_of_tree v0
def En:entryFor table "set.__iter__"=some Builtin.«frozenset.__iter__»:=entryFor_alias (id':="frozenset.__iter__") v0 rfl v_ v0
def qF:Manifest.owners.lookup (String.ofList ['r','o','t','a','r','e','t','i','_','t','e','s'].reverse)=some Manifest.sig_set_iterator:=by kernel_rfl
def fL (a):argsOk "set_iterator.__next__" ⟨[a],[]⟩:=by unfold argsOk;rw[signature?_of (id:="set_iterator.__next__") (n:=['_','_','t','x','e','n','_','_']) (o:=['r','o','t','a','r','e','t','i','_','t','e','s']) v0 qF];kernel_rfl
def sY:entryFor table "set_iterator.__iter__"=some Builtin.«dict_keyiterator.__iter__»:=entryFor_alias (id':="dict_keyiterator.__iter__") v0 rfl v_ v0
def sZ (a):argsOk "set_iterator.__iter__" ⟨[a],[]⟩:=by unfold argsOk;rw[signature?_of (id:="set_iterator.__iter__") (n:=['_','_','r','e','t','i','_','_']) (o:=['r','o','t','a','r','e','t','i','_','t','e','s']) v0 qF];kernel_rfl
end PySem.F
namespace L2
open PySem PySem.Spec PyProof.Rows PySem.W
def dG (h:Heap)(it:Addr)(first:Value)(i:Nat)(a:Addr)(n ep:Nat):Prop:=∃o,h.get? it=some o/\o.cls=.type "set_iterator"/\o.data=.fields #[first,.int i 0,.ref a,.int n 0,.int ep 0]
def dG.ty {s:Shared}(x:dG s.heap it f i a n ep):s.TypeIs (.ref it) "set_iterator":=let ⟨o,p,q,_⟩:=x;⟨o,p,q⟩
def dG.mv {h h':Heap}(x:dG h it f i a n ep)(k:∀o,h.get? it=some o->h'.get? it=some o):dG h' it f i a n ep:=let ⟨o,p,q⟩:=x;⟨o,k _ p,q⟩
section
variable {prog:Program}{w:World}{A:Around}{E:AB}{s:Shared}{a it:Addr}{es:Array (Int×Value)}{ep i:Nat}{t:SetTable}{first:Value}
def yC {slot k:Nat}(x:dG s.heap it (.int slot u) i a es.size ep)(m:SetT w s.heap a es ep t)(hn:∀(A':Around) (E':AB) (Q':Option (Value×Nat)->Shared->Prop),Q' (some (v,k)) s->wpAny (model prog w) A' (setNext a slot i ep) Q' E' s)(q:∀h',dG h' it (.int k 0) (i+1) a es.size ep->Heap.SameBut it s.heap h'->Q (some v) {s with heap:=h' }):wpAny (model prog w) A (pyNext (.ref it)) Q E s:=by have T:=x.ty;obtain⟨y,t1,t2,t3⟩:=id x;obtain⟨o,ho,hex,hd,hf,_,_⟩:=m;unfold pyNext;refine ab (i8 (eD (name:=Str.ofString "__next__") T F.bR (dA F.bR T F.fX ?_ (F.fL _))));unfold Builtin.«set_iterator.__next__»;refine ab (ah ?_);refine ab (sT t1 t3 ?_);dsimp only;refine ab (md ho hd hf ?_);rw[if_neg vF];refine ab ?_;simp only[du];refine hn _ _ _ ?_;dsimp only;refine ab (ii t1 t3 vF ?_);have g1:=fc (Obj.mapFields (·.setIfInBounds 0 (rawInt (k:Int)))) t1 (kC (eM t3 _));refine ab (ii g1 (eM t3 _) vF ?_);have g2:=fc (Obj.mapFields (·.setIfInBounds 1 (rawInt ((i:Int)+1)))) g1 (kC (eM (eM t3 _) _));refine ah ⟨_,rfl,ah ?_⟩;refine q _ ⟨_,g2,(pT ..).trans ((pT ..).trans t2),?_⟩ ((fF ..).trans (fF ..));rw[eM (eM t3 _)];simp[rawInt]
def zx {slot:Nat}(hh:A.handled=none)(x:dG s.heap it (.int slot u) i a es.size ep)(m:SetT w s.heap a es ep t)(hn:∀(A':Around) (E':AB) (Q':Option (Value×Nat)->Shared->Prop),Q' none s->wpAny (model prog w) A' (setNext a slot i ep) Q' E' s)(q:∀h',Heap.ExtBut it s.heap h'->Q none {s with heap:=h' }):wpAny (model prog w) A (pyNext (.ref it)) Q E s:=by have T:=x.ty;obtain⟨y,t1,t2,t3⟩:=id x;obtain⟨o,ho,hex,hd,hf,_,_⟩:=m;unfold pyNext;refine ab (i8 (eD (name:=Str.ofString "__next__") T F.bR (dA F.bR T F.fX ?_ (F.fL _))));unfold Builtin.«set_iterator.__next__»;refine ab (ah ?_);refine ab (sT t1 t3 ?_);dsimp only;refine ab (md ho hd hf ?_);rw[if_neg vF];refine ab ?_;simp only[du];refine hn _ _ _ ?_;dsimp only;refine ab (ii t1 t3 vF ?_);refine ab ?_;simp only[PySem.newExc,newTuple];refine ab (fI ?_ wd);refine ab (m:=firstArgMember _ _) (mM (a:=Value.none) (by first|rfl|(simp only[firstArgMember];rfl)) (fI ?_ wd));simp only[raiseNew];refine ab (wpAny_handled ?_);rw[show A.in1.handled=none from hh];refine ab (ah (wpAny_throw ?_));refine ab (m:=isInstance _ _) (gu (T:="StopIteration") (b:=true) ⟨_,aS _ rfl,rfl⟩ isSubtype_stop ?_);exact ah (q _ (((fF ..).extBut.push _).push _))
def GQ {pe j:Nat}{hv:Int}(x:dG s.heap it (.ref tp) i a es.size ep)(m:SetT w s.heap a es ep t)(h1:s.heap.get? tp=some ot)(h2:ot.data=.seq ps pe)(hp:ps[i]?=some (.int j u))(he:es[j]?=some (hv,v))(q:∀h',dG h' it (.ref tp) (i+1) a es.size ep->Heap.SameBut it s.heap h'->Q (some v) {s with heap:=h' }):wpAny (model prog w) A (pyNext (.ref it)) Q E s:=by have T:=x.ty;obtain⟨y,t1,t2,t3⟩:=id x;obtain⟨o,ho,hex,hd,hf,_,_⟩:=m;unfold pyNext;refine ab (i8 (eD (name:=Str.ofString "__next__") T F.bR (dA F.bR T F.fX ?_ (F.fL _))));unfold Builtin.«set_iterator.__next__»;refine ab (ah ?_);refine ab (sT t1 t3 ?_);dsimp only;refine ab (md ho hd hf ?_);rw[if_neg vF];refine ab (fN h1 h2 ?_);dsimp only;simp only[du,hp];refine ab ?_;unfold setNextDrawn;refine ab (fk ho hd hf ?_);dsimp only;rw[if_neg vF];simp only[he];refine ah ?_;refine ab (ii t1 t3 vF ?_);have g1:=fc (Obj.mapFields (·.setIfInBounds 1 (rawInt ((i:Int)+1)))) t1 (kC (eM t3 _));refine ah ⟨_,rfl,ah ?_⟩;refine q _ ⟨_,g1,(pT ..).trans t2,?_⟩ (fF ..);rw[eM t3];simp[rawInt]
def J2 (hh:A.handled=none)(x:dG s.heap it (.ref tp) i a es.size ep)(m:SetT w s.heap a es ep t)(h1:s.heap.get? tp=some ot)(h2:ot.data=.seq ps pe)(hp:ps[i]?=none)(q:∀h',Heap.ExtBut it s.heap h'->Q none {s with heap:=h' }):wpAny (model prog w) A (pyNext (.ref it)) Q E s:=by have T:=x.ty;obtain⟨y,t1,t2,t3⟩:=id x;obtain⟨o,ho,hex,hd,hf,_,_⟩:=m;unfold pyNext;refine ab (i8 (eD (name:=Str.ofString "__next__") T F.bR (dA F.bR T F.fX ?_ (F.fL _))));unfold Builtin.«set_iterator.__next__»;refine ab (ah ?_);refine ab (sT t1 t3 ?_);dsimp only;refine ab (md ho hd hf ?_);rw[if_neg vF];refine ab (fN h1 h2 ?_);dsimp only;simp only[du,hp];refine ab (ii t1 t3 vF ?_);have g1:=fc (Obj.mapFields (·.setIfInBounds 0 (rawInt 0))) t1 (kC (eM t3 _));refine ab (ii g1 (eM t3 _) vF ?_);refine ab ?_;simp only[PySem.newExc,newTuple];refine ab (fI ?_ wd);refine ab (m:=firstArgMember _ _) (mM (a:=Value.none) (by first|rfl|(simp only[firstArgMember];rfl)) (fI ?_ wd));simp only[raiseNew];refine ab (wpAny_handled ?_);rw[show A.in1.handled=none from hh];refine ab (ah (wpAny_throw ?_));refine ab (m:=isInstance _ _) (gu (T:="StopIteration") (b:=true) ⟨_,aS _ rfl,rfl⟩ isSubtype_stop ?_);exact ah (q _ ((((fF ..).trans (fF ..)).extBut.push _).push _))
def Zc (m:SetT w s.heap a es ep t)(hz:es.size<=4000)(q1:(w.params.followText "set-order"=true\/(w.params.followText "set-order"=false/\es.size<=1))->Q (.ref s.heap.objs.size) {s with heap:=s.heap.push {cls:=.type "set_iterator",data:=.fields #[.int 0 0,.int 0 0,.ref a,.int es.size 0,.int ep 0]} })(q2:∀(ps:List Nat) (d:Drawn),ps.Perm (List.range es.size)->Q (.ref (s.heap.objs.size+1)) {s with heap:=(s.heap.push {cls:=.type "tuple",data:=.seq (ps.map λi:Nat=>Value.int i 0).toArray}).push {cls:=.type "set_iterator",data:=.fields #[.ref s.heap.objs.size,.int 0 0,.ref a,.int es.size 0,.int ep 0]},drawn:=d}):wpAny (model prog w) A (pyIter (.ref a)) Q E s:=by
 have T:=m.ty;obtain⟨o,ho,hex,hd,hf,hb,hp⟩:=m;refine wpAny_pyIter_slot T F.slot_set_iter (dA F.slot_set_iter T F.En ?_ (F.args_set_iter_1 _));unfold Builtin.«frozenset.__iter__» Builtin.Frozenset.slot0 Builtin.Frozenset.sizeOf;refine ab (ab (ah ?_));show wpAny _ _ (pure a) _ _ _;refine ah ?_;refine ab (ab (md ho hd hf (ah ?_)));unfold setDrawn setsByText;refine ab (ab (fk ho hd hf ?_));dsimp only;refine ab (ab (lj (ah ?_)));refine ah ?_;split
 .rename_i h;have h:(!w.params.followText "set-order" && (!t.plain&&decide (es.size > 1)))=true:=h;refine ab (BZ _ _ vF λps d pm=>?_);refine ab (wpAny_newTuple ?_ (by rw[aa,pm.length_eq,dC];exact a9 hz vS));refine ab (wpAny_setEpoch_of (a:=a) (o:=o) (es:=es) (ep:=ep) (t:=t) (af _ ho) hd hf ?_);refine ab (fI (ah ⟨_,rfl,"set_iterator",_,⟨_,aS _ rfl,rfl⟩,F.bR.lookup,?_⟩));have:=q2 ps d pm;simpa [rawInt,ef] using this
 .rename_i h;have h:¬(!w.params.followText "set-order" && (!t.plain&&decide (es.size > 1)))=true:=h;refine ab (ah ?_);refine ab (wpAny_setEpoch_of ho hd hf ?_);refine ab (fI (ah ⟨_,rfl,"set_iterator",_,⟨_,aS _ rfl,rfl⟩,F.bR.lookup,?_⟩));have:=q1 (by
   cases e:w.params.followText "set-order" with
   | true=>exact .inl rfl
   | false=>
    refine .inr ⟨rfl,?_⟩;rcases hp with hp|hp;.simp[e,hp]at h;exact h
    .lia)
  simpa [rawInt] using this
def Zd (hT:s.TypeIs (.ref a) "set")(h:Q false s):wpAny (model prog w) A (Builtin.List.listLengthHint (.ref a)) Q E s:=by
 unfold Builtin.List.listLengthHint;refine ab (mB hT PySem.F.slot_set_len.lookup ?_);generalize hid:("set.__len__":String)=id0
 wp_delta
 rw[show splitId id0=some ("set","__len__") from by subst hid;decide +kernel];subst hid;refine ab (gu (T:="set") (b:=true) hT (by rw[isSubtype_type];kernel_rfl) ?_);refine wpAny_ite_split (λhab=>absurd hab vS) (λ_=>?_);refine wpAny_ite_split (λ_=>?_) (λhab=>absurd v_ hab);refine ab (wpAny_typeOf hT ?_);exact ah h
def CN (x:dG s.heap it first i a n ep)(q:Q (.ref it) s):wpAny (model prog w) A (pyIter (.ref it)) Q E s:=by refine wpAny_pyIter_slot x.ty F.mK (dA F.mK x.ty F.sY ?_ (F.sZ _));show wpAny _ _ (ret (.ref it)) _ _ s;exact ah ⟨_,rfl,"set_iterator",_,x.ty,F.bR.lookup,q⟩
def S7 {tp:Addr}{ps:List Nat}(hh:A.handled=none)(hne:a≠it)(hnt:tp≠it)(hp:∀j∈ps,j<es.size)(hl:ps.length=es.size):Walks prog w A it [it,tp,a] [it] es.size (λi v=>∃j e,ps[i]?=some j/\es[j]?=some e/\v=e.2)
   (λi h=>dG h it (.ref tp) i a es.size ep/\SetT w h a es ep t/\∃ot,h.get? tp=some ot/\ot.data=.seq (ps.map λi:Nat=>Value.int i 0).toArray 0) where
 sub:=λb hb=>by simp at hb;simp[hb]
 frame:=λ_ _ _ st hk=>⟨st.1.mv λo e=>hk it vF o e,st.2.1.mv λo e=>hk a vF o e,let ⟨ot,h1,h2⟩:=st.2.2;⟨ot,hk tp vF _ h1,h2⟩⟩
 item:=λi s Q E hi st hQ=>by
  obtain⟨x,m,ot,h1,h2⟩:=st;have hi':i<ps.length:=by simp_all
  have hj:=hp _ (a8 hi');refine GQ x m h1 h2 (j:=ps[i]) (u:=0) (by simp[hi']) (hv:=es[ps[i]].1) (v:=es[ps[i]].2) (by simp[hj]) λh' x' k=>?_;exact hQ _ h' s.toks ⟨ps[i],es[ps[i]],by simp[hi'],by simp[hj],rfl⟩ ⟨x',m.mv λo e=>k.extBut a o hne e,ot,k.extBut tp ot hnt h1,h2⟩ λb o hb e=>k.extBut b o (λy=>hb (by simp[y])) e
 done:=λs Q E st hQ=>by obtain⟨x,m,ot,h1,h2⟩:=st;exact J2 hh x m h1 h2 (by simp[hl]) λh' k=>hQ h' s.toks λb o hb e=>k b o (λy=>hb (by simp[y])) e
 self:=λi s Q E st hQ=>CN st.1 hQ
def Jg (m:SetT w s.heap a es ep t)(hb:w.params.followText "set-order"=true)(h:Q (((pickOrder (w.params.setOrder a ep) es)[i]?).map λe=>(e.2,slot)) s):wpAny (model prog w) A (setNext a slot i ep) Q E s:=by obtain⟨o,ho,hex,hd,hf,_,_⟩:=m;unfold setNext setsByText;refine ab (fk ho hd hf ?_);dsimp only;refine ab (ab (lj (ah ?_)));rw[if_pos (by exact hb)];rw[if_neg vF];unfold setWalk setsByText;refine ab ?_;refine ab (fk ho hd hf ?_);dsimp only;refine ab (ab (lj (ah ?_)));rw[if_pos (by exact hb)];refine ab (lj (ah ?_));exact ah h
def Eo (m:SetT w s.heap a es ep t)(hb:w.params.followText "set-order"=false)(hz:es.size<=1)(h:Q (match es[SetTable.below t.place slot]?,t.place[SetTable.below t.place slot]? with|some (_,x),some j=>some (x,j+1)|_,_=>none) s):wpAny (model prog w) A (setNext a slot i ep) Q E s:=by
 obtain⟨o,ho,hex,hd,hf,hl,_⟩:=m;have hl:t.led=true:=by rcases hl with z|z;rw[hb]at z;cases z;exact z
 unfold setNext setsByText;refine ab (fk ho hd hf ?_);dsimp only;refine ab (ab (lj (ah ?_)));rw[if_neg (by show ¬w.params.followText "set-order"=true;rw[hb];simp)];split
 .rename_i z;have z:(!t.plain&&decide (es.size > 1))=true:=z;simp at z;lia
 .refine ab ?_;show wpAny _ _ (if (!t.led && !es.isEmpty)=true then unsupported "set:maker-not-led" else pure ()) _ _ _;rw[if_neg (by rw[hl];simp)];exact ah (ah h)
def VN (hh:A.handled=none)(hne:a≠it)(hb:w.params.followText "set-order"=true):Walks prog w A it [it,a] [it] es.size (λi v=>∃e,(pickOrder (w.params.setOrder a ep) es)[i]?=some e/\v=e.2)
   (λi h=>dG h it (.int (0:Nat) 0) i a es.size ep/\SetT w h a es ep t) where
 sub:=λb hb=>by simp at hb;simp[hb]
 frame:=λ_ _ _ st hk=>⟨st.1.mv λo e=>hk it vF o e,st.2.mv λo e=>hk a vF o e⟩
 item:=λi s Q E hi st hQ=>by
  have hsz:(pickOrder (w.params.setOrder a ep) es).size=es.size:=by have:=(uz (w.params.setOrder a ep) es).length_eq;simpa using this
  have hi':i<(pickOrder (w.params.setOrder a ep) es).size:=by simp_all
  refine yC (slot:=0) (k:=0) (v:=(pickOrder (w.params.setOrder a ep) es)[i].2) st.1 st.2 (λA' E' Q' q=>Jg st.2 hb (by rw[bS hi'];exact q)) λh' x' k=>?_;exact hQ _ h' s.toks ⟨_,by rw[bS hi'],rfl⟩ ⟨x',st.2.mv λo e=>k.extBut a o hne e⟩ λb o hb e=>k.extBut b o (λy=>hb (by simp[y])) e
 done:=λs Q E st hQ=>by
  have hsz:(pickOrder (w.params.setOrder a ep) es).size=es.size:=by have:=(uz (w.params.setOrder a ep) es).length_eq;simpa using this
  refine zx hh st.1 st.2 (λA' E' Q' q=>Jg st.2 hb (by rw[mN (kS hsz)];exact q)) λh' k=>hQ h' s.toks λb o hb e=>k b o (λy=>hb (by simp[y])) e
 self:=λi s Q E st hQ=>CN st.1 hQ
def S8 {p:Array Nat}(h:p.size=1):SetTable.below p 0=0:=by unfold SetTable.below;rw[h];simp[SetTable.below.go]
def VP {p:Array Nat}(h:p.size=1):SetTable.below p (p.getD 0 0+1)=1:=by
 obtain⟨l⟩:=p
 match l,h with| [x],_=>simp[SetTable.below,SetTable.below.go]
def S9 (hh:A.handled=none)(hne:a≠it)(hb:w.params.followText "set-order"=false)(hz:es.size<=1):Walks prog w A it [it,a] [it] es.size (λi v=>∃e,es[i]?=some e/\v=e.2) (λi h=>∃slot:Nat,dG h it (.int slot 0) i a es.size ep/\SetT w h a es ep t/\t.place.size=es.size/\slot=(if i=0 then 0 else t.place.getD 0 0+1)) where
 sub:=λb hb=>by simp at hb;simp[hb]
 frame:=λ_ _ _ st hk=>let ⟨slot,x,m,r⟩:=st;⟨slot,x.mv λo e=>hk it vF o e,m.mv λo e=>hk a vF o e,r⟩
 item:=λi s Q E hi st hQ=>by
  obtain⟨slot,x,m,hp,hs⟩:=st;have hi0:i=0:=vE;subst hi0;rw[if_pos rfl]at hs;subst hs;have h1:es.size=1:=vE;have h1p:t.place.size=1:=vE;refine yC (slot:=0) (k:=t.place.getD 0 0+1) (v:=es[0].2) x m (λA' E' Q' q=>Eo m hb hz ?_) λh' x' k=>?_
  .rw[S8 h1p,bS hi,bS (by lia:0<t.place.size)];have e:t.place.getD 0 0=t.place[0]:=by simp[Array.getD,h1p]
   rw[e]at q;exact q
  .exact hQ _ h' s.toks ⟨es[0],by simp[h1],rfl⟩ ⟨_,x',m.mv λo e=>k.extBut a o hne e,hp,rfl⟩ λb o hb e=>k.extBut b o (λy=>hb (by simp[y])) e
 done:=λs Q E st hQ=>by
  obtain⟨slot,x,m,hp,hs⟩:=st;refine zx hh x m (λA' E' Q' q=>Eo m hb hz ?_) λh' k=>hQ h' s.toks λb o hb e=>k b o (λy=>hb (by simp[y])) e;rcases(show es.size=0\/es.size=1 by lia) with h0|h1
  .rw[mN vE];exact q
  .rw[if_neg vE]at hs;subst hs;rw[VP vE,mN hz];exact q
 self:=λi s Q E st hQ=>by obtain⟨slot,x,_⟩:=st;exact CN x hQ
end
def CP {l:List Value}(h:ItemsOf P acc n)(hl:l.length=n)(hP:∀i v,P i v->l[i]?=some v):acc.toList=l:=by
 apply i6;intro j;by_cases hj:j<n
 .have hj':j<acc.size:=by rw[h.1];exact hj
  have e:acc[j]?=some acc[j]:=by simp[hj']
  rw[hP j _ (h.2 j _ e),b9,e]
 .rw[bP (by rw[bo,h.1];exact lv hj),bP (by simp_all)]
section
variable {prog:Program}{w:World}{A:Around}{E:AB}{s:Shared}{a:Addr}{es:Array (Int×Value)}{ep i:Nat}{t:SetTable}
variable {X:Cx}
def CQ {R:Result->Shared->Prop}{rs:Bool}{n:Nat}{P:Nat->Value->Prop}{St:Nat->Heap->Prop}(W:Walks prog w A.in1 I fp [I] n P St)(hSf:S0∉fp)(res:Value)(c₀:Nat)(hS:s.heap.get? S0=some {cls:=.type "list",data:=.seq #[] c₀})(st:St 0 s.heap)(hn:n<=sizeLine)(hT:s.TypeIs (.ref a) "set")(hR:∀h' tk acc' c',(∀b o,b≠S0->b≠I->s.heap.get? b=some o->h'.get? b=some o)->h'.get? S0=some {cls:=.type "list",dict:=none,data:=.seq acc' c',slots:=#[]}->ItemsOf P acc' n->R (.ok (.ret res)) {s with heap:=h',toks:=tk}):wpAny (model prog w) A.in1 (do
   let room <- holding [Value.ref I] (Builtin.List.listLengthHint (.ref a))
   if room||rs then rule "list.extend.makes-room";Builtin.List.listTouch (.ref S0)
   again (.builtin "list.extend.loop" ⟨[.ref S0,.ref I,res],[]⟩))
   (λfin s'=>match fin with|.done f=>R (.ok f) s'|.again c'=>c'.quiet=true/\codeAny (model prog w) A c' R s') (λe s'=>R (.error e) s') s:=by
 have key:∀(h:Heap) (c₁ tk:Nat),St 0 h->(∀b o,b≠S0->s.heap.get? b=some o->h.get? b=some o)->
   h.get? S0=some {cls:=.type "list",data:=.seq #[] c₁}->codeAny (model prog w) A (.builtin "list.extend.loop" ⟨[.ref S0,.ref I,res],[]⟩) R {s with heap:=h,toks:=tk}:=by
  intro h c₁ tk hst hk hS₁;refine codeAny_extend_loopS W.toS hn S0 hSf res n 0 _ #[] c₁ rfl (cw _) hst hS₁ (ItemsOf.nil _) λs' acc' c' hm hS' hacc=>?_;rw[Moved.eq_with hm];refine hR s'.heap s'.toks acc' c' (λb o hb hbI e=>hm.heap b o (λhmem=>?_) (hk b o hb e)) hS' hacc;rcases bb.mp hmem with e'|hmem
  .exact hb e'
  .exact hbI (ap.mp hmem)
 refine ab (eW (Zd hT ?_));refine wpAny_ite_split (λ_=>?_) (λ_=>ah ⟨plainId_quiet t9 _,key _ c₀ _ st (λb o _ e=>e) hS⟩);refine ab (ge ?_);refine ab ?_;show wpAny _ _ (updateSeq S0 (·.push .none) >>= λ_=>updateSeq S0 (·.pop)) _ _ _;refine ab (wpAny_updateSeq hS rfl ?_);have hS₂:=fc (Obj.mapSeq (·.push Value.none)) hS rfl;refine wpAny_updateSeq (hz:=by seq_fits) hS₂ rfl ?_;have hS₃:=fc (Obj.mapSeq (·.pop)) hS₂ rfl;refine ah ⟨plainId_quiet t9 _,key _ _ _ ?_ (λb o hb e=>?_) hS₃⟩
 .refine W.frame 0 _ _ st λb hb o e=>?_
  have hbS:b≠S0:=λh=>hSf (h ▸ hb);exact(g6 _ _ (ie hbS)).trans ((g6 _ _ (ie hbS)).trans e)
 .exact(g6 _ _ (ie hb)).trans ((g6 _ _ (ie hb)).trans e)
def S_ (hh:A.handled=none)(m:SetT w s.heap a es ep t)(hz:es.size<=4000)(S0)(hSa:S0≠a)(res)(c₀)(hS:s.heap.get? S0=some {cls:=.type "list",data:=.seq #[] c₀})(hR:∀h' tk d acc' c',(∀b o,b≠S0->s.heap.get? b=some o->h'.get? b=some o)->h'.get? S0=some {cls:=.type "list",dict:=none,data:=.seq acc' c',slots:=#[]}->acc'.toList.Perm (es.toList.map (·.2))->R (.ok (.ret res)) {s with heap:=h',toks:=tk,drawn:=d}):wpAny (model prog w) A.in1 (Builtin.List.listExtendWith (.ref S0) (.ref a) res)
   (λfin s'=>match fin with|.done f=>R (.ok f) s'|.again c'=>c'.quiet=true/\codeAny (model prog w) A c' R s') (λe s'=>R (.error e) s') s:=by
 have Jh:es.size<=sizeLine:=a9 hz vS;have hlt:=m.lt;have hSlt:=a7 hS;unfold Builtin.List.listExtendWith;refine ab (wpAny_typeOf (T:="set") m.ty ?_);have h1:Builtin.List.listSameRef (.ref S0) (.ref a)=false:=by simp[Builtin.List.listSameRef,hSa]
 have n1:(Value.type "set" == Value.type "list")=false:=by decide
 have n2:(Value.type "set" == Value.type "tuple")=false:=by decide
 simp only[h1,n1,n2,qV,bd,if_false];refine ab (Zc m hz (λc=>?_) (λps d pm=>?_))
 .have m':SetT w (s.heap.push {cls:=.type "set_iterator",data:=.fields #[.int 0 0,.int 0 0,.ref a,.int es.size 0,.int ep 0]}) a es ep t:=m.mv λo e=>af _ e
  have hx:dG (s.heap.push {cls:=.type "set_iterator",data:=.fields #[.int 0 0,.int 0 0,.ref a,.int es.size 0,.int ep 0]}) s.heap.objs.size (.int (0:Nat) 0) 0 a es.size ep:=⟨_,aS _ rfl,rfl,rfl⟩
  have hSf:S0∉[s.heap.objs.size,a]:=by simp only[bb,gv,or_false,not_or];exact⟨be hSlt,hSa⟩
  rcases c with c|⟨c,c1⟩
  .refine CQ (a:=a) (VN (t:=t) hh (be hlt) c) hSf res c₀ (af _ hS) ⟨hx,m'⟩ Jh (SetT.ty (s:={s with heap:=_}) m') λh' tk acc' c' k hS' hacc=>?_
   have hsz:=(uz (w.params.setOrder a ep) es).length_eq;refine hR h' tk s.drawn acc' c' (λb o hb e=>k b o hb (be (a7 e)) (af _ e)) hS' ?_;rw[CP (l:=(pickOrder (w.params.setOrder a ep) es).toList.map (·.2)) hacc (by simpa using hsz) (λi v hv=>by obtain⟨e,he,rfl⟩:=hv;simp[he])];exact(uz _ _).map _
  .refine CQ (a:=a) (S9 (t:=t) hh (be hlt) c c1) hSf res c₀ (af _ hS) ⟨0,hx,m',?_,rfl⟩ Jh (SetT.ty (s:={s with heap:=_}) m') λh' tk acc' c' k hS' hacc=>?_
   .obtain⟨o,_,_,_,hf,_⟩:=m;simp only[SetTable.fits,dS,beq_iff_eq]at hf;exact hf.1
   .refine hR h' tk s.drawn acc' c' (λb o hb e=>k b o hb (be (a7 e)) (af _ e)) hS' ?_;rw[CP (l:=es.toList.map (·.2)) hacc vF (λi v hv=>by obtain⟨e,he,rfl⟩:=hv;simp[he])]
 .generalize hh1:s.heap.push {cls:=.type "tuple",data:=.seq (ps.map λi:Nat=>Value.int i 0).toArray}=h1;have k1:∀b o,s.heap.get? b=some o->h1.get? b=some o:=λb o e=>by rw[<-hh1];exact af _ e
  have z1:h1.objs.size=s.heap.objs.size+1:=by rw[<-hh1];exact ef ..
  have g1:h1.get? s.heap.objs.size=some {cls:=.type "tuple",data:=.seq (ps.map λi:Nat=>Value.int i 0).toArray}:=by rw[<-hh1];exact aS _ rfl
  have m':SetT w (h1.push {cls:=.type "set_iterator",data:=.fields #[.ref s.heap.objs.size,.int 0 0,.ref a,.int es.size 0,.int ep 0]}) a es ep t:=m.mv λo e=>af _ (k1 _ _ e);have hx:dG (h1.push {cls:=.type "set_iterator",data:=.fields #[.ref s.heap.objs.size,.int 0 0,.ref a,.int es.size 0,.int ep 0]}) (s.heap.objs.size+1) (.ref s.heap.objs.size) 0 a es.size ep:=⟨_,by rw[<-z1];exact aS _ rfl,rfl,rfl⟩
  have hp:∀j∈ps,j<es.size:=λj hj=>bE.mp (pm.mem_iff.mp hj);have hl:ps.length=es.size:=by rw[pm.length_eq,dC]
  have hSf:S0∉[s.heap.objs.size+1,s.heap.objs.size,a]:=by simp only[bb,gv,or_false,not_or];exact⟨be (eK hSlt),be hSlt,hSa⟩
  refine CQ (a:=a) (s:={s with heap:=h1.push {cls:=.type "set_iterator",data:=.fields #[.ref s.heap.objs.size,.int 0 0,.ref a,.int es.size 0,.int ep 0]},drawn:=d}) (S7 (t:=t) (tp:=s.heap.objs.size) (ps:=ps) hh (be (eK hlt)) (be (e8 _)) hp hl) hSf res c₀ (af _ (k1 _ _ hS)) ⟨hx,m',_,af _ g1,rfl⟩ Jh (SetT.ty (s:={s with heap:=_,drawn:=d}) m') λh' tk acc' c' k hS' hacc=>?_;refine hR h' tk d acc' c' (λb o hb e=>k b o hb (be (eK (a7 e))) (af _ (k1 _ _ e))) hS' ?_;rw[CP (l:=ps.map λj=>(es.getD j (0,.none)).2) hacc (by simp[hl]) (λi v hv=>by obtain⟨j,e,hj,he,rfl⟩:=hv;rw[aw,hj];simp[ff,he])]
  refine(pm.map _).trans (vn ?_);apply i6;intro j;rw[aw,aw];by_cases h:j<es.size;.rw[gd h];simp[h,ff]
  .rw[bP (by simpa using h),bP (by simpa using h)];rfl
def Ox (hh:A.handled=none)(m:SetT w s.heap a es ep t)(hz:es.size<=4000)(h:∀(h':Heap) (tk:Nat) (d:Drawn) (acc:List Value),(∀b o,s.heap.get? b=some o->h'.get? b=some o)->acc.Perm (es.toList.map (·.2))->R acc {s with heap:=h',toks:=tk,drawn:=d}):wpAny (model prog w) A (collect (.ref a)) R E s:=by
 have hlt:=m.lt;unfold collect;refine ab (wpAny_runValue (kD entry_proto_collect' ?_));rw[kP PySem.F.plain_proto_collect _];show wpAny _ A.in1 (newList [] >>= λl=>again (.builtin "list.__iadd__" ⟨[l,.ref a],[]⟩)) _ _ s;refine ab (fI ?_);refine ah ⟨plainId_quiet PySem.F.plain_list_iadd _,kD entry_list_iadd' ?_⟩;rw[kP PySem.F.plain_list_iadd _];have hS₁:(s.heap.push {cls:=.type "list",data:=.seq ([]:List Value).toArray}).get? s.heap.objs.size=some {cls:=.type "list",data:=.seq #[]}:=aS _ rfl;show wpAny _ A.in1 (Builtin.List.listExtendWith (.ref s.heap.objs.size) (.ref a) (.ref s.heap.objs.size)) _ _ _;have key:=S_ (prog:=prog) (A:=A) (s:={s with heap:=s.heap.push {cls:=.type "list",data:=.seq ([]:List Value).toArray} })
  (R:=λ(q:Result) (s':Shared)=>∃(h':Heap) (tk:Nat) (d:Drawn) (acc':Array Value) (c':Nat),q=.ok (.ret (.ref s.heap.objs.size))/\s'={s with heap:=h',toks:=tk,drawn:=d}/\
   (∀b o,s.heap.get? b=some o->h'.get? b=some o)/\h'.get? s.heap.objs.size=some {cls:=.type "list",dict:=none,data:=.seq acc' c',slots:=#[]}/\acc'.toList.Perm (es.toList.map (·.2)))
  hh (m.mv λo e=>af _ e) hz s.heap.objs.size (ki hlt) (.ref s.heap.objs.size) 0 hS₁
  (λh' tk d acc' c' hk hS' hacc=>⟨h',tk,d,acc',c',rfl,rfl,λb o e=>hk b o (be (a7 e)) (af _ e),hS',hacc⟩)
 refine fm key (λfin s' x=>?_) λe s' x=>?_
 .cases fin with
  | done f=>obtain⟨h',tk,d,acc',c',e,rfl,hk,hS',hacc⟩:=x;cases e;show wpAny _ A (load s.heap.objs.size >>= _) _ _ _;refine ab (wpAny_load hS' ?_);exact ah (h h' tk d acc'.toList hk hacc)
  | again c₁=>refine⟨x.1,io x.2 λq s₂ y=>?_⟩;obtain⟨h',tk,d,acc',c',rfl,rfl,hk,hS',hacc⟩:=y;show wpAny _ A (load s.heap.objs.size >>= _) _ _ _;refine ab (wpAny_load hS' ?_);exact ah (h h' tk d acc'.toList hk hacc)
 .obtain⟨_,_,_,_,_,e,_⟩:=x;cases e
def aJ.afX {aq:AC}{σ:St}{H:Hp}{s:Shared}(I:aJ X aq σ H s)(d:Drawn):aJ X aq σ H {s with drawn:=d}:=⟨I.ok,I.os,I.bare,I.base,I.loc,I.cell,I.free,I.nT,I.pin,I.hok,I.len⟩
end
section
def Ze (a:List Int)(x:Int):(a++[x]).sum=a.sum+x:=by
 induction a with| nil=>simp| cons y r ih=>rw[List.cons_append,gE,gE,ih];lia
theorem wV (ns:List Int):∀k,k<=ns.length->preSum (λi=>ns.getD i 0) k=(ns.take k).sum
 | 0,_=>by simp[preSum]
 | k+1,h=>by
  show preSum (λi=>ns.getD i 0) k+ns.getD k 0=_;have e:ns.take (k+1)=ns.take k++[ns[k]]:=by rw[bz,ae h];rfl
  rw[wV ns k (ay h),e,Ze];simp[List.getD,show k<ns.length by lia]
def ael (ns:List Int)(b:Int)(hb:0<=b)(h:∀x∈ns,-b<=x/\x<=b):-(b*ns.length)<=ns.sum/\ns.sum<=b*ns.length:=by
 induction ns with
 | nil=>simp
 | cons a r ih=>
  have h1:=h a a6;have h2:=ih λx hx=>h x (aI _ hx);rw[gE,bt];have e:b*((r.length+1:Nat):Int)=b*r.length+b:=by rw[Int.natCast_add,Int.mul_add];simp
  rw[e];lia
end
end L2
namespace L2
open PySem PySem.Spec PyProof.Rows PySem.SeqAt PySem.MeetsSeq PySem.MeetsSeq3 PySem.W
open AutoSeq1 (wpAny_loadPart')
open PySem.StrLaws Builtin Builtin.Str in
theorem GR (s)(c hi limit):∀(k a:Nat) (st:Array Nat×Nat),st.snd<=a->st.fst.size+k<=limit->
  (forIn (List.range' a k) st (occBody s (S [c]) hi limit)).run.fst.size=st.fst.size+((List.range' a k).filter λi=>decide (i+1<=hi)&&subAt s (S [c]) i).length
 | 0,a,st,h1,h2=>rfl
 | k+1,a,st,h1,h2=>by
  rw[List.range'_succ,iq];have hl:(S [c]).length=1:=rfl;unfold occBody;split
  .rename_i hc;have h3:((st.fst.push a,a+(S [c]).length).snd)<=a+1:=by show a+(S [c]).length<=a+1;rw[hl];exact ag _
   have:=GR s c hi limit k (a+1) (st.fst.push a,a+(S [c]).length) h3 (by show (st.fst.push a).size+k<=limit;rw[Array.size_push];lia);refine this.trans ?_;have hb:(decide (a+1<=hi)&&subAt s (S [c]) a)=true:=by have h5:=hc.1.2;rw[hl]at h5;rw[hc.2];simp;exact h5
   rw[uv,if_pos hb,bt];show (st.fst.push a).size+_=_;rw[Array.size_push];lia
  .rename_i hc;have:=GR s c hi limit k (a+1) (st.fst,st.snd) (gN h1) (by show st.fst.size+k<=limit;exact ay h2);refine this.trans ?_;have hb:¬(decide (a+1<=hi)&&subAt s (S [c]) a)=true:=λz=>hc (by
    simp only[dS,mS]at z;exact⟨⟨⟨vE,h1⟩,by rw[hl];exact z.1⟩,z.2⟩)
   rw[uv,if_neg hb]
open Builtin.Str in
def subAt_one (l:List Nat)(c i)(hi:i<l.length):subAt (S l) (S [c]) i=decide (l[i]=c):=by
 unfold subAt;have e:(S l).cps.extract i (i+(S [c]).length)=#[l[i]]:=by
  show l.toArray.extract i (i+1)=#[l[i]];apply Array.ext;.simp;lia
  .intro j h1 h2;have:j=0:=by simp at h2;exact h2
   subst this;simp
 rw[e];show (#[l[i]] == #[c])=_;by_cases h:l[i]=c;.subst h;simp
 .rw[am h];simpa using h
open Builtin.Str in
def VR (l)(c):(occurrences (S l) (S [c]) 0 (S l).length ((S l).length+1)).length=l.count c:=by
 have hn:(S l).length=l.length:=by show l.toArray.size=l.length;simp
 rw[PySem.StrLaws.occ_eq,bo,hn];rw[GR (S l) c l.length (l.length+1) (l.length+1-0) 0 (#[],0) (ag _) vF];rw[<-List.range_eq_range',show l.length+1-0=l.length+1 from rfl,e6,eT];have e1:([l.length].filter λi=>decide (i+1<=l.length)&&subAt (S l) (S [c]) i)=[]:=by simp;lia
 rw[e1,fq];have key:∀k,k<=l.length->((List.range k).filter λi=>decide (i+1<=l.length)&&subAt (S l) (S [c]) i).length=(l.take k).count c:=by
  intro k
  induction k with
  | zero=>intro _;simp
  | succ k ih=>
   intro hk;rw[e6,eT,av,ih (ay hk),bz,ae hk,tN];have e2:(decide (k+1<=l.length)&&subAt (S l) (S [c]) k)=decide (l[k]=c):=by rw[subAt_one l c k vE];simp;lia
   rw[uv,e2];by_cases h:l[k]=c;.simp[h]
   .simp[h]
 have:=key l.length (ag _);rw[cz]at this;simpa using this
section
variable {X:Cx}
def abI:V->List V->Hp->VK->Prop:=λx vs H Q=>∃(l:List Nat) (c:Nat),x=.str (S l)/\vs=[.str (S [c])]/\Q (.int (l.count c:Nat)) H
def V0:vG X "str.count" abI:=by intro aq s σ H x vs v us Q I rx rv h;obtain⟨l,c,rfl,rfl,q⟩:=h;obtain⟨t,rfl⟩:=rx;obtain⟨u,rfl,ru⟩:=rv.one;obtain⟨t',rfl⟩:=ru;refine call_gives F.slot_str_count (typeIs_str s _ t) F.entry_str_count (F.args_str_count_2 _ _) (gives_str_count (S l) (S [c]) t t') ?_;show EP X aq σ Q _ _;rw[<-VR]at q;exact⟨.int (Builtin.Str.occurrences (S l) (S [c]) 0 (S l).length ((S l).length+1)).length,H,I.tok _,⟨s.toks,rfl⟩,q⟩
end
end L2
namespace L2
open PySem PySem.Spec PyProof.Rows PySem.W
section
variable {X:Cx}
def afY (K:W.Frag):List V->Hp->VK->Prop:=λxs H Q=>∃(p:Addr) (ns:List Int),xs=[.ref p]/\aQ K H p (ns.map V.int)/\ns.length<=1000/\(∀x∈ns,-1000000000000000<=x/\x<=1000000000000000)/\Q (.int ns.sum) H
def V1 (hc:X.calm=true):fj X (.builtin "sum") (afY X.K):=by
 intro aq s σ H xs us Q I r h;obtain⟨p,ns,rfl,hq,hn,hb,q⟩:=h;obtain⟨u,rfl,ru⟩:=vals1 r;cases ru;obtain⟨its,rv,pl,hz⟩:=I.list hq;have bW:=rv.length;rw[aa]at bW;have hne:p≠s.heap.objs.size:=by obtain⟨o,ho,_⟩:=pl.isList;exact be (a7 ho)
 have hv:∀(i:Nat) (v:Value),its.toArray[i]?=some v->∃t,v=.int (ns.getD i 0) t:=λi v hv=>by
  have hv:its[i]?=some v:=by simpa using hv
  have hi:i<ns.length:=by have:=(ai.mp hv).1;simp_all
  obtain⟨u,hu,ru⟩:=rv.get (i:=i) (x:=.int ns[i]) (by simp[hi]);rw[hv]at hu;cases hu;obtain⟨t,e⟩:=ru;exact⟨t,by rw[e];simp[List.getD,hi]⟩
 have hsz:its.toArray.size=ns.length:=by simp[bW]
 refine call_sum_walk (kH pl.isList ?_);refine⟨s.heap.objs.size,_,_,_,_,_,_,rfl,Walks.list (A:=X.A.in1) (I.ok.hd hc) s.heap.objs.size p hne its.toArray,⟨⟨_,aS _ rfl,rfl,rfl⟩,pl.isList.at λo e=>af _ e⟩,?_,hv,λj hj=>?_,λh' tk t' kk=>?_⟩
 .intro b hb;have:b=s.heap.objs.size\/b=p:=by simpa using hb
  rw[ef];rcases this with e|e;.rw[e];exact e8 _
  .rw[e];obtain⟨o,ho,_⟩:=pl.isList;exact eK (a7 ho)
 .have hj':j<ns.length:=by simp_all
  have h1:=hb _ (a8 hj');have e1:ns.getD j 0=ns[j]:=by simp[List.getD,hj']
  have h2:=ael (ns.take (j+1)) 1000000000000000 vS λx hx=>hb x (eL hx);have hl:(ns.take (j+1)).length<=1000:=by rw[bn];lia
  rw[wV ns (j+1) hj',e1];unfold InLong;lia
 .have I1:aJ X aq σ H {s with heap:=h',toks:=tk}:=I.kept λb o e=>kk b o (by
   intro hm;have:b=s.heap.objs.size:=by simpa using hm
   subst this;exact absurd (a7 e) (hG _)) (af _ e)
  rw[hsz,wV ns ns.length (ag _),cz];exact⟨.int _,H,I1,⟨t',rfl⟩,q⟩
def mD.rd {kvs:List (Key×V)}{k:Key}(e:Rd H a (.dK kvs)):mD H a (kV k) (cX kvs k):=.inl ⟨kvs,k,e,rfl,rfl⟩
def Rd.mv (k:aB H H')(r:Rd H a u):Rd H' a u:=by
 rcases r with r|⟨o,r⟩;.exact .inl (k _ _ r)
 .exact .inr ⟨o,k _ _ r⟩
end
end L2
namespace L2
open PySem PySem.Spec PyProof.Rows PySem.Builtin PySem.Builtin.Str
def GX (x y z:Str)(t u v c:Tok)(hf:((occurrences x y 0 x.length 1).isEmpty||(y.length==0&&z.length==0))=false->
   (u==0||v==0)=false/\(u==v)=false/\(y==z)=false/\tooLong (x.length+(occurrences x y 0 x.length 1).length*z.length)=false) :
  Gives («str.replace» ⟨[.str x t,.str y u,.str z v,.int 1 c],[]⟩) (if ((occurrences x y 0 x.length 1).isEmpty||(y.length==0&&z.length==0))=true then .val (.str x t) else .str (glued z (partsBetween x (occurrences x y 0 x.length 1) y.length))):=by
 show Gives (if ((occurrences x y 0 x.length 1).isEmpty||(y.length==0&&z.length==0))=true then (rule "str.replace.nothing" >>= λ_=>ret (.str x t)) else
     (isSame (.str y u) (.str z v) >>= λsame=>if same=true then (rule "str.replace.old-is-new" >>= λ_=>ret (.str x t)) else if tooLong (x.length+(occurrences x y 0 x.length 1).length*z.length)=true then unsupported "str.replace:memory" else retStr (glued z (partsBetween x (occurrences x y 0 x.length 1) y.length)))) _
 cases hc:((occurrences x y 0 x.length 1).isEmpty||(y.length==0&&z.length==0))
 .obtain⟨h0,huv,hyz,hl⟩:=hf hc;rw[isSame_str_other y z u v h0 huv hyz,hl];exact .of_eq rfl
 .exact .rule (.of_eq rfl)
end L2
namespace L2
open PySem PySem.Spec PyProof.Rows
def ju (prog:Program)(w:World)(A:Around)(s:Shared)(κ:PyProof.Rows.KeyKind)(kn:SortKind):Prop:=∀(E:AB) (x y:Value) (a b:κ.α) (Q:Bool->Shared->Prop),κ.keyOf x=some a->κ.keyOf y=some b->Q (κ.blt a b) s->wpAny (model prog w) A (keyLt' kn x y) Q E s
section
variable {prog:Program}{w:World}{A:Around}{E:AB}{s:Shared}{κ:PyProof.Rows.KeyKind}{kn:SortKind}
variable {α:Type}{le:α->α->Prop}
def bA {α:Type}{c:Prop}{d:Decidable c}{a b:StateT SortSt Sem α}{Q:α->SortSt->Prop}{st:SortSt}(hc:c)(h:wpS (model prog w) A E s a Q st):wpS (model prog w) A E s (@ite _ c d a b) Q st:=by rw[if_pos hc];exact h
def bf {α:Type}{c:Prop}{d:Decidable c}{a b:StateT SortSt Sem α}{Q:α->SortSt->Prop}{st:SortSt}(hc:¬c)(h:wpS (model prog w) A E s b Q st):wpS (model prog w) A E s (@ite _ c d a b) Q st:=by rw[if_neg hc];exact h
def zy {st:SortSt}{x y:Keyed}{a b:κ.α}{Q:Option Bool->SortSt->Prop}(hO:ju prog w A s κ kn)(hk:kindOf st=kn)(ha:κ.keyOf x.1=some a)(hb:κ.keyOf y.1=some b)(h:Q (some (κ.blt a b)) st):wpS (model prog w) A E s (lt' x y) Q st:=by rw[lt'_eq];refine a_ (o6 ?_);rw[hk];refine a_ (wpS_lift (i8 (hO _ x.1 y.1 a b _ ha hb ⟨rfl,?_⟩)));exact bg h
def cI {st:SortSt}{arr:Array Keyed}{i:Nat}(hi:i<arr.size){Q:Keyed->SortSt->Prop}(h:Q arr[i] st):wpS (model prog w) A E s (elem' arr i) Q st:=by rw[elem'_eq,bS hi];exact bg h
noncomputable def jz (κ:PyProof.Rows.KeyKind)(left:Bool)(kk:κ.α)(arr:Array Keyed)(i:Nat):Bool:=if left=true then κ.blt (KK κ arr i) kk else !κ.blt kk (KK κ arr i)
def tu (hks:KeysOf κ arr)(hi:i<arr.size):κ.keyOf arr[i].1=some (KK κ arr i):=by obtain⟨a,ha⟩:=hks arr[i] vF;unfold KK;rw[bS hi];simp[ha]
def vK {left:Bool}{key:Keyed}{kk:κ.α}{arr:Array Keyed}{i:Nat}{st:SortSt}{Q:Option Bool->SortSt->Prop}(hO:ju prog w A s κ kn)(hk:kindOf st=kn)(hkey:κ.keyOf key.1=some kk)(hks:KeysOf κ arr)(hi:i<arr.size)(h:Q (some (jz κ left kk arr i)) st):wpS (model prog w) A E s (do
   let p <- elem' arr i
   if left=true then lt' p key
   else do
    let r <- lt' key p
    pure (r.map λb=>!b)) Q st:=by
 refine a_ (cI hi ?_);unfold jz at h;cases left with| true=>exact zy hO hk (tu hks hi) hkey h| false=>exact a_ (zy hO hk hkey (tu hks hi) (bg h))
def lV {left:Bool}{key:Keyed}{kk:κ.α}{arr:Array Keyed}{lo n hint:Nat}{st:SortSt}{Q:Option Nat->SortSt->Prop}(hO:ju prog w A s κ kn)(hk:kindOf st=kn)(hkey:κ.keyOf key.1=some kk)(hks:KeysOf κ arr)(hn:hint<n)(hsz:lo+n<=arr.size)(mono:∀i j,i<=j->j<n->jz κ left kk arr (lo+j)=true->jz κ left kk arr (lo+i)=true)(h:∀k,k<=n->(∀i,i<k->jz κ left kk arr (lo+i)=true)->(∀i,k<=i->i<n->jz κ left kk arr (lo+i)=false)->Q (some k) st):wpS (model prog w) A E s ((sortPriv% PySem.Builtin.gallop) left key arr lo n hint) Q st:=by
 show wpS _ _ _ _ (_ >>= _) _ _;dsimp only;generalize hbp:(λi=>jz κ left kk arr (lo+i))=bp;have eb:∀i,jz κ left kk arr (lo+i)=bp i:=λi=>by rw[<-hbp]
 have aaR:∀i j,i<=j->j<n->bp j=false\/bp i=true:=λi j h1 h2=>by
  cases e:bp j with| false=>exact .inl rfl| true=>exact .inr (by rw[<-eb];exact mono i j h1 h2 (by rw[eb];exact e))
 have h':∀k,k<=n->(∀i,i<k->bp i=true)->(∀i,k<=i->i<n->bp i=false)->Q (some k) st:=λk h1 h2 h3=>h k h1 (λi hi=>by rw[eb];exact h2 i hi) λi hi hj=>by rw[eb];exact h3 i hi hj
 have up:∀i j,i<=j->j<n->bp j=true->bp i=true:=λi j h1 h2 h3=>by
  rcases aaR i j h1 h2 with z|z;.rw[z]at h3;cases h3
  .exact z
 have dn:∀i j,i<=j->j<n->bp i=false->bp j=false:=λi j h1 h2 h3=>by
  rcases aaR i j h1 h2 with z|z;.exact z
  .rw[z]at h3;cases h3
 refine a_ (vK hO hk hkey hks (i:=lo+hint) vE ?_);rw[eb];dsimp only;have fin:∀l0 h0,l0<=h0->h0<=n->(∀i,i<l0->bp i=true)->(∀i,h0<=i->i<n->bp i=false)->∀(f:Nat->(Option (Option Nat)×Nat×Nat)->StateT SortSt Sem (ForInStep (Option (Option Nat)×Nat×Nat))) (F:(Option (Option Nat)×Nat×Nat)->StateT SortSt Sem (Option Nat)),
   (∀x l u (Q':ForInStep (Option (Option Nat)×Nat×Nat)->SortSt->Prop),u<=n->(u<=l->Q' (.done (none,l,u)) st)->(l<u->Q' (.yield (if bp (l+(u-l)/2)=true then (none,l+(u-l)/2+1,u) else (none,l,l+(u-l)/2))) st)->wpS (model prog w) A E s (f x (none,l,u)) Q' st)->
   (∀l u,Q (some u) st->wpS (model prog w) A E s (F (none,l,u)) Q st)->
   wpS (model prog w) A E s (forIn [0:n] ((none:Option (Option Nat)),l0,h0) f >>= F) Q st:=by
  intro l0 h0 hle hh t1 t2 f F hf hF;refine a_ (gS (e_ (I:=λ(x:Nat) (c:Option (Option Nat)×Nat×Nat) (st':SortSt)=>∃l u,c=(none,l,u)/\st'=st/\l<=u/\u<=n/\(∀i,i<l->bp i=true)/\(∀i,u<=i->i<n->bp i=false)/\u-l<=n-x)
   (Q:=λ(c:Option (Option Nat)×Nat×Nat) (st':SortSt)=>∃l u,c=(none,l,u)/\st'=st/\u<=l/\u<=n/\(∀i,i<l->bp i=true)/\(∀i,u<=i->i<n->bp i=false)) ?_ ?_ ⟨l0,h0,rfl,rfl,hle,hh,t1,t2,iE vE⟩) ?_)
  .rintro x c st' _ hx ⟨l,u,rfl,rfl,h2,h3,h4,h5,h6⟩;refine hf x l u _ h3 (λz=>⟨l,u,rfl,rfl,z,h3,h4,h5⟩) λz=>?_;cases e:bp (l+(u-l)/2) with| true=>rw[if_pos rfl];exact⟨_,_,rfl,rfl,by grind,h3,λi hi=>up i _ (dE hi) (by grind) e,h5,ed (b8 vE vE)⟩| false=>rw[if_neg vF];exact⟨_,_,rfl,rfl,vE,by grind,h4,λi hi hj=>dn _ i hi hj e,ed (b8 vE vE)⟩
  .rintro c st' ⟨l,u,h0',h1,h2,h3,h4,h5,h6⟩;exact⟨l,u,h0',h1,vE,h3,h4,h5⟩
  .rintro c st' ⟨l,u,rfl,rfl,h2,h3,h4,h5⟩;exact hF l u (h' _ h3 (λi hi=>h4 i (bq hi h2)) h5)
 cases e0:bp hint with
 | true=>
  rw[if_pos rfl];refine a_ (gS (e_ (I:=λ(x:Nat) (c:Option (Option Nat)×Nat×Nat) (st':SortSt)=>st'=st/\c.1=none/\c.2.1<n-hint/\c.2.1<c.2.2/\x+1<=c.2.2/\bp (hint+c.2.1)=true)
   (Q:=λ(c:Option (Option Nat)×Nat×Nat) (st':SortSt)=>st'=st/\c.1=none/\c.2.1<n-hint/\c.2.1<c.2.2/\bp (hint+c.2.1)=true/\(c.2.2>=n-hint\/bp (hint+c.2.2)=false)) ?_ ?_ ⟨rfl,rfl,by dsimp only;exact Nat.sub_pos_of_lt hn,by dsimp only;lia,by dsimp only;lia,e0⟩) ?_)
  .rintro x c st' _ hx ⟨rfl,h1,h2,h3,h4,h5⟩;by_cases z:c.2.2>=n-hint
   .rw[if_pos z];exact bg ⟨rfl,rfl,h2,h3,h5,.inl z⟩
   .rw[if_neg z];refine a_ (vK hO hk hkey hks (i:=lo+(hint+c.2.2)) vE ?_);rw[eb];dsimp only;cases e:bp (hint+c.2.2) with| true=>rw[if_neg vF];exact bg ⟨rfl,rfl,by dsimp only;exact re z,by dsimp only;lia,by dsimp only;lia,e⟩| false=>rw[if_pos vF];exact bg ⟨rfl,rfl,h2,h3,h5,.inr e⟩
  .rintro c st' ⟨h0',h1,h2,h3,h4,h5⟩;exact⟨h0',h1,h2,h3,h5,.inl (iE vE)⟩
  .rintro c st' ⟨rfl,h1,h2,h3,h4,h5⟩;rw[h1];dsimp only;refine fin (hint+c.2.1+1) (hint+min c.2.2 (n-hint)) vE vE (λi hi=>up i (hint+c.2.1) (dE hi) vE h4) (λi hi hj=>?_) _ _ ?_ ?_
   .rcases h5 with z|z;.lia
    .exact dn (hint+c.2.2) i vE hj z
   .intro x l u Q' hun q1 q2;dsimp only;by_cases z:l>=u
    .rw[if_pos z];exact bg (q1 z)
    .rw[if_neg z];refine a_ (vK hO hk hkey hks (i:=lo+(l+(u-l)/2)) (by grind) ?_);rw[eb];dsimp only;have q2:=q2 (re z);cases e:bp (l+(u-l)/2) with| true=>rw[e,if_pos rfl]at q2;rw[if_pos rfl];exact bg q2| false=>rw[e,if_neg vF]at q2;rw[if_neg vF];exact bg q2
   .exact λl u q=>bg q
 | false=>
  rw[if_neg vF];refine a_ (gS (e_ (I:=λ(x:Nat) (c:Option (Option Nat)×Nat×Nat) (st':SortSt)=>st'=st/\c.1=none/\c.2.1<=hint/\c.2.1<c.2.2/\x+1<=c.2.2/\bp (hint-c.2.1)=false)
   (Q:=λ(c:Option (Option Nat)×Nat×Nat) (st':SortSt)=>st'=st/\c.1=none/\c.2.1<=hint/\c.2.1<c.2.2/\bp (hint-c.2.1)=false/\(c.2.2>=hint+1\/bp (hint-c.2.2)=true)) ?_ ?_ ⟨rfl,rfl,by dsimp only;lia,by dsimp only;lia,by dsimp only;lia,e0⟩) ?_)
  .rintro x c st' _ hx ⟨rfl,h1,h2,h3,h4,h5⟩;by_cases z:c.2.2>=hint+1
   .rw[if_pos z];exact bg ⟨rfl,rfl,h2,h3,h5,.inl z⟩
   .rw[if_neg z];refine a_ (vK hO hk hkey hks (i:=lo+(hint-c.2.2)) (by grind) ?_);rw[eb];dsimp only;cases e:bp (hint-c.2.2) with| true=>rw[if_pos rfl];exact bg ⟨rfl,rfl,h2,h3,h5,.inr e⟩| false=>rw[if_neg vF];exact bg ⟨rfl,rfl,by dsimp only;exact lv z,by dsimp only;lia,by dsimp only;lia,e⟩
  .rintro c st' ⟨h0',h1,h2,h3,h4,h5⟩;exact⟨h0',h1,h2,h3,h5,.inl vE⟩
  .rintro c st' ⟨rfl,h1,h2,h3,h4,h5⟩;rw[h1];dsimp only;refine fin (hint+1-min c.2.2 (hint+1)) (hint-c.2.1) (iE vE) (iE vE) (λi hi=>?_) (λi hi hj=>dn (hint-c.2.1) i hi hj h4) _ _ ?_ ?_
   .rcases h5 with z|z;.lia
    .exact up i (hint-c.2.2) (eP vE) (ko (ue _ _) hn) z
   .intro x l u Q' hun q1 q2;dsimp only;by_cases z:l>=u
    .rw[if_pos z];exact bg (q1 z)
    .rw[if_neg z];refine a_ (vK hO hk hkey hks (i:=lo+(l+(u-l)/2)) vE ?_);rw[eb];dsimp only;have q2:=q2 vE;cases e:bp (l+(u-l)/2) with| true=>rw[e,if_pos rfl]at q2;rw[if_pos rfl];exact bg q2| false=>rw[e,if_neg vF]at q2;rw[if_neg vF];exact bg q2
   .exact λl u q=>bg q
structure Mg (le:α->α->Prop)(a b out:List α)(i j:Nat):Prop where
 ia:i<=a.length
 jb:j<=b.length
 perm:out.Perm (a.take i++b.take j)
 up:out.Pairwise le
 Lp:∀x∈out,∀y∈a.drop i,le x y
 Lq:∀x∈out,∀y∈b.drop j,le x y
def wW (le:α->α->Prop)(a b r:List α):Prop:=r.Perm (a++b)/\r.Pairwise le
def Qq {out:List α}(h:out.Pairwise le)(l:∀y∈out,le y x):(out++[x]).Pairwise le:=by rw[fw];refine⟨h,List.pairwise_singleton _ _,λy hy z hz=>?_⟩;rw[ap.mp hz];exact l y hy
def jA {a:List α}(h:i<a.length):a.drop i=a[i]::a.drop (i+1):=(ui h)
def Qs {a:List α}(h:i<a.length):a.take (i+1)=a.take i++[a[i]]:=by rw[bz,ae h];rfl
def Qt {a:List α}(h:a.Pairwise le)(hi:i<a.length):∀y∈a.drop (i+1),le a[i] y:=λy hy=>by have h2:(a.drop i).Pairwise le:=h.sublist (gT i a);rw[jA hi]at h2;exact(gx.mp h2).1 y hy
def Mg.uD (m:Mg le a b out i j)(ha:a.Pairwise le)(hi:i<a.length)(h:∀y∈b.drop j,le a[i] y):Mg le a b (out++[a[i]]) (i+1) j:=by
 refine⟨hi,m.jb,?_,Qq m.up λy hy=>m.Lp y hy _ (by rw[jA hi];exact a6),λx hx y hy=>?_,λx hx y hy=>?_⟩
 .rw[Qs hi];refine(m.perm.append_right _).trans ?_;rw[bu,bu];exact ij _ rq
 .rcases ba.mp hx with z|z;.exact m.Lp x z y (by rw[jA hi];exact aI _ hy)
  .rw[ap.mp z];exact Qt ha hi y hy
 .rcases ba.mp hx with z|z;.exact m.Lq x z y hy
  .rw[ap.mp z];exact h y hy
def Mg.wX (m:Mg le a b out i j)(hb:b.Pairwise le)(hj:j<b.length)(h:∀y∈a.drop i,le b[j] y):Mg le a b (out++[b[j]]) i (j+1):=by
 refine⟨m.ia,hj,?_,Qq m.up λy hy=>m.Lq y hy _ (by rw[jA hj];exact a6),λx hx y hy=>?_,λx hx y hy=>?_⟩
 .rw[Qs hj,<-bu];exact m.perm.append_right _
 .rcases ba.mp hx with z|z;.exact m.Lp x z y hy
  .rw[ap.mp z];exact h y hy
 .rcases ba.mp hx with z|z;.exact m.Lq x z y (by rw[jA hj];exact aI _ hy)
  .rw[ap.mp z];exact Qt hb hj y hy
theorem Mg.zA {a b:List α}(ha:a.Pairwise le):∀(k:Nat) {out:List α} {i:Nat},Mg le a b out i j->i+k<=a.length->(∀t (ht:t<a.length),i<=t->t<i+k->∀y∈b.drop j,le a[t] y)->Mg le a b (out++(a.drop i).take k) (i+k) j
 | 0,out,i,m,_,_=>by simpa using m
 | k+1,out,i,m,hk,h=>by have hi:i<a.length:=vE;have m2:=Mg.zA ha k (m.uD ha hi (h i hi (ag _) vE)) vE λt ht h1 h2=>h t ht (ay h1) vE;rw[jA hi,sF];rw[bu,show i+1+k=i+(k+1) by lia]at m2;exact m2
theorem Mg.zB {a b:List α}(hb:b.Pairwise le):∀(k:Nat) {out:List α} {j:Nat},Mg le a b out i j->j+k<=b.length->(∀t (ht:t<b.length),j<=t->t<j+k->∀y∈a.drop i,le b[t] y)->Mg le a b (out++(b.drop j).take k) i (j+k)
 | 0,out,j,m,_,_=>by simpa using m
 | k+1,out,j,m,hk,h=>by have hj:j<b.length:=vE;have m2:=Mg.zB hb k (m.wX hb hj (h j hj (ag _) vE)) vE λt ht h1 h2=>h t ht vE vE;rw[jA hj,sF];rw[bu,show j+1+k=j+(k+1) by lia]at m2;exact m2
def Mg.done (m:Mg le a b out i j)(ha:a.Pairwise le)(hb:b.Pairwise le)(h:i=a.length\/j=b.length):wW le a b (out++a.drop i++b.drop j):=by
 refine⟨?_,?_⟩
 .have p:(out++(a.drop i++b.drop j)).Perm ((a.take i++b.take j)++(a.drop i++b.drop j)):=m.perm.append_right _;rw[bu];refine p.trans ?_;have e:a++b=(a.take i++a.drop i)++(b.take j++b.drop j):=by rw[cS,cS]
  rw[e,bu,bu];refine ij _ ?_;rw[<-bu,<-bu];exact List.Perm.append_right _ rq
 .rw[bu,fw];refine⟨m.up,?_,λx hx y hy=>?_⟩
  .rcases h with z|z;.rw[z,List.drop_length,List.nil_append];exact hb.sublist (gT _ _)
   .rw[z,List.drop_length,fq];exact ha.sublist (gT _ _)
  .rcases ba.mp hy with z|z;.exact m.Lp x hx y z
   .exact m.Lq x hx y z
def Mg.aaS (m:Mg le a b out i j)(ha:a.Pairwise le)(hb:b.Pairwise le)(h:∀x∈b.drop j,∀y∈a.drop i,le x y):wW le a b (out++b.drop j++a.drop i):=by
 refine⟨?_,?_⟩
 .have p:(out++(b.drop j++a.drop i)).Perm ((a.take i++b.take j)++(b.drop j++a.drop i)):=m.perm.append_right _;rw[bu];refine p.trans ?_;have e:a++b=(a.take i++a.drop i)++(b.take j++b.drop j):=by rw[cS,cS]
  rw[e,bu,bu];refine ij _ ?_;rw[<-bu];exact rq
 .rw[bu,fw];refine⟨m.up,?_,λx hx y hy=>?_⟩
  .rw[fw];exact⟨hb.sublist (gT _ _),ha.sublist (gT _ _),h⟩
  .rcases ba.mp hy with z|z;.exact m.Lq x hx y z
   .exact m.Lp x hx y z
def Mg.zero:Mg le a b [] 0 0:=⟨cw _,cw _,vF,.nil,λx h=>by simp at h,λx h=>by simp at h⟩
def kf (κ:PyProof.Rows.KeyKind)(p:Keyed):κ.α:=(κ.keyOf p.1).getD κ.dflt
def kL (κ:PyProof.Rows.KeyKind)(p q:Keyed):Prop:=κ.kle (kf κ p) (kf κ q)
def wY {arr:Array Keyed}(h:i<arr.size):KK κ arr i=kf κ arr[i]:=by unfold KK kf;rw[bS h]
def mL (hks:KeysOf κ arr)(h:i<arr.size):κ.keyOf arr[i].1=some (kf κ arr[i]):=by rw[tu hks h,wY h]
structure jF (st st':SortSt):Prop where
 kind:kindOf st'=kindOf st
 arr:arrOf st'=arrOf st
 pend:pendingOf st'=pendingOf st
 fail:failedOf st'=failedOf st
def jF.refl (st):jF st st:=⟨rfl,rfl,rfl,rfl⟩
def mR {a:Array Keyed}(h:a.toList.Pairwise (kL κ))(hij:i<=j)(hj:j<a.size):κ.kle (kf κ a[i]) (kf κ a[j]):=by
 rcases Nat.eq_or_lt_of_le hij with z|z;.subst z;exact gf _
 .have:=(eJ.mp h) i j (by simpa using (by exact kX z hj:i<a.size)) (by simpa using hj) z;exact(by simpa using this:kL κ a[i] a[j])
def vL {a:Array Keyed}(h:y∈a.toList.drop i):∃t,∃(ht:t<a.size),i<=t/\a[t]=y:=by
 obtain⟨t,ht,e⟩:=cx.mp h;have ht':t<a.size-i:=by simpa using ht
 exact⟨i+t,by grind,vE,by rw[<-e];simp⟩
def mU {g:Nat}{st0 st:SortSt}{Q:Unit->SortSt->Prop}(h0:jF st0 st)(h:∀st',jF st0 st'->Q () st'):wpS (model prog w) A E s ((sortPriv% PySem.Builtin.setMinGallop) g) Q st:=by exact sf (h _ ⟨h0.kind,h0.arr,h0.pend,h0.fail⟩)
def vM {β α:Type}{J:β->StateT SortSt Sem α}{C:β->Prop}{m:StateT SortSt Sem α}{R:α->SortSt->Prop}{st:SortSt}(h1:∀o,C o->wpS (model prog w) A E s (J o) R st)(h2:(∀o,C o->wpS (model prog w) A E s (J o) R st)->wpS (model prog w) A E s m R st):wpS (model prog w) A E s m R st:=h2 h1
def Ba {arr:Array Keyed}(hx:x<arr.size):jz κ false kk arr x=true↔κ.kle (kf κ arr[x]) kk:=by unfold jz;rw[if_neg vF,wY hx];unfold KeyOrd.kle;simp
def Lr {arr:Array Keyed}(hx:x<arr.size):jz κ false kk arr x=false↔κ.klt kk (kf κ arr[x]):=by unfold jz;rw[if_neg vF,wY hx];unfold KeyOrd.klt;simp
def Bb {arr:Array Keyed}(hx:x<arr.size):jz κ true kk arr x=true↔κ.klt (kf κ arr[x]) kk:=by unfold jz;rw[if_pos rfl,wY hx];rfl
def Ls {arr:Array Keyed}(hx:x<arr.size):jz κ true kk arr x=false↔κ.kle kk (kf κ arr[x]):=by unfold jz;rw[if_pos rfl,wY hx];rfl
def V2 {arr:Array Keyed}(hu:arr.toList.Pairwise (kL κ)){lo n:Nat}(hn:lo+n<=arr.size):∀i j,i<=j->j<n->jz κ false kk arr (lo+j)=true->jz κ false kk arr (lo+i)=true:=λi j hij hj h=>by rw[Ba vE]at h ⊢;exact cK (mR hu (l_ hij _) vE) h
def V3 {arr:Array Keyed}(hu:arr.toList.Pairwise (kL κ)){lo n:Nat}(hn:lo+n<=arr.size):∀i j,i<=j->j<n->jz κ true kk arr (lo+j)=true->jz κ true kk arr (lo+i)=true:=λi j hij hj h=>by rw[Bb vE]at h ⊢;exact KeyOrd.klt_of_kle_of_klt (mR hu vE vE) h
def Oz {a b:Array Keyed}{st:SortSt}{Q:Array Keyed->SortSt->Prop}(hO:ju prog w A s κ kn)(hk:kindOf st=kn)(hka:KeysOf κ a)(hkb:KeysOf κ b)(ha:a.toList.Pairwise (kL κ))(hb:b.toList.Pairwise (kL κ))(a0:0<a.size)(b0:0<b.size)(hlo:κ.kle (kf κ b[0]) (kf κ a[0]))(hhi:∀j (hj:j<b.size),κ.klt (kf κ b[j]) (kf κ a[a.size-1]))(h:∀r st',wW (kL κ) a.toList b.toList r.toList->jF st st'->Q r st'):wpS (model prog w) A E s ((sortPriv% PySem.Builtin.mergeLo) a b) Q st:=by
 have lA:∀{i},(a.extract i).toList=a.toList.drop i:=by intro i;simp;exact cq vF
 have lB:∀{i},(b.extract i).toList=b.toList.drop i:=by intro i;simp;exact cq vF
 have sA:a.toList.length=a.size:=vF;have sB:b.toList.length=b.size:=vF;have gA:∀i (hi:i<a.size),a.toList[i]'(by simpa using hi)=a[i]:=λi hi=>by simp
 have gB:∀i (hi:i<b.size),b.toList[i]'(by simpa using hi)=b[i]:=λi hi=>by simp
 have afZ:∀{i j},i+1=a.size->∀x∈b.toList.drop j,∀y∈a.toList.drop i,kL κ x y:=λ{i j} hi x hx y hy=>by
  obtain⟨t,ht,_,rfl⟩:=vL hx;obtain⟨u,hu,h1,rfl⟩:=vL hy;obtain rfl:u=a.size-1:=by first|lia|((try dsimp only);lia)
  exact dL (hhi t ht)
 have mpA:∀{out:Array Keyed} {i j:Nat},Mg (kL κ) a.toList b.toList out.toList i j->(hi:i<a.size)->(∀u (hu:u<b.size),j<=u->κ.kle (kf κ a[i]) (kf κ b[u]))->Mg (kL κ) a.toList b.toList (out.push a[i]).toList (i+1) j:=λ{out i j} m hi q=>by
  have:=m.uD ha (by simpa using hi) λy hy=>by obtain⟨u,hu,h1,rfl⟩:=vL hy;rw[gA i hi];exact q u hu h1
  rw[gA i hi]at this;simpa using this
 have mpB:∀{out:Array Keyed} {i j:Nat},Mg (kL κ) a.toList b.toList out.toList i j->(hj:j<b.size)->(∀u (hu:u<a.size),i<=u->κ.kle (kf κ b[j]) (kf κ a[u]))->Mg (kL κ) a.toList b.toList (out.push b[j]).toList i (j+1):=λ{out i j} m hj q=>by
  have:=m.wX hb (by simpa using hj) λy hy=>by obtain⟨u,hu,h1,rfl⟩:=vL hy;rw[gB j hj];exact q u hu h1
  rw[gB j hj]at this;simpa using this
 have mbA:∀{out:Array Keyed} {i j k:Nat},Mg (kL κ) a.toList b.toList out.toList i j->i+k<=a.size->(∀t (ht:t<a.size),i<=t->t<i+k->∀u (hu:u<b.size),j<=u->κ.kle (kf κ a[t]) (kf κ b[u]))->Mg (kL κ) a.toList b.toList (out++a.extract i (i+k)).toList (i+k) j:=λ{out i j k} m hk q=>by
  have:=Mg.zA ha k m (by simpa using hk) λt ht h1 h2 y hy=>by
   obtain⟨u,hu,h3,rfl⟩:=vL hy;have ht':t<a.size:=by simpa using ht
   rw[gA t ht'];exact q t ht' h1 h2 u hu h3
  rw[fb];have e:(a.extract i (i+k)).toList=(a.toList.drop i).take k:=vF;rw[e];exact this
 have mbB:∀{out:Array Keyed} {i j k:Nat},Mg (kL κ) a.toList b.toList out.toList i j->j+k<=b.size->(∀t (ht:t<b.size),j<=t->t<j+k->∀u (hu:u<a.size),i<=u->κ.kle (kf κ b[t]) (kf κ a[u]))->Mg (kL κ) a.toList b.toList (out++b.extract j (j+k)).toList i (j+k):=λ{out i j k} m hk q=>by
  have:=Mg.zB hb k m (by simpa using hk) λt ht h1 h2 y hy=>by
   obtain⟨u,hu,h3,rfl⟩:=vL hy;have ht':t<b.size:=by simpa using ht
   rw[gB t ht'];exact q t ht' h1 h2 u hu h3
  rw[fb];have e:(b.extract j (j+k)).toList=(b.toList.drop j).take k:=vF;rw[e];exact this
 have wZ:∀{out:Array Keyed} {i j:Nat} {st':SortSt},jF st st'->Mg (kL κ) a.toList b.toList out.toList i j->(i=a.size\/j=b.size)->Q (out++a.extract i++b.extract j) st':=λ{out i j st'} e m z=>by refine h _ _ ?_ e;rw[fb,fb,lA,lB];exact m.done ha hb (by rw[sA,sB];exact z)
 have fin2:∀{out:Array Keyed} {i j:Nat} {st':SortSt},jF st st'->Mg (kL κ) a.toList b.toList out.toList i j->i+1=a.size->Q (out++b.extract j++a.extract i) st':=λ{out i j st'} e m z=>by refine h _ _ ?_ e;rw[fb,fb,lA,lB];exact m.aaS ha hb (afZ z)
 show wpS _ _ _ _ (_ >>= _) _ _;refine a_ (wpS_lift (ge ⟨rfl,?_⟩))
 skip
 refine a_ (cI b0 ?_);have m0:Mg (kL κ) a.toList b.toList (#[b[0]]:Array Keyed).toList 0 1:=by have:=mpB (out:=#[]) (i:=0) (j:=0) Mg.zero b0 λu hu _=>cK hlo (mR ha (cw _) hu);simpa using this
 skip
 by_cases z1:1=b.size
 .refine bA (by simpa using z1) ?_;exact bg (wZ (jF.refl _) m0 (.inr z1))
 refine bf (by simpa using z1) ?_;by_cases z2:0+1=a.size
 .refine bA (by simpa using z2) ?_;exact bg (fin2 (jF.refl _) m0 z2)
 refine bf (by simpa using z2) ?_;refine a_ (o6 ?_)
 skip
 refine a_ (gS (e_ (I:=λ(x:Nat) (c:Option (Array Keyed)×Array Keyed×Nat×Nat×Nat) (st':SortSt)=>∃out i j g,c=(none,out,i,j,g)/\jF st st'/\Mg (kL κ) a.toList b.toList out.toList i j/\i+1<a.size/\j<b.size/\x+1<=i+j)
  (Q:=λ(c:Option (Array Keyed)×Array Keyed×Nat×Nat×Nat) (st':SortSt)=>∃r q,c=(some r,q)/\Q r st') ?_ ?_ ⟨_,_,_,_,rfl,jF.refl _,m0,wc,wc,wc⟩) ?_)
 .rintro x c st1 _ hx ⟨out,i,j,g,rfl,e1,m1,hi,hj,hc⟩
  try conv=>arg 5;dsimp -zeta only
  refine a_ (gS (e_ (I:=λ(y:Nat) (c:Option (Array Keyed)×Array Keyed×Nat×Nat×Nat×Nat) (st':SortSt)=>∃out i' j' p q,c=(none,out,i',j',p,q)/\jF st st'/\Mg (kL κ) a.toList b.toList out.toList i' j'/\i'+1<a.size/\j'<b.size/\i+j+y<=i'+j')
   (Q:=λ(c:Option (Array Keyed)×Array Keyed×Nat×Nat×Nat×Nat) (st':SortSt)=>(∃r q,c=(some r,q)/\Q r st')\/∃out i' j' p q,c=(none,out,i',j',p,q)/\jF st st'/\Mg (kL κ) a.toList b.toList out.toList i' j'/\i'+1<a.size/\j'<b.size/\i+j+1<=i'+j') ?_ ?_ ⟨_,_,_,_,_,rfl,e1,m1,hi,hj,wc⟩) ?_)
  .rintro y c st2 _ hy ⟨out,i,j,p,q,rfl,e2,m2,hi,hj,hc⟩
   try conv=>arg 5;dsimp -zeta only
   refine a_ (cI hj (a_ (cI (show i<a.size from ay hi) ?_)));refine a_ (zy hO (by rw[e2.kind];exact hk) (mL hkb hj) (mL hka wc) ?_)
   try conv=>arg 5;dsimp -zeta only
   cases e:κ.blt (kf κ b[j]) (kf κ a[i]) with
   | true=>
    refine bA rfl ?_;refine a_ (cI hj ?_)
    try conv=>arg 5;dsimp -zeta only
    have m3:=mpB m2 hj λu hu h1=>cK (dL e) (mR ha h1 hu);by_cases z:j+1=b.size
    .refine bA (by simpa using z) ?_;exact bg (.inl ⟨_,_,rfl,wZ e2 m3 (.inr z)⟩)
    .refine bf (by simpa using z) ?_;by_cases z':q+1>=g
     .refine bA z' ?_;exact bg (.inr ⟨_,_,_,_,_,rfl,e2,m3,hi,wc,wc⟩)
     .refine bf z' ?_;exact bg ⟨_,_,_,_,_,rfl,e2,m3,hi,wc,wc⟩
   | false=>
    refine bf vF ?_;refine a_ (cI (show i<a.size by first|lia|((try dsimp only);lia)) ?_)
    try conv=>arg 5;dsimp -zeta only
    have m3:=mpA m2 (show i<a.size by first|lia|((try dsimp only);lia)) λu hu h1=>cK (show κ.kle _ _ from e) (mR hb h1 hu);by_cases z:i+1+1=a.size
    .refine bA (by simpa using z) ?_;exact bg (.inl ⟨_,_,rfl,fin2 e2 m3 z⟩)
    .refine bf (by simpa using z) ?_;by_cases z':p+1>=g
     .refine bA z' ?_;exact bg (.inr ⟨_,_,_,_,_,rfl,e2,m3,wc,hj,wc⟩)
     .refine bf z' ?_;exact bg ⟨_,_,_,_,_,rfl,e2,m3,wc,hj,wc⟩
  .rintro c st2 ⟨out,i',j',p,q,rfl,e2,m2,hi',hj',hc'⟩;exfalso;lia
  .rintro c st2 (⟨r,q,rfl,hq⟩|⟨out,i',j',p,q,rfl,e2,m2,hi',hj',hc'⟩)
   .try conv=>arg 5;dsimp -zeta only
    exact bg ⟨_,_,rfl,hq⟩
   .try conv=>arg 5;dsimp -zeta only
    refine a_ (wpS_lift (ge ⟨rfl,?_⟩))
    try conv=>arg 5;dsimp -zeta only
    refine a_ (gS (e_ (I:=λ(y:Nat) (c:Option (Array Keyed)×Array Keyed×Nat×Nat×Nat×Nat×Nat) (st':SortSt)=>∃out i2 j2 g p q,c=(none,out,i2,j2,g,p,q)/\jF st st'/\Mg (kL κ) a.toList b.toList out.toList i2 j2/\i2+1<a.size/\j2<b.size/\i'+j'+y<=i2+j2)
     (Q:=λ(c:Option (Array Keyed)×Array Keyed×Nat×Nat×Nat×Nat×Nat) (st':SortSt)=>(∃r q,c=(some r,q)/\Q r st')\/∃out i2 j2 g p q,c=(none,out,i2,j2,g,p,q)/\jF st st'/\Mg (kL κ) a.toList b.toList out.toList i2 j2/\i2+1<a.size/\j2<b.size/\i'+j'<=i2+j2) ?_ ?_ ⟨_,_,_,_,_,_,rfl,e2,m2,hi',hj',wc⟩) ?_)
    .rintro y c st3 _ hy ⟨out,i,j,g,p,q,rfl,e3,m3,hi,hj,hc⟩
     try conv=>arg 5;dsimp -zeta only
     extract_lets -underBinder +onlyGivenNames l1 l2 l3 l4 l5 l6 l7 l8 l9 l10 l11 jp1
     have q4:l4=i:=rfl;have q4b:l3.fst=i:=rfl;have q6:l6=j:=rfl;have q6b:l5.fst=j:=rfl;have q8:l8=g:=rfl;have q8b:l7.fst=g:=rfl;refine vM (J:=λg':Nat=>jp1 () g') (C:=λ_=>True) (λg' _=>?_) (λhJ=>?_)
     rotate_left
     .by_cases z:g > 1
      .refine bA z ?_;exact hJ (g-1) trivial
      .refine bf z ?_;exact hJ g trivial
     try conv=>arg 5;dsimp -zeta only
     refine a_ (mU e3 λeE e4=>?_);refine a_ (cI hj ?_);refine a_ (lV hO (by rw[e4.kind];exact hk) (mL hkb hj) hka (Nat.sub_pos_of_lt vE) (by grind) (V2 ha wc) λk hk1 hk2 hk3=>?_);have kA:∀t (ht:t<a.size),i<=t->t<i+k->κ.kle (kf κ a[t]) (kf κ b[j]):=λt ht h1 h2=>by have:=hk2 (t-i) (by grind);rw[show i+(t-i)=t from me h1,Ba ht]at this;exact this
     have kB:∀t (ht:t<a.size),i+k<=t->κ.klt (kf κ b[j]) (kf κ a[t]):=λt ht h1=>by have:=hk3 (t-i) (by exact eP (by simp +arith [*])) wc;rw[show i+(t-i)=t by first|lia|((try dsimp only);lia),Lr ht]at this;exact this
     have hkl:i+k<a.size:=by
      rcases cn (i+k) a.size with z|z;.exact z
      .have h1:=kA (a.size-1) (by grind) (eP vE) (by grind);exact absurd (hhi j hj) (rL h1)
     try conv=>arg 5;dsimp -zeta only
     extract_lets -underBinder +onlyGivenNames ac jp2
     refine vM (J:=λo:Array Keyed×Nat=>jp2 () o.1 o.2) (C:=λo=>Mg (kL κ) a.toList b.toList o.1.toList o.2 j/\o.2=i+k/\o.2+1<a.size) (λo ho=>?_) (λhJ=>?_)
     .obtain⟨o1,o2⟩:=o;obtain⟨mo,eo,rG⟩:=ho;have eo:o2=i+k:=eo;subst eo;have mo:Mg (kL κ) a.toList b.toList o1.toList (i+k) j:=mo;have rG:i+k+1<a.size:=rG
      try conv=>arg 5;dsimp -zeta only
      refine a_ (cI hj ?_)
      try conv=>arg 5;dsimp -zeta only
      have m5:=mpB mo hj λu hu h1=>dL (kB u hu h1);by_cases z:j+1=b.size
      .refine bA (by simpa using z) ?_;exact bg (.inl ⟨_,_,rfl,wZ e4 m5 (.inr z)⟩)
      refine bf (by simpa using z) ?_;refine a_ (cI hkl ?_);refine a_ (lV hO (by rw[e4.kind];exact hk) (mL hka hkl) hkb (eP vE) (by grind) (V3 hb wc) λk2 h1 h2 h3=>?_);have lb:∀t (ht:t<b.size),j+1<=t->t<j+1+k2->κ.klt (kf κ b[t]) (kf κ a[i+k]):=λt ht q1 q2=>by have:=h2 (t-(j+1)) (by grind);rw[show j+1+(t-(j+1))=t from me q1,Bb ht]at this;exact this
      have la:∀t (ht:t<b.size),j+1+k2<=t->κ.kle (kf κ a[i+k]) (kf κ b[t]):=λt ht q1=>by have:=h3 (t-(j+1)) wc wc;rw[show j+1+(t-(j+1))=t by first|lia|((try dsimp only);lia),Ls ht]at this;exact this
      try conv=>arg 5;dsimp -zeta only
      extract_lets -underBinder +onlyGivenNames bc jp3
      refine vM (J:=λo:Array Keyed×Nat=>jp3 () o.1 o.2) (C:=λo=>Mg (kL κ) a.toList b.toList o.1.toList (i+k) o.2/\o.2=j+1+k2/\o.2<b.size) (λo ho=>?_) (λhJ=>?_)
      .obtain⟨o1,o2⟩:=o;obtain⟨mo,eo,rG⟩:=ho;have eo:o2=j+1+k2:=eo;subst eo;have mo:Mg (kL κ) a.toList b.toList o1.toList (i+k) (j+1+k2):=mo;have rG:j+1+k2<b.size:=rG
       try conv=>arg 5;dsimp -zeta only
       refine a_ (cI hkl ?_)
       try conv=>arg 5;dsimp -zeta only
       have m6:=mpA mo hkl λu hu h1=>la u hu h1;by_cases z:i+k+1+1=a.size
       .refine bA (by simpa using z) ?_;exact bg (.inl ⟨_,_,rfl,fin2 e4 m6 z⟩)
       refine bf (by simpa using z) ?_;by_cases z':(decide (k<7)&&decide (k2<7))=true
       .refine bA z' ?_;exact bg (.inr ⟨_,_,_,_,_,_,rfl,e4,m6,wc,rG,wc⟩)
       .refine bf z' ?_;exact bg ⟨_,_,_,_,_,_,rfl,e4,m6,wc,rG,wc⟩
      .by_cases z3:k2 > 0
       .refine bA z3 ?_
        try conv=>arg 5;dsimp -zeta only
        have m6:=mbB (k:=k2) m5 wc λt ht q1 q2 u hu q3=>dL (oB (lb t ht q1 q2) (mR ha q3 hu));by_cases z4:j+1+k2=b.size
        .refine bA (by simpa using z4) ?_;exact bg (.inl ⟨_,_,rfl,wZ e4 m6 (.inr z4)⟩)
        .refine bf (by simpa using z4) ?_;exact hJ (_,_) ⟨m6,rfl,by dsimp only;lia⟩
       .refine bf z3 ?_;obtain rfl:k2=0:=Nat.eq_zero_of_not_pos z3;exact hJ (_,_) ⟨m5,rfl,by dsimp only;lia⟩
     .by_cases z3:k > 0
      .refine bA z3 ?_
       try conv=>arg 5;dsimp -zeta only
       have m6:=mbA (k:=k) m3 (ay hkl) λt ht q1 q2 u hu q3=>cK (kA t ht q1 q2) (mR hb q3 hu);by_cases z4:i+k+1=a.size
       .refine bA (by simpa using z4) ?_;exact bg (.inl ⟨_,_,rfl,fin2 e4 m6 z4⟩)
       .refine bf (by simpa using z4) ?_;refine bf (by simp;exact be hkl) ?_;exact hJ (_,_) ⟨m6,rfl,by dsimp only;lia⟩
      .refine bf z3 ?_;obtain rfl:k=0:=by first|lia|((try dsimp only);lia)
       exact hJ (_,_) ⟨m3,rfl,by dsimp only;lia⟩
    .rintro c st3 ⟨out,i2,j2,g,p,q,rfl,e3,m3,hi2,hj2,hc2⟩;exfalso;lia
    .rintro c st3 (⟨r,q,rfl,hq⟩|⟨out,i2,j2,g,p,q,rfl,e3,m3,hi2,hj2,hc2⟩)
     .try conv=>arg 5;dsimp -zeta only
      exact bg ⟨_,_,rfl,hq⟩
     .try conv=>arg 5;dsimp -zeta only
      refine a_ (mU e3 λeE e4=>?_);exact bg ⟨_,_,_,_,rfl,e4,m3,hi2,hj2,wc⟩
 .rintro c st1 ⟨out,i,j,g,rfl,e1,m1,hi,hj,hc⟩;exfalso;lia
 .rintro c st1 ⟨r,q,rfl,hq⟩;exact bg hq
structure gC (κ:PyProof.Rows.KeyKind)(a b out:Array Keyed)(n m:Nat):Prop where
 na:n<=a.size
 mb:m<=b.size
 mg:Mg (λx y=>kL κ y x) b.toList.reverse a.toList.reverse out.toList (b.size-m) (a.size-n)
def vN {a:Array Keyed}(h:a.toList.Pairwise (kL κ)):a.toList.reverse.Pairwise (λx y=>kL κ y x):=by rw[List.pairwise_reverse];exact h
def tD {a:Array Keyed}(h:n<=a.size):a.toList.reverse.drop (a.size-n)=(a.toList.take n).reverse:=by rw[List.drop_reverse];congr 2;simp;exact gr h
def Ep {a:Array Keyed}(hn:n<=a.size)(h:y∈a.toList.reverse.drop (a.size-n)):∃u,∃(hu:u<a.size),u<n/\a[u]=y:=by
 rw[tD hn,uA]at h;obtain⟨t,ht,e⟩:=cx.mp h;have ht':t<n:=by have:=ht;simp at this;simp_all
 exact⟨t,bq ht' hn,ht',by rw[<-e];simp⟩
def V4 {a:Array Keyed}(h0:0<n)(hn:n<=a.size):∃h:a.size-n<a.toList.reverse.length,a.toList.reverse[a.size-n]=a[n-1]:=by refine⟨by simp;exact b8 vE vE,?_⟩;rw[List.getElem_reverse];simp only[Array.getElem_toList,bo];congr 1;lia
def gC.uD (g:gC κ a b out n m)(ha:a.toList.Pairwise (kL κ))(h0:0<n)(hl:n-1<a.size)(h:∀u (hu:u<b.size),u<m->κ.kle (kf κ b[u]) (kf κ a[n-1])):gC κ a b (out.push a[n-1]) (n-1) m:=by
 obtain⟨h1,e1⟩:=V4 h0 g.na;have:=g.mg.wX (vN ha) h1 λy hy=>by obtain⟨u,hu,h2,rfl⟩:=Ep g.mb hy;rw[e1];exact h u hu h2
 rw[e1]at this;have hn:=g.na;refine⟨ay hl,g.mb,?_⟩;rw[show a.size-(n-1)=a.size-n+1 from eQ vE];simpa using this
def gC.wX (g:gC κ a b out n m)(hb:b.toList.Pairwise (kL κ))(h0:0<m)(hl:m-1<b.size)(h:∀u (hu:u<a.size),u<n->κ.kle (kf κ a[u]) (kf κ b[m-1])):gC κ a b (out.push b[m-1]) n (m-1):=by
 obtain⟨h1,e1⟩:=V4 h0 g.mb;have:=g.mg.uD (vN hb) h1 λy hy=>by obtain⟨u,hu,h2,rfl⟩:=Ep g.na hy;rw[e1];exact h u hu h2
 rw[e1]at this;have hm:=g.mb;refine⟨g.na,vE,?_⟩;rw[show b.size-(m-1)=b.size-m+1 by lia];simpa using this
theorem gC.zA {a b:Array Keyed}(ha:a.toList.Pairwise (kL κ)):∀(k:Nat) {out:Array Keyed} {n:Nat},gC κ a b out n m->k<=n->(∀t (ht:t<a.size),n-k<=t->t<n->∀u (hu:u<b.size),u<m->κ.kle (kf κ b[u]) (kf κ a[t]))->gC κ a b (out++(a.extract (n-k) n).reverse) (n-k) m
 | 0,out,n,g,_,_=>by
  have e:(a.extract (n-0) n).reverse=#[]:=by simp;exact om _ _
  rw[e];simpa using g
 | k+1,out,n,g,hk,h=>by
  have hn:=g.na;have g2:=gC.zA ha k (g.uD ha vE (b8 vE vE) (h (n-1) vE (Nat.sub_le_sub_left vE _) (uj vE vE))) (tP hk) λt ht h1 h2=>h t ht vE vE;have e:out++(a.extract (n-(k+1)) n).reverse=out.push a[n-1]++(a.extract (n-1-k) (n-1)).reverse:=by
   apply lh.mp;rw[fb,fb,kM,bu];congr 1;rw[nI,nI,show n-1-k=n-(k+1) by lia];have e2:a.extract (n-(k+1)) n=(a.extract (n-(k+1)) (n-1)).push a[n-1]:=by
    apply Array.ext;.simp;lia
    .intro i h1 h2;simp at h1 h2;rw[Array.getElem_push];split;.simp
     .rename_i z;simp at z;simp;congr 1
      (simp[fe,gh]at *;lia)
   rw[e2,kM,sN];rfl
  rw[e,show n-(k+1)=n-1-k by lia];exact g2
theorem gC.zB {a b:Array Keyed}(hb:b.toList.Pairwise (kL κ)):∀(k:Nat) {out:Array Keyed} {m:Nat},gC κ a b out n m->k<=m->(∀t (ht:t<b.size),m-k<=t->t<m->∀u (hu:u<a.size),u<n->κ.kle (kf κ a[u]) (kf κ b[t]))->gC κ a b (out++(b.extract (m-k) m).reverse) n (m-k)
 | 0,out,m,g,_,_=>by
  have e:(b.extract (m-0) m).reverse=#[]:=by simp;lia
  rw[e];simpa using g
 | k+1,out,m,g,hk,h=>by
  have hm:=g.mb;have g2:=gC.zB hb k (g.wX hb vE vE (h (m-1) vE vE vE)) vE λt ht h1 h2=>h t ht vE vE;have e:out++(b.extract (m-(k+1)) m).reverse=out.push b[m-1]++(b.extract (m-1-k) (m-1)).reverse:=by
   apply lh.mp;rw[fb,fb,kM,bu];congr 1;rw[nI,nI,show m-1-k=m-(k+1) by lia];have e2:b.extract (m-(k+1)) m=(b.extract (m-(k+1)) (m-1)).push b[m-1]:=by
    apply Array.ext;.simp;lia
    .intro i h1 h2;simp at h1 h2;rw[Array.getElem_push];split;.simp
     .rename_i z;simp at z;simp;congr 1;lia
   rw[e2,kM,sN];rfl
  rw[e,show m-(k+1)=m-1-k by lia];exact g2
def Qu {a b r:Array Keyed}(h:wW (λx y=>kL κ y x) b.toList.reverse a.toList.reverse r.toList.reverse):wW (kL κ) a.toList b.toList r.toList:=by refine⟨?_,List.pairwise_reverse.mp h.2⟩;refine(List.reverse_perm r.toList).symm.trans (h.1.trans ?_);rw[<-sN];exact List.reverse_perm _
def gC.done (g:gC κ a b out n m)(ha:a.toList.Pairwise (kL κ))(hb:b.toList.Pairwise (kL κ))(h:n=0\/m=0):wW (kL κ) a.toList b.toList (a.extract 0 n++b.extract 0 m++out.reverse).toList:=by refine Qu ?_;have:=g.mg.done (vN hb) (vN ha) (by simp;lia);rw[tD g.na,tD g.mb]at this;simpa using this
def gC.aem (g:gC κ a b out n m)(ha:a.toList.Pairwise (kL κ))(hb:b.toList.Pairwise (kL κ))(h:∀u (hu:u<b.size),u<m->∀t (ht:t<a.size),t<n->κ.kle (kf κ b[u]) (kf κ a[t])):wW (kL κ) a.toList b.toList (b.extract 0 m++a.extract 0 n++out.reverse).toList:=by
 refine Qu ?_;have:=g.mg.aaS (vN hb) (vN ha) λx hx y hy=>by obtain⟨t,ht,h2,rfl⟩:=Ep g.na hx;obtain⟨u,hu,h1,rfl⟩:=Ep g.mb hy;exact h u hu h1 t ht h2
 rw[tD g.na,tD g.mb]at this;simpa using this
def gC.zero:gC κ a b #[] a.size b.size:=⟨ag _,ag _,by rw[lx,lx];exact Mg.zero⟩
def OD {a b:Array Keyed}{st:SortSt}{Q:Array Keyed->SortSt->Prop}(hO:ju prog w A s κ kn)(hk:kindOf st=kn)(hka:KeysOf κ a)(hkb:KeysOf κ b)(ha:a.toList.Pairwise (kL κ))(hb:b.toList.Pairwise (kL κ))(a0:0<a.size)(b0:0<b.size)(hlo:κ.klt (kf κ b[0]) (kf κ a[0]))(hhi:∀j (hj:j<b.size),κ.kle (kf κ b[j]) (kf κ a[a.size-1]))(h:∀r st',wW (kL κ) a.toList b.toList r.toList->jF st st'->Q r st'):wpS (model prog w) A E s ((sortPriv% PySem.Builtin.mergeHi) a b) Q st:=by
 have hlow:∀t (ht:t<a.size),κ.klt (kf κ b[0]) (kf κ a[t]):=λt ht=>oB hlo (mR ha (cw _) ht);have wZ:∀{out:Array Keyed} {n m:Nat} {st':SortSt},jF st st'->gC κ a b out n m->(n=0\/m=0)->Q (a.extract 0 n++b.extract 0 m++out.reverse) st':=λ{out n m st'} e g z=>h _ _ (g.done ha hb z) e;have fin2:∀{out:Array Keyed} {n m:Nat} {st':SortSt},jF st st'->gC κ a b out n m->m=1->Q (b.extract 0 m++a.extract 0 n++out.reverse) st':=λ{out n m st'} e g z=>h _ _ (g.aem ha hb λu hu h1 t ht h2=>by
  obtain rfl:u=0:=by first|lia|((try dsimp only);lia)
  exact dL (hlow t ht)) e
 show wpS _ _ _ _ (_ >>= _) _ _;refine a_ (wpS_lift (ge ⟨rfl,?_⟩))
 skip
 try conv=>arg 5;dsimp -zeta only
 refine a_ (cI (show a.size-1<a.size by first|lia|((try dsimp only);lia)) ?_);have m0:gC κ a b (#[a[a.size-1]]:Array Keyed) (a.size-1) b.size:=by have:=gC.uD (gC.zero (κ:=κ) (a:=a) (b:=b)) ha a0 wc λu hu _=>hhi u hu;simpa using this
 try conv=>arg 5;dsimp -zeta only
 by_cases z1:a.size-1=0
 .refine bA (by simpa using z1) ?_;exact bg (wZ (jF.refl _) m0 (.inl z1))
 refine bf (by simpa using z1) ?_;by_cases z2:b.size=1
 .refine bA (by simpa using z2) ?_;exact bg (fin2 (jF.refl _) m0 z2)
 refine bf (by simpa using z2) ?_;refine a_ (o6 ?_)
 try conv=>arg 5;dsimp -zeta only
 refine a_ (gS (e_ (I:=λ(x:Nat) (c:Option (Array Keyed)×Nat×Nat×Array Keyed×Nat) (st':SortSt)=>∃n m out g,c=(none,n,m,out,g)/\jF st st'/\gC κ a b out n m/\1<=n/\2<=m/\n+m+x+1<=a.size+b.size)
  (Q:=λ(c:Option (Array Keyed)×Nat×Nat×Array Keyed×Nat) (st':SortSt)=>∃r q,c=(some r,q)/\Q r st') ?_ ?_ ⟨_,_,_,_,rfl,jF.refl _,m0,wc,wc,wc⟩) ?_)
 .rintro x c st1 _ hx ⟨n,m,out,g,rfl,e1,m1,hn,hm,hc⟩
  try conv=>arg 5;dsimp -zeta only
  refine a_ (gS (e_ (I:=λ(y:Nat) (c:Option (Array Keyed)×Nat×Nat×Array Keyed×Nat×Nat) (st':SortSt)=>∃n' m' out p q,c=(none,n',m',out,p,q)/\jF st st'/\gC κ a b out n' m'/\1<=n'/\2<=m'/\n'+m'+y<=n+m)
   (Q:=λ(c:Option (Array Keyed)×Nat×Nat×Array Keyed×Nat×Nat) (st':SortSt)=>(∃r q,c=(some r,q)/\Q r st')\/∃n' m' out p q,c=(none,n',m',out,p,q)/\jF st st'/\gC κ a b out n' m'/\1<=n'/\2<=m'/\n'+m'+1<=n+m) ?_ ?_ ⟨_,_,_,_,_,rfl,e1,m1,hn,hm,wc⟩) ?_)
  .rintro y c st2 _ hy ⟨n,m,out,p,q,rfl,e2,m2,hn,hm,hc⟩;have hna:=m2.na;have hmb:=m2.mb;have ln:n-1<a.size:=b8 vE vE;have lm:m-1<b.size:=b8 vE vE
   try conv=>arg 5;dsimp -zeta only
   refine a_ (cI lm (a_ (cI ln ?_)));refine a_ (zy hO (by rw[e2.kind];exact hk) (mL hkb lm) (mL hka ln) ?_)
   try conv=>arg 5;dsimp -zeta only
   cases e:κ.blt (kf κ b[m-1]) (kf κ a[n-1]) with
   | true=>
    refine bA rfl ?_
    try conv=>arg 5;dsimp -zeta only
    refine a_ (cI ln ?_)
    try conv=>arg 5;dsimp -zeta only
    have m3:=m2.uD ha hn ln λu hu h1=>cK (mR hb (show u<=m-1 from ed h1) lm) (dL e);by_cases z:n-1=0
    .refine bA (by simpa using z) ?_;exact bg (.inl ⟨_,_,rfl,wZ e2 m3 (.inl z)⟩)
    .refine bf (by simpa using z) ?_;by_cases z':p+1>=g
     .refine bA z' ?_;exact bg (.inr ⟨_,_,_,_,_,rfl,e2,m3,wc,hm,wc⟩)
     .refine bf z' ?_;exact bg ⟨_,_,_,_,_,rfl,e2,m3,wc,hm,wc⟩
   | false=>
    refine bf vF ?_
    try conv=>arg 5;dsimp -zeta only
    refine a_ (cI lm ?_)
    try conv=>arg 5;dsimp -zeta only
    have m3:=m2.wX hb (ay hm) lm λu hu h1=>cK (mR ha (show u<=n-1 from ed h1) ln) (show κ.kle _ _ from e);by_cases z:m-1=1
    .refine bA (by simpa using z) ?_;exact bg (.inl ⟨_,_,rfl,fin2 e2 m3 z⟩)
    .refine bf (by simpa using z) ?_;by_cases z':q+1>=g
     .refine bA z' ?_;exact bg (.inr ⟨_,_,_,_,_,rfl,e2,m3,hn,wc,wc⟩)
     .refine bf z' ?_;exact bg ⟨_,_,_,_,_,rfl,e2,m3,hn,wc,wc⟩
  .rintro c st2 ⟨n',m',out,p,q,rfl,e2,m2,hn',hm',hc'⟩;exfalso;lia
  .rintro c st2 (⟨r,q,rfl,hq⟩|⟨n',m',out,p,q,rfl,e2,m2,hn',hm',hc'⟩)
   .try conv=>arg 5;dsimp -zeta only
    exact bg ⟨_,_,rfl,hq⟩
   .try conv=>arg 5;dsimp -zeta only
    refine a_ (wpS_lift (ge ⟨rfl,?_⟩))
    try conv=>arg 5;dsimp -zeta only
    refine a_ (gS (e_ (I:=λ(y:Nat) (c:Option (Array Keyed)×Nat×Nat×Array Keyed×Nat×Nat×Nat) (st':SortSt)=>∃n2 m2 out g p q,c=(none,n2,m2,out,g,p,q)/\jF st st'/\gC κ a b out n2 m2/\1<=n2/\2<=m2/\n2+m2+y<=n'+m')
     (Q:=λ(c:Option (Array Keyed)×Nat×Nat×Array Keyed×Nat×Nat×Nat) (st':SortSt)=>(∃r q,c=(some r,q)/\Q r st')\/∃n2 m2 out g p q,c=(none,n2,m2,out,g,p,q)/\jF st st'/\gC κ a b out n2 m2/\1<=n2/\2<=m2/\n2+m2<=n'+m') ?_ ?_ ⟨_,_,_,_,_,_,rfl,e2,m2,hn',hm',wc⟩) ?_)
    .rintro y c st3 _ hy ⟨n,m,out,g,p,q,rfl,e3,m3,hn,hm,hc⟩;have hna:=m3.na;have hmb:=m3.mb;have ln:n-1<a.size:=by first|lia|((try dsimp only);lia)
     have lm:m-1<b.size:=by first|lia|((try dsimp only);lia)
     try conv=>arg 5;dsimp -zeta only
     extract_lets -underBinder +onlyGivenNames l1 l2 l3 l4 l5 l6 l7 l8 l9 l10 l11 jp1
     have q4:l2=n:=rfl;have q4b:l1.fst=n:=rfl;have q6:l4=m:=rfl;have q6b:l3.fst=m:=rfl;have q8:l8=g:=rfl;have q8b:l7.fst=g:=rfl;refine vM (J:=λg':Nat=>jp1 () g') (C:=λ_=>True) (λg' _=>?_) (λhJ=>?_)
     rotate_left
     .by_cases z:g > 1
      .refine bA z ?_;exact hJ (g-1) trivial
      .refine bf z ?_;exact hJ g trivial
     try conv=>arg 5;dsimp -zeta only
     refine a_ (mU e3 λeE e4=>?_);refine a_ (cI lm ?_);refine a_ (lV hO (by rw[e4.kind];exact hk) (mL hkb lm) hka (uj vE vE) (by simp[*]) (V2 ha wc) λk hk1 hk2 hk3=>?_);have kA:∀t (ht:t<a.size),t<k->κ.kle (kf κ a[t]) (kf κ b[m-1]):=λt ht h1=>by have:=hk2 t h1;rw[gt,Ba ht]at this;exact this
     have kB:∀t (ht:t<a.size),k<=t->t<n->κ.klt (kf κ b[m-1]) (kf κ a[t]):=λt ht h1 h2=>by have:=hk3 t h1 h2;rw[gt,Lr ht]at this;exact this
     try conv=>arg 5;dsimp -zeta only
     extract_lets -underBinder +onlyGivenNames kx ac jp2
     have q10:kx=n-k:=rfl;have q11:ac=n-k:=rfl;refine vM (J:=λo:Nat×Array Keyed=>jp2 () o.1 o.2) (C:=λo=>gC κ a b o.2 o.1 m/\o.1=k/\1<=o.1) (λo ho=>?_) (λhJ=>?_)
     .obtain⟨o1,o2⟩:=o;obtain⟨mo,eo,rG⟩:=ho;have eo:o1=k:=eo;subst eo;have mo:gC κ a b o2 o1 m:=mo;have rG:1<=o1:=rG;have lk:o1-1<a.size:=b8 vE vE
      try conv=>arg 5;dsimp -zeta only
      try conv=>arg 5;dsimp -zeta only
      refine a_ (cI lm ?_)
      try conv=>arg 5;dsimp -zeta only
      have m5:=mo.wX hb wc lm λu hu h1=>kA u hu h1;by_cases z:m-1=1
      .refine bA (by simpa using z) ?_;exact bg (.inl ⟨_,_,rfl,fin2 e4 m5 z⟩)
      refine bf (by simpa using z) ?_;refine a_ (cI lk ?_);refine a_ (lV hO (by rw[e4.kind];exact hk) (mL hka lk) hkb (by grind) wc (V3 hb wc) λk2 h1 h2 h3=>?_);have lb:∀t (ht:t<b.size),t<k2->κ.klt (kf κ b[t]) (kf κ a[o1-1]):=λt ht q1=>by have:=h2 t q1;rw[gt,Bb ht]at this;exact this
      have la:∀t (ht:t<b.size),k2<=t->t<m-1->κ.kle (kf κ a[o1-1]) (kf κ b[t]):=λt ht q1 q2=>by have:=h3 t q1 q2;rw[gt,Ls ht]at this;exact this
      have k20:0<k2:=by
       rcases kq k2 with z|z
       .have h4:=la 0 b0 (kS z) (tP hm);exact absurd (hlow (o1-1) lk) (rL h4)
       .exact z
      try conv=>arg 5;dsimp -zeta only
      extract_lets -underBinder +onlyGivenNames ky bc jp3
      refine vM (J:=λo:Nat×Array Keyed=>jp3 () o.1 o.2) (C:=λo=>gC κ a b o.2 o1 o.1/\o.1=k2/\2<=o.1) (λo ho=>?_) (λhJ=>?_)
      .obtain⟨p1,p2⟩:=o;obtain⟨mo,eo,hp3⟩:=ho;have eo:p1=k2:=eo;subst eo;have mo:gC κ a b p2 o1 p1:=mo;have hp3:2<=p1:=hp3
       try conv=>arg 5;dsimp -zeta only
       try conv=>arg 5;dsimp -zeta only
       refine a_ (cI lk ?_)
       try conv=>arg 5;dsimp -zeta only
       have m6:=mo.uD ha rG lk λu hu h1=>dL (lb u hu h1);by_cases z:o1-1=0
       .refine bA (by simpa using z) ?_;exact bg (.inl ⟨_,_,rfl,wZ e4 m6 (.inl z)⟩)
       refine bf (by simpa using z) ?_;by_cases z':(decide (n-o1<7)&&decide (m-1-p1<7))=true
       .refine bA z' ?_;exact bg (.inr ⟨_,_,_,_,_,_,rfl,e4,m6,wc,hp3,by grind⟩)
       .refine bf z' ?_;exact bg ⟨_,_,_,_,_,_,rfl,e4,m6,wc,hp3,by grind⟩
      .by_cases z3:m-1-k2 > 0
       .refine bA z3 ?_
        try conv=>arg 5;dsimp -zeta only
        have m6:=gC.zB hb (m-1-k2) m5 (ue _ _) λt ht q1 q2 u hu q3=>cK (mR ha (show u<=o1-1 from ed q3) lk) (la t ht wc q2);rw[show m-1-(m-1-k2)=k2 from gr h1]at m6;by_cases z4:k2=1
        .refine bA (by simpa using z4) ?_;exact bg (.inl ⟨_,_,rfl,fin2 e4 m6 z4⟩)
        .refine bf (by simpa using z4) ?_;refine bf (by simp;exact ki k20) ?_;exact hJ (_,_) ⟨m6,rfl,by dsimp only;lia⟩
       .refine bf z3 ?_;obtain rfl:k2=m-1:=by grind
        exact hJ (_,_) ⟨m5,rfl,by dsimp only;lia⟩
     .by_cases z3:n-k > 0
      .refine bA z3 ?_
       try conv=>arg 5;dsimp -zeta only
       have m6:=gC.zA ha (n-k) m3 (ue _ _) λt ht q1 q2 u hu q3=>cK (mR hb (show u<=m-1 from ed q3) lm) (dL (kB t ht wc q2));rw[show n-(n-k)=k by first|lia|((try dsimp only);lia)]at m6;by_cases z4:k=0
       .refine bA (by simpa using z4) ?_;exact bg (.inl ⟨_,_,rfl,wZ e4 m6 (.inl z4)⟩)
       .refine bf (by simpa using z4) ?_;exact hJ (_,_) ⟨m6,rfl,by dsimp only;lia⟩
      .refine bf z3 ?_;obtain rfl:k=n:=by first|lia|((try dsimp only);lia)
       exact hJ (_,_) ⟨m3,rfl,by dsimp only;lia⟩
    .rintro c st3 ⟨n2,m2',out,g,p,q,rfl,e3,m3,hn2,hm2,hc2⟩;exfalso;lia
    .rintro c st3 (⟨r,q,rfl,hq⟩|⟨n2,m2',out,g,p,q,rfl,e3,m3,hn2,hm2,hc2⟩)
     .try conv=>arg 5;dsimp -zeta only
      exact bg ⟨_,_,rfl,hq⟩
     .try conv=>arg 5;dsimp -zeta only
      refine a_ (mU e3 λeE e4=>?_);exact bg ⟨_,_,_,_,rfl,e4,m3,hn2,hm2,wc⟩
 .rintro c st1 ⟨n,m,out,g,rfl,e1,m1,hn,hm,hc⟩;exfalso;lia
 .rintro c st1 ⟨r,q,rfl,hq⟩;exact bg hq
def abJ {σ:Type}{M:Model}{x:σ}{Q:PUnit->σ->Prop}{st:σ}(h:Q ⟨⟩ x):wpS M A E s (set x:StateT σ Sem PUnit) Q st:=by unfold wpS;rw[StateT.run_set];exact ah ⟨rfl,h⟩
theorem Lw:∀(m:List Keyed) (n:Nat) (o:Nat) (P X S:List Keyed) (arr:Array Keyed),arr.toList=P++(X++S)->X.length=m.length->P.length=o+n->((m.zipIdx n).foldl (λa (x:Keyed×Nat)=>a.setIfInBounds (o+x.2) x.1) arr).toList=P++(m++S)
 | [],n,o,P,X,S,arr,e,h,_=>by obtain rfl:X=[]:=ja.mp h;simpa using e
 | y::m,n,o,P,X,S,arr,e,h,hp=>by
  obtain⟨x,X',rfl⟩:∃x X',X=x::X':=by
   cases X with| nil=>simp at h| cons x X'=>exact⟨x,X',rfl⟩
  rw[uB,vi];have e2:(arr.setIfInBounds (o+n) y).toList=(P++[y])++(X'++S):=by rw[tz,e,<-hp,List.set_append_right _ _ (ag _),lx];simp
  have:=Lw m (n+1) o (P++[y]) X' S (arr.setIfInBounds (o+n) y) e2 (by simpa using h) (by simp;lia);simpa using this
def seg_at {arr:Array Keyed}{P X S:List Keyed}(e:arr.toList=P++(X++S)){t:Nat}(ht:t<X.length):∃h:P.length+t<arr.size,arr[P.length+t]=X[t]:=by
 have hl:arr.size=P.length+(X.length+S.length):=by rw[<-bo,e];simp
 refine⟨vE,?_⟩;have h1:arr.toList[P.length+t]?=some X[t]:=by rw[e,c_ vE,gL,dQ ht,ae ht]
 rw[b9,bS vE]at h1;exact ax h1
def Er {X:List Keyed}(h:X.Pairwise (kL κ))(hij:i<=j)(hj:j<X.length):κ.kle (kf κ X[i]) (kf κ X[j]):=by
 rcases Nat.eq_or_lt_of_le hij with z|z;.subst z;exact gf _
 .exact(eJ.mp h) i j (kX z hj) hj z
def OJ {i sa na p1 sb nb p2:Nat}{st:SortSt}{Pl X Y Sl:List Keyed}{Q:Bool->SortSt->Prop}(hO:ju prog w A s κ kn)(hk:kindOf st=kn)(hf:failedOf st=none)(hks:KeysOf κ (arrOf st))(h1:(pendingOf st)[i]?=some (sa,na,p1))(h2:(pendingOf st)[i+1]?=some (sb,nb,p2))(e:(arrOf st).toList=Pl++(X++(Y++Sl)))(lP:Pl.length=sa)(lX:X.length=na)(lY:Y.length=nb)(hsb:sb=sa+na)(x0:0<na)(y0:0<nb)(uX:X.Pairwise (kL κ))(uY:Y.Pairwise (kL κ))(h:∀st' Z,kindOf st'=kindOf st->failedOf st'=none->pendingOf st'=((pendingOf st).setIfInBounds i (sa,na+nb,p1)).eraseIdxIfInBounds (i+1)->(arrOf st').toList=Pl++(Z++Sl)->Z.Perm (X++Y)->Z.Pairwise (kL κ)->Q true st'):wpS (model prog w) A E s ((sortPriv% PySem.Builtin.mergeAt) i) Q st:=by
 subst hsb lP lX lY;have e':(arrOf st).toList=(Pl++X)++(Y++Sl):=by rw[e];simp
 have gX:∀{t},(ht:t<X.length)->∃h:Pl.length+t<(arrOf st).size,(arrOf st)[Pl.length+t]=X[t]:=λht=>seg_at e ht;have gY:∀{t},(ht:t<Y.length)->∃h:Pl.length+X.length+t<(arrOf st).size,(arrOf st)[Pl.length+X.length+t]=Y[t]:=λht=>by have:=seg_at e' ht;rw[av]at this;exact this
 have hsz:(arrOf st).size=Pl.length+(X.length+(Y.length+Sl.length)):=by rw[<-bo,e];simp
 obtain⟨hy0,ey0⟩:=gY y0;rw[uC]at hy0;have agz:(arrOf st)[Pl.length+X.length]=Y[0]:=ey0;show wpS _ _ _ _ (_ >>= _) _ _;refine a_ (o6 ?_);rw[h1,h2]
 try conv=>arg 5;dsimp -zeta only
 refine a_ (abJ ?_);refine a_ (cI hy0 ?_);refine a_ (lV hO hk (mL hks hy0) hks x0 (show Pl.length+X.length<=(arrOf st).size from ay hy0) ?_ λk hk1 hk2 hk3=>?_)
 .intro p q hpq hq hb;obtain⟨g1,g2⟩:=gX hq;obtain⟨g3,g4⟩:=gX (show p<X.length by lia);rw[Ba g1,g2]at hb;rw[Ba g3,g4];exact cK (Er uX hpq hq) hb
 rw[agz]at hk2 hk3;have kA:∀x∈X.take k,κ.kle (kf κ x) (kf κ Y[0]):=λx hx=>by
  obtain⟨t,ht,rfl⟩:=cx.mp hx;have ht':t<k:=by simp at ht;simp_all
  obtain⟨g1,g2⟩:=gX (show t<X.length from bq ht' hk1);have:=hk2 t ht';rw[Ba g1,g2]at this;simpa using this
 have kB:∀x∈X.drop k,κ.klt (kf κ Y[0]) (kf κ x):=λx hx=>by
  obtain⟨t,ht,rfl⟩:=cx.mp hx;have ht':k+t<X.length:=by simp at ht;lia
  obtain⟨g1,g2⟩:=gX ht';have:=hk3 (k+t) vE ht';rw[Lr g1,g2]at this;simpa using this
 have yl:∀y∈Y,κ.kle (kf κ Y[0]) (kf κ y):=λy hy=>by obtain⟨t,ht,rfl⟩:=cx.mp hy;exact Er uY (cw _) ht
 try conv=>arg 5;dsimp -zeta only
 by_cases z1:X.length-k=0
 .refine bA (by simpa using z1) ?_;refine bg (h _ (X++Y) rfl hf rfl (by rw[bu];exact e) (s_ _) ?_);rw[fw];refine⟨uX,uY,λx hx y hy=>?_⟩;have:X.take k=X:=cq vE;exact cK (kA x (by rw[this];exact hx)) (yl y hy)
 refine bf (by simpa using z1) ?_;have hkx:k<X.length:=vE;have el:Pl.length+k+(X.length-k)-1=Pl.length+(X.length-1):=eQ vE;obtain⟨hl0,hl1⟩:=gX (show X.length-1<X.length from uj x0 Nat.one_pos);have hel:Pl.length+k+(X.length-k)-1<(arrOf st).size:=by grind
 have ex:(arrOf st)[Pl.length+k+(X.length-k)-1]=X[X.length-1]:=by rw[<-hl1];congr 1
 have af0:∀x∈X,κ.kle (kf κ x) (kf κ X[X.length-1]):=λx hx=>by obtain⟨t,ht,rfl⟩:=cx.mp hx;exact Er uX (ed ht) vE
 have agA:X[X.length-1]∈X.drop k:=by refine cx.mpr ⟨X.length-1-k,by simp;exact eP vE,?_⟩;rw[List.getElem_drop];congr 1;grind
 refine a_ (cI hel ?_);refine a_ (lV hO hk (mL hks hel) hks (show Y.length-1<Y.length from uj y0 Nat.one_pos) (show Pl.length+X.length+Y.length<=(arrOf st).size by lia) ?_ λk2 hy1 hy2 hy3=>?_)
 .intro p q hpq hq hb;obtain⟨g1,g2⟩:=gY hq;obtain⟨g3,g4⟩:=gY (show p<Y.length by lia);rw[Bb g1,g2]at hb;rw[Bb g3,g4];exact KeyOrd.klt_of_kle_of_klt (Er uY hpq hq) hb
 rw[ex]at hy2 hy3;have yA:∀y∈Y.take k2,κ.klt (kf κ y) (kf κ X[X.length-1]):=λy hy=>by
  obtain⟨t,ht,rfl⟩:=cx.mp hy;have ht':t<k2:=by simp at ht;lia
  obtain⟨g1,g2⟩:=gY (show t<Y.length by lia);have:=hy2 t ht';rw[Bb g1,g2]at this;simpa using this
 have yB:∀y∈Y.drop k2,κ.kle (kf κ X[X.length-1]) (kf κ y):=λy hy=>by
  obtain⟨t,ht,rfl⟩:=cx.mp hy;have ht':k2+t<Y.length:=by simp at ht;lia
  obtain⟨g1,g2⟩:=gY ht';have:=hy3 (k2+t) vE ht';rw[Ls g1,g2]at this;simpa using this
 try conv=>arg 5;dsimp -zeta only
 have k20:0<k2:=by
  rcases kq k2 with z|z
  .subst z;have h3:=yB Y[0] vF;exact absurd (kB _ agA) (rL h3)
  .exact z
 refine bf (by simp;lia) ?_
 try conv=>arg 5;dsimp -zeta only
 have la:((arrOf st).extract (Pl.length+k) (Pl.length+X.length)).toList=X.drop k:=by rw[sh,on,e,List.drop_length_add_append,List.drop_append_of_le_length hk1];exact List.take_left' (by simp;lia)
 have lb:((arrOf st).extract (Pl.length+X.length) (Pl.length+X.length+k2)).toList=Y.take k2:=by rw[sh,on,e',show Pl.length+X.length=(Pl++X).length by simp,List.drop_left,gL,List.take_append_of_le_length hy1]
 generalize hga:(arrOf st).extract (Pl.length+k) (Pl.length+X.length)=a at la;generalize hgb:(arrOf st).extract (Pl.length+X.length) (Pl.length+X.length+k2)=b at lb
 extract_lets -underBinder +onlyGivenNames xx yy jp
 have hJ:∀r st',wW (kL κ) a.toList b.toList r.toList->kindOf st'=kindOf st->arrOf st'=arrOf st->failedOf st'=none->pendingOf st'=((pendingOf st).setIfInBounds i (Pl.length,X.length+Y.length,p1)).eraseIdxIfInBounds (i+1)->wpS (model prog w) A E s (jp r) Q st':=by
  intro r st' fr e1 e2 e3 e4;rw[la,lb]at fr
  try conv=>arg 5;dsimp -zeta only
  refine a_ (sf (a_ (o6 ?_)));have hZ:∀z∈r.toList,z∈X.drop k\/z∈Y.take k2:=λz hz=>ba.mp (fr.1.mem_iff.mp hz);have er:=Lw r.toList 0 (Pl.length+k) (Pl++X.take k) (X.drop k++Y.take k2) (Y.drop k2++Sl) (arrOf st) (by
   rw[e];rw[bu,bu,<-bu (Y.take k2),cS,<-bu (X.take k),cS]) fr.1.length_eq.symm (by simp;lia)
  refine cast (congrArg (λq=>wpS (model prog w) A E s (pure q) Q _) (show true=_ from ?_)) (bg (h _ (X.take k++(r.toList++Y.drop k2)) e1 e3 e4 ?_ ?_ ?_))
  .show true=(failedOf st').isNone;rw[e3];rfl
  .show (List.foldl _ (arrOf st') r.toList.zipIdx).toList=_;rw[e2];refine Eq.trans ?_ (er.trans vF);rfl
  .have p1:(r.toList++Y.drop k2).Perm ((X.drop k++Y.take k2)++Y.drop k2):=fr.1.append_right _;have p2:=ij (X.take k) p1;have e5:X.take k++((X.drop k++Y.take k2)++Y.drop k2)=X++Y:=by rw[bu,cS,<-bu,cS]
   rw[<-e5];exact p2
  .rw[fw];refine⟨uX.sublist (pM _ _),?_,λx hx z hz=>?_⟩
   .rw[fw];refine⟨fr.2,uY.sublist (gT _ _),λz hz y hy=>?_⟩;rcases hZ z hz with q|q;.exact cK (af0 z (iA q)) (yB y hy)
    .exact cK (dL (yA z q)) (yB y hy)
   .have hxy:κ.kle (kf κ x) (kf κ Y[0]):=kA x hx;rcases ba.mp hz with q|q
    .rcases hZ z q with q|q;.exact cK hxy (dL (kB z q))
     .exact cK hxy (yl z (eL q))
    .exact cK hxy (yl z (iA q))
 have hka:KeysOf κ a:=λp hp=>by rw[la]at hp;exact hks p (by rw[e];simp[iA hp])
 have hkb:KeysOf κ b:=λp hp=>by rw[lb]at hp;exact hks p (by rw[e];simp[eL hp])
 have sa:a.size=X.length-k:=by rw[<-bo,la];simp
 have sb:b.size=k2:=by rw[<-bo,lb];simp;lia
 have gb0:∀j (hj:j<b.size),b[j]∈Y.take k2:=λj hj=>by rw[<-lb];simp
 have gl:∀(hj:a.size-1<a.size),a[a.size-1]=X[X.length-1]:=λhj=>by
  have h4:a.toList[a.size-1]?=some X[X.length-1]:=by rw[la,oC,sa,show k+(X.length-k-1)=X.length-1 by grind,ae vE]
  rw[b9,bS hj]at h4;exact ax h4
 have agB:∀(hj:0<b.size),b[0]=Y[0]:=λhj=>by
  have h4:b.toList[0]?=some Y[0]:=by rw[lb,oy k20,ae y0]
  rw[b9,bS hj]at h4;exact ax h4
 have ga0:∀(hj:0<a.size),a[0]∈X.drop k:=λhj=>by rw[<-la];simp
 have ua:a.toList.Pairwise (kL κ):=by rw[la];exact uX.sublist (gT _ _)
 have ub:b.toList.Pairwise (kL κ):=by rw[lb];exact uY.sublist (pM _ _)
 have a0:0<a.size:=vE;have b0:0<b.size:=vE;have hlo:κ.klt (kf κ b[0]) (kf κ a[0]):=by rw[agB b0];exact kB _ (ga0 a0)
 have hhi:∀j (hj:j<b.size),κ.klt (kf κ b[j]) (kf κ a[a.size-1]):=λj hj=>by rw[gl vE];exact yA _ (gb0 j hj)
 by_cases z5:X.length-k<=k2
 .refine bA z5 ?_;exact a_ (Oz hO hk hka hkb ua ub a0 b0 (dL hlo) hhi λr st' fr q=>hJ r st' fr q.kind q.arr (q.fail.trans hf) q.pend)
 .refine bf z5 ?_;exact a_ (OD hO hk hka hkb ua ub a0 b0 hlo (λj hj=>dL (hhi j hj)) λr st' fr q=>hJ r st' fr q.kind q.arr (q.fail.trans hf) q.pend)
structure SG (st0 st:SortSt)(lo hi:Nat):Prop where
 kind:kindOf st=kindOf st0
 fail:failedOf st=failedOf st0
 pend:pendingOf st=pendingOf st0
 perm:(arrOf st).Perm (arrOf st0)
 out:∀t:Nat,t<lo\/hi<=t->(arrOf st)[t]?=(arrOf st0)[t]?
def SG.refl {st:SortSt}{lo hi:Nat}:SG st st lo hi:=⟨rfl,rfl,rfl,Array.Perm.refl _,λ_ _=>rfl⟩
def SG.size {st0 st:SortSt}{lo hi:Nat}(g:SG st0 st lo hi):(arrOf st).size=(arrOf st0).size:=g.perm.size_eq
def SG.keys {st0 st:SortSt}{lo hi:Nat}(g:SG st0 st lo hi)(h:KeysOf κ (arrOf st0)):KeysOf κ (arrOf st):=λp hp=>h p ((tF.mp g.perm).mem_iff.mp hp)
def SG.arr {st0 st:SortSt}{lo hi:Nat}(g:SG st0 st lo hi){xs:Array Keyed}(hp:xs.Perm (arrOf st))(ho:∀t:Nat,t<lo\/hi<=t->xs[t]?=(arrOf st)[t]?):SG st0 (setArr st xs) lo hi:=⟨g.kind,g.fail,g.pend,hp.trans g.perm,λt ht=>(ho t ht).trans (g.out t ht)⟩
def kh (κ:PyProof.Rows.KeyKind)(xs:Array Keyed)(lo n:Nat):Prop:=∀i j,i<=j->j<n->κ.kle (KK κ xs (lo+i)) (KK κ xs (lo+j))
def sI {st:SortSt}{i j:Nat}{Q:Option Bool->SortSt->Prop}(hO:ju prog w A s κ kn)(hk:kindOf st=kn)(hks:KeysOf κ (arrOf st))(hi:i<(arrOf st).size)(hj:j<(arrOf st).size)(h:Q (some (κ.blt (KK κ (arrOf st) i) (KK κ (arrOf st) j))) st):wpS (model prog w) A E s ((sortPriv% PySem.Builtin.ltAt) i j) Q st:=
 by
 show wpS _ _ _ _ (ltAt' i j) Q st;rw[ltAt'_eq];refine a_ (o6 ?_);show wpS _ _ _ _ (do let x <- elem' (arrOf st) i;let y <- elem' (arrOf st) j;lt' x y) Q st;exact a_ (cI hi (a_ (cI hj (zy hO hk (tu hks hi) (tu hks hj) h))))
def Tc {lo n ok:Nat}{st:SortSt}{Q:Bool->SortSt->Prop}(hO:ju prog w A s κ kn)(hk:kindOf st=kn)(hks:KeysOf κ (arrOf st))(hn:lo+n<=(arrOf st).size)(hok:ok<=n)(hs:kh κ (arrOf st) lo ok)(h:∀st',SG st st' lo (lo+n)->kh κ (arrOf st') lo n->Q true st'):wpS (model prog w) A E s ((sortPriv% PySem.Builtin.binarySort) lo n ok) Q st:=by
 show wpS _ _ _ _ (_ >>= _) _ _;refine a_ (gS (e_ (I:=λ(k:Nat) (c:Option Bool×Unit) (st':SortSt)=>c=(none,())/\SG st st' lo (lo+n)/\kh κ (arrOf st') lo (min k n))
  (Q:=λ(c:Option Bool×Unit) (st':SortSt)=>c=(none,())/\SG st st' lo (lo+n)/\kh κ (arrOf st') lo n) ?_ ?_ ⟨rfl,SG.refl,?_⟩) ?_)
 .rintro k c st1 hk1 hkn ⟨rfl,g1,u1⟩;rw[sd (ay hkn)]at u1;have z1:=g1.size
  try conv=>arg 5;dsimp -zeta only
  refine a_ (gS (e_ (I:=λ(x:Nat) (c:Option Bool×Nat×Nat) (st':SortSt)=>∃l r,c=(none,l,r)/\st'=st1/\l<=r/\r<=k/\r-l<=k-x/\(∀i,i<l->κ.kle (KK κ (arrOf st1) (lo+i)) (KK κ (arrOf st1) (lo+k)))/\(∀i,r<=i->i<k->κ.klt (KK κ (arrOf st1) (lo+k)) (KK κ (arrOf st1) (lo+i))))
   (Q:=λ(c:Option Bool×Nat×Nat) (st':SortSt)=>∃l r,c=(none,l,r)/\st'=st1/\l<=k/\(∀i,i<l->κ.kle (KK κ (arrOf st1) (lo+i)) (KK κ (arrOf st1) (lo+k)))/\(∀i,l<=i->i<k->κ.klt (KK κ (arrOf st1) (lo+k)) (KK κ (arrOf st1) (lo+i)))) ?_ ?_ ⟨0,k,rfl,rfl,vE,vE,vE,λi hi=>by lia,λi h1 h2=>by lia⟩) ?_)
  .rintro x c st2 _ hx ⟨l,r,rfl,rfl,h1,h2,h3,h4,h5⟩
   try conv=>arg 5;dsimp -zeta only
   by_cases z:l>=r
   .refine bA z ?_;exact bg ⟨l,r,rfl,rfl,a9 h1 h2,h4,λi q1 q2=>h5 i (a9 z q1) q2⟩
   refine bf z ?_
   try conv=>arg 5;dsimp -zeta only
   refine a_ (sI hO (g1.kind.trans hk) (g1.keys hks) vE vE ?_)
   try conv=>arg 5;dsimp -zeta only
   cases e:κ.blt (KK κ (arrOf st2) (lo+k)) (KK κ (arrOf st2) (lo+(l+r)/2)) with| true=>refine bA rfl ?_;exact bg ⟨l,(l+r)/2,rfl,rfl,vE,vE,ed (b8 vE vE),h4,λi q1 q2=>oB e (u1 _ _ q1 q2)⟩| false=>refine bf vF ?_;exact bg ⟨(l+r)/2+1,r,rfl,rfl,nK vE,h2,ed (b8 vE vE),λi q1=>cK (u1 i ((l+r)/2) (dE q1) (nK vE)) (show κ.kle _ _ from e),h5⟩
  .rintro c st2 ⟨l,r,rfl,rfl,h1,h2,h3,h4,h5⟩;exact⟨l,r,rfl,rfl,a9 h1 h2,h4,λi q1 q2=>h5 i (by simp_all;lia) q2⟩
  .rintro c st2 ⟨l,r,rfl,rfl,h1,h4,h5⟩
   try conv=>arg 5;dsimp -zeta only
   have aen:lo+k<(arrOf st2).size:=vE;refine a_ ?_;show wpS _ _ _ _ (moveDown' (lo+k) (lo+l)) _ _;rw[moveDown'_eq];refine sf (bg ⟨rfl,g1.arr (bubble_perm _ _ _) λt ht=>?_,?_⟩);.rw[getElem?_bubble aen _ (ue _ _),if_neg (by rw[gr vE];lia),if_neg (by rw[gr vE];lia)]
   .rw[sd hkn];intro i j hij hj;show κ.kle (KK κ (bubble (arrOf st2) (lo+k) (lo+k-(lo+l))) (lo+i)) (KK κ (bubble (arrOf st2) (lo+k) (lo+k-(lo+l))) (lo+j));have kb:∀t,t<=k->KK κ (bubble (arrOf st2) (lo+k) (lo+k-(lo+l))) (lo+t)=if t=l then KK κ (arrOf st2) (lo+k) else if l<t then KK κ (arrOf st2) (lo+(t-1)) else KK κ (arrOf st2) (lo+t):=λt ht=>by
     rw[KK_bubble aen vE];by_cases q1:t=l;.rw[if_pos (by rw[gr vE];lia),if_pos q1]
     .rw[if_neg (by rw[gr vE];lia),if_neg q1];by_cases q2:l<t;.rw[if_pos (by rw[gr vE];lia),if_pos q2,show lo+t-1=lo+(t-1) from eQ vE]
      .rw[if_neg (by rw[gr vE];lia),if_neg q2]
    rw[kb i vE,kb j (dE hj)];by_cases i1:i=l
    .rw[if_pos i1];by_cases j1:j=l;.rw[if_pos j1];exact gf _
     .rw[if_neg j1,if_pos vE];exact dL (h5 (j-1) (ed vE) (b8 vE vE))
    .rw[if_neg i1];by_cases i2:l<i
     .rw[if_pos i2,if_neg vE,if_pos (bq i2 hij)];exact u1 _ _ (si hij _) (b8 vE vE)
     .rw[if_neg i2];by_cases j1:j=l;.rw[if_pos j1];exact h4 i vE
      .rw[if_neg j1];by_cases j2:l<j;.rw[if_pos j2];exact u1 _ _ (eP vE) (b8 vE vE)
       .rw[if_neg j2];exact u1 _ _ hij vE
 .rintro c st1 ⟨rfl,g1,u1⟩;refine⟨rfl,g1,?_⟩
  rwa [show min (max (max ok 1) n) n=n by lia]at u1
 .intro i j hij hj;by_cases z:ok=0
  .obtain rfl:i=j:=by lia
   exact gf _
  .exact hs i j hij vE
 .rintro c st1 ⟨rfl,g1,u1⟩;exact bg (h _ g1 u1)
def Bc {i j:Nat}{st:SortSt}{Q:Unit->SortSt->Prop}(h:Q () (setArr st (mirror (arrOf st) i j ((j-i)/2)))):wpS (model prog w) A E s ((sortPriv% PySem.Builtin.reverseSlice) i j) Q st:=by show wpS _ _ _ _ (reverseSlice' i j) _ _;rw[reverseSlice'_eq];exact sf h
def SG.rev {st0 st:SortSt}{lo hi i j:Nat}(g:SG st0 st lo hi)(h1:lo<=i)(h2:j<=hi)(hj:j<=(arrOf st).size):SG st0 (setArr st (mirror (arrOf st) i j ((j-i)/2))) lo hi:=g.arr (mirror_perm _ _ _ _) λt ht=>by rw[getElem?_mirror_all hj,if_neg vE]
def Zf {lo m:Nat}(h1:1<=m)(h:kh κ xs lo m)(q:κ.kle (KK κ xs (lo+(m-1))) (KK κ xs (lo+m))):kh κ xs lo (m+1):=λi j hij hj=>by
 rcases cn j m with z|z;.exact h i j hij z
 .obtain rfl:j=m:=by lia
  rcases cn i j with y|y;.exact cK (h i (j-1) (ed y) (uj (ko (cw _) y) Nat.one_pos)) q
  .obtain rfl:i=j:=by lia
   exact gf _
def Lx {lo n m0:Nat}{st:SortSt}{f:Nat->(Option (Option Nat)×Nat)->StateT SortSt Sem (ForInStep (Option (Option Nat)×Nat))}(m1:1<=m0)(mn:m0<=n)(u0:kh κ (arrOf st) lo m0)(hf:∀x m (Q':ForInStep (Option (Option Nat)×Nat)->SortSt->Prop),1<=m->m<n->(κ.blt (KK κ (arrOf st) (lo+m)) (KK κ (arrOf st) (lo+m-1))=true->Q' (.done (none,m)) st)->(κ.blt (KK κ (arrOf st) (lo+m)) (KK κ (arrOf st) (lo+m-1))=false->Q' (.yield (none,m+1)) st)->wpS (model prog w) A E s (f x (none,m)) Q' st):wpS (model prog w) A E s (forIn [m0:n] ((none:Option (Option Nat)),m0) f) (λc st'=>st'=st/\∃m,c=(none,m)/\1<=m/\m<=n/\kh κ (arrOf st) lo m/\(m=n\/κ.klt (KK κ (arrOf st) (lo+m)) (KK κ (arrOf st) (lo+m-1)))) st:=by
 refine e_ (I:=λ(x:Nat) (c:Option (Option Nat)×Nat) (st':SortSt)=>st'=st/\c=(none,x)/\1<=x/\kh κ (arrOf st) lo x) ?_ ?_ ⟨rfl,rfl,m1,u0⟩
 .rintro x c st1 h1 h2 ⟨rfl,rfl,h3,h4⟩;refine hf x x _ h3 h2 (λe=>⟨rfl,x,rfl,h3,ay h2,h4,.inr e⟩) λe=>⟨rfl,rfl,vE,Zf h3 h4 ?_⟩
  rw[show lo+(x-1)=lo+x-1 by lia];exact e
 .rintro c st1 ⟨rfl,rfl,h3,h4⟩;rw[Nat.max_eq_right mn]at h3 h4 ⊢;exact⟨rfl,n,rfl,h3,ag _,h4,.inl rfl⟩
def w5 (κ:PyProof.Rows.KeyKind)(xs:Array Keyed)(lo n:Nat):Prop:=∀i j,i<=j->j<n->κ.kle (KK κ xs (lo+j)) (KK κ xs (lo+i))
def Bf {lo m:Nat}(h1:1<=m)(h:w5 κ xs lo m)(q:κ.kle (KK κ xs (lo+m)) (KK κ xs (lo+m-1))):w5 κ xs lo (m+1):=λi j hij hj=>by
 rcases cn j m with z|z;.exact h i j hij z
 .obtain rfl:j=m:=by lia
  rcases cn i j with y|y
  .have:=h i (j-1) vE vE;rw[show lo+(j-1)=lo+j-1 by lia]at this;exact cK q this
  .obtain rfl:i=j:=by lia
   exact gf _
def V5 {lo n:Nat}{st:SortSt}{Q:Option Nat->SortSt->Prop}(hO:ju prog w A s κ kn)(hk:kindOf st=kn)(hks:KeysOf κ (arrOf st))(hn:lo+n<=(arrOf st).size)(n1:1<=n)(h:∀st' m,SG st st' lo (lo+n)->1<=m->m<=n->kh κ (arrOf st') lo m->Q (some m) st'):wpS (model prog w) A E s ((sortPriv% PySem.Builtin.countRun) lo n) Q st:=by
 have one:∀xs,kh κ xs lo 1:=λxs i j h1 h2=>by
  obtain rfl:i=j:=by lia
  exact gf _
 show wpS _ _ _ _ (_ >>= _) _ _
 try conv=>arg 5;dsimp -zeta only
 refine a_ (gS (Lx (κ:=κ) (ag 1) n1 (one _) ?_) ?_)
 .intro x m Q' h1 h2 q1 q2
  try conv=>arg 5;dsimp -zeta only
  refine a_ (sI hO hk hks vE (ic vE) ?_)
  try conv=>arg 5;dsimp -zeta only
  cases e:κ.blt (KK κ (arrOf st) (lo+m)) (KK κ (arrOf st) (lo+m-1)) with| true=>refine bA rfl ?_;exact bg (q1 e)| false=>refine bf vF ?_;exact bg (q2 e)
 rintro c st1 ⟨rfl,m,rfl,h1,h2,u1,h3⟩
 try conv=>arg 5;dsimp -zeta only
 by_cases z:m=n
 .refine bA (by simpa using z) ?_;exact bg (h _ _ SG.refl h1 h2 u1)
 refine bf (by simpa using z) ?_;have V6:κ.klt (KK κ (arrOf st1) (lo+m)) (KK κ (arrOf st1) (lo+m-1)):=h3.resolve_left z
 extract_lets -underBinder +onlyGivenNames jp
 have hJ:∀st2,SG st1 st2 lo (lo+n)->w5 κ (arrOf st2) lo (m+1)->wpS (model prog w) A E s (jp ()) Q st2:=by
  intro st2 g2 d2
  try conv=>arg 5;dsimp -zeta only
  refine a_ (wpS_lift (ge ⟨rfl,?_⟩))
  try conv=>arg 5;dsimp -zeta only
  refine a_ (gS (e_ (I:=λ(x:Nat) (c:Option (Option Nat)×Nat×Nat) (st':SortSt)=>∃q,c=(none,x,q)/\SG st1 st' lo (lo+n)/\w5 κ (arrOf st') lo x/\q<x/\m+1<=x/\∀t,x-1-q<=t->t<x->KK κ (arrOf st') (lo+t)=KK κ (arrOf st') (lo+x-1))
   (Q:=λ(c:Option (Option Nat)×Nat×Nat) (st':SortSt)=>∃x q,c=(none,x,q)/\SG st1 st' lo (lo+n)/\w5 κ (arrOf st') lo x/\q<x/\m+1<=x/\x<=n/\∀t,x-1-q<=t->t<x->KK κ (arrOf st') (lo+t)=KK κ (arrOf st') (lo+x-1)) ?_ ?_ ⟨0,rfl,g2,d2,vE,ag _,λt q1 q2=>by rw[show lo+t=lo+(m+1)-1 by lia]⟩) ?_)
  .rintro x c st3 hx1 hx2 ⟨q,rfl,g3,d3,hq,hmx,eq⟩;have z3:=g3.size
   try conv=>arg 5;dsimp -zeta only
   refine a_ (sI hO (g3.kind.trans hk) (g3.keys hks) vE (ic vE) ?_)
   try conv=>arg 5;dsimp -zeta only
   skip
   cases e:κ.blt (KK κ (arrOf st3) (lo+x)) (KK κ (arrOf st3) (lo+x-1)) with
   | true=>
    refine bA rfl ?_
    skip
    have done:∀eE,SG st1 eE lo (lo+n)->(∀t,KK κ (arrOf eE) t=KK κ (arrOf st3) t)->∃q,((none:Option (Option Nat)),x+1,0)=(none,x+1,q)/\SG st1 eE lo (lo+n)/\w5 κ (arrOf eE) lo (x+1)/\q<x+1/\m+1<=x+1/\∀t,x+1-1-q<=t->t<x+1->KK κ (arrOf eE) (lo+t)=KK κ (arrOf eE) (lo+(x+1)-1):=λeE g4 k4=>by refine⟨0,rfl,g4,?_,vE,gN hmx,λt q1 q2=>by rw[show lo+t=lo+(x+1)-1 by lia]⟩;refine Bf vE (λi j q1 q2=>by rw[k4,k4];exact d3 i j q1 q2) ?_;rw[k4,k4];exact dL e
    by_cases z4:q > 0
    .refine bA z4 ?_;refine a_ (Bc ?_);refine bg (done _ (g3.rev (eP vE) vE vE) λt=>?_);exact KK_mirror_equal vE (λu q1 q2=>by have:=eq (u-lo) (by simp[fe,gh]at *;lia) vE;rw[show lo+(u-lo)=u by rw[fe]at *;lia]at this;exact this) t
    .refine bf z4 ?_;exact bg (done _ g3 λt=>rfl)
   | false=>
    refine bf vF ?_;refine a_ (sI hO (g3.kind.trans hk) (g3.keys hks) (ic vE) vE ?_)
    try conv=>arg 5;dsimp -zeta only
    cases e2:κ.blt (KK κ (arrOf st3) (lo+x-1)) (KK κ (arrOf st3) (lo+x)) with
    | true=>refine bA rfl ?_;exact bg ⟨x,q,rfl,g3,d3,hq,hmx,vE,eq⟩
    | false=>
     refine bf vF ?_;have ek:KK κ (arrOf st3) (lo+x-1)=KK κ (arrOf st3) (lo+x):=κ.total _ _ e2 e;refine bg ⟨q+1,rfl,g3,Bf vE d3 (by rw[ek];exact gf _),q0 hq,vE,λt q1 q2=>?_⟩;rw[show lo+(x+1)-1=lo+x from rfl];rcases cn t x with y|y;.rw[eq t vE y,ek]
     .rw[show t=x by lia]
  .rintro c st3 ⟨q,rfl,g3,d3,hq,hmx,eq⟩;rw[Nat.max_eq_right vE]at d3 hq hmx eq ⊢;exact⟨n,q,rfl,g3,d3,hq,hmx,ag _,eq⟩
  .rintro c st3 ⟨x,q,rfl,g3,d3,hq,hmx,hxn,eq⟩;have z3:=g3.size
   try conv=>arg 5;dsimp -zeta only
   extract_lets -underBinder +onlyGivenNames lr ls n1 nq
   have q1:n1=x:=rfl;have q2:nq=q:=rfl
   conv=>arg 5;dsimp -zeta only[lr]
   extract_lets -underBinder +onlyGivenNames jp2
   have hJ2:∀eE,SG st1 eE lo (lo+n)->w5 κ (arrOf eE) lo x->wpS (model prog w) A E s (jp2 ()) Q eE:=by
    intro eE g4 d4;have z4:=g4.size
    try conv=>arg 5;dsimp -zeta only
    refine a_ (Bc ?_);have g5:=g4.rev (i:=lo) (j:=lo+x) (ag _) (l_ hxn _) vE;have u5:kh κ (arrOf (setArr eE (mirror (arrOf eE) lo (lo+x) ((lo+x-lo)/2)))) lo x:=λi j q1 q2=>by show κ.kle (KK κ (mirror (arrOf eE) lo (lo+x) ((lo+x-lo)/2)) (lo+i)) (KK κ (mirror (arrOf eE) lo (lo+x) ((lo+x-lo)/2)) (lo+j));rw[KK_mirror vE,KK_mirror vE,if_pos vE,if_pos (by simp_all),show lo+(lo+x)-1-(lo+i)=lo+(x-1-i) from eQ vE,show lo+(lo+x)-1-(lo+j)=lo+(x-1-j) from eQ vE];exact d4 _ _ (Nat.sub_le_sub_left q1 _) (ic vE)
    generalize setArr eE (mirror (arrOf eE) lo (lo+x) ((lo+x-lo)/2))=KN at g5 u5;have z5:=g5.size;refine a_ (gS (Lx (κ:=κ) vE hxn u5 ?_) ?_)
    .intro y p Q' h1 h2 q1 q2
     try conv=>arg 5;dsimp -zeta only
     refine a_ (sI hO (g5.kind.trans hk) (g5.keys hks) vE (ic vE) ?_)
     try conv=>arg 5;dsimp -zeta only
     cases e:κ.blt (KK κ (arrOf KN) (lo+p)) (KK κ (arrOf KN) (lo+p-1)) with| true=>refine bA rfl ?_;exact bg (q1 e)| false=>refine bf vF ?_;exact bg (q2 e)
    .rintro c st6 ⟨rfl,p,rfl,h1,h2,u6,_⟩;exact bg (h _ _ g5 h1 h2 u6)
   by_cases z4:q > 0
   .refine bA z4 ?_;refine a_ (Bc ?_);refine hJ2 _ (g3.rev (by simp_all;lia) (l_ hxn _) vE) λi j q1 q2=>?_;have k4:∀t,KK κ (mirror (arrOf st3) (lo+x-(q+1)) (lo+x) ((lo+x-(lo+x-(q+1)))/2)) t=KK κ (arrOf st3) t:=KK_mirror_equal vE λu q1 q2=>by
     have:=eq (u-lo) vE vE;rw[show lo+(u-lo)=u by lia]at this;exact this
    show κ.kle (KK κ (mirror (arrOf st3) (lo+x-(q+1)) (lo+x) ((lo+x-(lo+x-(q+1)))/2)) (lo+j)) (KK κ (mirror (arrOf st3) (lo+x-(q+1)) (lo+x) ((lo+x-(lo+x-(q+1)))/2)) (lo+i));rw[k4,k4];exact d3 i j q1 q2
   .refine bf z4 ?_;exact hJ2 _ g3 d3
 by_cases z2:m > 1
 .refine bA z2 ?_;refine a_ (sI hO hk hks vE (ic vE) ?_)
  try conv=>arg 5;dsimp -zeta only
  cases e:κ.blt (KK κ (arrOf st1) lo) (KK κ (arrOf st1) (lo+m-1)) with
  | true=>refine bA rfl ?_;exact bg (h _ _ SG.refl h1 h2 u1)
  | false=>
   refine bf vF ?_;refine a_ (Bc ?_);have eqA:∀t,t<m->KK κ (arrOf st1) (lo+t)=KK κ (arrOf st1) (lo+m-1):=λt ht=>by have a1:=u1 t (m-1) (ed ht) vE;have a2:=u1 0 t vE ht;rw[show lo+(m-1)=lo+m-1 by lia]at a1;rw[uC]at a2;exact KeyOrd.kle_antisymm a1 (cK (show κ.kle _ _ from e) a2)
   have k4:∀t,KK κ (mirror (arrOf st1) lo (lo+m) ((lo+m-lo)/2)) t=KK κ (arrOf st1) t:=KK_mirror_equal vE λu q1 q2=>by have:=eqA (u-lo) (b8 vE vE);rw[show lo+(u-lo)=u from me q1]at this;exact this
   refine hJ _ (SG.refl.rev (ag _) (l_ h2 _) vE) ?_;refine Bf h1 (λi j q1 q2=>?_) ?_
   .show κ.kle (KK κ (mirror (arrOf st1) lo (lo+m) ((lo+m-lo)/2)) (lo+j)) (KK κ (mirror (arrOf st1) lo (lo+m) ((lo+m-lo)/2)) (lo+i));rw[k4,k4,eqA i (ko q1 q2),eqA j q2];exact gf _
   .show κ.kle (KK κ (mirror (arrOf st1) lo (lo+m) ((lo+m-lo)/2)) (lo+m)) (KK κ (mirror (arrOf st1) lo (lo+m) ((lo+m-lo)/2)) (lo+m-1));rw[k4,k4];exact dL V6
 .refine bf z2 ?_;obtain rfl:m=1:=by lia
  refine hJ _ SG.refl (Bf h1 (λi j q1 q2=>?_) (dL V6));obtain rfl:i=j:=by lia
  exact gf _
def fM:Nat->List (List Keyed)->List (Nat×Nat×Nat)->Prop
 | _,[],[]=>True
 | o,r::rs,p::ps=>p.1=o/\p.2.1=r.length/\fM (o+r.length) rs ps
 | _,_,_=>False
theorem fM.len:∀{rs:List (List Keyed)} {ps:List (Nat×Nat×Nat)} {o:Nat},fM o rs ps->ps.length=rs.length
 | [],[],_,_=>rfl
 | r::rs,p::ps,o,h=>by rw[bt,bt,fM.len h.2.2]
theorem fM.app:∀{F G:List (List Keyed)} {f g:List (Nat×Nat×Nat)} {o:Nat},fM o F f->fM (o+F.flatten.length) G g->fM o (F++G) (f++g)
 | [],G,[],g,o,_,h=>by simpa using h
 | r::F,G,p::f,g,o,h1,h2=>⟨h1.1,h1.2.1,fM.app h1.2.2 (by rw[iS,av]at h2;rw[mr];exact h2)⟩
theorem fM.split:∀{F G:List (List Keyed)} {ps:List (Nat×Nat×Nat)} {o:Nat},fM o (F++G) ps->∃f g,ps=f++g/\f.length=F.length/\fM o F f/\fM (o+F.flatten.length) G g
 | [],G,ps,o,h=>⟨[],ps,rfl,rfl,trivial,by simpa using h⟩
 | r::F,G,p::ps,o,h=>by obtain⟨f,g,e,l,h1,h2⟩:=fM.split (F:=F) (G:=G) h.2.2;refine⟨p::f,g,by rw[e];rfl,by simp[l],⟨h.1,h.2.1,h1⟩,?_⟩;rw[iS,av];rw[mr]at h2;exact h2
structure fO (κ:PyProof.Rows.KeyKind)(kn:SortKind)(a0:List Keyed)(st:SortSt)(rs:List (List Keyed))(rest:List Keyed):Prop where
 kind:kindOf st=kn
 fail:failedOf st=none
 keys:KeysOf κ (arrOf st)
 perm:(arrOf st).toList.Perm a0
 arr:(arrOf st).toList=rs.flatten++rest
 pend:fM 0 rs (pendingOf st).toList
 up:∀r∈rs,r.Pairwise (kL κ)
 ne:∀r∈rs,r≠[]
def keys_perm {a b:Array Keyed}(p:a.toList.Perm b.toList)(h:KeysOf κ b):KeysOf κ a:=λx hx=>h x (p.mem_iff.mp hx)
def yD {a0:List Keyed}{i:Nat}{st:SortSt}{F G:List (List Keyed)}{X Y rest:List Keyed}{Q:Bool->SortSt->Prop}(hO:ju prog w A s κ kn)(R:fO κ kn a0 st (F++X::Y::G) rest)(hi:F.length=i)(h:∀st' Z,fO κ kn a0 st' (F++Z::G) rest->Q true st'):wpS (model prog w) A E s ((sortPriv% PySem.Builtin.mergeAt) i) Q st:=by
 subst hi;obtain⟨f,g,ep,lf,h1,h2⟩:=R.pend.split;obtain⟨p,q,g',rfl⟩:∃p q g',g=p::q::g':=by
  match g,h2 with| p::q::g',_=>exact⟨p,q,g',rfl⟩
 obtain⟨pa,pb,pc⟩:=p;obtain⟨qa,qb,qc⟩:=q;obtain⟨e1,e2,e3,e4,h3⟩:=h2;have e1:pa=0+F.flatten.length:=e1;have e2:pb=X.length:=e2;have e3:qa=0+F.flatten.length+X.length:=e3;have e4:qb=Y.length:=e4;have h3:fM (0+F.flatten.length+X.length+Y.length) G g':=h3;have nX:0<X.length:=n0.mpr (R.ne X vF);have nY:0<Y.length:=n0.mpr (R.ne Y vF);have at1:(pendingOf st)[F.length]?=some (pa,pb,pc):=by rw[<-b9,ep,<-lf];simp
 have at2:(pendingOf st)[F.length+1]?=some (qa,qb,qc):=by rw[<-b9,ep,<-lf,c_ vE];simp
 refine OJ (Pl:=F.flatten) (X:=X) (Y:=Y) (Sl:=G.flatten++rest) hO R.kind R.fail R.keys at1 at2 (by rw[R.arr];simp) vE e2.symm e4.symm (by simp_all) (by simp_all) vE (R.up X vF) (R.up Y vF) λst' Z k1 k2 k3 k4 k5 k6=>?_;have pm:(arrOf st').toList.Perm (arrOf st).toList:=by rw[k4,R.arr];simp only[sP,iS,bu];refine ij _ ?_;rw[<-bu X];exact k5.append_right _
 refine h st' Z ⟨k1.trans R.kind,k2,keys_perm pm R.keys,pm.trans R.perm,by rw[k4];simp,?_,λr hr=>?_,λr hr=>?_⟩
 .have e5:(pendingOf st').toList=f++(pa,pb+qb,pc)::g':=by
   rw[k3,Array.toList_eraseIdxIfInBounds,tz,ep,<-lf];rw[List.set_append_right _ _ (ag _),lx,List.eraseIdx_append_of_length_le vE];simp
  rw[e5];refine fM.app h1 ⟨e1,?_,?_⟩
  .show pb+qb=Z.length;rw[k5.length_eq,e2,e4,av]
  .rw[k5.length_eq,av,<-mr];exact h3
 .rcases ba.mp hr with z|z;.exact R.up r (by simp[z])
  .rcases bb.mp z with z|z;.rw[z];exact k6
   .exact R.up r (by simp[z])
 .rcases ba.mp hr with z|z;.exact R.ne r (by simp[z])
  .rcases bb.mp z with z|z
   .rw[z];intro y;have:=k5.length_eq;rw[y,av]at this;simp at this;simp_all
   .exact R.ne r (by simp[z])
def Zg {α:Type}{l:List α}(h:2<=l.length):∃F x y,l=F++[x,y]:=by
 refine⟨l.take (l.length-2),l[l.length-2],l[l.length-1],?_⟩;have e1:l.drop (l.length-2)=[l[l.length-2],l[l.length-1]]:=by rw[jA (show l.length-2<l.length by lia),jA (show l.length-2+1<l.length by simp_all +arith),List.drop_eq_nil_of_le (by simp_all +arith)];congr 2;congr 1;lia
 rw[<-e1,cS]
def tE {rs:List (List Keyed)}(h:∀r∈rs,r≠[]):rs.length<=rs.flatten.length:=by
 induction rs with| nil=>simp| cons r rs ih=>have h1:=n0.mpr (h r a6);have h2:=ih λx hx=>h x (aI _ hx);rw[bt,iS,av];lia
def Qv {β α:Type}{J:β->StateT SortSt Sem α}{C:β->SortSt->Prop}{m:StateT SortSt Sem α}{R:α->SortSt->Prop}{st:SortSt}(h1:∀o st',C o st'->wpS (model prog w) A E s (J o) R st')(h2:(∀o st',C o st'->wpS (model prog w) A E s (J o) R st')->wpS (model prog w) A E s m R st):wpS (model prog w) A E s m R st:=h2 h1
theorem fM.congr:∀{rs:List (List Keyed)} {ps qs:List (Nat×Nat×Nat)} {o:Nat},fM o rs ps->qs.map (λp=>(p.1,p.2.1))=ps.map (λp=>(p.1,p.2.1))->fM o rs qs
 | [],[],[],_,_,_=>trivial
 | [],[],_::_,_,_,e=>by simp at e
 | r::rs,p::ps,[],_,_,e=>by simp at e
 | r::rs,p::ps,q::qs,o,h,e=>by rw[cp,cp]at e;injection e with e1 e2;injection e1 with e3 e4;exact⟨e3.trans h.1,e4.trans h.2.1,fM.congr h.2.2 e2⟩
def fO.len {a0:List Keyed}{st:SortSt}{rs:List (List Keyed)}{rest:List Keyed}(R:fO κ kn a0 st rs rest):rs.flatten.length+rest.length=a0.length:=by rw[<-R.perm.length_eq,R.arr,av]
def fO.size {a0:List Keyed}{st:SortSt}{rs:List (List Keyed)}{rest:List Keyed}(R:fO κ kn a0 st rs rest):(arrOf st).size=a0.length:=by rw[<-R.perm.length_eq,bo]
def fO.seg {a0:List Keyed}{st st':SortSt}{rs:List (List Keyed)}{rest:List Keyed}{n hi:Nat}(R:fO κ kn a0 st rs rest)(g:SG st st' rs.flatten.length hi)(u:kh κ (arrOf st') rs.flatten.length n)(hn:n<=rest.length):∃sg Bg,sg.length=n/\sg.Pairwise (kL κ)/\fO κ kn a0 st' rs (sg++Bg):=by
 have z:=R.size;have z':=g.size;have ln:=R.len;have e1:(arrOf st').toList.take rs.flatten.length=rs.flatten:=by
  apply i6;intro t;rcases cn t rs.flatten.length with y|y;.rw[oy y,b9,g.out t (.inl y),<-b9,R.arr,dQ y]
  .rw[bP (by rw[bn];lia),bP y]
 have pm:(arrOf st').toList.Perm (arrOf st).toList:=tF.mp g.perm;refine⟨((arrOf st').toList.drop rs.flatten.length).take n,((arrOf st').toList.drop rs.flatten.length).drop n,?_,?_,⟨g.kind.trans R.kind,g.fail.trans R.fail,keys_perm pm R.keys,pm.trans R.perm,?_,by rw[g.pend];exact R.pend,R.up,R.ne⟩⟩;.rw[bn,dP,bo];lia
 .rw[eJ];intro i j hi hj hij;have hj':j<n:=by simp at hj;lia
  have hj2:rs.flatten.length+j<(arrOf st').size:=by simp at hj;lia
  have:=u i j (ay hij) hj';rw[wY (show rs.flatten.length+i<(arrOf st').size by lia),wY hj2]at this;show κ.kle _ _;simpa using this
 .rw[cS]
  conv=>lhs;rw[<-cS rs.flatten.length (arrOf st').toList]
  rw[e1]
def abK {c:Prop} [Decidable c] (h1:a+1<n)(h2:b+1<n):(if c then a else b)+1<n:=by split <;> assumption
def GZ {a0:List Keyed}{i:Nat}{st:SortSt}{rs:List (List Keyed)}{rest:List Keyed}{Q:Bool->SortSt->Prop}(hO:ju prog w A s κ kn)(R:fO κ kn a0 st rs rest)(hi:i+1<rs.length)(h:∀st' rs2,fO κ kn a0 st' rs2 rest->rs2.length+1=rs.length->Q true st'):wpS (model prog w) A E s ((sortPriv% PySem.Builtin.mergeAt) i) Q st:=by
 have e:rs=rs.take i++rs[i]::rs[i+1]::rs.drop (i+2):=by rw[<-jA hi,<-jA (show i<rs.length by lia),cS]
 have R':=R;rw[e]at R';refine yD hO R' (by rw[bn];lia) λst3 Z R3=>h st3 _ R3 ?_;rw[av,bn,bt,dP];lia
def Zh {st:SortSt}{Q:Unit->SortSt->Prop}(hO:ju prog w A s κ kn)(hk:kindOf st=kn)(hf:failedOf st=none)(hp:pendingOf st=#[])(hks:KeysOf κ (arrOf st))(h:∀st',failedOf st'=none->(arrOf st').toList.Perm (arrOf st).toList->(arrOf st').toList.Pairwise (kL κ)->Q () st'):wpS (model prog w) A E s (sortPriv% PySem.Builtin.sortRuns) Q st:=by
 obtain⟨N,hN⟩:∃N,(arrOf st).size=N:=⟨_,rfl⟩
 have hl:(arrOf st).toList.length=N:=by rw[bo,hN]
 have R0:fO κ kn (arrOf st).toList st [] (arrOf st).toList:=⟨hk,hf,hks,s_ _,vF,by rw[hp];trivial,λr h=>by simp at h,λr h=>by simp at h⟩
 generalize (arrOf st).toList=a0 at hl R0 h;show wpS _ _ _ _ (_ >>= _) _ _;refine a_ (o6 ?_)
 try conv=>arg 5;dsimp -zeta only
 rw[hN];refine a_ (gS (e_ (I:=λ(x:Nat) (c:Option Unit×Nat) (st':SortSt)=>∃rs rest,c=(none,rs.flatten.length)/\fO κ kn a0 st' rs rest/\(x<=rs.flatten.length\/rest=[]))
  (Q:=λ(c:Option Unit×Nat) (st':SortSt)=>∃rs l,c=(none,l)/\fO κ kn a0 st' rs []) ?_ ?_ ⟨[],a0,rfl,R0,.inl vF⟩) ?_)
 .rintro x c st1 _ hx ⟨rs,rest,rfl,R,hpr⟩;have ln:=R.len
  try conv=>arg 5;dsimp -zeta only
  by_cases z:rs.flatten.length>=N
  .refine bA z ?_;obtain rfl:rest=[]:=ja.mp vE;exact bg ⟨rs,_,rfl,R⟩
  refine bf z ?_;have BX:x<=rs.flatten.length:=by
   rcases hpr with y|y;.exact y
   .rw[y,r8]at ln;lia
  have zs:=R.size;refine a_ (V5 hO R.kind R.keys (show rs.flatten.length+(N-rs.flatten.length)<=(arrOf st1).size by grind) (eP vE) λst2 m g2 m1 m2 u2=>?_)
  try conv=>arg 5;dsimp -zeta only
  extract_lets -underBinder +onlyGivenNames nn jp
  have qn:nn=m:=rfl;refine Qv (J:=λn:Nat=>jp () n) (C:=λn st3=>SG st1 st3 rs.flatten.length (rs.flatten.length+(N-rs.flatten.length))/\kh κ (arrOf st3) rs.flatten.length n/\1<=n/\n<=N-rs.flatten.length) (λn st3 hc=>?_) (λhJ=>?_)
  .obtain⟨g3,u3,n1,n2⟩:=hc;obtain⟨sg,Bg,ls,us,R3⟩:=R.seg g3 u3 vE
   try conv=>arg 5;dsimp -zeta only
   refine a_ (o6 ?_)
   try conv=>arg 5;dsimp -zeta only
   extract_lets -underBinder +onlyGivenNames jp2
   refine Qv (J:=λ_:Unit=>jp2 ()) (C:=λ_ eE=>∃rs',fO κ kn a0 eE rs' (sg++Bg)/\rs'.flatten.length=rs.flatten.length) (λ_ eE hc=>?_) (λhJ=>?_)
   .obtain⟨rs',R4,l4⟩:=hc
    try conv=>arg 5;dsimp -zeta only
    refine a_ (sf (bg ⟨rs'++[sg],Bg,?_,⟨R4.kind,R4.fail,R4.keys,R4.perm,?_,?_,λr hr=>?_,λr hr=>?_⟩,.inl ?_⟩))
    .rw[sP,av];simp[ls,l4]
    .show (arrOf eE).toList=_;rw[R4.arr];simp
    .show fM 0 (rs'++[sg]) ((pendingOf eE).push (rs.flatten.length,n,0)).toList;rw[kM];exact fM.app R4.pend ⟨by rw[l4];simp,ls.symm,trivial⟩
    .rcases ba.mp hr with y|y;.exact R4.up r y
     .rw[ap.mp y];exact us
    .rcases ba.mp hr with y|y;.exact R4.ne r y
     .rw[ap.mp y];intro q;rw[q]at ls;simp at ls;lia
    .rw[sP,av,iS,List.flatten_nil,fq,l4,ls];grind
   .cases hb:(pendingOf st3).back? with
    | none=>
     try conv=>arg 5;dsimp -zeta only
     exact hJ () st3 ⟨rs,R3,rfl⟩
    | some v=>
     obtain⟨v1,v2,v3⟩:=v
     try conv=>arg 5;dsimp -zeta only
     refine a_ (gS (e_ (I:=λ(y:Nat) (c:Option Unit×Unit) (st':SortSt)=>c=(none,())/\∃rs',fO κ kn a0 st' rs' (sg++Bg)/\rs'.flatten.length=rs.flatten.length)
      (Q:=λ(c:Option Unit×Unit) (st':SortSt)=>c=(none,())/\∃rs',fO κ kn a0 st' rs' (sg++Bg)/\rs'.flatten.length=rs.flatten.length) ?_ ?_ ⟨rfl,rs,R3,rfl⟩) ?_)
     .rintro y c eE _ hy ⟨rfl,rs',R4,l4⟩;refine a_ (o6 ?_)
      conv=>arg 5;dsimp only
      have lp:(pendingOf eE).size=rs'.length:=by rw[<-bo];exact R4.pend.len
      by_cases z4:(pendingOf eE).size > 1
      .rw[if_pos z4];obtain⟨F,X,Y,rfl⟩:=Zg (show 2<=rs'.length by lia);have lF:(pendingOf eE).size=F.length+2:=by rw[lp];simp
       rw[bS (show (pendingOf eE).size-2<(pendingOf eE).size by simp_all)];generalize (pendingOf eE)[(pendingOf eE).size-2]=v;obtain⟨v4,v5,v6⟩:=v
       try conv=>arg 5;dsimp -zeta only
       by_cases z5:v6<=(sortPriv% PySem.Builtin.power) N (2*v1+v2) (2*v1+v2+v2+n) N
       .refine bA z5 ?_;exact bg ⟨rfl,_,R4,l4⟩
       .refine bf z5 ?_;refine a_ (yD hO (F:=F) (G:=[]) R4 (show F.length=(pendingOf eE).size-2 by simp_all) λKN Z R5=>?_);refine bf vF ?_;have l5:=R5.len;have l6:=R4.len;exact bg ⟨rfl,_,R5,vE⟩
      .rw[if_neg z4]
       try conv=>arg 5;dsimp -zeta only
       exact bg ⟨rfl,_,R4,l4⟩
     .rintro c eE hc;exact hc
     .rintro c eE ⟨rfl,rs',R4,l4⟩
      try conv=>arg 5;dsimp -zeta only
      refine a_ (sf ?_);refine hJ () _ ⟨rs',⟨R4.kind,R4.fail,R4.keys,R4.perm,R4.arr,?_,R4.up,R4.ne⟩,l4⟩;refine R4.pend.congr ?_;apply i6;intro t;rw[aw,aw,b9,b9];show Option.map _ ((pendingOf eE).modify _ _)[t]?=_;rw[Array.getElem?_modify];split
      .cases(pendingOf eE)[t]? <;> rfl
      .rfl
  .by_cases z2:m<(sortPriv% PySem.Builtin.minRun) N N 0
   .refine bA z2 ?_;refine a_ (wpS_lift (ge ⟨rfl,?_⟩))
    try conv=>arg 5;dsimp -zeta only
    have z2':=g2.size;refine a_ (Tc hO (g2.kind.trans R.kind) (g2.keys R.keys) (by grind) (by grind) u2 λst3 g3 u3=>?_);refine bf vF ?_
    try conv=>arg 5;dsimp -zeta only
    refine hJ _ st3 ⟨⟨g3.kind.trans g2.kind,g3.fail.trans g2.fail,g3.pend.trans g2.pend,g3.perm.trans g2.perm,λt ht=>(g3.out t (by grind)).trans (g2.out t ht)⟩,u3,by refine a9 (by assumption) ?_;lia,om _ _⟩
   .refine bf z2 ?_;exact hJ m st2 ⟨g2,u2,m1,m2⟩
 .rintro c st1 ⟨rs,rest,rfl,R,hpr⟩;have ln:=R.len;obtain rfl:rest=[]:=by
   rcases hpr with y|y;.exact ja.mp vE
   .exact y
  exact⟨rs,_,rfl,R⟩
 .rintro c st1 ⟨rs,l,rfl,R⟩
  try conv=>arg 5;dsimp -zeta only
  have ln:=R.len;rw[r8]at ln;have lr:=tE R.ne;refine a_ (gS (e_ (I:=λ(x:Nat) (c:Option Unit×Unit) (st':SortSt)=>c=(none,())/\∃rs',fO κ kn a0 st' rs' []/\(rs'.length+x<=N\/rs'.length<=1))
   (Q:=λ(c:Option Unit×Unit) (st':SortSt)=>c=(none,())/\∃rs',fO κ kn a0 st' rs' []/\rs'.length<=1) ?_ ?_ ⟨rfl,rs,R,.inl (by simp_all)⟩) ?_)
  .rintro x c st2 _ hx ⟨rfl,rs',R2,h2⟩
   try conv=>arg 5;dsimp -zeta only
   refine a_ (o6 ?_)
   try conv=>arg 5;dsimp -zeta only
   have lp:(pendingOf st2).size=rs'.length:=by rw[<-bo];exact R2.pend.len
   by_cases z:(pendingOf st2).size<=1
   .refine bA z ?_;exact bg ⟨rfl,rs',R2,vE⟩
   refine bf z ?_
   try conv=>arg 5;dsimp -zeta only
   have lp':(pendingOf st2).size-2+1<rs'.length:=by simp_all +arith
   refine a_ (GZ hO R2 ?_ λst3 rs3 R3 l3=>?_);.exact abK (show (pendingOf st2).size-2-1+1<rs'.length by lia) lp'
   .refine bf vF ?_;exact bg ⟨rfl,_,R3,vE⟩
  .rintro c st2 ⟨rfl,rs',R2,h2⟩;exact⟨rfl,rs',R2,vE⟩
  .rintro c st2 ⟨rfl,rs',R2,h2⟩;refine bg (h _ R2.fail R2.perm ?_);rw[R2.arr,fq]
   match rs',h2,R2.up with| [],_,_=>exact List.Pairwise.nil| [r],_,u=>simpa using u r vF
end
end L2
namespace L2
open PySem PySem.Spec PyProof.Rows PySem.W
mutual
inductive pK (K:W.Frag) (H:Hp):Nat->PyData->V->Prop
 | non {n}:pK K H n .none .non
 | bl {n} (b:Bool):pK K H n (.bool b) (.bl b)
 | int {n} (i:Int):pK K H n (.int i) (.int i)
 | str {n} (l:List Nat) (h:∀c∈l,c<128):pK K H n (.str (S l)) (.str (S l))
 | tup {n a ds xs} (h:aU K H a xs) (hs:oE K H n ds xs):pK K H (n+1) (.tuple ds) (.ref a)
inductive oE (K:W.Frag) (H:Hp):Nat->List PyData->List V->Prop
 | nil {n}:oE K H n [] []
 | cons {n d ds x xs} (h:pK K H n d x) (hs:oE K H n ds xs):oE K H n (d::ds) (x::xs)
end
mutual
theorem pK.lay {K:W.Frag}:∀{n:Nat} {d:PyData} {x:V},pK K H n d x->d.canLay0=true/\d.depth<=n/\PyData.eqv d d=true
 | _,_,_,.non=>by simp[PyData.canLay0,PyData.depth,PyData.eqv]
 | _,_,_,.bl _=>by simp[PyData.canLay0,PyData.depth,PyData.eqv]
 | _,_,_,.int _=>by simp[PyData.canLay0,PyData.depth,PyData.eqv]
 | _,_,_,.str l h=>by simp only[PyData.canLay0,PyData.depth,PyData.eqv];exact⟨Qo h,cw _,vF⟩
 | _,_,_,.tup _ hs=>by simp only[PyData.canLay0,PyData.depth,PyData.eqv];have:=hs.lay;exact⟨this.1,gm this.2.1,this.2.2⟩
theorem oE.lay {K:W.Frag}:∀{n:Nat} {ds:List PyData} {xs:List V},oE K H n ds xs->PyData.canLayAll0 ds=true/\PyData.depthAll ds<=n/\PyData.eqvAll ds ds=true
 | _,_,_,.nil=>by simp[PyData.canLayAll0,PyData.depthAll,PyData.eqvAll]
 | _,_,_,.cons h hs=>by have a:=h.lay;have b:=hs.lay;simp only[PyData.canLayAll0,PyData.depthAll,PyData.eqvAll,dS];exact⟨⟨a.1,b.1⟩,Nat.max_le.mpr ⟨a.2.1,b.2.1⟩,a.2.2,b.2.2⟩
end
mutual
theorem pK.gG {K:W.Frag}(st:∀a xs,aU K H a xs->aU K H' a xs):∀{n:Nat} {d:PyData} {x:V},pK K H n d x->pK K H' n d x
 | _,_,_,.non=>.non
 | _,_,_,.bl b=>.bl b
 | _,_,_,.int i=>.int i
 | _,_,_,.str l h=>.str l h
 | _,_,_,.tup h hs=>.tup (st _ _ h) (hs.gG st)
theorem oE.gG {K:W.Frag}(st:∀a xs,aU K H a xs->aU K H' a xs):∀{n:Nat} {ds:List PyData} {xs:List V},oE K H n ds xs->oE K H' n ds xs
 | _,_,_,.nil=>.nil
 | _,_,_,.cons h hs=>.cons (h.gG st) (hs.gG st)
end
section
variable {X:Cx}
variable {prog:Program}{w:World}
mutual
theorem pK.reads {aq:AC}{σ:St}{H:Hp}{s:Shared}(I:aJ X aq σ H s):∀{n:Nat} {d:PyData} {x:V} {u:Value},pK X.K H n d x->bJ x u->∃as,Reads s.heap u d as
 | _,_,_,u,.non,r=>by cases r;exact⟨[],.none⟩
 | _,_,_,u,.bl b,r=>by cases r;exact⟨[],.bool b⟩
 | _,_,_,u,.int i,r=>by obtain⟨t,rfl⟩:=r;exact⟨[],.int i t⟩
 | _,_,_,u,.str l h,r=>by obtain⟨t,rfl⟩:=r;exact⟨[],.str _ t⟩
 | _,_,_,u,.tup h hs,r=>by cases r;obtain⟨its,rv,pl,_⟩:=I.tuple h;obtain⟨as,ra⟩:=hs.reads I rv;obtain⟨o,ho,hc,n,hd⟩:=pl;exact⟨as,.tuple ho hc hd (by simpa using ra)⟩
theorem oE.reads {aq:AC}{σ:St}{H:Hp}{s:Shared}(I:aJ X aq σ H s):∀{n:Nat} {ds:List PyData} {xs:List V} {us:List Value},oE X.K H n ds xs->Vals xs us->∃as,ReadsAll s.heap us ds as
 | _,_,_,us,.nil,r=>by cases r;exact⟨[],.nil⟩
 | _,_,_,us,.cons h hs,r=>by
  cases r with| cons q t=>obtain⟨as,a⟩:=h.reads I q;obtain⟨bs,b⟩:=hs.reads I t;exact⟨as++bs,.cons a b⟩
end
inductive vO (prog:Program) (w:World) (hp:Heap) (u:Nat):List Value->List Int->Nat->Prop
 | nil:vO prog w hp u [] [] 0
 | cons {v:Value} {x:Int} {d:Nat} {vs:List Value} {xs:List Int} {ds:Nat} (hv:∀(A:Around) (E:AB) (s:Shared) (Q:Int->Shared->Prop),A.units<=u->s.heap=hp->Q x {s with toks:=s.toks+d}->wpAny (model prog w) A (pyHash v) Q E s)
   (t:vO prog w hp u vs xs ds):vO prog w hp u (v::vs) (x::xs) (d+ds)
def Zi {A:Around}{s:Shared}(hu:A.units<cLine)(ho:s.heap.get? a=some o)(hc:o.cls=.type "tuple")(hd:o.data=.seq its n)(hI:vO prog w s.heap (A.units+1) its.toList hs dr)(q:Q (reduceHash (Builtin.Tuple.tupleHashOf hs)) {s with toks:=s.toks+(dr+1)}):wpAny (model prog w) A (pyHash (.ref a)) Q E s:=by
 have hT:s.TypeIs (.ref a) "tuple":=⟨o,ho,hc⟩
 unfold pyHash
 first|unfold pyHashByItsType|skip
 first|refine ab (wpAny_cRoomFor_or (Or.inr hu) ?_)|skip
 refine ab (mB hT ng.lookup ?_);rw[show (some (Value.builtin "tuple.__hash__")==some Value.none)=false from beq_builtin_none _];simp only[bd,if_false];refine ab (mB hT ng.lookup ?_);refine ab (wpAny_callSpecialIfBoundUnlessNone?_slot hT ng (dA ng hT F.entry_tuple_hash ?_ (F.args_tuple_hash_1 _)));show wpAny _ _ (Builtin.Tuple.tupleItemsOf (Value.ref a) >>= _) _ _ s;refine ab (mE ho hd (ab ?_));rw[<-oI];refine ly _ (λrest (b:Array Int) s1=>∃(left:List Int) (d1 d2:Nat),hs=b.toList++left/\vO prog w s.heap (A.units+1) rest left d2/\d1+d2=dr/\s1={s with toks:=s.toks+d1}) _ ?_ ?_ _ _ ⟨hs,0,dr,rfl,hI,gt _,rfl⟩
 .rintro x rest b s1 ⟨left,d1,d2,e1,hl,e2,rfl⟩;cases hl with| @cons v h d vs xs ds hv t=>refine ab (hv _ _ _ _ (ag _) rfl ?_);exact ah ⟨xs,d1+d,ds,by rw[e1];simp,t,vE,by simp[mr]⟩
 .rintro b s1 ⟨left,d1,d2,e1,hl,e2,rfl⟩;cases hl;have e1:hs=b.toList:=by simpa using e1
  have e2:d1=dr:=e2;subst e1 e2;refine wpAny_ret_mkInt ?_;show wpAny _ _ (pyHashByItsType.reduced (Builtin.Tuple.tupleHashOf b.toList)) Q E _;unfold pyHashByItsType.reduced;unfold reduceHash at q;split
  .rename_i z;rw[if_pos z]at q;exact ah (by simpa [mr] using q)
  .rename_i z;rw[if_neg z]at q;exact ab (ge (ah (by simpa [mr] using q)))
inductive tG (prog:Program) (w:World) (hp:Heap) (u:Nat):List Value->List Value->Bool->Prop
 | nil:tG prog w hp u [] [] true
 | left {y:Value} {ys:List Value}:tG prog w hp u [] (y::ys) false
 | right {x:Value} {xs:List Value}:tG prog w hp u (x::xs) [] false
 | cons {x y:Value} {xs ys:List Value} {b c:Bool} (hv:∀(A:Around) (E:AB) (s:Shared) (Q:Bool->Shared->Prop),A.units<=u->s.heap=hp->Q b s->wpAny (model prog w) A (eqBool x y) Q E s)
   (t:b=true->tG prog w hp u xs ys c) (f:b=false->c=false):tG prog w hp u (x::xs) (y::ys) c
def abL {A:Around}{s:Shared}(ha:s.heap.get? a=some oa)(hda:oa.data=.seq xs na)(hb:s.heap.get? b=some ob)(hcb:ob.cls=.type "tuple")(hdb:ob.data=.seq ys nb)(hI:tG prog w s.heap A.units xs.toList ys.toList c)(q:R (.done (.ret (.bool c))) s):wpAny (model prog w) A (Builtin.«tuple.__eq__» ⟨[.ref a,.ref b],[]⟩) R E s:=by
 have hTb:s.TypeIs (.ref b) "tuple":=⟨ob,hb,hcb⟩
 show wpAny _ _ (isInstance (Value.ref b) (.type "tuple") >>= _) _ _ s;refine ab (gu hTb tq ?_);simp only[eB,bd,if_false];refine ab (mE ha hda (ab (mE hb hdb (ab ?_))));refine ly _ (λrest r s1=>r.1=none/\s1=s/\∃us vs,rest=List.zip us vs/\tG prog w s.heap A.units us vs c/\(us.length==vs.length)=(xs.size==ys.size)) _ ?_ ?_ _ _ ⟨rfl,rfl,_,_,rfl,hI,vF⟩
 .rintro⟨u,v⟩ rest r s1 ⟨hr,rfl,us,vs,hz,hi,hl⟩;cases hi with
  | nil=>simp at hz
  | left=>simp at hz
  | right=>simp at hz
  | @cons x y xs1 ys1 b1 _ hv ht hf=>
   simp only[List.zip_cons_cons,List.cons.injEq,Prod.mk.injEq]at hz;obtain⟨⟨rfl,rfl⟩,rfl⟩:=hz;refine ab (hv _ _ _ _ (ag _) rfl ?_);cases b1 with| true=>simp only[eB,bd,if_false];exact ah ⟨rfl,rfl,xs1,ys1,rfl,ht rfl,by simpa using hl⟩| false=>simp only[jS,if_true];rw[hf rfl]at q;exact ab (ah (ah (ah q)))
 .rintro⟨r1,r2⟩ s1 ⟨hr,rfl,us,vs,hz,hi,hl⟩;have hr:r1=none:=hr;subst hr;have hc:(xs.size==ys.size)=c:=by
   rw[<-hl];cases hi with| nil=>rfl| left=>simp| right=>simp| cons=>simp at hz
  refine ah ?_;show R (.done (.ret (.bool (xs.size==ys.size)))) s1;rw[hc];exact q
def aeo {A:Around}{s:Shared}(hu:A.units<cLine)(ha:s.heap.get? a=some oa)(hca:oa.cls=.type "tuple")(hda:oa.data=.seq xs na)(hb:s.heap.get? b=some ob)(hcb:ob.cls=.type "tuple")(hdb:ob.data=.seq ys nb)(hI:tG prog w s.heap (A.units+1) xs.toList ys.toList c)(hab:a=b->c=true)(q:Q c s):wpAny (model prog w) A (eqBool (.ref a) (.ref b)) Q E s:=by
 have hTa:s.TypeIs (.ref a) "tuple":=⟨oa,ha,hca⟩
 have hTb:s.TypeIs (.ref b) "tuple":=⟨ob,hb,hcb⟩
 unfold eqBool
 try with_reducible refine eW ?_
 by_cases z:(Value.ref a==Value.ref b)=true
 .rw[if_pos z];have e:a=b:=by have:=eq_of_beq z;injection this
  rw[hab e]at q;exact ab (ge (ah q))
 .rw[if_neg z];exact ab (wpAny_richCompare_same_room (op:=.Eq) hTa hTb F.slot_tuple_eq (dA F.slot_tuple_eq hTa F.entry_tuple_eq (abL ha hda hb hcb hdb hI ⟨_,rfl,(λe=>nomatch e),ee q⟩) (F.args_tuple_eq_2 _ _)) hu)
def V7 {s:Shared}(ho:s.heap.get? a=some o)(hc:o.cls=.type "tuple")(hd:o.data=.seq its n)(hI:∀v∈its.toList,∀(Q':Bool->Shared->Prop) (E':AB),Q' true s->wpAny (model prog w) A (eqIsQuiet d v) Q' E' s)(q:Q true s):wpAny (model prog w) A (eqIsQuiet (d+1) (.ref a)) Q E s:=by
 have hT:s.TypeIs (.ref a) "tuple":=⟨o,ho,hc⟩
 unfold eqIsQuiet;refine ab (mB hT F.slot_tuple_eq.lookup ?_);show wpAny _ _ (isInstance (Value.ref a) (.type "tuple") >>= _) _ _ s;refine ab (gu hT tq ?_);simp only[eB,bd,if_false];refine ab (fN ho hd (ab ?_));show wpAny _ _ (forIn its _ _) _ _ s;rw[<-oI];refine ly _ (λrest r s1=>r.1=none/\s1=s/\∀v∈rest,v∈its.toList) _ ?_ ?_ _ _ ⟨rfl,rfl,λv hv=>hv⟩
 .rintro v rest r s1 ⟨hr,rfl,hall⟩;refine ab (hI v (hall v a6) _ _ ?_);simp only[eB,bd,if_false];exact ah ⟨rfl,rfl,λx hx=>hall x (aI _ hx)⟩
 .rintro⟨r1,r2⟩ s1 ⟨hr,rfl,_⟩;have hr:r1=none:=hr;subst hr;exact ah q
end
structure fG (prog:Program)(w:World)(κ:Type) [DecidableEq κ] where
 is:Heap->κ->Value->Prop
 hash:κ->Int
 draws:κ->Nat
 deep:Nat
 inj:∀{h:Heap} {v:Value} {x y:κ},is h x v->is h y v->x=y
 keeps:∀{h h':Heap} {k:κ} {v:Value} {d:Addr} {o:Obj} {es ep},is h k v->h.get? d=some o->o.data=.dict es ep->Heap.SameBut d h h'->is h' k v
 pyHash:∀{A:Around} {E:AB} {s:Shared} {k:κ} {v:Value} {Q:Int->Shared->Prop},A.units+deep<cLine+1->is s.heap k v->Q (hash k) {s with toks:=s.toks+draws k}->wpAny (model prog w) A (PySem.pyHash v) Q E s
 eqBool:∀{A:Around} {E:AB} {s:Shared} {x y:κ} {u v:Value} {Q:Bool->Shared->Prop},A.units+deep<cLine+1->is s.heap x u->is s.heap y v->Q (decide (x=y)) s->wpAny (model prog w) A (PySem.eqBool u v) Q E s
 quiet:∀{A:Around} {E:AB} {s:Shared} {k:κ} {v:Value} {Q:Bool->Shared->Prop} (n:Nat),deep<=n->is s.heap k v->Q true s->wpAny (model prog w) A (eqIsQuiet n v) Q E s
noncomputable def uE {prog:Program}{w:World}{κ:Type} [DecidableEq κ] (knd:KeyKind prog w κ):fG prog w κ where
 is:=λ_ k v=>knd.is k v=true
 hash:=knd.hash
 draws:=λ_=>1
 deep:=0
 inj:=λh1 h2=>knd.inj _ _ _ h1 h2
 keeps:=λh _ _ _=>h
 pyHash:=λ_ h q=>knd.pyHash h q
 eqBool:=λ_ h1 h2 q=>knd.eqBool h1 h2 q
 quiet:=λn _ h q=>by rw[PySem.eqIsQuiet_byValue n (knd.byValue _ _ h)];exact ah q
section
variable {prog:Program}{w:World}{κ κ1 κ2:Type}[DecidableEq κ][DecidableEq κ1][DecidableEq κ2]
def V8 {h h':Heap}(h1:h.get? a=some o1)(h2:o1.data=.seq its n)(ho:h.get? d=some o)(hd:o.data=.dict es ep)(hs:Heap.SameBut d h h'):h'.get? a=some o1:=by
 have hne:a≠d:=by rintro rfl;rw[h1]at ho;cases ho;rw[h2]at hd;cases hd
 exact(hs.2 a hne).trans h1
def jG (vk:fG prog w κ)(h:Heap):List κ->List Value->Prop
 | [],[]=>True
 | k::ks,v::vs=>vk.is h k v/\jG vk h ks vs
 | _,_=>False
theorem jG.inj {vk:fG prog w κ}{h:Heap}:∀{x y:List κ} {vs:List Value},jG vk h x vs->jG vk h y vs->x=y
 | [],[],[],_,_=>rfl
 | [],[],_::_,a,_=>a.elim
 | [],_::_,[],_,b=>b.elim
 | [],_::_,_::_,a,_=>a.elim
 | _::_,[],[],a,_=>a.elim
 | _::_,[],_::_,_,b=>b.elim
 | _::_,_::_,[],a,_=>a.elim
 | _::_,_::_,_::_,a,b=>by rw[vk.inj a.1 b.1,jG.inj a.2 b.2]
theorem jG.keeps {vk:fG prog w κ}{h h':Heap}{d:Addr}{o:Obj}{es:Array DictEntry}{ep:Nat}(ho:h.get? d=some o)(hd:o.data=.dict es ep)(hs:Heap.SameBut d h h'):∀{x:List κ} {vs:List Value},jG vk h x vs->jG vk h' x vs
 | [],[],_=>trivial
 | _::_,_::_,a=>⟨vk.keeps a.1 ho hd hs,jG.keeps ho hd hs a.2⟩
theorem jG.hashes {vk:fG prog w κ}(hu:u+vk.deep<cLine+1):∀{x:List κ} {vs:List Value},jG vk h x vs->vO prog w h u vs (x.map vk.hash) (x.map vk.draws).sum
 | [],[],_=>.nil
 | _::_,_::_,a=>by rw[cp,cp,gE];exact .cons (λA' E' s' Q' ha hs q'=>vk.pyHash vE (by rw[hs];exact a.1) q') (jG.hashes hu a.2)
theorem jG.eqs {vk:fG prog w κ}(hu:u+vk.deep<cLine+1):∀{x y:List κ} {us vs:List Value},jG vk h x us->jG vk h y vs->tG prog w h u us vs (decide (x=y))
 | [],[],[],[],_,_=>.nil
 | [],_::_,[],_::_,_,_=>by simpa using tG.left
 | _::_,[],_::_,[],_,_=>by simpa using tG.right
 | p::x,q::y,_::_,_::_,a,b=>by
  refine .cons (b:=decide (p=q)) (λA' E' s' Q' ha hs q'=>vk.eqBool vE (by rw[hs];exact a.1) (by rw[hs];exact b.1) q') (λe=>?_) λe=>?_
  .have:=jG.eqs hu a.2 b.2;have e:=i7 e
   rwa [show decide (p::x=q::y)=decide (x=y) from by simp[e]]
  .have e:=oP e;simp[e]
theorem jG.mem {vk:fG prog w κ}{h:Heap}:∀{x:List κ} {vs:List Value} {v:Value},jG vk h x vs->v∈vs->∃k,vk.is h k v
 | [],[],_,_,hv=>by simp at hv
 | [],_::_,_,a,_=>a.elim
 | _::_,[],_,a,_=>a.elim
 | _::_,_::_,v,a,hv=>by
  rcases bb.mp hv with e|e;.exact⟨_,by rw[e];exact a.1⟩
  .exact jG.mem a.2 e
noncomputable def tupK (vk:fG prog w κ):fG prog w (List κ) where
 is:=λh ks v=>∃(a:Addr) (o:Obj) (n:Nat) (its:Array Value),v=.ref a/\h.get? a=some o/\o.cls=.type "tuple"/\o.data=.seq its n/\jG vk h ks its.toList
 hash:=λks=>reduceHash (Builtin.Tuple.tupleHashOf (ks.map vk.hash))
 draws:=λks=>(ks.map vk.draws).sum+1
 deep:=vk.deep+1
 inj:=by rintro h v x y ⟨a,o,n,its,rfl,h1,_,h2,h3⟩ ⟨a',o',n',its',e,h1',_,h2',h3'⟩;cases e;rw[h1]at h1';cases h1';rw[h2]at h2';injection h2' with e1 _;subst e1;exact h3.inj h3'
 keeps:=by rintro h h' k v d o es ep ⟨a,o1,n,its,rfl,h1,hc,h2,h3⟩ ho hd hs;exact⟨a,o1,n,its,rfl,V8 h1 h2 ho hd hs,hc,h2,h3.keeps ho hd hs⟩
 pyHash:=by rintro A E s k v Q hu ⟨a,o1,n,its,rfl,h1,hc,h2,h3⟩ q;exact Zi vE h1 hc h2 (h3.hashes vE) q
 eqBool:=by rintro A E s x y u v Q hu ⟨a,o1,n,its,rfl,h1,hc,h2,h3⟩ ⟨a',o1',n',its',rfl,h1',hc',h2',h3'⟩ q;refine aeo (c:=decide (x=y)) vE h1 hc h2 h1' hc' h2' (h3.eqs vE h3') ?_ q;rintro rfl;rw[h1]at h1';cases h1';rw[h2]at h2';injection h2' with e1 _;subst e1;exact aE (h3.inj h3')
 quiet:=by
  rintro A E s k v Q n hn ⟨a,o1,n1,its,rfl,h1,hc,h2,h3⟩ q;obtain⟨m,rfl⟩:∃m,n=m+1:=⟨n-1,vE⟩
  refine V7 h1 hc h2 (λv hv Q' E' q'=>?_) q;obtain⟨k',hk'⟩:=h3.mem hv;exact vk.quiet m (dE hn) hk' q'
end
def S5:Nat->Nat
 | 0=>0
 | d+1=>5*S5 d+1
theorem Es:∀d,5^d=4*S5 d+1
 | 0=>rfl
 | d+1=>by rw[iF,Es d,S5];lia
theorem Ly (a):∀b,S5 (a+b)=5^a*S5 b+S5 a
 | 0=>by rw[S5,Nat.mul_zero,gt];rfl
 | b+1=>by
  show 5*S5 (a+b)+1=5^a*(5*S5 b+1)+S5 a;have h:=Es a;rw[Ly a b,vv,vv,vw,h];have e:5*((4*S5 a+1)*S5 b)=(4*S5 a+1)*(5*S5 b):=by rw[<-kG,fz 5 (4*S5 a+1),kG]
  lia
def aep (e):S5 (e+e)=S5 e*(4*S5 e+2):=by
 rw[Ly,Es];have:(4*S5 e+1)*S5 e+S5 e=S5 e*(4*S5 e+1)+S5 e:=by rw[fz]
 rw[this,<-Nat.mul_succ]
theorem V9:∀d,S5 d%2=d%2
 | 0=>rfl
 | d+1=>by have:=V9 d;show (5*S5 d+1)%2=(d+1)%2;lia
def Zj (h:2^(k+1) ∣ x*(4*y+2)):2^k ∣ x*(2*y+1):=by
 obtain⟨c,hc⟩:=h;refine⟨c,?_⟩;have e:x*(4*y+2)=2*(x*(2*y+1)):=by rw[show 4*y+2=2*(2*y+1) by lia,<-kG,fz x 2,kG]
 rw[e,iF,fz (2^k) 2,kG]at hc;exact Nat.eq_of_mul_eq_mul_left vS hc
theorem G3:∀{k x y:Nat},2^k ∣ x*(2*y+1)->2^k ∣ x
 | 0,x,_,_=>by rw[uS];exact Nat.one_dvd x
 | k+1,x,y,h=>by
  have h2:2 ∣ x*(2*y+1):=Nat.dvd_trans ⟨2^k,by rw[iF,fz]⟩ h;have hx:x%2=0:=by have:=Nat.mod_eq_zero_of_dvd h2;rw[Nat.mul_mod]at this;have hy:(2*y+1)%2=1:=vF;rw[hy,vw,Nat.mod_mod]at this;exact this
  obtain⟨z,rfl⟩:∃z,x=2*z:=⟨x/2,vE⟩
  rw[iF,fz (2^k) 2,kG]at h;have:=Nat.dvd_of_mul_dvd_mul_left vS h;rw[iF,fz (2^k) 2];exact Nat.mul_dvd_mul_left 2 (G3 this)
theorem V_:∀{k d:Nat},2^k ∣ S5 d->2^k ∣ d
 | 0,d,_=>by rw[uS];exact Nat.one_dvd d
 | k+1,d,h=>by
  have h2:2 ∣ S5 d:=Nat.dvd_trans ⟨2^k,by rw[iF,fz]⟩ h;have hd:d%2=0:=by rw[<-V9 d];exact Nat.mod_eq_zero_of_dvd h2
  obtain⟨e,rfl⟩:∃e,d=e+e:=⟨d/2,vE⟩
  rw[aep]at h;have:=V_ (G3 (Zj h));rw[iF,fz (2^k) 2,show e+e=2*e by lia];exact Nat.mul_dvd_mul_left 2 this
def rH (m:Nat):Nat->Nat->Nat
 | 0,x=>x
 | n+1,x=>rH m n ((x*5+1)%m)
theorem Qw (m):∀n x,rH m n x%m=(5^n*x+S5 n)%m
 | 0,x=>by rw[rH,uS,Nat.one_mul];rfl
 | n+1,x=>by
  rw[rH,Qw m n];have e1:5^(n+1)*x+S5 (n+1)=5^n*(x*5+1)+S5 n:=by rw[Ly n 1,vv,vw,iF,fz x 5,kG];show _+(5^n*1+S5 n)=_;lia
  rw[e1,Nat.add_mod,Nat.mul_mod,Nat.mod_mod,<-Nat.mul_mod,<-Nat.add_mod]
theorem Lz (hm:0<m):∀n x,x<m->rH m n x<m
 | 0,_,h=>h
 | n+1,_,_=>Lz hm n _ (nE _ hm)
theorem Qx (m):∀a b x,rH m (a+b) x=rH m b (rH m a x)
 | 0,b,x=>by rw[gt];rfl
 | a+1,b,x=>by rw[Nat.succ_add];exact Qx m a b _
def Zk (hx:x<2^k)(h:rH (2^k) d x=x):2^k ∣ d:=by
 have hm:=Qw (2^k) d x;rw[h,Es]at hm;have e:(4*S5 d+1)*x+S5 d=x+S5 d*(2*(2*x)+1):=by rw[Nat.add_mul,Nat.one_mul,vv,vw,fz 4 (S5 d),kG,show 2*(2*x)=4*x by lia];lia
 rw[e]at hm;have hd:2^k ∣ S5 d*(2*(2*x)+1):=by have:=Nat.sub_mod_eq_zero_of_mod_eq hm.symm;rw[gL]at this;exact Nat.dvd_of_mod_eq_zero this
 exact V_ (G3 hd)
def abM (hx:x<2^k)(ha:a<2^k)(hb:b<2^k)(h:rH (2^k) a x=rH (2^k) b x):a=b:=by
 have key:∀a b,a<=b->b<2^k->rH (2^k) a x=rH (2^k) b x->a=b:=by intro a b hab hb h;obtain⟨d,rfl⟩:=Nat.exists_eq_add_of_le hab;rw[Qx]at h;have hl:=Lz (Nat.two_pow_pos k) a x hx;have:=Zk hl h.symm;have hd:d=0:=Nat.eq_zero_of_dvd_of_lt this (ko (Nat.le_add_left _ _) hb);lia
 rcases Nat.le_total a b with z|z;.exact key a b z hb h
 .exact(key b a z ha h.symm).symm
def aer {l:List Nat}(nd:l.Nodup)(hl:l.length=M)(hs:∀x∈l,x<M)(hy:y<M):y∈l:=by
 apply gg;intro hn;have:=(f7.mpr ⟨hn,nd⟩).length_le_of_subset (l₂:=List.range M) λx hx=>by
  rcases bb.mp hx with e|e;.rw[e];exact bE.mpr hy
  .exact bE.mpr (hs x e)
 rw[bt,dC]at this;lia
def abN (hx:x<2^k)(hy:y<2^k):∃n,n<2^k/\rH (2^k) n x=y:=by
 have nd:((List.range (2^k)).map λn=>rH (2^k) n x).Nodup:=df.mpr (rg.imp_of_mem λ{a b} ha hb hne z=>hne (abM hx (bE.mp ha) (bE.mp hb) z));have:=aer nd (by rw[aa,dC]) (λz hz=>by obtain⟨n,_,rfl⟩:=ar.mp hz;exact Lz (Nat.two_pow_pos k) n x hx) hy
 obtain⟨n,hn,e⟩:=ar.mp this;exact⟨n,bE.mp hn,e⟩
def jd (mask:Nat):Nat->Nat×Nat->Nat×Nat
 | 0,p=>p
 | n+1,p=>jd mask n (SetTable.leap mask p.1 p.2)
theorem Ji (mask):∀a b p,jd mask (a+b) p=jd mask b (jd mask a p)
 | 0,b,p=>by rw[gt];rfl
 | a+1,b,p=>by rw[Nat.succ_add];exact Ji mask a b _
theorem Et (mask):∀n p,(jd mask n p).2=p.2/32^n
 | 0,p=>by rw[jd,uS,Nat.div_one]
 | n+1,p=>by rw[jd,Et mask n];show p.2/32/32^n=p.2/32^(n+1);rw[Nat.div_div_eq_div_mul,iF,fz 32]
theorem LC:∀n p,p.1<=mask->(jd mask n p).1<=mask
 | 0,_,h=>h
 | n+1,p,_=>LC n _ (dE (nE _ (kr mask)))
theorem Eu (mask):∀n i,jd mask n (i,0)=(rH (mask+1) n i,0)
 | 0,i=>rfl
 | n+1,i=>by
  have:SetTable.leap mask i 0=((i*5+1)%(mask+1),0):=by unfold SetTable.leap;simp
  rw[jd,this,Eu mask n];rfl
def Jj (hm:mask+1=2^k)(hi:i<=mask)(hp:p<2^64)(hy:y<=mask):∃n,n<=mask+13/\(jd mask n (i,p)).1=y:=by
 have h13:(jd mask 13 (i,p)).2=0:=by rw[Et];exact Nat.div_eq_of_lt (bq hp vS)
 have hl:=LC (mask:=mask) 13 (i,p) hi;obtain⟨n,hn,e⟩:=abN (k:=k) (x:=(jd mask 13 (i,p)).1) (y:=y) vE vE;refine⟨13+n,vE,?_⟩;rw[Ji,show jd mask 13 (i,p)=((jd mask 13 (i,p)).1,0) from tf rfl h13,Eu,hm];exact e
def stp (t:SetTable):Nat->SetTable.Probe->SetTable.Probe
 | 0,p=>p
 | s+1,p=>stp t s (t.advance p)
theorem vP (t):∀a b p,stp t (a+b) p=stp t b (stp t a p)
 | 0,b,p=>by rw[gt];rfl
 | a+1,b,p=>by rw[Nat.succ_add];exact vP t a b _
noncomputable def mq (t:SetTable)(q:Nat×Nat)(d:Option Nat):SetTable.Probe:={j:=q.1,more:=SetTable.runEnd t.mask q.1-q.1,i:=q.1,perturb:=q.2,dummy:=d}
def aes (mask i):SetTable.runEnd mask i-i<=9:=by unfold SetTable.runEnd;split <;> simp
theorem G4 (t):∀(m:Nat) (p:SetTable.Probe),p.more=m->stp t (m+1) p=mq t (SetTable.leap t.mask p.i p.perturb) p.dummy
 | 0,p,h=>by show t.advance p=_;unfold SetTable.advance mq;rw[if_neg vE]
 | m+1,p,h=>by
  show stp t (m+1) (t.advance p)=_;have e:t.advance p={p with j:=p.j+1,more:=p.more-1}:=by unfold SetTable.advance;rw[if_pos vE]
  rw[e];exact G4 t m _ (by show p.more-1=m;exact eQ vE)
theorem Jk (t)(d):∀(n:Nat) (q:Nat×Nat),∃s,s<=10*n/\stp t s (mq t q d)=mq t (jd t.mask n q) d
 | 0,q=>⟨0,ag _,rfl⟩
 | n+1,q=>by have h1:=G4 t _ (mq t q d) rfl;obtain⟨s,hs,e⟩:=Jk t d n (SetTable.leap t.mask q.1 q.2);have hr:(mq t q d).more<=9:=aes t.mask q.1;refine⟨(mq t q d).more+1+s,vE,?_⟩;rw[vP,h1];exact e
def Wa (t:SetTable)(h):t.probeStart h=mq t (SetTable.bits h%(t.mask+1),SetTable.bits h) none:=rfl
def Qy (h):SetTable.bits h<2^64:=by
 unfold SetTable.bits;have h1:=d6 h (show (2^64:Int)≠0 by decide);have h2:=de h (show (0:Int)<2^64 by decide);have h3:=Int.toNat_of_nonneg h1;have h4:(((2:Nat)^64:Nat):Int)=(2^64:Int):=by decide
 simp_all
def abO {t:SetTable}(hm:t.mask+1=2^k)(h)(hy:y<=t.mask):∃s,s<=10*(t.mask+13)/\(stp t s (t.probeStart h)).j=y:=by obtain⟨n,hn,e⟩:=Jj (i:=SetTable.bits h%(t.mask+1)) (p:=SetTable.bits h) hm (dE (nE _ (kr _))) (Qy h) hy;obtain⟨s,hs,es⟩:=Jk t none n (SetTable.bits h%(t.mask+1),SetTable.bits h);refine⟨s,vE,?_⟩;rw[Wa,es];exact e
def Jl (t:SetTable)(p:SetTable.Probe):(t.advance p).dummy=p.dummy:=by unfold SetTable.advance;split <;> rfl
theorem Qz (t : SetTable)(hs : Nat -> Int)(h)(hd : ∀j, t.slot j ≠ .dummy) : ∀(fuel : Nat) (p : SetTable.Probe), p.dummy = none -> (∃s, s<fuel /\ t.slot (stp t s p).j = .empty) ->
    ∃s, s<fuel /\ (∀s', s'<s -> ∃i, t.slot (stp t s' p).j = .live i /\ hs i ≠ h) /\
      ((t.slot (stp t s p).j = .empty /\ SetTable.probe.go t hs h fuel p = some (.empty (stp t s p).j none)) \/
       ∃i, t.slot (stp t s p).j = .live i /\ hs i = h /\ SetTable.probe.go t hs h fuel p = some (.candidate (stp t s p).j i (stp t (s+1) p)))
  | 0, _, _, ⟨_, h, _⟩ => absurd h (iL _)
  | fuel+1, p, hp, ⟨s, hs1, hs2⟩ => by
    cases e : t.slot p.j with
    | empty => exact⟨0, kr _, λs' z => absurd z (iL _), .inl ⟨e, by unfold SetTable.probe.go; rw[e, hp]; rfl⟩⟩
    | dummy => exact absurd e (hd _)
    | live i =>
      by_cases hh : hs i = h
      · refine⟨0, kr _, λs' z => absurd z (iL _), .inr ⟨i, e, hh, ?_⟩⟩
        unfold SetTable.probe.go;rw[e];simp only[hh, beq_self_eq_true, if_true];rfl
      · have hne : s ≠ 0 := by
          rintro rfl;have : t.slot p.j = .empty := hs2;rw[e]at this; cases this
        obtain⟨s1, rfl⟩ : ∃s1, s = s1+1 := ⟨s-1, by lia⟩
        obtain⟨r, hr, hall, hend⟩ := Qz t hs h hd fuel (t.advance p) (by rw[Jl]; exact hp) ⟨s1, dE hs1, hs2⟩;have eg : SetTable.probe.go t hs h (fuel+1) p = SetTable.probe.go t hs h fuel (t.advance p) := by
          conv => lhs; unfold SetTable.probe.go
          rw[e];simp[hh]
        refine⟨r+1, q0 hr, λs' z => ?_, ?_⟩
        · cases s' with| zero => exact⟨i, e, hh⟩| succ s' => exact hall s' vE
        · rw[eg]
          exact hend
def yE (xs:List Nat):Prop:=xs.Pairwise (λa b=>a<b)
def yE.at_ {xs:List Nat}(h:yE xs){i j a b:Nat}(hij:i<j)(ha:xs[i]?=some a)(hb:xs[j]?=some b):a<b:=by obtain⟨h1,e1⟩:=ai.mp ha;obtain⟨h2,e2⟩:=ai.mp hb;have:=eJ.mp h i j h1 h2 hij;rw[e1,e2]at this;exact this
structure Blw (xs:List Nat)(j k:Nat):Prop where
 le:k<=xs.length
 lo:∀(i a:Nat),i<k->xs[i]?=some a->a<j
 hi:∀(i a:Nat),k<=i->xs[i]?=some a->j<=a
theorem CT {xs:Array Nat}{j:Nat}(hs:yE xs.toList):∀(fuel lo hi:Nat),lo<=hi->hi<=xs.size->hi-lo<=fuel->(∀(i a:Nat),i<lo->xs.toList[i]?=some a->a<j)->(∀(i a:Nat),hi<=i->xs.toList[i]?=some a->j<=a)->Blw xs.toList j (SetTable.below.go xs j fuel lo hi)
 | 0,lo,hi,h1,h2,h3,h4,h5=>by
  have:lo=hi:=by rw[fe]at *;lia
  subst this;unfold SetTable.below.go;exact⟨by simpa using h2,h4,h5⟩
 | fuel+1,lo,hi,h1,h2,h3,h4,h5=>by
  unfold SetTable.below.go;by_cases z:lo<hi
  .rw[if_pos z];have hm:(lo+hi)/2<xs.size:=nK vE;have hg:xs.toList[(lo+hi)/2]?=some (xs.getD ((lo+hi)/2) j):=by
    rw[b9,bS hm,ff,bS hm];rfl
   by_cases c:xs.getD ((lo+hi)/2) j<j
   .simp only[c,if_true];refine CT hs fuel _ _ (nK vE) h2 (by simp_all;lia) (λi a hi' ha=>?_) h5;rcases cn i ((lo+hi)/2) with y|y;.have:=hs.at_ y ha hg;exact kX this c
    .have:i=(lo+hi)/2:=by lia
     rw[this,hg]at ha;cases ha;exact c
   .simp only[c,if_false];refine CT hs fuel _ _ vE (ay hm) (by simp_all;lia) h4 (λi a hi' ha=>?_);rcases cn ((lo+hi)/2) i with y|y;.have:=hs.at_ y hg ha;lia
    .have:i=(lo+hi)/2:=vj y hi';rw[this,hg]at ha;cases ha;exact lv c
  .rw[if_neg z];have:lo=hi:=by lia
   subst this;exact⟨by simpa using h2,h4,h5⟩
def CV {xs:Array Nat}(hs:yE xs.toList)(j):Blw xs.toList j (SetTable.below xs j):=
 CT hs xs.size 0 xs.size (cw _) (ag _) vE (λi a h=>absurd h (iL _)) (λi a h ha=>by have:=(ai.mp ha).1;rw[bo]at this;lia)
def jH {t:SetTable}(hs:yE t.place.toList):t.slot j=.live i↔t.place.toList[i]?=some j:=by
 have B:=CV hs j;constructor
 .intro h;unfold SetTable.slot at h;dsimp only at h;split at h
  .rename_i e;cases h;rw[b9];exact eq_of_beq e
  .split at h <;> cases h
 .intro h;have hi:SetTable.below t.place j=i:=by
   rcases pV (SetTable.below t.place j) i with z|z|z
   .obtain⟨hl,_⟩:=ai.mp h;obtain⟨a,ha⟩:∃a,t.place.toList[SetTable.below t.place j]?=some a:=⟨_,ae (kX z hl)⟩
    have h1:=B.hi _ a (ag _) ha;have h2:=hs.at_ z ha h;lia
   .exact z
   .have:=B.lo i j z h;lia
  unfold SetTable.slot;dsimp only;rw[hi,<-b9,h];simp
def w6 {t:SetTable}(hs:yE t.place.toList)(hd:t.dummies=#[]):t.slot j=.empty↔j∉t.place.toList:=by
 constructor
 .intro h hm;obtain⟨i,hi⟩:=gI hm;rw[(jH hs).mpr hi]at h;cases h
 .intro h;cases e:t.slot j with
  | empty=>rfl
  | live i=>exact absurd (aT ((jH hs).mp e)) h
  | dummy=>
   exfalso;unfold SetTable.slot at e;dsimp only at e;split at e;.cases e
   .split at e
    .rename_i z;unfold SetTable.has at z;rw[hd]at z;simp at z
    .cases e
def Td {t:SetTable}(hs:yE t.place.toList)(hd:t.dummies=#[])(j):t.slot j≠.dummy:=by
 intro e;by_cases h:j∈t.place.toList
 .obtain⟨i,hi⟩:=gI h;rw[(jH hs).mpr hi]at e;cases e
 .rw[(w6 hs hd).mpr h]at e;cases e
def Zm {t t':SetTable}(h:t.mask=t'.mask)(p:SetTable.Probe):t.advance p=t'.advance p:=by unfold SetTable.advance;rw[h]
theorem LK {t t':SetTable}(h:t.mask=t'.mask):∀s p,stp t s p=stp t' s p
 | 0,_=>rfl
 | s+1,p=>by rw[stp,stp,Zm h,LK h s]
def Te {t t':SetTable}(h:t.mask=t'.mask)(x):t.probeStart x=t'.probeStart x:=by unfold SetTable.probeStart;rw[h]
def fD (t:SetTable)(h:Int)(s:Nat):Nat:=(stp t s (t.probeStart h)).j
def Ew {t t':SetTable}(e:t.mask=t'.mask)(h)(s):fD t h s=fD t' h s:=by unfold fD;rw[Te e,LK e]
def Way (t:SetTable)(pl:List Nat)(h:Int)(j:Nat):Prop:=∃s,fD t h s=j/\∀s',s'<s->fD t h s'∈pl
structure jB (t:SetTable)(hs:List Int):Prop where
 yF:yE t.place.toList
 len:t.place.toList.length=hs.length
 LQ:t.dummies=#[]
 two:∃k,3<=k/\k<=13/\t.mask+1=2^k
 le:∀j∈t.place.toList,j<=t.mask
 few:hs.length<=t.mask
 way:∀(i j:Nat) (h:Int),hs[i]?=some h->t.place.toList[i]?=some j->Way t t.place.toList h j
def jX {α:Type}(xs:Array α)(p)(x:α):(SetTable.insertAt xs p x).toList=xs.toList.take p++x::xs.toList.drop p:=by unfold SetTable.insertAt;simp[sh,on];exact cq vF
def lg {α:Type}{l:List α}{p:Nat}{x:α}(hp:p<=l.length){i:Nat}{y:α}(h:(l.take p++x::l.drop p)[i]?=some y):(i<p/\l[i]?=some y)\/(i=p/\y=x)\/(p<i/\l[i-1]?=some y):=by
 have hl:(l.take p).length=p:=by rw[bn];lia
 rcases pV i p with z|z|z
 .rw[dQ (by simp[*]),List.getElem?_take,if_pos z]at h;exact .inl ⟨z,h⟩
 .rw[c_ (by simp[*]),hl,z,lx]at h;exact .inr (.inl ⟨z,by simpa using h.symm⟩)
 .rw[c_ vE,hl,show i-p=(i-p-1)+1 by lia,pi,oC,show p+(i-p-1)=i-1 by lia]at h;exact .inr (.inr ⟨z,h⟩)
def abP (hs:yE xs)(B:Blw xs j p)(hn:j∉xs):yE (xs.take p++j::xs.drop p):=by
 unfold yE;rw[fw,gx];refine⟨hs.sublist (pM p xs),⟨λa ha=>?_,hs.sublist (gT p xs)⟩,λa ha b hb=>?_⟩
 .obtain⟨i,hi⟩:=gI ha;rw[oC]at hi;have h1:=B.hi _ a vE hi;have h2:a≠j:=λz=>hn (by rw[<-z];exact aT hi);lia
 .obtain⟨i,hi⟩:=gI ha;rw[List.getElem?_take]at hi;split at hi
  .rename_i z;have h1:=B.lo i a z hi;rcases bb.mp hb with e|e;.simp_all
   .obtain⟨m,hm⟩:=gI e;rw[oC]at hm;have:=B.hi _ b vE hm;exact bq h1 this
  .cases hi
def Way.mono {t t':SetTable}(w:Way t pl h j)(e:t.mask=t'.mask)(hs:∀x∈pl,x∈pl'):Way t' pl' h j:=by obtain⟨s,h1,h2⟩:=w;exact⟨s,by rw[<-Ew e];exact h1,λs' z=>by rw[<-Ew e];exact hs _ (h2 s' z)⟩
def Wb (t:SetTable)(j):(t.put j).1.place=SetTable.insertAt t.place (SetTable.below t.place j) j:=rfl
def jB.put (I:jB t hs)(hj:j<=t.mask)(hn:j∉t.place.toList)(w:Way t t.place.toList h j)(hf:hs.length+1<=t.mask):jB (t.put j).1 (hs.take (SetTable.below t.place j)++h::hs.drop (SetTable.below t.place j)):=by
 have B:=CV I.yF j;have Wc:(t.put j).1.place.toList=t.place.toList.take (SetTable.below t.place j)++j::t.place.toList.drop (SetTable.below t.place j):=by rw[Wb,jX]
 have mem:∀x∈t.place.toList,x∈(t.put j).1.place.toList:=λx hx=>by
  rw[Wc];rw[<-cS (SetTable.below t.place j) t.place.toList]at hx;rcases ba.mp hx with z|z;.exact rS _ z
  .exact dq _ (aI _ z)
 have hpl:=B.le;have bW:=I.len;refine⟨by rw[Wc];exact abP I.yF B hn,?_,?_,I.two,λx hx=>?_,?_,λi y g h1 h2=>?_⟩
 .rw[Wc];simp only[av,bn,bt,dP];simp_all
 .show (if SetTable.has t.dummies j=true then _ else t.dummies)=#[];rw[I.LQ];simp[SetTable.has]
 .rw[Wc]at hx;rcases ba.mp hx with z|z;.exact I.le x (eL z)
  .rcases bb.mp z with z|z;.rw[z];exact hj
   .exact I.le x (iA z)
 .simp only[av,bn,bt,dP];show _<=t.mask;simp_all +arith
 .rw[Wc]at h2;rcases lg (by simp_all) h1 with⟨a,b⟩|⟨a,b⟩|⟨a,b⟩
  .rcases lg hpl h2 with⟨c,d⟩|⟨c,d⟩|⟨c,d⟩;.exact(I.way i y g b d).mono rfl mem
   .lia
   .lia
  .rcases lg hpl h2 with⟨c,d⟩|⟨c,d⟩|⟨c,d⟩;.lia
   .rw[b,d];exact w.mono rfl mem
   .lia
  .rcases lg hpl h2 with⟨c,d⟩|⟨c,d⟩|⟨c,d⟩;.lia
   .lia
   .exact(I.way (i-1) y g b d).mono rfl mem
section
variable {P:Program}{w:World}{κ:Type}[DecidableEq κ]
def jM (vk:fG P w κ):Prop:=∀{A:Around} {E:AB} {s:Shared} {k:κ} {v:Value} {Q:Bool->Shared->Prop} (n:Nat),vk.deep<=n->vk.is s.heap k v->Q false s->wpAny (model P w) A (ofAClassStatement n v) Q E s
structure Ey (vk:fG P w κ)(h:Heap)(es:Array (Int×Value))(ks:List κ):Prop where
 len:ks.length=es.toList.length
 at_:∀(i:Nat) e k,es.toList[i]?=some e->ks[i]?=some k->vk.is h k e.2/\e.1=vk.hash k/\∃b,e.2=.ref b
 nd:ks.Nodup
def jB.fits {es:Array (Int×Value)}(I:jB t (es.toList.map (·.1))):t.fits es.size=true:=by have h1:=I.len;have h2:=I.few;rw[aa,bo]at h1 h2;rw[bo]at h1;unfold SetTable.fits SetTable.fill;rw[I.LQ];simp;simp_all
def jB.odd (I:jB t hs):t.gaveWay=false:=by
 obtain⟨k,h3,_,e⟩:=I.two;obtain⟨m,rfl⟩:∃m,k=m+1:=⟨k-1,vE⟩
 rw[iF]at e;unfold SetTable.gaveWay;have:t.mask%2=1:=by lia
 rw[this];rfl
def jB.hole (I:jB t hs)(h):∃s,s<=10*(t.mask+13)/\fD t h s∉t.place.toList:=by
 have h1:=I.len;have h2:=I.few;have:∃y,y<=t.mask/\y∉t.place.toList:=by apply gg;intro hn;have hall:∀y,y<=t.mask->y∈t.place.toList:=λy hy=>gg λz=>hn ⟨y,hy,z⟩;have:=(rg (n:=t.mask+1)).length_le_of_subset (l₂:=t.place.toList) λy hy=>hall y (by have:=bE.mp hy;exact dE this);rw[dC]at this;lia
 obtain⟨y,hy,hn⟩:=this;obtain⟨k,_,_,e⟩:=I.two;obtain⟨s,hs,ey⟩:=abO e h hy;exact⟨s,hs,by unfold fD;rw[ey];exact hn⟩
def Wd (t)(h)(s):fD t h s<=t.mask:=by
 have key:∀s p,p.i<=t.mask->p.j+p.more<=t.mask->(stp t s p).j<=t.mask:=by
  intro s
  induction s with
  | zero=>intro p _ h;show p.j<=t.mask;lia
  | succ s ih=>
   intro p h1 h2;show (stp t s (t.advance p)).j<=t.mask;unfold SetTable.advance;split;.exact ih _ h1 (by show p.j+1+(p.more-1)<=t.mask;lia)
   .have hl:(SetTable.leap t.mask p.i p.perturb).1<=t.mask:=dE (nE _ (kr _));refine ih _ hl ?_;show (SetTable.leap t.mask p.i p.perturb).1+(SetTable.runEnd t.mask (SetTable.leap t.mask p.i p.perturb).1-(SetTable.leap t.mask p.i p.perturb).1)<=t.mask;unfold SetTable.runEnd;split <;> simp_all
 have hl:SetTable.bits h%(t.mask+1)<=t.mask:=dE (nE _ (kr _));refine key s (t.probeStart h) hl ?_;show SetTable.bits h%(t.mask+1)+(SetTable.runEnd t.mask (SetTable.bits h%(t.mask+1))-SetTable.bits h%(t.mask+1))<=t.mask;unfold SetTable.runEnd;split <;> simp_all
variable {vk:fG P w κ}{A:Around}{E:AB}{s:Shared}
def abQ (je:vk.deep<=8)(nc:jM vk){x:Value}{k:κ}(hx:vk.is s.heap k x){stored:List Value}(hst:∀y∈stored,∃k',vk.is s.heap k' y){Q:Bool->Shared->Prop}(h:Q false s):wpAny (model P w) A (searchCouldBeSeen x stored) Q E s:=by
 unfold searchCouldBeSeen;refine ab ?_;refine ly _ (λrest r s'=>s'=s/\r=(none,())/\∀y∈rest,∃k',vk.is s.heap k' y) _ ?_ ?_ _ _ ⟨rfl,rfl,hst⟩
 .rintro y rest r s' ⟨rfl,rfl,hr⟩;obtain⟨k',hk'⟩:=hr y a6;have hrest:∀z∈rest,∃k',vk.is s'.heap k' z:=λz hz=>hr z (aI _ hz);dsimp only
  split
  all_goals
   split;.exact ah ⟨rfl,rfl,hrest⟩
   .refine ab (vk.quiet 8 je hx ?_);simp only[eB,bd,if_false];refine ab (vk.quiet 8 je hk' ?_);simp only[eB,bd,if_false];refine ab (nc 8 je hx ?_);simp only[bd,if_false];refine ab (nc 8 je hk' ?_);simp only[bd,if_false];exact ah ⟨rfl,rfl,hrest⟩
 .rintro r s' ⟨rfl,rfl,_⟩;exact ah h
theorem B_ (je:vk.deep<=8)(nc:jM vk)(hu:A.units+vk.deep<cLine+1)(ho:s.heap.get? a=some o)(hd:o.data=.set es ep t)(I:jB t (es.toList.map (·.1)))(K:Ey vk s.heap es ks)(hx:vk.is s.heap k x)(h1:k∈ks->Q (.there none) s)(h2:k∉ks->∀j,j<=t.mask->j∉t.place.toList->Way t t.place.toList (vk.hash k) j->Q (.free j false) s)(he:fD t (vk.hash k) e0∉t.place.toList)(hel:e0<=10*(t.mask+13)):∀(fuel r:Nat) (stand:Option SetTable.Probe),e0-r<fuel->stand.getD (t.probeStart (vk.hash k))=stp t r (t.probeStart (vk.hash k))->(∀r',r'<r->fD t (vk.hash k) r'∈t.place.toList/\∀i:Nat,t.place.toList[i]?=some (fD t (vk.hash k) r')->ks[i]?≠some k)->
   wpAny (model P w) A (setSearchFrom a x (vk.hash k) true fuel stand) Q E s
 | 0,_,_,h,_,_=>absurd h (iL _)
 | fuel+1,r,stand,hf,Ez,hpre=>by
  have hre:r<=e0:=by
   rcases cn e0 r with z|z;.exact absurd (hpre e0 z).1 he
   .exact z
  unfold setSearchFrom;refine ab (fk ho hd I.fits ?_);dsimp only;rw[I.odd];simp only[bd,if_false];rw[Ez];have hdm:(stp t r (t.probeStart (vk.hash k))).dummy=none:=by
   have:∀n p,(stp t n p).dummy=p.dummy:=by
    intro n
    induction n with| zero=>intro p;rfl| succ n ih=>intro p;rw[stp,ih,Jl]
   rw[this];rfl
  have hw:∀n,(stp t n (stp t r (t.probeStart (vk.hash k)))).j=fD t (vk.hash k) (r+n):=λn=>by unfold fD;rw[vP]
  obtain⟨n,hn,hall,hend⟩:=Qz t (λi=>(es[i]?.map (·.1)).getD 0) (vk.hash k) (Td I.yF I.LQ) (10*SetTable.turns t.mask) _ hdm ⟨e0-r,by unfold SetTable.turns;exact ic vE,by rw[hw,show r+(e0-r)=e0 from me hre];exact(w6 I.yF I.LQ).mpr he⟩;have zj:∀m,m<n->∃i:Nat,t.place.toList[i]?=some (fD t (vk.hash k) (r+m))/\(es[i]?.map (λe:Int×Value=>e.1)).getD 0≠vk.hash k:=λm hm=>by obtain⟨i,e1,e2⟩:=hall m hm;rw[hw]at e1;exact⟨i,(jH I.yF).mp e1,e2⟩
  have iV:t.place.toList.length=ks.length:=by rw[I.len,aa,K.len]
  have hnot:∀m,m<r+n->∀i:Nat,t.place.toList[i]?=some (fD t (vk.hash k) m)->ks[i]?≠some k:=λm hm i hi hk=>by
   rcases cn m r with z|z;.exact(hpre m z).2 i hi hk
   .obtain⟨i',e1,e2⟩:=zj (m-r) (b8 vE vE);rw[show r+(m-r)=m from me z]at e1;have hii:i=i':=by
     have a1:=(jH I.yF).mpr hi;rw[(jH I.yF).mpr e1]at a1;cases a1;rfl
    subst hii;obtain⟨e,hes⟩:∃e,es.toList[i]?=some e:=⟨_,ae (by rw[<-K.len,<-iV];exact(ai.mp hi).1)⟩
    have:=(K.at_ i e k hes hk).2.1;rw[<-b9,hes]at e2;exact e2 this
  have cV:∀m,m<r+n->fD t (vk.hash k) m∈t.place.toList:=λm hm=>by
   rcases cn m r with z|z;.exact(hpre m z).1
   .obtain⟨i',e1,_⟩:=zj (m-r) vE;rw[show r+(m-r)=m by lia]at e1;exact aT e1
  rw[hw]at hend;rcases hend with⟨hsl,hgo⟩|⟨i,hsl,hhash,hgo⟩
  .have hemp:=(w6 I.yF I.LQ).mp hsl;split
   .rename_i met heq;have heq':SetTable.probe.go t (λi=>(es[i]?.map (·.1)).getD 0) (vk.hash k) (10*SetTable.turns t.mask) (stp t r (t.probeStart (vk.hash k)))=some met:=heq;rw[hgo]at heq';cases heq';dsimp only;refine ah (h2 (λhk=>?_) _ (Wd t _ _) hemp ⟨r+n,rfl,cV⟩);obtain⟨i0,hi0⟩:=gI hk;have hil:=(ai.mp hi0).1;obtain⟨j0,hj0⟩:∃j,t.place.toList[i0]?=some j:=⟨_,ae (by simp[*])⟩
    obtain⟨e,hes⟩:∃e,es.toList[i0]?=some e:=⟨_,ae (by rw[<-K.len];exact hil)⟩
    have hh:=(K.at_ i0 e k hes hi0).2.1;obtain⟨s0,w1,w2⟩:=I.way i0 j0 (vk.hash k) (by rw[aw,hes,<-hh];rfl) hj0;rcases pV s0 (r+n) with z|z|z;.exact hnot s0 z i0 (by rw[w1];exact hj0) hi0
    .rw[z]at w1;exact hemp (by rw[w1];exact aT hj0)
    .exact hemp (w2 _ z)
   .rename_i heq;have heq':SetTable.probe.go t (λi=>(es[i]?.map (·.1)).getD 0) (vk.hash k) (10*SetTable.turns t.mask) (stp t r (t.probeStart (vk.hash k)))=none:=by
     cases hq:SetTable.probe.go t (λi=>(es[i]?.map (·.1)).getD 0) (vk.hash k) (10*SetTable.turns t.mask) (stp t r (t.probeStart (vk.hash k))) with| none=>rfl| some m=>exact absurd hq (heq m)
    rw[hgo]at heq';cases heq'
  .have hpl:=(jH I.yF).mp hsl;have hil:=(ai.mp hpl).1;obtain⟨e,hes⟩:∃e,es.toList[i]?=some e:=⟨_,ae (by rw[<-K.len,<-iV];exact hil)⟩
   obtain⟨k',hk'⟩:∃k',ks[i]?=some k':=⟨_,ae (by rw[<-iV];exact hil)⟩
   obtain⟨hy,hh,b,hb⟩:=K.at_ i e k' hes hk';have Tf:es[i]?=some e:=by rw[<-b9];exact hes
   split
   .rename_i met heq;have heq':SetTable.probe.go t (λi=>(es[i]?.map (·.1)).getD 0) (vk.hash k) (10*SetTable.turns t.mask) (stp t r (t.probeStart (vk.hash k)))=some met:=heq;rw[hgo]at heq';cases heq';dsimp only;have hsm:t.sameMemory t.moves t.mask=some true:=by unfold SetTable.sameMemory;simp
    have hr0:r≠e0:=by
     rintro rfl;rcases kq n with z|z
     .rw[z,uC]at hpl;exact he (aT hpl)
     .obtain⟨i',e1,_⟩:=zj 0 z;exact he (aT e1)
    have tail:∀hkk:¬k'=k,wpAny (model P w) A (setSearchFrom a x (vk.hash k) true fuel (some (stp t (n+1) (stp t r (t.probeStart (vk.hash k)))))) Q E s:=λhkk=>
     B_ je nc hu ho hd I K hx h1 h2 he hel fuel (r+n+1) _ (by grind) (by rw[u7,<-vP,mr]) λr' hr'=>by
      rcases cn r' (r+n) with z|z;.exact⟨cV r' z,hnot r' z⟩
      .have:r'=r+n:=by lia
       subst this;refine⟨aT hpl,λi2 hi2=>?_⟩;have hii:i=i2:=by have a1:=(jH I.yF).mpr hi2;rw[hsl]at a1;cases a1;rfl
       rw[<-hii,hk'];exact λz=>hkk (ax z)
    have hst:∀y∈List.map (λx=>x.snd) (Array.filter (λx=>x.fst==vk.hash k) es).toList,∃k',vk.is s.heap k' y:=λy hy=>by
     obtain⟨e',he',rfl⟩:=ar.mp hy;have hm:e'∈es.toList:=by have:=rX.mp he';rw[Array.mem_filter]at this;exact rX.mpr this.1
     obtain⟨i3,hi3⟩:=gI hm;obtain⟨k3,hk3⟩:∃k3,ks[i3]?=some k3:=⟨_,ae (by rw[K.len];exact(ai.mp hi3).1)⟩
     exact⟨k3,(K.at_ i3 e' k3 hi3 hk3).1⟩
    obtain⟨eh,ev⟩:=e;have hb:ev=.ref b:=hb;subst hb;cases hl:t.led
    .simp only[jS,if_true];refine ab (abQ je nc hx hst ?_);simp only[bd,if_false];rw[Tf];dsimp only;refine ab (eW (vk.eqBool hu hy hx ?_));refine ab (fk ho hd I.fits ?_);dsimp only;by_cases hkk:k'=k
     .rw[aE hkk];exact ah (h1 (hkk ▸ aT hk'))
     .rw[am hkk];simp only[kQ,bd,if_false];rw[hsm];simp only[if_true];rw[hsl];dsimp only;rw[Tf];dsimp only;refine ab (wpAny_isSame_ref_self ?_);exact ab (ah (tail hkk))
    .simp only[eB,bd,if_false];rw[Tf];dsimp only;refine ab (eW (vk.eqBool hu hy hx ?_));refine ab (fk ho hd I.fits ?_);dsimp only;by_cases hkk:k'=k
     .rw[aE hkk];exact ah (h1 (hkk ▸ aT hk'))
     .rw[am hkk];simp only[kQ,bd,if_false];rw[hsm];simp only[if_true];rw[hsl];dsimp only;rw[Tf];dsimp only;refine ab (wpAny_isSame_ref_self ?_);exact ab (ah (tail hkk))
   .rename_i heq;have heq':SetTable.probe.go t (λi=>(es[i]?.map (·.1)).getD 0) (vk.hash k) (10*SetTable.turns t.mask) (stp t r (t.probeStart (vk.hash k)))=none:=by
     cases hq:SetTable.probe.go t (λi=>(es[i]?.map (·.1)).getD 0) (vk.hash k) (10*SetTable.turns t.mask) (stp t r (t.probeStart (vk.hash k))) with| none=>rfl| some m=>exact absurd hq (heq m)
    rw[hgo]at heq';cases heq'
end
def tM (mask:Nat):SetTable:={mask:=mask,place:=#[],dummies:=#[],finger:=0,led:=false,moves:=0,plain:=false}
def Taken (ow:Array (Option Nat))(j:Nat):Prop:=(ow.getD j (some 0)).isNone=false
def aeu (t:SetTable)(d):∀(q:Nat×Nat) (m:Nat),m<=SetTable.runEnd t.mask q.1-q.1->(stp t m (mq t q d)).j=q.1+m:=by
 intro q m hm;have key:∀(m:Nat) (p:SetTable.Probe),m<=p.more->(stp t m p).j=p.j+m:=by
  intro m
  induction m with
  | zero=>intro p _;rfl
  | succ m ih=>
   intro p h;show (stp t m (t.advance p)).j=_;have e:t.advance p={p with j:=p.j+1,more:=p.more-1}:=by unfold SetTable.advance;rw[if_pos vE]
   rw[e,ih _ (by show m<=p.more-1;exact tP h)];show p.j+1+m=p.j+(m+1)
   lia
 exact key m (mq t q d) hm
theorem Jm (mask)(ow):∀(fuel:Nat) (q:Nat×Nat),(∃n,n<fuel/\¬Taken ow (jd mask n q).1)->
  ∃s,SetTable.layClean.free mask ow fuel q.1 q.2=some (stp (tM mask) s (mq (tM mask) q none)).j/\¬Taken ow (stp (tM mask) s (mq (tM mask) q none)).j/\∀s',s'<s->Taken ow (stp (tM mask) s' (mq (tM mask) q none)).j
 | 0,_,⟨_,h,_⟩=>absurd h (iL _)
 | fuel+1,q,⟨n,hn,hfree⟩=>by
  have cV:=aeu (tM mask) none q;cases e:(List.range (SetTable.runEnd mask q.1+1-q.1)).find? λk=>(ow.getD (q.1+k) (some 0)).isNone with
  | some k=>
   have h1:=List.find?_some e;have h2:=bE.mp (uk e);have hk:k<=SetTable.runEnd mask q.1-q.1:=eP vE;refine⟨k,?_,?_,λs' hs'=>?_⟩
   .unfold SetTable.layClean.free;rw[e,cV k hk]
   .rw[cV k hk];unfold Taken;rw[h1];decide
   .rw[cV s' (a9 (ay hs') hk)];obtain⟨as,bs,el,hall⟩:=(List.find?_eq_some_iff_append.mp e).2;have hm:s'∈as:=by
     have:(List.range (SetTable.runEnd mask q.1+1-q.1))[s']?=some s':=gd (kX hs' h2);have hk2:(List.range (SetTable.runEnd mask q.1+1-q.1))[as.length]?=some k:=by rw[el,c_ (ag _),lx];rfl
     have hal:as.length<SetTable.runEnd mask q.1+1-q.1:=by have:=(ai.mp hk2).1;rwa [dC]at this
     rw[gd hal]at hk2;have hak:as.length=k:=ax hk2;rw[el,dQ (by simp_all)]at this;exact aT this
    have:=hall s' hm;unfold Taken;simpa using this
  | none=>
   have hall:=List.find?_eq_none.mp e;have htk:∀m,m<=SetTable.runEnd mask q.1-q.1->q.1<=SetTable.runEnd mask q.1->Taken ow (q.1+m):=λm hm hle=>by have:=hall m (bE.mpr (Nat.lt_sub_of_add_lt vE));unfold Taken;exact p_.mpr this
   have hle:q.1<=SetTable.runEnd mask q.1:=by unfold SetTable.runEnd;split <;> lia
   have hn0:n≠0:=by rintro rfl;exact hfree (htk 0 (cw _) hle)
   obtain⟨n1,rfl⟩:∃n1,n=n1+1:=⟨n-1,vE⟩
   obtain⟨s,h1,h2,h3⟩:=Jm mask ow fuel (SetTable.leap mask q.1 q.2) ⟨n1,dE hn,hfree⟩;have hrun:=G4 (tM mask) _ (mq (tM mask) q none) rfl;have hadd:∀m,stp (tM mask) ((mq (tM mask) q none).more+1+m) (mq (tM mask) q none)=stp (tM mask) m (mq (tM mask) (SetTable.leap mask q.1 q.2) none):=λm=>by rw[vP,hrun];rfl
   refine⟨(mq (tM mask) q none).more+1+s,?_,?_,λs' hs'=>?_⟩
   .rw[hadd,<-h1]
    conv=>lhs;unfold SetTable.layClean.free
    rw[e]
   .rw[hadd];exact h2
   .rcases cn s' ((mq (tM mask) q none).more+1) with z|z
    .have hm:s'<=SetTable.runEnd mask q.1-q.1:=dE z;rw[cV s' hm];exact htk s' hm hle
    .obtain⟨m,rfl⟩:∃m,s'=(mq (tM mask) q none).more+1+m:=⟨s'-((mq (tM mask) q none).more+1),by simp_all⟩
     rw[hadd];exact h3 m (by simp_all)
structure Own (mask:Nat)(hs:List Int)(ow:Array (Option Nat))(pos:Nat->Nat):Prop where
 size:ow.size=mask+1
 le:∀i,i<hs.length->pos i<=mask
 at_:∀i,i<hs.length->ow[pos i]?=some (some i)
 only:∀j i:Nat,ow[j]?=some (some i)->i<hs.length/\j=pos i
 way:∀(i:Nat) h,hs[i]?=some h->∃s,fD (tM mask) h s=pos i/\∀s',s'<s->∃i',i'<hs.length/\fD (tM mask) h s'=pos i'
def zE {ow:Array (Option Nat)}(hj:j<ow.size):Taken ow j↔∃i,ow[j]?=some (some i):=by
 unfold Taken;rw[ff,bS hj,u7];cases ow[j] with| none=>simp| some i=>simp
def Own.step (O:Own mask hs ow pos)(hm:mask+1=2^k)(hf:hs.length<=mask)(h):∃j,SetTable.layClean.free mask ow (SetTable.turns mask) (SetTable.bits h%(mask+1)) (SetTable.bits h)=some j/\Own mask (hs++[h]) (ow.setIfInBounds j (some hs.length)) λi=>if i=hs.length then j else pos i:=by
 have hinj:∀a b,a<hs.length->b<hs.length->pos a=pos b->a=b:=λa b ha hb e=>by have h1:=O.at_ a ha;rw[e,O.at_ b hb]at h1;exact(ax (ax h1)).symm
 obtain⟨y,hy,hny⟩:∃y,y<=mask/\∀i,i<hs.length->pos i≠y:=by apply gg;intro hn;have hall:∀y,y<=mask->y∈(List.range hs.length).map pos:=λy hy=>gg λz=>hn ⟨y,hy,λi hi e=>z (ar.mpr ⟨i,bE.mpr hi,e⟩)⟩;have:=(rg (n:=mask+1)).length_le_of_subset (l₂:=(List.range hs.length).map pos) λy hy=>hall y (by have:=bE.mp hy;exact dE this);rw[dC,aa,dC]at this;lia
 have hle:SetTable.bits h%(mask+1)<=mask:=dE (nE _ (kr _));obtain⟨n,hn,en⟩:=Jj hm hle (Qy h) hy;have hsz:=O.size;obtain⟨s,e1,e2,e3⟩:=Jm mask ow (SetTable.turns mask) (SetTable.bits h%(mask+1),SetTable.bits h) ⟨n,by unfold SetTable.turns;lia,λz=>by rw[en,zE vE]at z;obtain⟨i,hi⟩:=z;obtain⟨h1,h2⟩:=O.only y i hi;exact hny i h1 h2.symm⟩
 have zF:∀m,(stp (tM mask) m (mq (tM mask) (SetTable.bits h%(mask+1),SetTable.bits h) none)).j=fD (tM mask) h m:=λm=>rfl;rw[zF]at e1 e2;refine⟨_,e1,?_⟩;have hjl:fD (tM mask) h s<=mask:=by apply gg;intro z;apply e2;unfold Taken;rw[ff,mN vE];rfl
 have hfree:∀i,i<hs.length->pos i≠fD (tM mask) h s:=λi hi e=>e2 ((zE vE).mpr ⟨i,by rw[<-e];exact O.at_ i hi⟩);generalize hj:fD (tM mask) h s=j at *
 have hget:∀m:Nat,(ow.setIfInBounds j (some hs.length))[m]?=if j=m then some (some hs.length) else ow[m]?:=λm=>by
  rw[Array.getElem?_setIfInBounds];split
  .rename_i z;simp;lia
  .rfl
 refine⟨by rw[Array.size_setIfInBounds];exact hsz,λi hi=>?_,λi hi=>?_,λm i hm'=>?_,λi g hg=>?_⟩
 .split;.exact hjl
  .exact O.le i (by rw[av]at hi;simp at hi;lia)
 .rw[av]at hi;simp at hi;rw[hget];by_cases z:i=hs.length;.rw[if_pos z,if_pos rfl,z]
  .rw[if_neg z,if_neg λy=>hfree i vE y.symm];exact O.at_ i vE
 .rw[hget]at hm';rw[av];simp only[bt,r8];split at hm'
  .rename_i z;have:hs.length=i:=by simpa using hm'
   subst this;exact⟨e8 _,by rw[if_pos rfl,z]⟩
  .obtain⟨h1,h2⟩:=O.only m i hm';exact⟨eK h1,by rw[if_neg (be h1)];exact h2⟩
 .rcases cn i hs.length with z|z
  .rw[dQ z]at hg;obtain⟨s2,w1,w2⟩:=O.way i g hg;refine⟨s2,by rw[if_neg vE];exact w1,λs' hs'=>?_⟩;obtain⟨i',a1,a2⟩:=w2 s' hs';exact⟨i',by rw[av];simp;exact eK a1,by rw[if_neg vE];exact a2⟩
  .have hi0:i=hs.length:=by
    have:=(ai.mp hg).1;rw[av]at this;simp at this;lia
   subst hi0;rw[c_ (ag _),lx]at hg;have hg:h=g:=by simpa using hg
   subst hg;refine⟨s,by rw[if_pos rfl];exact hj,λs' hs'=>?_⟩;have ht:=e3 s' hs';rw[zF]at ht;have hl':fD (tM mask) h s'<ow.size:=by
    have:fD (tM mask) h s'<=mask:=Wd (tM mask) h s'
    (simp[Nat.sub_sub];lia)
   obtain⟨i',hi'⟩:=(zE hl').mp ht;obtain⟨a1,a2⟩:=O.only _ i' hi';exact⟨i',by rw[av];simp;lia,by rw[if_neg vE];exact a2⟩
noncomputable def Tg (mask:Nat)(acc:Option (Array (Option Nat)×Nat))(h:Int):Option (Array (Option Nat)×Nat):=do
 let (owner,k) <- acc
 let j <- SetTable.layClean.free mask owner (SetTable.turns mask) (SetTable.bits h%(mask+1)) (SetTable.bits h)
 pure (owner.setIfInBounds j (some k),k+1)
theorem LR (hm:mask+1=2^k):∀(hs pre:List Int) (ow:Array (Option Nat)) (pos:Nat->Nat),Own mask pre ow pos->pre.length+hs.length<=mask->
  ∃ow' pos',hs.foldl (Tg mask) (some (ow,pre.length))=some (ow',(pre++hs).length)/\Own mask (pre++hs) ow' pos'
 | [],pre,ow,pos,O,_=>⟨ow,pos,vF,by rw[fq];exact O⟩
 | h::hs,pre,ow,pos,O,hl=>by
  rw[bt]at hl;obtain⟨j,e,O'⟩:=O.step hm vE h;have es:Tg mask (some (ow,pre.length)) h=some (ow.setIfInBounds j (some pre.length),(pre++[h]).length):=by unfold Tg;simp[e]
  obtain⟨ow',pos',e2,O2⟩:=LR hm hs (pre++[h]) _ _ O' (by rw[av];simp;lia);refine⟨ow',pos',?_,?_⟩;.rw[vi,es,e2];simp
  .rw[bu]at O2;exact O2
def abR (mask):Own mask [] (Array.replicate (mask+1) none) λ_=>0:=by refine⟨vF,λi h=>by simp at h,λi h=>by simp at h,λj i h=>?_,λi h e=>by simp at e⟩;rw[Array.getElem?_replicate]at h;split at h <;> simp at h
def O1 (hm:mask+1=2^k)(hs:Array Int)(hl:hs.size<=mask):∃ow pos,SetTable.layClean mask hs=some ow/\Own mask hs.toList ow pos:=by
 obtain⟨ow,pos,e,O⟩:=LR hm hs.toList [] _ _ (abR mask) (by simpa using hl);refine⟨ow,pos,?_,by simpa using O⟩;have:SetTable.layClean mask hs=(hs.toList.foldl (Tg mask) (some (Array.replicate (mask+1) none,0))).map (·.1):=by rw[Array.foldl_toList];rfl
 rw[this,show (0:Nat)=([]:List Int).length from rfl,e];rfl
def kj (mask:Nat)(ow:Array (Option Nat)):List (Nat×Nat):=(List.range (mask+1)).filterMap λj=>(ow.getD j none).map (j,·)
def nF (O:Own mask hs ow pos):(j,i)∈kj mask ow↔i<hs.length/\j=pos i:=by
 unfold kj;rw[oq];constructor
 .rintro⟨j',hj',e⟩;have hl:j'<ow.size:=by rw[O.size];exact bE.mp hj'
  rw[ff,bS hl,u7]at e;cases hx:ow[j'] with
  | none=>rw[hx]at e;cases e
  | some x=>rw[hx]at e;have e:(j',x)=(j,i):=ax e;cases e;exact O.only j i (by rw[bS hl,hx])
 .rintro⟨hi,rfl⟩;refine⟨pos i,bE.mpr (qf (O.le i hi)),?_⟩;rw[ff,O.at_ i hi];rfl
def L_ (mask)(ow):yE ((kj mask ow).map (·.1)):=by
 have key:∀l:List Nat,l.Pairwise (λa b=>a<b)->((l.filterMap λj=>(ow.getD j none).map (j,·)).map (·.1)).Sublist l:=by
  intro l _
  induction l with
  | nil=>exact .slnil
  | cons j l ih=>
   rename_i hl;have ih:=ih (gx.mp hl).2;rw[jn];cases ow.getD j none with| none=>exact ih.cons _| some x=>exact ih.cons_cons _
 exact List.pairwise_lt_range.sublist (key _ List.pairwise_lt_range)
def Wf (O:Own mask hs ow pos):((kj mask ow).map (·.2)).Perm (List.range hs.length):=by
 have nd1:((kj mask ow).map (·.1)).Nodup:=(L_ mask ow).imp λh=>be h;have Ma:((kj mask ow).map (·.2)).Nodup:=by refine df.mpr ((df.mp nd1).imp_of_mem λ{a b} ha hb hne e=>hne ?_);obtain⟨_,h1⟩:=(nF O (j:=a.1) (i:=a.2)).mp ha;obtain⟨_,h2⟩:=(nF O (j:=b.1) (i:=b.2)).mp hb;rw[h1,h2,e]
 refine(List.perm_ext_iff_of_nodup Ma rg).mpr λi=>?_;rw[ar,bE];constructor
 .rintro⟨⟨j,i'⟩,hm,rfl⟩;exact((nF O).mp hm).1
 .intro hi;exact⟨(pos i,i),(nF O).mpr ⟨hi,rfl⟩,rfl⟩
def abS (hm:mask+1=2^k)(h3:3<=k)(h13:k<=13)(hs:Array Int)(hl:hs.size<=mask)(finger moves)(led plain):∃t order,SetTable.laid mask finger moves led plain hs=some (t,order)/\t.mask=mask/\t.led=led/\t.plain=plain/\order.toList.Perm (List.range hs.size)/\jB t (order.toList.map λi=>hs.toList.getD i 0):=by
 obtain⟨ow,pos,e,O⟩:=O1 hm hs hl;have hsz:hs.toList.length=hs.size:=bo;have hperm:=Wf O;rw[hsz]at hperm;refine⟨{mask:=mask,place:=((kj mask ow).map (·.1)).toArray,dummies:=#[],finger:=finger,led:=led,moves:=moves,plain:=plain},((kj mask ow).map (·.2)).toArray,?_,rfl,rfl,rfl,by simpa using hperm,?_⟩
 .unfold SetTable.laid;rw[e];rfl
 .have bW:(kj mask ow).length=hs.size:=by have:=hperm.length_eq;rwa [aa,dC]at this
  refine⟨by simpa using L_ mask ow,vF,rfl,⟨k,h3,h13,hm⟩,λj hj=>?_,by simpa [bW] using hl,λi j h e1 e2=>?_⟩
  .have hj:j∈(kj mask ow).map (·.1):=by simpa using hj
   obtain⟨⟨j',i⟩,hm',rfl⟩:=ar.mp hj;obtain⟨a1,a2⟩:=(nF O).mp hm';show j'<=mask;rw[a2];exact O.le i a1
  .have e2:((kj mask ow).map (·.1))[i]?=some j:=by simpa using e2
   have e1:(((kj mask ow).map (·.2)).map λi=>hs.toList.getD i 0)[i]?=some h:=by simpa using e1
   rw[aw]at e2;rw[aw,aw]at e1;cases hx:(kj mask ow)[i]? with
   | none=>rw[hx]at e2;cases e2
   | some x=>
    rw[hx]at e1 e2;have e2:x.1=j:=ax e2;have e1:hs.toList.getD x.2 0=h:=ax e1;obtain⟨a1,a2⟩:=(nF O (j:=x.1) (i:=x.2)).mp (aT hx);obtain⟨s,w1,w2⟩:=O.way x.2 h (by rw[<-e1,al,ae a1];rfl);refine Way.mono (t:=tM mask) (pl:=(kj mask ow).map (·.1)) ⟨s,w1.trans (a2.symm.trans e2),λs' hs'=>?_⟩ rfl λx hx=>by simpa using hx
    obtain⟨i',b1,b2⟩:=w2 s' hs';rw[b2];exact ar.mpr ⟨_,(nF O).mpr ⟨b1,rfl⟩,rfl⟩
section
variable {P:Program}{w:World}{κ:Type}[DecidableEq κ]
def vQ (vk:fG P w κ):Prop:=∀{h h':Heap} {k:κ} {v:Value} {d:Addr} {o:Obj},vk.is h k v->h.get? d=some o->(∀its n,o.data≠.seq its n)->Heap.SameBut d h h'->vk.is h' k v
def Mf (vk:fG P w κ):Prop:=∀{A:Around} {E:AB} {s:Shared} {k:κ} {v:Value} {Q:Bool->Shared->Prop},vk.is s.heap k v->Q false s->wpAny (model P w) A (hashByValue 8 v) Q E s
variable {vk:fG P w κ}{A:Around}{E:AB}{s:Shared}
def jB.abT (I:jB t hs):t.mask<=8191:=by obtain⟨k,_,h,e⟩:=I.two;have:2^k<=2^13:=sk vS h;lia
def Wg (je:vk.deep<=8)(nc:jM vk)(hu:A.units+vk.deep<cLine+1)(ho:s.heap.get? a=some o)(hd:o.data=.set es ep t)(I:jB t (es.toList.map (·.1)))(K:Ey vk s.heap es ks)(hx:vk.is s.heap k x)(h1:k∈ks->Q (.there none) s)(h2:k∉ks->∀j,j<=t.mask->j∉t.place.toList->Way t t.place.toList (vk.hash k) j->Q (.free j false) s):wpAny (model P w) A (setSearch a x (vk.hash k) true) Q E s:=by obtain⟨e0,hel,he⟩:=I.hole (vk.hash k);have:=I.abT;exact B_ je nc hu ho hd I K hx h1 h2 he hel 100000 0 none vE rfl λr' h=>absurd h (iL _)
def Ey.put (K:Ey vk h es ks)(kp:∀k v,vk.is h k v->vk.is h' k v)(hx:vk.is h k (.ref b))(hn:k∉ks)(hp:p<=es.toList.length):Ey vk h' (SetTable.insertAt es p (vk.hash k,.ref b)) (ks.take p++k::ks.drop p):=by
 have hl:=K.len;refine⟨?_,λi e k' h1 h2=>?_,?_⟩
 .rw[jX];simp only[av,bn,bt,dP];simp_all
 .rw[jX]at h1;rcases lg hp h1 with⟨a1,b1⟩|⟨a1,b1⟩|⟨a1,b1⟩
  .rcases lg (by simp_all) h2 with⟨c1,d1⟩|⟨c1,d1⟩|⟨c1,d1⟩
   .obtain⟨y1,y2,y3⟩:=K.at_ i e k' b1 d1;exact⟨kp _ _ y1,y2,y3⟩
   .lia
   .lia
  .rcases lg vE h2 with⟨c1,d1⟩|⟨c1,d1⟩|⟨c1,d1⟩;.lia
   .subst b1 d1;exact⟨kp _ _ hx,rfl,b,rfl⟩
   .lia
  .rcases lg vE h2 with⟨c1,d1⟩|⟨c1,d1⟩|⟨c1,d1⟩;.lia
   .lia
   .obtain⟨y1,y2,y3⟩:=K.at_ (i-1) e k' b1 d1;exact⟨kp _ _ y1,y2,y3⟩
 .have:(ks.take p++k::ks.drop p).Perm (k::ks):=by
   refine List.perm_middle.trans (.cons _ ?_);rw[cS]
  exact this.nodup_iff.mpr (f7.mpr ⟨hn,K.nd⟩)
def Zn (es:Array (Int×Value))(p:Nat)(h:Int)(x:Value):(SetTable.insertAt es p (h,x)).toList.map (·.1)=(es.toList.map (·.1)).take p++h::(es.toList.map (·.1)).drop p:=by rw[jX,bv,cp,List.map_take,List.map_drop]
def jB.flag {t t':SetTable}(I:jB t hs)(h1:t'.mask=t.mask)(h2:t'.place=t.place)(h3:t'.dummies=t.dummies):jB t' hs:=by refine⟨by rw[h2];exact I.yF,by rw[h2];exact I.len,by rw[h3];exact I.LQ,by rw[h1];exact I.two,by rw[h1,h2];exact I.le,by rw[h1];exact I.few,λi j h e1 e2=>?_⟩;rw[h2]at e2 ⊢;exact(I.way i j h e1 e2).mono h1.symm λx hx=>hx
def Six (m:Nat):Prop:=m=7\/m=31\/m=127\/m=511\/m=2047\/m=8191
def abU (h:Six m):∃k,3<=k/\k<=13/\m+1=2^k:=by
 rcases h with rfl|rfl|rfl|rfl|rfl|rfl;.exact⟨3,vS,vS,rfl⟩
 .exact⟨5,vS,vS,rfl⟩
 .exact⟨7,vS,vS,rfl⟩
 .exact⟨9,vS,vS,rfl⟩
 .exact⟨11,vS,vS,rfl⟩
 .exact⟨13,vS,vS,rfl⟩
def Zo (h:Six m)(h1:5*n<3*m)(h2:3*m<=5*(n+1))(hn:n+1<=4000):Six (SetTable.sizeAbove (SetTable.grown (n+1))-1)/\n+1<=SetTable.sizeAbove (SetTable.grown (n+1))-1/\5*(n+1)<3*(SetTable.sizeAbove (SetTable.grown (n+1))-1)/\SetTable.sizeAbove (SetTable.grown (n+1))<=sizeLine:=by
 rcases h with rfl|rfl|rfl|rfl|rfl|rfl
 .obtain rfl:n=4:=by lia
  exact⟨.inr (.inl vS),vS,vS,vS⟩
 .obtain rfl:n=18:=by lia
  exact⟨.inr (.inr (.inl vS)),vS,vS,vS⟩
 .obtain rfl:n=76:=by lia
  exact⟨.inr (.inr (.inr (.inl vS))),vS,vS,vS⟩
 .obtain rfl:n=306:=by lia
  exact⟨.inr (.inr (.inr (.inr (.inl vS)))),vS,vS,vS⟩
 .obtain rfl:n=1228:=by lia
  exact⟨.inr (.inr (.inr (.inr (.inr vS)))),vS,vS,vS⟩
 .lia
theorem zG {α:Type}(xs:List α):∀(l:List Nat),(∀i∈l,i<xs.length)->∀m:Nat,(l.filterMap λi=>xs[i]?)[m]?=(l[m]?).bind λi=>xs[i]?
 | [],_,m=>by simp
 | i::l,h,m=>by
  have hi:=h i a6;rw[jn,ae hi];cases m with| zero=>simp[hi]| succ m=>simpa using zG xs l (λj hj=>h j (aI _ hj)) m
def Zq {α:Type}(xs:List α):(List.range xs.length).filterMap (λi=>xs[i]?)=xs:=by
 apply i6;intro m;rw[zG xs _ λi hi=>bE.mp hi];by_cases h:m<xs.length;.rw[gd h];rfl
 .rw[bP (by simpa using h),bP (lv h)];rfl
theorem EY {α:Type}(xs:List α):∀(l:List Nat),(∀i∈l,i<xs.length)->(l.filterMap λi=>xs[i]?).length=l.length
 | [],_=>rfl
 | i::l,h=>by rw[jn,ae (h i a6),bt,bt,EY xs l λj hj=>h j (aI _ hj)]
def Ey.perm (K:Ey vk h es ks)(kp:∀k v,vk.is h k v->vk.is h' k v){order:Array Nat}(hp:order.toList.Perm (List.range es.size)):∃ks',ks'.Perm ks/\Ey vk h' (order.filterMap (es[·]?)) ks'/\(order.filterMap (es[·]?)).size=es.size/\(order.filterMap (es[·]?)).toList.map (·.1)=order.toList.map λi=>(es.toList.map (·.1)).getD i 0:=by
 have hl:=K.len;have hsz:es.toList.length=es.size:=bo;have hlt:∀i∈order.toList,i<es.toList.length:=λi hi=>by rw[hsz];exact bE.mp (hp.mem_iff.mp hi)
 have hlk:∀i∈order.toList,i<ks.length:=λi hi=>by rw[hl];exact hlt i hi
 have et:(order.filterMap (es[·]?)).toList=order.toList.filterMap λi=>es.toList[i]?:=by rw[Array.toList_filterMap];congr 1;funext i;rw[b9]
 have pk:(order.toList.filterMap λi=>ks[i]?).Perm ks:=by have:=hp.filterMap λi=>ks[i]?;rw[<-hsz,<-hl,Zq]at this;exact this
 have hol:order.toList.length=es.size:=by rw[hp.length_eq,dC]
 refine⟨order.toList.filterMap λi=>ks[i]?,pk,⟨?_,λi e k e1 e2=>?_,pk.nodup_iff.mpr K.nd⟩,?_,?_⟩;.rw[et,EY _ _ hlt,EY _ _ hlk]
 .rw[et,zG _ _ hlt]at e1;rw[zG _ _ hlk]at e2;cases hi:order.toList[i]? with
  | none=>rw[hi]at e1;cases e1
  | some m=>rw[hi]at e1 e2;obtain⟨y1,y2,y3⟩:=K.at_ m e k e1 e2;exact⟨kp _ _ y1,y2,y3⟩
 .rw[<-bo,et,EY _ _ hlt,hol]
 .rw[et];apply i6;intro i;rw[aw,zG _ _ hlt,aw];cases hi:order.toList[i]? with| none=>rfl| some m=>have hm:=hlt m (aT hi);show ((es.toList[m]?).map (·.1))=some ((es.toList.map (·.1)).getD m 0);rw[al,aw,ae hm];rfl
end
section
variable {P:Program}{w:World}{κ:Type}[DecidableEq κ]{vk:fG P w κ}{A:Around}{E:AB}{s:Shared}
def qP (vk:fG P w κ)(h:Heap)(a:Addr)(ks:List κ):Prop:=∃es ep t,SetT w h a es ep t/\jB t (es.toList.map (·.1))/\Ey vk h es ks/\Six t.mask/\5*es.size<3*t.mask
def Zr (I:jB t hs):t.tooFull=decide (3*t.mask<=5*hs.length):=by have h1:=I.len;rw[bo]at h1;unfold SetTable.tooFull SetTable.fill;rw[I.LQ,h1];simp[fz]
def Zt (je:vk.deep<=8)(nc:jM vk)(kps:vQ vk)(hbv:Mf vk)(hu:A.units+vk.deep<cLine+1)(m:qP vk s.heap a ks)(hx:vk.is s.heap k (.ref b))(hz:ks.length+1<=4000)(q1:k∈ks->Q false s)(q2:k∉ks->∀h' ks',Heap.SameBut a s.heap h'->qP vk h' a ks'->ks'.Perm (k::ks)->Q true {s with heap:=h' }):wpAny (model P w) A (setAddHashed a (.ref b) (vk.hash k)) Q E s:=by
 obtain⟨es,ep,t,⟨o,ho,hex,hd,hf,hb,hpl⟩,I,K,S6,H5⟩:=m;have hsz:es.toList.length=es.size:=bo;have kl:=K.len;have hds:∀its n,o.data≠.seq its n:=λits n z=>by rw[hd]at z;cases z
 unfold setAddHashed setAddHashedIn;refine eW (ab (fk ho hd hf ?_));dsimp only;have hbs:byScan (.ref b) es=false:=by unfold byScan Value.scannable;rfl
 rw[hbs];simp only[bd,if_false];refine ab (Wg je nc hu ho hd I K hx (λhk=>ah (q1 hk)) λhk j hj hn hw=>?_);dsimp only;refine ab (fk ho hd hf ?_);dsimp only;have B:=CV I.yF j;have bW:=I.len;rw[aa]at bW;have few:=I.few;rw[aa]at few;have hp:SetTable.below t.place j<=es.toList.length:=by have:=B.le;simp_all
 have mle:7<=t.mask:=by rcases S6 with e|e|e|e|e|e <;> simp_all
 have I1:=I.put hj hn hw (by rw[aa,hsz];lia);have hn1:es.size+1<=4000:=vE;have Mh:(SetTable.insertAt es (SetTable.below t.place j) (vk.hash k,Value.ref b)).size=es.size+1:=by rw[<-bo,jX];simp only[av,bn,bt,dP];grind
 have tail:∀t2:SetTable,t2.mask=t.mask->t2.place=(t.put j).1.place->t2.dummies=(t.put j).1.dummies->t2.led=t.led->t2.plain=false->
   wpAny (model P w) A (storeSet a (SetTable.insertAt es (SetTable.below t.place j) (vk.hash k,Value.ref b)) t2 >>= λ_=>if (!false&&t2.tooFull)=true then (setRelay a (SetTable.grown (es.size+1)) >>= λ_=>pure true) else pure true) Q E s:=by
  intro t2 c1 c2 c3 c4 c5;have I2:jB t2 ((SetTable.insertAt es (SetTable.below t.place j) (vk.hash k,Value.ref b)).toList.map (·.1)):=by rw[Zn];exact I1.flag c1 c2 c3
  refine ab (Em (w:=w) ⟨o,ho,hex,hd,hf,hb,hpl⟩ I2.fits c4 c5 (by rw[Mh];show es.size+1<4096;lia) λh1 sb1 m1=>?_);have Mi:∀k v,vk.is s.heap k v->vk.is h1 k v:=λk v z=>kps z ho hds sb1;have K2:=K.put Mi hx hk hp;have pm:(ks.take (SetTable.below t.place j)++k::ks.drop (SetTable.below t.place j)).Perm (k::ks):=by refine List.perm_middle.trans (.cons _ ?_);rw[cS]
  have aaT:=Zr I2;rw[aa,bo,Mh,c1]at aaT;rw[aaT];by_cases full:3*t.mask<=5*(es.size+1)
  .rw[aE full];simp only[jS,Bool.and_self,if_true];obtain⟨g1,g2,g3,g4⟩:=Zo S6 H5 full hn1;obtain⟨o1,ho1,agC,hd1,hf1,hb1,agD⟩:=m1;obtain⟨kk,k3,k13,ek⟩:=abU g1;have hz1:((SetTable.insertAt es (SetTable.below t.place j) (vk.hash k,Value.ref b)).map (·.1)).size=es.size+1:=by rw[Array.size_map,Mh]
   obtain⟨t3,order,el,f1,f2,f3,fp,I3⟩:=abS ek k3 k13 ((SetTable.insertAt es (SetTable.below t.place j) (vk.hash k,Value.ref b)).map (·.1)) (by rw[hz1];exact g2) t2.finger (t2.movedTo (SetTable.sizeAbove (SetTable.grown (es.size+1))-1)) t2.led t2.plain;have erl:t2.relaid ((SetTable.insertAt es (SetTable.below t.place j) (vk.hash k,Value.ref b)).map (·.1)) (SetTable.grown (es.size+1))=some (t3,order):=el;refine ab ?_;unfold setRelay;refine ab (fk (s:={s with heap:=h1}) ho1 hd1 hf1 ?_);dsimp only;rw[if_neg (Nat.not_lt.mpr g4),erl];rw[hz1,<-Mh]at fp;obtain⟨_,_,_,sz3,hh3⟩:=K2.perm (λk v z=>z) fp;rw[rh,<-hh3]at I3;refine ab ?_;show wpAny _ _ (if ((order.filterMap λi=>(SetTable.insertAt es (SetTable.below t.place j) (vk.hash k,Value.ref b))[i]?).size != (SetTable.insertAt es (SetTable.below t.place j) (vk.hash k,Value.ref b)).size)=true then _ else _) _ _ _;rw[sz3];simp only[bne_self_eq_false,bd,if_false];refine ah ?_;dsimp only;refine Em (w:=w) (s:={s with heap:=h1}) ⟨o1,ho1,agC,hd1,hf1,hb1,agD⟩ I3.fits f2 (f3.trans c5) (by rw[sz3,Mh];show es.size+1<4096;lia) λh2 sb2 m2=>?_;have agE:∀its n,o1.data≠.seq its n:=λits n z=>by rw[hd1]at z;cases z
   obtain⟨ks',pk,K3,_,_⟩:=K2.perm (h':=h2) (λk v z=>kps z ho1 agE sb2) fp;exact ah (q2 hk h2 ks' (sb1.trans sb2) ⟨_,_,t3,m2,I3,K3,by rw[f1];exact g1,by rw[sz3,Mh,f1];exact g3⟩ (pk.trans pm))
  .rw[am full];simp only[jS,kQ,bd,if_false];exact ah (q2 hk h1 _ sb1 ⟨_,_,t2,m1,I2,K2,by rw[c1];exact S6,by rw[Mh,c1];exact re full⟩ pm)
 have agF:(t.put j).snd=SetTable.below t.place j:=rfl;rw[agF];cases hpt:(t.put j).1.plain with
 | true=>simp only[if_true];refine ab (hbv hx ?_);simp only[bd,if_false];exact tail _ rfl rfl rfl rfl rfl
 | false=>
  simp only[bd,if_false]
  first| exact tail _ rfl rfl rfl rfl hpt| exact ab (ah (tail _ rfl rfl rfl rfl hpt))
end
section
variable {P:Program}{w:World}{κ κ1 κ2:Type}[DecidableEq κ][DecidableEq κ1][DecidableEq κ2]
def abV {s:Shared}(ho:s.heap.get? a=some o)(hc:o.cls=.type "tuple")(hd:o.data=.seq its n)(hI:∀v∈its.toList,∀(Q':Bool->Shared->Prop) (E':AB),Q' false s->wpAny (model P w) A (ofAClassStatement d v) Q' E' s)(q:Q false s):wpAny (model P w) A (ofAClassStatement (d+1) (.ref a)) Q E s:=by
 have hT:s.TypeIs (.ref a) "tuple":=⟨o,ho,hc⟩
 unfold ofAClassStatement;refine ab (wpAny_typeOf hT ?_);simp only[beq_self_eq_true,if_true];refine ab (ah ?_);simp only[eB,bd,if_false];refine ab (fN ho hd (ab ?_));show wpAny _ _ (forIn its _ _) _ _ s;rw[<-oI];refine ly _ (λrest r s1=>r.1=none/\s1=s/\∀v∈rest,v∈its.toList) _ ?_ ?_ _ _ ⟨rfl,rfl,λv hv=>hv⟩
 .rintro v rest r s1 ⟨hr,rfl,hall⟩;refine ab (hI v (hall v a6) _ _ ?_);simp only[bd,if_false];exact ah ⟨rfl,rfl,λx hx=>hall x (aI _ hx)⟩
 .rintro⟨r1,r2⟩ s1 ⟨hr,rfl,_⟩;have hr:r1=none:=hr;subst hr;exact ah q
def abW:jM (uE (cC P w)):=by
 intro A E s k v Q n _ h q;rcases dB (show jt k v=true from h) with⟨i,t,rfl,rfl⟩|⟨x,t,rfl,rfl⟩
 .cases n <;> exact ah q
 .cases n <;> exact ah q
def Wh {vk:fG P w κ}(nc:jM vk):jM (tupK vk):=by
 rintro A E s k v Q n hn ⟨a,o1,n1,its,rfl,h1,hc,h2,h3⟩ q;have hn:vk.deep+1<=n:=hn;obtain⟨m,rfl⟩:∃m,n=m+1:=⟨n-1,vE⟩
 refine abV h1 hc h2 (λv hv Q' E' q'=>?_) q;obtain⟨k',hk'⟩:=h3.mem hv;exact nc m (dE hn) hk' q'
def Wi {h h':Heap}(h1:h.get? a=some o1)(h2:o1.data=.seq its n)(ho:h.get? d=some o)(hd:∀its n,o.data≠.seq its n)(hs:Heap.SameBut d h h'):h'.get? a=some o1:=by
 have hne:a≠d:=by rintro rfl;rw[h1]at ho;cases ho;exact hd _ _ h2
 exact(hs.2 a hne).trans h1
def abX:vQ (uE (cC P w)):=λh _ _ _=>h
theorem Mj {vk:fG P w κ}(n1:vQ vk){h h':Heap}{d:Addr}{o:Obj}(ho:h.get? d=some o)(hd:∀its n,o.data≠.seq its n)(hs:Heap.SameBut d h h'):∀{x:List κ} {vs:List Value},jG vk h x vs->jG vk h' x vs
 | [],[],_=>trivial
 | [],_::_,a=>a.elim
 | _::_,[],a=>a.elim
 | _::_,_::_,a=>⟨n1 a.1 ho hd hs,Mj n1 ho hd hs a.2⟩
def Wj {vk:fG P w κ}(n1:vQ vk):vQ (tupK vk):=by rintro h h' k v d o ⟨a,o1,n,its,rfl,h1,hc,h2,h3⟩ ho hd hs;exact⟨a,o1,n,its,rfl,Wi h1 h2 ho hd hs,hc,h2,Mj n1 ho hd hs h3⟩
noncomputable def Ti (vk:fG P w κ)(p:κ->Prop):fG P w κ where
 is:=λh k v=>vk.is h k v/\p k
 hash:=vk.hash
 draws:=vk.draws
 deep:=vk.deep
 inj:=λh1 h2=>vk.inj h1.1 h2.1
 keeps:=λh ho hd hs=>⟨vk.keeps h.1 ho hd hs,h.2⟩
 pyHash:=λhu h q=>vk.pyHash hu h.1 q
 eqBool:=λhu h1 h2 q=>vk.eqBool hu h1.1 h2.1 q
 quiet:=λn hn h q=>vk.quiet n hn h.1 q
def aev {vk:fG P w κ}{p:κ->Prop}(nc:jM vk):jM (Ti vk p):=λn hn h q=>nc n hn h.1 q
def aew {vk:fG P w κ}{p:κ->Prop}(n1:vQ vk):vQ (Ti vk p):=λh ho hd hs=>⟨n1 h.1 ho hd hs,h.2⟩
end
abbrev Ml:=List (List Key)
def af2 (k:Ml):Prop:=k≠[]/\∀t∈k,∃(i j:Int) (x:Str),t=[Sum.inl i,Sum.inl j,Sum.inr x]
def G5 (P:Program)(w:World):fG P w Ml:=Ti (tupK (tupK (uE (cC P w)))) af2
section
variable {P:Program}{w:World}
def aex:jM (G5 P w):=aev (Wh (Wh abW))
def aey:vQ (G5 P w):=aew (Wj (Wj abX))
def QB {s:Shared}(ho:s.heap.get? a=some o)(hc:o.cls=.type "tuple")(hd:o.data=.seq its n)(hl:its.toList=pre++v::post)(hpre:∀x∈pre,∀(Q':Bool->Shared->Prop) (E':AB),Q' true s->wpAny (model P w) A (hashByValue d x) Q' E' s)(hv:∀(Q':Bool->Shared->Prop) (E':AB),Q' false s->wpAny (model P w) A (hashByValue d v) Q' E' s)(q:Q false s):wpAny (model P w) A (hashByValue (d+1) (.ref a)) Q E s:=by
 have hT:s.TypeIs (.ref a) "tuple":=⟨o,ho,hc⟩
 unfold hashByValue;refine ab (mB hT ng.lookup ?_);dsimp only;refine ab (fN ho hd (ab ?_));show wpAny _ _ (forIn its _ _) _ _ s;rw[<-oI,hl];refine ly _ (λrest r s1=>r.1=none/\s1=s/\∃p2,rest=p2++v::post/\∀x∈p2,x∈pre) _ ?_ ?_ _ _ ⟨rfl,rfl,pre,rfl,λx hx=>hx⟩
 .rintro x rest r s1 ⟨hr,rfl,p2,e,hp2⟩;cases p2 with
  | nil=>have e:x::rest=v::post:=e;cases e;refine ab (hv _ _ ?_);simp only[jS,if_true];exact ah (ah q)
  | cons y p2=>have e:x::rest=y::(p2++v::post):=e;cases e;refine ab (hpre _ (hp2 _ a6) _ _ ?_);simp only[eB,bd,if_false];exact ah ⟨rfl,rfl,p2,rfl,λz hz=>hp2 z (aI _ hz)⟩
 .rintro r s1 ⟨_,rfl,p2,e,_⟩;cases p2 <;> cases e
def abY:Mf (G5 P w):=by
 rintro A E s k v Q ⟨⟨a,o,n,its,rfl,h1,hc,h2,h3⟩,hne,hall⟩ q;cases k with
 | nil=>exact absurd rfl hne
 | cons t k=>
  obtain⟨i,j,x,rfl⟩:=hall t a6;cases hi:its.toList with
  | nil=>rw[hi]at h3;exact h3.elim
  | cons v vs=>
   rw[hi]at h3;obtain⟨⟨a2,o2,n2,its2,rfl,g1,gc,g2,g3⟩,_⟩:=h3;have g3:jG (uE (cC P w)) s.heap [Sum.inl i,Sum.inl j,Sum.inr x] its2.toList:=g3;obtain⟨u1,u2,u3,e2,y1,y2,y3⟩:∃u1 u2 u3,its2.toList=[u1,u2,u3]/\jt (Sum.inl i) u1=true/\jt (Sum.inl j) u2=true/\jt (Sum.inr x) u3=true:=by
    cases e2:its2.toList with
    | nil=>rw[e2]at g3;exact g3.elim
    | cons u1 r1=>
     rw[e2]at g3;cases r1 with
     | nil=>exact g3.2.elim
     | cons u2 r2=>
      cases r2 with
      | nil=>exact g3.2.2.elim
      | cons u3 r3=>
       cases r3 with| nil=>exact⟨u1,u2,u3,rfl,g3.1,g3.2.1,g3.2.2.1⟩| cons u4 r4=>exact g3.2.2.2.elim
   have aez:∀(z:Int) (u:Value),jt (Sum.inl z) u=true->∃t,u=.int z t:=λz u h=>by
    rcases dB h with⟨i',t,e,rfl⟩|⟨x',t,e,rfl⟩;.cases e;exact⟨t,rfl⟩
    .cases e
   have agG:∀(z:Str) (u:Value),jt (Sum.inr z) u=true->∃t,u=.str z t:=λz u h=>by
    rcases dB h with⟨i',t,e,rfl⟩|⟨x',t,e,rfl⟩;.cases e
    .cases e;exact⟨t,rfl⟩
   obtain⟨t1,rfl⟩:=aez i u1 y1;obtain⟨t2,rfl⟩:=aez j u2 y2;obtain⟨t3,rfl⟩:=agG x u3 y3;refine QB (d:=7) h1 hc h2 (pre:=[]) (v:=.ref a2) (post:=vs) hi (λz hz=>by simp at hz) (λQ' E' q'=>?_) q;refine QB (d:=6) g1 gc g2 (pre:=[.int i t1,.int j t2]) (v:=.str x t3) (post:=[]) e2 (λz hz Q2 E2 q2=>?_) (λQ2 E2 q2=>ah q2) q';have hz:z=.int i t1\/z=.int j t2:=by simpa using hz
   rcases hz with rfl|rfl;.exact ah q2
   .exact ah q2
end
def gH (h h':Heap):Prop:=∀b o its n,h.get? b=some o->o.data=.seq its n->h'.get? b=some o
section
variable {P:Program}{w:World}{κ:Type}[DecidableEq κ]
def vR (vk:fG P w κ):Prop:=∀{h h':Heap} {k:κ} {v:Value},vk.is h k v->gH h h'->vk.is h' k v
def abZ:vR (uE (cC P w)):=λh _=>h
theorem Mp {vk:fG P w κ}(n1:vR vk){h h':Heap}(hs:gH h h'):∀{x:List κ} {vs:List Value},jG vk h x vs->jG vk h' x vs
 | [],[],_=>trivial
 | [],_::_,a=>a.elim
 | _::_,[],a=>a.elim
 | _::_,_::_,a=>⟨n1 a.1 hs,Mp n1 hs a.2⟩
def Wk {vk:fG P w κ}(n1:vR vk):vR (tupK vk):=by rintro h h' k v ⟨a,o1,n,its,rfl,h1,hc,h2,h3⟩ hs;exact⟨a,o1,n,its,rfl,hs _ _ _ _ h1 h2,hc,h2,Mp n1 hs h3⟩
def aeA {vk:fG P w κ}{p:κ->Prop}(n1:vR vk):vR (Ti vk p):=λh hs=>⟨n1 h.1 hs,h.2⟩
def aeB:vR (G5 P w):=aeA (Wk (Wk abZ))
def qP.mv {vk:fG P w κ}(kt:vR vk){h h':Heap}{ks:List κ}(m:qP vk h a ks)(k:∀o,h.get? a=some o->h'.get? a=some o)(hs:gH h h'):qP vk h' a ks:=by obtain⟨es,ep,t,m1,I,K,s6,h5⟩:=m;exact⟨es,ep,t,m1.mv k,I,⟨K.len,λi e k h1 h2=>by obtain⟨y1,y2,y3⟩:=K.at_ i e k h1 h2;exact⟨kt y1 hs,y2,y3⟩,K.nd⟩,s6,h5⟩
def Tj (vk:fG P w κ){h:Heap}(e:h.get? a=some {cls:=.type "set",dict:=none,data:=.set #[] 0 (.fresh 0 0 (!w.params.followText "set-order"))}):qP vk h a []:=by refine⟨#[],0,_,⟨_,e,⟨rfl,rfl,rfl⟩,rfl,rfl,by cases q:w.params.followText "set-order" <;> simp[SetTable.fresh,q],.inr rfl⟩,⟨List.Pairwise.nil,rfl,rfl,⟨3,vS,vS,rfl⟩,λj hj=>by simp[SetTable.fresh]at hj,cw _,λi j h e1=>by simp at e1⟩,⟨rfl,λi e k h1=>by simp at h1,np⟩,.inl rfl,(by decide:5*0<3*7)⟩
end
section
variable {prog:Program}{w:World}{κ:Type}[DecidableEq κ]{vk:fG prog w κ}{A:Around}{I:Addr}{fp wr:List Addr}{n:Nat}{P:Nat->Value->Prop}{St:Nat->Heap->Prop}{R:Result->Shared->Prop}
def Wm (je:vk.deep<=8)(nc:jM vk)(kt:vR vk)(kps:vQ vk)(hbv:Mf vk)(hu:A.in1.units+vk.deep<cLine+1)(W:Walks prog w A.in1 I fp wr n P St)(S0)(hSf:S0∉fp)(val:Nat->κ)(h0)(hval:∀i v,P i v->∃b,v=.ref b/\vk.is h0 (val i) v)(hwr:∀(i:Nat) (h:Heap) b o its m,St i h->b∈wr->h.get? b=some o->o.data≠.seq its m)(hb:n<=3999):∀(k i:Nat) (s:Shared),n-i=k->i<=n->St i s.heap->gH h0 s.heap->(∃ks,ks.length<=i/\(∀x,x∈ks↔x∈(List.range i).map val)/\qP vk s.heap S0 ks)->
   (∀h' tk ks,(∀b o,b∉S0::wr->s.heap.get? b=some o->h'.get? b=some o)->ks.length<=n->(∀x,x∈ks↔x∈(List.range n).map val)->qP vk h' S0 ks->R (.ok (.ret .none)) {s with heap:=h',toks:=tk})->
   codeAny (model prog w) A (.builtin "set.update.loop" ⟨[.ref S0,.ref I],[]⟩) R s:=by
 have hSw:S0∉wr:=λh=>hSf (W.sub _ h);have sub:∀b,b∉S0::wr->b∉wr:=λb hb h=>hb (aI _ h);intro k
 induction k with
 | zero=>
  intro i s hk hi hst hrs hS hR;have cV:i=n:=by grind
  subst cV;refine kD F.entry_set_update_loop ?_;rw[kP mf _];show wpAny _ A.in1 (pyNext (.ref I) >>= _) _ _ s;refine ab (W.done s _ _ hst λh' tk hm=>?_);show wpAny _ A.in1 (ret Value.none) _ _ _;obtain⟨ks,l1,l2,l3⟩:=hS;have hst2:gH s.heap h':=λb o its m e1 e2=>by
   by_cases z:b∈wr;.exact absurd e2 (hwr _ s.heap b o its m hst z e1)
   .exact hm b o z e1
  exact ah (hR h' tk ks (λb o hb e=>hm b o (sub b hb) e) l1 l2 (l3.mv kt (λo e=>hm S0 o hSw e) hst2))
 | succ k ih=>
  intro i s hk hi hst hrs hS hR;have hlt:i<n:=Nat.lt_of_sub_eq_succ hk;refine kD F.entry_set_update_loop ?_;rw[kP mf _];show wpAny _ A.in1 (pyNext (.ref I) >>= _) _ _ s;refine ab (W.item i s _ _ hlt hst λv h1 tk hP hst' hm=>?_);obtain⟨b0,rfl,hv0⟩:=hval i v hP;obtain⟨ks,l1,l2,l3⟩:=hS;have st1:gH s.heap h1:=λb o its m e1 e2=>by
   by_cases z:b∈wr;.exact absurd e2 (hwr _ s.heap b o its m hst z e1)
   .exact hm b o z e1
  have rs1:gH h0 h1:=λb o its m e1 e2=>st1 b o its m (hrs b o its m e1 e2) e2;have m1:=l3.mv kt (λo e=>hm S0 o hSw e) st1;have hv1:=kt hv0 rs1;show wpAny _ A.in1 (holding [Value.ref b0] (setAdd S0 (.ref b0)) >>= _) _ _ _;refine ab (eW ?_);unfold setAdd;refine eW ?_;refine ab (vk.pyHash (s:={s with heap:=h1,toks:=tk}) hu hv1 ?_);refine Zt (s:={s with heap:=h1,toks:=tk+vk.draws (val i)}) je nc kps hbv hu m1 hv1 vE (λcV=>?_) λhni h2 ks2 sb m2 pm=>?_
  .refine ah ⟨plainId_quiet mf _,ih (i+1) _ (eQ vE) hlt hst' rs1 ⟨ks,gN l1,λx=>?_,m1⟩ λh3 tk3 ks3 QD l4 l5 m3=>?_⟩
   .rw[e6,bv,ba,<-l2];exact⟨.inl,λz=>z.elim id λy=>by rw[show x=val i by simpa using y];exact cV⟩
   .exact hR h3 tk3 ks3 (λb o hb e=>QD b o hb (hm b o (sub b hb) e)) l4 l5 m3
  .have st2:gH h1 h2:=λb o its m e1 e2=>by
    by_cases z:b=S0
    .obtain⟨_,_,_,⟨o2,y1,_,y2,_⟩,_⟩:=m1;rw[z,y1]at e1;cases e1;rw[y2]at e2;cases e2
    .rw[sb.2 b z];exact e1
   have rs2:gH h0 h2:=λb o its m e1 e2=>st2 b o its m (rs1 b o its m e1 e2) e2;refine ah ⟨plainId_quiet mf _,ih (i+1) _ vE hlt (W.frame _ h1 _ hst' λb hb o e=>?_) rs2 ⟨ks2,by rw[pm.length_eq,bt];exact gm l1,λx=>?_,m2⟩ λh3 tk3 ks3 QD l4 l5 m3=>?_⟩
   .show h2.get? b=some o;rw[sb.2 b (λh:b=S0=>hSf (by rw[<-h];exact hb))];exact e
   .rw[pm.mem_iff,bb,l2,e6,bv,ba,cp,kU,ap];exact Or.comm
   .refine hR h3 tk3 ks3 (λb o hb e=>QD b o hb ?_) l4 l5 m3;show h2.get? b=some o;rw[sb.2 b (λh:b=S0=>hb (by rw[h];exact a6))];exact hm b o (sub b hb) e
end
section
variable {prog:Program}{w:World}{κ:Type}[DecidableEq κ]{vk:fG prog w κ}{A:Around}{E:AB}{s:Shared}
def Wn (je:vk.deep<=8)(nc:jM vk)(kt:vR vk)(kps:vQ vk)(hbv:Mf vk)(hu:A.units+8+vk.deep<cLine)(hh:A.handled=none)(hl:s.heap.IsList l items)(hS:qP vk s.heap S0 [])(hne:S0≠l)(hlt:S0<s.heap.objs.size)(hval:∀i v,items[i]?=some v->∃b,v=Value.ref b/\vk.is s.heap (val i) v)(hb:items.size<=3999)(q:∀h' tk ks,(∀b o,b≠S0->s.heap.get? b=some o->h'.get? b=some o)->ks.length<=items.size->(∀x,x∈ks↔x∈(List.range items.size).map val)->qP vk h' S0 ks->Q () {s with heap:=h',toks:=tk}):wpAny (model prog w) A (Builtin.Frozenset.updateFrom "set.__init__" S0 (.ref l)) Q E s:=by
 obtain⟨ol,hol,hcl,nl,hdl⟩:=id hl;obtain⟨ocls,odict,odata,oslots⟩:=ol;simp only at hcl hdl;subst hcl;subst hdl;have hsls:=F.sub_list_set;have hslf:=F.sub_list_frozenset;have hnd:(Value.type "list" == Value.type "dict")=false:=by decide
 unfold Builtin.Frozenset.updateFrom;generalize hPI:pyIter=PI
 wp_walk
 subst hPI;refine kH hl ?_;refine ab (wpAny_runValue ?_);have hlS:l<s.heap.objs.size:=a7 hol;have hneI:l≠s.heap.objs.size:=be hlS;have Ez:∀ob:Obj,gH s.heap (s.heap.push ob):=λob b o its m e _=>af _ e;refine Wm je nc kt kps hbv ?_ (Walks.list (by simp[hh]) _ l hneI items) S0 (by simp only[bb,gv,or_false,not_or];exact⟨be hlt,hne⟩) val s.heap hval ?_ hb (items.size-0) 0 _ rfl (cw _)
  ⟨⟨_,aS _ rfl,rfl,rfl⟩,hl.push _⟩ (Ez _) ⟨[],cw _,λx=>by simp,hS.mv kt (λo e=>af _ e) (Ez _)⟩ λh' tk ks k l1 l2 m=>?_
 .show A.units+1+vk.deep<cLine+1;lia
 .rintro i h b o its m ⟨⟨o2,y1,_,y2⟩,_⟩ hbm e z;rw[ap.mp hbm,y1]at e;cases e;rw[y2]at z;cases z
 .refine ah ?_;refine q h' tk ks (λb o hb e=>k b o ?_ (af _ e)) l1 l2 m;simp only[bb,gv,or_false,not_or];exact⟨hb,be (a7 e)⟩
end
section
variable {prog:Program}{w:World}{A:Around}{E:AB}{s:Shared}
def Wo {Φ:Heap->Prop}{Q:AB}(hh:A.handled=none)(hu:∀(A':Around) (E':AB) (Q':Unit->Shared->Prop) (h1:Heap),A'.handled=none->A'.units<=A.units+6->h1.objs.size=s.heap.objs.size+1->h1.get? s.heap.objs.size=some {cls:=.type "set",dict:=none,data:=.set #[] 0 (.fresh 0 0 (!w.params.followText "set-order"))}->(∀b o,s.heap.get? b=some o->h1.get? b=some o)->
   (∀h' tk,(∀b o,s.heap.get? b=some o->h'.get? b=some o)->Φ h'->Q' () {s with heap:=h',toks:=tk})->
   wpAny (model prog w) A' (Builtin.Frozenset.updateFrom "set.__init__" s.heap.objs.size src) Q' E' {s with heap:=h1})
  (h:∀h' tk,(∀b o,s.heap.get? b=some o->h'.get? b=some o)->Φ h'->Q (.ref s.heap.objs.size) {s with heap:=h',toks:=tk}) :
  wpAny (model prog w) A (call (.type "set") [src]) Q E s:=by
 obtain⟨c,tl,hmro⟩:=lI.mro;have hmade:=lI.made;have hsub:=lI.sub;refine t7 (codeAny_of_tree ?_);show wpAny _ _ (callAny (.type "set") _) _ _ _;refine ah ⟨Code.quiet_builtin _ v_,kD F.entry_type_call ?_⟩;rw[Around.under_plain (weight_type_call_type "set" [src] []) rfl];have h1:=lI.notType;have h2:=lI.canCreate;have hct:=F.typeCall_set_1 src
 repeat (any_goals (first|assumption|wp_step))
 refine io (J0 src (E:=E) (Q₁:=λobj s₁=>obj=.ref s.heap.objs.size/\s₁={s with heap:=s.heap.push {cls:=.type "set",dict:=none,data:=.set #[] 0 (.fresh 0 0 (!w.params.followText "set-order"))} }) ⟨rfl,rfl⟩) λr s₁ hr=>?_;cases r with
 | error e=>exact hr
 | ok fl=>
  cases fl with
  | ret obj=>
   obtain⟨rfl,rfl⟩:=hr;have hS:(s.heap.push {cls:=.type "set",dict:=none,data:=.set #[] 0 (.fresh 0 0 (!w.params.followText "set-order"))}).get? s.heap.objs.size=some {cls:=.type "set",dict:=none,data:=.set #[] 0 (.fresh 0 0 (!w.params.followText "set-order"))}:=aS _ rfl;have hT:Shared.TypeIs {s with heap:=s.heap.push {cls:=.type "set",dict:=none,data:=.set #[] 0 (.fresh 0 0 (!w.params.followText "set-order"))} } (.ref s.heap.objs.size) "set":=⟨_,hS,rfl⟩
   have hli:=lI.init.lookup;have hbi:=lI.init.bind (.ref s.heap.objs.size)
   repeat (any_goals (first|assumption|wp_step))
   refine io (sn (R:=wants (λr s₂=>r=.none/\∃h' tk,s₂={s with heap:=h',toks:=tk}/\(∀b o,s.heap.get? b=some o->h'.get? b=some o)/\Φ h') E) lI.init.plain F.entry_set_init (check_set_init_1 hT ?_)) λr₂ s₂ hr₂=>?_
   .unfold Builtin.«set.__init__» noKeywords;generalize hU:Builtin.Frozenset.updateFrom=U
    wp_walk
    subst hU;refine hu _ _ _ _ (by simp[hh]) (show A.units+1+1<=A.units+6 by lia) (ef ..) hS (λb o e=>af _ e) λh' tk k m=>?_;refine ah ?_;exact⟨rfl,h',tk,rfl,k,m⟩
   .cases r₂ with
    | error e=>exact hr₂
    | ok fl₂=>
     cases fl₂ with
     | ret r=>
      obtain⟨rfl,h',tk,rfl,k,m⟩:=hr₂
      repeat (any_goals (first|assumption|wp_step))
      exact h _ _ k m
     | _=>exact hr₂.elim
  | _=>exact hr.elim
end
section
variable {prog:Program}{w:World}{κ:Type}[DecidableEq κ]{vk:fG prog w κ}{A:Around}{E:AB}{s:Shared}
def Wq (je:vk.deep<=8)(nc:jM vk)(kt:vR vk)(kps:vQ vk)(hbv:Mf vk)(hu:A.units+14+vk.deep<cLine)(hh:A.handled=none)(hl:s.heap.IsList l items)(hval:∀i v,items[i]?=some v->∃b,v=Value.ref b/\vk.is s.heap (val i) v)(hb:items.size<=3999)(q:∀h' tk ks,(∀b o,s.heap.get? b=some o->h'.get? b=some o)->ks.length<=items.size->(∀x,x∈ks↔x∈(List.range items.size).map val)->qP vk h' s.heap.objs.size ks->Q (.ref s.heap.objs.size) {s with heap:=h',toks:=tk}):wpAny (model prog w) A (call (.type "set") [.ref l]) Q E s:=by
 have hlt:l<s.heap.objs.size:=by obtain⟨o,ho,_⟩:=hl;exact a7 ho
 refine Wo (Φ:=λh'=>∃ks:List κ,ks.length<=items.size/\(∀x,x∈ks↔x∈(List.range items.size).map val)/\qP vk h' s.heap.objs.size ks) hh (λA' E' Q' h1 hA' hu' s1 e1 k1 q1=>?_) λh' tk k ⟨ks,l1,l2,m⟩=>q h' tk ks k l1 l2 m;have rs:gH s.heap h1:=λb o its n e _=>k1 b o e;refine Wn (val:=val) (s:={s with heap:=h1}) je nc kt kps hbv vE hA' (hl.at λo e=>k1 _ o e) (Tj vk e1) (ki hlt) (by show s.heap.objs.size<h1.objs.size;simp_all) (λi v hv=>?_) hb λh' tk ks k l1 l2 m=>?_
 .obtain⟨b,e,hi⟩:=hval i v hv;exact⟨b,e,kt hi rs⟩
 .exact q1 h' tk (λb o e=>k b o (be (a7 e)) (k1 b o e)) ⟨ks,l1,l2,m⟩
end
@[reducible] def oF (cf:Addr->List Nat) (as:List Addr):PyProof.Rows.KeyKind:={PyProof.Rows.strKind with keyOf:=λv=>match v with|.ref a=>if a∈as then some (cf a) else none|_=>none}
def xg {cf:Addr->List Nat}{as:List Addr}{v:Value}{k:List Nat}(h:(oF cf as).keyOf v=some k):∃a,v=.ref a/\a∈as/\k=cf a:=by
 cases v <;> first|(cases h;done)|skip;rename_i a;by_cases m:a∈as
 .have:(oF cf as).keyOf (.ref a)=some (cf a):=if_pos m;rw[this]at h;exact⟨a,rfl,m,(ax h).symm⟩
 .have:(oF cf as).keyOf (.ref a)=none:=if_neg m;rw[this]at h;cases h
theorem xq:∀vs:List Value,vs.zip vs=vs.map λv=>(v,v)
 | []=>rfl
 | v::vs=>congrArg ((v,v) :: ·) (xq vs)
def G6 (m:a∈as):(oF cf as).keyOf (.ref a)=some (cf a):=if_pos m
section
variable {prog:Program}{w:World}{A:Around}{E:AB}{s:Shared}
def Mq {vs:List Value}(ho:s.heap.get? a=some (seqObj "list" vs.toArray n))(hz:vs.length<=4000)(h0:KeysOf κ (pairsOf vs))(hk:2<=vs.length->∀(h':Heap) (Q:SortKind->Shared->Prop),(∀b o,s.heap.get? b=some o->b≠a->h'.get? b=some o)->Q kn {s with heap:=h' }->wpAny (model prog w) A (keyKind' vs.toArray) Q E {s with heap:=h' })(hc:∀(h':Heap),(∀b o,s.heap.get? b=some o->b≠a->h'.get? b=some o)->ju prog w A {s with heap:=h' } κ kn)(h:∀(h':Heap) (out:List Value),out.Perm vs->out.Pairwise (λx y=>κ.kle ((κ.keyOf x).getD κ.dflt) ((κ.keyOf y).getD κ.dflt))->(∀b o,s.heap.get? b=some o->b≠a->h'.get? b=some o)->(∃e,h'.get? a=some (seqObj "list" out.toArray e))->P (.done (.ret .none)) {s with heap:=h' }):wpAny (model prog w) A (Builtin.«list.sort» ⟨[.ref a],[]⟩) P E s:=by
 rw[list_sort_plain];have ha:a<s.heap.objs.size:=a7 ho;have hvz:vs.length<=sizeLine:=a9 hz vS;refine ab (listItems_at ho rfl ?_);refine ab (listUpdate_at ho rfl ?_ (by rw[b7];exact hvz) (cw _));obtain⟨e1,ho1⟩:∃e1,(s.heap.update a (Obj.mapSeq λ_=>#[])).get? a=some (seqObj "list" #[] e1):=⟨_,get?_update_seq ho (λ_=>#[])⟩
 refine ab (seqEpoch_at ho1 rfl ?_);refine ab (wpAny_newTuple ?_ (by show vs.length<=_;exact hvz));refine ab (wpAny_newList ?_ (cw _));refine eW ?_;have ho6:(((s.heap.update a (Obj.mapSeq λ_=>#[])).push (seqObj "tuple" vs.toArray 0)).push (seqObj "list" #[] 0)).get? a=some (seqObj "list" #[] e1):=by rw[tS _ _ _ (by rw[size_push',Heap.size_update];exact be (eK ha)),tS _ _ _ (by rw[Heap.size_update];exact be ha)];exact ho1
 have Kr:∀b o,s.heap.get? b=some o->b≠a->(((s.heap.update a (Obj.mapSeq λ_=>(#[]:Array Value))).push (seqObj "tuple" vs.toArray 0)).push (seqObj "list" #[] 0)).get? b=some o:=λb o e hb=>by refine af _ (af _ ?_);rw[sQ _ _ _ _ hb];exact e
 show wpAny (model prog w) A _ P E {s with heap:=((s.heap.update a (Obj.mapSeq λ_=>#[])).push (seqObj "tuple" vs.toArray 0)).push (seqObj "list" #[] 0)};dsimp only;generalize ((s.heap.update a (Obj.mapSeq λ_=>(#[]:Array Value))).push (seqObj "tuple" vs.toArray 0)).push (seqObj "list" #[] 0)=zH at ho6 Kr ⊢;have fin:∀(out:Array Value),out.toList.Perm vs->out.toList.Pairwise (λx y=>κ.kle ((κ.keyOf x).getD κ.dflt) ((κ.keyOf y).getD κ.dflt))->P (.done (.ret .none)) {s with heap:=zH.update a (Obj.mapSeq λ_=>out)}:=λout pp sp=>by
  refine h _ out.toList pp sp (λb o e hb=>?_) ?_;.rw[sQ _ _ _ _ hb];exact Kr b o e hb
  .rw[r_];exact⟨_,get?_update_seq ho6 λ_=>out⟩
 by_cases h2:vs.toArray.size<2
 .have hn2:vs.length<2:=by rw[b7]at h2;exact h2
  rw[if_pos h2,if_pos h2];refine ab (ah ?_);rw[StateT.run_pure];refine ab (ah ?_);dsimp only;have eo:(arrOf (SortSt.mk' general' (vs.toArray.zip vs.toArray) #[] 7 none)).map (·.2)=vs.toArray:=by have e0:(arrOf (SortSt.mk' general' (vs.toArray.zip vs.toArray) #[] 7 none))=vs.toArray.zip vs.toArray:=rfl;rw[e0];apply lh.mp;rw[rh,u8,xq,b6];exact ke _
  refine ab (seqEpoch_at ho6 rfl ?_);refine ab (listUpdate_at ho6 rfl ?_ (cw _) (by rw[eo,b7];exact gN hvz));simp only[bne_self_eq_false,bd,if_false];refine ah (fin _ (by rw[eo]) ?_);rw[eo];show vs.Pairwise _;exact(show ∀(R:Value->Value->Prop) (u:List Value),u.length<2->u.Pairwise R from λR u h=>by
   cases u with
   | nil=>exact .nil
   | cons v r=>
    cases r with
    | nil=>exact List.pairwise_singleton _ _
    | cons w r=>exact absurd h (Nat.not_lt.mpr (Nat.le_add_left 2 r.length))) _ vs hn2
 .have hn2:2<=vs.length:=by rw[b7]at h2;exact lv h2
  rw[if_neg h2,if_neg h2];refine ab (hk hn2 zH _ Kr ?_);refine ab (fm (Zh (κ:=κ) (kn:=kn) (hc zH Kr) (st:=SortSt.mk' kn (vs.toArray.zip vs.toArray) #[] 7 none)
   (Q:=λ_ st'=>failedOf st'=none/\(arrOf st').toList.Perm (pairsOf vs).toList/\(arrOf st').toList.Pairwise (kL κ)) rfl rfl rfl h0 λst' a1 a2 a3=>⟨a1,a2,a3⟩) ?_ λ_ _ e=>e)
  rintro⟨⟨⟩,st'⟩ s' ⟨rfl,hf,hp,hs⟩;dsimp only;have pv:(pairsOf vs).toList=vs.map λv=>(v,v):=by show (vs.toArray.zip vs.toArray).toList=_;rw[u8];exact xq vs
  rw[pv]at hp;have hm:∀p∈(arrOf st').toList,p.1=p.2:=λp hpm=>by obtain⟨v,_,rfl⟩:=ar.mp (hp.mem_iff.mp hpm);rfl
  have pm:((arrOf st').map (·.2)).toList.Perm vs:=by rw[rh];have:=hp.map (·.2);rw[b6]at this;exact this.trans (vn (ke _))
  have sm:((arrOf st').map (·.2)).toList.Pairwise (λx y=>κ.kle ((κ.keyOf x).getD κ.dflt) ((κ.keyOf y).getD κ.dflt)):=by rw[rh,df];refine lL (λ{p q} hpm hqm hpq=>?_) hs;rw[<-hm p hpm,<-hm q hqm];exact hpq
  refine ab (seqEpoch_at ho6 rfl (ab (listUpdate_at ho6 rfl ?_ (cw _) (gN ?_))))
  .rw[hf];simp only[bne_self_eq_false,bd,if_false];exact ah (fin _ pm sm)
  .have:=pm.length_eq;rw[bo]at this;simp[*]
def Jo (YX:wpAny (model prog w) A.in1 (collect v) (λvs s1=>∃(κ:PyProof.Rows.KeyKind) (kn:SortKind),vs.length<=4000/\KeysOf κ (pairsOf vs)/\
   (2<=vs.length->∀(h':Heap) (Q:SortKind->Shared->Prop) (E:AB),(∀b o,s1.heap.get? b=some o->h'.get? b=some o)->Q kn {s1 with heap:=h' }->wpAny (model prog w) A.in1.in1 (keyKind' vs.toArray) Q E {s1 with heap:=h' })/\
   (∀(h':Heap),(∀b o,s1.heap.get? b=some o->h'.get? b=some o)->ju prog w A.in1.in1 {s1 with heap:=h' } κ kn)/\
   ∀(h':Heap) (out:List Value) (e:Nat),(∀b o,s1.heap.get? b=some o->h'.get? b=some o)->out.Perm vs->out.Pairwise (λx y=>κ.kle ((κ.keyOf x).getD κ.dflt) ((κ.keyOf y).getD κ.dflt))->h'.get? s1.heap.objs.size=some (seqObj "list" out.toArray e)->
    Q (.ref s1.heap.objs.size) {s1 with heap:=h' }) E s):wpAny (model prog w) A (call (.builtin "sorted") [v]) Q E s:=by
 refine Calls.call_function_entry kind_sorted plain_sorted entry_sorted (args_sorted1 _) ?_;unfold Builtin.«sorted»;refine ab (m:=checkCount "sorted" 1 1 _) (ah ?_);refine ab (bH YX λvs s1 ⟨κ,kn,hz,h0,hk,hc,h⟩=>?_);refine ab (wpAny_newList ?_ (a9 hz vS));have hoL:(s1.heap.push (seqObj "list" vs.toArray 0)).get? s1.heap.objs.size=some (seqObj "list" vs.toArray 0):=aS _ rfl;have keep:∀b o,s1.heap.get? b=some o->(s1.heap.push (seqObj "list" vs.toArray 0)).get? b=some o:=λb o e=>af _ e;have nb:∀b o,s1.heap.get? b=some o->b≠s1.heap.objs.size:=λb o q=>be (a7 q);refine ab (eW (dA slot_list_sort (s:={s1 with heap:=s1.heap.push (seqObj "list" vs.toArray 0)}) ⟨_,hoL,rfl⟩ entry_list_sort
  (Mq (s:={s1 with heap:=s1.heap.push (seqObj "list" vs.toArray 0)}) hoL hz h0 (λh2 h' Q' kp=>hk h2 h' Q' _ λb o e=>kp b o (keep b o e) (nb b o e)) (λh' kp=>hc h' λb o e=>kp b o (keep b o e) (nb b o e)) λh' out pp sp kp he=>⟨_,rfl,?_⟩) (args_list_sort _)))
 obtain⟨e,he⟩:=he;exact ah ⟨_,rfl,h h' out e (λb o z=>kp b o (keep b o z) (nb b o z)) pp sp he⟩
end
abbrev T3:=Nat×Nat×Nat
def lq (t:T3):Dt:=.tup [.int t.1,.int t.2.1,.str [t.2.2]]
def zJ (t:T3):Nat:=t.1*1000000+t.2.1*1000+t.2.2
def oG (ts:List T3):Dt:=.tup (ts.map lq)
def iY (ts:List T3):List Nat:=ts.map zJ
def qQ (t:T3):Prop:=t.2.1<1000/\t.2.2<128
def ab0 (h:lq t=lq u):t=u:=by unfold lq at h;injection h with h;injection h with h1 h2;injection h2 with h2 h3;injection h3 with h3 _;injection h1 with h1;injection h2 with h2;injection h3 with h3;injection h3 with h3 _;exact tf (i9 h1) (tf (i9 h2) h3)
def QF (ht:qQ t)(hu:qQ u)(h:zJ t=zJ u):t=u:=by obtain⟨a,b,c⟩:=t;obtain⟨d,e,f⟩:=u;obtain⟨h1,h2⟩:=ht;obtain⟨h3,h4⟩:=hu;simp only[zJ]at h h1 h2 h3 h4;have e1:a=d:=vE;subst e1;have e2:b=e:=vE;subst e2;have e3:c=f:=vE;subst e3;rfl
theorem Mr:∀{ts us:List T3},(∀t∈ts,qQ t)->(∀u∈us,qQ u)->iY ts=iY us->ts=us
 | [],[],_,_,_=>rfl
 | [],_::_,_,_,h=>by cases h
 | _::_,[],_,_,h=>by cases h
 | t::ts,u::us,h1,h2,h=>by injection h with a b;rw[QF (h1 _ a6) (h2 _ a6) a,Mr (λx hx=>h1 x (aI _ hx)) (λx hx=>h2 x (aI _ hx)) b]
section
variable {prog:Program}{w:World}{A:Around}{E:AB}{s:Shared}
def Ks (r:Reads h v (toP (lq t)) as):∃(a:Addr) (o:Obj) (n:Nat) (t1 t2 t3:Tok),v=.ref a/\h.get? a=some o/\o.cls=.type "tuple"/\o.data=.seq [Value.int t.1 t1,Value.int t.2.1 t2,Value.str (S [t.2.2]) t3].toArray n:=by
 unfold lq at r;simp only[toP,dZ]at r;cases r with
 | @tuple a o vs n xs as ho hc hd ra=>
  cases ra2:vs.toList with
  | nil=>rw[ra2]at ra;cases ra
  | cons v1 r1=>
   rw[ra2]at ra;cases ra with
   | cons q1 ra=>
    cases q1 with
    | int i t1=>
     cases ra with
     | cons q2 ra=>
      cases q2 with
      | int j t2=>
       cases ra with
       | cons q3 ra=>
        cases q3 with| str x t3=>cases ra;refine⟨a,o,n,t1,t2,t3,rfl,ho,hc,?_⟩;rw[hd];congr 1;rw[<-ra2]
def af3 (hp:Reads s.heap p (toP (lq t)) as)(hq:Reads s.heap q (toP (lq u)) bs)(ht:qQ t)(hu:qQ u)(hne:t≠u)(hun:A.units<cLine)(h:Q (.bool (decide (zJ t<zJ u))) s):wpAny (model prog w) A (compareOp .Lt p q) Q E s:=by
 obtain⟨a,oa,na,t1,t2,t3,rfl,ha,ca,da⟩:=Ks hp;obtain⟨b,ob,nb,u1,u2,u3,rfl,hb,cb,db⟩:=Ks hq;obtain⟨x1,y1,z1⟩:=t;obtain⟨x2,y2,z2⟩:=u;obtain⟨k1,k2⟩:=ht;obtain⟨k3,k4⟩:=hu;simp only[zJ]at h k1 k2 k3 k4 da db;have Ta:s.TypeIs (.ref a) "tuple":=⟨oa,ha,ca⟩
 have Tb:s.TypeIs (.ref b) "tuple":=⟨ob,hb,cb⟩
 show wpAny _ _ (richCompare .Lt (.ref a) (.ref b)) Q E s;refine wpAny_richCompare_same_room (op:=.Lt) (T:="tuple") Ta Tb F.slot_tuple_lt (dA F.slot_tuple_lt Ta F.entry_tuple_lt ?_ (F.args_tuple_lt_2 _ _)) hun;show wpAny _ _ (isInstance (.ref b) (.type "tuple") >>= _) _ _ s;refine ab (gu Tb isSubtype_tuple_tuple ?_);simp only[eB,bd,if_false];refine ab (mE ha da (ab (mE hb db (ab ?_))));rw[show ([Value.int (x1:Int) t1,Value.int (y1:Int) t2,Value.str (S [z1]) t3]:List Value).toArray.toList.zip ([Value.int (x2:Int) u1,Value.int (y2:Int) u2,Value.str (S [z2]) u3]:List Value).toArray.toList=[(Value.int (x1:Int) t1,Value.int (x2:Int) u1),(Value.int (y1:Int) t2,Value.int (y2:Int) u2),(Value.str (S [z1]) t3,Value.str (S [z2]) u3)] from rfl];have fin:∀c:Bool,c=decide (x1*1000000+y1*1000+z1<x2*1000000+y2*1000+z2)->Q (.bool c) s:=λc e=>by rw[e];exact h
 rw[iq];refine ab ?_;dsimp only;refine ab (my _ _ _ _ prog w _ _ ?_);by_cases ex:x1=x2
 .subst ex;simp only[beq_self_eq_true,eB,bd,if_false];refine ah ?_;dsimp only;rw[iq];refine ab ?_;dsimp only;refine ab (my _ _ _ _ prog w _ _ ?_);by_cases ey:y1=y2
  .subst ey;simp only[beq_self_eq_true,eB,bd,if_false];refine ah ?_;dsimp only;rw[iq];refine ab ?_;dsimp only;have ez:z1≠z2:=λe=>hne (by rw[e]);refine ab ((eqGives_str (S [z1]) (S [z2]) t3 u3).at _ _ prog w _ _ ?_);have en:(S [z1]==S [z2])=false:=by
    apply beq_eq_false_iff_ne.mpr;intro e;exact ez (by have:=pX e;injection this)
   simp only[en,jS,if_true];refine ab (ge (ab (lt_str ?_)));refine ab (ah (ah (ah (ah ⟨_,rfl,vF,?_⟩))));refine fin _ ?_;have:(S [z1]).cps.toList<(S [z2]).cps.toList↔z1<z2:=by show [z1]<[z2]↔_;simp[fg]
   by_cases z:z1<z2;.rw[aE (this.mpr z),aE (sK z _)]
   .rw[am (λy=>z (this.mp y)),am (by simp[*])]
  .have en:((y1:Int)==(y2:Int))=false:=by
    apply beq_eq_false_iff_ne.mpr;intro z;exact ey vE
   simp only[en,jS,if_true];refine ab (ge (ab (lt_int ?_)));refine ab (ah (ah (ah (ah ⟨_,rfl,vF,?_⟩))));refine fin _ ?_;by_cases z:y1<y2;.rw[aE (nV gp z),aE vE]
   .rw[am (by simp[*]),am vE]
 .have en:((x1:Int)==(x2:Int))=false:=by
   apply beq_eq_false_iff_ne.mpr;intro z;exact ex vE
  simp only[en,jS,if_true];refine ab (ge (ab (lt_int ?_)));refine ab (ah (ah (ah (ah ⟨_,rfl,vF,?_⟩))));refine fin _ ?_;by_cases z:x1<x2;.rw[aE vE,aE vE]
  .rw[am vE,am vE]
def Wr (t:T3)(h:qQ t):(toP (lq t)).canLay0=true/\(toP (lq t)).depth<=1:=by
 have h1:fK (default:W.Frag) (λ_=>none) 0 (.str [t.2.2]) (.str (S [t.2.2])):=.str _ λc hc=>by rw[ap.mp hc];exact h.2
 have h2:=h1.lay;constructor
 .unfold lq;simp only[toP,dZ,PyData.canLay0,PyData.canLayAll0];have:=h2.1;simp only[toP]at this;simp[PyData.canLay0]at this ⊢;exact this
 .unfold lq;simp[toP,dZ,PyData.depth,PyData.depthAll]
theorem QH (hu:A.units+2<cLine):∀(xs ys:List Value) (ts us:List T3) (i:Nat) {as bs:List Addr},ReadsAll s.heap xs (dZ (ts.map lq)) as->ReadsAll s.heap ys (dZ (us.map lq)) bs->(∀t∈ts,qQ t)->(∀u∈us,qQ u)->fin=decide (xs.length<ys.length)->Q (decide (iY ts<iY us)) s->KatLex prog w A false fin Q (xs.zip ys) i s
 | xs,ys,[],us,i,as,bs,rx,ry,_,_,hf,q=>by
  simp only[kU,dZ]at rx;cases rx;refine kat_nil ?_;rw[hf];cases us with
  | nil=>simp only[kU,dZ]at ry;cases ry;simpa [iY] using q
  | cons u us=>simp only[cp,dZ]at ry;cases ry;simpa [iY] using q
 | xs,ys,t::ts,[],i,as,bs,rx,ry,_,_,hf,q=>by simp only[kU,dZ]at ry;cases ry;rw[List.zip_nil_right];refine kat_nil ?_;rw[hf];simpa [iY] using q
 | xs,ys,t::ts,u::us,i,as,bs,rx,ry,h1,h2,hf,q=>by
  simp only[cp,dZ]at rx ry;cases rx with
  | @cons v vs _ _ _ _ r1 r2=>
   cases ry with
   | @cons v' vs' _ _ _ _ r3 r4=>
    have ot:=h1 t a6;have ou:=h2 u a6;have l1:=Wr t ot;have l2:=Wr u ou;rw[List.zip_cons_cons];refine kat_cons (SeqAt.eqAt_reads _ _ A s _ _ _ _ r1 r3 l1.1 l2.1 (by have:=om (toP (lq t)).depth (toP (lq u)).depth;exact ay hu) prog w _ _ ?_);by_cases e:t=u
    .subst e;rw[(Ei _ _).mpr rfl];refine kat_yes (QH hu vs vs' ts us (i+1) r2 r4 (λx hx=>h1 x (aI _ hx)) (λx hx=>h2 x (aI _ hx)) (by rw[hf];simp) ?_);have:decide (iY ts<iY us)=decide (iY (t::ts)<iY (t::us)):=rj.mpr (by simp[iY,fg]);rw[this];exact q
    .have en:PyData.eqv (toP (lq t)) (toP (lq u))=false:=by
      cases z:PyData.eqv (toP (lq t)) (toP (lq u)) with| false=>rfl| true=>exact absurd (ab0 ((Ei _ _).mp z)) e
     rw[en];refine kat_no (kat_one _ _ (af3 r1 r3 ot ou e vE ?_));show Q _ s;have:decide (zJ t<zJ u)=decide (iY (t::ts)<iY (u::us)):=rj.mpr (by
      have ne:zJ t≠zJ u:=λz=>e (QF ot ou z);simp[iY,fg,ne])
     rw[this];exact q
def pY (r:Reads h v (toP (oG ts)) as):∃(a:Addr) (o:Obj) (vs:Array Value) (n:Nat) (bs:List Addr),v=.ref a/\h.get? a=some o/\o.cls=.type "tuple"/\o.data=.seq vs n/\ReadsAll h vs.toList (dZ (ts.map lq)) bs:=by
 unfold oG at r;simp only[toP]at r;cases r with| @tuple a o vs n xs as ho hc hd ra=>exact⟨a,o,vs,n,as,rfl,ho,hc,hd,ra⟩
def mO (h:Heap)(lf:Addr->List T3)(as:List Addr):Prop:=∀a∈as,(∃rs,Reads h (.ref a) (toP (oG (lf a))) rs)/\lf a≠[]/\∀t∈lf a,qQ t
def QJ (h:mO s.heap lf as)(hu:A.units+2<cLine):ju prog w A s (oF (λa=>iY (lf a)) as) (tuples' false):=by intro E x y a b Q ka kb q;obtain⟨p,rfl,mp,rfl⟩:=xg ka;obtain⟨p',rfl,mp',rfl⟩:=xg kb;obtain⟨⟨rs,r⟩,_,ok⟩:=h p mp;obtain⟨⟨rs',r'⟩,_,ok'⟩:=h p' mp';obtain⟨_,o,vs,n,bs,e1,ho,hc,hd,ra⟩:=pY r;obtain⟨_,o',vs',n',bs',e2,ho',hc',hd',ra'⟩:=pY r';cases e1;cases e2;exact kat_lt ho hd ho' hd' (QH hu _ _ _ _ 0 ra ra' ok ok' vF q)
def Ms (h:mO s.heap lf as)(h0:0<as.length)(q:Q (tuples' false) s):wpAny (model prog w) A (keyKind' (as.map Value.ref).toArray) Q E s:=by
 have kt:∀(bs:List Addr),(∀b∈bs,b∈as)->∃fs,KatTups s.heap (bs.map Value.ref) fs/\fs.length=bs.length/\∀v∈fs,∃(c:Addr) (o:Obj),v=.ref c/\s.heap.get? c=some o/\o.cls=.type "tuple":=by
  intro bs
  induction bs with
  | nil=>exact λ_=>⟨[],trivial,rfl,λv hv=>by simp at hv⟩
  | cons b bs ih=>
   intro hb;obtain⟨fs,k1,k2,k3⟩:=ih λx hx=>hb x (aI _ hx);obtain⟨⟨rs,r⟩,ne,ok⟩:=h b (hb b a6);obtain⟨_,o,vs,n,cs,e1,ho,hc,hd,ra⟩:=pY r;cases e1;cases hts:lf b with
   | nil=>exact absurd hts ne
   | cons t ts=>
    rw[hts]at ra;simp only[cp,dZ]at ra;cases hvs:vs.toList with
    | nil=>rw[hvs]at ra;cases ra
    | cons v1 vr=>
     rw[hvs]at ra;cases ra with
     | cons q1 _=>
      obtain⟨c,oc,nc,t1,t2,t3,rfl,hoc,hcc,_⟩:=Ks q1;refine⟨.ref c::fs,KatTups.cons ho hc hd (by rw[<-b9,hvs];rfl) k1,by simp[k2],λv hv=>?_⟩;rcases bb.mp hv with z|z;.exact⟨c,oc,z,hoc,hcc⟩
      .exact k3 v z
 obtain⟨fs,k1,k2,k3⟩:=kt as λ_ h=>h;refine kat_kind (T:=.type "tuple") k1 vE (λv hv=>?_) vS q;obtain⟨c,o,rfl,ho,hc⟩:=k3 v hv;rw[<-hc];exact(Looks.ld ho).andThen .now
end
def mO.keeps {h h':Heap}(l:mO h lf as)(hk:∀b o,h.get? b=some o->h'.get? b=some o):mO h' lf as:=λa ha=>let ⟨⟨rs,r⟩,x⟩:=l a ha;⟨⟨rs,PyProof.Rows.Reads.keeps hk r⟩,x⟩
def mO.sub (l:mO h lf as)(hb:∀b∈bs,b∈as):mO h lf bs:=λa ha=>l a (hb a ha)
def E_ (v:Value):Addr:=match v with|.ref a=>a|_=>0
def zK {as:List Addr}{out:List Value}(p:out.Perm (as.map Value.ref)):∃as':List Addr,out=as'.map Value.ref/\as'.Perm as:=by
 refine⟨out.map E_,?_,?_⟩
 .rw[b6];refine(ke _).symm.trans (eI λv hv=>?_);obtain⟨a,_,rfl⟩:=ar.mp (p.mem_iff.mp hv);rfl
 .have:=p.map E_;rw[b6]at this;exact this.trans (vn (ke _))
def Jp (h:∀v∈vs,∃a∈as,v=.ref a):KeysOf (oF cf as) (pairsOf vs):=λp hp=>by
 have hp:p∈vs.map λv=>(v,v):=by
  have:(pairsOf vs).toList=vs.map λv=>(v,v):=by show (vs.toArray.zip vs.toArray).toList=_;rw[u8];exact xq vs
  rw[<-this];exact hp
 obtain⟨v,hv,rfl⟩:=ar.mp hp;obtain⟨a,ha,rfl⟩:=h v hv;exact⟨cf a,G6 ha⟩
def QK {cf:Addr->List Nat}{as as':List Addr}(hs:∀a∈as',a∈as)(h:(as'.map Value.ref).Pairwise (λx y=>(oF cf as).kle (((oF cf as).keyOf x).getD (oF cf as).dflt) (((oF cf as).keyOf y).getD (oF cf as).dflt))):as'.Pairwise (λa b=>decide (cf b<cf a)=false):=by rw[df]at h;refine lL (λ{a b} ha hb hab=>?_) h;rw[G6 (hs a ha),G6 (hs b hb)]at hab;exact hab
def tH (K:W.Frag)(H:Hp)(a:Addr)(ts:List T3):Prop:=fK K H 2 (oG ts) (.ref a)/\ts≠[]/\∀t∈ts,qQ t
def tH.mv {K:W.Frag}{ts:List T3}(h:tH K H a ts)(s:aB H H'):tH K H' a ts:=⟨h.1.mv s,h.2⟩
def Mt (tss:List (List T3)):Prop:=tss.Pairwise (λx y=>decide (iY y<iY x)=false)
section
variable {X:Cx}{aq:AC}{σ:St}{H:Hp}{s:Shared}
def G7 (I:aJ X aq σ H s)(h:∀a∈as,tH X.K H a (lf a)):mO s.heap lf as:=λa ha=>⟨(h a ha).1.reads I rfl,(h a ha).2⟩
end
section
variable {X:Cx}
def Ca {aq:AC}{s:Shared}{σ:St}{H:Hp}{Q:V->Hp->Prop}{L:Addr}{as:List Addr}{cf:Addr->List Nat}{kn:SortKind}(I:aJ X aq σ H s)(hS:aQ X.K H L (as.map V.ref))(hz:as.length<=4000)(hk:∀h':Heap,(∀b o,s.heap.get? b=some o->h'.get? b=some o)->2<=as.length->∀(Q:SortKind->Shared->Prop) (E:AB),Q kn {s with heap:=h' }->wpAny (model X.prog X.w) X.A.in1.in1 (keyKind' (as.map Value.ref).toArray) Q E {s with heap:=h' })(hc:∀h':Heap,(∀b o,s.heap.get? b=some o->h'.get? b=some o)->ju X.prog X.w X.A.in1.in1 {s with heap:=h' } (oF cf as) kn)(q:∀(p:Addr) (as':List Addr),H p=none->as'.Perm as->as'.Pairwise (λa b=>decide (cf b<cf a)=false)->Q (.ref p) (upd H p (.lst (as'.map V.ref)))):wpAny (model X.prog X.w) X.A (call (.builtin "sorted") [.ref L]) (EP X aq σ Q) X.xe s:=by
 obtain⟨its,rv,pl,_⟩:=I.list hS;have Zu:=zp rv;subst Zu;have bW:(as.map Value.ref).length=as.length:=aa _;have Jh:as.length<=sizeLine:=a9 hz vS;refine Jo (collect_list pl.isList ?_ (by rw[bW];exact Jh));have hsz:((s.heap.push (seqObj "list" #[] 0)).update s.heap.objs.size (Obj.mapSeq (· ++ (as.map Value.ref).toArray))).objs.size=s.heap.objs.size+1:=by rw[Heap.size_update,size_push']
 have keep:∀b o,s.heap.get? b=some o->((s.heap.push (seqObj "list" #[] 0)).update s.heap.objs.size (Obj.mapSeq (· ++ (as.map Value.ref).toArray))).get? b=some o:=λb o z=>by have hlt:b<s.heap.objs.size:=a7 z;rw[sQ _ _ _ _ (be hlt),tS _ _ _ (be hlt)];exact z
 refine⟨oF cf as,kn,by rw[bW];exact hz,Jp λv hv=>by obtain⟨a,ha,rfl⟩:=ar.mp hv;exact⟨a,ha,rfl⟩,λh2 h' Q' E' kp q'=>?_,λh' kp=>?_,λh' out e kp pm up he=>?_⟩
 .rw[bW]at h2;exact hk h' (λb o z=>kp b o (keep b o z)) h2 _ _ q'
 .exact hc h' λb o z=>kp b o (keep b o z)
 .obtain⟨as',rfl,vJ⟩:=zK pm;have hl2:(as'.map V.ref).length<=sizeLine:=by rw[aa,vJ.length_eq];exact Jh
  have up':=QK (λa ha=>vJ.mem_iff.mp ha) up;have he':h'.get? (s.heap.objs.size+1)=some (seqObj "list" (as'.map Value.ref).toArray e):=by rw[<-hsz];exact he
  refine⟨.ref (s.heap.objs.size+1),_,I.laid (o:=.lst (as'.map V.ref)) (t':=s.toks) (λb o z=>kp b o (keep b o z)) (fA _) ⟨hl2,as'.map Value.ref,e,zq _,he'⟩,?_,q _ as' (I.hok.fresh (fA _)) vJ up'⟩;show Value.ref _=_;rw[hsz]
def Zv (K:W.Frag):List V->Hp->VK->Prop:=λxs H Q=>∃(L:Addr) (as:List Addr) (lf:Addr->List T3),xs=[.ref L]/\aQ K H L (as.map V.ref)/\as.length<=4000/\(∀a∈as,tH K H a (lf a))/\
 ∀(p:Addr) (as':List Addr),H p=none->as'.Perm as->Mt (as'.map lf)->Q (.ref p) (upd H p (.lst (as'.map V.ref)))
def G8 (hu:X.A.units+64<cLine):fj X (.builtin "sorted") (Zv X.K):=by intro aq s σ H xs us Q I r h;obtain⟨L,as,lf,rfl,hS,hz,hl,q⟩:=h;obtain⟨u,rfl,ru⟩:=vals1 r;cases ru;have la:=G7 I hl;refine Ca (cf:=λa=>iY (lf a)) I hS hz (λh' kp h2 Q' E' q'=>Ms (la.keeps kp) (ay h2) q') (λh' kp=>QJ (la.keeps kp) (show X.A.units+1+1+2<cLine by lia)) λp as' hp pm up=>q p as' hp pm ?_;unfold Mt;rw[df];exact up
def yG:fj X (.builtin "sorted") (aed X.K):=by
 intro aq s σ H xs us Q I r h;obtain⟨L,as,cf,rfl,hS,h64,hcell,hnd,q⟩:=h;obtain⟨u,rfl,ru⟩:=vals1 r;cases ru;have tup:∀a∈as,∃(x y:Nat) (t1 t2:Tok) (o:Obj) (n:Nat) (rest:List Value),s.heap.get? a=some o/\o.cls=.type "tuple"/\o.data=.seq (Value.int x t1::Value.int y t2::rest).toArray n/\y<1000/\cf a=x*1000+y/\(rest=[]\/∃z t3,rest=[Value.str z t3]):=λa hm=>by
  obtain⟨x,y,rest,e,hy,hcf,hrest⟩:=hcell _ hm;obtain⟨_,tv,rtv,o,ho,hc,n,hd⟩:=I.hok _ _ e;cases rtv with
  | cons r1 rr=>
   cases rr with
   | cons r2 rr=>
    obtain⟨t1,rfl⟩:=r1;obtain⟨t2,rfl⟩:=r2;refine⟨x,y,t1,t2,o,n,_,ho,hc,hd,hy,hcf,?_⟩;rcases hrest with rfl|⟨z,rfl⟩;.cases rr;exact .inl rfl
    .cases rr with| cons r3 rr=>cases rr;obtain⟨t3,rfl⟩:=r3;exact .inr ⟨z,t3,rfl⟩
 have inj:∀a b,a∈as->b∈as->cf a=cf b->a=b:=λa b ha hb e=>by
  obtain⟨i,hi,rfl⟩:=cx.mp ha;obtain⟨j,hj,rfl⟩:=cx.mp hb;have pwi:=eJ.mp hnd;rcases pV i j with z|z|z;.exact absurd e (by have:=pwi i j (by simpa using hi) (by simpa using hj) z;simpa using this)
  .subst z;rfl
  .exact absurd e.symm (by have:=pwi j i (by simpa using hj) (by simpa using hi) z;simpa using this)
 refine Ca (cf:=λa=>[cf a]) (kn:=tuples' true) I hS vE ?_ ?_ ?_
 .intro h' kp h2 Q' E' hQ;have kt:∀(bs:List Addr),(∀b∈bs,b∈as)->∃fs,KatTups h' (bs.map Value.ref) fs/\fs.length=bs.length/\∀v∈fs,∃(x:Int) (t:Tok),v=.int x t:=by
   intro bs
   induction bs with
   | nil=>exact λ_=>⟨[],trivial,rfl,λv hv=>by simp at hv⟩
   | cons b bs ih=>
    intro hb;obtain⟨fs,k1,k2,k3⟩:=ih λx hx=>hb x (aI _ hx);obtain⟨x,y,t1,t2,o,n,rest,ho,hc,hd,_⟩:=tup b (hb b a6);exact⟨.int x t1::fs,KatTups.cons (kp _ _ ho) hc hd rfl k1,by simp[k2],λv hv=>by
     rcases bb.mp hv with z|z;.exact⟨_,_,z⟩
     .exact k3 v z⟩
  obtain⟨fs,k1,k2,k3⟩:=kt as λ_ h=>h;exact kat_kind (s:={s with heap:=h' }) (T:=.type "int") k1 vE (λv hv=>by obtain⟨x,t,rfl⟩:=k3 v hv;exact Looks.of_pure rfl) vS hQ
 .intro h' kp E x y a b C ka kb hC;obtain⟨p,rfl,mp,rfl⟩:=xg ka;obtain⟨p',rfl,mp',rfl⟩:=xg kb;obtain⟨x1,y1,t1,t2,o1,n1,r1,ho1,hc1,hd1,hy1,aeC,hr1⟩:=tup p mp;obtain⟨x2,y2,t3,t4,o2,n2,r2,ho2,hc2,hd2,hy2,aeD,hr2⟩:=tup p' mp';have hC':C (decide (x1*1000+y1<x2*1000+y2)) {s with heap:=h' }:=by
   have e:decide (x1*1000+y1<x2*1000+y2)=decide ([cf p]<[cf p']):=rj.mpr (by rw[aeC,aeD,fg];simp);rw[e];exact hC
  refine kat_lt (s:={s with heap:=h' }) (kp _ _ ho1) hd1 (kp _ _ ho2) hd2 ?_;rw[show (Value.int (x1:Int) t1::Value.int (y1:Int) t2::r1).toArray.toList.zip (Value.int (x2:Int) t3::Value.int (y2:Int) t4::r2).toArray.toList=(Value.int (x1:Int) t1,Value.int (x2:Int) t3)::(Value.int (y1:Int) t2,Value.int (y2:Int) t4)::r1.zip r2 from rfl];refine kat_cons (my _ _ _ _ X.prog X.w _ _ ?_);refine kat_go (λe=>kat_yes ?_) (λe=>kat_no ?_)
  .have ex:x1=x2:=by have:((x1:Int)==(x2:Int))=true:=e;have:=eq_of_beq this;lia
   refine kat_cons (my _ _ _ _ X.prog X.w _ _ ?_);refine kat_go (λe=>kat_yes ?_) (λe=>kat_no ?_)
   .have ey:y1=y2:=by have:((y1:Int)==(y2:Int))=true:=e;have:=eq_of_beq this;lia
    have eij:p=p':=inj p p' mp mp' (by rw[aeC,aeD,ex,ey]);subst eij;have eo:o1=o2:=by rw[ho1]at ho2;exact ax ho2
    subst eo;rw[hd1]at hd2;have er:r1=r2:=by injection hd2 with hd2 _;have:=congrArg Array.toList hd2;simp at this;exact this.2.2
    subst er;have fl:decide ((Value.int (x1:Int) t1::Value.int (y1:Int) t2::r1).toArray.size<(Value.int (x2:Int) t3::Value.int (y2:Int) t4::r1).toArray.size)=decide (x1*1000+y1<x2*1000+y2):=by rw[ex,ey];simp
    rcases hr1 with rfl|⟨z,t5,rfl⟩;.exact kat_nil (by rw[fl];exact hC')
    .refine kat_cons (SeqAt.EqAt.same _ X.prog X.w _ _ ?_);exact kat_yes (kat_nil (by rw[fl];exact hC'))
   .have ey:y1≠y2:=λz=>by have:((y1:Int)==(y2:Int))=false:=e;simp[z]at this
    refine kat_one _ _ (lt_int ?_);show C (decide ((y1:Int)<(y2:Int))) _;rw[show decide ((y1:Int)<(y2:Int))=decide (x1*1000+y1<x2*1000+y2) by rw[ex];simp];exact hC'
  .have ex:x1≠x2:=λz=>by have:((x1:Int)==(x2:Int))=false:=e;simp[z]at this
   show wpAny _ _ (oneLt' true _ _) _ _ _;refine oneLt_int ?_;rw[show decide ((x1:Int)<(x2:Int))=decide (x1*1000+y1<x2*1000+y2) by
    by_cases z:x1<x2;.rw[aE (nV gp z),aE vE]
    .rw[am (by simp[*]),am vE]]
   exact hC'
 .intro p as' hp pm up;refine q p as' hp pm ?_;have hnd':=(pm.map cf).nodup_iff.mpr hnd;rw[df];refine(up.and (df.mp hnd')).imp λ{a b} h=>?_;have h1:=oP h.1;rw[fg]at h1;have h2:=h.2;have:¬cf b<cf a:=λz=>h1 (.inl z);exact Nat.lt_of_le_of_ne (Iff.mp Nat.not_lt this) h2
def pL (w:World)(a:Addr)(bs:List Addr):Heap->Prop:=λh=>∃es ep t,SetT w h a es ep t/\es.toList.map (·.2)=bs.map Value.ref
def pL.ext (m:pL w a bs h):dU P w H h a (.ext (pL w a bs)):=by
 refine⟨m,?_,λh1 h2 m1 k=>?_⟩
 .obtain⟨es,ep,t,⟨o,ho,_⟩,_⟩:=m;exact⟨o,ho⟩
 .obtain⟨es,ep,t,m2,e⟩:=m1;exact⟨es,ep,t,m2.mv k,e⟩
def O4 (w:World)(K:W.Frag):List V->Hp->VK->Prop:=λxs H Q=>∃(p:Addr) (bs:List Addr) (lf:Addr->List T3),xs=[.ref p]/\H p=some (.ext (pL w p bs))/\bs.length<=4000/\(∀a∈bs,tH K H a (lf a))/\
 ∀(p':Addr) (bs':List Addr),H p'=none->bs'.Perm bs->Mt (bs'.map lf)->Q (.ref p') (upd H p' (.lst (bs'.map V.ref)))
def Bw (hc:X.calm=true)(hu:X.A.units+64<cLine):fj X (.builtin "sorted") (O4 X.w X.K):=by
 intro aq s σ H xs us Q I r h;obtain⟨p,bs,lf,rfl,hd,hn,hl,q⟩:=h;obtain⟨u,rfl,ru⟩:=vals1 r;cases ru;obtain⟨⟨es,ep,t,m,em⟩,_,_⟩:=(show dU X.prog X.w H s.heap p (.ext (pL X.w p bs)) from I.hok _ _ hd)
 have la:=G7 I hl;have hes:es.size=bs.length:=by have:=congrArg List.length em;rw[aa,aa,bo]at this;exact this
 have Jh:bs.length<=sizeLine:=a9 hn vS;refine Jo (Ox (A:=X.A.in1) (I.ok.hd hc) m vE λh1 tk d acc kk pm=>?_);rw[em]at pm;obtain⟨as,rfl,pa⟩:=zK pm;have bW:(as.map Value.ref).length=as.length:=aa _;have hal:=pa.length_eq;have la1:mO h1 lf as:=(la.sub λb hb=>pa.mem_iff.mp hb).keeps kk;refine⟨oF (λa=>iY (lf a)) as,tuples' false,by rw[bW,hal];exact hn,Jp λv hv=>by obtain⟨a,ha,rfl⟩:=ar.mp hv;exact⟨a,ha,rfl⟩,λh2 h' Q' E' kp q'=>?_,λh' kp=>?_,λh' out e kp pm up he=>?_⟩
 .rw[bW]at h2;exact Ms (la1.keeps kp) (ay h2) q'
 .exact QJ (la1.keeps kp) (show X.A.units+1+1+2<cLine by lia)
 .obtain⟨as',rfl,vJ⟩:=zK pm;have hl2:(as'.map V.ref).length<=sizeLine:=by rw[aa,vJ.length_eq,hal];exact Jh
  have up':=QK (λa ha=>vJ.mem_iff.mp ha) up;have I1:aJ X aq σ H {s with heap:=h1,toks:=tk,drawn:=d}:=(I.kept (t':=tk) kk).afX d;refine⟨.ref h1.objs.size,_,I1.laid (o:=.lst (as'.map V.ref)) (t':=tk) kp (ag _) ⟨hl2,as'.map Value.ref,e,zq _,he⟩,rfl,q _ as' I1.fresh (vJ.trans pa) ?_⟩;unfold Mt;rw[df];exact up'
end
section
variable {P:Program}{w:World}{κ:Type}[DecidableEq κ]
noncomputable def Ws (vk:fG P w κ)(p:κ->Value->Prop):fG P w κ where
 is:=λh k v=>vk.is h k v/\p k v
 hash:=vk.hash
 draws:=vk.draws
 deep:=vk.deep
 inj:=λh1 h2=>vk.inj h1.1 h2.1
 keeps:=λh ho hd hs=>⟨vk.keeps h.1 ho hd hs,h.2⟩
 pyHash:=λhu h q=>vk.pyHash hu h.1 q
 eqBool:=λhu h1 h2 q=>vk.eqBool hu h1.1 h2.1 q
 quiet:=λn hn h q=>vk.quiet n hn h.1 q
def af4 {vk:fG P w κ}{p:κ->Value->Prop}(nc:jM vk):jM (Ws vk p):=λn hn h q=>nc n hn h.1 q
def af5 {vk:fG P w κ}{p:κ->Value->Prop}(n1:vQ vk):vQ (Ws vk p):=λh ho hd hs=>⟨n1 h.1 ho hd hs,h.2⟩
def af6 {vk:fG P w κ}{p:κ->Value->Prop}(n1:vR vk):vR (Ws vk p):=λh hs=>⟨n1 h.1 hs,h.2⟩
def af7 {vk:fG P w κ}{p:κ->Value->Prop}(n1:Mf vk):Mf (Ws vk p):=λh q=>n1 h.1 q
end
def qR (ts:List T3):Ml:=ts.map λt=>[Sum.inl (t.1:Int),Sum.inl (t.2.1:Int),Sum.inr (S [t.2.2])]
theorem Mu:∀{ts us:List T3},qR ts=qR us->ts=us
 | [],[],_=>rfl
 | [],_::_,h=>by cases h
 | _::_,[],h=>by cases h
 | t::ts,u::us,h=>by injection h with a b;injection a with a1 a2;injection a2 with a2 a3;injection a3 with a3 _;injection a1 with a1;injection a2 with a2;injection a3 with a3;have a3:=pX a3;injection a3 with a3 _;rw[Mu b,show t=u from tf (i9 a1) (tf (i9 a2) a3)]
section
variable {P:Program}{w:World}
variable {X:Cx}
def QM:(uE (cC P w)).is h (Sum.inl i) (Value.int i t):=by have e:jt (Sum.inl i) (Value.int i t)=true:=H_ i t;exact e
def ab1:(uE (cC P w)).is h (Sum.inr x) (Value.str x t):=by have e:jt (Sum.inr x) (Value.str x t)=true:=Ia x t;exact e
theorem QV:∀{ts:List T3} {vs:List Value} {as:List Addr},ReadsAll h vs (dZ (ts.map lq)) as->jG (tupK (uE (cC P w))) h (qR ts) vs
 | [],vs,as,r=>by simp only[kU,dZ]at r;cases r;trivial
 | t::ts,vs,as,r=>by
  simp only[cp,dZ]at r;cases r with| cons r1 r2=>obtain⟨a,o,n,t1,t2,t3,rfl,ho,hc,hd⟩:=Ks r1;exact⟨⟨a,o,n,_,rfl,ho,hc,hd,QM,QM,ab1,trivial⟩,QV r2⟩
def aeE (r:Reads h v (toP (oG ts)) as)(hne:ts≠[]):(G5 P w).is h (qR ts) v:=by obtain⟨a,o,vs,n,bs,rfl,ho,hc,hd,ra⟩:=pY r;refine⟨⟨a,o,n,vs,rfl,ho,hc,hd,QV ra⟩,λz=>hne (List.map_eq_nil_iff.mp z),λt ht=>?_⟩;obtain⟨u,_,rfl⟩:=ar.mp ht;exact⟨_,_,_,rfl⟩
def ab2 (w:World)(K:W.Frag):List V->Hp->VK->Prop:=λxs H Q=>∃(L:Addr) (as:List Addr) (lf:Addr->List T3),xs=[.ref L]/\aQ K H L (as.map V.ref)/\as.length<=3999/\(∀a∈as,tH K H a (lf a))/\
 ∀(p:Addr) (bs:List Addr),H p=none->(∀b∈bs,b∈as)->(bs.map lf).Nodup->(∀a∈as,lf a∈bs.map lf)->Q (.ref p) (upd H p (.ext (pL w p bs)))
def O5 (hc:X.calm=true)(hu:X.A.units+64<cLine):fj X (.type "set") (ab2 X.w X.K):=by
 intro aq s σ H xs us Q I r h;obtain⟨L,as,lf,rfl,hS,hz,hl,q⟩:=h;obtain⟨u,rfl,ru⟩:=vals1 r;cases ru;obtain⟨its,rv,pl,_⟩:=I.list hS;have Zu:=zp rv;subst Zu;have la:=G7 I hl;have hsz:(as.map Value.ref).toArray.size=as.length:=vF;refine Wq (vk:=Ws (G5 X.prog X.w) λk v=>∃b∈as,v=.ref b/\k=qR (lf b)) (val:=λi=>qR (lf (as.getD i 0))) (show (2:Nat)<=8 by decide) (af4 aex) (af6 aeB) (af5 aey) (af7 abY) (show X.A.units+14+2<cLine by lia) (I.ok.hd hc) pl.isList (λi v hv=>?_) (by rw[hsz];exact hz) λh' tk ks kk hkl hkm m=>?_
 .have hi:i<as.length:=by
   have:=(Array.getElem?_eq_some_iff.mp hv).1;simp_all
  have ev:v=.ref as[i]:=by
   have:(as.map Value.ref)[i]?=some v:=by simpa using hv
   rw[aw,ae hi]at this;exact(ax this).symm
  have eg:as.getD i 0=as[i]:=by simp[hi]
  obtain⟨⟨rs,rd⟩,ne,_⟩:=la as[i] (a8 hi);refine⟨as[i],ev,?_⟩;rw[eg,ev];exact⟨aeE rd ne,as[i],a8 hi,rfl,rfl⟩
 .obtain⟨es,ep,t,m,ti,ek,_,_⟩:=m;have hv:∀(i:Nat) e k,es.toList[i]?=some e->ks[i]?=some k->∃b∈as,e.2=.ref b/\k=qR (lf b):=λi e k h1 h2=>((ek.at_ i e k h1 h2).1).2;have eb:es.toList.map (·.2)=((es.toList.map (·.2)).map E_).map Value.ref:=by
   rw[b6];refine(ke _).symm.trans (eI λv Wt=>?_);obtain⟨e,he,rfl⟩:=ar.mp Wt;obtain⟨i,hi,rfl⟩:=cx.mp he;obtain⟨b,_,e2,_⟩:=hv i _ (ks[i]'(by rw[ek.len];exact hi)) (ae hi) (ae _);rw[e2];rfl
  have ekb:ks=((es.toList.map (·.2)).map E_).map λb=>qR (lf b):=by
   apply nL;.simp[ek.len]
   .intro i h1 h2;have hi:i<es.toList.length:=by rw[<-ek.len];exact h1
    obtain⟨b,_,e2,e3⟩:=hv i _ _ (ae hi) (ae h1);rw[e3];simp only[nN];rw[e2];rfl
  generalize (es.toList.map (·.2)).map E_=bs at eb ekb;have hbs:∀b∈bs,b∈as:=λb hb=>by
   obtain⟨i,hi,rfl⟩:=cx.mp hb;have hi2:i<es.toList.length:=by have:=congrArg List.length eb;rw[aa,aa]at this;simp[*]
   obtain⟨b',hb',e2,_⟩:=hv i _ (ks[i]'(by rw[ek.len];exact hi2)) (ae hi2) (ae _);have:(es.toList.map (·.2))[i]?=some (.ref bs[i]):=by rw[eb];simp[hi]
   rw[aw,ae hi2]at this;have:es.toList[i].2=.ref bs[i]:=ax this;rw[e2]at this;cases this;exact hb'
  have nd:(bs.map lf).Nodup:=by
   have:=ek.nd;rw[ekb]at this;have e:(bs.map λb=>qR (lf b))=(bs.map lf).map qR:=by rw[b6];rfl
   rw[e]at this;exact List.Pairwise.of_map qR (λa b hab z=>hab (by rw[z])) this
  refine⟨.ref s.heap.objs.size,_,I.laid (o:=.ext (pL X.w s.heap.objs.size bs)) (t':=tk) kk (ag _) (pL.ext ⟨es,ep,t,m,eb⟩),rfl,q _ bs I.fresh hbs nd λa ha=>?_⟩;obtain⟨i,hi,rfl⟩:=cx.mp ha;have:qR (lf as[i])∈ks:=(hkm _).mpr (ar.mpr ⟨i,by rw[hsz];exact bE.mpr hi,by simp[hi]⟩);rw[ekb]at this;obtain⟨b,hb,e⟩:=ar.mp this;rw[<-Mu e];exact ar.mpr ⟨b,hb,rfl⟩
end
end L2
namespace L2
open PySem PySem.Spec PyProof.Rows
def Good (u:Value)(n:Nat):Prop:=∃x t,u=.str x t/\0<t/\t<n
def GP (X:Cx)(aq:AC)(σ:St)(Q:VK)(u:Value)(s':Shared):Prop:=∃v H',aJ X aq σ H' s'/\bJ v u/\Good u s'.toks/\Q v H'
structure GE (X:Cx)(e:Expr)(t:TE):Prop where
 out:∀(aq:AC) (s:Shared) (σ:St) (H:Hp) (Q:VK),aJ X aq σ H s->t σ H Q->wpAny (model X.prog X.w) X.A (eval e X.env) (GP X aq σ Q) X.xe s
section
variable {X:Cx}
def aaU (ha:QE X a ta)(hs:Gu (.Constant (.int i) j p)):GE X (.Subscript a (.Constant (.int i) j p) pos) (rE adH ta (tC (.int i))):=by
 refine⟨λaq s σ H Q I h=>?_⟩;refine Subscript_ (bH (ha.out aq s σ H _ I h) λv s1 ⟨x,H1,I1,r1,q1⟩=>tm ?_);obtain⟨z,i',c,rfl,e',hz,he,q⟩:=q1;cases e';obtain⟨t,rfl⟩:=r1;obtain⟨jj,h1,h2,h3,h4,h5⟩:=Aj he;have hl:z.cps.toList.length=z.length:=by simp[Str.length]
 rw[hl]at h1 h4 h5;have hn:=sJ;have I2:=I1.tok (s1.toks+1);exact tail_any (typeIs_str _ z t) slot_str_getitem.lookup (getItem_str (c:=c) (by
  have e1:decide (i < -(2^63:Int))=false:=am vE;have e2:decide (i>=2^63)=false:=am vE;rw[e1,e2,qV]) (by rw[h1];simpa using h2) ⟨.str ⟨#[c]⟩,H1,I2.tok _,⟨_,rfl⟩,⟨_,_,rfl,kr _,e8 _⟩,q⟩) (hs _ _)
def tUp (K:W.Frag)(to:TE):TE:=λσ H Q=>to σ H λx H1=>∃c:Nat,x=.str (S [c])/\c<128/\Q (.str (S [up1 c])) H1
def af8 {apos cpos:Pos}(ho:GE X o to)(hbase:attributeBase o "upper" X.env (eval o X.env)=eval o X.env:=by rfl)(hline:(apos.endLine==cpos.line)=true:=by rfl):GE X (.Call (.Attribute o "upper" apos) [] [] cpos) (tUp X.K to):=by
 refine⟨λaq s σ H Q I h=>?_⟩;refine wpAny_Call_method0_late hbase hline (bH (ho.out aq s σ H _ I h) λv s1 zz=>?_);obtain⟨x,H1,I1,r1,g1,c,e,hc,q⟩:=zz;subst e;obtain⟨t,rfl⟩:=r1;obtain⟨_,t',e',g2,g3⟩:=g1;refine⟨"str","str.upper",ci,PySem.F.slot_str_upper,PySem.F.type_str_upper,typeIs_str s1 _ t,λ_ e=>(nomatch e),g9 rfl (PySem.evalArgs_none ?_)⟩
 .have hfit:Builtin.Str.tooLong (Txt.upper (S [c])).length=false:=fit_upper (by rw[lM];exact a9 (show 1<=1000 by decide) vS);refine call_gives F.slot_str_upper (typeIs_str s1 _ t) F.entry_str_upper (F.args_str_upper_1 _) (gives_str_upper (S [c]) t hfit) ⟨fit_le hfit,?_⟩;have e:Txt.upper (S [c])=S ([c].map up1):=by rw[upper_ascii (x:=S [c]) (λd hd=>by rw[ap.mp hd];exact hc)];simp[S]
  exact⟨.str (S [up1 c]),H1,I1.tok _,⟨s1.toks,congrArg (λz=>Value.str z s1.toks) e⟩,⟨_,s1.toks,rfl,kX g2 g3,e8 _⟩,q⟩
end
theorem Mv:∀{l:List Nat} {c i:Nat},l[i]?=some c->(∀k,k<i->l[k]?≠some c)->l.take i++l.drop (i+1)=l.erase c
 | [],_,_,h,_=>by simp at h
 | d::l,c,0,h,_=>by
  have:d=c:=by simpa using h
  subst this;simp
 | d::l,c,i+1,h,hk=>by have hd:d≠c:=λe=>hk 0 vE (by simp[e]);have ih:=Mv (l:=l) (c:=c) (i:=i) (by simpa using h) (λk hk'=>by have:=hk (k+1) (q0 hk');simpa using this);rw[List.erase_cons_tail (by simpa using hd),<-ih];simp
open Builtin.Str in
def Zw (l)(c)(h:c∈l):∃i,occurrences (S l) (S [c]) 0 (S l).length 1=[i]/\glued (S []) (partsBetween (S l) [i] (S [c]).length)=S (l.erase c):=by
 have hn:(S l).length=l.length:=lM l;rcases StrLaws.occ_head (S l) (S [c]) 1 (ag 1) with⟨h0,hk⟩|⟨i,r,h0,hi,hk⟩
 .obtain⟨i,hi⟩:=rn.mp h;exact absurd ((ga (S l) c i).mpr hi) (hk i)
 .have hl:=StrLaws.occ_length_le (S l) (S [c]) 0 (S l).length 1;rw[h0]at hl;have:r=[]:=sC (by rw[bt]at hl;lia);subst this;have e1:l[i]?=some c:=(ga (S l) c i).mp hi;have e2:∀k,k<i->l[k]?≠some c:=λk hk' z=>hk k hk' ((ga (S l) c k).mpr z);refine⟨i,h0,?_⟩;have hil:i<l.length:=(ai.mp e1).1;have e3:partsBetween (S l) [i] (S [c]).length=[strSub (S l) 0 i,strSub (S l) (i+(S [c]).length) (S l).length]:=rfl;rw[e3,Kp,Kp,hn,show (S [c]).length=1 from rfl,vy,cz,<-Mv e1 e2];show (⟨(S (l.take i)).cps++(S []).cps++(S (l.drop (i+1))).cps⟩:Str)=_;unfold S;congr 1;apply lh.mp;simp
def cZ (c:Nat):Nat:=if 65<=c/\c<=90 then 63 else c
def aeF (a b:Nat):(!decide ([b]<[a]))=decide (a<=b):=by
 by_cases h:a<=b;.rw[aE h,am (by simp[fg];exact h)];rfl
 .rw[am h,aE (by simp[fg];exact re h)];rfl
structure Fb (P:Program)(w:World)(K:W.Frag)(mg:Str->Option Value)(base:Heap)(f:Addr)(fd:FuncData):Prop where
 run:∀(A:Around) (outer:List Env) (s:Shared) (H:Hp) (args:Args) (c:Nat) (t:Tok),dY 1 A->yQ P w K mg base A outer s H->BindsTo s fd args ([("sign":Str)].zip [Value.str (S [c]) t])->0<t->t<s.toks->
  codeAny (model P w) A (.call (.ref f) args) (λr s'=>∃u,r=.ok (.ret u)/\CE outer P w H s (λv H'=>v=.str (S [cZ c])/\H'=H) u s'/\Good u s'.toks) s
def ab3 {K:W.Frag}{mg:Str->Option Value}{st:Stmt}{x1 x2 x3:Str}{j1 j3 j5:_}(F:iD K "tile_of" "tile_of" st f fd)(Sc:aW ["sign"] ["sign"] (aH st))(hloc:(aH st).names.lookup ("sign":Str)=some .local)(hb:cM st=[.Return (some (.IfExp (.Compare (.Constant (.str x1) j1 p1) [.LtE,.LtE] [.Name "sign" p2,.Constant (.str x3) j3 p3] p4) (.Constant (.str x2) j5 p5) (.Name "sign" p6) p7)) p8])(h1:x1=S [65])(h2:x2=S [63])(h3:x3=S [90]):Fb P w K mg base f fd:=by
 subst h1 h2 h3;obtain⟨oc,od,kV,doc,pm,an,bD,ct,osl,rfl,lk,hcd⟩:=F.ex;refine⟨λA outer s H args c t hr e0 hbd t0 t1=>?_⟩;have KX:K.In s.heap:=e0.mod.Ky.keeps λb o e=>(e0.bs b o e).1;have lim:s.heap.NoLimit:=e0.mod.nolimit.keeps λb o e=>(e0.bs b o e).1;have hkind:∀y∈[("sign":Str)].zip [Value.str (S [c]) t],(aH st).names.lookup y.1=some .local\/((aH st).names.lookup y.1=some .cell/\((cellsFrom (s.heap.objs.size+1) (aH st).names []).lookup y.1).isSome=true):=λ⟨n,v⟩ hy=>by have hn:n="sign":=ap.mp (r0 hy).1;subst hn;exact .inl hloc
 refine codeAny_call_function hr.depth (KX _ _ lk) rfl Sc.co Sc.gen rfl (W.codeRec_of KX hcd) (hbd _ _ _ _ ?_);refine pC (wpAny_newFunctionEnv_cells Sc.kind hkind λenv he s1 x ht=>?_);subst he;refine⟨lim.keeps x.toInCall.keep,codeAny_func ?_⟩;have I:aJ (sO fW P w K mg base ["sign"] "tile_of" (aH st) f bD A outer s H E0) [] (start ["sign"] [.str (S [c])]) H s1:=Ip Sc hr.hd e0 rfl (.cons ⟨t,rfl⟩ .nil) x
 have hm:bindL (envOfC "tile_of" (aH st) s.heap.objs.size f bD).kindOf ([("sign":Str)].zip [Value.str (S [c]) t]) (λ_=>none) "sign"=some (Value.str (S [c]) t):=yR (i:=0) (P:=["sign"]) (vs:=[Value.str (S [c]) t]) vS rfl rfl hloc
 have hns:s1.heap.Ns s.heap.objs.size (bindL (envOfC "tile_of" (aH st) s.heap.objs.size f bD).kindOf ([("sign":Str)].zip [Value.str (S [c]) t]) (λ_=>none)):=x.toInCall.ns;show wpAny _ _ (execs (cM st) _) _ _ s1;rw[hb];have tS1:t<s1.toks:=bq t1 ht;have nm:∀(tk:Nat) (p:Pos) (Q:AB) (E:AB),Q (.str (S [c]) t) {s1 with toks:=tk}->
   wpAny (model P w) (A.deeper (envOfC "tile_of" (aH st) s.heap.objs.size f bD)) (eval (.Name "sign" p) (envOfC "tile_of" (aH st) s.heap.objs.size f bD)) Q E {s1 with toks:=tk}:=λtk p Q E q=>
  o0 (rV Sc.kind hloc hns hm q) vS
 have fin:∀(tk':Nat) (y:Tok) (d:Nat),d=cZ c->0<y->y<tk'->∃u,(Except.ok (Flow.ret (.str (S [d]) y)):Result)=.ok (.ret u)/\CE outer P w H s (λv H'=>v=.str (S [cZ c])/\H'=H) u {s1 with toks:=tk' }/\Good u tk':=λtk' y d hd a2 a3=>by have J:=I.tok tk';subst hd;exact⟨_,rfl,⟨.str (S [cZ c]),H,J.os,J.bare,J.base,J.hok,⟨y,rfl⟩,rfl,rfl⟩,_,y,rfl,a2,a3⟩
 refine kR (wpAny_Return_some (wpAny_IfExp (isTrue_chain (mw (test_link (nm _ _ _ _ (vx (ee ?_))))))));have hcp:∀a:Nat,(S [a]).cps.toList=[a]:=λa=>rfl;rw[hcp,hcp,aeF];by_cases c1:65<=c
 .rw[aE c1];refine ite_tt (test_last (mw (vx (ee ?_))));rw[hcp,hcp,aeF];by_cases c2:c<=90
  .rw[aE c2];refine ite_tt (mw ?_);exact fin (s1.toks+1+1+1) (s1.toks+1+1) 63 (if_pos ⟨c1,c2⟩).symm (kr _) (e8 _)
  .rw[am c2];exact ite_ff (nm _ _ _ _ (fin (s1.toks+1+1) t c (if_neg λz=>c2 z.2).symm t0 (bq tS1 (Nat.le_add_right s1.toks 2))))
 .rw[am c1];exact ite_ff (ite_ff (nm _ _ _ _ (fin (s1.toks+1) t c (if_neg λz=>c1 z.1).symm t0 (bq tS1 (fA _)))))
section
variable {X:Cx}{aq:AC}{σ:St}{H:Hp}{s:Shared}
def Tn (X:Cx)(s:Shared)(x:Str)(u:Value):Prop:=∃m,s.heap.Ns X.env.locals m/\Look X.env s.heap m x u
def tK {E:AB}{x:Str}{u:Value}{pos:Pos}{Q:AB}(I:aJ X aq σ H s)(h:Tn X s x u)(q:Q u s)(hd:(x==("__debug__":Str))=false:=by decide)(hcd:(x==("__classdict__":Str))=false:=by decide):wpAny (model X.prog X.w) X.A (eval (.Name x pos) X.env) Q E s:=by
 obtain⟨m,hn,l⟩:=h;rcases l with⟨hk,hm⟩|⟨hk,c,hc,hcell⟩;.exact o0 (rV I.ok.kind hk hn hm q) hd
 .rcases hk with hk|hk;.exact o0 (wpAny_loadName_cell I.ok.kind hk hc hcell q) hd
  .exact o0 (wpAny_loadName_free I.ok.kind hk hc hcell q hcd) hd
def uZ (ir is it il : Nat)(tb : TS)(c : Nat) : TS := λD σ H => ∃l : List Nat, (((σ.set is (some (.str (S [c])))).set it (some (.str (S [cZ c])))))[ir]? = some (some (.str (S l))) /\ l.length <= 1000 /\
  (if cZ c ∈ l then tb {nx := D.nx, rt := D.rt} (((σ.set is (some (.str (S [c])))).set it (some (.str (S [cZ c])))).set il (some (.str (S (l.erase (cZ c)))))) H
   else D.nx ((σ.set is (some (.str (S [c])))).set it (some (.str (S [cZ c])))) H)
def agH (ir is it il:Nat)(t1 t2:TE)(tb:TS):TS:=λD σ H=>t1 σ H λx1 H1=>t2 σ H1 λx2 H2=>∃c1 c2:Nat,x1=.str (S [c1])/\x2=.str (S [c2])/\
 uZ ir is it il tb c1 {nx:=uZ ir is it il tb c2 D,rt:=D.rt} σ H2
structure Tp (X:Cx)(ir is it il:Nat)(f:Addr)(fd:FuncData):Prop where
 nd:X.N.Nodup
 r:X.N[ir]?=some "rack"
 s:X.N[is]?=some "sign"
 t:X.N[it]?=some "tile"
 l:X.N[il]?=some "left"
 vr:UW X.env.scope "rack"
 vs:Loc X.env.scope "sign"
 vt:Loc X.env.scope "tile"
 vl:Loc X.env.scope "left"
 fs:X.fn "sign"=true
 ft:X.fn "tile"=true
 fl:X.fn "left"=true
 T:Fb X.prog X.w X.K X.mg X.base f fd
 b:cj X.K fd ["sign"] []
 m:X.mg "tile_of"=some (.ref f)
 k:W.keepIn X.K (.ref f)=true
 g:Gl X "tile_of"
 rm:dY 1 X.A
abbrev G9 (x0 : Str)(j0 j1 : Nat)(Jq Jr pk2 Js Jt QX QZ Q0 Ju Jv u9 xr xu xG u_ zL G_ : Pos)(rest : List Stmt) : List Stmt :=[.Assign [.Name "tile" Jq] (.Call (.Name "tile_of" Jr) [.Name "sign" pk2] [] Js) Jt,
   .If (.Compare (.Name "tile" QX) [.In] [.Name "rack" QZ] Q0) (.Assign [.Name "left" Ju] (.Call (.Attribute (.Name "rack" Jv) "replace" u9) [.Name "tile" xr, .Constant (.str x0) j0 xu, .Constant (.int 1) j1 xG] [] u_) zL::rest) [] G_]
def Wu (Y:Tp X ir is it il f fd)(I:aJ X aq σ H s):wpAny (model X.prog X.w) X.A (assign (.Name "sign" p1) X.env (.str (S [c]) t)) (λ_ s2=>aJ X aq (σ.set is (some (.str (S [c])))) H s2/\Tn X s2 "sign" (.str (S [c]) t)/\s.toks<=s2.toks) X.xe s:=pC (tI (uq I Y.nd Y.s Y.vs (v:=.str (S [c])) ⟨t,rfl⟩ (λs' I' _ ex ht=>⟨I',ex,ht⟩) (.inl Y.fs)))
def Zx {ir is it il:Nat}{c:Nat}{t:Tok}{x0:Str}{j0 j1:Nat}{Jq Jr pk2 Js Jt QX QZ Q0 Ju Jv u9 xr xu xG u_ zL G_:Pos}{rest:List Stmt}{D:Ends}(Y:Tp X ir is it il f fd)(hx0:x0=S [])(hl1:(u9.endLine==u_.line)=true)(hs1:swapsWith (.Call (.Name "tile_of" Jr) [.Name "sign" pk2] [] Js) (some (.Name "tile" Jq)) Jt.line X.env=pure false)(hs2:swapsWith (.Call (.Attribute (.Name "rack" Jv) "replace" u9) [.Name "tile" xr,.Constant (.str x0) j0 xu,.Constant (.int 1) j1 xG] [] u_) (some (.Name "left" Ju)) zL.line X.env=pure false)(hrest:vH X rest tb)(I:aJ X aq (σ.set is (some (.str (S [c])))) H s)(ex:Tn X s "sign" (.str (S [c]) t))(t0:0<t)(t1:t<s.toks)(q:uZ ir is it il tb c D σ H):wpAny (model X.prog X.w) X.A (execs (G9 x0 j0 j1 Jq Jr pk2 Js Jt QX QZ Q0 Ju Jv u9 xr xu xG u_ zL G_ rest) X.env) (SP X aq {nx:=D.nx,rt:=D.rt}) X.xe s:=by
 subst hx0;obtain⟨l,hl,hz,q⟩:=q;refine kR (tJ (km (Af I Y.g Y.m ?_ vS)) hs1);refine ox (h₀:=X.base) I.ok.mod.Ky Y.k (eR (tK I ex (kK ⟨I.jq,?_⟩))) rfl rfl;refine t7 (io (Y.T.run X.A X.stack s H ⟨[.str (S [c]) t],[]⟩ c t Y.rm I.env0 (Y.b s [.str (S [c]) t] I.jq rfl) t0 t1) λr s1 hr=>?_);obtain⟨u,rfl,ce,y,y',hy,g0,g1⟩:=hr;obtain⟨v,H1,I1,rv,ev,eH⟩:=I.after ce;subst ev eH hy;obtain⟨y2,ey⟩:=rv;injection ey with ey1 ey2;subst ey1 ey2;refine pC (uq I1 Y.nd Y.t Y.vt (v:=.str (S [cZ c])) ⟨y',rfl⟩ (λs2 I2 _ ex2 ht=>?_) (.inl Y.ft));have g2:y'<s2.toks:=bq g1 ht;obtain⟨m,hn,hlm⟩:=id I2.loc;obtain⟨ur,⟨tr,er⟩,lr⟩:=hlm ir "rack" _ Y.r hl Y.vr;subst er;have exr:Tn X s2 "rack" (.str (S l) tr):=⟨m,hn,lr⟩
 refine kR (wpAny_If (wpAny_isTrue_Compare1 (tK I2 ex2 (tK I2 exr (in_str (ee ?_)))) (by with_unfolding_all rfl)));have ein:(!(Builtin.Str.occurrences (S l) (S [cZ c]) 0 (S l).length 1).isEmpty)=decide (cZ c∈l):=by have e:=StrLaws.found_one (S l) (cZ c);rw[aaO]at e;rw[show (S [cZ c])=(⟨#[cZ c]⟩:Str) from rfl,e]
 rw[ein];by_cases hc:cZ c∈l
 .rw[if_pos hc]at q;rw[aE hc];refine ite_tt (kR (tJ (wpAny_Call_method_late rfl rfl hl1 rfl (tK I2 exr ?_)) hs2));refine⟨"str","str.replace",ci,PySem.F.slot_str_replace,PySem.F.type_str_replace,typeIs_str s2 _ tr,λ_ e=>(nomatch e),?_⟩;refine g9 rfl (nB ?_);show wpAny _ _ (spliced ((false,eval (.Name "tile" xr) X.env)::(false,eval (.Constant (.str (S [])) j0 xu) X.env)::(false,eval (.Constant (.int 1) j1 xG) X.env)::[])) _ _ _;refine eR (tK I2 ex2 (eR (mw (eR (tm (kK ?_))))));obtain⟨i,ho,hgl⟩:=Zw l (cZ c) hc;refine call_gives F.slot_str_replace (typeIs_str _ _ tr) F.entry_str_replace (F.args_str_replace_4 _ _ _ _) (GX (S l) (S [cZ c]) (S []) tr y' s2.toks _ λ_=>⟨?_,?_,?_,?_⟩) ?_
  .have:y'≠0:=ki g0;have:s2.toks≠0:=ki (kX g0 g2);simp[*]
  .have:y'≠s2.toks:=be g2;simpa using this
  .rfl
  .rw[ho];unfold Builtin.Str.tooLong;rw[lM,show (S []).length=0 from rfl,Nat.mul_zero,uC];exact am (by have:=aM (n:=l.length) hz;lia)
  rw[ho];have e0:(([i]:List Nat).isEmpty||((S [cZ c]).length==0&&(S []).length==0))=false:=rfl;rw[if_neg (by rw[e0];decide),hgl];refine⟨?_,?_⟩;.rw[lM];exact a9 List.length_erase_le (ay (aM vE))
  .have I3:=I2.tok (s2.toks+1+1+1);refine Cm I3 Y.nd Y.l Y.vl (v:=.str (S (l.erase (cZ c)))) ⟨_,rfl⟩ (λs3 I4=>?_) (.inl Y.fl);refine bH (hrest.out aq s3 _ _ {nx:=D.nx,rt:=D.rt} I4 q) λfl s4 z=>?_;cases fl with| next=>exact im z| ret v=>exact z| brk=>exact z| cont=>exact z
 .rw[if_neg hc]at q;rw[am hc];exact ite_ff (im (im ⟨_,_,I2,q⟩))
def aeG {ir is it il:Nat}{x0:Str}{j0 j1:Nat}{Jq Jr pk2 Js Jt QX QZ Q0 Ju Jv u9 xr xu xG u_ zL G_:Pos}{rest:List Stmt}{e1 e2:Expr}{kt:_}(Y:Tp X ir is it il f fd)(hx0:x0=S [])(hp:PassesOwn (model X.prog X.w) X.A X.env X.xe)(hcm:X.calm=true)(g1:GE X e1 t1)(g2:GE X e2 t2)(hl1:(u9.endLine==u_.line)=true)(hs1:swapsWith (.Call (.Name "tile_of" Jr) [.Name "sign" pk2] [] Js) (some (.Name "tile" Jq)) Jt.line X.env=pure false)(hs2:swapsWith (.Call (.Attribute (.Name "rack" Jv) "replace" u9) [.Name "tile" xr,.Constant (.str x0) j0 xu,.Constant (.int 1) j1 xG] [] u_) (some (.Name "left" Ju)) zL.line X.env=pure false)(hst:starEach [e1,e2] X.env=[(false,eval e1 X.env),(false,eval e2 X.env)])(hs:∀x,foldedSetIterable (.Tuple [e1,e2] kt p2) X.env x=pure x)(hrest:vH X rest tb):QS X (.For (.Name "sign" p1) (.Tuple [e1,e2] kt p2) (G9 x0 j0 j1 Jq Jr pk2 Js Jt QX QZ Q0 Ju Jv u9 xr xu xG u_ zL G_ rest) [] pos) (agH ir is it il t1 t2 tb):=by
 refine⟨λaq s σ H D I h=>?_⟩;refine wpAny_For (wpAny_Tuple_spliced ?_) hs;rw[hst];show wpAny _ _ (spliced ((false,eval e1 X.env)::(false,eval e2 X.env)::[])) _ _ s;refine eR (bH (g1.out aq s σ H _ I h) λu1 s1 ⟨v1,H1,I1,r1,gd1,q1⟩=>eR (pC (fm (g2.out aq s1 σ H1 _ I1 q1) (λu2 s2 ⟨v2,H2,I2,r2,gd2,q2⟩ ht=>kK ⟨show 2<=sizeLine by decide,?_⟩) λ_ _ z _=>z)));obtain⟨c1,c2,ev1,ev2,q⟩:=q2;subst ev1 ev2;obtain⟨tk1,rfl⟩:=r1;obtain⟨tk2,rfl⟩:=r2;obtain⟨_,_,eg,a0,a1⟩:=gd1;injection eg with eg1 eg2;subst eg1 eg2;obtain⟨_,_,eg,b0,b1⟩:=gd2;injection eg with eg1 eg2;subst eg1 eg2;have a2:tk1<s2.toks:=bq a1 ht;have I3:aJ X aq σ H2 {s2 with heap:=s2.heap.push {cls:=.type "tuple",data:=.seq [Value.str (S [c1]) tk1,Value.str (S [c2]) tk2].toArray} }:=I2.kept (t':=s2.toks) λb o e=>af _ e;have rG:(s2.heap.push {cls:=.type "tuple",data:=.seq [Value.str (S [c1]) tk1,Value.str (S [c2]) tk2].toArray}).get? s2.heap.objs.size=some {cls:=.type "tuple",data:=.seq [Value.str (S [c1]) tk1,Value.str (S [c2]) tk2].toArray}:=aS _ rfl;have fa3:nu X aq H2 s2.heap.objs.size:=I2.mC (ag _) (I2.hok.fresh (ag _));have hT:∀h:Heap,h.get? s2.heap.objs.size=some {cls:=.type "tuple",data:=.seq [Value.str (S [c1]) tk1,Value.str (S [c2]) tk2].toArray}->h.IsTuple s2.heap.objs.size [Value.str (S [c1]) tk1,Value.str (S [c2]) tk2].toArray:=λh e=>⟨_,e,rfl,_,rfl⟩
 refine mx (hT _ rG) ?_;generalize hob:({cls:=.type "tuple",data:=.seq [Value.str (S [c1]) tk1,Value.str (S [c2]) tk2].toArray}:Obj)=Jw at I3 rG hT ⊢;generalize ha:s2.heap.objs.size=a at I3 rG fa3 hT ⊢;generalize hs3:({s2 with heap:=s2.heap.push Jw}:Shared)=s3 at I3 ⊢;have ht3:s3.toks=s2.toks:=by rw[<-hs3]
 have Zy:s3.heap.get? a=some Jw:=by rw[<-hs3];exact rG
 have fit:nu X aq H2 s3.heap.objs.size:=I3.mC (ag _) (I3.hok.fresh (ag _));have nia:s3.heap.objs.size≠a:=λz=>by rw[<-z]at Zy;exact absurd (a7 Zy) (hG _)
 let S3:Nat->St->Hp->Prop:=λn σ' H'=>match n with| 0=>D.nx σ' H'| 1=>uZ ir is it il tb c2 D σ' H'| _=>uZ ir is it il tb c1 {nx:=uZ ir is it il tb c2 D,rt:=D.rt} σ' H'
 let fp:List Addr:=[s3.heap.objs.size,a]
 have stat:∀{H':Hp},(∀b∈fp,H' b=none)->∀b∈fp,nu X aq H' b:=λhn b hb=>⟨hn b hb,by
  rcases bb.mp hb with z|z;.rw[z];exact fit.2
  .rw[ap.mp z];exact fa3.2⟩
 refine codeAny_forLoop_any (λn s'=>n<=2/\∃σ' H',aJ X aq σ' H' s'/\s'.heap.IsTupleIter s3.heap.objs.size a (2-n)/\s'.heap.get? a=some Jw/\(∀b∈fp,H' b=none)/\s2.toks<=s'.toks/\S3 n σ' H') ?_ 2
  ⟨ag _,σ,H2,I3.kept (t':=s3.toks) λb o e=>af _ e,⟨_,aS _ rfl,rfl,rfl⟩,af _ Zy,λb hb=>by
   rcases bb.mp hb with z|z;.rw[z];exact fit.1
   .rw[ap.mp z];exact fa3.1,by show s2.toks<=s3.toks;lia,q⟩
 rintro n s4 ⟨hn,σ4,H4,I4,eE,ho4,Qj,tk4,q4⟩;have hf:=stat Qj s3.heap.objs.size (by simp[fp]);obtain⟨f0,f1,f2,f3,f4,f5⟩:=hf;have one:∀(k:Nat) (c:Nat) (tk:Tok) (D':Ends),n=k+1->[Value.str (S [c1]) tk1,Value.str (S [c2]) tk2].toArray[2-n]?=some (Value.str (S [c]) tk)->0<tk->tk<s2.toks->D'.rt=D.rt->(∀σ' H',D'.nx σ' H'->S3 k σ' H')->uZ ir is it il tb c D' σ4 H4->
   wpAny (model X.prog X.w) X.A (pyNext (.ref s3.heap.objs.size)) (λr s₁=>match r with
   | none=>wpAny (model X.prog X.w) X.A (execs [] X.env) (λf s₃=>SP X aq D f s₃) (notedBy (model X.prog X.w) X.A X.env λe s'=>cameBackBy (model X.prog X.w) X.A X.env X.xe e s') s₁
   | some v=>wpAny (model X.prog X.w) X.A (letOwnedTupleGo (.Name "sign" p1) (.ref s3.heap.objs.size) v) (λ_ s₁'=>
     wpAny (model X.prog X.w) X.A (assign (.Name "sign" p1) X.env v) (λ_ s₂=>wpAny (model X.prog X.w) X.A (execs (G9 x0 j0 j1 Jq Jr pk2 Js Jt QX QZ Q0 Ju Jv u9 xr xu xG u_ zL G_ rest) X.env) (λf s₃=>match f with
      | .next|.cont=>∃m,m<n/\(m<=2/\∃σ' H',aJ X aq σ' H' s₃/\s₃.heap.IsTupleIter s3.heap.objs.size a (2-m)/\s₃.heap.get? a=some Jw/\(∀b∈fp,H' b=none)/\s2.toks<=s₃.toks/\S3 m σ' H')
      | .brk=>SP X aq D .next s₃
      | .ret v=>SP X aq D (.ret v) s₃) (notedBy (model X.prog X.w) X.A X.env λe s'=>cameBackBy (model X.prog X.w) X.A X.env X.xe e s') s₂) (notedBy (model X.prog X.w) X.A X.env λe s'=>cameBackBy (model X.prog X.w) X.A X.env X.xe e s') s₁') (notedBy (model X.prog X.w) X.A X.env λe s'=>cameBackBy (model X.prog X.w) X.A X.env X.xe e s') s₁) (notedBy (model X.prog X.w) X.A X.env λe s'=>cameBackBy (model X.prog X.w) X.A X.env X.xe e s') s4:=by
  intro k c tk D' hk hit k0 k1 hrt hnx hq;refine fo hp (pC (wpAny_pyNext_tuple_item eE (hT _ ho4) (x:=Value.str (S [c]) tk) hit λh' st' sb Fd=>?_));have I5:aJ X aq σ4 H4 {s4 with heap:=h' }:=I4.turned (t':=s4.toks) (λb o hb e=>(sb.2 b hb).trans e) f0 f1 f3 f4 f5;obtain⟨o5,e5,c5,d5⟩:=id st';have ho5:h'.get? a=some Jw:=(sb.2 a (ie nia)).trans ho4;refine fo hp (DN (s:={s4 with heap:=h' }) e5 c5 d5 vS ?_);have I5':=I5.pinned (stat Qj) (λb hb=>by
   rcases bb.mp hb with z|z;.rw[z];exact⟨o5,e5,λv z=>by rw[d5]at z;cases z⟩
   .rw[ap.mp z];exact⟨Jw,ho5,λv z=>by rw[<-hob]at z;cases z⟩)
  refine fo hp (bH (Wu Y I5' (t:=tk) (c:=c) (p1:=p1)) λ_ s6 zz=>?_);obtain⟨I6,ex6,t6⟩:=zz;refine fo hp (pC (fm (Zx Y hx0 hl1 hs1 hs2 hrest I6 ex6 k0 (show tk<s6.toks from bq (bq k1 tk4) t6) hq) (λf s7 q7 ht7=>?_) λ_ _ z _=>z));cases f with
  | next=>
   obtain⟨σ7,H7,I7,n7⟩:=q7;have pn:∀b o,b∈fp->h'.get? b=some o->s7.heap.get? b=some o/\H7 b=none:=λb o hb e=>by have:=I7.pin (b,o) (dq _ (dq _ (nZ hb e)));exact⟨this.1,this.2.1⟩
   have mi:s3.heap.objs.size∈fp:=a6;have ma:a∈fp:=aI _ (ap.mpr rfl);refine⟨k,by simp_all,vE,σ7,H7,I7.nA,?_,(pn a Jw ma ho5).1,λb hb=>?_,a9 tk4 (a9 t6 ht7),hnx _ _ n7⟩
   .have e2:2-k=2-n+1:=eQ vE;rw[e2];exact st'.at λo e=>(pn _ o mi e).1
   .rcases bb.mp hb with z|z;.rw[z];exact(pn _ o5 mi e5).2
    .rw[ap.mp z];exact(pn a Jw ma ho5).2
  | cont=>obtain⟨_,_,_,z⟩:=q7;exact z.elim
  | brk=>obtain⟨_,_,_,z⟩:=q7;exact z.elim
  | ret v=>obtain⟨x7,σ7,H7,I7,r7,q7⟩:=q7;exact⟨x7,σ7,H7,I7.nA,r7,hrt ▸ q7⟩
 rcases(show n=0\/n=1\/n=2 by lia) with e|e|e
 .subst e;refine fo hp (wpAny_pyNext_tuple_end (I4.ok.hd hcm) eE (hT _ ho4) vF λh' eb=>?_);exact im ⟨σ4,H4,I4.turned (t':=s4.toks) (λb o hb e=>eb b o hb e) f0 f1 f3 f4 f5,q4⟩
 .subst e;exact one 0 c2 tk2 D rfl vF b0 b1 rfl (λ_ _ z=>z) q4
 .subst e;exact one 1 c1 tk1 {nx:=uZ ir is it il tb c2 D,rt:=D.rt} rfl vF a0 a2 rfl (λ_ _ z=>z) q4
open Classical in
def aeH (hu:X.A.units+64<cLine):eX X (compareOp .In) (aee X.K false):=by intro aq s σ H x y v u Q I rx ry h;obtain⟨n,d,es,hn,hd,he,q⟩:=h;obtain⟨as,ra⟩:=hd.reads I rx;obtain⟨bs,rb⟩:=he.reads I ry;have l1:=hd.lay;have l2:=he.lay;rw[toP]at rb;simp only[toP,PyData.canLay0,PyData.depth]at l2;refine SeqAt.in_tuple_reads rb ra l2.1 l1.1 (by have:=ul (PyData.depthAll (dZ es)) (toP d).depth;lia) ⟨.bl _,H,I,rfl,?_⟩;rw[GC];exact q
def ab4 {X:Cx}(K:W.Frag)(hu:X.A.units+64<cLine)(h:X.K=K:=by rfl):eX X (compareOp .In) (aee K false):=by subst h;exact aeH hu
end
def Zz (K:W.Frag)(a:Addr):It:=⟨λi H=>∃xs x,aQ K H a xs/\xs[i]?=some x,λi H v H'=>∃T y,H T=none/\v=.ref T/\(∀xs,aQ K H a xs->xs[i]?=some y)/\H'=upd H T (.tup [.int i,y]),λi H=>∃xs,aQ K H a xs/\xs.length<=i⟩
def Tq {P:Program}{w:World}{K:W.Frag}{elts:List Expr}{x1}{pos:Pos}(a it e:Addr):Turn P w K (.Tuple elts x1 pos) (Zz K a) [e,it] e (λi h=>(e≠it/\a≠e/\a≠it)/\(∃old,IsEnum h e it i old)/\h.IsListIter it a i) where
 mem:=by simp
 obj:=λi h st b hb=>by
  obtain⟨_,⟨old,he⟩,o,ho,_,hd⟩:=st;rcases bb.mp hb with z|z;.exact⟨_,by rw[z];exact he,λv y=>by cases y⟩
  .exact⟨o,by rw[ap.mp z];exact ho,λv y=>by rw[hd]at y;cases y⟩
 keep:=λi h h' st k=>by obtain⟨n,⟨old,he⟩,o,ho,r⟩:=st;exact⟨n,⟨old,k e vF _ he⟩,o,k it vF o ho,r⟩
 item:=by
  intro X hP hw hK hc i aq s σ H E I hf st hg;subst hP hw hK;obtain⟨⟨ne,Lg,Lh⟩,⟨old,he⟩,hs⟩:=st;obtain⟨xs,x,hq,hx⟩:=hg;obtain⟨its,rv,p,hz⟩:=I.list hq;obtain⟨v,hv,ru⟩:=rv.get hx;have hh:X.A.in1.handled=none:=by simp[I.ok.hd hc]
  have hit:i<its.toArray.size:=by have:=(ai.mp hv).1;simpa using this
  have hpa:s.heap.IsList a its.toArray:=p.isList;refine pE (Draws.list hh it a Lh its.toArray) he ⟨hs,hpa⟩ hit ne (by simp[ne,Lg.symm]) λy h' tk hP ho hs' hT hsz hk=>?_;refine⟨_,rfl,nS ho λh2 he2 hs2=>?_⟩;obtain⟨⟨o,ho2,r2⟩,_⟩:=hs';obtain⟨oi,hoi,_⟩:=id hs;have ey:y=v:=by
   have h1:its[i]?=some y:=by simpa using hP
   rw[hv]at h1;exact(ax h1).symm
  subst ey;obtain⟨I3,fr⟩:=aJ.pair (x:=x) I hf (a7 he) (a7 hoi) ru hT hk hs2;refine⟨.ref s.heap.objs.size,_,I3,rfl,⟨s.heap.objs.size,x,I.hok.fresh (ag _),rfl,λys hy=>by rw[I.Cp hy hq];exact hx,rfl⟩,⟨⟨ne,Lg,Lh⟩,⟨_,by simpa using he2⟩,o,(hs2.2 it (ie ne)).trans ho2,r2⟩,fr⟩
 done:=by
  intro X hP hw hK hc i aq s σ H E I hf st hg;subst hP hw hK;obtain⟨⟨ne,Lg,Lh⟩,⟨old,he⟩,hs⟩:=st;obtain⟨xs,hq,hx⟩:=hg;obtain⟨its,rv,p,hz⟩:=I.list hq;have hl:=rv.length;have hh:X.A.in1.handled=none:=by simp[I.ok.hd hc]
  obtain⟨f0,f1,f2,f3,f4,f5⟩:=hf it vF;have hT:s.TypeIs (.ref e) "enumerate":=⟨_,he,rfl⟩
  unfold pyNext;refine ab (i8 (eD (name:=Str.ofString "__next__") hT nt (dA nt hT F.entry_enumerate_next ?_ (F.args_enumerate_next_1 _))));show wpAny _ _ (field (.ref e) 2 >>= _) _ _ _;refine ab (f_ he rfl (x:=.ref it) rfl ?_);refine ab (wpAny_nextOf_list_end hh hs (show s.heap.IsList a its.toArray from p.isList) (by simp;simp_all) λh' x he' hx'=>?_);obtain⟨o,ho,hc'⟩:=hx';refine ab (gu (T:="StopIteration") (b:=true) ⟨o,ho,hc'⟩ isSubtype_stop ?_);exact ah ⟨rfl,I.turned (t':=s.toks) (λb o hb e=>he' b o hb e) f0 f1 f3 f4 f5⟩
 self:=λA i s Q E st h=>by obtain⟨_,⟨old,he⟩,_⟩:=st;exact iX he h
section
variable {X:Cx}{elts:List Expr}{x1:Nat}{tp:Pos}
variable {prog:Program}{w:World}{A:Around}{E:AB}{s:Shared}
def aeI (K:W.Frag)(ta:TA):TI:=λσ H R=>ta σ H λvs H1=>∃a,vs=[.ref a]/\(∃xs,aQ K H1 a xs)/\R (Zz K a) H1
def ZC (hg:Gl X "enumerate")(hm:X.mg "enumerate"=none)(ha:QA X [a] ta)(hs:starEach [a] X.env=[(false,eval a X.env)]:=by rfl):QI X (.Tuple elts x1 tp) (.Call (.Name "enumerate" p) [a] [] pos) (aeI X.K ta):=⟨by
 intro aq s σ H R I h;refine Call_ (nU I hg hm boot_enumerate (f8 (bH (ha.out pos aq s σ H _ I h) λus s1 zz=>?_) hs rfl));obtain⟨vs,H1,I1,r1,q1⟩:=zz;obtain⟨a,e,⟨xs,hq⟩,q⟩:=q1;subst e;cases r1 with
 | cons r rr=>
  cases rr;cases r;obtain⟨its,rv,pp,hz⟩:=I1.list hq;have hlt:a<s1.heap.objs.size:=by
   obtain⟨o,ho,_⟩:=(show s1.heap.IsList a its.toArray from pp.isList)
   exact a7 ho
  refine call_enumerate_list (show s1.heap.IsList a its.toArray from pp.isList) λh' he hit hsz hk=>iX he ?_;refine⟨s1.heap.objs.size+1,[s1.heap.objs.size+1,s1.heap.objs.size],_,_,H1,rfl,I1.kept (t':=s1.toks) hk,Tq a s1.heap.objs.size _,⟨⟨rc _,be (eK hlt),be hlt⟩,⟨_,he⟩,hit⟩,λb hb=>?_,q⟩;rcases bb.mp hb with z|z
  .rw[z];exact I1.mC (fA _) (I1.hok.fresh (fA _))
  .rw[ap.mp z];exact I1.mC (ag _) (I1.hok.fresh (ag _))⟩
def J3 (x k):checkTypeCall "enumerate" ⟨[x],[(Str.ofString "start",k)]⟩=pure ():=by kernel_rfl
def Mw (x k):checkBuiltinCall "enumerate.__new__" ⟨[.type "enumerate",x],[(Str.ofString "start",k)]⟩=pure ():=by kernel_rfl
def J4 (o x k):argsOk "object.__init__" ⟨[o,x],[(Str.ofString "start",k)]⟩:=by first|exact .of_eq v0|exact v0|trivial
def af9 (x:Str)(t:Tok)(k:Nat)(tk:Tok)(hk:k<1000):Meets (Builtin.«enumerate.__new__» ⟨[.type "enumerate",.str x t],[(Str.ofString "start",.int (k:Int) tk)]⟩) (λ_ R s=>
   R (.ok (.ret (.ref (s.heap.push {cls:=.type (strIterType x),data:=.fields #[.str x t,.int 0 0]}).objs.size)))
    {s with heap:=(s.heap.push {cls:=.type (strIterType x),data:=.fields #[.str x t,.int 0 0]}).push {cls:=.type "enumerate",data:=.fields #[.none,.bool false,.ref s.heap.objs.size,rawInt k,.none,.none]} }):=
 .of_wp λprog w A R s h=>by
  obtain⟨hp,g,d,tk0,os⟩:=s;have hsub:=sub_enumerate;have hfit:Builtin.SmallTypes.fitsIndex (k:Int)=true:=by unfold Builtin.SmallTypes.fitsIndex;simp only[dS,mS];lia
  have e1:Builtin.SmallTypes.indexObject "enumerate.__new__" (Value.int (k:Int) tk)=pure (Value.int (k:Int) tk):=by kernel_rfl
  have e2:asInt? (Value.int (k:Int) tk)=pure (some (k:Int)):=by kernel_rfl
  wp_walk
  refine wpAny_stack_any λst=>ah ?_
  split
  .rename_i c _ _ _ _ _;cases(c==Value.type "enumerate")
   .dsimp only;simp only[bd,if_false,if_true];refine ab ?_;refine mM (a:=(Value.str x t,some (Value.int (k:Int) tk))) ?e ?_
    (case e=>kernel_rfl)
    simp only[e1,pure_bind,e2,hfit,eB,bd,if_false]
    wp_walk using mP
    exact⟨_,rfl,h⟩
   .dsimp only;simp only[bd,if_false,if_true];refine ab ?_;refine mM (a:=(Value.str x t,some (Value.int (k:Int) tk))) ?e ?_
    (case e=>kernel_rfl)
    simp only[e1,pure_bind,e2,hfit,eB,bd,if_false]
    wp_walk using mP
    exact⟨_,rfl,h⟩
  .dsimp only;simp only[bd,if_false,if_true];refine ab ?_;refine mM (a:=(Value.str x t,some (Value.int (k:Int) tk))) ?e ?_
   (case e=>kernel_rfl)
   simp only[e1,pure_bind,e2,hfit,eB,bd,if_false]
   wp_walk using mP
   exact⟨_,rfl,h⟩
def Hf (hl:typeLookup (.type T) "__init__"=pure (some (.builtin "object.__init__")))(hm:Bind.madeBy (.type T)=pure (some newId))(hne:(some newId != some "object.__new__")=true):Meets (Builtin.«object.__init__» ⟨[self,a],kw⟩) (λ_ R s=>s.TypeIs self T/\R (.ok (.ret .none)) s):=by
 refine Meets.of_wp λprog w A R s hs=>?_;obtain⟨hT,hq⟩:=hs
 repeat (any_goals (first|assumption|wp_step))
 exact⟨_,rfl,hq⟩
def O6 {T newId initId:String}{Bn Bi:Builtin}{kw:List (Str×Value)}{S:PySem.Spec}{Q Q₁:AB}(ft:TypeCalled T newId initId)(hct:checkTypeCall T ⟨args,kw⟩=pure ())(hcn:checkBuiltinCall newId ⟨.type T::args,kw⟩=pure ())(entryN:entryFor table newId=some Bn)(entryI:entryFor table initId=some Bi)(g:Meets (Bn ⟨.type T::args,kw⟩) S)(h:S A.in1 (wants Q₁ E) s)(hnext:∀obj s₁,Q₁ obj s₁->s₁.TypeIs obj T/\argsOk initId ⟨obj::args,kw⟩/\∃Si,Meets (Bi ⟨obj::args,kw⟩) Si/\Si A.in1 (wants (λr s₂=>r=.none/\Q obj s₂) E) s₁):wpAny (model prog w) A (call (.type T) args kw) Q E s:=by
 obtain⟨c,tl,hmro⟩:=ft.mro;have hmade:=ft.made;have hsub:=ft.sub;refine t7 (codeAny_of_tree ?_);show wpAny _ _ (callAny (.type T) _) _ _ _;refine ah ⟨Code.quiet_builtin _ v_,kD F.entry_type_call ?_⟩;rw[Around.under_plain (weight_type_call_type T args kw) (units_type_call_type T args kw)];have h1:=ft.notType;have h2:=ft.canCreate
 repeat (any_goals (first|assumption|wp_step))
 refine io (sn ft.plain entryN (mM hcn (g prog w A.in1 _ s h))) λr s₁ hr=>?_;cases r with
 | error e=>exact hr
 | ok fl=>
  cases fl with
  | ret obj=>
   obtain⟨hT,hok,Si,gi,hsi⟩:=hnext _ _ hr;have hli:=ft.init.lookup;have hbi:=ft.init.bind obj
   repeat (any_goals (first|assumption|wp_step))
   refine io (sn ft.init.plain entryI (ft.init.check _ _ _ _ _ _ _ _ hT hok (gi prog w A.in1 _ s₁ hsi))) λr₂ s₂ hr₂=>?_;cases r₂ with
   | error e=>exact hr₂
   | ok fl₂=>
    cases fl₂ with
    | ret r=>
     obtain⟨rfl,hq⟩:=hr₂
     repeat (any_goals (first|assumption|wp_step))
    | _=>exact hr₂.elim
  | _=>exact hr.elim
def O7 {x:Str}{t tk:Tok}{k:Nat}(hk:k<1000){Q:AB}(h:∀h',IsEnum h' (s.heap.objs.size+1) s.heap.objs.size k .none->h'.IsStrIter s.heap.objs.size (strIterType x) x t 0->h'.objs.size=s.heap.objs.size+2->
   (∀b o,s.heap.get? b=some o->h'.get? b=some o)->Q (.ref (s.heap.objs.size+1)) {s with heap:=h' }) :
  wpAny (model prog w) A (call (.type "enumerate") [.str x t] [(Str.ofString "start",.int (k:Int) tk)]) Q E s:=by
 refine O6 (Q₁:=λobj s₁=>s₁.TypeIs obj "enumerate"/\Q obj s₁) oz (J3 _ _) (Mw _ _) F.entry_enumerate_new F.entry_object_init (af9 x t k tk hk) ?_
  λobj _ hq=>⟨hq.1,J4 obj _ _,_,Hf oz.init.lookup oz.made vS,hq.1,rfl,hq.2⟩
 have hz:(s.heap.push {cls:=.type (strIterType x),data:=.fields #[.str x t,.int 0 0]}).objs.size=s.heap.objs.size+1:=ef ..;show _/\_;rw[hz];have he:IsEnum ((s.heap.push {cls:=.type (strIterType x),data:=.fields #[.str x t,.int 0 0]}).push
   {cls:=.type "enumerate",data:=.fields #[.none,.bool false,.ref s.heap.objs.size,rawInt k,.none,.none]}) (s.heap.objs.size+1) s.heap.objs.size k .none:=by
  have:=aS (s.heap.push {cls:=.type (strIterType x),data:=.fields #[.str x t,.int 0 0]})
   (o:={cls:=.type "enumerate",data:=.fields #[.none,.bool false,.ref s.heap.objs.size,rawInt k,.none,.none]}) rfl
  rw[hz]at this;exact this
 refine⟨⟨_,he,rfl⟩,h _ he ⟨_,af _ (aS _ rfl),rfl,rfl⟩ (by rw[ef,hz]) λb o y=>af _ (af _ y)⟩
def Mx {M:Model}{E:AB}{env:Env}{T:String}{e:Expr}{rest:List Expr}{kws:List Keyword}{Q:AB}(h:wpAny M A (spliced (backTo pos (starEach (e::rest) env))) (λvs s₁=>wpAny M A (evalAll ((backToKw pos (keywordEach kws env)).map (·.2)))
   (λkvs s₂=>wpAny M A (call (.type T) vs (((backToKw pos (keywordEach kws env)).filterMap (·.1)).zip kvs)) Q E s₂) E s₁) E s)
  (he:backTo pos (starEach (e::rest) env)=(false,eval e env)::backTo pos (starEach rest env):=by rfl)
  (hplain:(backTo pos (starEach (e::rest) env)).any (·.1)=false:=by rfl)
  (hall:(backToKw pos (keywordEach kws env)).all (·.1.isSome)=true:=by rfl)
  (hkw:(backToKw pos (keywordEach kws env)).any (·.1.isNone)=false:=by rfl) :
  wpAny M A (callWith pos (.type T) [] (backTo pos (starEach (e::rest) env)) (backToKw pos (keywordEach kws env))) Q E s:=by
 unfold callWith;rw[he]at h hplain ⊢;refine ab (eW (fm (evalArgs_kwB (f:=.type T) (Q:=λa s₁=>wpAny M A (call (.type T) ([]++a.pos) a.kw) Q E s₁) hall h) (λa s₁ h₁=>ab (qS ?_)) λ_ _ x=>x));simp only[hplain,hkw,qV];refine ab (ah ?_);exact ab (fm h₁ (λr s₂ hr=>ab (eW (wpAny_point (ah hr)))) λ_ _ x=>x)
end
def aeJ (ta tk:TE):TI:=λσ H R=>ta σ H λx H1=>tk σ H1 λy H2=>∃(l:List Nat) (k:Nat),[x]=[V.str (S l)]/\[y]=[V.int (k:Int)]/\k<1000/\R (zu l k) H2
section
variable {X:Cx}{elts:List Expr}{x1:Nat}{tp:Pos}
def ZD {a e:Expr}{ta tk:TE}{p pos kpos:Pos}(hg:Gl X "enumerate")(hm:X.mg "enumerate"=none)(ha:QE X a ta)(hk:QE X e tk)(hs:starEach [a] X.env=(false,eval a X.env)::starEach [] X.env:=by rfl)(hst:backTo pos (starEach [a] X.env)=(false,eval a X.env)::backTo pos (starEach [] X.env):=by rfl)(hpl:(backTo pos (starEach [a] X.env)).any (·.1)=false:=by rfl)(hall:(backToKw pos (keywordEach [⟨some (Str.ofString "start"),e,kpos⟩] X.env)).all (·.1.isSome)=true:=by rfl)(hkw:(backToKw pos (keywordEach [⟨some (Str.ofString "start"),e,kpos⟩] X.env)).any (·.1.isNone)=false:=by rfl)(hks:(backToKw pos (keywordEach [⟨some (Str.ofString "start"),e,kpos⟩] X.env)).filterMap (·.1)=[Str.ofString "start"]:=by rfl):QI X (.Tuple elts x1 tp) (.Call (.Name "enumerate" p) [a] [⟨some (Str.ofString "start"),e,kpos⟩] pos) (aeJ ta tk):=⟨by
 intro aq s σ H R I h;refine km (nU I hg hm boot_enumerate ?_ vS vS);have pa:=(ak ha aA hs).out;have pk:=abo (nm:=some (Str.ofString "start")) (kpos:=kpos) hk.out adD;refine Mx (bH (pa pos aq s σ H (λvs H1=>tk σ H1 λy H2=>∃(l:List Nat) (k:Nat),vs=[V.str (S l)]/\[y]=[V.int (k:Int)]/\k<1000/\R (zu l k) H2) I ?_) λus s1 ⟨vs,H1,I1,r1,q1⟩=>?_) hst hpl hall hkw;.exact h
 .refine bH (pk pos aq s1 σ H1 (λzs H2=>∃(l:List Nat) (k:Nat),vs=[V.str (S l)]/\zs=[V.int (k:Int)]/\k<1000/\R (zu l k) H2) I1 ?_) λws s2 ⟨zs,H2,I2,rz,q2⟩=>?_
  .exact q1
  .obtain⟨l,k,rfl,rfl,hk1,q⟩:=q2;obtain⟨u,rfl,t,rfl⟩:=vals1 r1;obtain⟨u2,rfl,t2,rfl⟩:=vals1 rz;rw[hks];have hty:strIterType (S l)="str_ascii_iterator"\/strIterType (S l)="str_iterator":=by unfold strIterType;split <;> simp
   refine O7 hk1 λh' he hit hsz hk=>iX he ?_;refine⟨s2.heap.objs.size+1,[s2.heap.objs.size+1,s2.heap.objs.size],_,_,H2,rfl,I2.kept (t':=s2.toks) hk,El hty l k t s2.heap.objs.size _,⟨rc _,cw _,⟨_,he⟩,hit⟩,λb hb=>?_,q⟩;rcases bb.mp hb with z|z
   .rw[z];exact I2.mC (fA _) (I2.hok.fresh (fA _))
   .rw[ap.mp z];exact I2.mC (ag _) (I2.hok.fresh (ag _))⟩
end
def Wv {l:List Nat}{k:Nat}{g:TG}{tb:TS}{D:Ends}{σ:St}{H:Hp}(Pv:Nat->St->Hp->Prop)(h0:Pv 0 σ H)(hs:∀i c σ H T,l[i]?=some c->Pv i σ H->H T=none->g (.ref T) σ (upd H T (.tup [.int ((k+i:Nat):Int),.str (S [c])])) λσ2 H2=>tb {D with nx:=Pv (i+1),ct:=Pv (i+1),bk:=D.nx} σ2 H2)(hd:∀σ H,Pv l.length σ H->D.nx σ H):yL (zu l k) g tb D σ H:=Gr l.length Pv h0 (λi σ H h p=>⟨h,λx H' y=>by obtain⟨T,c,hT,rfl,hc,rfl⟩:=y;exact hs i c σ _ T hc p hT⟩) λσ H p=>⟨ag _,hd σ H p⟩
end L2
namespace L2
open PySem PySem.Spec PyProof.Rows PySem.W
section
variable {prog:Program}{w:World}{A:Around}{E:AB}{s:Shared}{z ti to u v a:Addr}{i:Nat}{f:Array Value}{x y m n:Value}
def Ww {nv:Nat}{PV:Nat->Value->Prop}{SV:Nat->Heap->Prop}(DV:Draws prog w A v [v] nv PV SV){Q:AB}(D:ZA z ti to u v a a)(hz:IsZip s.heap z ti to .none)(hi:IsPair s.heap ti (.ref u) (.ref v))(ho:IsPair s.heap to m n)(hu:s.heap.IsListIter u a i)(hv:SV i s.heap)(ha:s.heap.IsList a f)(hx:f[i]?=some x)(hlt:i<nv)(q:∀y h' tk,PV i y->IsZip h' z ti to (rawInt s.heap.objs.size)->IsPair h' to x y->h'.IsListIter u a (i+1)->SV (i+1) h'->IsPair h' s.heap.objs.size x y->
   (∀c o,c≠z->c≠to->c≠u->c≠v->s.heap.get? c=some o->h'.get? c=some o)->Q (.ref s.heap.objs.size) {s with heap:=h',toks:=tk}) :
  wpAny (model prog w) A (Builtin.«zip.__next__» ⟨[.ref z],[]⟩) (λfin s'=>∃r,fin=.done (.ret r)/\Q r s') E s:=by
 show wpAny _ _ (field (.ref z) 2 >>= _) _ _ _;refine ab (f_ hz rfl (x:=.bool false) rfl ?_);show wpAny _ _ (field (.ref z) 3 >>= _) _ _ _;refine ab (f_ hz rfl (x:=.ref ti) rfl (ab (fN hi rfl ?_)));show wpAny _ _ (Builtin.SmallTypes.ownedTupleIsFree (.ref z) >>= _) _ _ _;refine ab ?_;unfold Builtin.SmallTypes.ownedTupleIsFree;refine ab (f_ hz rfl (x:=.none) rfl (ah ?_));simp only[if_true];refine ab (ge (ab (f_ hz rfl (x:=.ref to) rfl (ab (mI hz vF λg1 z1 k1=>?_)))));replace z1:IsZip g1 z ti to .ellipsis:=z1;refine ab ?_;simp only[uB,List.zipIdx_nil,iq,List.forIn_nil];refine ab (ab (wpAny_onRaise ?_));show wpAny _ _ (Builtin.SmallTypes.nextOf (.ref u) >>= _) _ _ _;refine ab (wpAny_nextOf_list_item (hu.at λo e=>k1.extBut _ o D.q3 e) (Heap.IsList.at ha λo e=>k1.extBut _ o D.p2 e) hx λg2 u2 k2=>ah ?_);have o2:IsPair g2 to m n:=k2.extBut _ _ D.q8 (k1.extBut _ _ D.q2 ho);refine ab (fN o2 rfl (ab (wpAny_updateSeq_pair o2 λg3 o3 k3=>?_)));replace o3:IsPair g3 to x n:=o3;refine ab (wpAny_letGo (ah ?_));refine ab (ab (wpAny_onRaise ?_));show wpAny _ _ (Builtin.SmallTypes.nextOf (.ref v) >>= _) _ _ _;refine ab (DV.item i _ _ _ hlt (DV.frame _ _ _ hv λc hc o e=>by rw[ap.mp hc]at e ⊢;exact k3.extBut _ o D.q9.symm (k2.extBut _ o D.p1.symm (k1.extBut _ o D.q4 e))) λy g4 tk hpy v4 k4=>ah ?_);have o4:IsPair g4 to x n:=k4.extBut _ _ D.q9 o3;refine ab (fN o4 rfl (ab (wpAny_updateSeq_pair o4 λg5 o5 k5=>?_)));replace o5:IsPair g5 to x y:=o5;refine ab (wpAny_letGo (ah (ah ?_)));refine ab (fN o5 rfl (ab (wpAny_newTuple ?_)));have sz:g5.objs.size=s.heap.objs.size:=by rw[k5.1,k4.1,k3.1,k2.1,k1.1]
 have z5:IsZip g5 z ti to .ellipsis:=k5.extBut _ _ D.q2.symm (k4.extBut _ _ D.q4.symm (k3.extBut _ _ D.q2.symm (k2.extBut _ _ D.q3.symm z1)));have kk:∀c o,c≠z->c≠to->c≠u->c≠v->s.heap.get? c=some o->g5.get? c=some o:=λc o c1 c2 c3 c4 e=>k5.extBut _ _ c2 (k4.extBut _ _ c4 (k3.extBut _ _ c2 (k2.extBut _ _ c3 (k1.extBut _ _ c1 e))));have u5:g5.IsListIter u a (i+1):=u2.at λo e=>k5.extBut _ o D.q8.symm (k4.extBut _ o D.p1 (k3.extBut _ o D.q8.symm e));have v5:SV (i+1) g5:=DV.frame _ _ _ v4 λc hc o e=>by rw[ap.mp hc]at e ⊢;exact k5.extBut _ o D.q9.symm e
 have lz:z<g5.objs.size:=a7 z5;show wpAny _ _ (Builtin.SmallTypes.ownedTupleHandOut (.ref z) (.ref g5.objs.size) >>= _) _ _ _;refine ab ?_;unfold Builtin.SmallTypes.ownedTupleHandOut;have z6:IsZip (g5.push {cls:=.type "tuple",data:=.seq #[x,y]}) z ti to .ellipsis:=af _ z5;refine ab (mI z6 vF λg7 z7 k7=>?_);replace z7:IsZip g7 z ti to (rawInt g5.objs.size):=z7;refine mI z7 vF λg8 z8 k8=>?_
 replace z8:IsZip g8 z ti to (rawInt g5.objs.size):=z8;have up:∀c o,c≠z->g5.get? c=some o->g8.get? c=some o:=λc o c1 e=>k8.extBut _ _ c1 (k7.extBut _ _ c1 (af _ e));have t8:IsPair g8 g5.objs.size x y:=k8.extBut _ _ (ki lz) (k7.extBut _ _ (ki lz) (aS _ rfl));rw[sz]at z8 t8;refine ah ⟨_,rfl,?_⟩;show Q (.ref g5.objs.size) _;rw[sz];exact q y g8 tk hpy z8 (up _ _ D.q2 o5) (u5.at λo e=>up _ o D.q3 e) (DV.frame _ _ _ v5 λc hc o e=>by rw[ap.mp hc]at e ⊢;exact up _ o D.q4 e) t8 λc o c1 c2 c3 c4 e=>up c o c1 (kk c o c1 c2 c3 c4 e)
def ZF (hh:A.handled=none)(D:ZA z ti to u v a a)(hz:IsZip s.heap z ti to .none)(hi:IsPair s.heap ti (.ref u) (.ref v))(hu:s.heap.IsListIter u a i)(ha:s.heap.IsList a f)(hx:f[i]?=none)(q:∀h' e,(∀c o,c≠z->c≠to->c≠u->c≠v->s.heap.get? c=some o->h'.get? c=some o)->(∃o,h'.get? e=some o/\o.cls=.type "StopIteration")->E (.ref e) {s with heap:=h' }):wpAny (model prog w) A (Builtin.«zip.__next__» ⟨[.ref z],[]⟩) Q E s:=by
 show wpAny _ _ (field (.ref z) 2 >>= _) _ _ _;refine ab (f_ hz rfl (x:=.bool false) rfl ?_);show wpAny _ _ (field (.ref z) 3 >>= _) _ _ _;refine ab (f_ hz rfl (x:=.ref ti) rfl (ab (fN hi rfl ?_)));show wpAny _ _ (Builtin.SmallTypes.ownedTupleIsFree (.ref z) >>= _) _ _ _;refine ab ?_;unfold Builtin.SmallTypes.ownedTupleIsFree;refine ab (f_ hz rfl (x:=.none) rfl (ah ?_));simp only[if_true];refine ab (ge (ab (f_ hz rfl (x:=.ref to) rfl (ab (mI hz vF λg1 z1 k1=>?_)))));replace z1:IsZip g1 z ti to .ellipsis:=z1;refine ab ?_;simp only[uB,List.zipIdx_nil,iq,List.forIn_nil];refine ab (ab (wpAny_onRaise ?_));show wpAny _ _ (Builtin.SmallTypes.nextOf (.ref u) >>= _) _ _ _;refine ab (wpAny_nextOf_list_end hh (hu.at λo e=>k1.extBut _ o D.q3 e) (Heap.IsList.at ha λo e=>k1.extBut _ o D.p2 e) hx λg2 e k2 he=>?_);obtain⟨oe,e1,e2⟩:=he;have z2:IsZip g2 z ti to .ellipsis:=k2 _ _ D.q3.symm z1;have ez:e≠z:=λt=>by subst t;rw[z2]at e1;cases e1;simp at e2
 exact mI z2 vF λg3 _ k3=>q g3 e (λc o c1 _ c3 _ t=>k3.extBut _ _ c1 (k2 _ _ c3 (k1.extBut _ _ c1 t))) ⟨oe,k3.extBut _ _ ez e1,e2⟩
abbrev zm2 (h:Heap)(a:Addr)(x:Str)(t:Tok):Heap:=(zl1 h a).push {cls:=.type (strIterType x),data:=.fields #[.str x t,.int 0 0]}
abbrev zm3 (h:Heap)(a:Addr)(x:Str)(t:Tok):Heap:=(zm2 h a x t).push {cls:=.type "tuple",data:=.seq #[.ref h.objs.size,.ref (zl1 h a).objs.size]}
abbrev zm4 (h:Heap)(a:Addr)(x:Str)(t:Tok):Heap:=(zm3 h a x t).push {cls:=.type "tuple",data:=.seq #[.none,.none]}
abbrev Q5 (h:Heap)(a:Addr)(x:Str)(t:Tok):Heap:=(zm4 h a x t).push {cls:=.type "zip",data:=.fields #[.none,.bool false,.bool false,.ref (zm2 h a x t).objs.size,.ref (zm3 h a x t).objs.size]}
def ab5 (a)(x)(t:Tok)(f):Meets (Builtin.«zip.__new__» ⟨[.type "zip",.ref a,.str x t],[]⟩) (λ_ R s=>s.heap.IsList a f/\R (.ok (.ret (.ref (zm4 s.heap a x t).objs.size))) {s with heap:=Q5 s.heap a x t}):=
 .of_wp λprog w A R s h=>by
  obtain⟨hp,gs,d,tk,os⟩:=s;obtain⟨h1,h⟩:=h;have hsub:=sub_zip;have j1:Heap.IsList (Shared.heap ⟨hp,gs,d,tk,os⟩) a f:=h1
  wp_walk using kH j1,mP
  exact⟨_,rfl,h⟩
def agI {x:Str}(ha:s.heap.IsList a f)(q:∀h',IsZip h' (s.heap.objs.size+4) (s.heap.objs.size+2) (s.heap.objs.size+3) .none->IsPair h' (s.heap.objs.size+2) (.ref s.heap.objs.size) (.ref (s.heap.objs.size+1))->IsPair h' (s.heap.objs.size+3) .none .none->
   h'.IsListIter s.heap.objs.size a 0->h'.IsStrIter (s.heap.objs.size+1) (strIterType x) x t 0->(∀c o,s.heap.get? c=some o->h'.get? c=some o)->Q (.ref (s.heap.objs.size+4)) {s with heap:=h' }) :
  wpAny (model prog w) A (call (.type "zip") [.ref a,.str x t]) Q E s:=by
 refine callType_new F.called_zip vS (F.typeCall_zip_2 _ _) (F.newCall_zip_2 _ _) (λobj=>F.args_object_init_3 obj _ _) F.entry_zip_new (ab5 a x t f) ⟨ha,?_⟩;have n1:(zl1 s.heap a).objs.size=s.heap.objs.size+1:=ef ..;have n2:(zm2 s.heap a x t).objs.size=s.heap.objs.size+2:=by rw[ef,n1]
 have n3:(zm3 s.heap a x t).objs.size=s.heap.objs.size+3:=by rw[ef,n2]
 have n4:(zm4 s.heap a x t).objs.size=s.heap.objs.size+4:=by rw[ef,n3]
 have e5:(Q5 s.heap a x t).get? (zm4 s.heap a x t).objs.size=some _:=aS _ rfl;have e4:(Q5 s.heap a x t).get? (zm3 s.heap a x t).objs.size=some _:=af _ (aS _ rfl);have e3:(Q5 s.heap a x t).get? (zm2 s.heap a x t).objs.size=some _:=af _ (af _ (aS _ rfl));have e2:(Q5 s.heap a x t).get? (zl1 s.heap a).objs.size=some _:=af _ (af _ (af _ (aS _ rfl)));have e1:(Q5 s.heap a x t).get? s.heap.objs.size=some _:=af _ (af _ (af _ (af _ (aS _ rfl))));show _/\_;rw[n2,n3,n4]at e5;rw[n1,n2]at e3;rw[n3]at e4;rw[n1]at e2;rw[n4];exact⟨⟨_,e5,rfl⟩,q _ e5 e3 e4 ⟨_,e1,rfl,rfl⟩ ⟨_,e2,rfl,rfl⟩ λc o t=>af _ (af _ (af _ (af _ (af _ t))))⟩
end
def Tr (K:W.Frag)(a:Addr)(l:List Nat):It:=⟨λi H=>∃xs x,aQ K H a xs/\xs[i]?=some x/\i<l.length,λi H t H'=>∃T x c,H T=none/\t=.ref T/\(∀xs,aQ K H a xs->xs[i]?=some x)/\l[i]?=some c/\H'=upd H T (.tup [x,.str (S [c])]),λi H=>∃xs,aQ K H a xs/\xs.length<=i⟩
def Wx {P:Program}{w:World}{K:W.Frag}{elts:List Expr}{x1:Nat}{pos:Pos}{z ti to u v a:Addr}{ty:String}(hty:ty="str_ascii_iterator"\/ty="str_iterator")(l:List Nat)(t:Tok)(D:ZA z ti to u v a a):Turn P w K (.Tuple elts x1 pos) (Tr K a l) [z,ti,to,u,v] z (λi h=>IsZip h z ti to .none/\IsPair h ti (.ref u) (.ref v)/\(∃m n,IsPair h to m n)/\h.IsListIter u a i/\h.IsStrIter v ty (S l) t i) where
 mem:=by simp
 obj:=λi h st c hc=>by
  obtain⟨h1,h2,⟨m,n,h3⟩,⟨o4,h4,_,d4⟩,⟨o5,h5,_,d5⟩⟩:=st;simp only[bb,gv,or_false]at hc;rcases hc with e|e|e|e|e <;> subst e
  .exact⟨_,h1,λv y=>by cases y⟩
  .exact⟨_,h2,λv y=>by cases y⟩
  .exact⟨_,h3,λv y=>by cases y⟩
  .exact⟨o4,h4,λv y=>by rw[d4]at y;cases y⟩
  .exact⟨o5,h5,λv y=>by rw[d5]at y;cases y⟩
 keep:=λi h h' st k=>by obtain⟨h1,h2,⟨m,n,h3⟩,h4,o,h5,r⟩:=st;exact⟨k z vF _ h1,k ti vF _ h2,⟨m,n,k to vF _ h3⟩,h4.at λo e=>k u vF o e,o,k v vF o h5,r⟩
 item:=by
  intro X hP hw hK hc i aq s σ H E I hf st hg;subst hP hw hK;obtain⟨h1,h2,⟨m,n,h3⟩,h4,h5⟩:=st;obtain⟨xs,x,hxs,hx,hil⟩:=hg;obtain⟨fs,rf,pf,_⟩:=I.list hxs;obtain⟨p,ep,rp⟩:=rf.get hx;have lt:∀c∈[z,ti,to,u,v],c<s.heap.objs.size:=λc hc=>by
   simp only[bb,gv,or_false]at hc;rcases hc with e|e|e|e|e <;> subst e
   .exact a7 h1
   .exact a7 h2
   .exact a7 h3
   .obtain⟨o,e,_⟩:=h4;exact a7 e
   .obtain⟨o,e,_⟩:=h5;exact a7 e
  have hT:s.TypeIs (.ref z) "zip":=⟨_,h1,rfl⟩
  have hh:X.A.in1.handled=none:=by simp[I.ok.hd hc]
  have fin:∀(DV:Draws X.prog X.w X.A.in1 v [v] (S l).cps.size (λi w=>∃c u,(S l).cps[i]?=some c/\w=.str ⟨#[c]⟩ u) (λi h=>h.IsStrIter v ty (S l) t i)),
    wpAny (model X.prog X.w) X.A (pyNext (.ref z)) (λr s1=>∃u1,r=some u1/\wpAny (model X.prog X.w) X.A (letOwnedTupleGo (.Tuple elts x1 pos) (.ref z) u1) (λ_ s2=>∃x H',aJ X aq σ H' s2/\bJ x u1/\(Tr X.K a l).Ij i H x H'/\(IsZip s2.heap z ti to .none/\IsPair s2.heap ti (.ref u) (.ref v)/\(∃m n,IsPair s2.heap to m n)/\s2.heap.IsListIter u a (i+1)/\s2.heap.IsStrIter v ty (S l) t (i+1))/\∀b∈[z,ti,to,u,v],H' b=none) E s1) E s:=by
   intro DV;unfold pyNext;refine ab (i8 (eD (name:=Str.ofString "__next__") hT sq (dA sq hT F.entry_zip_next ?_ (F.args_zip_next_1 _))));refine Ww DV D h1 h2 h3 h4 h5 (show s.heap.IsList a fs.toArray from pf.isList) (x:=p) (by simpa using ep) (by simpa [S] using hil) λy h' tk hPy k1 k2 k3 k4 k5 k6=>ah ?_;obtain⟨c,ut,hcl,rfl⟩:=hPy;refine⟨_,rfl,wpAny_letOwnedTupleGo_zip k1 λh2' e2 sb=>?_⟩;have up:∀c o,c∉[z,ti,to,u,v]->s.heap.get? c=some o->h2'.get? c=some o:=λc o hc e=>by simp only[bb,gv,or_false,not_or]at hc;exact sb.extBut _ _ hc.1 (k6 c o hc.1 hc.2.2.1 hc.2.2.2.1 hc.2.2.2.2 e)
   have nz:s.heap.objs.size≠z:=ki (lt z vF);obtain⟨I3,fr⟩:=aJ.afV (y:=.str (S [c])) (tk:=tk) I hf lt rp ⟨ut,rfl⟩ (sb.extBut _ _ nz k5) up;obtain⟨o5,k4,r5⟩:=k4;exact⟨.ref s.heap.objs.size,_,I3,rfl,⟨s.heap.objs.size,x,c,I.hok.fresh (ag _),rfl,λzs hz=>by rw[I.Cp hz hxs];exact hx,by simpa [S] using hcl,rfl⟩,
    ⟨e2,sb.extBut _ _ D.q1 (k6 _ _ D.q1 D.q5 D.q6 D.q7 h2),⟨_,_,sb.extBut _ _ D.q2 k2⟩,k3.at λo e=>sb.extBut _ o D.q3 e,o5,sb.extBut _ _ D.q4 k4,r5⟩,fr⟩
  rcases hty with rfl|rfl;.exact fin (Draws.strAscii hh v (S l) t)
  .exact fin (Draws.strWide hh v (S l) t)
 done:=by
  intro X hP hw hK hc i aq s σ H E I hf st hg;subst hP hw hK;obtain⟨h1,h2,⟨m,n,h3⟩,h4,h5⟩:=st;obtain⟨xs,hxs,hl⟩:=hg;obtain⟨fs,rf,pf,_⟩:=I.list hxs;have bW:=rf.length;have hh:X.A.in1.handled=none:=by simp[I.ok.hd hc]
  have hT:s.TypeIs (.ref z) "zip":=⟨_,h1,rfl⟩
  unfold pyNext;refine ab (i8 (eD (name:=Str.ofString "__next__") hT sq (dA sq hT F.entry_zip_next ?_ (F.args_zip_next_1 _))));refine ZF hh D h1 h2 h4 (show s.heap.IsList a fs.toArray from pf.isList) (by simp;simp_all) λh' e k zz=>?_;obtain⟨o,e1,e2⟩:=zz;refine ab (gu (T:="StopIteration") (b:=true) ⟨o,e1,e2⟩ isSubtype_stop ?_);refine ah ⟨rfl,aJ.GJ (fp:=[z,ti,to,u,v]) (t':=s.toks) I (λc o hc e=>?_) hf⟩;simp only[bb,gv,or_false,not_or]at hc;exact k c o hc.1 hc.2.2.1 hc.2.2.2.1 hc.2.2.2.2 e
 self:=λA i s Q E st h=>wpAny_pyIter_zip st.1 h
section
variable {X:Cx}{elts:List Expr}{x1:Nat}{tp:Pos}
def af_ (K:W.Frag)(ta:TA):TI:=λσ H R=>ta σ H λvs H1=>∃a l,vs=[.ref a,.str (S l)]/\(∃xs,aQ K H1 a xs)/\R (Tr K a l) H1
def ab6 {a b:Expr}{ta:TA}{p pos:Pos}(hg:Gl X "zip")(hm:X.mg "zip"=none)(ha:QA X [a,b] ta)(hs:starEach [a,b] X.env=[(false,eval a X.env),(false,eval b X.env)]:=by rfl)(hs2:starEach [b] X.env=[(false,eval b X.env)]:=by rfl):QI X (.Tuple elts x1 tp) (.Call (.Name "zip" p) [a,b] [] pos) (af_ X.K ta):=⟨by
 intro aq s σ H R I h;refine Call_ (nU I hg hm VJ (f8 (bH (ha.out pos aq s σ H _ I h) λus s1 zz=>?_) (by rw[hs,hs2]) (by rw[hs2];rfl)));obtain⟨vs,H1,I1,r1,q1⟩:=zz;obtain⟨a,l,e,⟨xs,hxs⟩,q⟩:=q1;subst e;cases r1 with
 | cons r rr=>
  cases rr with
  | cons r' rr=>
   cases rr;cases r;obtain⟨t,rfl⟩:=r';obtain⟨fs,rf,pf,_⟩:=I1.list hxs;have la:a<s1.heap.objs.size:=by
    obtain⟨o,ho,_⟩:=(show s1.heap.IsList a fs.toArray from pf.isList)
    exact a7 ho
   have hty:strIterType (S l)="str_ascii_iterator"\/strIterType (S l)="str_iterator":=by unfold strIterType;split <;> simp
   refine agI (show s1.heap.IsList a fs.toArray from pf.isList) λh' k1 k2 k3 k4 k5 kk=>wpAny_pyIter_zip k1 ?_;have D:ZA (s1.heap.objs.size+4) (s1.heap.objs.size+2) (s1.heap.objs.size+3) s1.heap.objs.size (s1.heap.objs.size+1) a a:=by
    have key:∀N a b:Nat,a<N->b<N->ZA (N+4) (N+2) (N+3) N (N+1) a b:=λN a b la lb=>by constructor <;> (show (_:Nat)≠_) <;> lia
    exact key _ _ _ la la
   refine⟨s1.heap.objs.size+4,[s1.heap.objs.size+4,s1.heap.objs.size+2,s1.heap.objs.size+3,s1.heap.objs.size,s1.heap.objs.size+1],_,_,H1,rfl,I1.kept (t':=s1.toks) kk,Wx hty l t D,⟨k1,k2,⟨_,_,k3⟩,k4,k5⟩,λc hc=>?_,q⟩;have hc':s1.heap.objs.size<=c:=by
    simp only[bb,gv,or_false]at hc;have key:∀N c:Nat,(c=N+4\/c=N+2\/c=N+3\/c=N\/c=N+1)->N<=c:=λN c h=>by lia
    exact key _ _ hc
   exact I1.mC hc' (I1.hok.fresh hc')⟩
end
def aeK {K KT:W.Frag}{a:Addr}{xs:List V}{l:List Nat}{f:St->St}{tt:TT}(bW:xs.length=l.length){D:Addr}{te:TE}{σ:St}{H:Hp}{R:Hp->Prop}(Pv:Nat->List V->Hp->Prop)(h0:Pv 0 [] (upd H D (.lst [])))(hl:∀i ys H,i<=xs.length->Pv i ys H->aQ K H a xs)(hs:∀i x c ys H T,xs[i]?=some x->l[i]?=some c->Pv i ys H->H T=none->uy xs.length i D (λv H Q=>∃a p q,v=.ref a/\aU KT H a [p,q]/\Q [some p,some q]) f σ tt te (.ref T) (upd H T (.tup [x,.str (S [c])])) ys (Pv (i+1)))(hd:∀ys H,Pv xs.length ys H->R H):qO (Tr K a l) D H R (BR (λv H Q=>∃a p q,v=.ref a/\aU KT H a [p,q]/\Q [some p,some q]) f σ tt te):=Cv xs.length Pv h0 (λi ys H h p=>⟨⟨xs,xs[i],hl i ys H (ay h) p,by simp[h],bW ▸ h⟩,λx H' y=>by obtain⟨T,x,c,hT,rfl,hx,hc,rfl⟩:=y;exact hs i x c ys H T (hx xs (hl i ys H (ay h) p)) hc p hT⟩) λys H p=>⟨⟨xs,hl _ ys H (ag _) p,ag _⟩,hd ys H p⟩
end L2
def L2.zM {o p q r s t u v w:A->B->C->D->E->F->G->H->I->J->K->L->Prop}(a b c d e f g h i j k l)(O:o a b c d e f g h i j k l)(P:p a b c d e f g h i j k l)(Q:q a b c d e f g h i j k l)(R:r a b c d e f g h i j k l)(S:s a b c d e f g h i j k l)(T:t a b c d e f g h i j k l)(U:u a b c d e f g h i j k l)(V:v a b c d e f g h i j k l)(W:w a b c d e f g h i j k l):∃a b c d e f g h i j k l,o a b c d e f g h i j k l/\p a b c d e f g h i j k l/\q a b c d e f g h i j k l/\r a b c d e f g h i j k l/\s a b c d e f g h i j k l/\t a b c d e f g h i j k l/\u a b c d e f g h i j k l/\v a b c d e f g h i j k l/\w a b c d e f g h i j k l:=⟨a,b,c,d,e,f,g,h,i,j,k,l,O,P,Q,R,S,T,U,V,W⟩
def L2.aj {o p:A->Prop}(a)(O:o a)(P:p a):∃a,o a/\p a:=⟨a,O,P⟩
def L2.aO {o p q:A->Prop}(a)(O:o a)(P:p a)(Q:q a):∃a,o a/\p a/\q a:=⟨a,O,P,Q⟩
def L2.dX {o p q r:A->Prop}(a)(O:o a)(P:p a)(Q:q a)(R:r a):∃a,o a/\p a/\q a/\r a:=⟨a,O,P,Q,R⟩
def L2.cW {o p q r s:A->Prop}(a)(O:o a)(P:p a)(Q:q a)(R:r a)(S:s a):∃a,o a/\p a/\q a/\r a/\s a:=⟨a,O,P,Q,R,S⟩
def L2.aR {o p q:A->B->Prop}(a b)(O:o a b)(P:p a b)(Q:q a b):∃a b,o a b/\p a b/\q a b:=⟨a,b,O,P,Q⟩
def L2.aY {o p q r:A->B->Prop}(a b)(O:o a b)(P:p a b)(Q:q a b)(R:r a b):∃a b,o a b/\p a b/\q a b/\r a b:=⟨a,b,O,P,Q,R⟩
def L2.fY {o p q r s:A->B->Prop}(a b)(O:o a b)(P:p a b)(Q:q a b)(R:r a b)(S:s a b):∃a b,o a b/\p a b/\q a b/\r a b/\s a b:=⟨a,b,O,P,Q,R,S⟩
def L2.dM {o p q r:A->B->C->Prop}(a b c)(O:o a b c)(P:p a b c)(Q:q a b c)(R:r a b c):∃a b c,o a b c/\p a b c/\q a b c/\r a b c:=⟨a,b,c,O,P,Q,R⟩
def L2.ig {o p q r s:A->B->C->Prop}(a b c)(O:o a b c)(P:p a b c)(Q:q a b c)(R:r a b c)(S:s a b c):∃a b c,o a b c/\p a b c/\q a b c/\r a b c/\s a b c:=⟨a,b,c,O,P,Q,R,S⟩
def L2.pZ {o p q r s t u:A->B->C->Prop}(a b c)(O:o a b c)(P:p a b c)(Q:q a b c)(R:r a b c)(S:s a b c)(T:t a b c)(U:u a b c):∃a b c,o a b c/\p a b c/\q a b c/\r a b c/\s a b c/\t a b c/\u a b c:=⟨a,b,c,O,P,Q,R,S,T,U⟩
def L2.bK {o p q r s:A->B->C->D->Prop}(a b c d)(O:o a b c d)(P:p a b c d)(Q:q a b c d)(R:r a b c d)(S:s a b c d):∃a b c d,o a b c d/\p a b c d/\q a b c d/\r a b c d/\s a b c d:=⟨a,b,c,d,O,P,Q,R,S⟩
def L2.jN {o p q r s t:A->B->C->D->Prop}(a b c d)(O:o a b c d)(P:p a b c d)(Q:q a b c d)(R:r a b c d)(S:s a b c d)(T:t a b c d):∃a b c d,o a b c d/\p a b c d/\q a b c d/\r a b c d/\s a b c d/\t a b c d:=⟨a,b,c,d,O,P,Q,R,S,T⟩
def L2.xH {o p q r s t u v:A->B->C->D->Prop}(a b c d)(O:o a b c d)(P:p a b c d)(Q:q a b c d)(R:r a b c d)(S:s a b c d)(T:t a b c d)(U:u a b c d)(V:v a b c d):∃a b c d,o a b c d/\p a b c d/\q a b c d/\r a b c d/\s a b c d/\t a b c d/\u a b c d/\v a b c d:=⟨a,b,c,d,O,P,Q,R,S,T,U,V⟩
def L2.iT {o p q r s t:A->B->C->D->E->Prop}(a b c d e)(O:o a b c d e)(P:p a b c d e)(Q:q a b c d e)(R:r a b c d e)(S:s a b c d e)(T:t a b c d e):∃a b c d e,o a b c d e/\p a b c d e/\q a b c d e/\r a b c d e/\s a b c d e/\t a b c d e:=⟨a,b,c,d,e,O,P,Q,R,S,T⟩
def L2.uF {o p q r s t u:A->B->C->D->E->Prop}(a b c d e)(O:o a b c d e)(P:p a b c d e)(Q:q a b c d e)(R:r a b c d e)(S:s a b c d e)(T:t a b c d e)(U:u a b c d e):∃a b c d e,o a b c d e/\p a b c d e/\q a b c d e/\r a b c d e/\s a b c d e/\t a b c d e/\u a b c d e:=⟨a,b,c,d,e,O,P,Q,R,S,T,U⟩
def L2.rO {o p q:A->B->C->D->E->F->G->Prop}(a b c d e f g)(O:o a b c d e f g)(P:p a b c d e f g)(Q:q a b c d e f g):∃a b c d e f g,o a b c d e f g/\p a b c d e f g/\q a b c d e f g:=⟨a,b,c,d,e,f,g,O,P,Q⟩
namespace L2
open PySem
theorem eS {n:Nat}{P:List Value->Prop}(h:∀a us,us.length=n->P (a::us)):∀us,us.length=n+1->P us
 | a::us,e=>h a us (Nat.succ.inj e)
@[elab_as_elim] theorem e1 {P:List Value->Prop} (h:∀a,P [a]) (us:List Value) (hl:us.length=1):P us:=eS (λa us e=>(by rw[sC e];exact h a)) us hl
@[elab_as_elim] theorem e2 {P:List Value->Prop} (h:∀a b,P [a,b]) (us:List Value) (hl:us.length=2):P us:=eS (λa us e=>e1 (P:=λr=>P (a::r)) (h a) us e) us hl
@[elab_as_elim] theorem e3 {P:List Value->Prop} (h:∀a b c,P [a,b,c]) (us:List Value) (hl:us.length=3):P us:=eS (λa us e=>e2 (P:=λr=>P (a::r)) (h a) us e) us hl
@[elab_as_elim] theorem e4 {P:List Value->Prop} (h:∀a b c d,P [a,b,c,d]) (us:List Value) (hl:us.length=4):P us:=eS (λa us e=>e3 (P:=λr=>P (a::r)) (h a) us e) us hl
@[elab_as_elim] theorem e5 {P:List Value->Prop} (h:∀a b c d e,P [a,b,c,d,e]) (us:List Value) (hl:us.length=5):P us:=eS (λa us e=>e4 (P:=λr=>P (a::r)) (h a) us e) us hl
end L2
namespace My
open PySem L2
def top (i:Nat):Stmt:=PySem.Challenge.pw_letterrack_k45_the_turned_board.main.body.getD i (.Pass ⟨0,0,0,0⟩)
noncomputable abbrev rP:Stmt:=top 6
def O8:aW ["thing"] ["thing"] (aH rP):={}
noncomputable abbrev uG:Stmt:=top 7
def Tt:aW ["thing"] ["thing"] (aH uG):={}
noncomputable abbrev qe:Stmt:=top 8
def Mz:aW ["sign"] ["sign"] (aH qe):={}
noncomputable abbrev uH:Stmt:=top 9
def Tv:aW ["sign"] ["sign"] (aH uH):={}
noncomputable abbrev kE:Stmt:=top 10
def CW:aW ["laying"] ["laying"] (aH kE):={}
noncomputable abbrev rQ:Stmt:=top 15
def qg:aW ["thing","width"] ["thing"] (aH rQ):={}
noncomputable abbrev rR:Stmt:=top 16
def Cd:aW ["thing"] ["thing"] (aH rR):={}
noncomputable abbrev qj:Stmt:=top 17
def zN:aW ["thing"] ["thing"] (aH qj):={}
noncomputable abbrev oH:Stmt:=top 18
def J5:aW ["rows","row","column"] ["rows","row","column"] (aH oH):={}
noncomputable abbrev mV:Stmt:=top 19
def Hg:aW ["rows","thing"] ["rows","thing"] (aH mV):={}
noncomputable abbrev rT:Stmt:=top 20
def O9:aW ["rows","marks","begin"] ["rows","marks","begin"] (aH rT):={}
noncomputable abbrev mW:Stmt:=top 21
def vU:aW ["rows","column"] ["rows","column"] (aH mW):={}
noncomputable abbrev mX:Stmt:=top 22
def vV:aW ["rows"] ["rows"] (aH mX):={}
noncomputable abbrev iH:Stmt:=inClass (top 23) 0
def J6:aW ["self","rows","marks","begin"] ["self","rows","marks","begin"] (aH iH):={}
noncomputable abbrev jO:Stmt:=inClass (top 23) 1
def O_:aW ["self","row","column"] ["self","row","column"] (aH jO):={}
noncomputable abbrev fP:Stmt:=inClass (top 23) 2
def tL:aW ["self"] ["self"] (aH fP):={}
noncomputable abbrev jl:Stmt:=inClass (top 23) 3
def jC:aW ["self","row","column","way","line","place","ahead","signs","first"] ["self","row","column","way"] (aH jl):={}
noncomputable abbrev gk:Stmt:=inClass (top 23) 4
def uI:aW ["self","begin"] ["self"] (aH gk):={}
noncomputable abbrev iI:Stmt:=inClass (top 23) 5
def iZ:aW ["self","laying","lines","row","column","sign"] ["self","laying"] (aH iI):={}
noncomputable abbrev rU:Stmt:=top 26
def Pa:aW ["laying"] ["laying"] (aH rU):={}
noncomputable abbrev ql:Stmt:=top 27
def MF:aW ["laying"] ["laying"] (aH ql):={}
noncomputable abbrev jf:Stmt:=top 28
def j6:aW ["board","row","column","around"] ["board","row","column"] (aH jf):={}
noncomputable abbrev xJ:Stmt:=top 29
def jg:aW ["board","laying","after","way","asked","row","column","words","along","run"] ["board","laying"] (aH xJ):={}
noncomputable abbrev kI:Stmt:=top 32
def iJ:aW ["board","book","row","column","way","run","place","ahead","behind"] ["board","book","row","column","way"] (aH kI):={}
noncomputable abbrev oJ:Stmt:=top 33
def mY:aW ["board","cells","row","signs"] ["board"] (aH oJ):={}
noncomputable abbrev Bh:Stmt:=top 34
def ZG:aW ["board"] ["board"] (aH Bh):={}
noncomputable abbrev xK:Stmt:=top 36
def uJ:aW ["board","word","cells","row"] ["board","word"] (aH xK):={}
noncomputable abbrev jP:Stmt:=top 37
def gW:aW ["board","row","column","word","triples","place","letter","sign"] ["board","row","column","word"] (aH jP):={}
noncomputable abbrev lW:Stmt:=top 38
def kJ:aW ["board","book","fitting","row","column"] ["board","book"] (aH lW):={}
noncomputable abbrev mZ:Stmt:=top 39
def vW:aW ["triples","fitting","joining"] ["triples","fitting","joining"] (aH mZ):={}
noncomputable abbrev jD:Stmt:=top 40
def m7:aW ["letters","rack","texts","sign","tile","left"] ["letters","rack"] (aH jD):={}
noncomputable abbrev oK:Stmt:=top 41
def m8:aW ["triples","rack","cells","layings","signs"] ["triples","rack"] (aH oK):={}
noncomputable abbrev jQ:Stmt:=top 42
def dN:aW ["board","book","rack","fitting","joining","layings","word","row","column","triples"] ["board","book","rack"] (aH jQ):={}
noncomputable abbrev m9:Stmt:=top 43
def pN:aW ["board","book","rack","across","down"] ["board","book","rack"] (aH m9):={}
noncomputable abbrev uK:Stmt:=top 45
def Fe:aW ["text"] ["text"] (aH uK):={}
noncomputable abbrev oM:Stmt:=top 46
def J7:aW ["text"] ["text"] (aH oM):={}
noncomputable abbrev jm:Stmt:=inClass (top 47) 0
def zO:aW ["self","words","word"] ["self","words"] (aH jm):={}
noncomputable abbrev iK:Stmt:=inClass (top 47) 1
def J8:aW ["self"] ["self"] (aH iK):={}
noncomputable abbrev jR:Stmt:=inClass (top 47) 2
def Pb:aW ["self","text"] ["self","text"] (aH jR):={}
noncomputable abbrev rW:Stmt:=top 51
def Pg:aW ["worths","sign"] ["worths","sign"] (aH rW):={}
noncomputable abbrev uL:Stmt:=top 52
def Tw:aW ["word","place"] ["word","place"] (aH uL):={}
noncomputable abbrev m_:Stmt:=top 53
def cN:aW ["board","worths","laying","word","cells","total","times","place","sign","cell","worth","mark"] ["board","worths","laying","word"] (aH m_):={}
noncomputable abbrev rY:Stmt:=top 54
def Ph:aW ["bonus","laying"] ["bonus","laying"] (aH rY):={}
noncomputable abbrev qm:Stmt:=top 55
def zP:aW ["board","worths","bonus","laying","counted"] ["board","worths","bonus","laying"] (aH qm):={}
noncomputable abbrev uM:Stmt:=top 57
def Tz:aW ["_law_script","_law_k"] ["_law_script","_law_k"] (aH uM):={}
noncomputable abbrev Fg:Stmt:=top 58
def ab7:aW ["_law_x"] ["_law_x"] (aH Fg):={}
noncomputable abbrev Bj:Stmt:=top 59
def ZJ:aW ["_law_x"] ["_law_x"] (aH Bj):={}
noncomputable abbrev xM:Stmt:=top 60
def Jx:aW ["_law_script","_law_k","_law_cell"] ["_law_script","_law_k"] (aH xM):={}
noncomputable abbrev xO:Stmt:=top 61
def Jy:aW ["_law_script","_law_k","_law_base","_law_many","_law_left","_law_found","_law_x","_law_j"] ["_law_script","_law_k","_law_base","_law_many"] (aH xO):={}
noncomputable abbrev uN:Stmt:=top 62
def lZ:aW ["_law_script","_law_k","_law_letters_here","_law_row","_law_found","_law_digit"] ["_law_script","_law_k"] (aH uN):={}
noncomputable abbrev Bk:Stmt:=top 63
def pP:aW ["_law_letters_here","_law_script","_law_start","_law_many","_law_found","_law_k","_law_row","_law_size_here"] ["_law_letters_here","_law_script","_law_start","_law_many"] (aH Bk):={}
noncomputable abbrev Fi:Stmt:=top 64
def ab8:aW ["_law_x"] ["_law_x"] (aH Fi):={}
noncomputable abbrev Bl:Stmt:=top 65
def gQ:aW ["_law_letters_here","_law_script","_law_start","_law_x","_law_high","_law_wide","_law_rows","_law_marks","_law_k","_law_row","_law_digit","_law_sign"] ["_law_letters_here","_law_script","_law_start","_law_x"] (aH Bl):={}
noncomputable abbrev Fj:Stmt:=top 66
def nP:aW ["_law_letters_here","_law_script","_law_k","_law_most","_law_row","_law_many","_law_rack_here","_law_digit","_law_tile"] ["_law_letters_here","_law_script","_law_k","_law_most"] (aH Fj):={}
noncomputable abbrev xP:Stmt:=top 67
def Wy:aW ["_law_laying"] ["_law_laying"] (aH xP):={}
noncomputable abbrev Ku:Stmt:=top 68
def jh:aW ["_law_script","_law_some","_law_x","_law_words_here","_law_board_here","_law_rack_here","_law_book","_law_worths","_law_k","_law_letter","_law_bonus","_law_found","_law_about","_law_laying"] ["_law_script"] (aH Ku):={}
section
variable {P:Program}{w:World}{K:W.Frag}{mg:Str->Option Value}{base:Heap}
def Fl (c:Nat):Bool:=decide (97<=c)&&decide (c<=122)
def Jz (c:Nat):Bool:=decide (65<=c)&&decide (c<=90)
def JB (l:List Nat):Bool:=match l with|[c]=>Fl c||Jz c|_=>false
def V6 (a b:Nat):([a]<[b])↔a<b:=by simp[fg]
def Hh (a b:Nat):(!decide ([a]<[b]))=decide (b<=a):=by
 by_cases h:a<b;.rw[aE ((V6 a b).mpr h),am vE];rfl
 .rw[am (λz=>h ((V6 a b).mp z)),aE (lv h)];rfl
def aga (K:W.Frag)(H:Hp)(x:V):Prop:=∃t,n6 K H x t/\W.kitOne K t (.type "str")=some false
def Wz (K:W.Frag):Sp:=λvs H Q _=>(∃x,vs=[x]/\aga K H x/\Q (.bl false) H)\/(∃l,vs=[.str (S l)]/\l.length<=1000/\Q (.bl (JB l)) H)
def TF (D:aK K mg "is_sign" uG ["thing"])(bW:mg "len"=none)(hstr:mg "str"=none)(agJ:mg "isinstance"=none):bF P w K mg base "is_sign" 1 ["thing"] (Wz K):=by
 refine D.cY Tt (λvs H Q E h=>?_) (λf bD A outer s H vs Q E hr h=>?_)
 .rcases h with⟨x,rfl,_⟩|⟨x,rfl,_⟩ <;> rfl
 .refine(aj _ (aG (d7 (QW.qt (wL (jW (gU (bh jY vT agJ fR (ak (qv 0) (ak (sH (v:=.ty "str") vT hstr PyProof.Rows.boot_str rfl) aA)))))
     (sW (bZ DQ (bh d9 vT bW ck (ak (qv 0) aA)) aD (bU _))))) (aL (aX lQ)) cD)
   (aL (aX (Sv (nC qD qD (cG [97] v_) (qv 0) (cG [122] v_))
    (mJ (nC qD qD (cG [65] v_) (qv 0) (cG [90] v_))))))) ?_)
  rcases h with⟨x,rfl,⟨t,ty,hk⟩,q⟩|⟨l,rfl,hl,q⟩;.exact(aj _ rfl ⟨_,_,_,false,rfl,ty,hk,aj _ rfl (cB (cB q))⟩)
  .have hz:l.length<=sizeLine:=ay (aM hl);refine(aj _ rfl ⟨_,_,_,true,rfl,.str _,v0,aj _ rfl (cA (aj _ rfl (dX l rfl hz rfl (aj _ rfl ?_))))⟩);by_cases h1:l.length=1
   .obtain⟨c,rfl⟩:=List.length_eq_one_iff.mp h1;refine Sg rfl ?_;refine(aj _ rfl (aR [97] [c] rfl rfl (aj (decide (97<=c)) (by rw[Hh]) ?_)));have q':Q (.bl (Fl c||Jz c)) H:=q;have tail:(Jz c=(Fl c||Jz c))->yN Y4 Y4 (tC (.str (S [65]))) (eO 0) (tC (.str (S [90]))) [some (.str (S [c]))] H Q:=λe=>by
     refine(aj _ rfl (aR [65] [c] rfl rfl (aj (decide (65<=c)) (by rw[Hh]) ?_)));rw[<-e]at q';by_cases h2:65<=c
     .rw[aE h2];refine cB (aR [c] [90] rfl rfl ?_);rw[Hh];simpa [Jz,h2] using q'
     .rw[am h2];refine cA ?_;simpa [Jz,h2] using q'
    by_cases h2:97<=c
    .rw[aE h2];refine cB (aR [c] [122] rfl rfl (aj _ rfl ?_));rw[Hh];by_cases h3:c<=122
     .rw[aE h3];refine cB ?_;simpa [Fl,h2,h3] using q'
     .rw[am h3];exact cA (tail (by simp[Fl,h2,h3]))
    .rw[am h2];exact cA (aj _ rfl (cA (tail (by simp[Fl,h2]))))
   .have e:(!decide (V.int (l.length:Int)=V.int 1))=true:=by
     rw[am];rfl;intro z;injection z with z;lia
    rw[e];have e2:JB l=false:=by
     match l,h1 with| [],_=>rfl| [c],h=>exact absurd rfl h| _::_::_,_=>rfl
    rw[e2]at q;exact cB q
def aeL (a b:V)(c:Int):∃v,j_ [a,b] (c%2)=some v/\(v=a\/v=b):=by
 rcases Int.emod_two_eq c with h|h;.exact(aj a (by rw[h];exact aN (j:=0) rfl) (.inl rfl))
 .exact(aj b (by rw[h];exact aN (j:=1) rfl) (.inr rfl))
def MJ (K:W.Frag):Sp:=λvs H Q _=>∃(a:Addr) (ns:List Int) (k:Nat),vs=[.ref a,.int k]/\aQ K H a (ns.map V.int)/\∀v:Int,Q (.int v) H
def xQ:Sp:=λvs H Q _=>∃x:Int,vs=[.int x]/\0<=x/\x<1099511627776/\∀y:Int,0<=y->y<2147483647->Q (.int y) H
def TJ (K:W.Frag):Sp:=λvs H Q _=>∃(a:Addr) (ns:List Int) (k:Nat),vs=[.ref a,.int k]/\aQ K H a (ns.map V.int)/\k<=1000/\∀v:Int,Q (.int v) H
def Fo (K:W.Frag):Sp:=λvs H Q _=>∃(a:Addr) (ns:List Int) (k:Nat) (b:Int) (m:Nat),vs=[.ref a,.int k,.int b,.int m]/\aQ K H a (ns.map V.int)/\k<=1000/\0<b/\b<1000000/\m<=100/\
 ∀(p:Addr) (ds:List Int) (H':Hp),aB H H'->H p=none->H' p=some (.lst (ds.map V.int))->ds.length=m->(∀d∈ds,0<=d/\d<b)->Q (.ref p) H'
def isLet (c:Nat):Prop:=97<=c/\c<=122
structure TQ (ls:List Nat):Prop where
 lo:2<=ls.length
 hi:ls.length<=26
 az:∀c∈ls,isLet c
structure oN (w:List Nat):Prop where
 lo:2<=w.length
 hi:w.length<=9
 az:∀c∈w,isLet c
def TV (D:aK K mg "_law_cell_at" uM ["_law_script","_law_k"])(bW:mg "len"=none):bF P w K mg base "_law_cell_at" 1 ["_law_script","_law_k"] (MJ K):=by
 refine D.cY Tz (λvs H Q E h=>?_) (λf bD A outer s H vs Q E hr h=>?_)
 .obtain⟨a,ns,k,rfl,_⟩:=h;rfl
 .obtain⟨a,ns,k,rfl,hS,q⟩:=h;refine(aj _ (aG (d7 (bZ Ag (qv 1) (bh dh vT bW ck (ak (qv 0) aA)) (bU _)) (aL (aX (bB fU (qv 0) (qv 1) (λ_ _=>rfl)))) cD) (aL (aX aD))) ?_);refine(aj _ rfl (aj _ rfl (aR a _ rfl (.inl hS) (aR _ _ rfl rfl (aj _ rfl ?_)))));refine sV (λhc=>?_) (λ_=>?_)
  .have hk:k<ns.length:=by
    have:=i7 hc;rw[aa]at this;simp_all
   exact(aj _ rfl (aj _ rfl (bK a _ _ (.int ns[k]) rfl rfl hS (aN (by simp[hk])) (q _))))
  .exact q _
def ab9 (D:aK K mg "_law_next" Fg ["_law_x"]):bF P w K mg base "_law_next" 1 ["_law_x"] xQ:=by
 refine D.cY ab7 (λvs H Q E h=>?_) (λf bD A outer s H vs Q E hr h=>?_)
 .obtain⟨x,rfl,_⟩:=h;rfl
 .obtain⟨x,rfl,h0,h1,q⟩:=h;refine(aj _ (aL (aX (aP b_ (aP cu (aP cu (aP mG (qv 0) (qv 0)) (aP mG aD (qv 0))) aD) aD))) ?_);refine(aj _ rfl (aj _ rfl (aY _ _ rfl rfl (.inl ⟨vE,vE⟩) (aj _ rfl (aY _ _ rfl rfl (.inl ⟨vS,vS⟩) (aR _ _ rfl rfl (aR _ _ rfl rfl (aY _ _ rfl rfl (by show (0:Int)<2147483647;decide) ?_))))))));exact q _ (d6 _ vS) (de _ vS)
def ZK (D:aK K mg "_law_other" Bj ["_law_x"]):bF P w K mg base "_law_other" 1 ["_law_x"] xQ:=by
 refine D.cY ZJ (λvs H Q E h=>?_) (λf bD A outer s H vs Q E hr h=>?_)
 .obtain⟨x,rfl,_⟩:=h;rfl
 .obtain⟨x,rfl,h0,h1,q⟩:=h;refine(aj _ (aL (aX (aP b_ (aP cu (aP cu (aP mG (qv 0) (qv 0)) (aP mG aD (qv 0))) aD) aD))) ?_);refine(aj _ rfl (aj _ rfl (aY _ _ rfl rfl (.inl ⟨vE,vE⟩) (aj _ rfl (aY _ _ rfl rfl (.inl ⟨vS,vS⟩) (aR _ _ rfl rfl (aR _ _ rfl rfl (aY _ _ rfl rfl (by show (0:Int)<2147483629;decide) ?_))))))));exact q _ (d6 _ vS) (ve (de _ vS) vS)
def WK (D:aK K mg "_law_number" xM ["_law_script","_law_k"])(D1:bF P w K mg base "_law_cell_at" 1 ["_law_script","_law_k"] (MJ K))(D2:bF P w K mg base "_law_next" 1 ["_law_x"] xQ)(D3:bF P w K mg base "_law_other" 1 ["_law_x"] xQ):bF P w K mg base "_law_number" 2 ["_law_script","_law_k"] (TJ K):=by
 refine D.cY Jx (λvs H Q E h=>?_) (λf bD A outer s H vs Q E hr h=>?_)
 .obtain⟨a,ns,k,rfl,_⟩:=h;rfl
 .obtain⟨a,ns,k,rfl,hS,hk,q⟩:=h;refine(aj _ (aG (aV (i:=2) Jx.nd rfl (Or.inl rfl) (aZ D1 hr rfl (ak (qv 0) (ak (qv 1) aA))))
   (aG (d7 (bZ jc (aP b_ (qv 2) aD) aD (bU _)) (aL (aX (aP eV (qv 2) aD))) cD)
   (aL (aX (aZ D3 hr rfl (ak (aZ D2 hr rfl (ak (aP b_ (aP cu (qv 2) (aP mG (aP mG aD (qv 1)) (qv 1))) aD) aA)) aA)))))) ?_)
  refine(aj _ rfl (aj _ rfl ⟨a,ns,k,rfl,hS,λv=>?_⟩));refine(aj _ rfl (fY _ _ rfl rfl (by show (0:Int)<2;decide) rfl (aj _ rfl ?_)));refine sV (λ_=>?_) (λ_=>?_);.exact(aj _ rfl (aY _ _ rfl rfl ⟨vS,vS⟩ (q _)))
  .refine(aj _ rfl (aj _ rfl (aY _ _ rfl rfl (.inl ⟨vS,vS⟩) (aj _ rfl (aY _ _ rfl rfl (.inr ⟨lS _,vE⟩) (aR _ _ rfl rfl (aY _ _ rfl rfl (by show (0:Int)<2147483647;decide) ?_)))))));refine(dX _ rfl (d6 _ vS) (ve (de _ vS) vS) (λy h1 h2=>?_));exact(dX y rfl h1 vE (λz _ _=>q z))
def WL (D:aK K mg "_law_digits" xO ["_law_script","_law_k","_law_base","_law_many"])(aeM:mg "range"=none)(D1:bF P w K mg base "_law_cell_at" 1 ["_law_script","_law_k"] (MJ K))(D2:bF P w K mg base "_law_next" 1 ["_law_x"] xQ)(D3:bF P w K mg base "_law_other" 1 ["_law_x"] xQ)(D4:bF P w K mg base "_law_number" 2 ["_law_script","_law_k"] (TJ K)):bF P w K mg base "_law_digits" 3 ["_law_script","_law_k","_law_base","_law_many"] (Fo K):=by
 refine D.cY Jy (λvs H Q E h=>?_) (λf bD A outer s H vs Q E hr h=>?_)
 .obtain⟨a,ns,k,b,m,rfl,_⟩:=h;rfl
 .obtain⟨a,ns,k,b,m,rfl,hS,hk,hb0,hb1,hm,q⟩:=h;have hr1:dY 1 _:=hr.mono vS;have nd:=Jy.nd;refine(aj _ (aG (aV (i:=4) nd rfl (Or.inl rfl) (aZ D4 hr rfl (ak (qv 0) (ak (qv 1) aA))))
   (aG (aV (i:=5) nd rfl (Or.inl rfl) (eY aA))
   (aG (aV (i:=6) nd rfl (Or.inl rfl) (aP b_ (qv 4) aD))
   (aG (fJ c9 rfl (nJ rfl aeM (ak (qv 3) aA)) (bY (i:=7) nd rfl (Or.inl rfl))
    (aG (aV (i:=6) nd rfl (Or.inl rfl) (aZ D3 hr1 rfl (ak (aZ D2 hr1 rfl (ak (aP cu (qv 6) (qv 7)) aA)) aA)))
    (aG (iw (fB dm fS fT jE (qv 5)
     (ak (aP b_ (bB fU (eY (ak (qv 4) (ak (qv 6) aA))) (aP b_ (aZ D1 hr1 rfl (ak (qv 0) (ak (qv 1) aA))) aD) (λ_ _=>rfl)) (qv 2)) aA)))
    (aL (aV (i:=4) nd rfl (Or.inl rfl) (aP eV (qv 4) (qv 2)))))))
   (aL (aX (qv 5))))))) ?_)
  refine(aj _ rfl (aj _ rfl (dM a ns k rfl hS hk (λv=>?_))));refine⟨zsz 0,λp hp=>?_⟩;refine(aj _ rfl (aY _ _ rfl rfl (by show (0:Int)<2147483647;decide) ?_));refine(aj _ rfl (dX _ rfl (lS _) vE (uw (n:=m) (lo:=0) (λi σ H2=>∃(lf x:Int) (jv:Option V) (ds:List Int),σ=[some (.ref a),some (.int k),some (.int b),some (.int m),some (.int lf),some (.ref p),some (.int x),jv]/\aB H H2/\
   H2 p=some (.lst (ds.map V.int))/\ds.length=i/\(∀d∈ds,0<=d/\d<b)/\0<=x/\x<2147483647)
   ⟨v,_,none,[],rfl,aB.upd hp,au,rfl,λd hd=>by simp at hd,d6 _ vS,de _ vS⟩ ?_ ?_)))
  .rintro i σ H2 hi ⟨lf,x,jv,ds,rfl,sm,hp2,hl,hd,hx0,hx1⟩;refine(aj _ rfl (aj _ rfl (aR _ _ rfl rfl ?_)));refine(dX _ rfl vE vE (λy h1 h2=>?_));refine(dX y rfl h1 vE (λz h3 h4=>?_));refine(aO _ rfl (.inl ⟨rfl,_,aQ.of hp2⟩) ?_);refine(aj _ rfl (aO _ rfl (zsz 2) (λt ht=>?_)));have s3:∀o,aB H (upd H2 t o):=λo=>sm.bG (sm.free ht);refine(aj _ rfl (aj _ rfl ⟨a,ns,k,rfl,(s3 _).seq hS,λcv=>?_⟩));obtain⟨u,hu,hu2⟩:=aeL (.int lf) (.int z) cv;obtain⟨c,rfl⟩:∃c,u=.int c:=by rcases hu2 with e|e <;> exact⟨_,e⟩
   refine(aY _ _ rfl rfl (by show (0:Int)<2;decide) (bK t _ _ _ rfl rfl (aQ.of au) hu (aj _ rfl (aY _ _ rfl rfl hb0 ?_))));have npt:p≠t:=bM hp2 ht;refine(ig p _ _ rfl rfl (by rw[bw npt];exact hp2) (by rw[aa,hl];exact aM vE) ?_);refine(aj _ rfl (aj _ rfl (aY _ _ rfl rfl ⟨hb0,vE⟩ ?_)));refine⟨lf/b,z,_,ds++[c%b],rfl,(s3 _).bG hp,?_,by simp[hl],?_,h3,h4⟩;.rw[au];simp
   .intro d hd';rcases ba.mp hd' with e|e;.exact hd d e
    .rw[ap.mp e];exact⟨d6 _ vE,de _ hb0⟩
  .rintro σ H2 ⟨lf,x,jv,ds,rfl,sm,hp2,hl,hd,hx0,hx1⟩;exact(aj _ rfl (q p ds H2 sm hp hp2 hl hd))
def aaV (d):j_ AL (d%26)=some (97+(d%26).toNat):=by have h0:0<=d%26:=d6 _ vS;have h1:d%26<26:=de _ vS;have e:d%26=(((d%26).toNat:Nat):Int):=vE;rw[e];refine aN ?_;have hl:((d%26).toNat:Int).toNat<26:=vE;simp only[AL,aw,du];rw[gd vE];rfl
theorem MN:∀(F:List Nat) (L:List Nat),L.Nodup->F.length<L.length->∃x∈L,x∉F
 | [],L,_,h=>by
  cases L with| nil=>simp at h| cons x r=>exact(aj x a6 vF)
 | c::F,L,nd,h=>by
  have hl:F.length<(L.erase c).length:=by rw[List.length_erase];simp only[bt]at h;split <;> lia
  obtain⟨x,h1,h2⟩:=MN F (L.erase c) (nd.erase c) hl;obtain⟨h3,h4⟩:=nd.mem_erase_iff.mp h1;exact(aj x h4 (λz=>by rcases bb.mp z with e|e;exact h3 e;exact h2 e))
def ZL (F:List Nat)(h:F.length<26)(d:Int):∃j:Nat,(97+((d+j)%26).toNat)∉F:=by obtain⟨x,h1,h2⟩:=MN F ((List.range 26).map (97 + ·)) vS (by simpa using h);obtain⟨c,hc,rfl⟩:=ar.mp h1;have hc':c<26:=bE.mp hc;refine⟨((c-d)%26).toNat,?_⟩;have e:((d+(((c-d)%26).toNat:Nat))%26).toNat=c:=vE;rw[e];exact h2
def Hi {ds:List Int}(h1:a<=b)(h2:b<=ds.length):(n_ (ds.map V.int) (some (a:Int)) (some (b:Int))).length=b-a:=by unfold n_;rw[HT.Ai,HT.Ai,bn,dP,aa];grind
def ni (l:List Nat):(l.map λc=>[c]).flatten=l:=by
 induction l with| nil=>rfl| cons c r ih=>rw[cp,iS,ih];rfl
def agb:∀c∈AL,isLet c:=λc hc=>by obtain⟨k,hk,rfl⟩:=ar.mp hc;have:=bE.mp hk;exact⟨vE,vE⟩
def uO (c:Nat):Prop:=JB [c]=true
def uO.lt (h:uO c):c<128:=by unfold uO JB Fl Jz at h;simp at h;lia
def WM (h:isLet c):uO c:=by simp[uO,JB,Fl,h.1,h.2]
def WQ (h:isLet c):uO (c-32):=by have h1:=h.1;have h2:=h.2;simp[uO,JB,Fl,Jz];lia
abbrev ones (cs:List Nat):List (List Nat):=cs.map λc=>[c]
structure Blk (r w:Nat)(ls:AA):Prop where
 len:ls.length=r
 jr:∀l∈ls,l.length=w
def MK:List Nat:=[46,50,51,52,98,99,100]
def Ce (c:Nat):Prop:=c=46\/uO c
def mkC (c:Nat):Prop:=c∈MK
structure Fp (r w:Nat)(ao aF:AA)(i j:Nat):Prop where
 r1:1<=r
 r9:r<=9
 w1:1<=w
 w9:w<=9
 br:Blk r w ao
 bm:Blk r w aF
 cr:∀l∈ao,∀c∈l,Ce c
 cm:∀l∈aF,∀c∈l,mkC c
 bi:i<r
 bj:j<w
def jZ (ls)(l):Ts ls++[V.str (S l)]=Ts (ls++[l]):=by simp[Ts]
def qG (cs)(c):ones cs++[[c]]=ones (cs++[c]):=by simp[ones]
def ab_ (c)(fs):inV (.str (S [c])) (Ts (ones fs))=decide (c∈fs):=by
 unfold inV
 induction fs with
 | nil=>rfl
 | cons a r ih=>
  show (ux (.str (S [a])) (.str (S [c]))||(Ts (ones r)).any λy=>ux y (.str (S [c])))=_;rw[ih];by_cases h:a=c
  .subst h;have:ux (.str (S [a])) (.str (S [a]))=true:=by simp[ux]
   rw[this];simp
  .have h':¬c=a:=λz=>h z.symm
   have hne:¬S [a]=S [c]:=λz=>h (by have:=pX z;injection this);have:ux (.str (S [a])) (.str (S [c]))=false:=by simp[ux,hne]
   rw[this];simp[h']
def WR (fs):(Ts (ones fs)).all rN=true:=by rw[hV];intro v hv;obtain⟨l,_,rfl⟩:=ar.mp hv;rfl
def WT (K:W.Frag):Sp:=λvs H Q _=>∃(a:Addr) (ns:List Int) (k:Nat),vs=[.ref a,.int k]/\aQ K H a (ns.map V.int)/\k<=1000/\
 ∀(p:Addr) (ls:List Nat) (H':Hp),aB H H'->H' p=some (.lst (Ts (ones ls)))->TQ ls->Q (.ref p) H'
def TX (D:aK K mg "_law_letters" uN ["_law_script","_law_k"])(lu:mg "list"=none)(lC:bF P w K mg base "_law_digits" 3 ["_law_script","_law_k","_law_base","_law_many"] (Fo K)):bF P w K mg base "_law_letters" 4 ["_law_script","_law_k"] (WT K):=by
 refine D.cY lZ (λvs H Q E h=>?_) (λf bD A outer s H vs Q E hr h=>?_)
 .obtain⟨a,ns,k,rfl,_⟩:=h;rfl
 .obtain⟨a,ns,k,rfl,hS,hk,q⟩:=h;refine(aj _ (aG (aV (i:=2) lZ.nd rfl (Or.inl rfl) (cG AL v_)) (aG (aV (i:=3) lZ.nd rfl (Or.inl rfl) (aZ lC hr.mono rfl (ak (qv 0) (ak (qv 1) (ak aD (ak aD aA)))))) (aG (d7 (bZ jc (aP b_ (bB fU (qv 3) aD (λ_ _=>rfl)) aD) aD (bU _)) (aL (aX (cP (Ej rfl) vT lu qr (ak (qv 2) aA)))) cD) (aG (aV (i:=4) lZ.nd rfl (Or.inl rfl) (eY aA)) (aG (fJ c9 rfl (eG (kY Gv (qv 3) (jy aD) (jy (aP cu aD (aP b_ (aP eV (bB fU (qv 3) aD (λ_ _=>rfl)) aD) aD))))) (bY (i:=5) lZ.nd rfl (Or.inl rfl)) (aG (YW c9 (bZ Vl (bB Gx (qv 2) (aP b_ (qv 5) aD) (λ_ _=>rfl)) (qv 4) rfl) (aL (aV (i:=5) lZ.nd rfl (Or.inl rfl) (aP cu (qv 5) aD)))) (aL (iw (fB dm fS fT jE (qv 4) (ak (bB Gx (qv 2) (aP b_ (qv 5) aD) (λ_ _=>rfl)) aA)))))) (aL (aX (qv 4)))))))) ?_);have hAL:AL.length<=sizeLine:=by decide
  refine(aj _ rfl (aj _ rfl (uF a ns k 208 5 rfl hS hk vS vS vS (λp ds H1 sm hp hp1 hl hd=>?_))));have h0:=hd ds[0] (a8 _);have at0:j_ (ds.map V.int) 0=some (.int ds[0]):=aN (j:=0) (by simp[hl]);refine(aj _ rfl (bK p _ 0 _ rfl rfl (aQ.of hp1) at0 (fY _ _ rfl rfl (by show (0:Int)<8;decide) rfl (aj _ rfl ?_))));refine sV (λ_=>?_) (λ_=>?_);.exact(aj _ rfl (aO AL rfl vS (λp2 hp2=>q p2 AL _ (sm.bG (sm.free hp2)) au ⟨vS,vS,agb⟩)))
  .refine⟨zsz 0,λF hF=>?_⟩;have hp2:upd H1 F (.lst []) p=some (.lst (ds.map V.int)):=aB.upd hF _ _ hp1;have sm1:aB H (upd H1 F (.lst [])):=sm.bG (sm.free hF);refine(aj _ rfl (aj _ rfl (aj _ rfl (bK p _ 0 _ rfl rfl (aQ.of hp2) at0 (aY _ _ rfl rfl ⟨vS,vS⟩ (aY _ _ rfl rfl (by show (0:Int)<3;decide) (aR _ _ rfl rfl (aj _ rfl (aR p _ rfl (aQ.of hp2) (λt ht=>?_))))))))));obtain⟨r,hr1,hr2⟩:∃r:Nat,(3:Int)+ds[0]/8%3=((3+r:Nat):Int)/\r<3:=(aj ((ds[0]/8%3).toNat) (by simp_all;lia) (by grind))
   rw[hr1];have BX:(n_ (ds.map V.int) (some (1:Nat)) (some ((3+r:Nat):Int))).length=2+r:=by rw[Hi vE (by grind)];lia
   generalize hxs:n_ (ds.map V.int) (some 1) (some ((3+r:Nat):Int))=xs;have ZM:xs.length=2+r:=by rw[<-hxs];exact BX
   have WW:∀v∈xs,∃d:Int,v=.int d:=λv hv=>by rw[<-hxs]at hv;obtain⟨d,_,e⟩:=Cz hv;exact⟨d,e⟩
   have nFt:F≠t:=λz=>by rw[<-z,au]at ht;cases ht
   refine(aO t rfl ⟨_,aQ.of au⟩ (jJ (K:=K) (a:=t) (xs:=xs) (λi σ H2=>∃(dv:Option V) (fs:List Nat),σ=[some (.ref a),some (.int k),some (.str (S AL)),some (.ref p),some (.ref F),dv]/\aB H H2/\H2 t=some (.lst xs)/\H2 F=some (.lst (Ts (ones fs)))/\fs.length=i/\∀c∈fs,isLet c)
    ⟨none,[],rfl,sm1.bG (sm1.free ht),au,by rw[bw nFt,au];rfl,rfl,λc hc=>by simp at hc⟩ (λi σ H2 _ ⟨_,_,_,_,h2,_⟩=>aQ.of h2) ?_ ?_))
   .rintro i y σ H2 hi ⟨dv,fs,rfl,Fq,h2,gZ,hfl,hfa⟩;have hil:i<xs.length:=(ai.mp hi).1;obtain⟨d,rfl⟩:=WW y (aT hi);obtain⟨j0,hj0⟩:=ZL fs (by grind) d;refine⟨λm σ' H'=>H'=H2/\∃(e:Int),σ'=[some (.ref a),some (.int k),some (.str (S AL)),some (.ref p),some (.ref F),some (.int e)]/\∃j:Nat,j<=m/\(97+((e+j)%26).toNat)∉fs,(aj j0 rfl (aj d rfl (aj j0 (ag _) hj0))),?_⟩;rintro m σ' H' ⟨rfl,e,rfl,j,hjm,hj⟩;refine(aj _ rfl (aj _ rfl (aY _ _ rfl rfl (by show (0:Int)<26;decide) (ig AL _ _ rfl rfl hAL (aaV e) (aj _ rfl (fY F _ rfl (.inl (aQ.of gZ)) rfl (WR fs) (aj _ rfl ?_)))))));simp only[bd,if_false];rw[ab_];refine sV (λhc=>?_) (λhc=>?_)
    .have cV:(97+(e%26).toNat)∈fs:=i7 hc;have hj1:j≠0:=λz=>by subst z;simp at hj;exact hj cV
     refine(aj (λσ2 H3=>H3=H'/\σ2=[some (.ref a),some (.int k),some (.str (S AL)),some (.ref p),some (.ref F),some (.int (e+1))]) ?_ ?_)
     .rintro σ2 H3 ⟨rfl,rfl⟩;refine(aO (m-1) (b8 vE vE) rfl (aj (e+1) rfl (aj (j-1) (si hjm _) ?_)));have:(e+1+((j-1:Nat):Int))=e+(j:Int):=by lia
      rw[this];exact hj
     .exact(aj _ rfl (aY _ _ rfl rfl rfl rfl))
    .have agK:t≠F:=nFt.symm;refine(aO _ rfl (.inl ⟨rfl,_,aQ.of gZ⟩) (aj _ rfl (aj _ rfl (aY _ _ rfl rfl (by show (0:Int)<26;decide) (ig AL _ _ rfl rfl hAL (aaV e) (ig F _ _ rfl rfl gZ (by rw[aa,aa];exact aM (by grind)) ?_))))));refine⟨_,fs++[97+(e%26).toNat],rfl,Fq.bG (sm.free hF),by rw[bw agK];exact h2,by rw[au,jZ,qG],by simp[hfl],λc hc'=>?_⟩;rcases ba.mp hc' with z|z;.exact hfa c z
     .rw[ap.mp z];have h1:e%26<26:=de _ vS;exact⟨vE,by grind⟩
   .rintro σ H2 ⟨dv,fs,rfl,Fq,h2,gZ,hfl,hfa⟩;exact(aj _ rfl (q F fs H2 Fq gZ ⟨by simp[*],by grind,hfa⟩))
def WX:Sp:=λvs H Q _=>∃c:Int,vs=[.int c]/\∀(p:Addr) (r k:Nat) (H':Hp),aB H H'->H p=none->H' p=some (.tup [.int r,.int k])->1<=r->r<=9->1<=k->k<=9->Q (.ref p) H'
def acd (D:aK K mg "_law_size" Fi ["_law_x"]):bF P w K mg base "_law_size" 1 ["_law_x"] WX:=by
 refine D.cY ab8 (λvs H Q E h=>?_) (λf bD A outer s H vs Q E hr h=>?_)
 .obtain⟨c,rfl,_⟩:=h;rfl
 .obtain⟨c,rfl,q⟩:=h;refine(aj _ (aG (d7 (bZ jc (aP b_ (qv 0) aD) aD (bU _)) (aL (aX (cO (ak (aP cu aD (aP b_ (aP eV (qv 0) aD) aD)) (ak (aP cu aD (aP b_ (aP eV (qv 0) aD) aD)) aA))))) cD) (aL (aX (cO (ak (aP cu aD (aP b_ (aP eV (qv 0) aD) aD)) (ak (aP cu aD (aP b_ (aP eV (qv 0) aD) aD)) aA)))))) ?_);have key:∀(a b:Int),0<=a->a<9->0<=b->b<9->∀p,H p=none->Q (.ref p) (upd H p (.tup [.int (1+a),.int (1+b)])):=λa b h1 h2 h3 h4 p hp=>
   q p (1+a).toNat (1+b).toNat _ (aB.upd hp) hp (by rw[au,show ((1+a).toNat:Int)=1+a by lia,show ((1+b).toNat:Int)=1+b by lia]) vE vE vE vE
  refine(aj _ rfl (fY _ _ rfl rfl (by show (0:Int)<8;decide) rfl (aj _ rfl ?_)));refine sV (λ_=>?_) (λ_=>?_)
  .refine(aj _ rfl (aY _ _ rfl rfl ⟨vS,vS⟩ (aY _ _ rfl rfl (by show (0:Int)<9;decide) (aR _ _ rfl rfl (aj _ rfl (aY _ _ rfl rfl ⟨vS,vS⟩ (aY _ _ rfl rfl (by show (0:Int)<9;decide) (aY _ _ rfl rfl (zsz 2) (λp hp=>?_)))))))));exact key _ _ (d6 _ vS) (de _ vS) (d6 _ vS) (de _ vS) p hp
  .refine(aj _ rfl (aY _ _ rfl rfl ⟨vS,vS⟩ (aY _ _ rfl rfl (by show (0:Int)<4;decide) (aR _ _ rfl rfl (aj _ rfl (aY _ _ rfl rfl ⟨vS,vS⟩ (aY _ _ rfl rfl (by show (0:Int)<5;decide) (aY _ _ rfl rfl (zsz 2) (λp hp=>?_)))))))));exact key _ _ (d6 _ vS) (ve (de _ vS) vS) (d6 _ vS) (ve (de _ vS) vS) p hp
def MP:Sp:=λvs H Q _=>∃l:List Nat,vs=[.str (S l)]/\oN l/\∀H',aB H H'->Q (.bl true) H'
def aeN (h:isLet c):decide ([c]<[97])=false/\decide ([122]<[c])=false:=by
 have hlt:∀a b:Nat,([a]<[b])↔a<b:=λa b=>by simp[fg]
 constructor;.rw[am];rw[hlt];have:=h.1;lia
 .rw[am];rw[hlt];have:=h.2;lia
def TY (D:aK K mg "is_word" uK ["text"])(bW:mg "len"=none)(hall:mg "all"=none):bF P w K mg base "is_word" 1 ["text"] MP:=by
 refine D.cY Fe (λvs H Q E h=>?_) (λf bD A outer s H vs Q E hr h=>?_)
 .obtain⟨l,rfl,_⟩:=h;rfl
 .obtain⟨l,rfl,hw,q⟩:=h;have h1:=hw.lo;have h2:=hw.hi;have hz:l.length<=sizeLine:=ay (aM vE);refine⟨_,aL (aX (qC (nC pW pW aD (bh d9 vT bW ck (ak (qv 0) aA)) aD)
   (mJ (bh (kZ rfl) vT hall v_ (ak (f9 rfl (fH.of Fe.nd v0) (zf (qv 0)) (λ_ _ _ _ _=>cF)
    (λ_ _ _ _ _=>nC qD qD (cG [97] v_) (qv 0) (cG [122] v_))) aA))))),?_⟩
  refine⟨_,rfl,l,rfl,hz,_,_,rfl,rfl,true,(by simp;lia),?_⟩;refine cB ⟨_,_,rfl,rfl,true,(by simp;lia),?_⟩;refine cB ?_;refine⟨_,rfl,l,rfl,λL hL=>wM (λi ys H2=>ys=(List.replicate i true).map V.bl/\H2 L=some (.lst ys)/\aB H H2) ⟨rfl,au,aB.upd hL⟩ ?_ ?_⟩
  .rintro i c ys H2 hi ⟨rfl,hL2,sm⟩;have hil:i<l.length:=(ai.mp hi).1;obtain⟨a1,a2⟩:=aeN (hw.az c (aT hi));refine⟨_,rfl,[97],[c],rfl,rfl,true,by rw[a1];rfl,cB ⟨[c],[122],rfl,rfl,hL2,?_,dJ.mk hil ⟨?_,au,sm.bG hL⟩⟩⟩;.rw[aa,eC];exact aM vE
   .rw[a2,List.replicate_succ',bv];rfl
  .rintro ys H2 ⟨rfl,hL2,sm⟩;refine⟨L,List.replicate l.length true,rfl,aQ.of hL2,?_⟩;have e:(List.replicate l.length true).all id=true:=vF;rw[e];exact q H2 sm
def Q6:Sp:=λvs H Q _=>∃l:List Nat,vs=[.str (S l)]/\oN l/\∀H',aB H H'->Q .non H'
def J9 (D:aK K mg "check_word" oM ["text"])(D1:bF P w K mg base "is_word" 1 ["text"] MP):bF P w K mg base "check_word" 2 ["text"] Q6:=by
 refine D.cY J7 (λvs H Q E h=>?_) (λf bD A outer s H vs Q E hr h=>?_)
 .obtain⟨l,rfl,_⟩:=h;rfl
 .obtain⟨l,rfl,hw,q⟩:=h;refine⟨_,aL (d7 (jW (gU (aZ D1 hr rfl (ak (qv 0) aA)))) IW cD),?_⟩;refine⟨_,rfl,l,rfl,hw,λH1 s1=>⟨true,rfl,?_⟩⟩;exact cA (q H1 s1)
structure pQ (K:W.Frag)(C:Addr):Prop where
 cl:Cls K C
 nh:mH K C "held"
def lD (ws:AA):List (Key×V):=ws.map λl=>(bQ l,V.bl true)
def M4 (ws):(lD ws).map (·.1)=ws.map bQ:=by unfold lD;rw[b6];rfl
def ZP (h:bQ a=bQ b):a=b:=pX (qi h)
def Hj (ws)(l):cX (lD ws) (bQ l)=if l∈ws then some (.bl true) else none:=by
 induction ws with
 | nil=>simp[lD,cX]
 | cons a r ih=>
  by_cases e:a=l
  .subst e;have:cX (lD (a::r)) (bQ a)=some (.bl true):=gO (p:=(bQ a,V.bl true)) rfl;rw[this];simp
  .have:cX (lD (a::r)) (bQ l)=cX (lD r) (bQ l):=gP (p:=(bQ a,V.bl true)) λz=>e (ZP z)
   rw[this,ih];have e':¬l=a:=λz=>e z.symm;simp[e']
def ace (h:l∈ws):putK (lD ws) (bQ l) (.bl true)=lD ws:=by
 have hany:((lD ws).any λkv=>decide (kv.1=bQ l))=true:=by rw[pG,Hj,if_pos h];rfl
 unfold putK;rw[if_pos hany];refine(eI λkv hkv=>?_).trans (ke _);obtain⟨a,_,rfl⟩:=ar.mp hkv;by_cases e:bQ a=bQ l;.simp[e]
 .simp[e]
def acf (h:l∉ws):putK (lD ws) (bQ l) (.bl true)=lD (ws++[l]):=by rw[YG _ (by rw[Hj,if_neg h])];simp[lD]
structure mQ (C:Addr)(H:Hp)(p d:Addr)(ws:AA):Prop where
 ob:∃dx,H p=some (.ins C dx [("held",.ref d)])
 dc:H d=some (.dK (lD ws))
 nd:ws.Nodup
 az:∀l∈ws,oN l
def tQ (ws:AA)(l:List Nat):List (List Nat):=if l∈ws then ws else ws++[l]
def CZ (ws)(l):putK (lD ws) (bQ l) (.bl true)=lD (tQ ws l):=by
 unfold tQ;split;.rename_i h;exact ace h
 .rename_i h;exact acf h
def Hl {ws:AA}(h:ws.Nodup):(tQ ws l).Nodup:=by
 unfold tQ;split;.exact h
 .rename_i hl;exact Qh h hl
def C_:x∈tQ ws l↔x∈ws\/x=l:=by
 unfold tQ;split;.rename_i h;exact⟨.inl,λz=>z.elim id λe=>e ▸ h⟩
 .simp
def Dc (ws)(l):(tQ ws l).length<=ws.length+1:=by
 unfold tQ;split;.lia
 .simp
def agc (K:W.Frag)(H:Hp)(a:Addr)(ls:AA):Prop:=aQ K H a (Ts ls)\/aU K H a (Ts ls)
def WY (K:W.Frag)(C:Addr):Sp:=λvs H Q _=>∃(p dx a:Addr) (ls:AA),vs=[.ref p,.ref a]/\H p=some (.ins C dx [])/\agc K H a ls/\(∀l∈ls,oN l)/\ls.length<=200/\
 ∀(d:Addr) (ws:AA) (H':Hp),H d=none->mQ C H' p d ws->(∀x,x∈ws↔x∈ls)->ws.length<=ls.length->(∀b o,H b=some o->b≠p->H' b=some o)->Q .non H'
def acg (F:iD K "__init__" "Book.__init__" jm f fd)(T:pQ K C)(D1:bF P w K mg base "check_word" 2 ["text"] Q6):cL P w K mg base fW 3 f fd ["self","words"] (WY K C):=by
 refine F.cY zO (λvs H Q E h=>?_) (λbD A outer s H vs Q E hr h=>?_)
 .obtain⟨p,dx,a,ls,rfl,_⟩:=h;rfl
 .obtain⟨p,dx,a,ls,rfl,hp,hS,hW,hn,k⟩:=h;have hu:=wJ hr;have nd:=zO.nd;refine⟨_,aG (Ef (qv 0) Cy rfl) (aL (fJ c9 rfl ((eG (qv 1)).or (iG (qv 1))) (bY (i:=2) nd rfl (Or.inl rfl))
   (aG (iw (aZ D1 hr rfl (ak (qv 2) aA))) (aL (Az hu (eN (qv 0) rfl) (qv 2) lQ rfl))))),?_⟩
  intro d hd;have npd:p≠d:=bM hp hd;refine⟨_,rfl,p,C,dx,[],rfl,(by rw[bw npd];exact hp),T.cl,T.nh,(by show 0<1000;decide),?_⟩;have hP1:upd (upd H d (HO.dK [])) p (HO.ins C dx (jx "held" (V.ref d) [])) p=some (.ins C dx [("held",.ref d)]):=au;have hD1:upd (upd H d (HO.dK [])) p (HO.ins C dx (jx "held" (V.ref d) [])) d=some (.dK (lD [])):=by rw[bw npd.symm,au];rfl
  have Mi:∀b o,H b=some o->b≠p->upd (upd H d (HO.dK [])) p (HO.ins C dx (jx "held" (V.ref d) [])) b=some o:=λb o e hb=>by rw[bw hb,bw (bM e hd)];exact e
  generalize upd (upd H d (HO.dK [])) p (HO.ins C dx (jx "held" (V.ref d) []))=H1 at hP1 hD1 Mi ⊢;have npl:∀o,H p=some o->(∀ys,o≠.lst ys)/\∀u ys,o≠.o9 u (.lst ys):=λo e=>by rw[hp]at e;cases e;exact⟨λ_ z=>(nomatch z),λ_ _ z=>(nomatch z)⟩
  have npt:∀o,H p=some o->(∀ys,o≠.tup ys)/\∀u ys,o≠.o9 u (.tup ys):=λo e=>by rw[hp]at e;cases e;exact⟨λ_ z=>(nomatch z),λ_ _ z=>(nomatch z)⟩
  rcases hS with hS|hS
  .refine .inl ⟨_,rfl,a,rfl,⟨_,hS.keep Mi npl⟩,jJ (K:=K) (a:=a) (xs:=Ts ls) (λi σ H2=>∃(v2:Option V) (ws:AA),σ=[some (.ref p),some (.ref a),v2]/\H2 p=some (.ins C dx [("held",.ref d)])/\H2 d=some (.dK (lD ws))/\ws.Nodup/\
    (∀x,x∈ws↔x∈ls.take i)/\ws.length<=i/\∀b o,H b=some o->b≠p->H2 b=some o) ⟨none,[],rfl,hP1,hD1,np,λx=>by simp,ag _,Mi⟩ (λi σ H2 _ ⟨_,_,_,_,_,_,_,_,kp⟩=>hS.keep kp npl) ?_ ?_⟩
   .rintro i y σ H2 hi ⟨v2,ws,rfl,hp2,hd2,hnd,hm,hl,kp⟩;rw[aw]at hi;obtain⟨l,hl2,e⟩:=fE.mp hi;subst e;have hil:i<ls.length:=(ai.mp hl2).1;refine⟨_,rfl,l,rfl,hW l (aT hl2),λH3 s3=>?_⟩;have hd3:=s3 _ _ hd2;refine⟨_,rfl,p,C,dx,_,_,rfl,s3 _ _ hp2,T.cl,T.nh,rfl,_,rfl,d,_,rfl,sS.k (k:=bQ l) hd3 (by rw[lD,aa];exact aM vE),?_⟩;refine⟨_,tQ ws l,rfl,by rw[bw npd];exact s3 _ _ hp2,by rw[au,CZ],Hl hnd,λx=>?_,a9 (Dc _ _) (gm hl),λb o e hb=>?_⟩;.rw[C_,hm,bz,hl2];simp
    .rw[bw (bM e hd)];exact s3 _ _ (kp b o e hb)
   .rintro σ H2 ⟨v2,ws,rfl,hp2,hd2,hnd,hm,hl,kp⟩;rw[aa]at hm hl;rw[cz]at hm;exact k d ws H2 hd ⟨⟨dx,hp2⟩,hd2,hnd,λl hl=>hW l ((hm l).mp hl)⟩ hm hl kp
  .refine .inr ⟨_,rfl,a,rfl,⟨_,hS.keep Mi npt⟩,Gs (K:=K) (a:=a) (xs:=Ts ls) (λi σ H2=>∃(v2:Option V) (ws:AA),σ=[some (.ref p),some (.ref a),v2]/\H2 p=some (.ins C dx [("held",.ref d)])/\H2 d=some (.dK (lD ws))/\ws.Nodup/\
    (∀x,x∈ws↔x∈ls.take i)/\ws.length<=i/\∀b o,H b=some o->b≠p->H2 b=some o) ⟨none,[],rfl,hP1,hD1,np,λx=>by simp,ag _,Mi⟩ (λi σ H2 _ ⟨_,_,_,_,_,_,_,_,kp⟩=>hS.keep kp npt) ?_ ?_⟩
   .rintro i y σ H2 hi ⟨v2,ws,rfl,hp2,hd2,hnd,hm,hl,kp⟩;rw[aw]at hi;obtain⟨l,hl2,e⟩:=fE.mp hi;subst e;have hil:i<ls.length:=(ai.mp hl2).1;refine⟨_,rfl,l,rfl,hW l (aT hl2),λH3 s3=>?_⟩;have hd3:=s3 _ _ hd2;refine⟨_,rfl,p,C,dx,_,_,rfl,s3 _ _ hp2,T.cl,T.nh,rfl,_,rfl,d,_,rfl,sS.k (k:=bQ l) hd3 (by rw[lD,aa];exact aM vE),?_⟩;refine⟨_,tQ ws l,rfl,by rw[bw npd];exact s3 _ _ hp2,by rw[au,CZ],Hl hnd,λx=>?_,a9 (Dc _ _) vE,λb o e hb=>?_⟩;.rw[C_,hm,bz,hl2];simp
    .rw[bw (bM e hd)];exact s3 _ _ (kp b o e hb)
   .rintro σ H2 ⟨v2,ws,rfl,hp2,hd2,hnd,hm,hl,kp⟩;rw[aa]at hm hl;rw[cz]at hm;exact k d ws H2 hd ⟨⟨dx,hp2⟩,hd2,hnd,λl hl=>hW l ((hm l).mp hl)⟩ hm hl kp
def T4 (C:Addr):Sp:=λvs H Q _=>∃(p d:Addr) (ws:AA) (l:List Nat),vs=[.ref p,.str (S l)]/\mQ C H p d ws/\Q (.bl (decide (l∈ws))) H
def aeO (F:iD K "has" "Book.has" jR f fd)(T:pQ K C):cL P w K mg base fW 1 f fd ["self","text"] (T4 C):=by
 refine F.cY Pb (λvs H Q E h=>?_) (λbD A outer s H vs Q E hr h=>?_)
 .obtain⟨p,d,ws,l,rfl,_⟩:=h;rfl
 .obtain⟨p,d,ws,l,rfl,B,q⟩:=h;have hu:=wJ hr;obtain⟨⟨dx,hp⟩,hd,_,_⟩:=id B;refine⟨_,aL (aX (ad2 (ad1 hu (qv 1) (eN (qv 0) rfl)))),?_⟩;refine⟨_,rfl,_,rfl,p,C,dx,_,_,rfl,hp,T.cl,T.nh,rfl,d,_,rfl,mD.k (k:=bQ l) hd,?_⟩;rw[Hj];by_cases h:l∈ws;.rw[if_pos h];simpa [h] using q
  .rw[if_neg h];simpa [h] using q
def aeP (ws:AA):Prop:=ws.Pairwise (λa b=>decide (b<a)=false)
def Q7 (C:Addr):Sp:=λvs H Q _=>∃(p d:Addr) (ws:AA),vs=[.ref p]/\mQ C H p d ws/\ws.length<64/\
 ∀(t:Addr) (us:AA) (H':Hp),aB H H'->H t=none->H' t=some (.tup (Ts us))->us.Perm ws->aeP us->Q (.ref t) H'
def ZQ (F:iD K "words" "Book.words" iK f fd)(T:pQ K C)(ach:mg "sorted"=none)(htup:mg "tuple"=none):cL P w K mg base fW 1 f fd ["self"] (Q7 C):=by
 refine F.cY J8 (λvs H Q E h=>?_) (λbD A outer s H vs Q E hr h=>?_)
 .obtain⟨p,d,ws,rfl,_⟩:=h;rfl
 .obtain⟨p,d,ws,rfl,B,h64,q⟩:=h;obtain⟨⟨dx,hp⟩,hd,_,_⟩:=id B;refine⟨_,aL (aX (cP dg vT htup cE (ak (bh (K9 rfl) vT ach gy (ak (eN (qv 0) rfl) aA)) aA))),?_⟩;refine⟨_,rfl,p,C,dx,_,_,rfl,hp,T.cl,T.nh,rfl,d,_,ws,rfl,hd,M4 ws,h64,λt us ht pm rs=>?_⟩;refine⟨t,_,rfl,.inl ⟨aQ.of au,λv hv=>?_⟩⟩;have s1:aB H (upd H t (.lst (Ts us))):=aB.upd ht;exact q v us _ (s1.bG (s1.free hv)) (s1.free hv) au pm rs
def aeQ {a b:List Nat}(h1:¬a<b)(h2:a≠b):b<a:=by
 by_cases h:b<a;.exact h
 .exact absurd (List.le_antisymm (List.not_lt.mp h) (List.not_lt.mp h1)) h2
def mQ.same (B:mQ C H p d ws)(s:aB H H'):mQ C H' p d ws:=⟨let ⟨dx,e⟩:=B.ob;⟨dx,s _ _ e⟩,s _ _ B.dc,B.nd,B.az⟩
def M5 (K:W.Frag):Sp:=λvs H Q _=>∃(p a:Addr) (ls:List Nat) (ns:List Int) (st m:Nat),vs=[.ref p,.ref a,.int st,.int m]/\H p=some (.lst (Ts (ones ls)))/\TQ ls/\aQ K H a (ns.map V.int)/\st+m<=1000/\m<=60/\
 ∀(t:Addr) (ws:AA) (H':Hp),aB H H'->H' t=some (.lst (Ts ws))->ws.Nodup->(∀l∈ws,oN l)->aeP ws->ws.length<=m->Q (.ref t) H'
def Pj (D:aK K mg "_law_words" Bk ["_law_letters_here","_law_script","_law_start","_law_many"])(bI:mg "len"=none)(fV:mg "range"=none)(dR:mg "sorted"=none)(lu:mg "list"=none)(lC:bF P w K mg base "_law_digits" 3 ["_law_script","_law_k","_law_base","_law_many"] (Fo K)):bF P w K mg base "_law_words" 4 ["_law_letters_here","_law_script","_law_start","_law_many"] (M5 K):=by
 refine D.cY pP (λvs H Q E h=>?_) (λf bD A outer s H vs Q E hr h=>?_)
 .obtain⟨p,a,ls,ns,st,m,rfl,_⟩:=h;rfl
 .obtain⟨p,a,ls,ns,st,m,rfl,hp,hA,hS,hst,hm,q⟩:=h;have hu:=wJ hr;have hlo:(Ts (ones ls)).length=ls.length:=by rw[aa,aa]
  refine(aj _ (aG (aV (i:=4) pP.nd rfl (Or.inl rfl) Cy) (aG (fJ c9 rfl (nJ vT fV (ak (qv 3) aA)) (bY (i:=5) pP.nd rfl (Or.inl rfl)) (aG (aV (i:=6) pP.nd rfl (Or.inl rfl) (aZ lC hr.mono rfl (ak (qv 1) (ak (aP cu (qv 2) (qv 5)) (ak aD (ak aD aA)))))) (aG (aV (i:=7) pP.nd rfl (Or.inl rfl) (bB fU (eY (ak aD (ak aD (ak aD (ak aD (ak aD (ak aD (ak aD (ak (aP cu aD (aP b_ (aP eV (bB fU (qv 6) aD (λ_ _=>rfl)) aD) aD)) aA))))))))) (aP b_ (bB fU (qv 6) aD (λ_ _=>rfl)) aD) (λ_ _=>rfl))) (aL (Az hu (qv 4) (fB ci fh fi sG (cG [] v_) (ak (f9 rfl (fH.of pP.nd v0) (eG (kY Gv (qv 6) (jy aD) (jy (aP cu aD (qv 7))))) (λ_ _ _ _ _=>cF) (λ_ _ _ _ _=>(bB (Y5 K) (qv 1) (aP b_ (aP eV (qv 0) aD) (bh (JZ K) vT bI ck (ak (qv 1) aA))) (λ_ _=>rfl)))) aA)) lQ rfl))))) (aL (aX (bh Lf vT dR gy (ak (cP (SM rfl) vT lu qr (ak (qv 4) aA)) aA)))))) ?_);intro d hd;refine(aj _ rfl (dX _ rfl (lS _) vE ?_));rw[du];refine uw (lo:=0) (n:=m) (λi σ H2=>∃(v5 v6 v7:Option V) (ws:AA),σ=[some (.ref p),some (.ref a),some (.int st),some (.int m),some (.ref d),v5,v6,v7]/\aB H H2/\H2 d=some (.dK (lD ws))/\ws.Nodup/\(∀l∈ws,oN l)/\ws.length<=i)
   (jN none none none [] rfl (aB.upd hd) au np (λl h=>by simp at h) (ag _)) ?_ ?_
  .rintro i σ H2 hi ⟨v5,v6,v7,ws,rfl,sm,hd2,Ma,az2,hl2⟩;have e0:(st:Int)+(0+(i:Int))=((st+i:Nat):Int):=vE;refine(aj _ rfl (aj _ rfl (aj _ rfl (aR _ _ rfl rfl (uF a ns (st+i) 520 10 (by show [V.ref a,V.int ((st:Int)+(0+(i:Int))),V.int 520,V.int 10]=_;rw[e0];rfl) (sm.seq hS) vE vS vS vS (λpr ds H3 s3 agL hpr hl hdd=>?_))))));have at0:j_ (ds.map V.int) 0=some (.int ds[0]):=aN (j:=0) (by simp[hl]);have h0:=hdd ds[0] (a8 _);refine(aj _ rfl (bK pr _ 0 _ rfl rfl (aQ.of hpr) at0 (aY _ _ rfl rfl ⟨vS,vS⟩ (aY _ _ rfl rfl (by show (0:Int)<8;decide) (aY _ _ rfl rfl (zsz 8) (λt ht=>?_))))));obtain⟨z,hz1,hz2,hz3⟩:∃z:Nat,j_ [V.int 2,V.int 2,V.int 3,V.int 3,V.int 3,V.int 4,V.int 4,V.int (2+ds[0]/8%8)] (ds[0]%8)=some (.int z)/\2<=z/\z<=9:=by
    have hm:ds[0]%8=0\/ds[0]%8=1\/ds[0]%8=2\/ds[0]%8=3\/ds[0]%8=4\/ds[0]%8=5\/ds[0]%8=6\/ds[0]%8=7:=vE;rcases hm with e|e|e|e|e|e|e|e <;> rw[e]
    .exact(aO 2 (aN (j:=0) rfl) vS vS)
    .exact(aO 2 (aN (j:=1) rfl) vS vS)
    .exact(aO 3 (aN (j:=2) rfl) vS vS)
    .exact(aO 3 (aN (j:=3) rfl) vS vS)
    .exact(aO 3 (aN (j:=4) rfl) vS vS)
    .exact(aO 4 (aN (j:=5) rfl) vS vS)
    .exact(aO 4 (aN (j:=6) rfl) vS vS)
    .refine(aO ((2+ds[0]/8%8).toNat) ?_ (by grind) (by grind));have e2:(2+ds[0]/8%8)=(((2+ds[0]/8%8).toNat:Nat):Int):=by grind
     rw[<-e2];exact aN (j:=7) rfl
   have hT:upd H3 t (.lst [V.int 2,V.int 2,V.int 3,V.int 3,V.int 3,V.int 4,V.int 4,V.int (2+ds[0]/8%8)]) t=some _:=au;have s1:aB H3 (upd H3 t (.lst [V.int 2,V.int 2,V.int 3,V.int 3,V.int 3,V.int 4,V.int 4,V.int (2+ds[0]/8%8)])):=aB.upd ht;generalize upd H3 t (.lst [V.int 2,V.int 2,V.int 3,V.int 3,V.int 3,V.int 4,V.int 4,V.int (2+ds[0]/8%8)])=H4 at hT s1 ⊢;refine(aj _ rfl (bK pr _ 0 _ rfl rfl (aQ.of (s1 _ _ hpr)) at0 (aY _ _ rfl rfl (by show (0:Int)<8;decide) (bK t _ _ _ rfl rfl (aQ.of hT) hz1 ?_))));have JC:aB H H4:=(sm.trans s3).trans s1;refine(aO _ rfl rfl (aj _ rfl (aj _ rfl (aj _ rfl (aR _ _ rfl rfl (aj _ rfl (aR pr _ rfl (aQ.of (s1 _ _ hpr)) (λu hu'=>?_))))))));have e1:(1:Int)+(z:Int)=((1+z:Nat):Int):=rfl;rw[e1];have BX:(n_ (ds.map V.int) (some (1:Nat)) (some ((1+z:Nat):Int))).length=z:=by rw[Hi vE vE];lia
   generalize hxs:n_ (ds.map V.int) (some 1) (some ((1+z:Nat):Int))=xs;have ZM:xs.length=z:=by rw[<-hxs];exact BX
   have WW:∀v∈xs,∃d:Int,v=.int d:=λv hv=>by rw[<-hxs]at hv;obtain⟨d,hd,e⟩:=Cz hv;exact⟨d,e⟩
   have sU:∀o,aB H4 (upd H4 u o):=λo=>aB.upd hu';refine(aO u rfl ⟨_,aQ.of au⟩ (λL hL=>qz (K:=K) (a:=u) (xs:=xs) (λi ys H5=>∃cs:List Nat,ys=Ts (cs.map λc=>[c])/\cs.length=i/\(∀c∈cs,c∈ls)/\H5 L=some (.lst ys)/\H5 u=some (.lst xs)/\aB H4 H5)
    ⟨[],rfl,rfl,λc hc=>by simp at hc,au,by rw[bw (bM au hL)];exact au,(sU _).bG ((sU _).free hL)⟩ (λi ys H5 _ ⟨_,_,_,_,_,h2,_⟩=>aQ.of h2) ?_ ?_))
   .rintro i y ys H5 hi ⟨cs,rfl,hcl,hcm,hL2,hu2,Fq⟩;have hil:i<xs.length:=(ai.mp hi).1;obtain⟨d,rfl⟩:=WW y (aT hi);have hlp:(0:Int)<(ls.length:Int):=by have:=hA.lo;lia
    obtain⟨j,hj1,hj2⟩:∃j:Nat,d/20%(ls.length:Int)=(j:Int)/\j<ls.length:=by have h1:0<=d/20%(ls.length:Int):=d6 _ vE;have h2:d/20%(ls.length:Int)<ls.length:=de _ hlp;exact(aj ((d/20%(ls.length:Int)).toNat) vE (by simp_all))
    have W0:=Fq _ _ (JC _ _ hp);refine(aj _ rfl (aj _ rfl (aY _ _ rfl rfl ⟨vS,vS⟩ (aj _ rfl (aR p _ rfl (.inl (aQ.of W0)) (aY _ _ rfl rfl (by rw[hlo];exact hlp) ⟨p,_,_,.str (S [ls[j]]),rfl,rfl,aQ.of W0,?_,hL2,?_,?_⟩))))));.rw[hlo,hj1];exact aN (by simp[Ts,ones,hj2])
    .show (Ts (cs.map λc=>[c])).length<sizeLine;rw[aa,aa];exact aM vE
    .refine dJ.mk hil ⟨cs++[ls[j]],by simp[Ts],by simp[hcl],λc hc=>?_,au,?_,λb o e=>?_⟩
     .rcases ba.mp hc with e|e;.exact hcm c e
      .rw[ap.mp e];exact a8 _
     .rw[bw (bM au hL)];exact hu2
     .rw[bw (bM ((sU _) b o e) hL)];exact Fq b o e
   .rintro ys H5 ⟨cs,rfl,hcl,hcm,hL2,hu2,Fq⟩;refine(fY L (cs.map λc=>[c]) rfl rfl (aQ.of hL2) (by rw[ni];lia) ?_);rw[ni];have hd5:=Fq _ _ (s1 _ _ (s3 _ _ hd2));have hW:oN cs:=⟨by simp[*],vE,λc hc=>hA.az c (hcm c hc)⟩
    refine(aR d _ rfl (sS.k (k:=bQ cs) hd5 (by rw[lD,aa];exact aM vE)) ?_);refine(jN _ _ _ (tQ ws cs) rfl ((JC.trans Fq).bG hd) (by rw[au,CZ]) (Hl Ma) (λl hl=>?_) (a9 (Dc _ _) (gm hl2)));rcases C_.mp hl with e|e;.exact az2 l e
    .rw[e];exact hW
  .rintro σ H2 ⟨v5,v6,v7,ws,rfl,sm,hd2,Ma,az2,hl2⟩;refine(aj _ rfl (ig d _ ws rfl hd2 (M4 ws) vE (λL hL=>?_)));have s3:aB H (upd H2 L (.lst (Ts ws))):=sm.bG (sm.free hL);refine(aY L ws rfl (aQ.of au) vE (λL2 ws' hL2 pm pw=>?_));exact q L2 ws' _ (s3.bG (s3.free hL2)) au (pm.nodup_iff.mpr Ma) (λl hl=>az2 l (pm.mem_iff.mp hl)) pw (by rw[pm.length_eq];exact hl2)
def Q8:Sp:=λvs H Q _=>∃i:Int,vs=[.int i]/\Q (.bl true) H
def Pk (D:aK K mg "is_whole" rP ["thing"])(kO:mg "int"=none)(zQ:mg "bool"=none)(cR:mg "isinstance"=none):bF P w K mg base "is_whole" 1 ["thing"] Q8:=by
 refine D.cY O8 (λvs H Q E h=>?_) (λf bD A outer s H vs Q E hr h=>?_)
 .obtain⟨i,rfl,_⟩:=h;rfl
 .obtain⟨i,rfl,q⟩:=h;refine(aj _ (aL (aX (qC (bh jY vT cR fR (ak (qv 0) (ak (sH (v:=.ty "int") vT kO nw rfl) aA))) (mJ (ad0 (bh jY vT cR fR (ak (qv 0) (ak (sH (v:=.ty "bool") vT zQ PyProof.Rows.boot_bool rfl) aA)))))))) ?_);exact(aj _ rfl ⟨_,_,_,true,rfl,.int _,v0,aj true rfl (cB (aj _ rfl ⟨_,_,_,false,rfl,.int _,v0,aj false rfl q⟩))⟩)
def qp {ls:AA}{i:Nat}{l:List Nat}(h:ls[i]?=some l):(Ts ls)[i]?=some (.str (S l)):=by simp[Ts,h]
def qH {ls:AA}{i:Nat}{x:V}(h:(Ts ls)[i]?=some x):∃l,ls[i]?=some l/\x=.str (S l):=by rw[aw]at h;obtain⟨l,h1,h2⟩:=fE.mp h;exact(aj l h1 h2.symm)
def Bm (n):((List.replicate n true).all id)=true:=by simp
def xR (n):(List.replicate n true).map V.bl++[V.bl true]=(List.replicate (n+1) true).map V.bl:=by rw[List.replicate_succ',bv];rfl
def Ho:Sp:=λvs H Q _=>∃(p:Addr) (ls:AA) (r w:Nat),vs=[.ref p]/\H p=some (.tup (Ts ls))/\Blk r w ls/\1<=r/\r<=9/\1<=w/\w<=9/\∀H',aB H H'->Q (.bl true) H'
def Pn (D:aK K mg "is_block" rQ ["thing"])(bI:mg "len"=none)(bN:mg "tuple"=none)(Bo:mg "str"=none)(fZ:mg "all"=none)(cR:mg "isinstance"=none)(vX:∃t,mg "MOST"=some (.int 9 t)):bF P w K mg base "is_block" 1 ["thing"] Ho:=by
 refine D.cY qg (λvs H Q E h=>?_) (λf bD A outer s H vs Q E hr h=>?_)
 .obtain⟨p,ls,r,w,rfl,_⟩:=h;rfl
 .obtain⟨p,ls,r,w,rfl,hp,hb,r1,r9,w1,w9,q⟩:=h;have iV:(Ts ls).length=r:=by rw[aa,hb.len]
  have h0:0<ls.length:=by rw[hb.len];exact r1
  refine(aj _ (aG (d7 (QW.qt (wL (jW (gU (bh jY vT cR fR (ak (qv 0) (ak (sH (v:=.ty "tuple") vT bN cE rfl) aA))))) (sW (jW (Cw pW pW aD (bh dh vT bI ck (ak (qv 0) aA)) (Sx vT vX)))))) (aL (aX lQ)) cD) (aG (d7 (jW (gU (bh (kZ rfl) vT fZ k_ (ak (f9 rfl (fH.of qg.nd v0) (iG (qv 0)) (λ_ _ _ _ _=>cF) (λ_ _ _ _ _=>(bh (Ld K) vT cR fR (ak (qv 0) (ak (sH (v:=.ty "str") vT Bo PyProof.Rows.boot_str rfl) aA))))) aA)))) (aL (aX lQ)) cD) (aG (aV (i:=1) qg.nd rfl (Or.inr rfl) (bh d9 vT bI ck (ak (bB bV (qv 0) aD (λ_ _=>rfl)) aA))) (aL (aX (qC (nC pW pW aD (qv 1) (Sx vT vX)) (mJ (bh (kZ rfl) vT fZ k_ (ak (f9 rfl (fH.of qg.nd v0) (iG (qv 0)) (λ_ _ _ _ _=>cF) (λ_ _ _ _ _=>(gJ jc (bh d9 vT bI ck (ak (qv 0) aA)) (qv 2) (bU _)))) aA))))))))) ?_);refine(aj _ rfl ⟨_,_,_,true,rfl,.tup hp,v0,aj _ rfl (cA ?_)⟩);refine(aj _ rfl (aR p _ rfl (.inr (aU.of hp)) (aR _ _ rfl rfl (aj true (by rw[iV];simp;lia) (cB (aR _ _ rfl rfl (aj true (by rw[iV];simp;lia) (cA ?_))))))));refine(aj _ rfl (aO p rfl ⟨_,aU.of hp⟩ (λL hL=>wN (xs:=Ts ls) (λi ys H2=>ys=(List.replicate i true).map V.bl/\H2 L=some (.lst ys)/\aB H H2) ⟨rfl,au,aB.upd hL⟩ (λi ys H2 _ h=>aU.of (h.2.2 _ _ hp)) ?_ ?_)))
  .rintro i x ys H2 hi ⟨rfl,hL2,sm⟩;obtain⟨l,hl,rfl⟩:=qH hi;have hil:i<(Ts ls).length:=(ai.mp hi).1;refine(aj _ rfl (jN _ _ _ true rfl (.str _) v0 hL2 (by rw[aa,eC];exact aM vE) (dJ.mk hil ⟨xR i,au,sm.bG hL⟩)))
  .rintro ys H2 ⟨rfl,hL2,sm⟩;refine(aR L _ rfl (aQ.of hL2) ?_);rw[Bm];refine(aj _ rfl (cA ?_));have hw0:ls[0].length=w:=hb.jr _ (a8 _);have hz:ls[0].length<=sizeLine:=ay (aM vE);refine(aj _ rfl (bK p _ _ (.str (S ls[0])) rfl rfl (aU.of (sm _ _ hp)) (aN (j:=0) (qp (by simp[h0]))) (aO _ rfl hz ?_)));refine(aj _ rfl (aR _ _ rfl rfl (aj true (by rw[hw0];simp;lia) (cB (aR _ _ rfl rfl (aj true (by rw[hw0];simp;lia) (cB ?_)))))));refine(aj _ rfl (aO p rfl ⟨_,aU.of (sm _ _ hp)⟩ (λL2 vY=>wN (xs:=Ts ls) (λi ys H3=>ys=(List.replicate i true).map V.bl/\H3 L2=some (.lst ys)/\aB H H3) ⟨rfl,au,sm.bG (sm.free vY)⟩ (λi ys H2 _ h=>aU.of (h.2.2 _ _ hp)) ?_ ?_)))
   .rintro i x ys H3 hi ⟨rfl,mz,sm3⟩;obtain⟨l,hl,rfl⟩:=qH hi;have hil:i<(Ts ls).length:=(ai.mp hi).1;have W2:l.length=w:=hb.jr _ (aT hl);refine(aj _ rfl (aO _ rfl (ay (aM vE)) (cW _ rfl rfl mz (by rw[aa,eC];exact aM vE) (dJ.mk hil ⟨?_,au,sm3.bG (sm.free vY)⟩))));rw[W2,hw0,aE rfl];exact xR i
   .rintro ys H3 ⟨rfl,mz,sm3⟩;refine(aR L2 _ rfl (aQ.of mz) ?_);rw[Bm];exact q H3 sm3
def tE {r w:Nat}{ls:AA}(h:Blk r w ls):ls.flatten.length=r*w:=by
 rw[List.length_flatten];have:ls.map List.length=List.replicate r w:=by rw[<-h.len,List.eq_replicate_iff];exact⟨vF,λb hb=>by obtain⟨l,hl,rfl⟩:=ar.mp hb;exact h.jr l hl⟩
 rw[this,List.sum_replicate_nat]
def W3:Sp:=λvs H Q _=>∃(p:Addr) (ls:AA) (r w:Nat),vs=[.ref p]/\H p=some (.tup (Ts ls))/\Blk r w ls/\1<=r/\r<=9/\1<=w/\w<=9/\(∀l∈ls,∀c∈l,Ce c)/\∀H',aB H H'->Q (.bl true) H'
def Pq (D:aK K mg "are_rows" rR ["thing"])(fZ:mg "all"=none)(dH:∃t,mg "FREE"=some (.str (S [46]) t))(xT:bF P w K mg base "is_block" 1 ["thing"] Ho)(W4:bF P w K mg base "is_sign" 1 ["thing"] (Wz K)):bF P w K mg base "are_rows" 2 ["thing"] W3:=by
 refine D.cY Cd (λvs H Q E h=>?_) (λf bD A outer s H vs Q E hr h=>?_)
 .obtain⟨p,ls,r,w,rfl,_⟩:=h;rfl
 .obtain⟨p,ls,r,w,rfl,hp,hb,r1,r9,w1,w9,hc,q⟩:=h;have hrw:r*w<=81:=kd r9 w9;have hfl:=tE hb;refine(aj _ (aL (aX (qC (aZ xT hr.mono rfl (ak (qv 0) aA)) (mJ (bh (kZ rfl) vT fZ k_ (ak (f9 rfl (fH.of Cd.nd v0) (zf (fB ci fh fi CG (cG [] v_) (ak (qv 0) aA))) (λ_ _ _ _ _=>cF) (λ_ _ _ _ _=>(Sv (gJ yZ (qv 0) (lU vT dH) (bU _)) (mJ (aZ W4 hr.mono rfl (ak (qv 0) aA)))))) aA)))))) ?_);refine(aj _ rfl (xH p ls r w rfl hp hb r1 r9 w1 w9 (λH1 s1=>(aj true rfl (cB ?_)))));refine⟨rfl,aj _ rfl (fY p ls rfl rfl (aU.of (s1 _ _ hp)) vE (aj _ rfl (λL hL=>?_)))⟩;refine wM (λi ys H2=>ys=(List.replicate i true).map V.bl/\H2 L=some (.lst ys)/\aB H H2) ⟨rfl,au,s1.bG (s1.free hL)⟩ ?_ ?_
  .rintro i c ys H2 hi ⟨rfl,hL2,sm⟩;have hil:i<ls.flatten.length:=(ai.mp hi).1;obtain⟨l,hl,hcl⟩:=rl.mp (aT hi);have fin:H2 L=some (.lst ((List.replicate i true).map V.bl))/\((List.replicate i true).map V.bl).length<sizeLine/\dJ ls.flatten.length i ((List.replicate i true).map V.bl++[V.bl true]=(List.replicate (i+1) true).map V.bl/\upd H2 L (.lst ((List.replicate i true).map V.bl++[V.bl true])) L=some (.lst ((List.replicate i true).map V.bl++[V.bl true]))/\aB H (upd H2 L (.lst ((List.replicate i true).map V.bl++[V.bl true])))):=
    ⟨hL2,by rw[aa,eC];exact aM vE,dJ.mk hil ⟨xR i,au,sm.bG (s1.free hL)⟩⟩
   refine(aj _ rfl (aR [c] [46] rfl rfl (aj _ rfl ?_)));rcases hc l hl c hcl with e|e
   .subst e;rw[aE rfl];exact cB fin
   .by_cases Q9:[c]=[46]
    .rw[aE Q9];exact cB fin
    .rw[am Q9];refine cA (aj _ rfl (.inr (aO [c] rfl (by show 1<=1000;decide) ?_)));rw[show JB [c]=true from e];exact fin
  .rintro ys H2 ⟨rfl,hL2,sm⟩;refine(aR L _ rfl (aQ.of hL2) ?_);rw[Bm];exact q H2 sm
def Q_:Sp:=λvs H Q _=>∃(p:Addr) (ls:AA) (r w:Nat),vs=[.ref p]/\H p=some (.tup (Ts ls))/\Blk r w ls/\1<=r/\r<=9/\1<=w/\w<=9/\(∀l∈ls,∀c∈l,mkC c)/\∀H',aB H H'->Q (.bl true) H'
def M6 (D:aK K mg "are_marks" qj ["thing"])(fZ:mg "all"=none)(vZ:∃t,mg "MARKS"=some (.str (S MK) t))(xT:bF P w K mg base "is_block" 1 ["thing"] Ho):bF P w K mg base "are_marks" 2 ["thing"] Q_:=by
 refine D.cY zN (λvs H Q E h=>?_) (λf bD A outer s H vs Q E hr h=>?_)
 .obtain⟨p,ls,r,w,rfl,_⟩:=h;rfl
 .obtain⟨p,ls,r,w,rfl,hp,hb,r1,r9,w1,w9,hc,q⟩:=h;have hrw:r*w<=81:=kd r9 w9;have hfl:=tE hb;refine(aj _ (aL (aX (qC (aZ xT hr.mono rfl (ak (qv 0) aA)) (mJ (bh (kZ rfl) vT fZ k_ (ak (f9 rfl (fH.of zN.nd v0) (zf (fB ci fh fi CG (cG [] v_) (ak (qv 0) aA))) (λ_ _ _ _ _=>cF) (λ_ _ _ _ _=>(gJ Vv (qv 0) (lU vT vZ) rfl))) aA)))))) ?_);refine(aj _ rfl (xH p ls r w rfl hp hb r1 r9 w1 w9 (λH1 s1=>(aj true rfl (cB ?_)))));refine⟨rfl,aj _ rfl (fY p ls rfl rfl (aU.of (s1 _ _ hp)) vE (aj _ rfl (λL hL=>?_)))⟩;refine wM (λi ys H2=>ys=(List.replicate i true).map V.bl/\H2 L=some (.lst ys)/\aB H H2) ⟨rfl,au,s1.bG (s1.free hL)⟩ ?_ ?_
  .rintro i c ys H2 hi ⟨rfl,hL2,sm⟩;have hil:i<ls.flatten.length:=(ai.mp hi).1;obtain⟨l,hl,hcl⟩:=rl.mp (aT hi);refine(aj _ rfl (fY c MK rfl rfl hL2 (by rw[aa,eC];exact aM vE) (dJ.mk hil ⟨?_,au,sm.bG (s1.free hL)⟩)));rw[aE (show c∈MK from hc l hl c hcl)];exact xR i
  .rintro ys H2 ⟨rfl,hL2,sm⟩;refine(aR L _ rfl (aQ.of hL2) ?_);rw[Bm];exact q H2 sm
def Dd (K:W.Frag):Sp:=λvs H Q _=>∃(p:Addr) (ls:AA) (r w:Nat) (i j:Int),vs=[.ref p,.int i,.int j]/\aU K H p (Ts ls)/\Blk r w ls/\1<=r/\r<=9/\w<=9/\Q (.bl (decide (0<=i/\i<r/\0<=j/\j<w))) H
def J_ (D:aK K mg "is_cell_of" oH ["rows","row","column"])(bI:mg "len"=none)(Ft:bF P w K mg base "is_whole" 1 ["thing"] Q8):bF P w K mg base "is_cell_of" 2 ["rows","row","column"] (Dd K):=by
 refine D.cY J5 (λvs H Q E h=>?_) (λf bD A outer s H vs Q E hr h=>?_)
 .obtain⟨p,ls,r,w,i,j,rfl,_⟩:=h;rfl
 .obtain⟨p,ls,r,w,i,j,rfl,hp,hb,r1,r9,w9,q⟩:=h;have iV:(Ts ls).length=r:=by rw[aa,hb.len]
  have h0:0<ls.length:=by rw[hb.len];lia
  have hw0:ls[0].length=w:=hb.jr _ (a8 _);refine(aj _ (aG (d7 (QW.qt (wL (jW (gU (aZ Ft hr.mono rfl (ak (qv 1) aA)))) (sW (jW (gU (aZ Ft hr.mono rfl (ak (qv 2) aA))))))) (aL (aX lQ)) cD) (aL (aX (qC (nC pW Ag aD (qv 1) (bh dh vT bI ck (ak (qv 0) aA))) (mJ (nC pW Ag aD (qv 2) (bh d9 vT bI ck (ak (bB bV (qv 0) aD (λ_ _=>rfl)) aA)))))))) ?_);refine(aj _ rfl (aj i rfl (aj _ rfl (cA (aj _ rfl (aj j rfl (aj _ rfl (cA ?_))))))));refine(aj _ rfl (aR _ _ rfl rfl (aj _ rfl ?_)));by_cases h1:0<=i
  .rw[aE h1];refine cB (aj _ rfl (aR p _ rfl (.inr hp) (aR _ _ rfl rfl (aj _ rfl ?_))));rw[iV];by_cases h2:i<(r:Int)
   .rw[aE h2];refine cB (aj _ rfl (aR _ _ rfl rfl (aj _ rfl ?_)));by_cases h3:0<=j
    .rw[aE h3];refine cB (aj _ rfl (bK p _ _ (.str (S ls[0])) rfl rfl hp (aN (j:=0) (qp (by simp[h0]))) (aO _ rfl (ay (aM vE)) (aR _ _ rfl rfl ?_))));rw[hw0];simpa [h1,h2,h3] using q
    .rw[am h3];refine cA ?_;simpa [h1,h2,h3] using q
   .rw[am h2];refine cA ?_;simpa [h1,h2] using q
  .rw[am h1];refine cA (aj _ rfl (cA ?_));simpa [h1] using q
def Ra (K:W.Frag):Sp:=λvs H Q _=>∃(p b:Addr) (ls:AA) (r w:Nat) (i j:Nat),vs=[.ref p,.ref b]/\H p=some (.tup (Ts ls))/\H b=some (.tup [.int i,.int j])/\Blk r w ls/\1<=r/\r<=9/\w<=9/\i<r/\j<w/\Q (.bl true) H
def Hq (D:aK K mg "is_begin_of" mV ["rows","thing"])(bI:mg "len"=none)(bN:mg "tuple"=none)(cR:mg "isinstance"=none)(tR:bF P w K mg base "is_cell_of" 2 ["rows","row","column"] (Dd K)):bF P w K mg base "is_begin_of" 3 ["rows","thing"] (Ra K):=by
 refine D.cY Hg (λvs H Q E h=>?_) (λf bD A outer s H vs Q E hr h=>?_)
 .obtain⟨p,b,ls,r,w,i,j,rfl,_⟩:=h;rfl
 .obtain⟨p,b,ls,r,w,i,j,rfl,hp,hb,hB,r1,r9,w9,hi,hj,q⟩:=h;refine(aj _ (aL (aX (qC (bh jY vT cR fR (ak (qv 1) (ak (sH (v:=.ty "tuple") vT bN cE rfl) aA))) (qC (gJ jc (bh dh vT bI ck (ak (qv 1) aA)) aD (bU _)) (mJ (aZ tR hr.mono rfl (ak (qv 0) (ak (bB bV (qv 1) aD (λ_ _=>rfl)) (ak (bB bV (qv 1) aD (λ_ _=>rfl)) aA))))))))) ?_);refine(aj _ rfl ⟨_,_,_,true,rfl,.tup hb,v0,aj true rfl (cB ?_)⟩);refine(aj _ rfl (aY b _ rfl (.inr (aU.of hb)) rfl (aj true rfl (cB ?_))));refine(aj _ rfl (aj _ rfl (bK b _ _ (.int i) rfl rfl (aU.of hb) (aN (j:=0) rfl) (aj _ rfl (bK b _ _ (.int j) rfl rfl (aU.of hb) (aN (j:=1) rfl) ?_)))));refine⟨p,ls,r,w,i,j,rfl,aU.of hp,hB,r1,r9,w9,?_⟩;rw[aE ⟨vE,nV gp hi,vE,vE⟩];exact q
def Rb:Sp:=λvs H Q _=>∃(pr pm pb:Addr) (r w:Nat) (ao aF:AA) (i j:Nat),vs=[.ref pr,.ref pm,.ref pb]/\H pr=some (.tup (Ts ao))/\H pm=some (.tup (Ts aF))/\H pb=some (.tup [.int i,.int j])/\Fp r w ao aF i j/\∀H',aB H H'->Q (.bl true) H'
def Pr (D:aK K mg "is_board" rT ["rows","marks","begin"])(bI:mg "len"=none)(T5:bF P w K mg base "are_rows" 2 ["thing"] W3)(Pu:bF P w K mg base "are_marks" 2 ["thing"] Q_)(Ka:bF P w K mg base "is_begin_of" 3 ["rows","thing"] (Ra K)):bF P w K mg base "is_board" 4 ["rows","marks","begin"] Rb:=by
 refine D.cY O9 (λvs H Q E h=>?_) (λf bD A outer s H vs Q E hr h=>?_)
 .obtain⟨pr,pm,pb,r,w,ao,aF,i,j,rfl,_⟩:=h;rfl
 .obtain⟨pr,pm,pb,r,w,ao,aF,i,j,rfl,hr',hm,hb,B,q⟩:=h;have l1:(Ts ao).length=r:=by rw[aa,B.br.len]
  have l2:(Ts aF).length=r:=by rw[aa,B.bm.len]
  have h0:0<ao.length:=by rw[B.br.len];exact B.r1
  have h0':0<aF.length:=by rw[B.bm.len];exact B.r1
  have w0:ao[0].length=w:=B.br.jr _ (a8 _);have w0':aF[0].length=w:=B.bm.jr _ (a8 _);have w9:=B.w9;refine(aj _ (aG (d7 (QW.qt (wL (jW (gU (aZ T5 hr.mono rfl (ak (qv 0) aA)))) (sW (jW (gU (aZ Pu hr.mono rfl (ak (qv 1) aA))))))) (aL (aX lQ)) cD) (aG (d7 (QW.qt (wL (bZ DQ (bh dh vT bI ck (ak (qv 1) aA)) (bh dh vT bI ck (ak (qv 0) aA)) (bU _)) (sW (bZ DQ (bh d9 vT bI ck (ak (bB bV (qv 1) aD (λ_ _=>rfl)) aA)) (bh d9 vT bI ck (ak (bB bV (qv 0) aD (λ_ _=>rfl)) aA)) (bU _))))) (aL (aX lQ)) cD) (aL (aX (aZ Ka hr.mono rfl (ak (qv 0) (ak (qv 2) aA))))))) ?_);refine(aj _ rfl ⟨pr,ao,r,w,rfl,hr',B.br,B.r1,B.r9,B.w1,B.w9,B.cr,λH1 s1=>(aj _ rfl (cA ?_))⟩);refine(aj _ rfl ⟨pm,aF,r,w,rfl,s1 _ _ hm,B.bm,B.r1,B.r9,B.w1,B.w9,B.cm,λH2 s2=>(aj _ rfl (cA ?_))⟩);have s12:=s1.trans s2;refine(aj _ rfl (aR pm _ rfl (.inr (aU.of (s12 _ _ hm))) (aj _ rfl (aY pr _ rfl (.inr (aU.of (s12 _ _ hr'))) rfl (aj _ rfl ?_)))));refine Sg (by rw[l1,l2]) ?_;refine(aj _ rfl (bK pm _ _ (.str (S aF[0])) rfl rfl (aU.of (s12 _ _ hm)) (aN (j:=0) (qp (by simp[h0']))) (aO _ rfl (ay (aM vE)) (aj _ rfl (bK pr _ _ (.str (S ao[0])) rfl rfl (aU.of (s12 _ _ hr')) (aN (j:=0) (qp (by simp[h0]))) (dX _ rfl (ay (aM vE)) rfl (aj _ rfl ?_)))))));refine Sg (by rw[w0,w0']) ?_;refine(aj _ rfl (aj _ rfl ⟨pr,pb,ao,r,w,i,j,rfl,s12 _ _ hr',s12 _ _ hb,B.br,B.r1,B.r9,B.w9,B.bi,B.bj,?_⟩));exact q H2 s12
structure d_ (K:W.Frag)(C:Addr):Prop where
 cl:Cls K C
 nr:mH K C "rows"
 nm:mH K C "marks"
 nb:mH K C "begin"
structure dz (C:Addr)(H:Hp)(p:Addr)(r w:Nat)(ao aF:AA)(i j:Nat):Prop where
 ex:∃dx pr pm pb,H p=some (.ins C dx [("rows",.ref pr),("marks",.ref pm),("begin",.ref pb)])/\H pr=some (.tup (Ts ao))/\H pm=some (.tup (Ts aF))/\H pb=some (.tup [.int i,.int j])
 ok:Fp r w ao aF i j
def dz.mv {r w:Nat}{ao aF:AA}{i j:Nat}(B:dz C H p r w ao aF i j)(s:aB H H'):dz C H' p r w ao aF i j:=by obtain⟨⟨dx,pr,pm,pb,a,b,c,d⟩,o⟩:=B;exact⟨⟨dx,pr,pm,pb,s _ _ a,s _ _ b,s _ _ c,s _ _ d⟩,o⟩
def Bp (C:Addr):Sp:=λvs H Q _=>∃(p dx pr pm pb:Addr) (r w:Nat) (ao aF:AA) (i j:Nat),vs=[.ref p,.ref pr,.ref pm,.ref pb]/\H p=some (.ins C dx [])/\H pr=some (.tup (Ts ao))/\H pm=some (.tup (Ts aF))/\H pb=some (.tup [.int i,.int j])/\Fp r w ao aF i j/\
 ∀H',(∀b o,H b=some o->b≠p->H' b=some o)->H' p=some (.ins C dx [("rows",.ref pr),("marks",.ref pm),("begin",.ref pb)])->Q .non H'
def Kc (F:iD K "__init__" "Board.__init__" iH f fd)(T:d_ K C)(T6:bF P w K mg base "is_board" 4 ["rows","marks","begin"] Rb):cL P w K mg base fW 5 f fd ["self","rows","marks","begin"] (Bp C):=by
 refine F.cY J6 (λvs H Q E h=>?_) (λbD A outer s H vs Q E hr h=>?_)
 .obtain⟨p,dx,pr,pm,pb,r,w,ao,aF,i,j,rfl,_⟩:=h;rfl
 .obtain⟨p,dx,pr,pm,pb,r,w,ao,aF,i,j,rfl,hp,hr',hm,hb,B,q⟩:=h;refine(aj _ (aG (d7 (jW (gU (aZ T6 hr.mono rfl (ak (qv 1) (ak (qv 2) (ak (qv 3) aA)))))) IW cD) (aG (Ef (qv 0) (qv 1) rfl) (aG (Ef (qv 0) (qv 2) rfl) (aL (Ef (qv 0) (qv 3) rfl))))) ?_);refine(aj _ rfl (aj _ rfl (aj _ rfl ⟨pr,pm,pb,r,w,ao,aF,i,j,rfl,hr',hm,hb,B,λH1 s1=>(aj _ rfl (cA ?_))⟩)));refine(aj _ rfl (aj _ rfl (jN p C dx _ rfl (s1 _ _ hp) T.cl T.nr (by show 0<1000;decide) ?_)));refine(aj _ rfl (aj _ rfl (jN p C dx _ rfl au T.cl T.nm (by show 1<1000;decide) ?_)));refine(aj _ rfl (aj _ rfl (jN p C dx _ rfl au T.cl T.nb (by show 2<1000;decide) ?_)));refine q _ (λb o e hne=>?_) ?_;.rw[bw hne,bw hne,bw hne];exact s1 _ _ e
  .exact au
def atC (ao:AA)(r w:Nat)(i j:Int):Nat:=if 0<=i/\i<r/\0<=j/\j<w then (ao.getD i.toNat []).getD j.toNat 0 else 46
def ZR (C:Addr):Sp:=λvs H Q _=>∃(p:Addr) (r w:Nat) (ao aF:AA) (bi bj:Nat) (i j:Int),vs=[.ref p,.int i,.int j]/\dz C H p r w ao aF bi bj/\Q (.str (S [atC ao r w i j])) H
def agd (F:iD K "at" "Board.at" jO f fd)(T:d_ K C)(dH:∃t,mg "FREE"=some (.str (S [46]) t))(tR:bF P w K mg base "is_cell_of" 2 ["rows","row","column"] (Dd K)):cL P w K mg base fW 3 f fd ["self","row","column"] (ZR C):=by
 refine F.cY O_ (λvs H Q E h=>?_) (λbD A outer s H vs Q E hr h=>?_)
 .obtain⟨p,r,w,ao,aF,bi,bj,i,j,rfl,_⟩:=h;rfl
 .obtain⟨p,r,w,ao,aF,bi,bj,i,j,rfl,B,q⟩:=h;obtain⟨⟨dx,pr,pm,pb,hp,hr',hm,hb⟩,O⟩:=B;have w9:=O.w9;refine(aj _ (aL (aX (jK (gU (aZ tR hr.mono rfl (ak (eN (qv 0) rfl) (ak (qv 1) (ak (qv 2) aA))))) (bB Gx (bB bV (eN (qv 0) rfl) (qv 1) (λ_ _=>rfl)) (qv 2) (λ_ _=>rfl)) (lU vT dH)))) ?_);refine(aj _ rfl (iT p C dx _ _ rfl hp T.cl T.nr rfl (aj _ rfl (aj _ rfl ⟨pr,ao,r,w,i,j,rfl,aU.of hr',O.br,O.r1,O.r9,O.w9,aj _ rfl ?_⟩))));by_cases h:0<=i/\i<r/\0<=j/\j<w
  .rw[aE h];have e:atC ao r w i j=(ao.getD i.toNat []).getD j.toNat 0:=if_pos h;rw[e]at q;obtain⟨i,rfl⟩:∃k:Nat,i=k:=⟨i.toNat,vE⟩
   obtain⟨j,rfl⟩:∃k:Nat,j=k:=⟨j.toNat,vE⟩
   rw[du,du]at q;have hi:i<ao.length:=by rw[O.br.len];simp_all
   have hgi:ao[i]?=some (ao.getD i []):=by rw[al,ae hi];rfl
   have hw:(ao.getD i []).length=w:=O.br.jr _ (aT hgi);have hgj:(ao.getD i [])[j]?=some ((ao.getD i []).getD j 0):=by rw[al (l:=ao.getD i []),ae (by simp_all)];rfl
   refine cB (aj _ rfl (iT p C dx _ _ rfl hp T.cl T.nr rfl (aj _ rfl (bK pr _ _ _ rfl rfl (aU.of hr') (aN (qp hgi)) (aj _ rfl (ig _ _ _ rfl rfl (ay (aM vE)) (aN hgj) q))))))
  .rw[am h];have e:atC ao r w i j=46:=if_neg h;rw[e]at q;exact cA q
def isFree (ao:AA):Bool:=ao.flatten.all λc=>decide ([c]=[46])
def W5 (C:Addr):Sp:=λvs H Q _=>∃(p:Addr) (r w:Nat) (ao aF:AA) (bi bj:Nat),vs=[.ref p]/\dz C H p r w ao aF bi bj/\∀H',aB H H'->Q (.bl (isFree ao)) H'
def T7 (F:iD K "is_free" "Board.is_free" fP f fd)(T:d_ K C)(fZ:mg "all"=none)(dH:∃t,mg "FREE"=some (.str (S [46]) t)):cL P w K mg base fW 1 f fd ["self"] (W5 C):=by
 refine F.cY tL (λvs H Q E h=>?_) (λbD A outer s H vs Q E hr h=>?_)
 .obtain⟨p,r,w,ao,aF,bi,bj,rfl,_⟩:=h;rfl
 .obtain⟨p,r,w,ao,aF,bi,bj,rfl,B,q⟩:=h;obtain⟨⟨dx,pr,pm,pb,hp,hr',hm,hb⟩,O⟩:=B;have hrw:r*w<=81:=kd O.r9 O.w9;have hfl:=tE O.br;refine(aj _ (aL (aX (bh (kZ rfl) vT fZ k_ (ak (f9 rfl (fH.of tL.nd v0) (zf (fB ci fh fi CG (cG [] v_) (ak (eN (qv 0) rfl) aA))) (λ_ _ _ _ _=>cF) (λ_ _ _ _ _=>(gJ yZ (qv 0) (lU vT dH) (bU _)))) aA)))) ?_);refine⟨rfl,aj _ rfl (iT p C dx _ _ rfl hp T.cl T.nr rfl (fY pr ao rfl rfl (aU.of hr') vE (aj _ rfl (λL hL=>?_))))⟩;refine wM (λi ys H2=>ys=((ao.flatten.take i).map λc=>decide ([c]=[46])).map V.bl/\H2 L=some (.lst ys)/\aB H H2) ⟨rfl,au,aB.upd hL⟩ ?_ ?_
  .rintro i c ys H2 hi ⟨rfl,hL2,sm⟩;have hil:i<ao.flatten.length:=(ai.mp hi).1;refine(aj _ rfl (fY [c] [46] rfl rfl hL2 ?_ (dJ.mk hil ⟨?_,au,sm.bG hL⟩)));.rw[aa,aa,bn];exact aM vE
   .rw[bz,hi];simp
  .rintro ys H2 ⟨rfl,hL2,sm⟩;rw[cz]at hL2;refine(aR L _ rfl (aQ.of hL2) ?_);have e:((ao.flatten.map λc=>decide ([c]=[46])).all id)=isFree ao:=by
    unfold isFree;rw[List.all_map];rfl
   rw[e];exact q H2 sm
def jT (ao:AA)(j:Nat):List Nat:=ao.map λl=>l.getD j 0
def lineOf (ao:AA)(i j:Nat)(way:Int):List Nat:=if way=0 then ao.getD i [] else jT ao j
def placeOf (i j:Nat)(way:Int):Nat:=if way=0 then j else i
def T8:Sp:=λvs H Q _=>∃(p:Addr) (ao:AA) (r w j:Nat),vs=[.ref p,.int j]/\H p=some (.tup (Ts ao))/\Blk r w ao/\r<=9/\w<=9/\j<w/\∀H',aB H H'->Q (.str (S (jT ao j))) H'
def Hr (D:aK K mg "column_text" mW ["rows","column"]):bF P w K mg base "column_text" 1 ["rows","column"] T8:=by
 refine D.cY vU (λvs H Q E h=>?_) (λf bD A outer s H vs Q E hr h=>?_)
 .obtain⟨p,ao,r,w,j,rfl,_⟩:=h;rfl
 .obtain⟨p,ao,r,w,j,rfl,hp,hb,r9,w9,hj,q⟩:=h;refine(aj _ (aL (aX (fB ci fh fi sG (cG [] v_) (ak (f9 rfl (fH.of vU.nd v0) (iG (qv 0)) (λ_ _ _ _ _=>cF) (λ_ _ _ _ _=>(bB Gx (qv 0) (qv 2) (λ_ _=>rfl)))) aA)))) ?_);have iV:(Ts ao).length=r:=by rw[aa,hb.len]
  refine⟨rfl,aj _ rfl (aO p rfl ⟨_,aU.of hp⟩ (λL hL=>wN (xs:=Ts ao) (λi ys H2=>ys=Ts (ones ((ao.take i).map λl=>l.getD j 0))/\H2 L=some (.lst ys)/\aB H H2) ⟨rfl,au,aB.upd hL⟩ (λi ys H2 _ h=>aU.of (h.2.2 _ _ hp)) ?_ ?_))⟩
  .rintro i x ys H2 hi ⟨rfl,hL2,sm⟩;obtain⟨l,hl,rfl⟩:=qH hi;have hil:i<(Ts ao).length:=(ai.mp hi).1;have W2:l.length=w:=hb.jr _ (aT hl);refine(aj _ rfl (aj _ rfl (pZ l _ (l.getD j 0) rfl rfl (ay (aM vE)) ?_ hL2 ?_ (dJ.mk hil ⟨?_,au,sm.bG hL⟩))));.exact aN (by rw[al,ae (by simp_all)];rfl)
   .rw[aa,aa,aa,bn];exact aM (by grind)
   .rw[jZ,qG,bz,hl];simp
  .rintro ys H2 ⟨rfl,hL2,sm⟩;rw[iV,<-hb.len,cz]at hL2;refine(fY L _ rfl rfl (aQ.of hL2) ?_ ?_);.rw[ni,aa,hb.len];lia
   .rw[ni];exact q H2 sm
def oO {r w:Nat}{ao:AA}(hb:Blk r w ao){i j:Nat}(hi:i<r){way:Int}:(lineOf ao i j way).length=if way=0 then w else r:=by
 unfold lineOf;by_cases h:way=0
 .rw[if_pos h,if_pos h,al,ae (by rw[hb.len];exact hi)];exact hb.jr _ (a8 _)
 .rw[if_neg h,if_neg h];unfold jT;rw[aa,hb.len]
def lE (l):(cQ l).length<=l.length:=by unfold cQ;rw[List.length_reverse];exact a9 (ny _).length_le (by rw[List.length_reverse];exact ag _)
def qI (l):(dW l).length<=l.length:=(ny _).length_le
noncomputable def Df (i j:Nat)(way:Int)(l:List Nat):List V:=if way=0 then [.int i,.int ((j:Int)-(cQ (l.take j)).length),.str (S (cQ (l.take j)++dW (l.drop j)))] else [.int ((i:Int)-(cQ (l.take i)).length),.int j,.str (S (cQ (l.take i)++dW (l.drop i)))]
def T9 (C:Addr):Sp:=λvs H Q _=>∃(p:Addr) (r w:Nat) (ao aF:AA) (bi bj i j:Nat) (way:Int),vs=[.ref p,.int i,.int j,.int way]/\dz C H p r w ao aF bi bj/\i<r/\j<w/\(way=0\/way=1)/\
 ∀(t:Addr) (H':Hp),aB H H'->H t=none->H' t=some (.tup (Df i j way (lineOf ao i j way)))->Q (.ref t) H'
def aeR (F:iD K "run" "Board.run" jl f fd)(T:d_ K C)(bI:mg "len"=none)(dH:∃t,mg "FREE"=some (.str (S [46]) t))(qT:bF P w K mg base "column_text" 1 ["rows","column"] T8):cL P w K mg base fW 2 f fd ["self","row","column","way"] (T9 C):=by
 refine F.cY jC (λvs H Q E h=>?_) (λbD A outer s H vs Q E hr h=>?_)
 .obtain⟨p,r,w,ao,aF,bi,bj,i,j,way,rfl,_⟩:=h;rfl
 .obtain⟨p,r,w,ao,aF,bi,bj,i,j,way,rfl,B,hi,hj,zF,q⟩:=h;obtain⟨⟨dx,pr,pm,pb,hp,hr',hm,hb⟩,O⟩:=B;have r9:=O.r9;have w9:=O.w9;refine(aj _ (aG (aV (i:=4) jC.nd rfl (Or.inl rfl) (jK (bZ jc (qv 3) aD (bU _)) (bB bV (eN (qv 0) rfl) (qv 1) (λ_ _=>rfl)) (aZ qT hr.mono rfl (ak (eN (qv 0) rfl) (ak (qv 2) aA))))) (aG (aV (i:=5) jC.nd rfl (Or.inl rfl) (jK (bZ jc (qv 3) aD (bU _)) (qv 2) (qv 1))) (aG (aV (i:=6) jC.nd rfl (Or.inl rfl) (bB bV (fB ci PySem.F.slot_str_rpartition PySem.F.type_str_rpartition Y8 (kY K8 (qv 4) vI (jy (qv 5))) (ak (lU vT dH) aA)) aD (λ_ _=>rfl))) (aG (aV (i:=7) jC.nd rfl (Or.inl rfl) (aP sE (qv 6) (bB bV (fB ci PySem.F.slot_str_partition PySem.F.type_str_partition abE (kY K8 (qv 4) (jy (qv 5)) vI) (ak (lU vT dH) aA)) aD (λ_ _=>rfl)))) (aG (aV (i:=8) jC.nd rfl (Or.inl rfl) (aP qx (qv 5) (bh d9 vT bI ck (ak (qv 6) aA)))) (aL (aX (jK (bZ jc (qv 3) aD (bU _)) (cO (ak (qv 1) (ak (qv 8) (ak (qv 7) aA)))) (cO (ak (qv 8) (ak (qv 2) (ak (qv 7) aA)))))))))))) ?_);have hgi:ao[i]?=some (ao.getD i []):=by rw[al,ae (by rw[O.br.len];exact hi)];rfl
  rcases zF with rfl|rfl
  .have hll:(lineOf ao i j 0).length=w:=oO O.br hi;have el:ao.getD i []=lineOf ao i j 0:=rfl;rw[el]at hgi;have hz:∀l:List Nat,l.length<=100->l.length<=sizeLine:=λl h=>ay (aM vE);refine(aO _ rfl rfl (aj _ rfl (cB ?_)));refine(aj _ rfl (iT p C dx _ _ rfl hp T.cl T.nr rfl (aj _ rfl (bK pr _ _ _ rfl rfl (aU.of hr') (aN (qp hgi)) ?_))));generalize hL:lineOf ao i j 0=l at hll hgi ⊢;refine(aO _ rfl rfl (aj _ rfl (cB (aj _ rfl ?_))));refine(aj _ rfl (aj _ rfl (aj _ rfl (dX l rfl (hz _ vE) rfl ?_))));rw[Le];refine(dX _ rfl rfl (by rw[bn];grind) (λp1 a1 b1 hp1=>?_));refine(bK p1 _ _ _ rfl rfl (aU.of au) (aN (j:=2) rfl) ?_);have s1:aB H (upd H p1 (.tup [.str a1,.str b1,.str (S (cQ (l.take j)))])):=aB.upd hp1;generalize upd H p1 (.tup [.str a1,.str b1,.str (S (cQ (l.take j)))])=H1 at s1 ⊢;have t1:=lE (l.take j);have t2:=qI (l.drop j);rw[bn]at t1;rw[dP]at t2;refine(aj _ rfl (aj _ rfl (aj _ rfl (aj _ rfl (dX l rfl (hz _ vE) rfl ?_)))));rw[wO];refine(dX _ rfl rfl (by rw[dP];exact a9 (ue _ _) vE) (λp2 b2 c2 hp2=>?_));refine(bK p2 _ _ _ rfl rfl (aU.of au) (aN (j:=0) rfl) (aY _ _ rfl rfl (ay (aM (by grind))) ?_));have s2:=s1.bG (o:=HO.tup [.str (S (dW (l.drop j))),.str b2,.str c2]) (s1.free hp2);generalize upd H1 p2 (HO.tup [.str (S (dW (l.drop j))),.str b2,.str c2])=H2 at s2 ⊢;refine(aj _ rfl (aj _ rfl (aO _ rfl (hz _ vE) (aR _ _ rfl rfl ?_))));refine(aO _ rfl rfl (aj _ rfl (cB ?_)));refine(aj _ rfl (aj _ rfl (aO _ rfl (zsz 3) (λt ht=>?_))));exact q t _ (s2.bG (s2.free ht)) (s2.free ht) (by rw[au,hL];rfl)
  .have hll:(lineOf ao i j 1).length=r:=oO O.br hi;have el:jT ao j=lineOf ao i j 1:=rfl;have hz:∀l:List Nat,l.length<=100->l.length<=sizeLine:=λl h=>ay (aM vE);refine(aO _ rfl rfl (aj _ rfl (cA ?_)));refine(aj _ rfl (iT p C dx _ _ rfl hp T.cl T.nr rfl (aj _ rfl (uF pr ao r w j rfl hr' O.br r9 w9 hj (λH0 s0=>?_)))));rw[el];generalize hL:lineOf ao i j 1=l at hll ⊢;refine(aO _ rfl rfl (aj _ rfl (cA (aj _ rfl ?_))));refine(aj _ rfl (aj _ rfl (aj _ rfl (dX l rfl (hz _ vE) rfl ?_))));rw[Le];refine(dX _ rfl rfl (by rw[bn];lia) (λp1 a1 b1 hp1=>?_));refine(bK p1 _ _ _ rfl rfl (aU.of au) (aN (j:=2) rfl) ?_);have s1:aB H (upd H0 p1 (.tup [.str a1,.str b1,.str (S (cQ (l.take i)))])):=s0.bG (s0.free hp1);generalize upd H0 p1 (.tup [.str a1,.str b1,.str (S (cQ (l.take i)))])=H1 at s1 ⊢;have t1:=lE (l.take i);have t2:=qI (l.drop i);rw[bn]at t1;rw[dP]at t2;refine(aj _ rfl (aj _ rfl (aj _ rfl (aj _ rfl (dX l rfl (hz _ vE) rfl ?_)))));rw[wO];refine(dX _ rfl rfl (by rw[dP];lia) (λp2 b2 c2 hp2=>?_));refine(bK p2 _ _ _ rfl rfl (aU.of au) (aN (j:=0) rfl) (aY _ _ rfl rfl (ay (aM vE)) ?_));have s2:=s1.bG (o:=HO.tup [.str (S (dW (l.drop i))),.str b2,.str c2]) (s1.free hp2);generalize upd H1 p2 (HO.tup [.str (S (dW (l.drop i))),.str b2,.str c2])=H2 at s2 ⊢;refine(aj _ rfl (aj _ rfl (aO _ rfl (hz _ vE) (aR _ _ rfl rfl ?_))));refine(aO _ rfl rfl (aj _ rfl (cA ?_)));refine(aj _ rfl (aj _ rfl (aO _ rfl (zsz 3) (λt ht=>?_))));exact q t _ (s2.bG (s2.free ht)) (s2.free ht) (by rw[au,hL];rfl)
abbrev bL:=Nat×Nat×Nat
def rk (t:bL):Nat:=t.1*1000+t.2.1
def sw (t:bL):bL:=(t.2.1,t.1,t.2.2)
def qJ (t:bL):Prop:=t.1<9/\t.2.1<9/\t.2.2<128
def zR (H:Hp)(a:Addr)(t:bL):Prop:=H a=some (.tup [.int t.1,.int t.2.1,.str (S [t.2.2])])
noncomputable def tO (H:Hp)(a:Addr):bL:=match H a with| some (.tup [.int x,.int y,.str z])=>(x.toNat,y.toNat,z.cps.toList.headD 0)| _=>(0,0,0)
def T_ (h:zR H a t):tO H a=t:=by unfold tO;rw[show H a=_ from h];rfl
structure cT (H:Hp)(as:List Addr)(ts:List bL):Prop where
 at_:∀a∈as,zR H a (tO H a)
 eq:as.map (tO H)=ts
def cT.gG (k:∀a xs,H a=some (.tup xs)->H' a=some (.tup xs))(h:cT H as ts):cT H' as ts:=by have e:∀a∈as,tO H' a=tO H a:=λa ha=>T_ (k a _ (h.at_ a ha));exact⟨λa ha=>by rw[e a ha];exact k a _ (h.at_ a ha),by rw[<-h.eq];exact eI e⟩
def cT.mv (k:aB H H')(h:cT H as ts):cT H' as ts:=h.gG λa xs e=>k a _ e
def dI (hM:H M=some (.lst ys)):∀a xs,H a=some (.tup xs)->upd H M (.lst zs) a=some (.tup xs):=λa xs e=>by
 have ne:a≠M:=λz=>by rw[z,hM]at e;cases e
 rw[bw ne];exact e
def cT.snoc (h:cT H as ts)(ha:zR H a t):cT H (as++[a]) (ts++[t]):=by
 refine⟨λb hb=>?_,by rw[bv,h.eq,oQ,T_ ha]⟩;rcases ba.mp hb with z|z;.exact h.at_ b z
 .rw[ap.mp z,T_ ha];exact ha
def cT.nil:cT H [] []:=⟨λa h=>by simp at h,rfl⟩
def cT.len (h:cT H as ts):as.length=ts.length:=by rw[<-h.eq,aa]
def cT.get (h:cT H as ts)(hi:i<as.length):∃t,ts[i]?=some t/\zR H as[i] t:=(aj (tO H as[i]) (by rw[<-h.eq];simp[hi]) (h.at_ _ (a8 _)))
def cT.perm {as as':List Addr}(h:cT H as ts)(p:as'.Perm as):cT H as' (as'.map (tO H))/\(as'.map (tO H)).Perm ts:=⟨⟨λa ha=>h.at_ a (p.mem_iff.mp ha),rfl⟩,by rw[<-h.eq];exact p.map _⟩
def bx (ao:AA)(w:Nat):List (List Nat):=(List.range w).map (jT ao)
def jo {r w:Nat}{ao:AA}(h:Blk r w ao):Blk w r (bx ao w):=
 ⟨by unfold bx;rw[aa,dC],λl hl=>by obtain⟨j,_,rfl⟩:=ar.mp hl;unfold jT;rw[aa,h.len]⟩
def xU {r w:Nat}{ao:AA}(h:Blk r w ao){Pc:Nat->Prop}(hp:∀l∈ao,∀c∈l,Pc c):∀l∈bx ao w,∀c∈l,Pc c:=λl hl c hc=>by obtain⟨j,hj,rfl⟩:=ar.mp hl;have hj:=bE.mp hj;obtain⟨l',hl',rfl⟩:=ar.mp hc;have hw:=h.jr l' hl';rw[al,ae (by simp_all)];exact hp l' hl' _ (a8 _)
def JD {r w:Nat}{ao:AA}(h:Blk r w ao):bx (bx ao w) r=ao:=by
 apply nL;.unfold bx;rw[aa,dC,h.len]
 .intro i h1 h2;have hw:=h.jr ao[i] (a8 _);rw[show (bx (bx ao w) r)[i]=jT (bx ao w) i by simp[bx]];unfold jT bx;rw[b6];apply nL;.rw[aa,dC,hw]
  .intro j h3 h4;rw[nN,List.getElem_range];show (ao.map λl=>l.getD j 0).getD i 0=ao[i][j];rw[al,ae (by rw[aa];exact h2),nN];show (ao[i]).getD j 0=_;rw[al,ae h4];rfl
def M7 {r w:Nat}{ao aF:AA}{bi bj:Nat}(B:Fp r w ao aF bi bj):Fp w r (bx ao w) (bx aF w) bj bi:=⟨B.w1,B.w9,B.r1,B.r9,jo B.br,jo B.bm,xU B.br B.cr,xU B.bm B.cm,B.bj,B.bi⟩
def setAt (R:AA)(i j z:Nat):List (List Nat):=R.set i ((R.getD i []).set j z)
def dD (R:AA)(ts:List bL):List (List Nat):=ts.foldl (λR t=>setAt R t.1 t.2.1 t.2.2) R
def Hs {r w:Nat}{R:AA}(h:Blk r w R){i j z:Nat}(hi:i<r):Blk r w (setAt R i j z):=by
 refine⟨by unfold setAt;rw[og,h.len],λl hl=>?_⟩;rcases oo hl with y|y;.exact h.jr l y
 .rw[y,og,al,ae (by rw[h.len];exact hi)];exact h.jr _ (a8 _)
def aci {r w:Nat}{R:AA}(h:Blk r w R){i j z:Nat}(hi:i<r){Pc:Nat->Prop}(hp:∀l∈R,∀c∈l,Pc c)(hz:Pc z):∀l∈setAt R i j z,∀c∈l,Pc c:=λl hl c hc=>by
 rcases oo hl with y|y;.exact hp l y c hc
 .rw[y]at hc;rcases oo hc with u|u
  .rw[al,ae (by rw[h.len];exact hi)]at u;exact hp _ (a8 _) c u
  .rw[u];exact hz
def inB (r w:Nat)(t:bL):Prop:=t.1<r/\t.2.1<w/\uO t.2.2
theorem jU {r w:Nat}:∀{ts:List bL} {R:AA},Blk r w R->(∀t∈ts,inB r w t)->Blk r w (dD R ts)
 | [],_,h,_=>h
 | t::ts,_,h,k=>jU (ts:=ts) (Hs h (k t a6).1) λx hx=>k x (aI _ hx)
theorem M8 {r w:Nat}:∀{ts:List bL} {R:AA},Blk r w R->(∀t∈ts,inB r w t)->(∀l∈R,∀c∈l,Ce c)->∀l∈dD R ts,∀c∈l,Ce c
 | [],_,_,_,g=>g
 | t::ts,_,h,k,g=>M8 (ts:=ts) (Hs h (k t a6).1) (λx hx=>k x (aI _ hx)) (aci h (k t a6).1 g (.inr (k t a6).2.2))
def ZS {r w:Nat}{ao aF:AA}{bi bj:Nat}(B:Fp r w ao aF bi bj)(k:∀t∈ts,inB r w t):Fp r w (dD ao ts) aF bi bj:=⟨B.r1,B.r9,B.w1,B.w9,jU B.br k,B.bm,M8 B.br k B.cr,B.cm,B.bi,B.bj⟩
def W6 (R)(ts:List bL)(t:bL):dD R (ts++[t])=setAt (dD R ts) t.1 t.2.1 t.2.2:=by unfold dD;rw[List.foldl_append];rfl
structure gn (H0 H:Hp)(ps:List Addr)(R:AA):Prop where
 len:ps.length=R.length
 nd:ps.Nodup
 fr:∀p∈ps,H0 p=none
 at_:∀(i:Nat) (h:i<ps.length),H ps[i]=some (.lst (Ts (ones (R.getD i []))))
def gn.mv (h:gn H0 H ps R)(k:∀p∈ps,H' p=H p):gn H0 H' ps R:=⟨h.len,h.nd,h.fr,λi hi=>by rw[k _ (a8 _)];exact h.at_ i hi⟩
def gn.mvS (h:gn H0 H ps R)(k:aB H H'):gn H0 H' ps R:=⟨h.len,h.nd,h.fr,λi hi=>k _ _ (h.at_ i hi)⟩
def gn.snoc (h:gn H0 H ps R)(hn:p∉ps)(h0:H0 p=none)(hp:H p=some (.lst (Ts (ones l)))):gn H0 H (ps++[p]) (R++[l]):=by
 refine⟨by simp[h.len],?_,λx hx=>?_,λi hi=>?_⟩
 .rw[List.nodup_append];refine⟨h.nd,vF,λa ha b hb=>?_⟩;rw[ap.mp hb];exact λz=>hn (z ▸ ha)
 .rcases ba.mp hx with z|z;.exact h.fr x z
  .rw[ap.mp z];exact h0
 .by_cases c:i<ps.length;.rw[List.getElem_append_left c,h.at_ i c,al,al,dQ (by rw[<-h.len];exact c)]
  .have e:i=ps.length:=by simp at hi;lia
   subst e;rw[List.getElem_append_right (ag _)];simp only[lx,List.getElem_singleton];rw[hp,al,c_ (by rw[h.len];exact ag _),h.len];simp
def gn.set (h:gn H0 H ps R)(hi:i<ps.length):gn H0 (upd H ps[i] (.lst ((Ts (ones (R.getD i []))).set j (.str (S [z]))))) ps (setAt R i j z):=by
 have e:(Ts (ones (R.getD i []))).set j (.str (S [z]))=Ts (ones ((R.getD i []).set j z)):=by show List.set (((R.getD i []).map λc=>[c]).map λl=>V.str (S l)) j (V.str (S [z]))=((List.set (R.getD i []) j z).map λc=>[c]).map λl=>V.str (S l);rw[List.map_set,List.map_set]
 rw[e];refine⟨by unfold setAt;rw[og];exact h.len,h.nd,h.fr,λk hk=>?_⟩;by_cases c:k=i
 .subst c;rw[au];unfold setAt;rw[al (l:=R.set _ _),gV (by rw[<-h.len];exact hi)];rfl
 .rw[bw (λz=>c ((List.getElem_inj h.nd).mp z)),h.at_ k hk];unfold setAt;rw[al (l:=R.set _ _),kN (λz=>c z.symm),<-al]
def aeS:Sp:=λvs H Q _=>∃(p:Addr) (ao:AA) (r w:Nat),vs=[.ref p]/\H p=some (.tup (Ts ao))/\Blk r w ao/\1<=r/\r<=9/\w<=9/\∀(p':Addr) (H':Hp),aB H H'->H' p'=some (.tup (Ts (bx ao w)))->Q (.ref p') H'
def Hu (D:aK K mg "turned_rows" mX ["rows"])(bI:mg "len"=none)(fV:mg "range"=none)(bN:mg "tuple"=none)(qT:bF P w K mg base "column_text" 1 ["rows","column"] T8):bF P w K mg base "turned_rows" 2 ["rows"] aeS:=by
 refine D.cY vV (λvs H Q E h=>?_) (λf bD A outer s H vs Q E hr h=>?_)
 .obtain⟨p,ao,r,w,rfl,_⟩:=h;rfl
 .obtain⟨p,ao,r,w,rfl,hp,hb,r1,r9,w9,q⟩:=h;refine(aj _ (aL (aX (cP dg vT bN cE (ak (f9 rfl (fH.of vV.nd v0) (nJ vT fV (ak (bh d9 vT bI ck (ak (bB bV (qv 0) aD (λ_ _=>rfl)) aA)) aA)) (λ_ _ _ _ _=>cF) (λ_ _ _ _ _=>(aZ qT hr.mono rfl (ak (qv 1) (ak (qv 0) aA))))) aA)))) ?_);have h0:0<ao.length:=by rw[hb.len];exact r1
  have w0:ao[0].length=w:=hb.jr _ (a8 _);refine(aj _ rfl (bK p _ _ (.str (S ao[0])) rfl rfl (aU.of hp) (aN (j:=0) (qp (by simp[h0]))) (aO _ rfl (ay (aM vE)) (dX _ rfl (lS _) vE ?_))));intro M hM;rw[du,w0];refine Ec (lo:=0) (n:=w) (λi ys H2=>ys=Ts ((List.range i).map (jT ao))/\H2 M=some (.lst ys)/\aB H H2) ⟨rfl,au,aB.upd hM⟩ ?_ ?_
  .rintro i ys H2 hi ⟨rfl,qK,sm⟩;refine(aj _ rfl (aj _ rfl (uF p ao r w i (by rw[Int.zero_add];rfl) (sm _ _ hp) hb r9 w9 hi (λH3 s3=>⟨s3 _ _ qK,?_,dJ.mk hi ⟨?_,au,(sm.trans s3).bG hM⟩⟩))));.rw[aa,aa,dC];exact aM vE
   .rw[jZ,e6,bv];rfl
  .rintro ys H2 ⟨rfl,qK,sm⟩;refine⟨M,_,rfl,.inl ⟨aQ.of qK,λl hl=>?_⟩⟩;exact q l _ (sm.bG (sm.free hl)) au
def Dg (C:Addr):Sp:=λvs H Q _=>∃(p:Addr) (r w:Nat) (ao aF:AA) (bi bj:Nat),vs=[.ref p]/\dz C H p r w ao aF bi bj/\∀(p':Addr) (H':Hp),aB H H'->dz C H' p' w r (bx ao w) (bx aF w) bj bi->Q (.ref p') H'
def W7 (F:iD K "turned" "Board.turned" gk f fd)(T:d_ K C)(tU:mg "Board"=some (.ref C))(wg:Mk K C f0)(wj:cL P w K mg base fW 5 f0 oR ["self","rows","marks","begin"] (Bp C))(wk:cj K oR ["self","rows","marks","begin"] [])(yH:bF P w K mg base "turned_rows" 2 ["rows"] aeS):cL P w K mg base fW 8 f fd ["self"] (Dg C):=by
 refine F.cY uI (λvs H Q E h=>?_) (λbD A outer s H vs Q E hr h=>?_)
 .obtain⟨p,r,w,ao,aF,bi,bj,rfl,_⟩:=h;rfl
 .obtain⟨p,r,w,ao,aF,bi,bj,rfl,BA,q⟩:=h;obtain⟨⟨dx,pr,pm,pb,hx,hpr,hpm,hpb⟩,B⟩:=BA;refine(aj _ (aG (aV (i:=1) uI.nd rfl (Or.inl rfl) (cO (ak (bB bV (eN (qv 0) rfl) aD (λ_ _=>rfl)) (ak (bB bV (eN (qv 0) rfl) aD (λ_ _=>rfl)) aA)))) (aL (aX (Ay wg wj hr.mono rfl tU wk .nil gD (ak (aZ yH hr.mono rfl (ak (eN (qv 0) rfl) aA)) (ak (aZ yH hr.mono rfl (ak (eN (qv 0) rfl) aA)) (ak (qv 1) aA))))))) ?_);refine(aj _ rfl (iT p C dx _ _ rfl hx T.cl T.nb rfl (bK pb _ _ (.int bj) rfl rfl (aU.of hpb) (aN (j:=1) rfl) ?_)));refine(aj _ rfl (iT p C dx _ _ rfl hx T.cl T.nb rfl (jN pb _ _ (.int bi) rfl rfl (aU.of hpb) (aN (j:=0) rfl) (zsz 2) (λb hb=>?_))));have s1:aB H (upd H b (.tup [.int bj,.int bi])):=aB.upd hb;refine(aj _ rfl (iT p C dx _ _ rfl (s1 _ _ hx) T.cl T.nr rfl ⟨pr,ao,r,w,rfl,s1 _ _ hpr,B.br,B.r1,B.r9,B.w9,λp1 H1 t1 h1=>?_⟩));have s2:=s1.trans t1;refine(aj _ rfl (iT p C dx _ _ rfl (s2 _ _ hx) T.cl T.nm rfl ⟨pm,aF,r,w,rfl,s2 _ _ hpm,B.bm,B.r1,B.r9,B.w9,λp2 H2 t2 h2=>?_⟩));have s3:=s2.trans t2;refine(aj _ rfl (λx dy nx ndx nex=>?_));have s4:aB H2 (upd (upd H2 dy (HO.own x)) x (HO.ins C dy [])):=λb o e=>by rw[bw (bM e nx),bw (bM e ndx)];exact e
  have hb2:H2 b=some (.tup [.int bj,.int bi]):=t2 _ _ (t1 _ _ au);refine⟨x,dy,p1,p2,b,w,r,bx ao w,bx aF w,bj,bi,rfl,au,s4 _ _ (t2 _ _ h1),s4 _ _ h2,s4 _ _ hb2,M7 B,λH3 kp hx3=>⟨rfl,?_⟩⟩;have s5:aB H2 H3:=λb o e=>kp b o (s4 b o e) (bM e nx);exact q x H3 (s3.trans s5) ⟨⟨dy,p1,p2,b,hx3,s5 _ _ (t2 _ _ h1),s5 _ _ h2,s5 _ _ hb2⟩,M7 B⟩
def M9 (C:Addr):Sp:=λvs H Q _=>∃(p t:Addr) (as:List Addr) (ts:List bL) (r w:Nat) (ao aF:AA) (bi bj:Nat),vs=[.ref p,.ref t]/\dz C H p r w ao aF bi bj/\H t=some (.tup (as.map V.ref))/\cT H as ts/\(∀t∈ts,inB r w t)/\
 ∀(p':Addr) (H':Hp),aB H H'->dz C H' p' r w (dD ao ts) aF bi bj->Q (.ref p') H'
def acj (F:iD K "laid" "Board.laid" iI f fd)(T:d_ K C)(lu:mg "list"=none)(bN:mg "tuple"=none)(tU:mg "Board"=some (.ref C))(wg:Mk K C f0)(wj:cL P w K mg base fW 5 f0 oR ["self","rows","marks","begin"] (Bp C))(wk:cj K oR ["self","rows","marks","begin"] []):cL P w K mg base fW 8 f fd ["self","laying"] (M9 C):=by
 refine F.cY iZ (λvs H Q E h=>?_) (λbD A outer s H vs Q E hr h=>?_)
 .obtain⟨p,t,as,ts,r,w,ao,aF,bi,bj,rfl,_⟩:=h;rfl
 .obtain⟨p,t,as,ts,r,w,ao,aF,bi,bj,rfl,BA,ht,hL,cV,q⟩:=h;obtain⟨⟨dx,pr,pm,pb,hx,hpr,hpm,hpb⟩,B⟩:=BA;have r9:=B.r9;have w9:=B.w9;have hbr:=B.br;refine(aj _ (aG (GF (ix:=2) (ns:=["row"]) iZ.nd rfl (Or.inl rfl) rfl (fu.of ["self","laying","lines",".3","column","sign"] [3] v0) (iG (eN (qv 0) rfl)) (λ_ _ _ _ _=>(pH (show (["row","self","laying","lines",".3","column","sign"]:List Str).Nodup by decide +kernel) rfl vT)) (λ_ _ _ _ _=>cF) (λ_ _ _ _ _=>(cP (Ej rfl) vT lu qr (ak (qv 0) aA)))) (aG (fJ c9 rfl (iG (qv 1)) (oh rfl (dj (bY (i:=3) iZ.nd rfl (Or.inl rfl)) (dj (bY (i:=4) iZ.nd rfl (Or.inl rfl)) (dj (bY (i:=5) iZ.nd rfl (Or.inl rfl)) lN)))) (aL (Vy (qv 5) (ad8 (bB fU (qv 2) (qv 3) (λ_ _=>rfl)) (qv 4) set_list)))) (aL (aX (Ay wg wj hr.mono rfl tU wk .nil gD (ak (cP dg vT bN cE (ak (f9 rfl (fH.of iZ.nd v0) (eG (qv 2)) (λ_ _ _ _ _=>cF) (λ_ _ _ _ _=>(ad9 K ci fh fi (Y6 K) (cG [] v_) (ak (qv 0) aA)))) aA)) (ak (eN (qv 0) rfl) (ak (eN (qv 0) rfl) aA)))))))) ?_);refine(aj _ rfl (iT p C dx _ _ rfl hx T.cl T.nr rfl (aO pr rfl ⟨_,aU.of hpr⟩ (λM hM=>wQ (f:=eU [3] 0) (tt:=gF) (xs:=Ts ao) (λi ys H2=>∃ps:List Addr,ys=ps.map V.ref/\H2 M=some (.lst ys)/\aB H H2/\gn H H2 ps (ao.take i)/\M∉ps)
   (cW [] rfl au (aB.upd hM) ⟨vF,np,λp h=>by simp at h,λi h=>by simp at h⟩ vF) (λi ys H2 _ h=>by obtain⟨_,_,_,sm,_⟩:=h;exact aU.of (sm _ _ hpr)) ?_ ?_))))
  .rintro i x ys H2 hi ⟨ps,rfl,qK,sm,yI,nM⟩;obtain⟨l,hl,rfl⟩:=qH hi;have hil:i<(Ts ao).length:=(ai.mp hi).1;have W2:l.length=w:=hbr.jr _ (aT hl);have iV:(Ts ao).length=r:=by rw[aa,hbr.len]
   have hpl:ps.length<=9:=by rw[yI.len,bn,hbr.len];lia
   refine Kq (aj _ rfl (aO l rfl vE (λc hc=>?_)));have ncM:M≠c:=λz=>by rw[<-z,qK]at hc;cases hc
   have ncp:c∉ps:=λz=>by obtain⟨k,hk,e⟩:=cx.mp z;have:=yI.at_ k hk;rw[e,hc]at this;cases this
   refine⟨by rw[bw ncM];exact qK,by rw[aa];exact aM vE,dJ.mk hil (cW (ps++[c]) vF au ((sm.bG (sm.free hc)).bG hM) ?_ ?_)⟩
   .rw[show ao.take (i+1)=ao.take i++[l] by rw[bz,hl];rfl];refine gn.mv ((yI.mvS (aB.upd hc)).snoc ncp (sm.free hc) au) λy hy=>bw λz=>?_;rcases ba.mp hy with u|u
    .exact nM (z ▸ u)
    .exact ncM (z.symm.trans (ap.mp u))
   .intro z;rcases ba.mp z with u|u;.exact nM u
    .exact ncM (ap.mp u)
  .rintro ys H2 ⟨ps,rfl,qK,sm,yI,nM⟩;rw[cq (by rw[aa];exact ag _)]at yI;refine(aj _ rfl (aO t rfl ⟨_,aU.of (sm _ _ ht)⟩ (Gs (K:=K) (a:=t) (xs:=as.map V.ref) (λi σ H3=>∃v3 v4 v5:Option V,σ=[some (.ref p),some (.ref t),some (.ref M),v3,v4,v5]/\aB H H3/\H3 M=some (.lst (ps.map V.ref))/\gn H H3 ps (dD ao (ts.take i)))
    (dM none none none rfl sm qK yI) (λi σ H3 _ h=>by obtain⟨_,_,_,_,sm,_⟩:=h;exact aU.of (sm _ _ ht)) ?_ ?_)))
   .rintro i x σ H3 hx' ⟨v3,v4,v5,rfl,sm3,W8,vd⟩;rw[aw]at hx';have hi:i<as.length:=by
     rcases cn i as.length with z|z;.exact z
     .rw[bP z]at hx';cases hx'
    rw[ae hi]at hx';have hx':V.ref as[i]=x:=ax hx';subst hx';obtain⟨u,eu,hU⟩:=hL.get hi;have hum:=aT eu;obtain⟨u1,u2,u3⟩:=cV u hum;have hb3:Blk r w (dD ao (ts.take i)):=jU hbr λy hy=>cV y (eL hy);have hpl:ps.length=r:=by rw[vd.len,hb3.len]
    have hps:u.1<ps.length:=by simp_all
    refine(aY (as[i]) _ rfl (aU.of (sm3 _ _ hU)) rfl ⟨_,_,rfl,_,_,rfl,aR _ _ rfl rfl ?_⟩);refine(aj _ rfl (aj _ rfl (aj _ rfl (bK M _ _ (.ref ps[u.1]) rfl rfl (aQ.of W8) (aN (by simp[hps])) (aj _ rfl (bK (ps[u.1]) _ _ u.2.1 rfl rfl (vd.at_ u.1 hps) ?_ ?_))))))
    .have:((dD ao (ts.take i)).getD u.1 []).length=w:=by
      rw[al,ae (by rw[hb3.len];exact u1)];exact hb3.jr _ (a8 _)
     unfold Ir;rw[aa,aa,this,if_pos vE,if_pos (nV gp u2)];congr 1
    .refine(dM _ _ _ rfl (sm3.bG (vd.fr _ (a8 _))) ?_ ?_)
     .have ne:M≠ps[u.1]:=λz=>nM (by rw[z];exact a8 _)
      rw[bw ne];exact W8
     .rw[show dD ao (ts.take (i+1))=setAt (dD ao (ts.take i)) u.1 u.2.1 u.2.2 by rw[bz,eu];exact W6 _ _ _];exact vd.set hps
   .rintro σ H3 ⟨v3,v4,v5,rfl,sm3,W8,vd⟩;rw[cq (by rw[aa,hL.len];exact ag _)]at vd;have B':=ZS B cV;have hpl:ps.length=r:=by rw[vd.len,B'.br.len]
    refine(aj _ rfl (aO M rfl ⟨_,aQ.of W8⟩ (λN hN=>qz (xs:=ps.map V.ref) (λi ys H4=>ys=Ts ((dD ao ts).take i)/\H4 N=some (.lst ys)/\aB H3 H4) ⟨rfl,au,aB.upd hN⟩ (λi ys H4 _ h=>aQ.of (h.2.2 _ _ W8)) ?_ ?_)))
    .rintro i x ys H4 hi ⟨rfl,hN4,M_⟩;rw[aw]at hi;have hi':i<ps.length:=by
      rcases cn i ps.length with z|z;.exact z
      .rw[bP z]at hi;cases hi
     rw[ae hi']at hi;have hi:V.ref ps[i]=x:=ax hi;subst hi;have hri:i<(dD ao ts).length:=by rw[<-vd.len];exact hi'
     have hg:(dD ao ts).getD i []=(dD ao ts)[i]:=by rw[al,ae hri];rfl
     have hw:(dD ao ts)[i].length=w:=B'.br.jr _ (a8 _);have hat:=vd.at_ i hi';rw[hg]at hat;refine⟨rfl,aj _ rfl ⟨ps[i],ones (dD ao ts)[i],rfl,rfl,aQ.of (M_ _ _ hat),by rw[ni,hw];lia,hN4,?_,dJ.mk (by rw[aa];exact hi') ⟨?_,au,M_.bG hN⟩⟩⟩;.rw[aa,bn];exact aM (by grind)
     .rw[ni,jZ,bz,ae hri];rfl
    .rintro ys H4 ⟨rfl,hN4,M_⟩;rw[cq (by rw[aa,vd.len];exact ag _)]at hN4;refine⟨N,_,rfl,.inl ⟨aQ.of hN4,λl hl=>?_⟩⟩;have s5:=(sm3.trans M_).bG (o:=.tup (Ts (dD ao ts))) ((sm3.trans M_).free hl);refine(aj _ rfl (iT p C dx _ _ rfl (s5 _ _ hx) T.cl T.nm rfl (aj _ rfl (iT p C dx _ _ rfl (s5 _ _ hx) T.cl T.nb rfl (λx dy nx ndx nex=>?_)))));have s6:aB (upd H4 l (.tup (Ts (dD ao ts)))) (upd (upd (upd H4 l (.tup (Ts (dD ao ts)))) dy (HO.own x)) x (HO.ins C dy [])):=λb o e=>by rw[bw (bM e nx),bw (bM e ndx)];exact e
     refine⟨x,dy,l,pm,pb,r,w,dD ao ts,aF,bi,bj,rfl,au,s6 _ _ au,s6 _ _ (s5 _ _ hpm),s6 _ _ (s5 _ _ hpb),B',λH5 kp hx5=>⟨rfl,?_⟩⟩;have s7:aB (upd H4 l (.tup (Ts (dD ao ts)))) H5:=λb o e=>kp b o (s6 b o e) (bM e nx);exact q x H5 (s5.trans s7) ⟨⟨dy,l,pm,pb,hx5,s7 _ _ au,s7 _ _ (s5 _ _ hpm),s7 _ _ (s5 _ _ hpb)⟩,B'⟩
def qL (l:List Nat)(k c:Nat):List Nat:=(cQ (l.take k)).map PyProof.Rows.lo1++c::(dW (l.drop (k+1))).map PyProof.Rows.lo1
def acn {r w:Nat}{ao:AA}(cr:∀l∈ao,∀c∈l,Ce c){i j:Nat}{way:Int}(hb:Blk r w ao)(hj:j<w):∀c∈lineOf ao i j way,Ce c:=λc hc=>by
 unfold lineOf at hc;split at hc
 .rw[al]at hc;cases e:ao[i]? with| none=>rw[e]at hc;simp at hc| some l=>rw[e]at hc;exact cr l (aT e) c hc
 .obtain⟨l,hl,rfl⟩:=ar.mp hc;have hjl:j<l.length:=by rw[hb.jr l hl];exact hj
  rw[al,ae hjl];exact cr l hl _ (a8 _)
def Ua (h:Ce c):c<128:=by
 rcases h with e|e;.rw[e];decide
 .exact e.lt
def aaW (b:Bool)(c:Nat):Nat:=if b=true then 46 else c
def Rc (b)(c):j_ [V.str (S [c]),V.str (S [46])] (if b=true then 1 else 0)=some (.str (S [aaW b c])):=by
 cases b;.exact aN (j:=0) rfl
 .exact aN (j:=1) rfl
def Rf (h:uO c):Ce (aaW b c):=by
 cases b;.exact .inr h
 .exact .inl rfl
def Nb (K:W.Frag)(C:Addr):Sp:=λvs H Q _=>∃(p a:Addr) (ls:List Nat) (ns:List Int) (st:Nat) (x:Int),vs=[.ref p,.ref a,.int st,.int x]/\H p=some (.lst (Ts (ones ls)))/\TQ ls/\aQ K H a (ns.map V.int)/\st<=900/\
 ∀(b:Addr) (r w:Nat) (ao aF:AA) (bi bj:Nat) (H':Hp),aB H H'->dz C H' b r w ao aF bi bj->Q (.ref b) H'
def W9:List Nat:=[46,46,46,46,46,46,46,50,51,52,98,99,100]
def Nf (D:aK K mg "_law_board" Bl ["_law_letters_here","_law_script","_law_start","_law_x"])(bI:mg "len"=none)(fV:mg "range"=none)(bN:mg "tuple"=none)(kO:mg "int"=none)(tU:mg "Board"=some (.ref C))(wg:Mk K C f0)(wj:cL P w K mg base fW 5 f0 oR ["self","rows","marks","begin"] (Bp C))(wk:cj K oR ["self","rows","marks","begin"] [])(aeT:bF P w K mg base "_law_size" 1 ["_law_x"] WX)(lC:bF P w K mg base "_law_digits" 3 ["_law_script","_law_k","_law_base","_law_many"] (Fo K)):bF P w K mg base "_law_board" 8 ["_law_letters_here","_law_script","_law_start","_law_x"] (Nb K C):=by
 refine D.cY gQ (λvs H Q E h=>?_) (λf bD A outer s H vs Q E hr h=>?_)
 .obtain⟨p,a,ls,ns,st,x,rfl,_⟩:=h;rfl
 .obtain⟨p,a,ls,ns,st,x,rfl,hp,hA,hS,hst,q⟩:=h;have hlo:(Ts (ones ls)).length=ls.length:=by rw[aa,aa]
  have hl1:=hA.lo;refine(aj _ (aG (Vy (aZ aeT hr.mono rfl (ak (qv 3) aA)) (oh rfl (dj (bY (i:=4) gQ.nd rfl (Or.inl rfl)) (dj (bY (i:=5) gQ.nd rfl (Or.inl rfl)) lN)))) (aG (aV (i:=6) gQ.nd rfl (Or.inl rfl) (eY aA)) (aG (aV (i:=7) gQ.nd rfl (Or.inl rfl) (eY aA)) (aG (fJ c9 rfl (nJ vT fV (ak (qv 4) aA)) (bY (i:=8) gQ.nd rfl (Or.inl rfl)) (aG (aV (i:=9) gQ.nd rfl (Or.inl rfl) (cG [] v_)) (aG (fJ c9 rfl (eG (aZ lC hr.mono rfl (ak (qv 1) (ak (aP cu (qv 2) (qv 8)) (ak aD (ak (qv 5) aA)))))) (bY (i:=10) gQ.nd rfl (Or.inl rfl)) (aG (aV (i:=11) gQ.nd rfl (Or.inl rfl) (bB fU (qv 0) (aP b_ (aP eV (qv 10) aD) (bh dh vT bI ck (ak (qv 0) aA))) (λ_ _=>rfl))) (aG (zm (d7 (bZ jc (aP b_ (aP eV (qv 10) aD) aD) aD (bU _)) (aL (aV (i:=11) gQ.nd rfl (Or.inl rfl) (Eh ci PySem.F.slot_str_upper PySem.F.type_str_upper ad3 (qv 11)))) cD)) (aL (aV (i:=9) gQ.nd rfl (Or.inl rfl) (aP sE (qv 9) (bB fU (eY (ak (qv 11) (ak (cG [46] v_) aA))) (cP yO vT kO nw (ak (Sv (gJ aaI (aP b_ (qv 10) aD) aD (bU _)) (mJ (gJ jc (aP b_ (aP eV (qv 3) aD) aD) aD (bU _)))) aA)) (λ_ _=>rfl)))))))) (aG (iw (fB dm fS fT jE (qv 6) (ak (qv 9) aA))) (aL (iw (fB dm fS fT jE (qv 7) (ak (fB ci fh fi sG (cG [] v_) (ak (f9 rfl (fH.of gQ.nd v0) (eG (aZ lC hr.mono rfl (ak (qv 1) (ak (aP cu (aP cu (qv 2) aD) (qv 8)) (ak aD (ak (qv 5) aA)))))) (λ_ _ _ _ _=>cF) (λ_ _ _ _ _=>(bB Gx (cG [46,46,46,46,46,46,46,50,51,52,98,99,100] v_) (qv 0) (λ_ _=>rfl)))) aA)) aA)))))))) (aL (aX (Ay wg wj hr.mono rfl tU wk .nil gD (ak (cP dg vT bN cE (ak (qv 6) aA)) (ak (cP dg vT bN cE (ak (qv 7) aA)) (ak (cO (ak (aP b_ (aP eV (qv 3) aD) (qv 4)) (ak (aP b_ (aP eV (qv 3) aD) (qv 5)) aA))) aA)))))))))) ?_);refine(aj _ rfl (aj x rfl (λsp r w H1 s1 hsp agM r1 r9 w1 w9=>?_)));refine(aY sp _ rfl (aU.of agM) rfl ⟨_,_,rfl,aR _ _ rfl rfl ?_⟩);refine⟨zsz 0,λR hR=>⟨zsz 0,λM hM=>?_⟩⟩;have hR0:=s1.free hR;have sR:aB H (upd H1 R (HO.lst [])):=s1.bG hR0;have hM0:=sR.free hM;have nRM:R≠M:=λz=>by rw[<-z,au]at hM;cases hM
  have sM:aB H (upd (upd H1 R (HO.lst [])) M (HO.lst [])):=sR.bG hM0;refine(aj _ rfl (dX _ rfl (lS _) vE ?_));rw[du];refine uw (lo:=0) (n:=r) (λi σ H2=>∃(v8 v9 v10 v11:Option V) (ao aF:AA),σ=[some (.ref p),some (.ref a),some (.int st),some (.int x),some (.int r),some (.int w),some (.ref R),some (.ref M),v8,v9,v10,v11]/\
   aB H H2/\H2 R=some (.lst (Ts ao))/\H2 M=some (.lst (Ts aF))/\ao.length=i/\aF.length=i/\(∀l∈ao,l.length=w/\∀c∈l,Ce c)/\∀l∈aF,l.length=w/\∀c∈l,mkC c)
   ⟨none,none,none,none,[],[],rfl,sM,by rw[bw nRM,au];rfl,au,rfl,rfl,λl h=>by simp at h,λl h=>by simp at h⟩ ?_ ?_
  .rintro i σ H2 hi ⟨v8,v9,v10,v11,ao,aF,rfl,sm,hR2,qK,lr,lm,okr,okm⟩;have e0:(st:Int)+(0+(i:Int))=((st+i:Nat):Int):=vE;refine(aj _ rfl (aj _ rfl (aj _ rfl (aR _ _ rfl rfl (aj _ rfl (uF a ns (st+i) 624 w (by show [V.ref a,V.int ((st:Int)+(0+(i:Int))),V.int 624,V.int (w:Int)]=_;rw[e0]) (sm.seq hS) vE vS vS vE (λpd ds H3 s3 ahf hpd hl hd=>?_)))))));have uP:=sm.trans s3;refine(aO pd rfl ⟨_,aQ.of hpd⟩ (jJ (K:=K) (a:=pd) (xs:=ds.map V.int) (λj σ H4=>∃(v10 v11:Option V) (cs:List Nat),σ=[some (.ref p),some (.ref a),some (.int st),some (.int x),some (.int r),some (.int w),some (.ref R),some (.ref M),some (.int (0+(i:Int))),some (.str (S cs)),v10,v11]/\
    aB H3 H4/\cs.length=j/\∀c∈cs,Ce c) (dM v10 v11 [] rfl (aB.refl _) rfl (λc h=>by simp at h)) (λj σ H4 _ h=>by obtain⟨_,_,_,_,M_,_⟩:=h;exact aQ.of (M_ _ _ hpd)) ?_ ?_))
   .rintro j y σ H4 hj ⟨v10,v11,cs,rfl,s4,lc,okc⟩;have hjl:j<(ds.map V.int).length:=(ai.mp hj).1;rw[aa]at hjl;obtain⟨d,hd1,e⟩:∃d,ds[j]?=some d/\V.int d=y:=by
     rw[aw]at hj;obtain⟨d,h1,h2⟩:=fE.mp hj;exact(aj d h1 h2)
    subst e;have W_:=s4 _ _ (uP _ _ hp);obtain⟨v,hv,Wt⟩:=Qn (xs:=Ts (ones ls)) (n:=ls.length) hlo (ay hl1) (d/24);obtain⟨l1,ZV,rfl⟩:=ar.mp Wt;obtain⟨c,hcm,rfl⟩:=ar.mp ZV;have hc:=hA.az c hcm;refine(aj _ rfl (aj _ rfl (aY _ _ rfl rfl ⟨vS,vS⟩ (aj _ rfl (aR p _ rfl (.inl (aQ.of W_)) (aY _ _ rfl rfl (by rw[hlo];show (0:Int)<(ls.length:Int);lia) (bK p _ _ (.str (S [c])) rfl rfl (aQ.of W_) (by rw[hlo];exact hv) ?_)))))));refine⟨λσ' H'=>H'=H4/\∃z:Nat,uO z/\σ'=[some (.ref p),some (.ref a),some (.int st),some (.int x),some (.int r),some (.int w),some (.ref R),some (.ref M),some (.int (0+(i:Int))),some (.str (S cs)),some (.int d),some (.str (S [z]))],?_,?_⟩
    .refine(aj _ rfl (aY _ _ rfl rfl ⟨vS,vS⟩ (fY _ _ rfl rfl (by show (0:Int)<8;decide) rfl (aj _ rfl (sV (λ_=>?_) (λ_=>⟨rfl,aj c (WM hc) rfl⟩))))));refine(aO _ rfl rfl (cW [c] rfl rfl (by show 1<=1000;decide) (λe he=>by rw[ap.mp he];have:=hc.2;lia) ?_));have eu:[c].map PyProof.Rows.up1=[c-32]:=by
      rw[oQ];unfold PyProof.Rows.up1;rw[if_pos (show 97<=c/\c<=122 from hc)]
     rw[eu];exact⟨rfl,aj _ (WQ hc) rfl⟩
    .rintro σ' H' ⟨rfl,z,hz,rfl⟩;refine(aj _ rfl (aO _ rfl (zsz 2) (λt ht=>?_)));have s5:=s4.bG (o:=HO.lst [V.str (S [z]),V.str (S [46])]) (s4.free ht);refine(aj _ rfl (aY _ _ rfl rfl (by show (0:Int)<3;decide) (aR _ _ rfl rfl (aj _ rfl ?_))));refine sV (λ_=>?_) (λ_=>?_)
     .refine .inr (aj _ rfl (bK t _ _ _ rfl rfl (aQ.of au) (Rc _ _) (aY cs _ rfl rfl (by rw[lc];exact ay (aM (by simp;lia))) ?_)));refine(dM _ _ _ rfl s5 (by simp[lc]) (λe he=>?_));rcases ba.mp he with k|k;.exact okc e k
      .rw[ap.mp k];exact Rf hz
     .refine(aj _ rfl (aY _ _ rfl rfl ⟨vS,vS⟩ (fY _ _ rfl rfl (by show (0:Int)<6;decide) rfl ?_)));refine .inr (aj _ rfl (bK t _ _ _ rfl rfl (aQ.of au) (Rc _ _) (aY cs _ rfl rfl (by rw[lc];exact ay (aM (by simp;lia))) ?_)));refine(dM _ _ _ rfl s5 (by simp[lc]) (λe he=>?_));rcases ba.mp he with k|k;.exact okc e k
      .rw[ap.mp k];exact Rf hz
   .rintro σ H4 ⟨v10,v11,cs,rfl,s4,lc,okc⟩;rw[aa,hl]at lc;have hR4:=s4 _ _ (s3 _ _ hR2);have hM4:=s4 _ _ (s3 _ _ qK);have JC:=uP.trans s4;refine(aO _ rfl (.inl ⟨rfl,_,aQ.of hR4⟩) (aj _ rfl (ig R _ _ rfl rfl hR4 (by rw[aa];exact aM vE) ?_)));have s5:aB H (upd H4 R (HO.lst (Ts ao++[V.str (S cs)]))):=JC.bG hR0;have hM5:upd H4 R (HO.lst (Ts ao++[V.str (S cs)])) M=some (.lst (Ts aF)):=by rw[bw nRM.symm];exact hM4
    have hR5:upd H4 R (HO.lst (Ts ao++[V.str (S cs)])) R=some (.lst (Ts (ao++[cs]))):=by rw[au,jZ]
    generalize upd H4 R (HO.lst (Ts ao++[V.str (S cs)]))=H5 at s5 hM5 hR5 ⊢;have e9:(st:Int)+9+(0+(i:Int))=((st+9+i:Nat):Int):=vF;refine(dX _ rfl (.inl ⟨rfl,_,aQ.of hM5⟩) rfl (aj _ rfl (aj _ rfl (aR _ _ rfl rfl (aj _ rfl (aR _ _ rfl rfl (aj _ rfl (uF a ns (st+9+i) 13 w (by show [V.ref a,V.int ((st:Int)+9+(0+(i:Int))),V.int 13,V.int (w:Int)]=_;rw[e9]) (s5.seq hS) vE vS vS vE (λpe es H6 s6 ahg hpe hle hde=>?_)))))))));refine(aO pe rfl ⟨_,aQ.of hpe⟩ (λL hL=>qz (K:=K) (a:=pe) (xs:=es.map V.int) (λj ys H7=>∃ms:List Nat,ys=Ts (ones ms)/\ms.length=j/\(∀c∈ms,mkC c)/\H7 L=some (.lst ys)/\aB H6 H7)
     (cW [] rfl rfl (λc h=>by simp at h) au (aB.upd hL)) (λj ys H7 _ h=>by obtain⟨_,_,_,_,_,sm7⟩:=h;exact aQ.of (sm7 _ _ hpe)) ?_ ?_))
    .rintro j y ys H7 hj ⟨ms,rfl,Xa,ZW,Ng,s7⟩;have hjl:j<(es.map V.int).length:=(ai.mp hj).1;obtain⟨d,hd1,e⟩:∃d,es[j]?=some d/\V.int d=y:=by
      rw[aw]at hj;obtain⟨d,h1,h2⟩:=fE.mp hj;exact(aj d h1 h2)
     subst e;obtain⟨d0,d1⟩:=hde d (aT hd1);obtain⟨n,rfl⟩:∃n:Nat,d=n:=⟨d.toNat,vE⟩
     have hn:n<W9.length:=by show n<13;exact Iff.mp gp d1
     refine(aj _ rfl (pZ W9 _ (W9[n]) rfl rfl vS (aN (ae hn)) Ng ?_ ?_))
     .rw[aa,aa,Xa];rw[aa]at hjl;exact aM vE
     .refine dJ.mk hjl (cW (ms++[W9[n]]) (by rw[jZ,qG]) (by simp[Xa]) (λc hc=>?_) au (s7.bG hL));rcases ba.mp hc with k|k;.exact ZW c k
      .rw[ap.mp k];have:∀x∈W9,x∈MK:=by decide
       exact this _ (a8 _)
    .rintro ys H7 ⟨ms,rfl,Xa,ZW,Ng,s7⟩;rw[aa,hle]at Xa;refine(fY L (ones ms) rfl rfl (aQ.of Ng) (by rw[ni];lia) ?_);rw[ni];have rJ:=s7 _ _ (s6 _ _ hM5);refine(ig M _ _ rfl rfl rJ (by rw[aa];exact aM vE) ?_);refine⟨_,_,_,_,ao++[cs],aF++[ms],rfl,((s5.trans s6).trans s7).bG hM0,by rw[bw nRM];exact s7 _ _ (s6 _ _ hR5),by rw[au,jZ],by simp[lr],by simp[lm],λl hl'=>?_,λl hl'=>?_⟩
     .rcases ba.mp hl' with k|k;.exact okr l k
      .rw[ap.mp k];exact⟨lc,okc⟩
     .rcases ba.mp hl' with k|k;.exact okm l k
      .rw[ap.mp k];exact⟨Xa,ZW⟩
  .rintro σ H2 ⟨v8,v9,v10,v11,ao,aF,rfl,sm,hR2,qK,lr,lm,okr,okm⟩;refine(aj _ rfl ⟨R,_,rfl,.inl ⟨aQ.of hR2,λT1 hT1=>?_⟩⟩);have k1:aB H2 (upd H2 T1 (HO.tup (Ts ao))):=aB.upd hT1;refine(aj _ rfl ⟨M,_,rfl,.inl ⟨aQ.of (k1 _ _ qK),λT2 hT2=>?_⟩⟩);have k2:aB H2 (upd (upd H2 T1 (HO.tup (Ts ao))) T2 (HO.tup (Ts aF))):=k1.bG (k1.free hT2);have hT1':upd (upd H2 T1 (HO.tup (Ts ao))) T2 (HO.tup (Ts aF)) T1=some (.tup (Ts ao)):=by
    rw[bw (λz=>by rw[<-z,au]at hT2;cases hT2),au]
   have hT2':upd (upd H2 T1 (HO.tup (Ts ao))) T2 (HO.tup (Ts aF)) T2=some (.tup (Ts aF)):=au;generalize upd (upd H2 T1 (HO.tup (Ts ao))) T2 (HO.tup (Ts aF))=H3 at k2 hT1' hT2' ⊢;refine(aj _ rfl (aY _ _ rfl rfl ⟨vS,vS⟩ (aj _ rfl (aY _ _ rfl rfl (by show (0:Int)<(r:Int);exact nV gp r1) (aj _ rfl (aY _ _ rfl rfl ⟨vS,vS⟩ (aj _ rfl (fY _ _ rfl rfl (by show (0:Int)<(w:Int);lia) (zsz 2) (λpb hpb=>?_)))))))));have i0:=d6 (x/6000) (show (r:Int)≠0 by lia);have i1:=de (x/6000) (show (0:Int)<(r:Int) by lia);have j0:=d6 (x/54000) (show (w:Int)≠0 by lia);have j1:=de (x/54000) (show (0:Int)<(w:Int) by lia);obtain⟨bi,ebi⟩:∃bi:Nat,x/6000%(r:Int)=bi:=⟨(x/6000%(r:Int)).toNat,vE⟩
   obtain⟨bj,ebj⟩:∃bj:Nat,x/54000%(w:Int)=bj:=⟨(x/54000%(w:Int)).toNat,vE⟩
   have k4:aB H3 (upd H3 pb (HO.tup [V.int (x/6000%(r:Int)),V.int (x/54000%(w:Int))])):=aB.upd hpb;have ZX:upd H3 pb (HO.tup [V.int (x/6000%(r:Int)),V.int (x/54000%(w:Int))]) pb=some (.tup [.int bi,.int bj]):=by rw[au,ebi,ebj]
   have Hv:=k4 _ _ hT1';have Z0:=k4 _ _ hT2';have k5:aB H _:=(sm.trans k2).trans k4;generalize upd H3 pb (HO.tup [V.int (x/6000%(r:Int)),V.int (x/54000%(w:Int))])=H4 at k5 ZX Hv Z0 ⊢;have B:Fp r w ao aF bi bj:=⟨r1,r9,w1,w9,⟨lr,λl h=>(okr l h).1⟩,⟨lm,λl h=>(okm l h).1⟩,λl h=>(okr l h).2,λl h=>(okm l h).2,by simp_all,by simp_all⟩
   intro b dx nx ndx nex;have s2:aB H4 (upd (upd H4 dx (HO.own b)) b (HO.ins C dx [])):=λc o e=>by rw[bw (bM e nx),bw (bM e ndx)];exact e
   refine⟨b,dx,T1,T2,pb,r,w,ao,aF,bi,bj,rfl,au,s2 _ _ Hv,s2 _ _ Z0,s2 _ _ ZX,B,λH5 kp hx5=>⟨rfl,?_⟩⟩;have s3:aB H4 H5:=λc o e=>kp c o (s2 c o e) (bM e nx);exact q b r w ao aF bi bj H5 (k5.trans s3) ⟨⟨dx,T1,T2,pb,hx5,s3 _ _ Hv,s3 _ _ Z0,s3 _ _ ZX⟩,B⟩
def aco {r w:Nat}{R:AA}(hb:Blk r w R){i j z:Nat}(hi:i<r)(hj:j<w):jT (setAt R i j z) j=(jT R j).set i z:=by
 apply i6;intro m;have hil:i<R.length:=by rw[hb.len];exact hi
 have hrow:(R.getD i []).length=w:=by rw[al,ae hil];exact hb.jr _ (a8 _)
 unfold jT setAt;rw[aw,qh,qh,aw];by_cases hm:i=m
 .subst hm;rw[if_pos rfl,if_pos rfl,if_pos hil,if_pos (by rw[aa];exact hil)];show some (((R.getD i []).set j z).getD j 0)=some z;rw[al,qh,if_pos rfl,if_pos vE];rfl
 .rw[if_neg hm,if_neg hm]
def Z1 {r w:Nat}{R:AA}(hb:Blk r w R){i j z:Nat}(hi:i<r)(hj:j<w){way:Int}:lineOf (setAt R i j z) i j way=(lineOf R i j way).set (placeOf i j way) z:=by
 unfold lineOf placeOf;by_cases h:way=0
 .rw[if_pos h,if_pos h,if_pos h];have hil:i<R.length:=by rw[hb.len];exact hi
  unfold setAt;rw[al,qh,if_pos rfl,if_pos hil];rfl
 .rw[if_neg h,if_neg h,if_neg h];exact aco hb hi hj
def Xb {l:List Nat}(hk:k<l.length):cQ ((l.set k 97).take k)=cQ (l.take k)/\dW ((l.set k 97).drop k)=97::dW (l.drop (k+1)):=by
 constructor;.rw[List.take_set,List.set_eq_of_length_le (by rw[bn];exact om _ _)]
 .have hl:k<(l.set k 97).length:=by rw[og];exact hk
  rw[ui hl,List.getElem_set_self,List.drop_set_of_lt vE];rfl
def Fv (ws:AA)(l:List Nat)(k:Nat):List Nat:=if (qL l k 97).length=1 then AL else AL.filter λc=>decide (qL l k c∈ws)
def aeU (C CB:Addr):Sp:=λvs H Q _=>∃(pb pk d:Addr) (ws:AA) (r w:Nat) (ao aF:AA) (bi bj i j:Nat) (way:Int),vs=[.ref pb,.ref pk,.int i,.int j,.int way]/\dz C H pb r w ao aF bi bj/\mQ CB H pk d ws/\i<r/\j<w/\(way=0\/way=1)/\
 ∀H',aB H H'->Q (.str (S (Fv ws (lineOf ao i j way) (placeOf i j way)))) H'
def acp (hw:way=0\/way=1)(hk:placeOf i j way=k):j_ (Df i j way l) 2=some (.str (S (cQ (l.take k)++dW (l.drop k))))/\(way=0->j_ (Df i j way l) 1=some (.int ((k:Int)-(cQ (l.take k)).length)))/\(way=1->j_ (Df i j way l) 0=some (.int ((k:Int)-(cQ (l.take k)).length))):=by
 subst hk;rcases hw with rfl|rfl;.exact⟨aN (j:=2) rfl,λ_=>aN (j:=1) rfl,λz=>by lia⟩
 .exact⟨aN (j:=2) rfl,λz=>by lia,λ_=>aN (j:=0) rfl⟩
def Xc (h:c∈dW l):c∈l:=(ny _).subset h
def Xd (h:c∈cQ l):c∈l:=by unfold cQ at h;rw[uA]at h;exact uA.mp ((ny _).subset h)
def Dh (D:aK K mg "cross_letters" kI ["board","book","row","column","way"])(bI:mg "len"=none)(nQ:∃t,mg "LETTERS"=some (.str (S AL) t))(bO:d_ K C)(Fw:pQ K CB)(tV:Meth K C "laid" f1)(tW:cL P w K mg base fW 8 f1 lG ["self","laying"] (M9 C))(tX:cj K lG ["self","laying"] [])(vf:Meth K C "run" f2)(vg:cL P w K mg base fW 2 f2 fd2 ["self","row","column","way"] (T9 C))(vh:cj K fd2 ["self","row","column","way"] [])(Ub:Meth K CB "has" f3)(Uc:cL P w K mg base fW 1 f3 yJ ["self","text"] (T4 CB))(Ud:cj K yJ ["self","text"] []):bF P w K mg base "cross_letters" 10 ["board","book","row","column","way"] (aeU C CB):=by
 refine D.cY iJ (λvs H Q E h=>?_) (λf bD A outer s H vs Q E hr h=>?_)
 .obtain⟨pb,pk,d,ws,r,w,ao,aF,bi,bj,i,j,way,rfl,_⟩:=h;rfl
 .obtain⟨pb,pk,d,ws,r,w,ao,aF,bi,bj,i,j,way,rfl,B,BK,hi,hj,zF,q⟩:=h;obtain⟨dx,_,_,_,ex,_⟩:=id B.ex;have r9:=B.ok.r9;have w9:=B.ok.w9;have hll:=oO B.ok.br hi (j:=j) (way:=way);have hk:placeOf i j way<(lineOf ao i j way).length:=by
   rw[hll];unfold placeOf;split <;> assumption
  have hl9:(lineOf ao i j way).length<=9:=by rw[hll];split <;> assumption
  have hro:=acn B.ok.cr (i:=i) (way:=way) B.ok.br hj;have hz:∀n,n<=100->n<=sizeLine:=λn h=>ay (aM vE);refine(aj _ (aG (aV (i:=5) iJ.nd rfl (Or.inl rfl) (lR (lR (qv 0) bO.cl tV tW hr.mono tX .nil gD (ak (cO (ak (cO (ak (qv 2) (ak (qv 3) (ak (cG [97] v_) aA)))) aA)) aA)) bO.cl vf vg hr.mono vh .nil gD (ak (qv 2) (ak (qv 3) (ak (qv 4) aA))))) (aG (d7 (bZ jc (bh d9 vT bI ck (ak (bB bV (qv 5) aD (λ_ _=>rfl)) aA)) aD (bU _)) (aL (aX (lU vT nQ))) cD) (aG (zm (aV (i:=6) iJ.nd rfl (Or.inl rfl) (jK (bZ jc (qv 4) aD (bU _)) (aP qx (qv 3) (bB bV (qv 5) aD (λ_ _=>rfl))) (aP qx (qv 2) (bB bV (qv 5) aD (λ_ _=>rfl)))))) (aG (aV (i:=7) iJ.nd rfl (Or.inr rfl) (Eh ci qB qE K_ (kY K8 (bB bV (qv 5) aD (λ_ _=>rfl)) vI (jy (qv 6))))) (aG (aV (i:=8) iJ.nd rfl (Or.inr rfl) (Eh ci qB qE K_ (kY K8 (bB bV (qv 5) aD (λ_ _=>rfl)) (jy (aP cu (qv 6) aD)) vI))) (aL (aX (fB ci fh fi sG (cG [] v_) (ak (gb (ns:=["letter"]) rfl (fu.of ["board","book","row","column","way","run","place","ahead","behind"] [] v0) (zf (lU vT nQ)) (λ_ _ _ _ _=>(pH (show (["letter","board","book","row","column","way","run","place","ahead","behind"]:List Str).Nodup by decide +kernel) rfl vT)) (λ_ _ _ _ _=>(A_ (gU (lR (qv 2) Fw.cl Ub Uc hr.mono Ud .nil gD (ak (aP sE (aP sE (qv 8) (qv 0)) (qv 9)) aA))))) (λ_ _ _ _ _=>(qv 0))) aA))))))))) ?_);refine(aj _ rfl (dM pb dx _ rfl ex rfl (aj _ rfl (aO _ rfl (zsz 3) (λt1 ht1=>⟨zsz 1,λt2 Nh=>?_⟩)))));have s1:aB H (upd H t1 (HO.tup [V.int i,V.int j,V.str (S [97])])):=aB.upd ht1;have s2:=s1.bG (o:=HO.tup [V.ref t1]) (s1.free Nh);have n12:t1≠t2:=λz=>by rw[<-z,au]at Nh;cases Nh
  have h1:upd (upd H t1 (HO.tup [V.int i,V.int j,V.str (S [97])])) t2 (HO.tup [V.ref t1]) t1=some (.tup [.int i,.int j,.str (S [97])]):=by rw[bw n12,au]
  have h2:upd (upd H t1 (HO.tup [V.int i,V.int j,V.str (S [97])])) t2 (HO.tup [V.ref t1]) t2=some (.tup [.ref t1]):=au;generalize upd (upd H t1 (HO.tup [V.int i,V.int j,V.str (S [97])])) t2 (HO.tup [V.ref t1])=H2 at s2 h1 h2 ⊢;refine⟨pb,t2,[t1],[(i,j,97)],r,w,ao,aF,bi,bj,rfl,B.mv s2,h2,cT.nil.snoc (t:=(i,j,97)) h1,λt ht=>by rw[ap.mp ht];exact⟨hi,hj,by show JB [97]=true;decide⟩,λx1 H3 s3 B3=>?_⟩;have el:dD ao [(i,j,97)]=setAt ao i j 97:=rfl;rw[el]at B3;obtain⟨Xe,_,_,_,ex1,_⟩:=id B3.ex;refine(dM x1 Xe _ rfl ex1 rfl (aj _ rfl (aj _ rfl (aj _ rfl ⟨x1,r,w,setAt ao i j 97,aF,bi,bj,i,j,way,rfl,B3,hi,hj,zF,λt H4 s4 ht Fd=>?_⟩))));have JC:=(s2.trans s3).trans s4;rw[Z1 B.ok.br hi hj]at Fd;generalize lineOf ao i j way=l at hk hl9 hro q Fd;generalize hK:placeOf i j way=k at hk q Fd;obtain⟨pa,pc⟩:=Xb hk;obtain⟨va,vb,vc⟩:=acp (l:=l.set k 97) zF hK;rw[pa,pc]at va;rw[pa]at vb vc;have t1l:=lE (l.take k);rw[bn]at t1l;have t2l:=qI (l.drop (k+1));rw[dP]at t2l;have hta:∀c∈cQ (l.take k),c<128:=λc hc=>Ua (hro c (eL (Xd hc)));have hha:∀c∈dW (l.drop (k+1)),c<128:=λc hc=>Ua (hro c (iA (Xc hc)));have hcl:∀c,(qL l k c).length=(cQ (l.take k)).length+1+(dW (l.drop (k+1))).length:=λc=>by unfold qL;rw[av,aa,bt,aa];lia
  have ecr:∀c,qL l k c=(cQ (l.take k)).map PyProof.Rows.lo1++[c]++(dW (l.drop (k+1))).map PyProof.Rows.lo1:=λc=>by unfold qL;rw[bu];rfl
  generalize hX:cQ (l.take k)=X at va vb vc t1l hta hcl ecr;generalize hY:dW (l.drop (k+1))=Y at va t2l hha hcl ecr;generalize Df i j way (l.set k 97)=rv at va vb vc Fd;have Xf:=aU.of (K:=K) Fd;refine(aj _ rfl (bK t _ _ _ rfl rfl Xf va (dX _ rfl (hz _ (by rw[av,bt];lia)) rfl (aj _ rfl ?_))));by_cases h1:X.length+1+Y.length=1
  .have e:decide (V.int ((X++97::Y).length:Nat)=V.int 1)=true:=aE (by rw[av,bt,show X.length+(Y.length+1)=1 by lia];rfl);rw[e];refine cB ?_;have:=q H4 JC;unfold Fv at this;rw[if_pos (by rw[hcl];exact h1)]at this;exact this
  .have e:decide (V.int ((X++97::Y).length:Nat)=V.int 1)=false:=am (λz=>by
    injection z with z;rw[av,bt]at z;lia)
   rw[e];refine cA ?_;have hq:=q H4;refine(aj (λσ H'=>H'=H4/\σ=[some (.ref pb),some (.ref pk),some (.int i),some (.int j),some (.int way),some (.ref t),some (.int (X.length:Nat)),none,none]) ?_ ?_)
   .rcases zF with rfl|rfl
    .refine(aO _ rfl rfl (aj _ rfl (cB (aj _ rfl (aj _ rfl (bK t _ _ _ rfl rfl Xf (vb rfl) (aY _ _ rfl rfl rfl ?_)))))));have:(j:Int)-((k:Int)-(X.length:Int))=(X.length:Int):=by rw[<-hK];show (j:Int)-((j:Int)-_)=_;lia
     exact congrArg (λv:Int=>([some (V.ref pb),some (V.ref pk),some (V.int i),some (V.int j),some (V.int 0),some (V.ref t),some (V.int v),none,none]:St)) this
    .refine(aO _ rfl rfl (aj _ rfl (cA (aj _ rfl (aj _ rfl (bK t _ _ _ rfl rfl Xf (vc rfl) (aY _ _ rfl rfl rfl ?_)))))));have:(i:Int)-((k:Int)-(X.length:Int))=(X.length:Int):=by rw[<-hK];show (i:Int)-((i:Int)-_)=_;lia
     exact congrArg (λv:Int=>([some (V.ref pb),some (V.ref pk),some (V.int i),some (V.int j),some (V.int 1),some (V.ref t),some (V.int v),none,none]:St)) this
   rintro σ H' ⟨rfl,rfl⟩;refine(aj _ rfl (bK t _ _ _ rfl rfl Xf va (aj _ rfl (aj _ rfl (dX _ rfl (hz _ (by rw[av,bt];lia)) rfl ?_)))));rw[Le,List.take_left' rfl];refine(cW X rfl rfl vE hta ?_);have e1:(X.length:Int)+1=((X.length+1:Nat):Int):=rfl;refine(aj _ rfl (bK t _ _ _ rfl rfl Xf va (aj _ rfl (aR _ _ rfl rfl (aj _ rfl (dX _ rfl (hz _ (by rw[av,bt];lia)) rfl ?_))))));rw[e1,wO,show (X++97::Y).drop (X.length+1)=Y by rw[List.drop_append,gL,qo vE];rfl];refine(cW Y rfl rfl vE hha ?_);have BK4:=BK.same JC;refine⟨rfl,aj AL rfl (λL hL=>SJ (f:=eU [] 0) (tt:=tB (DW CB "has" (T4 CB) [] E0 (eO 2) (iR (rE Av (rE Av (eO 8) (eO 0)) (eO 9)) n8))) (te:=eO 0) (λn ys H5=>ys=Ts (ones ((AL.take n).filter λc=>decide (qL l k c∈ws)))/\H5 L=some (.lst ys)/\aB H' H5) ⟨rfl,au,aB.upd hL⟩ ?_ ?_)⟩
   .rintro n c ys H5 hn ⟨rfl,Fx,s5⟩;have hnl:n<AL.length:=(ai.mp hn).1;have ahh:n<26:=hnl;have BK5:=BK4.same s5;obtain⟨dk,ek⟩:=BK5.ob;refine(aj _ rfl (dM pk dk _ rfl ek rfl (aj _ rfl (aj _ rfl (aY _ _ rfl rfl (hz _ (by rw[aa];simp;lia)) (aj _ rfl (aY _ _ rfl rfl (hz _ (by rw[av,aa,aa];simp;lia)) ⟨pk,d,ws,_,rfl,BK5,aj _ rfl ?_⟩)))))));rw[<-ecr];by_cases hc:qL l k c∈ws
    .rw[aE hc];refine cB (dX _ rfl Fx ?_ (dJ.mk hnl ⟨?_,au,s5.bG hL⟩))
     .rw[aa,aa];exact aM (a9 (ik _ _) (by rw[bn];lia))
     .rw[bz,hn,eT,jZ,qG];simp[hc]
    .rw[am hc];refine cA (dJ.mk hnl ⟨?_,Fx,s5⟩);rw[bz,hn,eT];simp[hc]
   .rintro ys H5 ⟨rfl,Fx,s5⟩;rw[cz]at Fx;refine(fY L _ rfl rfl (aQ.of Fx) ?_ ?_)
    .rw[ni];exact a9 (ik _ _) vS
    .rw[ni];have:=q H5 (JC.trans s5);unfold Fv at this;rw[if_neg (by rw[hcl];exact h1)]at this;exact this
def poss (i j:Int):List (Int×Int):=[(i-1,j),(i+1,j),(i,j-1),(i,j+1)]
def Fy (ao:AA)(r w:Nat)(i j:Int):Bool:=(poss i j).any λp=>!decide ([atC ao r w p.1 p.2]=[46])
def Z2 {t1 t2 t3 t4:Addr}{i j:Int}{H:Hp}(h1:H t1=some (.tup [.int (i-1),.int j]))(h2:H t2=some (.tup [.int (i+1),.int j]))(h3:H t3=some (.tup [.int i,.int (j-1)]))(h4:H t4=some (.tup [.int i,.int (j+1)])){n:Nat}{x:V}(h:([V.ref t1,V.ref t2,V.ref t3,V.ref t4]:List V)[n]?=some x):∃(t:Addr) (p:Int×Int),x=.ref t/\H t=some (.tup [.int p.1,.int p.2])/\(poss i j)[n]?=some p:=by
 match n,h with| 0,h=>exact(aR t1 (i-1,j) ((ax h).symm) h1 rfl)| 1,h=>exact(aR t2 (i+1,j) ((ax h).symm) h2 rfl)| 2,h=>exact(aR t3 (i,j-1) ((ax h).symm) h3 rfl)| 3,h=>exact(aR t4 (i,j+1) ((ax h).symm) h4 rfl)| n+4,h=>exact absurd h vF
def Ni (C:Addr):Sp:=λvs H Q _=>∃(b:Addr) (r w:Nat) (ao aF:AA) (bi bj:Nat) (i j:Int),vs=[.ref b,.int i,.int j]/\dz C H b r w ao aF bi bj/\∀H',aB H H'->Q (.bl (Fy ao r w i j)) H'
def Ue (D:aK K mg "is_next_to_taken" jf ["board","row","column"])(uQ:mg "any"=none)(dH:∃t,mg "FREE"=some (.str (S [46]) t))(bO:d_ K C)(oU:Meth K C "at" f1)(oV:cL P w K mg base fW 3 f1 lG ["self","row","column"] (ZR C))(oW:cj K lG ["self","row","column"] []):bF P w K mg base "is_next_to_taken" 4 ["board","row","column"] (Ni C):=by
 refine D.cY j6 (λvs H Q E h=>?_) (λf bD A outer s H vs Q E hr h=>?_)
 .obtain⟨b,r,w,ao,aF,bi,bj,i,j,rfl,_⟩:=h;rfl
 .obtain⟨b,r,w,ao,aF,bi,bj,i,j,rfl,B,q⟩:=h;refine(aj _ (aG (aV (i:=3) j6.nd rfl (Or.inl rfl) (cO (ak (cO (ak (aP qx (qv 1) aD) (ak (qv 2) aA))) (ak (cO (ak (aP cu (qv 1) aD) (ak (qv 2) aA))) (ak (cO (ak (qv 1) (ak (aP qx (qv 2) aD) aA))) (ak (cO (ak (qv 1) (ak (aP cu (qv 2) aD) aA))) aA)))))) (aL (aX (bh (Lk rfl) vT uQ Jb (ak (f9 rfl (fH.of j6.nd v0) (iG (qv 3)) (λ_ _ _ _ _=>cF) (λ_ _ _ _ _=>(gJ Ed (lR (qv 1) bO.cl oU oV hr.mono oW .nil gD (ak (bB (nO K) (qv 0) aD (λ_ _=>rfl)) (ak (bB (nO K) (qv 0) aD (λ_ _=>rfl)) aA))) (lU vT dH) (bU _)))) aA))))) ?_);refine(aj _ rfl (aR _ _ rfl rfl (aO _ rfl (zsz 2) (λt1 h1=>(aj _ rfl (aR _ _ rfl rfl (aO _ rfl (zsz 2) (λt2 h2=>(aj _ rfl (aj _ rfl (aY _ _ rfl rfl (zsz 2) (λt3 h3=>(aj _ rfl (aj _ rfl (aY _ _ rfl rfl (zsz 2) (λt4 h4=>⟨zsz 4,λT hT=>?_⟩))))))))))))))));have s1:aB H (upd H t1 (HO.tup [.int (i-1),.int j])):=aB.upd h1;have s2:=s1.bG (o:=HO.tup [.int (i+1),.int j]) (s1.free h2);have s3:=s2.bG (o:=HO.tup [.int i,.int (j-1)]) (s2.free h3);have s4:=s3.bG (o:=HO.tup [.int i,.int (j+1)]) (s3.free h4);have s5:=s4.bG (o:=HO.tup [.ref t1,.ref t2,.ref t3,.ref t4]) (s4.free hT);have k5:aB _ _:=aB.upd (o:=HO.tup [.ref t1,.ref t2,.ref t3,.ref t4]) hT;have k4:aB _ _:=aB.upd (o:=HO.tup [.int i,.int (j+1)]) h4;have k3:aB _ _:=aB.upd (o:=HO.tup [.int i,.int (j-1)]) h3;have k2:aB _ _:=aB.upd (o:=HO.tup [.int (i+1),.int j]) h2;have e1:=k5 _ _ (k4 _ _ (k3 _ _ (k2 _ _ (au (H:=H) (a:=t1) (o:=HO.tup [.int (i-1),.int j])))));have e2:=k5 _ _ (k4 _ _ (k3 _ _ (au (a:=t2) (o:=HO.tup [.int (i+1),.int j]))));have e3:=k5 _ _ (k4 _ _ (au (a:=t3) (o:=HO.tup [.int i,.int (j-1)])));have e4:=k5 _ _ (au (a:=t4) (o:=HO.tup [.int i,.int (j+1)]));have e5:upd (upd (upd (upd (upd H t1 (HO.tup [.int (i-1),.int j])) t2 (HO.tup [.int (i+1),.int j])) t3 (HO.tup [.int i,.int (j-1)])) t4 (HO.tup [.int i,.int (j+1)])) T (HO.tup [.ref t1,.ref t2,.ref t3,.ref t4]) T=some (.tup [.ref t1,.ref t2,.ref t3,.ref t4]):=au;generalize upd (upd (upd (upd (upd H t1 (HO.tup [.int (i-1),.int j])) t2 (HO.tup [.int (i+1),.int j])) t3 (HO.tup [.int i,.int (j-1)])) t4 (HO.tup [.int i,.int (j+1)])) T (HO.tup [.ref t1,.ref t2,.ref t3,.ref t4])=H5 at s5 e1 e2 e3 e4 e5 ⊢;refine(aj _ rfl (aO T rfl ⟨_,aU.of e5⟩ (λL hL=>wN (xs:=[V.ref t1,V.ref t2,V.ref t3,V.ref t4]) (λn ys H6=>ys=(((poss i j).take n).map λp=>!decide ([atC ao r w p.1 p.2]=[46])).map V.bl/\H6 L=some (.lst ys)/\aB H5 H6) ⟨rfl,au,aB.upd hL⟩ (λn ys H6 _ h=>aU.of (h.2.2 _ _ e5)) ?_ ?_)))
  .rintro n x ys H6 hx ⟨rfl,lH,Nj⟩;obtain⟨t,p,rfl,ht,hp⟩:=Z2 e1 e2 e3 e4 hx;have hn:n<4:=(ai.mp hx).1;have B6:=B.mv (s5.trans Nj);obtain⟨dx,_,_,_,ex,_⟩:=id B6.ex;have hS:=aU.of (K:=K) (Nj _ _ ht);refine(aj _ rfl (dM b dx _ rfl ex rfl (aj _ rfl (bK t _ _ _ rfl rfl hS (aN (j:=0) rfl) (aj _ rfl (bK t _ _ _ rfl rfl hS (aN (j:=1) rfl) ⟨b,r,w,ao,aF,bi,bj,p.1,p.2,rfl,B6,fY _ _ rfl rfl lH ?_ (dJ.mk hn ⟨?_,au,Nj.bG hL⟩)⟩))))));.rw[aa,aa,bn];exact aM (by have:(poss i j).length=4:=rfl;lia)
   .rw[bz,hp];simp
  .rintro ys H6 ⟨rfl,lH,Nj⟩;refine(aR L _ rfl (aQ.of lH) ?_);have e:((((poss i j).take 4).map λp=>!decide ([atC ao r w p.1 p.2]=[46])).any id)=Fy ao r w i j:=by
    unfold Fy;rw[List.any_map];rfl
   show Q (.bl _) H6;rw[show ([V.ref t1,V.ref t2,V.ref t3,V.ref t4]:List V).length=4 from rfl,e];exact q H6 (s5.trans Nj)
def cells (r w:Nat):List (Nat×Nat):=(List.range r).flatMap λi=>(List.range w).map λj=>(i,j)
def Xg:(cells 9 9).length=81:=by decide +kernel
def Xh:∀r w:Fin 10,cells r.val w.val=(cells 9 9).filter λc=>decide (c.1<r.val)&&decide (c.2<w.val):=by decide +kernel
def Xi {r w:Nat}{c:Nat×Nat}:c∈cells r w↔c.1<r/\c.2<w:=by
 unfold cells;constructor
 .intro h;obtain⟨i,hi,h⟩:=gz.mp h;obtain⟨j,hj,rfl⟩:=ar.mp h;exact⟨bE.mp hi,bE.mp hj⟩
 .rintro⟨h1,h2⟩;exact gz.mpr (aj c.1 (bE.mpr h1) (ar.mpr (aj c.2 (bE.mpr h2) rfl)))
def Di (H:Hp)(a:Addr)(p:Nat×Nat):Prop:=H a=some (.tup [.int p.1,.int p.2])
def pO (H:Hp)(a:Addr):Nat×Nat:=match H a with| some (.tup [.int x,.int y])=>(x.toNat,y.toNat)| _=>(0,0)
def Ug (h:Di H a p):pO H a=p:=by unfold pO;rw[show H a=_ from h];rfl
structure dO (H:Hp)(as:List Addr)(ps:List (Nat×Nat)):Prop where
 at_:∀a∈as,Di H a (pO H a)
 eq:as.map (pO H)=ps
def dO.gG (k:∀a xs,H a=some (.tup xs)->H' a=some (.tup xs))(h:dO H as ps):dO H' as ps:=by have e:∀a∈as,pO H' a=pO H a:=λa ha=>Ug (k a _ (h.at_ a ha));exact⟨λa ha=>by rw[e a ha];exact k a _ (h.at_ a ha),by rw[<-h.eq];exact eI e⟩
def dO.mv (k:aB H H')(h:dO H as ps):dO H' as ps:=h.gG λa xs e=>k a _ e
def dO.app (h:dO H as ps)(g:dO H bs qs):dO H (as++bs) (ps++qs):=by
 refine⟨λb hb=>?_,by rw[bv,h.eq,g.eq]⟩;rcases ba.mp hb with z|z;.exact h.at_ b z
 .exact g.at_ b z
def dO.one (ha:Di H a p):dO H [a] [p]:=⟨λb hb=>by rw[ap.mp hb,Ug ha];exact ha,by rw[oQ,Ug ha]⟩
def dO.nil:dO H [] []:=⟨λa h=>by simp at h,rfl⟩
def dO.len (h:dO H as ps):as.length=ps.length:=by rw[<-h.eq,aa]
def dO.get (h:dO H as ps)(hi:i<as.length):∃p,ps[i]?=some p/\Di H as[i] p:=(aj (pO H as[i]) (by rw[<-h.eq];simp[hi]) (h.at_ _ (a8 _)))
def zT (p:Nat×Nat):Dt:=.tup [.int p.1,.int p.2]
theorem Hw:∀{as:List Addr},(∀a∈as,Di H a (pO H a))->jL K H 1 ((as.map (pO H)).map zT) (as.map V.ref)
 | [],_=>.nil
 | a::as,h=>.cons (.tup (aU.of (h a a6)) (.cons (.int _) (.cons (.int _) .nil))) (Hw λx hx=>h x (aI _ hx))
def dO.has (h:dO H as ps)(hp:H p=some (.lst (as.map V.ref))):fK K H 2 (.lst (ps.map zT)) (.ref p):=by rw[<-h.eq];exact .lst (aQ.of hp) (Hw h.at_)
def frB (ao:AA)(r w:Nat)(c:Nat×Nat):Bool:=decide ([atC ao r w c.1 c.2]=[46])
def Cg (ao:AA)(r w:Nat)(c:Nat×Nat):Bool:=Fy ao r w c.1 c.2
def uR (ao:AA)(r w:Nat):List (Nat×Nat):=(cells r w).filter λc=>frB ao r w c&&Cg ao r w c
def cU (ao:AA)(r w bi bj:Nat):List (Nat×Nat):=if isFree ao=true then [(bi,bj)] else uR ao r w
def Uh (i w):cells (i+1) w=cells i w++(List.range w).map λj=>(i,j):=by unfold cells;rw[e6,n5];simp
def aeV {ao:AA}{r w i j:Nat}(hb:Blk r w ao)(hi:i<r)(hj:j<w):∃(h1:i<ao.length) (h2:j<ao[i].length),atC ao r w (i:Int) (j:Int)=ao[i][j]:=by
 have h1:i<ao.length:=by rw[hb.len];exact hi
 have h2:j<ao[i].length:=by rw[hb.jr _ (a8 _)];exact hj
 refine⟨h1,h2,?_⟩;unfold atC;rw[if_pos ⟨vE,nV gp hi,vE,vE⟩,du,du,al (l:=ao),ae h1];show ao[i].getD j 0=_;rw[al,ae h2];rfl
def Hx (C:Addr):Sp:=λvs H Q _=>∃(b:Addr) (r w:Nat) (ao aF:AA) (bi bj:Nat),vs=[.ref b]/\dz C H b r w ao aF bi bj/\
 ∀(p:Addr) (as:List Addr) (H':Hp),aB H H'->H' p=some (.lst (as.map V.ref))->dO H' as ((cells r w).filter (frB ao r w))->Q (.ref p) H'
def Kd (D:aK K mg "free_cells" oJ ["board"])(cJ:mg "enumerate"=none)(dH:∃t,mg "FREE"=some (.str (S [46]) t))(bO:d_ K C):bF P w K mg base "free_cells" 1 ["board"] (Hx C):=by
 refine D.cY mY (λvs H Q E h=>?_) (λf bD A outer s H vs Q E hr h=>?_)
 .obtain⟨b,r,w,ao,aF,bi,bj,rfl,_⟩:=h;rfl
 .obtain⟨b,r,w,ao,aF,bi,bj,rfl,B,q⟩:=h;obtain⟨⟨dx,pr,pm,pb,hb,hr',hm,hbb⟩,O⟩:=B;have r9:=O.r9;have w9:=O.w9;have iV:(Ts ao).length=r:=by rw[aa,O.br.len]
  refine(aj _ (aG (aV (i:=1) mY.nd rfl (Or.inl rfl) (eY aA)) (aG (fJ c9 rfl (Lj vT cJ (ak (eN (qv 0) rfl) aA)) (oh rfl (dj (bY (i:=2) mY.nd rfl (Or.inr rfl)) (dj (bY (i:=3) mY.nd rfl (Or.inl rfl)) lN))) (aL (iw (fB dm iN iO qy (qv 1) (ak (gb (ns:=["column","sign"]) rfl (fu.of ["board","cells","row","signs"] [] v0) (Li vT cJ (ak (qv 3) aA)) (λ_ _ _ _ _=>(Gz K rfl (show (["column","sign","board","cells","row","signs"]:List Str).Nodup by decide +kernel) rfl rfl vT vT)) (λ_ _ _ _ _=>(A_ (bZ yZ (qv 1) (lU vT dH) (bU _)))) (λ_ _ _ _ _=>(cO (ak (qv 4) (ak (qv 0) aA))))) aA))))) (aL (aX (qv 1))))) ?_);refine⟨zsz 0,λF hF=>?_⟩;have s0:aB H (upd H F (HO.lst [])):=aB.upd hF;refine(aj _ rfl (iT b C dx _ _ rfl (s0 _ _ hb) bO.cl bO.nr rfl (aO pr rfl ⟨_,aU.of (s0 _ _ hr')⟩ (VG (K:=K) (a:=pr) (xs:=Ts ao) (λi σ H2=>∃(v2 v3:Option V) (as:List Addr),σ=[some (.ref b),some (.ref F),v2,v3]/\aB H H2/\H2 F=some (.lst (as.map V.ref))/\dO H2 as ((cells i w).filter (frB ao r w))/\as.length<=i*9)
   (ig none none [] rfl s0 au dO.nil (cw _)) (λi σ H2 _ h=>by obtain⟨_,_,_,_,sm,_⟩:=h;exact aU.of (sm _ _ hr')) ?_ ?_))))
  .rintro i x σ H2 T hx ⟨v2,v3,as,rfl,sm,gZ,hP,hal⟩ hT;obtain⟨l,hl,rfl⟩:=qH hx;have hil:i<r:=by have:=(ai.mp hx).1;simp_all
   have hir:i<ao.length:=by rw[O.br.len];exact hil
   have hlr:l=ao[i]:=by rw[ae hir]at hl;exact(ax hl).symm
   have W2:l.length=w:=O.br.jr _ (aT hl);have k1:aB H2 (upd H2 T (HO.tup [.int i,.str (S l)])):=aB.upd hT;refine(aY T _ rfl (aU.of au) rfl ⟨_,_,rfl,aR _ _ rfl rfl ?_⟩);have rK:=k1 _ _ gZ;have uP:=sm.trans k1;have JF:=hP.mv k1;generalize upd H2 T (HO.tup [.int i,.str (S l)])=H3 at k1 rK uP JF ⊢;refine(aO _ rfl (.inl ⟨rfl,_,aQ.of rK⟩) (aj _ rfl (aj l rfl (λL hL=>VH (f:=eU [] 0) (KT:=K) (λj ys H4=>∃bs:List Addr,ys=bs.map V.ref/\bs.length<=j/\H4 L=some (.lst ys)/\aB H3 H4/\dO H4 bs (((List.range j).map λj=>(i,j)).filter (frB ao r w)))
    (cW [] rfl (ag _) au (aB.upd hL) dO.nil) ?_ ?_))))
   .rintro j c ys H4 U hj ⟨bs,rfl,gK,mz,s4,Nk⟩ hU;have hjl:j<l.length:=(ai.mp hj).1;obtain⟨_,_,hat⟩:=aeV O.br hil (show j<w by simp_all);have hcj:atC ao r w (i:Int) (j:Int)=c:=by
     rw[hat];subst hlr;rw[ae hjl]at hj;exact ax hj
    have k5:aB H4 (upd H4 U (HO.tup [.int j,.str (S [c])])):=aB.upd hU;refine⟨U,_,_,rfl,aU.of au,?_⟩;have Fx:=k5 _ _ mz;have Rg:=Nk.mv k5;have s5:=s4.trans k5;generalize upd H4 U (HO.tup [.int j,.str (S [c])])=H5 at k5 Fx Rg s5 ⊢;refine(aj _ rfl (aR [c] [46] rfl rfl (aj _ rfl ?_)));by_cases hc:c=46
    .have hfr:frB ao r w (i,j)=true:=by
      unfold frB;rw[hcj];exact aE (by rw[hc])
     rw[aE (show [c]=[46] by rw[hc])];refine cB (aj _ rfl (aO _ rfl (zsz 2) (λg hg=>?_)));have k6:aB H5 (upd H5 g (HO.tup [.int (i:Int),.int (j:Int)])):=aB.upd hg;have lH:=k6 _ _ Fx;refine⟨lH,by rw[aa];exact aM vE,dJ.mk hjl (cW (bs++[g]) vF (by simp;exact gK) (by rw[au]) ((s5.trans k6).bG hL) ?_)⟩;rw[e6,bv,eT];have:([j].map λj=>(i,j)).filter (frB ao r w)=[(i,j)]:=by simp[hfr]
     rw[this];exact((Rg.mv k6).app (dO.one (show Di _ g (i,j) from au))).gG (dI lH)
    .have hfr:frB ao r w (i,j)=false:=by
      unfold frB;rw[hcj];exact am λz=>hc (by injection z)
     rw[am (show ¬[c]=[46] from λz=>hc (by injection z))];refine cA (dJ.mk hjl (cW bs rfl (gN gK) Fx s5 ?_));rw[e6,bv,eT];have:([j].map λj=>(i,j)).filter (frB ao r w)=[]:=by simp[hfr]
     rw[this,fq];exact Rg
   .rintro ys H4 ⟨bs,rfl,gK,mz,s4,Nk⟩;have o_:=s4 _ _ rK;have aeW:=(JF.mv s4).app Nk;rw[W2]at aeW gK;refine(jN F L _ _ rfl rfl o_ mz (by rw[aa,aa];exact ay (aM vE)) ?_);refine(ig _ _ (as++bs) rfl ((uP.trans s4).bG hF) (by rw[au,bv]) ?_ (by simp;lia));rw[Uh,eT];exact aeW.gG (dI o_)
  .rintro σ H2 ⟨v2,v3,as,rfl,sm,gZ,hP,hal⟩;rw[iV]at hP;exact(aj _ rfl (q F as H2 sm gZ hP))
def Rh (C:Addr):Sp:=λvs H Q _=>∃(b:Addr) (r w:Nat) (ao aF:AA) (bi bj:Nat),vs=[.ref b]/\dz C H b r w ao aF bi bj/\
 ∀(p:Addr) (as:List Addr) (H':Hp),aB H H'->H' p=some (.tup (as.map V.ref))->dO H' as (cU ao r w bi bj)->Q (.ref p) H'
def Z4 (D:aK K mg "hooks" Bh ["board"])(bN:mg "tuple"=none)(bO:d_ K C)(Fz:Meth K C "is_free" f1)(FJ:cL P w K mg base fW 1 f1 lG ["self"] (W5 C))(FN:cj K lG ["self"] [])(tY:bF P w K mg base "free_cells" 1 ["board"] (Hx C))(zU:bF P w K mg base "is_next_to_taken" 4 ["board","row","column"] (Ni C)):bF P w K mg base "hooks" 5 ["board"] (Rh C):=by
 refine D.cY ZG (λvs H Q E h=>?_) (λf bD A outer s H vs Q E hr h=>?_)
 .obtain⟨b,r,w,ao,aF,bi,bj,rfl,_⟩:=h;rfl
 .obtain⟨b,r,w,ao,aF,bi,bj,rfl,B,q⟩:=h;obtain⟨dx,_,_,_,hb,_,_,_⟩:=id B.ex;have r9:=B.ok.r9;have w9:=B.ok.w9;refine(aj _ (aG (d7 (gU (nD (qv 0) bO.cl Fz FJ hr.mono FN .nil gD)) (aL (aX (cO (ak (eN (qv 0) rfl) aA)))) cD) (aL (aX (cP dg vT bN cE (ak (gb (ns:=["cell"]) rfl (fu.of ["board"] [] v0) (eG (aZ tY hr.mono rfl (ak (qv 0) aA))) (λ_ _ _ _ _=>(pH (show (["cell","board"]:List Str).Nodup by decide +kernel) rfl vT)) (λ_ _ _ _ _=>(A_ (gU (aZ zU hr.mono rfl (ak (qv 1) (ak (bB (nO K) (qv 0) aD (λ_ _=>rfl)) (ak (bB (nO K) (qv 0) aD (λ_ _=>rfl)) aA))))))) (λ_ _ _ _ _=>(qv 0))) aA))))) ?_);refine(aj _ rfl (dM b dx _ rfl hb rfl (rO b r w ao aF bi bj rfl B (λH1 s1=>(aj _ rfl ?_)))));have B1:=B.mv s1;by_cases hf:isFree ao=true
  .rw[hf];obtain⟨Xe,pr,pm,pb,hb1,_,_,hpb⟩:=id B1.ex;refine cB (aj _ rfl (uF b C Xe _ _ rfl hb1 bO.cl bO.nb rfl (zsz 1) (λt ht=>?_)));have k:aB H1 (upd H1 t (HO.tup [.ref pb])):=aB.upd ht;refine q t [pb] _ (s1.trans k) au ?_;have e:cU ao r w bi bj=[(bi,bj)]:=if_pos hf;rw[e];exact dO.one (show Di _ pb (bi,bj) from k _ _ hpb)
  .rw[show isFree ao=false by simpa using hf];refine cA ?_;have e:cU ao r w bi bj=uR ao r w:=if_neg hf;rw[e]at q;refine(aj _ rfl (rO b r w ao aF bi bj rfl B1 (λp as H2 s2 hp hP=>?_)));have hal:as.length<=81:=by
    rw[hP.len];refine a9 (ik _ _) ?_;have:=Xh ⟨r,qf r9⟩ ⟨w,vE⟩;rw[this];exact a9 (ik _ _) (by rw[Xg];decide)
   refine(aO p rfl ⟨_,aQ.of hp⟩ (λL hL=>BW (K:=K) (a:=p) (f:=eU [] 0) (tt:=tB (wI (Ni C) [] E0 (iR (eO 1) (iR (rE (R9 K) (eO 0) (tC (V.int 0))) (iR (rE (R9 K) (eO 0) (tC (V.int 1))) n8))))) (te:=eO 0) (xs:=as.map V.ref) (λn ys H3=>∃bs:List Addr,ys=bs.map V.ref/\bs.length<=n/\H3 L=some (.lst ys)/\aB H2 H3/\dO H3 bs ((((cells r w).filter (frB ao r w)).take n).filter (Cg ao r w)))
    (cW [] rfl (ag _) au (aB.upd hL) dO.nil) (λn ys H3 _ h=>by obtain⟨_,_,_,_,sm,_⟩:=h;exact aQ.of (sm _ _ hp)) ?_ ?_))
   .rintro n x ys H3 hx ⟨bs,rfl,gK,vY,s3,JF⟩;have hn:n<as.length:=by have:=(ai.mp hx).1;simpa using this
    rw[aw,ae hn]at hx;have hx:V.ref as[n]=x:=ax hx;subst hx;obtain⟨⟨u,v⟩,hc,hat⟩:=(hP.mv s3).get hn;have B3:=B1.mv (s2.trans s3);have hS:=aU.of (K:=K) hat;refine(aj _ rfl (aj _ rfl (bK (as[n]) _ _ _ rfl rfl hS (aN (j:=0) rfl) (aj _ rfl (bK (as[n]) _ _ _ rfl rfl hS (aN (j:=1) rfl) ⟨b,r,w,ao,aF,bi,bj,(u:Int),(v:Int),rfl,B3,λH4 s4=>(aj _ rfl ?_)⟩)))));have mz:=s4 _ _ vY;by_cases hc2:Cg ao r w (u,v)=true
    .have:Fy ao r w (u:Int) (v:Int)=true:=hc2;rw[this];refine cB (dX _ rfl mz (by rw[aa];exact aM vE) (dJ.mk (by rw[aa];exact hn) (cW (bs++[as[n]]) vF (by simp;exact gK) (by rw[au]) ((s3.trans s4).bG hL) ?_)));rw[bz,hc,eT];have e2:((some (u,v)).toList).filter (Cg ao r w)=[(u,v)]:=by simp[hc2]
     rw[e2];exact((JF.mv s4).app (dO.one (s4 _ _ hat))).gG (dI mz)
    .have:Fy ao r w (u:Int) (v:Int)=false:=by simpa [Cg] using hc2
     rw[this];refine cA (dJ.mk (by rw[aa];exact hn) (cW bs rfl (gN gK) mz (s3.trans s4) ?_));rw[bz,hc,eT];have e2:((some (u,v)).toList).filter (Cg ao r w)=[]:=by simp[hc2]
     rw[e2,fq];exact JF.mv s4
   .rintro ys H3 ⟨bs,rfl,gK,vY,s3,JF⟩;rw[aa,hP.len,cz,List.filter_filter]at JF;refine⟨L,_,rfl,.inl ⟨aQ.of vY,λt ht=>?_⟩⟩;have k:aB H3 (upd H3 t (HO.tup (bs.map V.ref))):=aB.upd ht;refine q t bs _ (((s1.trans s2).trans s3).trans k) au ?_;have e3:(cells r w).filter (λa=>Cg ao r w a&&frB ao r w a)=uR ao r w:=by
     unfold uR;exact List.filter_congr λc _=>Bool.and_comm _ _
    rw[<-e3];exact JF.mv k
def zV:Sp:=λvs H Q _=>∃(p:Addr) (as:List Addr) (ts:List bL),vs=[.ref p]/\H p=some (.tup (as.map V.ref))/\cT H as ts/\(∀t∈ts,qJ t)/\(ts.map λt=>rk (sw t)).Nodup/\ts.length<=63/\
 ∀(p':Addr) (as':List Addr) (ts':List bL) (H':Hp),aB H H'->H' p'=some (.tup (as'.map V.ref))->cT H' as' ts'->ts'.Perm (ts.map sw)->(ts'.map rk).Pairwise (·<·)->Q (.ref p') H'
def Dj (D:aK K mg "turned_laying" kE ["laying"])(bN:mg "tuple"=none)(dR:mg "sorted"=none):bF P w K mg base "turned_laying" 1 ["laying"] zV:=by
 refine D.cY CW (λvs H Q E h=>?_) (λf bD A outer s H vs Q E hr h=>?_)
 .obtain⟨p,as,ts,rfl,_⟩:=h;rfl
 .obtain⟨p,as,ts,rfl,hp,hL,hok,hnd,h63,q⟩:=h;refine(aj _ (aL (aX (cP dg vT bN cE (ak (bh yG vT dR gy (ak (gb (ns:=["row","column","sign"]) rfl (fu.of ["laying"] [] v0) (iG (qv 0)) (λ_ _ _ _ _=>(pJ K rfl (show (["row","column","sign","laying"]:List Str).Nodup by decide +kernel) rfl rfl rfl vT vT vT)) (λ_ _ _ _ _=>cF) (λ_ _ _ _ _=>(cO (ak (qv 1) (ak (qv 0) (ak (qv 2) aA)))))) aA)) aA)))) ?_);have bW:=hL.len;refine(aj _ rfl (aO p rfl ⟨_,aU.of hp⟩ (λM hM=>oA (f:=eU [] 0) (tt:=gF) (xs:=as.map V.ref) (λi ys H6=>∃bs:List Addr,ys=bs.map V.ref/\bs.length=i/\H6 M=some (.lst ys)/\aB H H6/\cT H6 bs ((ts.take i).map sw))
   (cW [] rfl rfl au (aB.upd hM) cT.nil) (λi ys H6 _ h=>by obtain⟨_,_,_,_,sm,_⟩:=h;exact aU.of (sm _ _ hp)) ?_ ?_)))
  .rintro i x ys H6 hx ⟨bs,rfl,gK,pB,sm,hB⟩;rw[aw]at hx;have hi:i<as.length:=by
    rcases cn i as.length with z|z;.exact z
    .rw[bP z]at hx;cases hx
   rw[ae hi]at hx;have hx:V.ref as[i]=x:=ax hx;obtain⟨t,et,hT⟩:=hL.get hi;refine wR hx.symm (aU.of (sm _ _ hT)) ?_;refine(aj _ rfl (aj _ rfl (aO _ rfl (zsz 3) (λc hc=>?_))));have nM:M≠c:=λz=>by rw[<-z,pB]at hc;cases hc
   have rJ:upd H6 c (.tup [.int t.2.1,.int t.1,.str (S [t.2.2])]) M=some (.lst (bs.map V.ref)):=by rw[bw nM];exact pB
   refine⟨rJ,by rw[aa,gK];exact aM vE,dJ.mk (by rw[aa];exact hi) (cW (bs++[c]) vF (by simp[gK]) (by rw[au]) ?_ ?_)⟩;.exact(sm.bG (sm.free hc)).bG hM
   .rw[show (ts.take (i+1)).map sw=(ts.take i).map sw++[sw t] by rw[vz,et];simp];refine cT.snoc ?_ ?_;.exact(hB.mv (aB.upd hc)).gG (dI rJ)
    .exact dI rJ _ _ au
  .rintro ys H6 ⟨bs,rfl,gK,pB,sm,hB⟩;rw[aa]at gK;rw[cq (by rw[aa];lia)]at hB;have ecf:bs.map (λa=>rk (tO H6 a))=ts.map λt=>rk (sw t):=by
    have:(bs.map (tO H6)).map rk=(ts.map sw).map rk:=by rw[hB.eq]
    rw[b6,b6]at this;exact this
   have Z5:∀a∈bs,qJ (tO H6 a):=λa ha=>by
    have:tO H6 a∈ts.map sw:=by rw[<-hB.eq];exact cy ha
    obtain⟨t,ht,e⟩:=ar.mp this;rw[<-e];have:=hok t ht;exact⟨this.2.1,this.1,this.2.2⟩
   refine⟨M,bs,λa=>rk (tO H6 a),rfl,aQ.of pB,vE,λa ha=>?_,by rw[ecf];exact hnd,λp1 as' hp1 pm pw=>?_⟩
   .have:=Z5 a ha;exact(dM ((tO H6 a).1) ((tO H6 a).2.1) [.str (S [(tO H6 a).2.2])] (hB.at_ a ha) (by have:=this.2.1;lia) rfl (.inr ⟨_,rfl⟩))
   .obtain⟨l1,l2⟩:=hB.perm pm;refine⟨p1,_,rfl,.inl ⟨aQ.of au,λl hl=>?_⟩⟩;have s1:aB H6 (upd H6 p1 (.lst (as'.map V.ref))):=aB.upd hp1;have s2:=s1.bG (o:=.tup (as'.map V.ref)) (s1.free hl);exact q l as' _ _ (sm.trans s2) au (l1.mv s2) l2 (by rw[b6];exact pw)
def cg (t:bL):Nat×Nat:=(t.1,t.2.1)
def Bq (K:W.Frag):Sp:=λvs H Q _=>∃(p:Addr) (as:List Addr) (ts:List bL),vs=[.ref p]/\(aQ K H p (as.map V.ref)\/aU K H p (as.map V.ref))/\cT H as ts/\ts.length<=63/\
 ∀(p':Addr) (bs:List Addr) (H':Hp),aB H H'->H p'=none->H' p'=some (.lst (bs.map V.ref))->dO H' bs (ts.map cg)->Q (.ref p') H'
def Px (D:aK K mg "cells_of" rU ["laying"]):bF P w K mg base "cells_of" 1 ["laying"] (Bq K):=by
 refine D.cY Pa (λvs H Q E h=>?_) (λf bD A outer s H vs Q E hr h=>?_)
 .obtain⟨p,as,ts,rfl,_⟩:=h;rfl
 .obtain⟨p,as,ts,rfl,hp,hL,h63,q⟩:=h;refine(aj _ (aL (aX (gb (ns:=["row","column","sign"]) rfl (fu.of ["laying"] [] v0) ((eG (qv 0)).or (iG (qv 0))) (λ_ _ _ _ _=>(pJ K rfl (show (["row","column","sign","laying"]:List Str).Nodup by decide +kernel) rfl rfl rfl vT vT vT)) (λ_ _ _ _ _=>cF) (λ_ _ _ _ _=>(cO (ak (qv 0) (ak (qv 1) aA))))))) ?_);have bW:=hL.len;have step:∀(M:Addr) (i:Nat) (x:V) (ys:List V) (H6:Hp),H M=none->(as.map V.ref)[i]?=some x->(∃bs:List Addr,ys=bs.map V.ref/\bs.length=i/\H6 M=some (.lst ys)/\aB H H6/\dO H6 bs ((ts.take i).map cg))->
    uy (as.map V.ref).length i M (λv H Q=>∃a p q r,v=.ref a/\aU K H a [p,q,r]/\Q [some p,some q,some r]) (eU [] 0) [some (V.ref p)] gF (Yy (iR (eO 0) (iR (eO 1) n8))) x H6 ys λys H6=>∃bs:List Addr,ys=bs.map V.ref/\bs.length=i+1/\H6 M=some (.lst ys)/\aB H H6/\dO H6 bs ((ts.take (i+1)).map cg):=by
   rintro M i x ys H6 hM hx ⟨bs,rfl,gK,pB,sm,hB⟩;rw[aw]at hx;have hi:i<as.length:=by
    rcases cn i as.length with z|z;.exact z
    .rw[bP z]at hx;cases hx
   rw[ae hi]at hx;have hx:V.ref as[i]=x:=ax hx;obtain⟨t,et,hT⟩:=hL.get hi;refine wR hx.symm (aU.of (sm _ _ hT)) ?_;refine(aj _ rfl (aO _ rfl (zsz 2) (λc hc=>?_)));have nM:M≠c:=λz=>by rw[<-z,pB]at hc;cases hc
   have rJ:upd H6 c (.tup [.int t.1,.int t.2.1]) M=some (.lst (bs.map V.ref)):=by rw[bw nM];exact pB
   refine⟨rJ,by rw[aa,gK];exact aM vE,dJ.mk (by rw[aa];exact hi) (cW (bs++[c]) vF (by simp[gK]) (by rw[au]) ?_ ?_)⟩;.exact(sm.bG (sm.free hc)).bG hM
   .rw[show (ts.take (i+1)).map cg=(ts.take i).map cg++[cg t] by rw[vz,et];simp];refine dO.app ((hB.mv (aB.upd hc)).gG (dI rJ)) (dO.one (p:=cg t) ?_);exact dI rJ _ _ au
  have fin:∀(M:Addr) (ys:List V) (H6:Hp),H M=none->(∃bs:List Addr,ys=bs.map V.ref/\bs.length=(as.map V.ref).length/\H6 M=some (.lst ys)/\aB H H6/\dO H6 bs ((ts.take (as.map V.ref).length).map cg))->Q (.ref M) H6:=by rintro M ys H6 hM ⟨bs,rfl,gK,pB,sm,hB⟩;rw[cq (by rw[aa];lia)]at hB;exact q M bs H6 sm hM pB hB
  have nMp:∀M:Addr,H M=none->∀H6:Hp,aB H H6->(aQ K H p (as.map V.ref)->aQ K H6 p (as.map V.ref))/\(aU K H p (as.map V.ref)->aU K H6 p (as.map V.ref)):=λM _ H6 sm=>⟨λz=>sm.seq z,λz=>sm.ad4 z⟩
  rcases hp with hp|hp
  .refine .inl (aj _ rfl (aO p rfl ⟨_,hp⟩ (λM hM=>uW (f:=eU [] 0) (tt:=gF) (xs:=as.map V.ref) (λi ys H6=>∃bs:List Addr,ys=bs.map V.ref/\bs.length=i/\H6 M=some (.lst ys)/\aB H H6/\dO H6 bs ((ts.take i).map cg))
    (cW [] rfl rfl au (aB.upd hM) dO.nil) (λi ys H6 _ h=>by obtain⟨_,_,_,_,sm,_⟩:=h;exact(nMp M hM H6 sm).1 hp) (λi x ys H6 hx h=>step M i x ys H6 hM hx h) (λys H6 h=>fin M ys H6 hM h))))
  .refine .inr (aj _ rfl (aO p rfl ⟨_,hp⟩ (λM hM=>oA (f:=eU [] 0) (tt:=gF) (xs:=as.map V.ref) (λi ys H6=>∃bs:List Addr,ys=bs.map V.ref/\bs.length=i/\H6 M=some (.lst ys)/\aB H H6/\dO H6 bs ((ts.take i).map cg))
    (cW [] rfl rfl au (aB.upd hM) dO.nil) (λi ys H6 _ h=>by obtain⟨_,_,_,_,sm,_⟩:=h;exact(nMp M hM H6 sm).2 hp) (λi x ys H6 hx h=>step M i x ys H6 hM hx h) (λys H6 h=>fin M ys H6 hM h))))
def Nm:Sp:=λvs H Q _=>∃c:Nat,vs=[.str (S [c])]/\c<128/\Q (.str (S [PyProof.Rows.lo1 c])) H
def Np (D:aK K mg "letter_of" qe ["sign"]):bF P w K mg base "letter_of" 1 ["sign"] Nm:=by
 refine D.cY Mz (λvs H Q E h=>?_) (λf bD A outer s H vs Q E hr h=>?_)
 .obtain⟨c,rfl,_⟩:=h;rfl
 .obtain⟨c,rfl,hc,q⟩:=h;refine(aj _ (aL (aX (Eh ci qB qE K_ (qv 0)))) ?_);exact(aO _ rfl rfl (cW [c] rfl rfl (by show 1<=1000;decide) (λe he=>by rw[ap.mp he];exact hc) q))
def gM (r w n:Nat):List (Nat×Nat):=(List.range r).flatMap λi=>(List.range (w+1-n)).map λj=>(i,j)
def Ci (r w n):gM (r+1) w n=gM r w n++(List.range (w+1-n)).map λj=>(r,j):=by unfold gM;rw[e6,n5];simp
def FP {r w n:Nat}{c:Nat×Nat}:c∈gM r w n↔c.1<r/\c.2<w+1-n:=by
 unfold gM;simp only[gz,ar,bE];constructor;.rintro⟨i,hi,j,hj,rfl⟩;exact⟨hi,hj⟩
 .rintro⟨h1,h2⟩;exact(aj c.1 h1 (aj c.2 h2 rfl))
def xV (r w n):(gM r w n).length=r*(w+1-n):=by
 induction r with| zero=>simp[gM]| succ r ih=>rw[Ci,av,ih,aa,dC,sr]
def Nq (C:Addr):Sp:=λvs H Q _=>∃(b:Addr) (r w:Nat) (ao aF:AA) (bi bj:Nat) (l:List Nat),vs=[.ref b,.str (S l)]/\dz C H b r w ao aF bi bj/\l.length<=9/\
 ∀(p:Addr) (as:List Addr) (H':Hp),aB H H'->H p=none->H' p=some (.lst (as.map V.ref))->dO H' as (gM r w l.length)->Q (.ref p) H'
def Xj (D:aK K mg "starts" xK ["board","word"])(bI:mg "len"=none)(fV:mg "range"=none)(bO:d_ K C):bF P w K mg base "starts" 1 ["board","word"] (Nq C):=by
 refine D.cY uJ (λvs H Q E h=>?_) (λf bD A outer s H vs Q E hr h=>?_)
 .obtain⟨b,r,w,ao,aF,bi,bj,l,rfl,_⟩:=h;rfl
 .obtain⟨b,r,w,ao,aF,bi,bj,l,rfl,B,hl9,q⟩:=h;obtain⟨⟨dx,pr,pm,pb,hb,hr',hm,hbb⟩,O⟩:=B;have r9:=O.r9;have w9:=O.w9;have iV:(Ts ao).length=r:=by rw[aa,O.br.len]
  have h0:0<ao.length:=by rw[O.br.len];exact O.r1
  have hw0:ao[0].length=w:=O.br.jr _ (a8 _);have at0:j_ (Ts ao) 0=some (.str (S ao[0])):=aN (j:=0) (qp (ae h0));refine(aj _ (aG (aV (i:=2) uJ.nd rfl (Or.inl rfl) (eY aA)) (aG (fJ c9 rfl (nJ vT fV (ak (bh dh vT bI ck (ak (eN (qv 0) rfl) aA)) aA)) (bY (i:=3) uJ.nd rfl (Or.inr rfl)) (aL (iw (fB dm iN iO qy (qv 2) (ak (f9 rfl (fH.of uJ.nd v0) (nJ vT fV (ak (aP cu (aP qx (bh d9 vT bI ck (ak (bB bV (eN (qv 0) rfl) aD (λ_ _=>rfl)) aA)) (bh d9 vT bI ck (ak (qv 1) aA))) aD) aA)) (λ_ _ _ _ _=>cF) (λ_ _ _ _ _=>(cO (ak (qv 4) (ak (qv 0) aA))))) aA))))) (aL (aX (qv 2))))) ?_);refine⟨zsz 0,λF hF=>?_⟩;have s0:aB H (upd H F (HO.lst [])):=aB.upd hF;refine(aj _ rfl (iT b C dx _ _ rfl (s0 _ _ hb) bO.cl bO.nr rfl (aR pr _ rfl (.inr (aU.of (s0 _ _ hr'))) ?_)));rw[iV];refine(dX _ rfl (lS _) vE ?_);rw[du];refine uw (lo:=0) (n:=r) (λi σ H2=>∃(v3:Option V) (as:List Addr),σ=[some (.ref b),some (.str (S l)),some (.ref F),v3]/\aB H H2/\H2 F=some (.lst (as.map V.ref))/\dO H2 as (gM i w l.length))
   (aY none [] rfl s0 au (by simpa [gM] using dO.nil)) ?_ ?_
  .rintro i σ H2 hi ⟨v3,as,rfl,sm,gZ,hP⟩;refine(aO _ rfl (.inl ⟨rfl,_,aQ.of gZ⟩) (aj _ rfl (iT b C dx _ _ rfl (sm _ _ hb) bO.cl bO.nr rfl (bK pr _ _ _ rfl rfl (aU.of (sm _ _ hr')) at0 (aO _ rfl (by rw[hw0];exact ay (aM vE)) (aj _ rfl (aO _ rfl (ay (aM vE)) (aR _ _ rfl rfl (aR _ _ rfl rfl (aj _ rfl ?_))))))))));rw[hw0];refine⟨vE,vE,?_⟩;have en:((w:Int)-(l.length:Int)+1).toNat=w+1-l.length:=vE;rw[en];refine λL hL=>Ec (lo:=0) (n:=w+1-l.length) (λj ys H4=>∃bs:List Addr,ys=bs.map V.ref/\bs.length=j/\H4 L=some (.lst ys)/\aB H2 H4/\dO H4 bs ((List.range j).map λj=>(i,j)))
    (cW [] rfl rfl au (aB.upd hL) dO.nil) ?_ ?_
   .rintro j ys H4 hj ⟨bs,rfl,gK,mz,s4,Nk⟩;refine(aj _ rfl (aO _ rfl (zsz 2) (λg hg=>?_)));have k6:aB H4 (upd H4 g (HO.tup [.int (0+(i:Int)),.int (0+(j:Int))])):=aB.upd hg;have lH:=k6 _ _ mz;refine⟨lH,by rw[aa];exact aM (by simp[fe,gh]at *;lia),dJ.mk hj (cW (bs++[g]) vF (by simp;exact gK) (by rw[au]) ((s4.trans k6).bG hL) ?_)⟩;rw[e6,bv];refine((Nk.mv k6).app (dO.one (p:=(i,j)) ?_)).gG (dI lH);show upd H4 g (HO.tup [.int (0+(i:Int)),.int (0+(j:Int))]) g=some (.tup [.int (i:Int),.int (j:Int)]);rw[au,Int.zero_add,Int.zero_add]
   .rintro ys H4 ⟨bs,rfl,gK,mz,s4,Nk⟩;have o_:=s4 _ _ gZ;have hal:=hP.len;rw[xV]at hal;have h81:i*(w+1-l.length)<=9*10:=kd vE (iE vE);refine(jN F L _ _ rfl rfl o_ mz (by rw[aa,aa];exact ay (aM (by simp_all;lia))) ?_);refine(aY _ (as++bs) rfl ((sm.trans s4).bG hF) (by rw[au,bv]) ?_);rw[Ci];exact((hP.mv s4).app Nk).gG (dI o_)
  .rintro σ H2 ⟨v3,as,rfl,sm,gZ,hP⟩;exact(aj _ rfl (q F as H2 sm hF gZ hP))
noncomputable def xW (ao:AA)(r w i j:Nat)(l:List Nat)(k:Nat):Bool:=decide (atC ao r w i ((j+k:Nat):Int)=46)||decide (PyProof.Rows.lo1 (atC ao r w i ((j+k:Nat):Int))=l.getD k 0)
def oX (ao:AA)(r w i j:Nat)(l:List Nat)(k:Nat):Option bL:=if atC ao r w i ((j+k:Nat):Int)=46 then some (i,j+k,l.getD k 0) else none
def nj (ao:AA)(r w i j:Nat)(l:List Nat)(n:Nat):List bL:=(List.range n).filterMap (oX ao r w i j l)
noncomputable def FQ (ao:AA)(r w i j:Nat)(l:List Nat):Bool:=decide (atC ao r w i ((j:Int)-1)=46)&&decide (atC ao r w i ((j:Int)+(l.length:Int))=46)
noncomputable def dF (ao:AA)(r w i j:Nat)(l:List Nat):List bL:=if (FQ ao r w i j l&&(List.range l.length).all (xW ao r w i j l))=true then nj ao r w i j l l.length else []
def xX (ao)(r w i j)(l)(n):nj ao r w i j l (n+1)=nj ao r w i j l n++(oX ao r w i j l n).toList:=by unfold nj;rw[e6,List.filterMap_append];congr 1
def all_succ (f:Nat->Bool)(n):(List.range (n+1)).all f=((List.range n).all f&&f n):=by rw[e6,List.all_append];simp
def JG (ao)(r w i j)(l)(n):(nj ao r w i j l n).length<=n:=by unfold nj;exact a9 (List.length_filterMap_le _ _) (by rw[dC];exact ag _)
def aeX {r w bi bj:Nat}{ao aF:AA}(O:Fp r w ao aF bi bj)(i j:Int):atC ao r w i j<128:=by
 unfold atC;split
 .rename_i h;obtain⟨h1,h2,h3,h4⟩:=h;have a1:i.toNat<ao.length:=by rw[O.br.len];simp_all
  have e1:ao.getD i.toNat []=ao[i.toNat]:=by rw[al,ae a1];rfl
  have a2:j.toNat<ao[i.toNat].length:=by rw[O.br.jr _ (a8 _)];lia
  rw[e1,al,ae a2];exact Ua (O.cr _ (a8 _) _ (a8 _))
 .decide
def Ri (C:Addr):Sp:=λvs H Q _=>∃(b:Addr) (r w:Nat) (ao aF:AA) (bi bj i j:Nat) (l:List Nat),vs=[.ref b,.int i,.int j,.str (S l)]/\dz C H b r w ao aF bi bj/\j<1000/\l.length<=9/\
 ∀(p:Addr) (as:List Addr) (H':Hp),aB H H'->H p=none->H' p=some (.lst (as.map V.ref))->cT H' as (dF ao r w i j l)->Q (.ref p) H'
def Bx (D:aK K mg "letters_to_lay" jP ["board","row","column","word"])(bI:mg "len"=none)(cJ:mg "enumerate"=none)(dH:∃t,mg "FREE"=some (.str (S [46]) t))(bO:d_ K C)(oU:Meth K C "at" f1)(oV:cL P w K mg base fW 3 f1 lG ["self","row","column"] (ZR C))(oW:cj K lG ["self","row","column"] [])(Py:bF P w K mg base "letter_of" 1 ["sign"] Nm):bF P w K mg base "letters_to_lay" 4 ["board","row","column","word"] (Ri C):=by
 refine D.cY gW (λvs H Q E h=>?_) (λf bD A outer s H vs Q E hr h=>?_)
 .obtain⟨b,r,w,ao,aF,bi,bj,i,j,l,rfl,_⟩:=h;rfl
 .obtain⟨b,r,w,ao,aF,bi,bj,i,j,l,rfl,B,hj,hl9,q⟩:=h;obtain⟨dx,_,_,_,ex,_⟩:=id B.ex;have O:=B.ok;have hz:l.length<=sizeLine:=ay (aM vE);refine⟨_,(aG (d7 (QW.qt (wL (bZ Ed (lR (qv 0) bO.cl oU oV hr.mono oW .nil gD (ak (qv 1) (ak (aP qx (qv 2) aD) aA))) (lU vT dH) (bU _)) (sW (bZ Ed (lR (qv 0) bO.cl oU oV hr.mono oW .nil gD (ak (qv 1) (ak (aP cu (qv 2) (bh d9 vT bI ck (ak (qv 3) aA))) aA))) (lU vT dH) (bU _))))) (aL (aX (eY aA))) cD) (aG (aV (i:=4) gW.nd rfl (Or.inl rfl) (eY aA)) (aG (fJ c9 rfl (ZD vT cJ (qv 3) (qv 2)) (oh rfl (dj (bY (i:=5) gW.nd rfl (Or.inl rfl)) (dj (bY (i:=6) gW.nd rfl (Or.inl rfl)) lN))) (aG (aV (i:=7) gW.nd rfl (Or.inl rfl) (lR (qv 0) bO.cl oU oV hr.mono oW .nil gD (ak (qv 1) (ak (qv 5) aA)))) (aL (d7 (bZ yZ (qv 7) (lU vT dH) (bU _)) (aL (iw (fB dm fS fT jE (qv 4) (ak (cO (ak (qv 1) (ak (qv 5) (ak (qv 6) aA)))) aA)))) (aL (d7 (bZ Ed (aZ Py hr.mono rfl (ak (qv 7) aA)) (qv 6) (bU _)) (aL (aX (eY aA))) cD)))))) (aL (aX (qv 4)))))),?_⟩;have none_:dF ao r w i j l=[]->∀(H':Hp),aB H H'->(0<=sizeLine)/\∀p,H' p=none->Q (.ref p) (upd H' p (.lst [])):=λe H' sm=>⟨vS,λp hp=>q p [] _ (sm.bG (sm.free hp)) (sm.free hp) au (by rw[e];exact cT.nil)⟩
  refine⟨_,rfl,b,dx,_,rfl,ex,rfl,_,rfl,_,rfl,_,_,rfl,rfl,b,r,w,ao,aF,bi,bj,_,_,rfl,B,_,_,rfl,rfl,_,rfl,?_⟩;by_cases c1:atC ao r w (i:Int) ((j:Int)-1)=46
  .rw[aE (show [atC ao r w (i:Int) ((j:Int)-1)]=[46] by rw[c1])];refine cA ⟨_,rfl,b,dx,_,rfl,ex,rfl,_,rfl,_,rfl,_,rfl,l,rfl,hz,_,_,rfl,rfl,b,r,w,ao,aF,bi,bj,_,_,rfl,B,_,_,rfl,rfl,_,rfl,?_⟩;by_cases c2:atC ao r w (i:Int) ((j:Int)+(l.length:Int))=46
   .rw[aE (show [atC ao r w (i:Int) ((j:Int)+(l.length:Int))]=[46] by rw[c2])];refine cA ?_;have he:FQ ao r w i j l=true:=by unfold FQ;rw[aE c1,aE c2];rfl
    refine⟨zsz 0,λF hF=>?_⟩;have s0:aB H (upd H F (HO.lst [])):=aB.upd hF;refine⟨_,rfl,_,rfl,l,j,rfl,rfl,hj,Wv (l:=l) (k:=j) (λn σ H2=>∃(v5 v6 v7:Option V) (as:List Addr),σ=[some (.ref b),some (.int i),some (.int j),some (.str (S l)),some (.ref F),v5,v6,v7]/\aB H H2/\H2 F=some (.lst (as.map V.ref))/\cT H2 as (nj ao r w i j l n)/\(List.range n).all (xW ao r w i j l)=true)
     ⟨none,none,none,[],rfl,s0,au,cT.nil,rfl⟩ ?_ ?_⟩
    .rintro n c σ H2 T hn ⟨v5,v6,v7,as,rfl,sm,gZ,hL,ha⟩ hT;have hnl:n<l.length:=(ai.mp hn).1;have ec:l.getD n 0=c:=by rw[al,hn];rfl
     have k1:aB H2 (upd H2 T (HO.tup [.int ((j+n:Nat):Int),.str (S [c])])):=aB.upd hT;refine⟨T,_,rfl,aU.of au,rfl,_,_,rfl,_,_,rfl,rfl,?_⟩;have rK:=k1 _ _ gZ;have uP:=sm.trans k1;have vY:=hL.mv k1;generalize upd H2 T (HO.tup [.int ((j+n:Nat):Int),.str (S [c])])=H3 at k1 rK uP vY ⊢;have B3:=B.mv uP;have bW:=vY.len;have htl:=JG ao r w i j l n;refine⟨_,rfl,b,dx,_,rfl,uP _ _ ex,rfl,_,rfl,_,rfl,b,r,w,ao,aF,bi,bj,_,_,rfl,B3,?_⟩;refine⟨_,rfl,[atC ao r w (i:Int) ((j+n:Nat):Int)],[46],rfl,rfl,_,rfl,?_⟩;by_cases c3:atC ao r w (i:Int) ((j+n:Nat):Int)=46
     .rw[aE (show [atC ao r w (i:Int) ((j+n:Nat):Int)]=[46] by rw[c3])];refine cB ⟨_,rfl,.inl ⟨rfl,_,aQ.of rK⟩,_,rfl,_,rfl,_,rfl,zsz 3,λg hg=>?_⟩;have k4:aB H3 (upd H3 g (HO.tup [.int (i:Int),.int ((j+n:Nat):Int),.str (S [c])])):=aB.upd hg;have o_:=k4 _ _ rK;refine⟨F,_,_,rfl,rfl,o_,by rw[aa];exact aM vE,?_⟩;refine⟨_,_,_,as++[g],rfl,(uP.trans k4).bG hF,by rw[au,bv];rfl,?_,?_⟩
      .rw[xX];have et:oX ao r w i j l n=some (i,j+n,c):=by unfold oX;rw[if_pos c3,ec]
       rw[et];exact((vY.mv k4).snoc (t:=(i,j+n,c)) au).gG (dI o_)
      .rw[all_succ,ha];show xW ao r w i j l n=true;unfold xW;rw[aE c3];rfl
     .rw[am (show ¬[atC ao r w (i:Int) ((j+n:Nat):Int)]=[46] from λz=>c3 (by injection z))];refine cA ⟨_,rfl,_,rfl,aeX O _ _,_,rfl,[PyProof.Rows.lo1 (atC ao r w (i:Int) ((j+n:Nat):Int))],[c],rfl,rfl,_,rfl,?_⟩;by_cases c4:PyProof.Rows.lo1 (atC ao r w (i:Int) ((j+n:Nat):Int))=c
      .rw[aE (show [PyProof.Rows.lo1 (atC ao r w (i:Int) ((j+n:Nat):Int))]=[c] by rw[c4])];refine cA ⟨_,_,_,as,rfl,uP,rK,?_,?_⟩
       .rw[xX];have et:oX ao r w i j l n=none:=by unfold oX;rw[if_neg c3]
        rw[et];simpa using vY
       .rw[all_succ,ha];show xW ao r w i j l n=true;unfold xW;rw[ec,aE c4,Bool.or_true]
      .rw[am (show ¬[PyProof.Rows.lo1 (atC ao r w (i:Int) ((j+n:Nat):Int))]=[c] from λz=>c4 (by injection z))];refine cB (none_ ?_ H3 uP);unfold dF;rw[if_neg];intro z;have z2:=(dS _ _ ▸ z).2;rw[hV]at z2;have z3:=z2 n (bE.mpr hnl);unfold xW at z3;rw[am c3,ec,am c4]at z3;exact absurd z3 vS
    .rintro σ H2 ⟨v5,v6,v7,as,rfl,sm,gZ,hL,ha⟩;refine⟨_,rfl,q F as H2 sm hF gZ ?_⟩;have e:dF ao r w i j l=nj ao r w i j l l.length:=by unfold dF;rw[he,ha];exact if_pos rfl
     rw[e];exact hL
   .rw[am (show ¬[atC ao r w (i:Int) ((j:Int)+(l.length:Int))]=[46] from λz=>c2 (by injection z))];refine cB (none_ ?_ H (aB.refl _));unfold dF FQ;rw[am c2,kQ,jI];exact if_neg vS
  .rw[am (show ¬[atC ao r w (i:Int) ((j:Int)-1)]=[46] from λz=>c1 (by injection z))];refine cB (none_ ?_ H (aB.refl _));unfold dF FQ;rw[am c1,jI,jI];exact if_neg vS
def qU (c:Nat×Nat):List Key:=[Sum.inl (c.1:Int),Sum.inl (c.2:Int)]
def Z6 (h:qU a=qU b):a=b:=by unfold qU at h;injection h with h1 h2;injection h2 with h2 _;injection h1 with h1;injection h2 with h2;exact tf (i9 h1) (i9 h2)
def acq {κ:Type} [DecidableEq κ] (kvs:List (κ×V))(k:κ)(v):(putK kvs k v).length<=kvs.length+1:=by
 unfold putK;split;.rw[aa];lia
 .simp
def Z7 (hM:H M=some (.dT ks)):∀a xs,H a=some (.tup xs)->upd H M (.dT ks') a=some (.tup xs):=λa xs e=>by
 have ne:a≠M:=λz=>by rw[z,hM]at e;cases e
 rw[bw ne];exact e
def pR (ws ao:AA)(c:Nat×Nat):List Nat:=Fv ws (lineOf ao c.1 c.2 1) (placeOf c.1 c.2 1)
def qu (ao:AA)(r w:Nat):List (Nat×Nat):=(cells r w).filter (frB ao r w)
def Dk {ao:AA}{r w:Nat}{c:Nat×Nat}:c∈qu ao r w↔(c.1<r/\c.2<w)/\atC ao r w c.1 c.2=46:=by
 unfold qu;rw[n9];unfold frB;rw[mS];constructor
 .rintro⟨h1,h2⟩;exact⟨by simp only[cells,gz,ar,bE]at h1;obtain⟨i,hi,j,hj,rfl⟩:=h1;exact⟨hi,hj⟩,by injection h2⟩
 .rintro⟨h1,h2⟩;exact⟨by simp only[cells,gz,ar,bE];exact(aj c.1 h1.1 (aj c.2 h1.2 rfl)),by rw[h2]⟩
def Z8 {ao:AA}{r w:Nat}(r9:r<=9)(w9:w<=9):(qu ao r w).length<=81:=by
 unfold qu;refine a9 (ik _ _) ?_;have:(cells r w).length=r*w:=by
  unfold cells
  induction r with| zero=>simp| succ r ih=>rw[e6,n5,av,ih (ay r9)];simp[sr]
 rw[this];exact kd r9 w9
def Xk (C CB:Addr):Sp:=λvs H Q _=>∃(b k d:Addr) (ws:AA) (r w:Nat) (ao aF:AA) (bi bj:Nat),vs=[.ref b,.ref k]/\dz C H b r w ao aF bi bj/\mQ CB H k d ws/\
 ∀(p:Addr) (kvs:List (List Key×V)) (H':Hp),aB H H'->H p=none->H' p=some (.dT kvs)->(∀c∈qu ao r w,cX kvs (qU c)=some (.str (S (pR ws ao c))))->Q (.ref p) H'
def FT (D:aK K mg "letters_down" lW ["board","book"])(tY:bF P w K mg base "free_cells" 1 ["board"] (Hx C))(FW:bF P w K mg base "cross_letters" 10 ["board","book","row","column","way"] (aeU C CB)):bF P w K mg base "letters_down" 11 ["board","book"] (Xk C CB):=by
 refine D.cY kJ (λvs H Q E h=>?_) (λf bD A outer s H vs Q E hr h=>?_)
 .obtain⟨b,k,d,ws,r,w,ao,aF,bi,bj,rfl,_⟩:=h;rfl
 .obtain⟨b,k,d,ws,r,w,ao,aF,bi,bj,rfl,B,BK,q⟩:=h;have hu:=wJ hr;refine(aj _ (aG (aV (i:=2) kJ.nd rfl (Or.inl rfl) Y_) (aG (fJ c9 rfl (eG (aZ tY hr.mono rfl (ak (qv 0) aA))) (oh rfl (dj (bY (i:=3) kJ.nd rfl (Or.inl rfl)) (dj (bY (i:=4) kJ.nd rfl (Or.inl rfl)) lN))) (aL (Az hu (qv 2) (cO (ak (qv 3) (ak (qv 4) aA))) (aZ FW hr.mono rfl (ak (qv 0) (ak (qv 1) (ak (qv 3) (ak (qv 4) (ak aD aA)))))) rfl))) (aL (aX (qv 2))))) ?_);intro F hF;have s0:aB H (upd H F (HO.dT [])):=aB.upd hF;have wu:upd H F (HO.dT []) F=some (.dT []):=au;generalize upd H F (HO.dT [])=H0 at s0 wu ⊢;refine(aj _ rfl (rO b r w ao aF bi bj rfl (B.mv s0) (λp as H1 s1 hp hP=>?_)));have hF1:=s1 _ _ wu;have npF:p≠F:=λz=>by rw[z,hF1]at hp;cases hp
  have hal:as.length<=81:=by rw[hP.len];exact Z8 B.ok.r9 B.ok.w9
  have hpL:(cells r w).filter (frB ao r w)=qu ao r w:=rfl;rw[hpL]at hP;refine(aO p rfl ⟨_,aQ.of hp⟩ (jJ (K:=K) (a:=p) (xs:=as.map V.ref) (λn σ H2=>∃(v3 v4:Option V) (kvs:List (List Key×V)),σ=[some (.ref b),some (.ref k),some (.ref F),v3,v4]/\aB H H2/\H2 p=some (.lst (as.map V.ref))/\dO H2 as (qu ao r w)/\H2 F=some (.dT kvs)/\kvs.length<=n/\∀c∈(qu ao r w).take n,cX kvs (qU c)=some (.str (S (pR ws ao c))))
   (pZ none none [] rfl (s0.trans s1) hp hP hF1 (ag _) (λc hc=>by simp at hc)) (λn σ H2 _ h=>by obtain⟨_,_,_,_,_,h2,_⟩:=h;exact aQ.of h2) ?_ ?_))
  .rintro n x σ H2 hx ⟨v3,v4,kvs,rfl,sm,hp2,hP2,gZ,hkl,hkv⟩;rw[aw]at hx;have hi:n<as.length:=by
    rcases cn n as.length with z|z;.exact z
    .rw[bP z]at hx;cases hx
   rw[ae hi]at hx;have hx:V.ref as[n]=x:=ax hx;subst hx;obtain⟨c,ec,hc⟩:=hP2.get hi;have hcm:=Dk.mp (aT ec);refine(aY (as[n]) _ rfl (aU.of hc) rfl ⟨_,_,rfl,aR _ _ rfl rfl ?_⟩);refine(aj _ rfl (aj _ rfl (aj _ rfl (aj _ rfl ⟨b,k,d,ws,r,w,ao,aF,bi,bj,c.1,c.2,1,rfl,B.mv sm,BK.same sm,hcm.1.1,hcm.1.2,.inr rfl,λH3 s3=>?_⟩))));refine(aj _ rfl (aj _ rfl (aO _ rfl (zsz 2) (λg hg=>?_))));have k4:aB H3 (upd H3 g (HO.tup [.int (c.1:Int),.int (c.2:Int)])):=aB.upd hg;have o_:=k4 _ _ (s3 _ _ gZ);refine(aR F _ rfl (sS.t (k:=qU c) o_ au (aM vE)) ?_);refine(pZ _ _ (putK kvs (qU c) _) rfl (((sm.trans s3).trans k4).bG hF) (by rw[bw npF];exact k4 _ _ (s3 _ _ hp2)) (((hP2.mv s3).mv k4).gG (Z7 o_)) au (a9 (acq _ _ _) (gm hkl)) (λe he=>?_));rw[K5];by_cases z:qU e=qU c;.rw[if_pos z,Z6 z];rfl
   .rw[if_neg z];rw[bz,ec]at he;rcases ba.mp he with y|y;.exact hkv e y
    .have:e=c:=by simpa using y
     exact absurd (by rw[this]) z
  .rintro σ H2 ⟨v3,v4,kvs,rfl,sm,hp2,hP2,gZ,hkl,hkv⟩;rw[aa,hP2.len,cz]at hkv;exact(aj _ rfl (q F kvs H2 sm hF gZ hkv))
noncomputable def qW (fit:Nat×Nat->List Nat)(hk:List (Nat×Nat))(ts:List bL):Bool:=(decide (1<=ts.length)&&decide (ts.length<=7))&&(ts.all (λt=>decide (t.2.2∈fit (cg t)))&&ts.any (λt=>decide (cg t∈hk)))
def acr (h:zT a=zT b):a=b:=by unfold zT at h;injection h with h;injection h with h1 h2;injection h2 with h2 _;injection h1 with h1;injection h2 with h2;exact tf (i9 h1) (i9 h2)
def Rj {hk:List (Nat×Nat)}:zT c∈hk.map zT↔c∈hk:=⟨λh=>by obtain⟨d,hd,e⟩:=ar.mp h;rw[<-acr e];exact hd,λh=>cy h⟩
def aaX (K:W.Frag):Sp:=λvs H Q _=>∃(p d j:Addr) (as bs:List Addr) (ts:List bL) (kvs:List (List Key×V)) (fit:Nat×Nat->List Nat) (hk:List (Nat×Nat)),vs=[.ref p,.ref d,.ref j]/\H p=some (.lst (as.map V.ref))/\cT H as ts/\ts.length<=63/\H d=some (.dT kvs)/\(∀t∈ts,cX kvs (qU (cg t))=some (.str (S (fit (cg t)))))/\
 H j=some (.tup (bs.map V.ref))/\dO H bs hk/\∀H',aB H H'->Q (.bl (qW fit hk ts)) H'
def Hy (D:aK K mg "can_be_laid" mZ ["triples","fitting","joining"])(bI:mg "len"=none)(fZ:mg "all"=none)(uQ:mg "any"=none)(lJ:∃t,mg "MOST_TILES"=some (.int 7 t))(oY:bF P w K mg base "cells_of" 1 ["laying"] (Bq K)):bF P w K mg base "can_be_laid" 2 ["triples","fitting","joining"] (aaX K):=by
 refine D.cY vW (λvs H Q E h=>?_) (λf bD A outer s H vs Q E hr h=>?_)
 .obtain⟨p,d,j,as,bs,ts,kvs,fit,hk,rfl,_⟩:=h;rfl
 .obtain⟨p,d,j,as,bs,ts,kvs,fit,hk,rfl,hp,hL,h63,hd,hkv,hj,hJ,q⟩:=h;have hu:=wJ hr;have hal:=hL.len;have hml:(as.map V.ref).length=ts.length:=by rw[aa];exact hal
  refine(aj _ (aG (d7 (jW (Cw pW pW aD (bh dh vT bI ck (ak (qv 0) aA)) (Sx vT lJ))) (aL (aX lQ)) cD) (aG (d7 (jW (gU (bh (kZ rfl) vT fZ k_ (ak (gb (ns:=["row","column","letter"]) rfl (fu.of ["triples","fitting","joining"] [] v0) (eG (qv 0)) (λ_ _ _ _ _=>(pJ K rfl (show (["row","column","letter","triples","fitting","joining"]:List Str).Nodup by decide +kernel) rfl rfl rfl vT vT vT)) (λ_ _ _ _ _=>cF) (λ_ _ _ _ _=>(gJ Vv (qv 2) (abF hu (qv 4) (cO (ak (qv 0) (ak (qv 1) aA))) (λ_ _=>rfl)) rfl))) aA)))) (aL (aX lQ)) cD) (aL (aX (bh (Lk rfl) vT uQ Jb (ak (f9 rfl (fH.of vW.nd v0) (eG (aZ oY hr.mono rfl (ak (qv 0) aA))) (λ_ _ _ _ _=>cF) (λ_ _ _ _ _=>(gJ (ab4 K hr.units) (qv 0) (qv 3) rfl))) aA)))))) ?_);refine(aj _ rfl (aR p _ rfl (.inl (aQ.of hp)) (aR _ _ rfl rfl (aj _ rfl ?_))));rw[hml];have no:qW fit hk ts=false->Q (.bl false) H:=λe=>by have:=q H (aB.refl _);rw[e]at this;exact this
  by_cases c1:1<=ts.length
  .rw[aE (show (1:Int)<=(ts.length:Int) by lia)];refine cB (aR _ _ rfl rfl (aj _ rfl ?_));by_cases c2:ts.length<=7
   .rw[aE (show (ts.length:Int)<=7 by lia)];refine cA ?_;refine(aj _ rfl (aO p rfl ⟨_,aQ.of hp⟩ (λL yI=>uW (f:=eU [] 0) (tt:=gF) (xs:=as.map V.ref) (λi ys H6=>ys=((ts.take i).map λt=>decide (t.2.2∈fit (cg t))).map V.bl/\H6 L=some (.lst ys)/\aB H H6)
     ⟨rfl,au,aB.upd yI⟩ (λi ys H6 _ h=>aQ.of (h.2.2 _ _ hp)) ?_ ?_)))
    .rintro i x ys H6 hx ⟨rfl,lH,sm⟩;rw[aw]at hx;have hi:i<as.length:=by
      rcases cn i as.length with z|z;.exact z
      .rw[bP z]at hx;cases hx
     rw[ae hi]at hx;have hx:V.ref as[i]=x:=ax hx;obtain⟨t,et,hT⟩:=hL.get hi;refine wR hx.symm (aU.of (sm _ _ hT)) ?_;refine(aj _ rfl (aj _ rfl (aj _ rfl (aO _ rfl (zsz 2) (λg hg=>?_)))));have k4:aB H6 (upd H6 g (HO.tup [.int (t.1:Int),.int (t.2.1:Int)])):=aB.upd hg;have hg4:=mD.t (k:=qU (cg t)) (k4 _ _ (sm _ _ hd)) (show upd H6 g (HO.tup [.int (t.1:Int),.int (t.2.1:Int)]) g=some (.tup ((qU (cg t)).map kV)) from au);rw[hkv t (aT et)]at hg4;refine(aR d _ rfl hg4 (fY _ _ rfl rfl (k4 _ _ lH) ?_ (dJ.mk (by rw[aa];exact hi) ⟨?_,au,(sm.trans k4).bG yI⟩)));.rw[aa,aa,bn];exact aM vE
     .rw[bz,et];simp
    .rintro ys H6 ⟨rfl,lH,sm⟩;rw[hml,cz]at lH;refine(aR L _ rfl (aQ.of lH) (aj _ rfl ?_));rw[List.all_map];by_cases c3:ts.all (λt=>decide (t.2.2∈fit (cg t)))=true
     .rw[show (ts.all (id ∘ λt=>decide (t.2.2∈fit (cg t))))=true from c3];refine cA ?_;have zH:=sm _ _ hp;refine(aj _ rfl (ig p as ts rfl (.inl (aQ.of zH)) (hL.mv sm) h63 (λp7 cs H7 s7 hn7 FZ hP7=>?_)));have s67:=sm.trans s7;have hcl:cs.length=ts.length:=by rw[hP7.len,aa]
      refine(aO p7 rfl ⟨_,aQ.of FZ⟩ (λM hM=>qz (K:=K) (a:=p7) (xs:=cs.map V.ref) (λi ys H8=>ys=((ts.take i).map λt=>decide (cg t∈hk)).map V.bl/\H8 M=some (.lst ys)/\aB H7 H8)
       ⟨rfl,au,aB.upd hM⟩ (λi ys H8 _ h=>aQ.of (h.2.2 _ _ FZ)) ?_ ?_))
      .rintro i x ys H8 hx ⟨rfl,Nr,s8⟩;rw[aw]at hx;have hi:i<cs.length:=by
        rcases cn i cs.length with z|z;.exact z
        .rw[bP z]at hx;cases hx
       rw[ae hi]at hx;have hx:V.ref cs[i]=x:=ax hx;subst hx;obtain⟨c,ec,hc⟩:=hP7.get hi;obtain⟨t,et,rfl⟩:∃t,ts[i]?=some t/\cg t=c:=by rw[aw]at ec;exact fE.mp ec
       have hJ8:=(hJ.mv s67).mv s8;have hj8:=s8 _ _ (s67 _ _ hj);refine(aj _ rfl (aj _ rfl ⟨2,zT (cg t),hk.map zT,vS,.tup (aU.of (s8 _ _ hc)) (.cons (.int _) (.cons (.int _) .nil)),?_,Nr,?_,dJ.mk (by rw[aa];exact hi) ⟨?_,au,s8.bG hM⟩⟩))
       .rw[<-hJ8.eq];exact .tup (aU.of hj8) (Hw hJ8.at_)
       .rw[aa,aa,bn];exact aM vE
       .rw[bz,et,bv,bv];congr 1;show [V.bl _]=[V.bl _]
        congr 2;exact rj.mpr Rj
      .rintro ys H8 ⟨rfl,Nr,s8⟩;rw[aa,hcl,cz]at Nr;refine(aR M _ rfl (aQ.of Nr) ?_);rw[List.any_map];have e:qW fit hk ts=ts.any (id ∘ λt=>decide (cg t∈hk)):=by
        unfold qW;rw[aE c1,aE c2,c3];rfl
       rw[<-e];exact q H8 (s67.trans s8)
     .rw[show (ts.all (id ∘ λt=>decide (t.2.2∈fit (cg t))))=false from p_.mpr c3];refine cB ?_;have:=q H6 sm;have e:qW fit hk ts=false:=by
       unfold qW;rw[p_.mpr c3,jI,kQ]
      rw[e]at this;exact this
   .rw[am (show ¬(ts.length:Int)<=7 by lia)];refine cB (no ?_);unfold qW;rw[am c2,kQ,jI]
  .rw[am (show ¬(1:Int)<=(ts.length:Int) by lia)];refine cA (aj _ rfl (cB (no ?_)));unfold qW;rw[am c1,jI,jI]
noncomputable def fQ:List Nat->List Nat->List (List Nat)
 | [],_=>[[]]
 | c::ls,rk=>(if c∈rk then (fQ ls (rk.erase c)).map (c :: ·) else [])++(if 63∈rk then (fQ ls (rk.erase 63)).map (PyProof.Rows.up1 c :: ·) else [])
def Rk (h:isLet c):PyProof.Rows.up1 c=c-32/\cZ (PyProof.Rows.up1 c)=63/\cZ c=c/\c<128/\PyProof.Rows.up1 c<128:=by have h1:=h.1;have h2:=h.2;have e:PyProof.Rows.up1 c=c-32:=if_pos (show 97<=c/\c<=122 from h);rw[e];exact⟨rfl,if_pos ⟨eP vE,si h2 _⟩,if_neg vE,vE,ic vE⟩
theorem wz:∀(ls rk:List Nat) {t:List Nat},t∈fQ ls rk->t.length=ls.length
 | [],_,t,h=>by rw[ap.mp h]
 | c::ls,rk,t,h=>by
  unfold fQ at h;rcases ba.mp h with z|z
  .split at z
   .obtain⟨u,hu,rfl⟩:=ar.mp z;simp[wz ls _ hu]
   .simp at z
  .split at z
   .obtain⟨u,hu,rfl⟩:=ar.mp z;simp[wz ls _ hu]
   .simp at z
def acs {c:Nat}{ls rk:List Nat}(h:c∈rk):(fQ ls (rk.erase c)).length<=(fQ (c::ls) rk).length:=by rw[fQ,if_pos h,av,aa];lia
def acu {c:Nat}{ls rk:List Nat}(h:63∈rk):(fQ ls (rk.erase 63)).length<=(fQ (c::ls) rk).length:=by rw[fQ,if_pos h,av,aa (as:=fQ ls (rk.erase 63))];lia
def rZ (o:Nat):Sp:=λvs H Q _=>∃(ls rk:List Nat),vs=[.str (S ls),.str (S rk)]/\(∀c∈ls,isLet c)/\ls.length<o/\o<=10/\rk.length<=100/\(fQ ls rk).length<=900/\
 ∀(p:Addr) (H':Hp),aB H H'->H p=none->H' p=some (.lst (Ts (fQ ls rk)))->Q (.ref p) H'
def Z9 (D:aK K mg name st ps)(no:∀vs H Q E,¬sp vs H Q E):bF P w K mg base name k ps sp:=by obtain⟨f,fd,F,b,g⟩:=D.ex;exact⟨f,fd,⟨λvs H Q E h=>absurd h (no vs H Q E),λA outer s H args us vs Q E _ _ _ _ h=>absurd h (no vs H Q E)⟩,b,g,F.kp⟩
def Pz (c:Nat)(ts:AA)(n:Nat){t:List Nat}(h:ts[n]?=some t):Ts ((ts.take (n+1)).map (c :: ·))=Ts ((ts.take n).map (c :: ·))++[V.str (S ([c]++t))]:=by rw[bz,h,bv];exact(jZ _ _).symm
def Nt (hk:1<=k)(D:aK K mg "sign_texts" jD ["letters","rack"])(T:Fb P w K mg base f fd)(bT:cj K fd ["sign"] [])(mT:mg "tile_of"=some (.ref f))(kT:W.keepIn K (.ref f)=true)(tZ:bF P w K mg base "sign_texts" k ["letters","rack"] (rZ o)):bF P w K mg base "sign_texts" (k+1) ["letters","rack"] (rZ (o+1)):=by
 refine D.cY m7 (λvs H Q E h=>?_) (λf' bD A outer s H vs Q E hr h=>?_)
 .obtain⟨ls,rk,rfl,_⟩:=h;rfl
 .obtain⟨ls,rk,rfl,hls,hlo,ho,hrk,xY,q⟩:=h;have Y:Tp (sO fW P w K mg base ["letters","rack","texts","sign","tile","left"] "sign_texts" (aH jD) f' bD A outer s H E).Ih 1 3 4 5 f fd:=
   ⟨m7.nd,rfl,rfl,rfl,rfl,.inl rfl,.inr rfl,.inl rfl,.inl rfl,rfl,rfl,rfl,T,bT,mT,kT,rfl,hr.mono hk⟩
  refine⟨_,aG (d7 (bZ yZ (qv 0) (cG [] v_) (bU _)) (aL (aX (eY (ak (cG [] v_) aA)))) cD)
   (aG (aV (i:=2) m7.nd rfl (Or.inl rfl) (eY aA))
   (aG (aeG Y v_ c9 rfl (aaU (qv 0) (λ_ _=>rfl)) (af8 (aaU (qv 0) (λ_ _=>rfl))) rfl rfl rfl rfl (λ_=>rfl)
    (aL (iw (fB dm iN iO qy (qv 2) (ak (f9 rfl (fH.of m7.nd v0) (eG (aZ tZ hr rfl (ak (kY K8 (qv 0) (jy aD) vI) (ak (qv 5) aA)))) (λ_ _ _ _ _=>cF) (λ_ _ _ _ _=>(aP sE (qv 4) (qv 0)))) aA)))))
   (aL (aX (qv 2))))),?_⟩
  refine⟨_,rfl,_,_,rfl,rfl,_,rfl,?_⟩
  match ls,hls,hlo,xY,q with
  | [],hls,hlo,xY,q=>rw[aE rfl];exact cB ⟨zsz 1,λp hp=>q p _ (aB.upd hp) hp au⟩
  | c::ls,hls,hlo,xY,q=>
   rw[am (show ¬c::ls=[] from λz=>by cases z)];refine cA ⟨zsz 0,λF hF=>?_⟩;obtain⟨u1,u2,u3,u4,u5⟩:=Rk (hls c a6);have hl':∀d∈ls,isLet d:=λd hd=>hls d (aI _ hd);have hlo':ls.length<o:=by simp at hlo;exact hlo
   have hz:(c::ls).length<=sizeLine:=ay (aM vE);have s0:aB H (upd H F (HO.lst [])):=aB.upd hF;have wu:upd H F (HO.lst []) F=some (.lst []):=au;generalize upd H F (HO.lst [])=H0 at s0 wu ⊢;have one:∀(d:Nat) (H2:Hp) (ts:AA) (Dn:St->Hp->Prop) (Dr:VK),aB H H2->H2 F=some (.lst (Ts ts))->cZ d∈rk->ts.length<=900->(fQ ls (rk.erase (cZ d))).length<=900->
     (∀H3,aB H H3->H3 F=some (.lst (Ts (ts++(fQ ls (rk.erase (cZ d))).map (d :: ·))))->Dn [some (.str (S (c::ls))),some (.str (S rk)),some (.ref F),some (.str (S [d])),some (.str (S [cZ d])),some (.str (S (rk.erase (cZ d))))] H3)->
     (DK (Qe K "list" Ak (eO 2) (iR (Eb (DP K (wI (rZ o) [] E0 (iR (Vj Ss (eO 0) (DX (tC (V.int 1))) vD) (iR (eO 5) n8)))) gF (rE Av (eO 4) (eO 0))) n8))) {nx:=Dn,rt:=Dr} [some (.str (S (c::ls))),some (.str (S rk)),some (.ref F),some (.str (S [d])),some (.str (S [cZ d])),some (.str (S (rk.erase (cZ d))))] H2:=by
    intro d H2 ts Dn Dr sm gZ cV h9 h9' nx;have agN:pI (c::ls) (some 1) none=ls:=by rw[show (1:Int)=((1:Nat):Int) from rfl,wO];rfl
    have h10:ls.length<=10:=vE;refine⟨_,rfl,.inl ⟨rfl,_,aQ.of gZ⟩,_,rfl,_,rfl,c::ls,rfl,hz,_,rfl,ls,rk.erase (cZ d),by rw[agN];rfl,hl',hlo',ay ho,a9 List.length_erase_le hrk,h9',λp H3 s3 hn3 hp3=>?_⟩;have rK:=s3 _ _ gZ;refine⟨p,rfl,⟨_,aQ.of hp3⟩,λL hL=>qz (K:=K) (a:=p) (xs:=Ts (fQ ls (rk.erase (cZ d)))) (λi ys H4=>ys=Ts (((fQ ls (rk.erase (cZ d))).take i).map (d :: ·))/\H4 L=some (.lst ys)/\aB H3 H4)
     ⟨rfl,au,aB.upd hL⟩ (λi ys H4 _ h=>aQ.of (h.2.2 _ _ hp3)) ?_ ?_⟩
    .rintro i x ys H4 hx ⟨rfl,mz,s4⟩;obtain⟨t,ht,rfl⟩:=qH hx;have hil:i<(Ts (fQ ls (rk.erase (cZ d)))).length:=(ai.mp hx).1;have htl:=wz _ _ (aT ht);refine⟨_,rfl,_,rfl,[d],t,rfl,rfl,ay (aM (by simp;lia)),mz,?_,dJ.mk hil ⟨?_,au,s4.bG hL⟩⟩;.rw[aa,aa,bn];exact aM vE
     .exact(Pz d _ i ht).symm
    .rintro ys H4 ⟨rfl,mz,s4⟩;rw[aa,cz]at mz;have o_:=s4 _ _ rK;refine⟨F,L,_,_,rfl,rfl,o_,mz,?_,nx _ (((sm.trans s3).trans s4).bG hF) ?_⟩
     .rw[aa,aa,aa];exact a9 (Nat.add_le_add h9 h9') vS
     .rw[au];unfold Ts;rw[bv]
   refine⟨_,rfl,S (c::ls),0,c,rfl,rfl,by rw[lM];exact hz,aN (j:=0) rfl,?_⟩;refine⟨_,rfl,S (c::ls),0,c,rfl,rfl,by rw[lM];exact hz,aN (j:=0) rfl,c,rfl,u4,c,PyProof.Rows.up1 c,rfl,rfl,?_⟩;have two:∀(H2:Hp) (ts:AA) (v4 v5 v6:Option V),aB H H2->H2 F=some (.lst (Ts ts))->ts=(if c∈rk then (fQ ls (rk.erase c)).map (c :: ·) else [])->
     uZ 1 3 4 5 (DK (Qe K "list" Ak (eO 2) (iR (Eb (DP K (wI (rZ o) [] E0 (iR (Vj Ss (eO 0) (DX (tC (V.int 1))) vD) (iR (eO 5) n8)))) gF (rE Av (eO 4) (eO 0))) n8))) (PyProof.Rows.up1 c) {nx:=RM (eO 2) {nx:=λx H'=>Q V.non H',rt:=Q},rt:=Q} [some (.str (S (c::ls))),some (.str (S rk)),some (.ref F),v4,v5,v6] H2:=by
    intro H2 ts v4 v5 v6 sm gZ ets;have agO:ts.length<=(fQ (c::ls) rk).length:=by rw[fQ,<-ets,av];lia
    refine⟨rk,rfl,vE,?_⟩;by_cases h63:63∈rk
    .rw[if_pos (by rw[u2];exact h63)];refine one (PyProof.Rows.up1 c) H2 ts _ _ sm gZ (by rw[u2];exact h63) (a9 agO xY) (by rw[u2];exact a9 (acu h63) xY) λH3 s3 rK=>⟨_,rfl,q F H3 s3 hF ?_⟩
     rw[rK,u2,fQ,if_pos h63,ets]
    .rw[if_neg (by rw[u2];exact h63)];refine⟨_,rfl,q F H2 sm hF ?_⟩;rw[gZ,fQ,if_neg h63,ets,fq]
   refine⟨rk,rfl,vE,?_⟩;rw[u3];by_cases hc:c∈rk
   .rw[if_pos hc];have:=one c H0 [] (uZ 1 3 4 5 (DK (Qe K "list" Ak (eO 2) (iR (Eb (DP K (wI (rZ o) [] E0 (iR (Vj Ss (eO 0) (DX (tC (V.int 1))) vD) (iR (eO 5) n8)))) gF (rE Av (eO 4) (eO 0))) n8))) (PyProof.Rows.up1 c) {nx:=RM (eO 2) {nx:=λx H'=>Q V.non H',rt:=Q},rt:=Q}) Q s0 wu (by rw[u3];exact hc) (by show 0<=900;decide) (by rw[u3];exact a9 (acs hc) xY) λH3 s3 rK=>two H3 _ _ _ _ s3 rK (by rw[u3,if_pos hc];rfl);rw[u3]at this;exact this
   .rw[if_neg hc];exact two H0 [] _ _ _ s0 wu (by rw[if_neg hc])
def Ke (D:aK K mg "sign_texts" jD ["letters","rack"])(DT:aK K mg "tile_of" uH ["sign"]):bF P w K mg base "sign_texts" 9 ["letters","rack"] (rZ 8):=by
 obtain⟨f,fd,F,b,m⟩:=DT.ex;have T:Fb P w K mg base f fd:=ab3 F Tv rfl rfl v_ v_ v_;have d0:bF P w K mg base "sign_texts" 1 ["letters","rack"] (rZ 0):=Z9 D λvs H Q E h=>by obtain⟨ls,rk,_,_,h,_⟩:=h;exact absurd h (iL _)
 have st:=λo k hk (h:bF P w K mg base "sign_texts" k ["letters","rack"] (rZ o))=>Nt (o:=o) (k:=k) hk D T b m F.kp h;exact st 7 8 vS (st 6 7 vS (st 5 6 vS (st 4 5 vS (st 3 4 vS (st 2 3 vS (st 1 2 vS (st 0 1 vS d0)))))))
noncomputable def lO (H:Hp)(a:Addr):List bL:=match H a with
 | some (.tup xs)=>xs.map λv=>match v with| .ref b=>tO H b| _=>(0,0,0)
 | _=>[]
def vm (H:Hp)(a:Addr)(ts:List bL):Prop:=∃bs:List Addr,H a=some (.tup (bs.map V.ref))/\cT H bs ts
def Ui (h:vm H a ts):lO H a=ts:=by obtain⟨bs,h1,h2⟩:=h;unfold lO;rw[h1];show ((bs.map V.ref).map _)=ts;rw[b6,<-h2.eq];rfl
def vm.gG (k:∀a xs,H a=some (.tup xs)->H' a=some (.tup xs))(h:vm H a ts):vm H' a ts:=let ⟨bs,h1,h2⟩:=h;(aj bs (k _ _ h1) (h2.gG k))
structure eZ (H:Hp)(as:List Addr)(ls:List (List bL)):Prop where
 at_:∀a∈as,vm H a (lO H a)
 eq:as.map (lO H)=ls
def eZ.gG (k:∀a xs,H a=some (.tup xs)->H' a=some (.tup xs))(h:eZ H as ls):eZ H' as ls:=by have e:∀a∈as,lO H' a=lO H a:=λa ha=>Ui ((h.at_ a ha).gG k);exact⟨λa ha=>by rw[e a ha];exact(h.at_ a ha).gG k,by rw[<-h.eq];exact eI e⟩
def eZ.mv (k:aB H H')(h:eZ H as ls):eZ H' as ls:=h.gG λa xs e=>k a _ e
def eZ.nil:eZ H [] []:=⟨λa h=>by simp at h,rfl⟩
def eZ.app (h:eZ H as ls)(g:eZ H bs ms):eZ H (as++bs) (ls++ms):=by
 refine⟨λb hb=>?_,by rw[bv,h.eq,g.eq]⟩;rcases ba.mp hb with z|z;.exact h.at_ b z
 .exact g.at_ b z
def eZ.one (ha:vm H a ts):eZ H [a] [ts]:=⟨λb hb=>by rw[ap.mp hb,Ui ha];exact ha,by rw[oQ,Ui ha]⟩
def eZ.len (h:eZ H as ls):as.length=ls.length:=by rw[<-h.eq,aa]
def eZ.get (h:eZ H as ls)(hi:i<as.length):∃t,ls[i]?=some t/\vm H as[i] t:=(aj (lO H as[i]) (by rw[<-h.eq];simp[hi]) (h.at_ _ (a8 _)))
def jw (ts:List bL)(ss:List Nat):List bL:=List.zipWith (λt c=>(t.1,t.2.1,c)) ts ss
def Uj (h1:ts[i]?=some t)(h2:ss[i]?=some c):(jw ts ss).take (i+1)=(jw ts ss).take i++[(t.1,t.2.1,c)]:=by rw[bz];congr 1;unfold jw;rw[List.getElem?_zipWith,h1,h2];rfl
def JH {ts:List bL}{ss:List Nat}(h:ts.length=ss.length):(jw ts ss).length=ts.length:=by unfold jw;rw[List.length_zipWith];lia
def wA (ts:List bL):List Nat:=ts.map λt=>t.2.2
def t_ (ts:List bL)(rk:List Nat):List (List bL):=(fQ (wA ts) rk).map (jw ts)
def Rm:Sp:=λvs H Q _=>∃(p:Addr) (as:List Addr) (ts:List bL) (rk:List Nat),vs=[.ref p,.str (S rk)]/\H p=some (.lst (as.map V.ref))/\cT H as ts/\ts.length<=7/\(∀t∈ts,isLet t.2.2)/\rk.length<=100/\(fQ (wA ts) rk).length<=900/\
 ∀(p':Addr) (as':List Addr) (H':Hp),aB H H'->H p'=none->H' p'=some (.lst (as'.map V.ref))->eZ H' as' (t_ ts rk)->Q (.ref p') H'
def Kf (D:aK K mg "layings_of" oK ["triples","rack"])(bN:mg "tuple"=none)(Ga:mg "zip"=none)(oY:bF P w K mg base "cells_of" 1 ["laying"] (Bq K))(tZ:bF P w K mg base "sign_texts" 9 ["letters","rack"] (rZ 8)):bF P w K mg base "layings_of" 10 ["triples","rack"] Rm:=by
 refine D.cY m8 (λvs H Q E h=>?_) (λf bD A outer s H vs Q E hr h=>?_)
 .obtain⟨p,as,ts,rk,rfl,_⟩:=h;rfl
 .obtain⟨p,as,ts,rk,rfl,hp,hL,h7,Z_,hrk,xY,q⟩:=h;have hal:=hL.len;refine(aj _ (aG (aV (i:=2) m8.nd rfl (Or.inl rfl) (aZ oY hr.mono rfl (ak (qv 0) aA))) (aG (aV (i:=3) m8.nd rfl (Or.inl rfl) (eY aA)) (aG (fJ c9 rfl (eG (aZ tZ hr.mono rfl (ak (fB ci fh fi sG (cG [] v_) (ak (gb (ns:=["row","column","letter"]) rfl (fu.of ["triples","rack","cells","layings","signs"] [] v0) (eG (qv 0)) (λ_ _ _ _ _=>(pJ K rfl (show (["row","column","letter","triples","rack","cells","layings","signs"]:List Str).Nodup by decide +kernel) rfl rfl rfl vT vT vT)) (λ_ _ _ _ _=>cF) (λ_ _ _ _ _=>(qv 2))) aA)) (ak (qv 1) aA)))) (bY (i:=4) m8.nd rfl (Or.inl rfl)) (aL (iw (fB dm fS fT jE (qv 3) (ak (cP dg vT bN cE (ak (gb (ns:=["cell","sign"]) rfl (fu.of ["triples","rack","cells","layings","signs"] [] v0) (ab6 vT Ga (ak (qv 2) (ak (qv 4) aA))) (λ_ _ _ _ _=>(Gz K rfl (show (["cell","sign","triples","rack","cells","layings","signs"]:List Str).Nodup by decide +kernel) rfl rfl vT vT)) (λ_ _ _ _ _=>cF) (λ_ _ _ _ _=>(cO (ak (bB (nO K) (qv 0) aD (λ_ _=>rfl)) (ak (bB (nO K) (qv 0) aD (λ_ _=>rfl)) (ak (qv 1) aA)))))) aA)) aA))))) (aL (aX (qv 3)))))) ?_);refine(aj _ rfl (ig p as ts rfl (.inl (aQ.of hp)) hL vE (λpc cs Hc sc hnc hpc hPc=>?_)));have hcl:cs.length=ts.length:=by rw[hPc.len,aa]
  refine⟨zsz 0,λF hF=>?_⟩;have s0:aB Hc (upd Hc F (HO.lst [])):=aB.upd hF;have wu:upd Hc F (HO.lst []) F=some (.lst []):=au;generalize upd Hc F (HO.lst [])=H0 at s0 wu ⊢;have hp0:=s0 _ _ (sc _ _ hp);have hL0:=(hL.mv sc).mv s0;refine⟨rfl,aj _ rfl (aO p rfl ⟨_,aQ.of hp0⟩ (λL yI=>uW (f:=eU [] 0) (tt:=gF) (xs:=as.map V.ref) (λi ys H6=>ys=Ts (ones ((wA ts).take i))/\H6 L=some (.lst ys)/\aB H0 H6)
   ⟨rfl,au,aB.upd yI⟩ (λi ys H6 _ h=>aQ.of (h.2.2 _ _ hp0)) ?_ ?_))⟩
  .rintro i x ys H6 hx ⟨rfl,lH,sm⟩;rw[aw]at hx;have hi:i<as.length:=by
    rcases cn i as.length with z|z;.exact z
    .rw[bP z]at hx;cases hx
   rw[ae hi]at hx;have hx:V.ref as[i]=x:=ax hx;obtain⟨t,et,hT⟩:=hL0.get hi;refine wR hx.symm (aU.of (sm _ _ hT)) ?_;refine(dX _ rfl lH ?_ (dJ.mk (by rw[aa];exact hi) ⟨?_,au,sm.bG yI⟩));.rw[aa,aa,bn];exact aM vE
   .have:(wA ts)[i]?=some t.2.2:=by unfold wA;rw[aw,et];rfl
    rw[bz,this,jZ,qG];rfl
  .rintro ys H6 ⟨rfl,lH,sm⟩;have hsl:(wA ts).length=ts.length:=aa _;rw[aa,hal,<-hsl,cz]at lH;refine(fY L (ones (wA ts)) rfl rfl (aQ.of lH) (by rw[ni];lia) ?_);rw[ni];refine(aj _ rfl ⟨wA ts,rk,rfl,λc hc=>?_,vE,vS,hrk,xY,λpS H1 s1 hn1 hp1=>?_⟩)
   .obtain⟨t,ht,rfl⟩:=ar.mp hc;exact Z_ t ht
   generalize hTX:fQ (wA ts) rk=tx at xY hp1;have agP:∀t∈tx,t.length=ts.length:=λt ht=>by rw[<-hTX]at ht;rw[wz _ _ ht,hsl]
   have sc1:aB Hc H1:=(s0.trans sm).trans s1;have hF1:=s1 _ _ (sm _ _ wu);have nSF:pS≠F:=λz=>by rw[z,sm _ _ wu]at hn1;cases hn1
   refine(aO pS rfl ⟨_,aQ.of hp1⟩ (jJ (K:=K) (a:=pS) (xs:=Ts tx) (λn σ H2=>∃(v4:Option V) (bs:List Addr),σ=[some (.ref p),some (.str (S rk)),some (.ref pc),some (.ref F),v4]/\aB Hc H2/\H2 pS=some (.lst (Ts tx))/\H2 F=some (.lst (bs.map V.ref))/\eZ H2 bs ((tx.take n).map (jw ts))/\bs.length=n)
    ⟨none,[],rfl,sc1,hp1,hF1,eZ.nil,rfl⟩ (λn σ H2 _ h=>by obtain⟨_,_,_,_,h2,_⟩:=h;exact aQ.of h2) ?_ ?_))
   .rintro n x σ H2 hx ⟨v4,bs,rfl,s2,hp2,gZ,hY,gK⟩;obtain⟨ss,hss,rfl⟩:=qH hx;have hnl:n<(Ts tx).length:=(ai.mp hx).1;rw[aa]at hnl;have agQ:=agP ss (aT hss);have aeY:=s2 _ _ hpc;have agR:=hPc.mv s2;refine(aO _ rfl (.inl ⟨rfl,_,aQ.of gZ⟩) (aj _ rfl (aj _ rfl (aR pc ss rfl ⟨_,aQ.of aeY⟩ (λM hM=>aeK (f:=eU [] 0) (tt:=gF) (KT:=K) (xs:=cs.map V.ref) (l:=ss) (by rw[aa,hcl,agQ]) (λi zs H6=>∃ds:List Addr,zs=ds.map V.ref/\ds.length=i/\H6 M=some (.lst zs)/\aB H2 H6/\cT H6 ds ((jw ts ss).take i))
     (cW [] rfl rfl au (aB.upd hM) cT.nil) (λi zs H6 _ h=>by obtain⟨_,_,_,_,Nj,_⟩:=h;exact aQ.of (Nj _ _ aeY)) ?_ ?_)))))
    .rintro i x c zs H6 T hx hc ⟨ds,rfl,hdl,pB,s6,hB⟩ hT;rw[aw]at hx;have hi:i<cs.length:=by
      rcases cn i cs.length with z|z;.exact z
      .rw[bP z]at hx;cases hx
     rw[ae hi]at hx;have hx:V.ref cs[i]=x:=ax hx;subst hx;obtain⟨cc,ec,hcc⟩:=agR.get hi;obtain⟨t,et,rfl⟩:∃t,ts[i]?=some t/\cg t=cc:=by rw[aw]at ec;exact fE.mp ec
     have k7:aB H6 (upd H6 T (HO.tup [.ref cs[i],.str (S [c])])):=aB.upd hT;refine afT rfl (aU.of au) ?_;have aeZ:=k7 _ _ (s6 _ _ hcc);have rJ:=k7 _ _ pB;have s7:=s6.trans k7;have hB7:=hB.mv k7;generalize upd H6 T (HO.tup [.ref cs[i],.str (S [c])])=H7 at k7 aeZ rJ s7 hB7 ⊢;have Nu:=aU.of (K:=K) aeZ;refine(aj _ rfl (bK (cs[i]) _ _ _ rfl rfl Nu (aN (j:=0) rfl) (aj _ rfl (bK (cs[i]) _ _ _ rfl rfl Nu (aN (j:=1) rfl) (aO _ rfl (zsz 3) (λg hg=>?_))))));have k8:aB H7 (upd H7 g (HO.tup [.int ((cg t).1:Int),.int ((cg t).2:Int),.str (S [c])])):=aB.upd hg;have Nr:=k8 _ _ rJ;refine⟨Nr,by rw[aa,hdl];exact aM vE,dJ.mk (by rw[aa];exact hi) (cW (ds++[g]) vF (by simp[hdl]) (by rw[au]) ((s7.trans k8).bG hM) ?_)⟩;rw[Uj et hc];exact((hB7.mv k8).snoc (t:=(t.1,t.2.1,c)) au).gG (dI Nr)
    .rintro zs H6 ⟨ds,rfl,hdl,pB,s6,hB⟩;rw[aa]at hdl;rw[cq (by rw[JH vE,aa];lia)]at hB;refine⟨M,_,rfl,.inl ⟨aQ.of pB,λT hT=>?_⟩⟩;have k7:aB H6 (upd H6 T (HO.tup (ds.map V.ref))):=aB.upd hT;have hF7:=k7 _ _ (s6 _ _ gZ);refine(ig F _ _ rfl rfl hF7 (by rw[aa,gK];exact aM vE) ?_);refine⟨_,bs++[T],rfl,((s2.trans s6).trans k7).bG hF,by rw[bw nSF];exact k7 _ _ (s6 _ _ hp2),by rw[au,bv];rfl,?_,by simp[gK]⟩;rw[bz,hss,bv];exact(((hY.mv s6).mv k7).app (eZ.one (ts:=jw ts ss) (aj ds au (hB.mv k7)))).gG (dI hF7)
   .rintro σ H2 ⟨v4,bs,rfl,s2,hp2,gZ,hY,gK⟩;rw[aa,cz]at hY;refine(aj _ rfl (q F bs H2 (sc.trans s2) (sc.free hF) gZ ?_));unfold t_;rw[hTX];exact hY
def JK {ao:AA}{r w i j:Nat}{l:List Nat}(h:t∈dF ao r w i j l):∃k,k<l.length/\t=(i,j+k,l.getD k 0)/\atC ao r w i ((j+k:Nat):Int)=46:=by
 unfold dF at h;split at h
 .unfold nj at h;obtain⟨k,hk,e⟩:=oq.mp h;unfold oX at e;split at e
  .rename_i Q9;exact(aO k (bE.mp hk) ((ax e).symm) Q9)
  .cases e
 .simp at h
def Gb {ao:AA}{r w i j:Nat}{l:List Nat}(hi:i<r)(hj:j<w+1-l.length)(h:t∈dF ao r w i j l):cg t∈qu ao r w:=by obtain⟨k,hk,rfl,Q9⟩:=JK h;exact Dk.mpr ⟨⟨hi,by show j+k<w;(simp[fe,gh]at *;lia)⟩,Q9⟩
def JL {ao:AA}{r w i j:Nat}{l:List Nat}(hl:oN l)(h:t∈dF ao r w i j l):isLet t.2.2:=by obtain⟨k,hk,rfl,_⟩:=JK h;show isLet (l.getD k 0);rw[al,ae hk];exact hl.az _ (a8 _)
def Xl (ao)(r w i j)(l):(dF ao r w i j l).length<=l.length:=by
 unfold dF;split;.exact JG ..
 .exact cw _
noncomputable def uc (fit:Nat×Nat->List Nat)(hk:List (Nat×Nat))(ao:AA)(r w:Nat)(rk l:List Nat)(c:Nat×Nat):List (List bL):=if qW fit hk (dF ao r w c.1 c.2 l)=true then t_ (dF ao r w c.1 c.2 l) rk else []
noncomputable def xZ (fit:Nat×Nat->List Nat)(hk:List (Nat×Nat))(ao:AA)(r w:Nat)(rk l:List Nat):List (List bL):=(gM r w l.length).flatMap (uc fit hk ao r w rk l)
def i_ (ws:AA)(hk:List (Nat×Nat))(ao:AA)(r w:Nat)(rk:List Nat)(us:AA):List (List bL):=us.flatMap (xZ (pR ws ao) hk ao r w rk)
theorem Br {α β:Type}{f:α->List β}{b:Nat}:∀{l:List α},(∀x∈l,(f x).length<=b)->(l.flatMap f).length<=l.length*b
 | [],_=>by simp
 | x::l,h=>by rw[List.flatMap_cons,av,bt,sr];have:=h x a6;have:=Br (l:=l) λy hy=>h y (aI _ hy);lia
def aac {hk:List (Nat×Nat)}{ao:AA}{r w g:Nat}{rk l:List Nat}(hg:∀ls,(fQ ls rk).length<=g)(c:Nat×Nat):(uc fit hk ao r w rk l c).length<=g:=by
 unfold uc;split;.unfold t_;rw[aa];exact hg _
 .exact cw _
def JM {hk:List (Nat×Nat)}{ao:AA}{r w g:Nat}{rk l:List Nat}(hg:∀ls,(fQ ls rk).length<=g)(hl:1<=l.length):(xZ fit hk ao r w rk l).length<=r*w*g:=by unfold xZ;refine a9 (Br λc _=>aac hg c) ?_;rw[xV];exact iP _ (Nat.mul_le_mul_left _ (by simp_all))
def JN {α β:Type}{f:α->List β}{l:List α}{n:Nat}{x:α}(h:l[n]?=some x):(l.take (n+1)).flatMap f=(l.take n).flatMap f++f x:=by rw[bz,h,n5];simp
def Nv (C CB:Addr):Sp:=λvs H Q _=>∃(b k d:Addr) (ws:AA) (r w:Nat) (ao aF:AA) (bi bj g:Nat) (rk:List Nat),vs=[.ref b,.ref k,.str (S rk)]/\dz C H b r w ao aF bi bj/\mQ CB H k d ws/\ws.length<64/\rk.length<=100/\(∀ls,(fQ ls rk).length<=g)/\g<=900/\ws.length*(r*w*g)<=1999/\
 ∀(p:Addr) (as:List Addr) (us:AA) (H':Hp),aB H H'->H p=none->H' p=some (.lst (as.map V.ref))->us.Perm ws->eZ H' as (i_ ws (cU ao r w bi bj) ao r w rk us)->as.length<=1999->Q (.ref p) H'
def BJ (D:aK K mg "layings_across" jQ ["board","book","rack"])(Fw:pQ K CB)(Nx:Meth K CB "words" f2)(Ny:cL P w K mg base fW 1 f2 fd2 ["self"] (Q7 CB))(Nz:cj K fd2 ["self"] [])(HB:bF P w K mg base "letters_down" 11 ["board","book"] (Xk C CB))(acv:bF P w K mg base "hooks" 5 ["board"] (Rh C))(aad:bF P w K mg base "starts" 1 ["board","word"] (Nq C))(Dl:bF P w K mg base "letters_to_lay" 4 ["board","row","column","word"] (Ri C))(Kg:bF P w K mg base "can_be_laid" 2 ["triples","fitting","joining"] (aaX K))(NK:bF P w K mg base "layings_of" 10 ["triples","rack"] Rm):bF P w K mg base "layings_across" 12 ["board","book","rack"] (Nv C CB):=by
 refine D.cY dN (λvs H Q E h=>?_) (λf bD A outer s H vs Q E hr h=>?_)
 .obtain⟨b,k,d,ws,r,w,ao,aF,bi,bj,g,rk,rfl,_⟩:=h;rfl
 .obtain⟨b,k,d,ws,r,w,ao,aF,bi,bj,g,rk,rfl,B,BK,zW,hrk,hg,JQ,hbd,q⟩:=h;have O:=B.ok;refine(aj _ (aG (aV (i:=3) dN.nd rfl (Or.inl rfl) (aZ HB hr.mono rfl (ak (qv 0) (ak (qv 1) aA)))) (aG (aV (i:=4) dN.nd rfl (Or.inl rfl) (aZ acv hr.mono rfl (ak (qv 0) aA))) (aG (aV (i:=5) dN.nd rfl (Or.inl rfl) (eY aA)) (aG (fJ c9 rfl (iG (nD (qv 1) Fw.cl Nx Ny hr.mono Nz .nil gD)) (bY (i:=6) dN.nd rfl (Or.inl rfl)) (aL (fJ c9 rfl (eG (aZ aad hr.mono rfl (ak (qv 0) (ak (qv 6) aA)))) (oh rfl (dj (bY (i:=7) dN.nd rfl (Or.inl rfl)) (dj (bY (i:=8) dN.nd rfl (Or.inl rfl)) lN))) (aG (aV (i:=9) dN.nd rfl (Or.inl rfl) (aZ Dl hr.mono rfl (ak (qv 0) (ak (qv 7) (ak (qv 8) (ak (qv 6) aA)))))) (aL (d7 (gU (aZ Kg hr.mono rfl (ak (qv 9) (ak (qv 3) (ak (qv 4) aA))))) (aL (iw (fB dm iN iO qy (qv 5) (ak (aZ NK hr.mono rfl (ak (qv 9) (ak (qv 2) aA))) aA)))) cD)))))) (aL (aX (qv 5))))))) ?_);refine(aj _ rfl (aj _ rfl ⟨b,k,d,ws,r,w,ao,aF,bi,bj,rfl,B,BK,λpd kvs H1 s1 hn1 hd1 hkv=>?_⟩));refine(aj _ rfl (rO b r w ao aF bi bj rfl (B.mv s1) (λpj js H2 s2 hj2 hJ2=>?_)));have sj:=s1.trans s2;have hd2:=s2 _ _ hd1;refine⟨zsz 0,λF hF=>?_⟩;have s0:aB H2 (upd H2 F (HO.lst [])):=aB.upd hF;have wu:upd H2 F (HO.lst []) F=some (.lst []):=au;generalize upd H2 F (HO.lst [])=H0 at s0 wu ⊢;have BK0:=BK.same (sj.trans s0);obtain⟨dk,ek⟩:=BK0.ob;refine(aj _ rfl (dM k dk _ rfl ek rfl (dM k d ws rfl BK0 zW (λpu us H3 s3 hnu hpu pm _=>?_))));have s23:=s0.trans s3;have rK:=s3 _ _ wu;have hul:us.length=ws.length:=pm.length_eq;have huw:∀l∈us,oN l:=λl hl=>BK.az l (pm.mem_iff.mp hl);have aaY:4000<=sizeLine:=by decide
  refine(aO pu rfl ⟨_,aU.of hpu⟩ (Gs (K:=K) (a:=pu) (xs:=Ts us) (λn σ H4=>∃(v6 v7 v8 v9:Option V) (as:List Addr),σ=[some (.ref b),some (.ref k),some (.str (S rk)),some (.ref pd),some (.ref pj),some (.ref F),v6,v7,v8,v9]/\aB H2 H4/\H4 pu=some (.tup (Ts us))/\H4 F=some (.lst (as.map V.ref))/\eZ H4 as ((us.take n).flatMap (xZ (pR ws ao) (cU ao r w bi bj) ao r w rk)))
   ⟨none,none,none,none,[],rfl,s23,hpu,rK,eZ.nil⟩ (λn σ H4 _ h=>by obtain⟨_,_,_,_,_,_,_,h2,_⟩:=h;exact aU.of h2) ?_ ?_))
  .rintro n x σ H4 hx ⟨v6,v7,v8,v9,as,rfl,s4,Xm,o_,hY⟩;obtain⟨l,hl,rfl⟩:=qH hx;have hnl:n<us.length:=(ai.mp hl).1;have hW:=huw l (aT hl);have hl2:=hW.lo;have hl9:=hW.hi;have hal:as.length<=n*(r*w*g):=by
    rw[hY.len];refine a9 (Br (b:=r*w*g) λx hx=>JM hg (by have:=(huw x (eL hx)).lo;exact ay this)) ?_;exact iP _ (by rw[bn];exact om _ _)
   have hbig:(n+1)*(r*w*g)<=1999:=a9 (iP _ vE) hbd;have B4:=B.mv (sj.trans s4);refine(aj _ rfl (aj _ rfl ⟨b,r,w,ao,aF,bi,bj,l,rfl,B4,hl9,λps cs H5 s5 hn5 W0 Rg=>?_⟩));have s25:=s4.trans s5;have hF5:=s5 _ _ o_;have nsF:ps≠F:=λz=>by rw[z,o_]at hn5;cases hn5
   have hcl:cs.length<=r*w:=by rw[Rg.len,xV];exact Nat.mul_le_mul_left _ (iE vE)
   refine(aO ps rfl ⟨_,aQ.of W0⟩ (jJ (K:=K) (a:=ps) (xs:=cs.map V.ref) (λm σ H6=>∃(v7 v8 v9:Option V) (bs:List Addr),σ=[some (.ref b),some (.ref k),some (.str (S rk)),some (.ref pd),some (.ref pj),some (.ref F),some (.str (S l)),v7,v8,v9]/\aB H2 H6/\H6 pu=some (.tup (Ts us))/\H6 ps=some (.lst (cs.map V.ref))/\dO H6 cs (gM r w l.length)/\H6 F=some (.lst (bs.map V.ref))/\
     eZ H6 bs ((us.take n).flatMap (xZ (pR ws ao) (cU ao r w bi bj) ao r w rk)++((gM r w l.length).take m).flatMap (uc (pR ws ao) (cU ao r w bi bj) ao r w rk l))/\bs.length<=as.length+m*g)
    (xH v7 v8 v9 as rfl s25 (s5 _ _ Xm) W0 Rg hF5 (by simpa using hY.mv s5) vE) (λm σ H6 _ h=>by obtain⟨_,_,_,_,_,_,_,h2,_⟩:=h;exact aQ.of h2) ?_ ?_))
   .rintro m x σ H6 hx ⟨v7,v8,v9,bs,rfl,s6,hu6,zH,Xn,hF6,Gd,hb6⟩;rw[aw]at hx;have hi:m<cs.length:=by
     rcases cn m cs.length with z|z;.exact z
     .rw[bP z]at hx;cases hx
    rw[ae hi]at hx;have hx:V.ref cs[m]=x:=ax hx;subst hx;obtain⟨c,ec,hc⟩:=Xn.get hi;obtain⟨hc1,hc2⟩:=FP.mp (aT ec);have hmg:as.length+(m+1)*g<=1999:=by have h1:(m+1)*g<=r*w*g:=iP _ vE;have h2:(n+1)*(r*w*g)=n*(r*w*g)+r*w*g:=sr _ _;lia
    have ahi:(m+1)*g=m*g+g:=sr _ _;refine(aY (cs[m]) _ rfl (aU.of hc) rfl ⟨_,_,rfl,aR _ _ rfl rfl ?_⟩);have B6:=B.mv (sj.trans s6);refine(aj _ rfl (aj _ rfl (aj _ rfl (aj _ rfl ⟨b,r,w,ao,aF,bi,bj,c.1,c.2,l,rfl,B6,by have:=O.w9;(simp[fe,gh]at *;lia),hl9,λpt ats H7 s7 hn7 FZ hT7=>?_⟩))));have s27:=s6.trans s7;have hF7:=s7 _ _ hF6;have ntF:pt≠F:=λz=>by rw[z,hF6]at hn7;cases hn7
    have htl:=Xl ao r w c.1 c.2 l;have hfree:∀t∈dF ao r w c.1 c.2 l,cg t∈qu ao r w:=λt ht=>Gb hc1 hc2 ht;refine(aj _ rfl (aj _ rfl (aj _ rfl ⟨pt,pd,pj,ats,js,dF ao r w c.1 c.2 l,kvs,pR ws ao,cU ao r w bi bj,rfl,FZ,hT7,vE,s27 _ _ hd2,λt ht=>hkv _ (hfree t ht),s27 _ _ hj2,hJ2.mv s27,λH8 s8=>(aj _ rfl ?_)⟩)));have s28:=s27.trans s8;have hF8:=s8 _ _ hF7;have keep:∀(H9:Hp) (cs':List Addr),aB H8 H9->eZ H9 cs' (uc (pR ws ao) (cU ao r w bi bj) ao r w rk l c)->eZ H9 (bs++cs') ((us.take n).flatMap (xZ (pR ws ao) (cU ao r w bi bj) ao r w rk)++((gM r w l.length).take (m+1)).flatMap (uc (pR ws ao) (cU ao r w bi bj) ao r w rk l)):=λH9 cs' s9 hY'=>by rw[JN ec,<-bu];exact(((Gd.mv s7).mv s8).mv s9).app hY'
    by_cases hcan:qW (pR ws ao) (cU ao r w bi bj) (dF ao r w c.1 c.2 l)=true
    .rw[hcan];have h7:(dF ao r w c.1 c.2 l).length<=7:=by
      unfold qW at hcan;simp only[dS,mS]at hcan;exact hcan.1.2
     have aae:uc (pR ws ao) (cU ao r w bi bj) ao r w rk l c=t_ (dF ao r w c.1 c.2 l) rk:=by unfold uc;rw[if_pos hcan]
     refine cB (aO _ rfl (.inl ⟨rfl,_,aQ.of hF8⟩) (aj _ rfl (aj _ rfl (xH pt ats (dF ao r w c.1 c.2 l) rk rfl (s8 _ _ FZ) (hT7.mv s8) h7 (λt ht=>JL hW ht) hrk (a9 (hg _) JQ) (λpl ls H9 s9 hn9 hp9 hY9=>?_)))));have hF9:=s9 _ _ hF8;have hll:ls.length<=g:=by rw[hY9.len];unfold t_;rw[aa];exact hg _
     refine(jN F pl _ _ rfl rfl hF9 hp9 (by rw[aa,aa];lia) ?_);refine(xH _ _ _ (bs++ls) rfl ((s28.trans s9).bG hF) ?_ (by rw[bw nsF];exact s9 _ _ (s8 _ _ (s7 _ _ zH))) ?_ (by rw[au,bv]) ?_ (by rw[av];lia));.exact dI hF9 _ _ (s9 _ _ (s8 _ _ (s7 _ _ hu6)))
     .exact(((Xn.mv s7).mv s8).mv s9).gG (dI hF9)
     .exact(keep H9 ls s9 (by rw[aae];exact hY9)).gG (dI hF9)
    .rw[p_.mpr hcan];have aae:uc (pR ws ao) (cU ao r w bi bj) ao r w rk l c=[]:=by unfold uc;rw[if_neg hcan]
     refine cA (xH _ _ _ bs rfl s28 (s8 _ _ (s7 _ _ hu6)) (s8 _ _ (s7 _ _ zH)) ((Xn.mv s7).mv s8) hF8 ?_ vE);have:=keep H8 [] (aB.refl _) (by rw[aae];exact eZ.nil);rw[fq]at this;exact this
   .rintro σ H6 ⟨v7,v8,v9,bs,rfl,s6,hu6,zH,Xn,hF6,Gd,hb6⟩;refine⟨_,_,_,_,bs,rfl,s6,hu6,hF6,?_⟩;rw[aa,Xn.len,cz]at Gd;rw[JN hl];exact Gd
  .rintro σ H4 ⟨v6,v7,v8,v9,as,rfl,s4,Xm,o_,hY⟩;rw[aa,cz]at hY;have hal:as.length<=1999:=by
    rw[hY.len];refine a9 (Br (b:=r*w*g) λx hx=>JM hg (by have:=(huw x hx).lo;lia)) ?_;rw[hul];exact hbd
   exact(aj _ rfl (q F as us H4 (sj.trans s4) (sj.free hF) o_ pm hY hal))
def cell (R:AA)(i j:Nat):Nat:=(R.getD i []).getD j 0
def cell_eq {R:AA}(hi:i<R.length)(hj:j<R[i].length):cell R i j=R[i][j]:=by unfold cell;rw[al (l:=R),ae hi];show (R[i]).getD j 0=_;rw[al,ae hj];rfl
def nR {r w:Nat}{ao:AA}(hb:Blk r w ao){i j:Nat}(hi:i<r)(hj:j<w):cell (bx ao w) j i=cell ao i j:=by
 have hi':i<ao.length:=by rw[hb.len];exact hi
 unfold cell;rw[show (bx ao w).getD j []=jT ao j by
  unfold bx;rw[al,aw,gd hj];rfl]
 unfold jT;rw[al,aw,ae hi',al (l:=ao),ae hi'];rfl
def acw {r w:Nat}{ao:AA}(hb:Blk r w ao){i j:Nat}(hi:i<r)(hj:j<w):atC (bx ao w) w r (j:Int) (i:Int)=atC ao r w (i:Int) (j:Int):=by unfold atC;rw[if_pos ⟨vE,nV gp hj,vE,vE⟩,if_pos ⟨vE,vE,vE,vE⟩];exact nR hb hi hj
def yc (ao):isFree ao=true↔∀l∈ao,∀c∈l,c=46:=by
 unfold isFree;rw[hV];constructor
 .intro h l hl c hc;simpa using h c (rl.mpr ⟨l,hl,hc⟩)
 .intro h c hc;obtain⟨l,hl,hcl⟩:=rl.mp hc;simpa using h l hl c hcl
def Xo {r w:Nat}{ao:AA}(hb:Blk r w ao):isFree (bx ao w)=isFree ao:=by
 cases h1:isFree ao with
 | true=>exact(yc _).mpr (xU hb ((yc _).mp h1))
 | false=>
  cases h2:isFree (bx ao w) with| false=>rfl| true=>have:=xU (jo hb) ((yc _).mp h2);rw[JD hb]at this;rw[(yc _).mpr this]at h1;cases h1
def Dm {r w:Nat}{ao:AA}(hb:Blk r w ao)(u v:Int):atC (bx ao w) w r v u=atC ao r w u v:=by
 by_cases h:0<=u/\u<r/\0<=v/\v<w
 .obtain⟨i,rfl⟩:∃k:Nat,u=k:=⟨u.toNat,vE⟩
  obtain⟨j,rfl⟩:∃k:Nat,v=k:=⟨v.toNat,vE⟩
  exact acw hb (by simp_all) (by simp_all)
 .have e1:atC ao r w u v=46:=if_neg h;have e2:atC (bx ao w) w r v u=46:=if_neg λz=>h ⟨z.2.2.1,z.2.2.2,z.1,z.2.1⟩;rw[e1,e2]
def acy {r w:Nat}{ao:AA}(hb:Blk r w ao)(u v:Int):Fy (bx ao w) w r v u=Fy ao r w u v:=by unfold Fy poss;simp only[mh,List.any_nil,qV,Dm hb];generalize (!decide ([atC ao r w u (v-1)]=[46]))=a;generalize (!decide ([atC ao r w u (v+1)]=[46]))=b;generalize (!decide ([atC ao r w (u-1) v]=[46]))=c;generalize (!decide ([atC ao r w (u+1) v]=[46]))=d;cases a <;> cases b <;> cases c <;> cases d <;> rfl
def NP {ao:AA}{r w:Nat}{c:Nat×Nat}:c∈uR ao r w↔(c.1<r/\c.2<w)/\frB ao r w c=true/\Cg ao r w c=true:=by unfold uR;rw[n9,Xi,dS]
def Xp {r w:Nat}{ao:AA}(hb:Blk r w ao)(i j:Nat):(j,i)∈uR (bx ao w) w r↔(i,j)∈uR ao r w:=by
 rw[NP,NP];have e1:frB (bx ao w) w r (j,i)=frB ao r w (i,j):=by unfold frB;rw[Dm hb]
 have e2:Cg (bx ao w) w r (j,i)=Cg ao r w (i,j):=acy hb _ _;rw[e1,e2];exact⟨λ⟨⟨a,b⟩,c⟩=>⟨⟨b,a⟩,c⟩,λ⟨⟨a,b⟩,c⟩=>⟨⟨b,a⟩,c⟩⟩
theorem Dp:∀(ls rk:List Nat) {t:List Nat},(∀c∈ls,isLet c)->t∈fQ ls rk->∀c∈t,uO c
 | [],_,t,_,h,c,hc=>by rw[ap.mp h]at hc;simp at hc
 | d::ls,rk,t,hl,h,c,hc=>by
  have hd:=hl d a6;have hl':∀c∈ls,isLet c:=λc hc=>hl c (aI _ hc);unfold fQ at h;rcases ba.mp h with z|z
  .split at z
   .obtain⟨u,hu,rfl⟩:=ar.mp z;rcases bb.mp hc with e|e;.rw[e];exact WM hd
    .exact Dp ls _ hl' hu c e
   .simp at z
  .split at z
   .obtain⟨u,hu,rfl⟩:=ar.mp z;rcases bb.mp hc with e|e;.rw[e,(Rk hd).1];exact WQ hd
    .exact Dp ls _ hl' hu c e
   .simp at z
theorem NQ:∀{ts:List bL} {ss:List Nat},ts.length=ss.length->(jw ts ss).map cg=ts.map cg/\wA (jw ts ss)=ss
 | [],[],_=>⟨rfl,rfl⟩
 | [],_::_,h=>by simp at h
 | _::_,[],h=>by simp at h
 | t::ts,c::ss,h=>by
  have ih:=NQ (ts:=ts) (ss:=ss) (by simpa using h);constructor
  .show cg t::(jw ts ss).map cg=cg t::ts.map cg;rw[ih.1]
  .show c::wA (jw ts ss)=c::ss;rw[ih.2]
theorem zX (ao)(r w i j)(l):∀n,((nj ao r w i j l n).map λt=>t.2.1).Pairwise (·<·)/\∀t∈nj ao r w i j l n,t.1=i/\t.2.1<j+n
 | 0=>⟨List.Pairwise.nil,λt h=>by simp[nj]at h⟩
 | n+1=>by
  obtain⟨h1,h2⟩:=zX ao r w i j l n;rw[xX];cases e:oX ao r w i j l n with
  | none=>simp only[Option.toList_none,fq];exact⟨h1,λt ht=>⟨(h2 t ht).1,eK (h2 t ht).2⟩⟩
  | some u=>
   have eu:u=(i,j+n,l.getD n 0):=by
    unfold oX at e;split at e;.exact(ax e).symm
    .cases e
   subst eu;simp only[Option.toList_some];constructor
   .rw[bv,fw];refine⟨h1,vF,λa ha b hb=>?_⟩;obtain⟨t,ht,rfl⟩:=ar.mp ha;simp only[cp,kU,ap]at hb;rw[hb];exact(h2 t ht).2
   .intro t ht;rcases ba.mp ht with z|z;.exact⟨(h2 t z).1,eK (h2 t z).2⟩
    .rw[ap.mp z];exact⟨rfl,e8 _⟩
def Xq (ao)(r w i j)(l):((dF ao r w i j l).map λt=>t.2.1).Pairwise (·<·)/\∀t∈dF ao r w i j l,t.1=i:=by
 unfold dF;split;.exact⟨(zX ao r w i j l _).1,λt ht=>((zX ao r w i j l _).2 t ht).1⟩
 .exact⟨List.Pairwise.nil,λt h=>by simp at h⟩
structure gR (ao:AA)(r w:Nat)(hk:List (Nat×Nat))(ts:List bL):Prop where
 ne:ts≠[]
 len:ts.length<=7
 cell:∀t∈ts,t.1<r/\t.2.1<w/\atC ao r w t.1 t.2.1=46/\uO t.2.2
 row:∃i,∀t∈ts,t.1=i
 col:(ts.map λt=>t.2.1).Pairwise (·<·)
 hook:∃t∈ts,cg t∈hk
def qM {ws us:AA}{hk:List (Nat×Nat)}{ao:AA}{r w:Nat}{rk:List Nat}(hw:∀l∈us,oN l)(h:x∈i_ ws hk ao r w rk us):gR ao r w hk x:=by
 unfold i_ at h;obtain⟨l,hl,h⟩:=gz.mp h;unfold xZ at h;obtain⟨c,hc,h⟩:=gz.mp h;obtain⟨hc1,hc2⟩:=FP.mp hc;unfold uc at h;split at h
 .rename_i hcan;unfold t_ at h;obtain⟨ss,hss,rfl⟩:=ar.mp h;have bW:(dF ao r w c.1 c.2 l).length=ss.length:=by rw[wz _ _ hss];unfold wA;rw[aa]
  obtain⟨e1,e2⟩:=NQ bW;have ll:=JH bW;unfold qW at hcan;simp only[dS,mS]at hcan;obtain⟨⟨n1,n7⟩,_,hany⟩:=hcan;obtain⟨k1,k2⟩:=Xq ao r w c.1 c.2 l;have Z_:∀d∈wA (dF ao r w c.1 c.2 l),isLet d:=λd hd=>by obtain⟨t,ht,rfl⟩:=ar.mp hd;exact JL (hw l hl) ht
  have back:∀t∈jw (dF ao r w c.1 c.2 l) ss,∃t'∈dF ao r w c.1 c.2 l,cg t'=cg t:=λt ht=>by
   have:cg t∈(dF ao r w c.1 c.2 l).map cg:=by rw[<-e1];exact cy ht
   obtain⟨t',h1,h2⟩:=ar.mp this;exact⟨t',h1,h2⟩
  refine⟨λz=>?_,vE,λt ht=>?_,⟨c.1,λt ht=>?_⟩,?_,?_⟩;.rw[z]at ll;simp at ll;lia
  .obtain⟨t',h1,h2⟩:=back t ht;have hf:=Dk.mp (Gb hc1 hc2 h1);rw[h2]at hf;exact⟨hf.1.1,hf.1.2,hf.2,Dp _ _ Z_ hss _ (by rw[<-e2];exact cy (f:=λt:bL=>t.2.2) ht)⟩
  .obtain⟨t',h1,h2⟩:=back t ht;have:=k2 t' h1;have h3:(cg t').1=(cg t).1:=by rw[h2]
   have h3:t'.1=t.1:=h3;lia
  .have e3:(jw (dF ao r w c.1 c.2 l) ss).map (λt=>t.2.1)=(dF ao r w c.1 c.2 l).map λt=>t.2.1:=by
    have:=congrArg (List.map Prod.snd) e1;rw[b6,b6]at this;exact this
   rw[e3];exact k1
  .obtain⟨t',h1,h2⟩:=uu.mp hany;have h2:=i7 h2;have:cg t'∈(jw (dF ao r w c.1 c.2 l) ss).map cg:=by rw[e1];exact cy h1
   obtain⟨t,ht,e⟩:=ar.mp this;exact⟨t,ht,by rw[e];exact h2⟩
 .simp at h
def gR.rk {ao:AA}{r w:Nat}{hk:List (Nat×Nat)}(h:gR ao r w hk ts):(ts.map My.rk).Pairwise (·<·):=by obtain⟨i,hi⟩:=h.row;have hc:=h.col;rw[df]at hc ⊢;refine lL (λ{a b} ha hb hab=>?_) hc;unfold My.rk;rw[hi a ha,hi b hb];exact sK hab _
def gR.rkw {ao:AA}{r w:Nat}{hk:List (Nat×Nat)}(h:gR ao r w hk ts):((ts.map sw).map My.rk).Pairwise (·<·):=by obtain⟨i,hi⟩:=h.row;have hc:=h.col;rw[b6,df];rw[df]at hc;refine lL (λ{a b} ha hb hab=>?_) hc;show a.2.1*1000+a.1<b.2.1*1000+b.1;rw[hi a ha,hi b hb];simp_all
structure yd (ao:AA)(r w:Nat)(hk:List (Nat×Nat))(ts:List bL):Prop where
 ne:ts≠[]
 len:ts.length<=7
 cell:∀t∈ts,t.1<r/\t.2.1<w/\atC ao r w t.1 t.2.1=46/\uO t.2.2
 rk:(ts.map My.rk).Pairwise (·<·)
 hook:∃t∈ts,cg t∈hk
def PB {r w bi bj:Nat}{ao:AA}(hb:Blk r w ao){c:Nat×Nat}(h:c∈cU (bx ao w) w r bj bi):(c.2,c.1)∈cU ao r w bi bj:=by
 unfold cU at h ⊢;rw[Xo hb]at h;split at h
 .rename_i hf;rw[if_pos hf];rw[ap.mp h];exact ap.mpr rfl
 .rename_i hf;rw[if_neg hf];exact(Xp hb c.2 c.1).mp h
noncomputable def yg (ws:AA)(ao:AA)(r w bi bj:Nat)(rk:List Nat):List (List bL):=i_ ws (cU ao r w bi bj) ao r w rk ws++(i_ ws (cU (bx ao w) w r bj bi) (bx ao w) w r rk ws).map λts=>ts.map sw
def gR.ok {ao:AA}{r w:Nat}{hk:List (Nat×Nat)}(h:gR ao r w hk ts):yd ao r w hk ts:=⟨h.ne,h.len,h.cell,h.rk,h.hook⟩
def gR.down {ao:AA}{r w bi bj:Nat}(hb:Blk r w ao)(h:gR (bx ao w) w r (cU (bx ao w) w r bj bi) ts):yd ao r w (cU ao r w bi bj) (ts.map sw):=by
 refine⟨λz=>h.ne (List.map_eq_nil_iff.mp z),by rw[aa];exact h.len,λt ht=>?_,h.rkw,?_⟩
 .obtain⟨u,hu,rfl⟩:=ar.mp ht;obtain⟨a,b,c,d⟩:=h.cell u hu;rw[Dm hb]at c;exact⟨b,a,c,d⟩
 .obtain⟨t,ht,hh⟩:=h.hook;exact⟨sw t,cy ht,PB hb hh⟩
def HD {ws:AA}{ao:AA}{r w bi bj:Nat}{rk:List Nat}(hb:Blk r w ao)(hw:∀l∈ws,oN l)(h:x∈yg ws ao r w bi bj rk):yd ao r w (cU ao r w bi bj) x:=by
 unfold yg at h;rcases ba.mp h with z|z;.exact(qM hw z).ok
 .obtain⟨u,hu,rfl⟩:=ar.mp z;exact(qM hw hu).down hb
theorem yd.qJ {ao:AA}{r w:Nat}{hk:List (Nat×Nat)}(h:yd ao r w hk ts)(r9:r<=9)(w9:w<=9):∀t∈ts,qJ t:=λt ht=>by obtain⟨a,b,_,d⟩:=h.cell t ht;exact⟨bq a r9,bq b w9,d.lt⟩
def vm.lay (h:vm H a ts)(hne:ts≠[])(ok:∀t∈ts,qJ t):tH K H a ts:=by
 obtain⟨bs,h1,h2⟩:=h;refine⟨?_,hne,λt ht=>⟨by have:=(ok t ht).2.1;lia,(ok t ht).2.2⟩⟩;refine .tup (aU.of h1) ?_;have key:∀bs:List Addr,(∀b∈bs,zR H b (tO H b)/\(tO H b).2.2<128)->jL K H 1 ((bs.map (tO H)).map lq) (bs.map V.ref):=by
  intro bs
  induction bs with| nil=>exact λ_=>.nil| cons b bs ih=>intro hb;obtain⟨hT,hz⟩:=hb b a6;exact .cons (.tup (aU.of hT) (.cons (.int _) (.cons (.int _) (.cons (.str _ λc hc=>by rw[ap.mp hc];exact hz) .nil)))) (ih λx hx=>hb x (aI _ hx))
 have:=key bs λb hb=>⟨h2.at_ b hb,(ok _ (by rw[<-h2.eq];exact cy hb)).2.2⟩
 rw[h2.eq]at this;exact this
theorem Bs:∀{as bs:List bL},(as.map My.rk).Pairwise (·<·)->(bs.map My.rk).Pairwise (·<·)->as.Perm bs->as=bs
 | [],bs,_,_,p=>(List.nil_perm.mp p).symm ▸ rfl
 | a::as,[],_,_,p=>absurd p.length_eq vF
 | a::as,b::bs,ha,hb,p=>by
  have ha0:=gx.mp ha;have hb0:=gx.mp hb;have e:a=b:=by
   rcases bb.mp (p.mem_iff.mp (a6 (a:=a) (l:=as))) with z|z;.exact z
   .rcases bb.mp (p.mem_iff.mpr (a6 (a:=b) (l:=bs))) with y|y;.exact y.symm
    .have h1:=hb0.1 (My.rk a) (cy z);have h2:=ha0.1 (My.rk b) (cy y);lia
  subst e;rw[Bs ha0.2 hb0.2 ((List.perm_cons _).mp p)]
def vo {ws us:AA}{hk:List (Nat×Nat)}{ao:AA}{r w:Nat}{rk:List Nat}(p:us.Perm ws)(x:List bL):x∈i_ ws hk ao r w rk us↔x∈i_ ws hk ao r w rk ws:=by unfold i_;rw[gz,gz];exact⟨λ⟨l,h1,h2⟩=>⟨l,p.mem_iff.mp h1,h2⟩,λ⟨l,h1,h2⟩=>⟨l,p.mem_iff.mpr h1,h2⟩⟩
def aaZ (C CB:Addr):Sp:=λvs H Q _=>∃(b k d:Addr) (ws:AA) (r w:Nat) (ao aF:AA) (bi bj g:Nat) (rk:List Nat),vs=[.ref b,.ref k,.str (S rk)]/\dz C H b r w ao aF bi bj/\mQ CB H k d ws/\ws.length<64/\rk.length<=100/\(∀ls,(fQ ls rk).length<=g)/\g<=900/\ws.length*(r*w*g)<=1999/\
 ∀(p:Addr) (as:List Addr) (L:List (List bL)) (H':Hp),aB H H'->H' p=some (.tup (as.map V.ref))->eZ H' as L->Mt L->L.Nodup->L.length<=3998->(∀x,x∈L↔x∈yg ws ao r w bi bj rk)->Q (.ref p) H'
def HF (D:aK K mg "all_layings" m9 ["board","book","rack"])(Ge:mg "set"=none)(dR:mg "sorted"=none)(bN:mg "tuple"=none)(bO:d_ K C)(iy:Meth K C "turned" f3)(iz:cL P w K mg base fW 8 f3 yJ ["self"] (Dg C))(iB:cj K yJ ["self"] [])(ud:bF P w K mg base "layings_across" 12 ["board","book","rack"] (Nv C CB))(oZ:bF P w K mg base "turned_laying" 1 ["laying"] zV):bF P w K mg base "all_layings" 13 ["board","book","rack"] (aaZ C CB):=by
 refine D.cY pN (λvs H Q E h=>?_) (λf bD A outer s H vs Q E hr h=>?_)
 .obtain⟨b,k,d,ws,r,w,ao,aF,bi,bj,g,rk,rfl,_⟩:=h;rfl
 .obtain⟨b,k,d,ws,r,w',ao,aF,bi,bj,g,rk,rfl,B,BK,zW,hrk,hg,JQ,hbd,q⟩:=h;have O:=B.ok;have aaY:4000<=sizeLine:=by decide
  refine(aj _ (aG (aV (i:=3) pN.nd rfl (Or.inl rfl) (aZ ud hr.mono rfl (ak (qv 0) (ak (qv 1) (ak (qv 2) aA))))) (aG (GF (ix:=4) (ns:=["laying"]) pN.nd rfl (Or.inl rfl) rfl (fu.of ["board","book","rack","across","down"] [] v0) (eG (aZ ud hr.mono rfl (ak (nD (qv 0) bO.cl iy iz hr.mono iB .nil gD) (ak (qv 1) (ak (qv 2) aA))))) (λ_ _ _ _ _=>(pH (show (["laying","board","book","rack","across","down"]:List Str).Nodup by decide +kernel) rfl vT)) (λ_ _ _ _ _=>cF) (λ_ _ _ _ _=>(aZ oZ hr.mono rfl (ak (qv 0) aA)))) (aL (aX (cP dg vT bN cE (ak (bh (Bw rfl hr.units) vT dR gy (ak (cP (O5 rfl hr.units) vT Ge PyProof.Rows.boot_set (ak (aP adP (qv 3) (qv 4)) aA)) aA)) aA)))))) ?_);refine(aj _ rfl (aj _ rfl (aj _ rfl (zM b k d ws r w' ao aF bi bj g rk rfl B BK zW hrk hg JQ hbd (λp1 as1 us1 H1 s1 hn1 hp1 JR hY1 hl1=>?_)))));have B1:=B.mv s1;obtain⟨dx,_,_,_,ex,_⟩:=id B1.ex;refine(aj _ rfl (dM b dx _ rfl ex rfl (rO b r w' ao aF bi bj rfl B1 (λpt Ht st Bt=>?_))));have s1t:=s1.trans st;refine(aj _ rfl (aj _ rfl (zM pt k d ws w' r (bx ao w') (bx aF w') bj bi g rk rfl Bt (BK.same s1t) zW hrk hg JQ (by rw[fz w' r];exact hbd) (λp2 as2 us2 H2 s2 hn2 hp2 Gf Xr hl2=>?_))));have JT:=s1t.trans s2;have agS:=s2 _ _ (st _ _ hp1);have vp:=(hY1.mv st).mv s2;have hw1:∀l∈us1,oN l:=λl hl=>BK.az l (JR.mem_iff.mp hl);have hw2:∀l∈us2,oN l:=λl hl=>BK.az l (Gf.mem_iff.mp hl);have ok2:∀x∈i_ ws (cU (bx ao w') w' r bj bi) (bx ao w') w' r rk us2,gR (bx ao w') w' r (cU (bx ao w') w' r bj bi) x:=λx hx=>qM hw2 hx;generalize hX:i_ ws (cU (bx ao w') w' r bj bi) (bx ao w') w' r rk us2=X at Xr ok2;refine(aO p2 rfl ⟨_,aQ.of hp2⟩ (λL hL=>BW (f:=eU [] 0) (tt:=gF) (K:=K) (a:=p2) (xs:=as2.map V.ref) (λi ys H6=>∃ds:List Addr,ys=ds.map V.ref/\ds.length=i/\H6 L=some (.lst ys)/\aB H2 H6/\eZ H6 ds ((X.take i).map λts=>ts.map sw))
   (cW [] rfl rfl au (aB.upd hL) eZ.nil) (λi ys H6 _ h=>by obtain⟨_,_,_,_,sm,_⟩:=h;exact aQ.of (sm _ _ hp2)) ?_ ?_))
  .rintro i x ys H6 hx ⟨ds,rfl,hdl,lH,s6,Gd⟩;rw[aw]at hx;have hi:i<as2.length:=by
    rcases cn i as2.length with z|z;.exact z
    .rw[bP z]at hx;cases hx
   rw[ae hi]at hx;have hx:V.ref as2[i]=x:=ax hx;subst hx;obtain⟨ts,et,⟨bs,hbs,JV⟩⟩:=Xr.get hi;have hok:=ok2 ts (aT et);have agT:=(hok.ok).qJ O.w9 O.r9;have hnd:(ts.map λt=>My.rk (sw t)).Nodup:=by have:=hok.rkw;rw[b6]at this;exact tT (λ{a b} hab=>be hab) this
   refine Kq ?_;refine(aj _ rfl (pZ (as2[i]) bs ts rfl (s6 _ _ hbs) (JV.mv s6) agT hnd (by have:=hok.len;lia) (λp7 bs7 ts7 H7 s7 FZ Ng pm7 pw7=>?_)));have e7:ts7=ts.map sw:=Bs pw7 hok.rkw pm7;subst e7;have ae0:=s7 _ _ lH;refine⟨ae0,by rw[aa,hdl];lia,dJ.mk (by rw[aa];exact hi) (cW (ds++[p7]) vF (by simp[hdl]) (by rw[au]) ((s6.trans s7).bG hL) ?_)⟩;rw[bz,et,bv];exact((Gd.mv s7).app (eZ.one (ts:=ts.map sw) (aj bs7 FZ Ng))).gG (dI ae0)
  .rintro ys H6 ⟨ds,rfl,hdl,lH,s6,Gd⟩;rw[aa]at hdl;rw[cq (by rw[aa];have:=Xr.len;lia)]at Gd;have agU:=s6 _ _ agS;have agV:=vp.mv s6;refine(aj _ rfl (aj _ rfl (jN p1 L _ _ rfl rfl agU lH (by rw[aa,aa];lia) (λpc hpc=>?_))));have k7:aB H6 (upd H6 pc (HO.lst (as1.map V.ref++ds.map V.ref))):=aB.upd hpc;have ae1:upd H6 pc (HO.lst (as1.map V.ref++ds.map V.ref)) pc=some (.lst ((as1++ds).map V.ref)):=by rw[au,bv]
   have Gg:=(agV.app Gd).mv k7;have sH7:=(JT.trans s6).trans k7;generalize upd H6 pc (HO.lst (as1.map V.ref++ds.map V.ref))=H7 at k7 ae1 Gg sH7 ⊢;have hmem:∀x,x∈(i_ ws (cU ao r w' bi bj) ao r w' rk us1++X.map λts=>ts.map sw)↔x∈yg ws ao r w' bi bj rk:=λx=>by
    unfold yg;rw[ba,ba,vo JR,<-hX,ar,ar];constructor
    .rintro(z|⟨u,hu,rfl⟩);.exact .inl z
     .exact .inr (aj u ((vo Gf u).mp hu) rfl)
    .rintro(z|⟨u,hu,rfl⟩);.exact .inl z
     .exact .inr (aj u ((vo Gf u).mpr hu) rfl)
   generalize hM:(i_ ws (cU ao r w' bi bj) ao r w' rk us1++X.map λts=>ts.map sw)=M at Gg hmem;have hlay:∀a∈as1++ds,tH K H7 a (lO H7 a):=λa ha=>by
    have hm:lO H7 a∈M:=by rw[<-Gg.eq];exact cy ha
    have hok:=HD O.br BK.az ((hmem _).mp hm);exact(Gg.at_ a ha).lay hok.ne (hok.qJ O.r9 O.w9)
   refine(ig pc (as1++ds) (lO H7) rfl (aQ.of ae1) (by rw[av];lia) hlay (λps bs hps hsub hnd hall=>?_));have k8:aB H7 (upd H7 ps (HO.ext (pL w ps bs))):=aB.upd hps;have agW:upd H7 ps (HO.ext (pL w ps bs)) ps=some (.ext (pL w ps bs)):=au;have gK:bs.length<=as1.length+ds.length:=by
    have h1:(bs.map (lO H7)).length<=M.length:=hnd.length_le_of_subset (l₂:=M) λx hx=>by obtain⟨a,ha,rfl⟩:=ar.mp hx;rw[<-Gg.eq];exact cy (hsub a ha)
    rw[aa]at h1;rw[<-Gg.len,av]at h1;exact h1
   refine(ig ps bs (lO H7) rfl agW vE (λa ha=>(hlay a (hsub a ha)).mv k8) (λpq bs' hpq pmb up=>?_));have k9:=k8.bG (o:=HO.lst (bs'.map V.ref)) (k8.free hpq);have ahj:upd (upd H7 ps (HO.ext (pL w ps bs))) pq (HO.lst (bs'.map V.ref)) pq=some (.lst (bs'.map V.ref)):=au;refine⟨pq,_,rfl,.inl ⟨aQ.of au,λT hT=>?_⟩⟩;have k10:=k9.bG (o:=HO.tup (bs'.map V.ref)) (k9.free hT);have hYf:eZ (upd (upd (upd H7 ps (HO.ext (pL w ps bs))) pq (HO.lst (bs'.map V.ref))) T (HO.tup (bs'.map V.ref))) bs' (bs'.map (lO H7)):=(eZ.mk (λa ha=>Gg.at_ a (hsub a (pmb.mem_iff.mp ha))) rfl).mv k10;refine q T bs' _ _ (sH7.trans k10) au hYf up ((pmb.map (lO H7)).nodup_iff.mpr hnd) (by rw[aa,pmb.length_eq];lia) λx=>?_;rw[<-hmem x,(pmb.map (lO H7)).mem_iff];constructor
   .intro hx;obtain⟨a,ha,rfl⟩:=ar.mp hx;rw[<-Gg.eq];exact cy (hsub a ha)
   .intro hx;rw[<-Gg.eq]at hx;obtain⟨a,ha,rfl⟩:=ar.mp hx;exact hall a ha
def Xu (K:W.Frag):Sp:=λvs H Q _=>∃(p a:Addr) (ls:List Nat) (ns:List Int) (k m:Nat),vs=[.ref p,.ref a,.int k,.int m]/\H p=some (.lst (Ts (ones ls)))/\TQ ls/\aQ K H a (ns.map V.int)/\k<=1000/\m<=5/\
 ∀(rk:List Nat) (H':Hp),aB H H'->rk.length<=m->(rk.length<4->rk.count 63<=2)->(4<=rk.length->rk.count 63<=1)->(∀c∈rk,c=63\/isLet c)->Q (.str (S rk)) H'
def acz (D:aK K mg "_law_rack" Fj ["_law_letters_here","_law_script","_law_k","_law_most"])(bI:mg "len"=none)(Gh:mg "min"=none)(kO:mg "int"=none)(lC:bF P w K mg base "_law_digits" 3 ["_law_script","_law_k","_law_base","_law_many"] (Fo K)):bF P w K mg base "_law_rack" 4 ["_law_letters_here","_law_script","_law_k","_law_most"] (Xu K):=by
 refine D.cY nP (λvs H Q E h=>?_) (λf bD A outer s H vs Q E hr h=>?_)
 .obtain⟨p,a,ls,ns,k,m,rfl,_⟩:=h;rfl
 .obtain⟨p,a,ls,ns,k,m,rfl,hp,hA,hS,hk,hm5,q⟩:=h;have hlo:(Ts (ones ls)).length=ls.length:=by rw[aa,aa]
  have hl1:=hA.lo;refine(aj _ (aG (aV (i:=4) nP.nd rfl (Or.inl rfl) (aZ lC hr.mono rfl (ak (qv 1) (ak (qv 2) (ak aD (ak aD aA)))))) (aG (aV (i:=5) nP.nd rfl (Or.inl rfl) (bh (Vd rfl) vT Gh PyProof.Rows.boot_min (ak (qv 3) (ak (bB fU (eY (ak aD (ak aD (ak aD (ak aD (ak aD (ak aD (ak aD (ak aD aA))))))))) (aP b_ (bB fU (qv 4) aD (λ_ _=>rfl)) aD) (λ_ _=>rfl)) aA)))) (aG (aV (i:=6) nP.nd rfl (Or.inl rfl) (cG [] v_)) (aG (fJ c9 rfl (eG (kY Gv (qv 4) (jy aD) (jy (aP cu aD (qv 5))))) (bY (i:=7) nP.nd rfl (Or.inl rfl)) (aG (aV (i:=8) nP.nd rfl (Or.inl rfl) (bB fU (qv 0) (aP b_ (aP eV (qv 7) aD) (bh dh vT bI ck (ak (qv 0) aA))) (λ_ _=>rfl))) (aG (zm (d7 (QW.qt (adZ (bZ jc (aP b_ (qv 7) aD) aD (bU _)) (abD (bZ Ag (fB ci PySem.F.slot_str_count PySem.F.type_str_count V0 (qv 6) (ak (cG [63] v_) aA)) (aP cu aD (cP yO vT kO nw (ak (gJ Ag (qv 5) aD (bU _)) aA))) (bU _))))) (aL (aV (i:=8) nP.nd rfl (Or.inl rfl) (cG [63] v_))) cD)) (aL (aV (i:=6) nP.nd rfl (Or.inl rfl) (aP sE (qv 6) (qv 8))))))) (aL (aX (qv 6))))))) ?_);refine(aj _ rfl (aj _ rfl (uF a ns k 208 6 rfl hS hk vS vS vS (λpr ds H1 s1 agL hpr hl hd=>?_))));have at0:j_ (ds.map V.int) 0=some (.int ds[0]):=aN (j:=0) (by simp[hl]);refine(aO _ rfl (zsz 8) (λt ht=>?_));obtain⟨z,hz1,hz2,hz3⟩:∃z:Nat,j_ [V.int 1,V.int 2,V.int 3,V.int 3,V.int 2,V.int 4,V.int 3,V.int 5] (ds[0]%8)=some (.int z)/\1<=z/\z<=5:=by
   have hm:ds[0]%8=0\/ds[0]%8=1\/ds[0]%8=2\/ds[0]%8=3\/ds[0]%8=4\/ds[0]%8=5\/ds[0]%8=6\/ds[0]%8=7:=vE;rcases hm with e|e|e|e|e|e|e|e <;> rw[e]
   .exact(aO 1 (aN (j:=0) rfl) vS vS)
   .exact(aO 2 (aN (j:=1) rfl) vS vS)
   .exact(aO 3 (aN (j:=2) rfl) vS vS)
   .exact(aO 3 (aN (j:=3) rfl) vS vS)
   .exact(aO 2 (aN (j:=4) rfl) vS vS)
   .exact(aO 4 (aN (j:=5) rfl) vS vS)
   .exact(aO 3 (aN (j:=6) rfl) vS vS)
   .exact(aO 5 (aN (j:=7) rfl) vS vS)
  have hT:upd H1 t (HO.lst [V.int 1,V.int 2,V.int 3,V.int 3,V.int 2,V.int 4,V.int 3,V.int 5]) t=some _:=au;have s2:aB H1 (upd H1 t (HO.lst [V.int 1,V.int 2,V.int 3,V.int 3,V.int 2,V.int 4,V.int 3,V.int 5])):=aB.upd ht;generalize upd H1 t (HO.lst [V.int 1,V.int 2,V.int 3,V.int 3,V.int 2,V.int 4,V.int 3,V.int 5])=H2 at hT s2 ⊢;have ae2:=s2 _ _ hpr;refine(aj _ rfl (bK pr _ 0 _ rfl rfl (aQ.of ae2) at0 (aY _ _ rfl rfl (by show (0:Int)<8;decide) (bK t _ _ _ rfl rfl (aQ.of hT) hz1 ⟨_,_,rfl,?_⟩))));obtain⟨n,en,hnm,hn5⟩:∃n:Nat,(if (z:Int)<(m:Int) then (z:Int) else (m:Int))=(n:Int)/\n<=m/\n<=5:=by
   by_cases c:(z:Int)<(m:Int);.exact(aO z (by rw[if_pos c]) vE hz3)
   .exact(aO m (by rw[if_neg c]) (ag _) hm5)
  rw[en];have JT:=s1.trans s2;refine(aj _ rfl (aj _ rfl (aj _ rfl (aR _ _ rfl rfl (aj _ rfl (aR pr _ rfl (aQ.of ae2) (λu hu'=>?_)))))));have e1:(1:Int)+(n:Int)=((1+n:Nat):Int):=rfl;rw[e1];have BX:(n_ (ds.map V.int) (some (1:Nat)) (some ((1+n:Nat):Int))).length=n:=by rw[Hi vE vE];lia
  generalize hxs:n_ (ds.map V.int) (some 1) (some ((1+n:Nat):Int))=xs;have ZM:xs.length=n:=by rw[<-hxs];exact BX
  have WW:∀v∈xs,∃d:Int,v=.int d:=λv hv=>by rw[<-hxs]at hv;obtain⟨d,hd,e⟩:=Cz hv;exact⟨d,e⟩
  have s3:aB H (upd H2 u (HO.lst xs)):=JT.bG (JT.free hu');refine(aO u rfl ⟨_,aQ.of au⟩ (jJ (K:=K) (a:=u) (xs:=xs) (λi σ H4=>∃(v7 v8:Option V) (rk:List Nat),σ=[some (.ref p),some (.ref a),some (.int k),some (.int m),some (.ref pr),some (.int n),some (.str (S rk)),v7,v8]/\aB H H4/\H4 u=some (.lst xs)/\rk.length=i/\rk.count 63<=(if n<4 then 2 else 1)/\∀c∈rk,c=63\/isLet c)
   ⟨none,none,[],rfl,s3,au,rfl,cw _,λc h=>by simp at h⟩ (λi σ H4 _ h=>by obtain⟨_,_,_,_,_,h2,_⟩:=h;exact aQ.of h2) ?_ ?_))
  .rintro i x σ H4 hi ⟨v7,v8,rk,rfl,s4,Xm,hrl,Rn,hra⟩;have hil:i<xs.length:=(ai.mp hi).1;obtain⟨d,rfl⟩:=WW x (aT hi);have W_:=s4 _ _ hp;obtain⟨v,hv,Wt⟩:=Qn (xs:=Ts (ones ls)) (n:=ls.length) hlo (ay hl1) (d/8);obtain⟨l1,ZV,rfl⟩:=ar.mp Wt;obtain⟨c,hcm,rfl⟩:=ar.mp ZV;have hc:=hA.az c hcm;have agX:c≠63:=by have:=hc.1;lia
   refine(aj _ rfl (aj _ rfl (aY _ _ rfl rfl ⟨vS,vS⟩ (aj _ rfl (aR p _ rfl (.inl (aQ.of W_)) (aY _ _ rfl rfl (by rw[hlo];show (0:Int)<(ls.length:Int);lia) (bK p _ _ (.str (S [c])) rfl rfl (aQ.of W_) (by rw[hlo];exact hv) ?_)))))));refine⟨λσ' H'=>H'=H4/\∃z:Nat,(z=63\/isLet z)/\(rk++[z]).count 63<=(if n<4 then 2 else 1)/\σ'=[some (.ref p),some (.ref a),some (.int k),some (.int m),some (.ref pr),some (.int n),some (.str (S rk)),some (.int d),some (.str (S [z]))],?_,?_⟩
   .have aa0:(rk++[c]).count 63<=(if n<4 then 2 else 1):=by rw[tN,List.count_singleton];simpa [agX] using Rn
    refine(aj _ rfl (fY _ _ rfl rfl (by show (0:Int)<6;decide) rfl (aj _ rfl (sV (λ_=>?_) (λ_=>⟨rfl,aO c (.inr hc) aa0 rfl⟩)))));refine(aO _ rfl rfl (aR rk 63 rfl rfl (aj _ rfl (aR _ _ rfl rfl (.inr (aj _ rfl (aR _ _ rfl rfl (aR _ _ rfl rfl (aj _ rfl ?_)))))))));refine sV (λhlt=>⟨rfl,aO 63 (.inl rfl) ?_ rfl⟩) (λ_=>⟨rfl,aO c (.inr hc) aa0 rfl⟩);have hlt:=i7 hlt;rw[tN,List.count_singleton];by_cases hn4:n<4
    .rw[aE (show (n:Int)<4 from nV gp hn4)]at hlt;simp only[if_true]at hlt;rw[if_pos hn4];simp;lia
    .rw[am (show ¬(n:Int)<4 by lia)]at hlt;simp only[bd,if_false]at hlt;rw[if_neg hn4];simp;lia
   .rintro σ' H' ⟨rfl,z,hz,hzc,rfl⟩;refine(aj _ rfl (aj _ rfl (aY rk [z] rfl rfl (ay (aM (by simp;lia))) ?_)));refine⟨_,_,rk++[z],rfl,s4,Xm,by simp[hrl],hzc,λe he=>?_⟩;rcases ba.mp he with y|y;.exact hra e y
    .rw[ap.mp y];exact hz
  .rintro σ H4 ⟨v7,v8,rk,rfl,s4,Xm,hrl,Rn,hra⟩;rw[ZM]at hrl;refine(aj _ rfl (q rk H4 s4 vE (λh=>?_) (λh=>?_) hra));.rw[if_pos (by simp_all)]at Rn;exact Rn
   .rw[if_neg vE]at Rn;exact Rn
theorem aa1:∀{ts:List bL},(∀t∈ts,t.1=i)->ts.Pairwise (λa b=>a.1=b.1)
 | [],_=>.nil
 | t::ts,h=>.cons (λb hb=>by rw[h t a6,h b (aI _ hb)]) (aa1 λb hb=>h b (aI _ hb))
def Gi (ts:List bL):Prop:=ts.Pairwise (λa b=>a.1=b.1)\/ts.Pairwise (λa b=>a.1<b.1)
def mj (ts:List bL):Prop:=(∃i,(∀t∈ts,t.1=i)/\ts.Pairwise (λa b=>a.2.1<b.2.1))\/(∃j,(∀t∈ts,t.2.1=j)/\ts.Pairwise (λa b=>a.1<b.1))
def mj.one (h:mj ts):Gi ts:=by
 rcases h with⟨i,h,_⟩|⟨_,_,h⟩;.exact .inl (aa1 h)
 .exact .inr h
def aaf (hM:H M=some (.lst ys)):∀a xs,H a=some (.tup xs)->upd H M (.lst zs) a=some (.tup xs):=λa xs e=>by
 have ne:a≠M:=λz=>by rw[z,hM]at e;cases e
 rw[bw ne];exact e
abbrev j7:=Nat×Nat×Nat×List Nat
def Xv (H:Hp)(a:Addr)(q:j7):Prop:=H a=some (.tup [.int q.1,.int q.2.1,.int q.2.2.1,.str (S q.2.2.2)])
noncomputable def j8 (R:AA)(i j wy:Nat):j7:=(if wy=0 then i else i-(cQ ((lineOf R i j (wy:Int)).take i)).length,if wy=0 then j-(cQ ((lineOf R i j (wy:Int)).take j)).length else j,wy,cQ ((lineOf R i j (wy:Int)).take (placeOf i j (wy:Int)))++dW ((lineOf R i j (wy:Int)).drop (placeOf i j (wy:Int))))
structure iM {α:Type}(enc:α->List V)(H:Hp)(as:List Addr)(xs:List α):Prop where
 len:as.length=xs.length
 at_:∀(i:Nat) (a:Addr) (x:α),as[i]?=some a->xs[i]?=some x->H a=some (.tup (enc x))
def iM.gG {α:Type}{enc:α->List V}{xs:List α}(k:∀a ys,H a=some (.tup ys)->H' a=some (.tup ys))(h:iM enc H as xs):iM enc H' as xs:=⟨h.len,λi a x h1 h2=>k _ _ (h.at_ i a x h1 h2)⟩
def iM.mv {α:Type}{enc:α->List V}{xs:List α}(k:aB H H')(h:iM enc H as xs):iM enc H' as xs:=h.gG λa ys e=>k a _ e
def iM.nil {α:Type}{enc:α->List V}:iM enc H [] []:=⟨rfl,λi a x h=>by simp at h⟩
def iM.one {α:Type}{enc:α->List V}{x:α}(h:H a=some (.tup (enc x))):iM enc H [a] [x]:=⟨rfl,λi b y h1 h2=>by
 match i,h1,h2 with
 | 0,h1,h2=>have e1:a=b:=ax h1;have e2:x=y:=ax h2;rw[<-e1,<-e2];exact h
 | n+1,h1,h2=>exact absurd h1 vF⟩
def iM.app {α:Type}{enc:α->List V}{xs ys:List α}(h:iM enc H as xs)(g:iM enc H bs ys):iM enc H (as++bs) (xs++ys):=by
 refine⟨by rw[av,av,h.len,g.len],λi a x h1 h2=>?_⟩;by_cases c:i<as.length
 .rw[dQ c]at h1;rw[dQ (by rw[<-h.len];exact c)]at h2;exact h.at_ i a x h1 h2
 .rw[c_ vE]at h1;rw[c_ (by rw[<-h.len];lia),<-h.len]at h2;exact g.at_ _ a x h1 h2
def iM.get {α:Type}{enc:α->List V}{xs:List α}(h:iM enc H as xs)(hi:i<as.length):∃x,xs[i]?=some x/\H as[i]=some (.tup (enc x)):=by
 have hx:i<xs.length:=by rw[<-h.len];exact hi
 exact⟨xs[i],ae hx,h.at_ i _ _ (ae hi) (ae hx)⟩
abbrev QL:=iM (λq:j7=>[V.int q.1,V.int q.2.1,V.int q.2.2.1,V.str (S q.2.2.2)])
abbrev AL3:=iM (λq:Nat×Nat×Nat=>[V.int q.1,V.int q.2.1,V.int q.2.2])
def iQ (ts:List bL):Nat:=if ts.head?.map (·.1)=ts.getLast?.map (·.1) then 0 else 1
def j9 (ts:List bL):List (Nat×Nat×Nat):=(ts.take 1).map (λt=>(t.1,t.2.1,iQ ts))++ts.map λt=>(t.1,t.2.1,1-iQ ts)
def qd (R:AA)(a:Nat×Nat×Nat):j7:=j8 R a.1 a.2.1 a.2.2
def Bu (q:j7):Bool:=decide (1<q.2.2.2.length)
def g_ (ao:AA)(ts:List bL):List j7:=((j9 ts).map (qd (dD ao ts))).filter Bu
def NT (ts:List bL):iQ ts<=1:=by unfold iQ;split <;> decide
def NZ {r w:Nat}{R:AA}(hb:Blk r w R)(r9:r<=9)(w9:w<=9){i j wy:Nat}(hi:i<r):(j8 R i j wy).2.2.2.length<=20:=by
 have hll:=oO hb hi (j:=j) (way:=(wy:Int));have h9:(lineOf R i j (wy:Int)).length<=9:=by rw[hll];split <;> assumption
 show (cQ _++dW _).length<=20;have a1:=lE ((lineOf R i j (wy:Int)).take (placeOf i j (wy:Int)));have a2:=qI ((lineOf R i j (wy:Int)).drop (placeOf i j (wy:Int)));rw[bn]at a1;rw[dP]at a2;rw[av];lia
def zY {ts:List bL}(h:0<ts.length):iQ ts=if ts[0].1=ts[ts.length-1].1 then 0 else 1:=by unfold iQ;rw[List.head?_eq_getElem?,List.getLast?_eq_getElem?,ae h,ae vE];simp only[oj,Option.some.injEq]
def Gj (hL:cT H as ts)(hi:i<ts.length):∃(h:i<as.length),H as[i]=some (.tup [.int ts[i].1,.int ts[i].2.1,.str (S [ts[i].2.2])]):=by
 have h:i<as.length:=by rw[hL.len];exact hi
 obtain⟨t,e,ht⟩:=hL.get h;rw[ae hi]at e;have e:=ax e;rw[<-e]at ht;exact⟨h,ht⟩
def Xw (hl:Gi ts)(h0:0<ts.length):((ts.map λt=>decide (V.int (t.1:Int)=V.int (ts[0].1:Int))).all id)=decide (iQ ts=0):=by
 have hd:∀a b:Nat,decide (V.int (a:Int)=V.int (b:Int))=decide (a=b):=λa b=>by
  by_cases h:a=b;.subst h;simp
  .have:¬V.int (a:Int)=V.int (b:Int):=λz=>h (by injection z with z;exact i9 z)
   simp[h,this]
 have key:(∀t∈ts,t.1=ts[0].1)↔ts[0].1=ts[ts.length-1].1:=by
  constructor
  .intro h;exact(h _ (a8 _)).symm
  .intro h t ht;obtain⟨i,hi,rfl⟩:=cx.mp ht;rcases hl with hl|hl
   .rw[eJ]at hl;rcases kq i with z|z;.subst z;rfl
    .exact(hl 0 i h0 hi z).symm
   .rw[eJ]at hl;rcases kq (ts.length-1) with z|z
    .have:i=0:=by lia
     subst this;rfl
    .have:=hl 0 (ts.length-1) h0 vE z;lia
 rw[zY h0,ku,hV,decide_eq_true_iff];constructor
 .intro h;rw[if_pos];refine key.mp λt ht=>?_;have:=h _ (ar.mpr (aj t ht rfl));rw[hd]at this;exact i7 this
 .intro h x hx;obtain⟨t,ht,rfl⟩:=ar.mp hx;have he:ts[0].1=ts[ts.length-1].1:=by
   by_cases z:ts[0].1=ts[ts.length-1].1;.exact z
   .rw[if_neg z]at h;cases h
  rw[hd];exact aE (key.mpr he t ht)
def Ro:Sp:=λvs H Q _=>∃(t:Addr) (as:List Addr) (ts:List bL),vs=[.ref t]/\H t=some (.tup (as.map V.ref))/\cT H as ts/\0<ts.length/\ts.length<=7/\Gi ts/\∀H',aB H H'->Q (.bl (decide (iQ ts=0))) H'
def N5 (D:aK K mg "is_across" ql ["laying"])(fZ:mg "all"=none):bF P w K mg base "is_across" 1 ["laying"] Ro:=by
 refine D.cY MF (λvs H Q E h=>?_) (λf bD A outer s H vs Q E hr h=>?_)
 .obtain⟨t,as,ts,rfl,_⟩:=h;rfl
 .obtain⟨t,as,ts,rfl,ht,hL,h0,h7,hl,q⟩:=h;have hal:=hL.len;refine(aj _ (aL (aX (bh (kZ rfl) vT fZ k_ (ak (gb (ns:=["row","column","sign"]) rfl (fu.of ["laying"] [] v0) (iG (qv 0)) (λ_ _ _ _ _=>(pJ K rfl (show (["row","column","sign","laying"]:List Str).Nodup by decide +kernel) rfl rfl rfl vT vT vT)) (λ_ _ _ _ _=>cF) (λ_ _ _ _ _=>(gJ jc (qv 0) (bB (nO K) (bB (nO K) (qv 3) aD (λ_ _=>rfl)) aD (λ_ _=>rfl)) (bU _)))) aA)))) ?_);refine(aj _ rfl (aO t rfl ⟨_,aU.of ht⟩ (λN hN=>oA (K:=K) (KT:=K) (a:=t) (f:=eU [] 0) (tt:=gF) (xs:=as.map V.ref) (λn ys H3=>ys=((ts.take n).map λt=>decide (V.int (t.1:Int)=V.int (ts[0].1:Int))).map V.bl/\H3 N=some (.lst ys)/\aB H H3)
   ⟨rfl,au,aB.upd hN⟩ (λn ys H3 _ h=>aU.of (h.2.2 _ _ ht)) ?_ ?_)))
  .rintro n x ys H3 hx ⟨rfl,hN3,sm3⟩;have hn:n<as.length:=by have:=(ai.mp hx).1;simpa using this
   have hnt:n<ts.length:=vE;rw[aw,ae hn]at hx;have hx:V.ref as[n]=x:=ax hx;obtain⟨_,en⟩:=Gj (hL.mv sm3) hnt;obtain⟨g0,e0⟩:=Gj (hL.mv sm3) h0;refine wR hx.symm (aU.of en) ?_;refine(aj _ rfl (aj _ rfl (bK t _ _ (.ref as[0]) rfl rfl (aU.of (sm3 _ _ ht)) (aN (j:=0) (by simp[g0])) (xH (as[0]) _ _ _ rfl rfl (aU.of e0) (aN (j:=0) rfl) rfl hN3 ?_ (dJ.mk (by rw[aa];exact hn) ⟨?_,au,sm3.bG hN⟩)))));.rw[aa,aa,bn];exact aM vE
   .rw[show ts.take (n+1)=ts.take n++(some ts[n]).toList by rw[bz,ae hnt],bv,bv];rfl
  .rintro ys H3 ⟨rfl,hN3,sm3⟩;refine(aR N _ rfl (aQ.of hN3) ?_);rw[aa,hal,cz,Xw hl h0];exact q H3 sm3
def Xx {r w:Nat}{R:AA}{i j wy:Nat}(Xy:wy<=1):Df i j (wy:Int) (lineOf R i j (wy:Int))=[.int (j8 R i j wy).1,.int (j8 R i j wy).2.1,.str (S (j8 R i j wy).2.2.2)]:=by
 unfold Df j8 placeOf;by_cases z:wy=0
 .subst z;have a1:=lE ((lineOf R i j ((0:Nat):Int)).take j);rw[bn]at a1;rw[if_pos rfl];show [V.int (i:Int),V.int ((j:Int)-_),_]=[V.int (i:Int),V.int ((j-_:Nat):Int),_]
  rw[Int.ofNat_sub vE];rfl
 .have:wy=1:=by lia
  subst this;have a1:=lE ((lineOf R i j ((1:Nat):Int)).take i);rw[bn]at a1;rw[if_neg vS];show [V.int ((i:Int)-_),V.int (j:Int),_]=[V.int ((i-_:Nat):Int),V.int (j:Int),_]
  rw[Int.ofNat_sub vE];rfl
def N6 (C:Addr):Sp:=λvs H Q _=>∃(b t:Addr) (as:List Addr) (ts:List bL) (r w:Nat) (ao aF:AA) (bi bj:Nat),vs=[.ref b,.ref t]/\dz C H b r w ao aF bi bj/\H t=some (.tup (as.map V.ref))/\cT H as ts/\(∀t∈ts,inB r w t)/\0<ts.length/\ts.length<=7/\Gi ts/\
 ∀(T:Addr) (bs:List Addr) (H':Hp),aB H H'->H' T=some (.tup (bs.map V.ref))->QL H' bs (g_ ao ts)->Q (.ref T) H'
def Xz (D:aK K mg "formed" xJ ["board","laying"])(bI:mg "len"=none)(bN:mg "tuple"=none)(bO:d_ K C)(tV:Meth K C "laid" f1)(tW:cL P w K mg base fW 8 f1 lG ["self","laying"] (M9 C))(tX:cj K lG ["self","laying"] [])(vf:Meth K C "run" f2)(vg:cL P w K mg base fW 2 f2 fd2 ["self","row","column","way"] (T9 C))(vh:cj K fd2 ["self","row","column","way"] [])(PJ:bF P w K mg base "is_across" 1 ["laying"] Ro):bF P w K mg base "formed" 10 ["board","laying"] (N6 C):=by
 refine D.cY jg (λvs H Q E h=>?_) (λf bD A outer s H vs Q E hr h=>?_)
 .obtain⟨b,t,as,ts,r,w,ao,aF,bi,bj,rfl,_⟩:=h;rfl
 .obtain⟨b,t,as,ts,r,w,ao,aF,bi,bj,rfl,BA,ht,hL,cV,h0,h7,hl,q⟩:=h;obtain⟨dx,_,_,_,ex,_⟩:=id BA.ex;have r9:=BA.ok.r9;have w9:=BA.ok.w9;have hal:=hL.len;have iV:=NT ts;refine(aj _ (aG (aV (i:=2) jg.nd rfl (Or.inl rfl) (lR (qv 0) bO.cl tV tW hr.mono tX .nil gD (ak (qv 1) aA))) (aG (zm (aV (i:=3) jg.nd rfl (Or.inr rfl) (jK (gU (aZ PJ hr.mono rfl (ak (qv 1) aA))) aD aD))) (aG (aV (i:=4) jg.nd rfl (Or.inl rfl) (eY (ak (cO (ak (bB bV (bB bV (qv 1) aD (λ_ _=>rfl)) aD (λ_ _=>rfl)) (ak (bB bV (bB bV (qv 1) aD (λ_ _=>rfl)) aD (λ_ _=>rfl)) (ak (qv 3) aA)))) aA))) (aG (iw (fB dm iN iO qy (qv 4) (ak (gb (ns:=["row","column","sign"]) rfl (fu.of ["board","laying","after","way","asked",".5",".6","words","along","run"] [5,6] v0) (iG (qv 1)) (λ_ _ _ _ _=>(pJ K rfl (show (["row","column","sign","board","laying","after","way","asked",".5",".6","words","along","run"]:List Str).Nodup by decide +kernel) rfl rfl rfl vT vT vT)) (λ_ _ _ _ _=>cF) (λ_ _ _ _ _=>(cO (ak (qv 0) (ak (qv 1) (ak (aP qx aD (qv 6)) aA)))))) aA))) (aG (aV (i:=7) jg.nd rfl (Or.inl rfl) (eY aA)) (aG (fJ c9 rfl (eG (qv 4)) (oh rfl (dj (bY (i:=5) jg.nd rfl (Or.inl rfl)) (dj (bY (i:=6) jg.nd rfl (Or.inl rfl)) (dj (bY (i:=8) jg.nd rfl (Or.inl rfl)) lN)))) (aG (aV (i:=9) jg.nd rfl (Or.inl rfl) (lR (qv 2) bO.cl vf vg hr.mono vh .nil gD (ak (qv 5) (ak (qv 6) (ak (qv 8) aA))))) (aL (d7 (bZ aaJ (bh d9 vT bI ck (ak (bB bV (qv 9) aD (λ_ _=>rfl)) aA)) aD (bU _)) (aL (iw (fB dm fS fT jE (qv 7) (ak (cO (ak (bB bV (qv 9) aD (λ_ _=>rfl)) (ak (bB bV (qv 9) aD (λ_ _=>rfl)) (ak (qv 8) (ak (bB bV (qv 9) aD (λ_ _=>rfl)) aA))))) aA)))) cD)))) (aL (aX (cP dg vT bN cE (ak (qv 7) aA)))))))))) ?_);refine(aj _ rfl (dM b dx _ rfl ex rfl (aj _ rfl ⟨b,t,as,ts,r,w,ao,aF,bi,bj,rfl,BA,ht,hL,cV,λx1 H1 s1 B1=>?_⟩)));have hb':=jU BA.ok.br cV;generalize hR:dD ao ts=R at B1 hb';refine(aj (λσ H'=>aB H1 H'/\σ=[some (.ref b),some (.ref t),some (.ref x1),some (.int (iQ ts)),none,none,none,none,none,none]) ?_ ?_)
  .refine(aj _ rfl (pZ t as ts rfl (s1 _ _ ht) (hL.mv s1) h0 h7 hl (λH2 s2=>(aj _ rfl ?_))));by_cases z:iQ ts=0
   .rw[aE z];refine cB ⟨s2,?_⟩;rw[z];rfl
   .rw[am z];refine cA ⟨s2,?_⟩;rw[show iQ ts=1 by lia];rfl
  rintro σ H2 ⟨s2,rfl⟩;have s12:=s1.trans s2;have hL2:=hL.mv s12;have Nh:=s12 _ _ ht;obtain⟨g0,e0⟩:=Gj hL2 h0;refine(aj _ rfl (bK t _ _ (.ref as[0]) rfl rfl (aU.of Nh) (aN (j:=0) (by simp[g0])) (bK (as[0]) _ _ _ rfl rfl (aU.of e0) (aN (j:=0) rfl) (aj _ rfl (bK t _ _ (.ref as[0]) rfl rfl (aU.of Nh) (aN (j:=0) (by simp[g0])) (bK (as[0]) _ _ _ rfl rfl (aU.of e0) (aN (j:=1) rfl) (aO _ rfl (zsz 3) (λt1 ht1=>⟨zsz 1,λA0 hA0=>?_⟩))))))));have k3:aB H2 (upd H2 t1 (HO.tup [.int ts[0].1,.int ts[0].2.1,.int (iQ ts)])):=aB.upd ht1;have k4:=k3.bG (o:=HO.lst [.ref t1]) (k3.free hA0);have hA0':=k3.free hA0;have n1A:t1≠A0:=λz=>by rw[<-z,au]at hA0;cases hA0
  have e1:upd (upd H2 t1 (HO.tup [.int ts[0].1,.int ts[0].2.1,.int (iQ ts)])) A0 (HO.lst [.ref t1]) t1=some (.tup [.int ts[0].1,.int ts[0].2.1,.int (iQ ts)]):=by rw[bw n1A,au]
  have eA:upd (upd H2 t1 (HO.tup [.int ts[0].1,.int ts[0].2.1,.int (iQ ts)])) A0 (HO.lst [.ref t1]) A0=some (.lst [.ref t1]):=au;generalize upd (upd H2 t1 (HO.tup [.int ts[0].1,.int ts[0].2.1,.int (iQ ts)])) A0 (HO.lst [.ref t1])=H4 at k4 e1 eA ⊢;have Fd:=k4 _ _ Nh;have mz:=hL2.mv k4;have e1l:(1:Int)-(iQ ts:Int)=((1-iQ ts:Nat):Int):=vE;refine(aO _ rfl (.inl ⟨rfl,_,aQ.of eA⟩) (aj _ rfl (aO t rfl ⟨_,aU.of Fd⟩ (λN hN=>oA (K:=K) (KT:=K) (a:=t) (f:=eU [5,6] 0) (tt:=gF) (xs:=as.map V.ref) (λn ys H5=>∃cs:List Addr,ys=cs.map V.ref/\cs.length=n/\H5 N=some (.lst ys)/\aB H4 H5/\AL3 H5 cs ((ts.take n).map λt=>(t.1,t.2.1,1-iQ ts)))
   (cW [] rfl rfl au (aB.upd hN) iM.nil) (λn ys H5 _ h=>by obtain⟨_,_,_,_,sm,_⟩:=h;exact aU.of (sm _ _ Fd)) ?_ ?_))))
  .rintro n x ys H5 hx ⟨cs,rfl,hcl,hN5,Rp,hA5⟩;have hn:n<as.length:=by have:=(ai.mp hx).1;simpa using this
   have hnt:n<ts.length:=vE;rw[aw,ae hn]at hx;have hx:V.ref as[n]=x:=ax hx;obtain⟨_,en⟩:=Gj (mz.mv Rp) hnt;refine wR hx.symm (aU.of en) ?_;refine(aj _ rfl (aj _ rfl (aj _ rfl (aY _ _ rfl rfl (zsz 3) (λg hg=>?_)))));have kg:aB H5 (upd H5 g (HO.tup [.int ts[n].1,.int ts[n].2.1,.int (1-(iQ ts:Int))])):=aB.upd hg;have hNg:=kg _ _ hN5;refine⟨hNg,by rw[aa];exact aM vE,dJ.mk (by rw[aa];exact hn) (cW (cs++[g]) vF (by simp[hcl]) (by rw[au]) ((Rp.trans kg).bG hN) ?_)⟩;rw[show ts.take (n+1)=ts.take n++[ts[n]] by rw[bz,ae hnt];rfl,bv];refine((hA5.mv kg).app (iM.one (x:=(ts[n].1,ts[n].2.1,1-iQ ts)) ?_)).gG (aaf hNg);rw[au,e1l]
  rintro ys H5 ⟨cs,rfl,hcl,hN5,Rp,hA5⟩;rw[aa]at hcl;rw[aa,hal,cz]at hA5;have eA5:=Rp _ _ eA;refine(jN A0 N _ _ rfl rfl eA5 hN5 (by rw[aa,hcl];exact ay (aM (by simp;lia))) ?_);have aag:AL3 (upd H5 A0 (HO.lst ([V.ref t1]++cs.map V.ref))) ([t1]++cs) (j9 ts):=by
   have hone:AL3 H5 [t1] ((ts.take 1).map λt=>(t.1,t.2.1,iQ ts)):=by rw[List.take_one,List.head?_eq_getElem?,ae h0];exact iM.one (x:=(ts[0].1,ts[0].2.1,iQ ts)) (Rp _ _ e1)
   exact(hone.app hA5).gG (aaf eA5)
  have sH6:aB H1 (upd H5 A0 (HO.lst ([V.ref t1]++cs.map V.ref))):=λa o e=>by have:=(k4.trans Rp) _ _ (s2 _ _ e);rw[bw (λz=>by rw[z]at e;have:=s2 _ _ e;rw[hA0']at this;cases this)];exact this
  have eA6:upd H5 A0 (HO.lst ([V.ref t1]++cs.map V.ref)) A0=some (.lst (([t1]++cs).map V.ref)):=by rw[au];simp
  generalize upd H5 A0 (HO.lst ([V.ref t1]++cs.map V.ref))=H6 at aag sH6 eA6 ⊢;have ae3:=aag.len;have hak:(j9 ts).length=1+ts.length:=by unfold j9;rw[av,aa,aa,bn];lia
  have agY:∀n (a:Nat×Nat×Nat),(j9 ts)[n]?=some a->a.1<r/\a.2.1<w/\a.2.2<=1:=λn a ha=>by
   rcases ba.mp (aT ha) with z|z
   .obtain⟨u,hu,rfl⟩:=ar.mp z;have:=cV u (eL hu);exact⟨this.1,this.2.1,iV⟩
   .obtain⟨u,hu,rfl⟩:=ar.mp z;have:=cV u hu;exact⟨this.1,this.2.1,by show 1-iQ ts<=1;lia⟩
  refine⟨zsz 0,λW hW=>?_⟩;have hW0:=sH6.free hW;have nWA:A0≠W:=λz=>by rw[<-z,eA6]at hW;cases hW
  have kW:aB H6 (upd H6 W (HO.lst [])):=aB.upd hW;refine(aj _ rfl (aO A0 rfl ⟨_,aQ.of (kW _ _ eA6)⟩ (jJ (K:=K) (a:=A0) (xs:=([t1]++cs).map V.ref) (λn σ H'=>∃(v6 v7 v8 v9:Option V) (bs:List Addr),σ=[some (.ref b),some (.ref t),some (.ref x1),some (.int (iQ ts)),some (.ref A0),v6,v7,some (.ref W),v8,v9]/\aB H6 H'/\H' W=some (.lst (bs.map V.ref))/\bs.length<=n/\QL H' bs ((((j9 ts).take n).map (qd R)).filter Bu))
   ⟨none,none,none,none,[],rfl,kW,au,ag _,iM.nil⟩ (λn σ H' _ h=>by obtain⟨_,_,_,_,_,_,sm,_⟩:=h;exact aQ.of (sm _ _ eA6)) ?_ ?_)))
  .rintro n x σ H' hx ⟨v6,v7,v8,v9,bs,rfl,sm,hWb,gK,hQ⟩;have hn:n<([t1]++cs).length:=by have:=(ai.mp hx).1;simpa using this
   rw[aw,ae hn]at hx;have hx:V.ref ([t1]++cs)[n]=x:=ax hx;subst hx;obtain⟨a,ea,hat⟩:=(aag.mv sm).get hn;obtain⟨c1,c2,c3⟩:=agY n a ea;have hn9:n<9:=by rw[ae3,hak]at hn;lia
   refine(aY (([t1]++cs)[n]) _ rfl (aU.of hat) rfl ⟨_,_,rfl,_,_,rfl,aR _ _ rfl rfl ?_⟩);have B2:=B1.mv (sH6.trans sm);obtain⟨Xe,_,_,_,ex1,_⟩:=id B2.ex;refine(aj _ rfl (dM x1 Xe _ rfl ex1 rfl (aj _ rfl (aj _ rfl (aj _ rfl ⟨x1,r,w,R,aF,bi,bj,a.1,a.2.1,(a.2.2:Int),rfl,B2,c1,c2,vE,λt2 H7 s7 _ ht7=>?_⟩)))));rw[Xx (r:=r) (w:=w) c3]at ht7;have bW:=NZ hb' r9 w9 c1 (j:=a.2.1) (wy:=a.2.2);have Nu:=aU.of (K:=K) ht7;have aah:=s7 _ _ hWb;refine(aj _ rfl (bK t2 _ _ _ rfl rfl Nu (aN (j:=2) rfl) (aO _ rfl (ay (aM vE)) (aR _ _ rfl rfl (aj _ rfl ?_)))));have aa2:(j9 ts).take (n+1)=(j9 ts).take n++[a]:=by rw[bz,ea];rfl
   by_cases hc:Bu (qd R a)=true
   .have:decide ((2:Int)<=((j8 R a.1 a.2.1 a.2.2).2.2.2.length:Int))=true:=aE (by have:=i7 hc;show (2:Int)<=((qd R a).2.2.2.length:Int);lia);rw[this];refine cB (aO _ rfl (.inl ⟨rfl,_,aQ.of aah⟩) (aj _ rfl (bK t2 _ _ _ rfl rfl Nu (aN (j:=0) rfl) (aj _ rfl (bK t2 _ _ _ rfl rfl Nu (aN (j:=1) rfl) (aj _ rfl (aj _ rfl (jN t2 _ _ _ rfl rfl Nu (aN (j:=2) rfl) (zsz 4) (λg hg=>?_)))))))));have kg:aB H7 (upd H7 g (HO.tup [.int (j8 R a.1 a.2.1 a.2.2).1,.int (j8 R a.1 a.2.1 a.2.2).2.1,.int a.2.2,.str (S (j8 R a.1 a.2.1 a.2.2).2.2.2)])):=aB.upd hg;have hWg:=kg _ _ aah;refine(ig W _ _ rfl rfl hWg (by rw[aa];exact aM vE) ?_);refine⟨_,_,_,_,bs++[g],rfl,((sm.trans s7).trans kg).bG hW,by rw[au];simp,by simp;lia,?_⟩;rw[aa2,bv,eT];have e2:([a].map (qd R)).filter Bu=[qd R a]:=by simp[hc]
    rw[e2];exact(((hQ.mv s7).mv kg).app (iM.one (x:=qd R a) au)).gG (aaf hWg)
   .have:decide ((2:Int)<=((j8 R a.1 a.2.1 a.2.2).2.2.2.length:Int))=false:=am (λz=>hc (aE (by have z:(2:Int)<=((qd R a).2.2.2.length:Int):=z;lia)));rw[this];refine cA ⟨_,_,_,_,bs,rfl,sm.trans s7,aah,vE,?_⟩;rw[aa2,bv,eT];have e2:([a].map (qd R)).filter Bu=[]:=by simp[hc]
    rw[e2,fq];exact hQ.mv s7
  .rintro σ H' ⟨v6,v7,v8,v9,bs,rfl,sm,hWb,gK,hQ⟩;rw[aa,ae3,cz]at hQ;refine(aj _ rfl ⟨W,_,rfl,.inl ⟨aQ.of hWb,λT hT=>?_⟩⟩);have k:aB H' (upd H' T (HO.tup (bs.map V.ref))):=aB.upd hT;refine q T bs _ (((s1.trans sH6).trans sm).trans k) au ?_;unfold g_;rw[hR];exact hQ.mv k
def WD (kvs:List (Key×V)):Prop:=∀kv∈kvs,∃(c:Nat) (i:Int),kv=(bQ [c],V.int i)/\97<=c/\c<=122
def XC {c:Nat×Nat}{cc:List (Nat×Nat)}:Dt.tup [.int c.1,.int c.2]∈cc.map zT↔c∈cc:=Rj
def wf (kvs:List (Key×V))(c:Nat):Int:=match cX kvs (bQ [c]) with| some (.int i)=>i| _=>0
def XD {kvs:List (Key×V)}{k:Key}{v:V}(h:cX kvs k=some v):(k,v)∈kvs:=by
 unfold cX at h;cases e:kvs.find? (λkv=>decide (kv.1=k)) with
 | none=>rw[e]at h;cases h
 | some p=>
  rw[e]at h;have h:p.2=v:=ax h;have m:=uk e;have q:=List.find?_some e;have q:p.1=k:=by simpa using q
  rw[<-h,<-q];exact m
def ae4 (h:WD kvs)(c):(cX kvs (bQ [c])).getD (.int 0)=.int (wf kvs c):=by
 unfold wf;cases e:cX kvs (bQ [c]) with| none=>rfl| some v=>obtain⟨d,i,q,_⟩:=h _ (XD e);have:v=V.int i:=congrArg Prod.snd q;subst this;rfl
def aa3 (h:WD kvs)(hc:¬(97<=c/\c<=122)):wf kvs c=0:=by
 unfold wf;cases e:cX kvs (bQ [c]) with
 | none=>rfl
 | some v=>
  obtain⟨d,i,q,h1,h2⟩:=h _ (XD e);have:bQ [c]=bQ [d]:=congrArg Prod.fst q;have:S [c]=S [d]:=qi this;have:[c]=[d]:=pX this;have:c=d:=by simpa using this
  lia
def Rq:Sp:=λvs H Q _=>∃(d:Addr) (kvs:List (Key×V)) (c:Nat),vs=[.ref d,.str (S [c])]/\Rd H d (.dK kvs)/\WD kvs/\Q (.int (wf kvs c)) H
def PL (D:aK K mg "worth_of" rW ["worths","sign"]):bF P w K mg base "worth_of" 1 ["worths","sign"] Rq:=by
 refine D.cY Pg (λvs H Q E h=>?_) (λf bD A outer s H vs Q E hr h=>?_)
 .obtain⟨d,kvs,c,rfl,_⟩:=h;rfl
 .obtain⟨d,kvs,c,rfl,hd,hW,q⟩:=h;have hu:=wJ hr;refine(aj _ (aL (aX (jK (Cw qD qD (cG [97] v_) (qv 1) (cG [122] v_)) (Zb hu (qv 0) (qv 1) aD ⟨rfl,rfl,rfl,rfl⟩) aD))) ?_);refine(aj _ rfl (aR [97] [c] rfl rfl (aj (decide (97<=c)) (by rw[Hh]) ?_)));by_cases c1:97<=c
  .rw[aE c1];refine cB (aR [c] [122] rfl rfl (aj _ rfl ?_));rw[Hh];by_cases c2:c<=122
   .rw[aE c2];refine cB (aj _ rfl (aO d rfl (.inl ⟨_,hd⟩) (aj _ rfl (aj _ (mD.rd (k:=bQ [c]) hd) ?_))));rw[ae4 hW];exact q
   .rw[am c2];refine cA ?_;have e:=aa3 hW (c:=c) vE;rw[e]at q;exact q
  .rw[am c1];refine cA (aj _ rfl (cA ?_));have e:=aa3 hW (c:=c) vE;rw[e]at q;exact q
def N7:Sp:=λvs H Q _=>∃(a:Addr) (q:j7) (n:Nat),vs=[.ref a,.int n]/\Xv H a q/\q.2.2.1<=1/\
 ∀(t:Addr) (H':Hp),aB H H'->H' t=some (.tup [.int ((q.1+n*q.2.2.1:Nat):Int),.int ((q.2.1+n*(1-q.2.2.1):Nat):Int)])->Q (.ref t) H'
def Uk (D:aK K mg "cell_in" uL ["word","place"]):bF P w K mg base "cell_in" 1 ["word","place"] N7:=by
 refine D.cY Tw (λvs H Q E h=>?_) (λf bD A outer s H vs Q E hr h=>?_)
 .obtain⟨a,q,n,rfl,_⟩:=h;rfl
 .obtain⟨a,⟨i,j,wy,l⟩,n,rfl,ha,Xy,q⟩:=h;have hS:=aU.of (K:=K) ha;refine(aj _ (aL (aX (jK (bZ jc (bB bV (qv 0) aD (λ_ _=>rfl)) aD (bU _)) (cO (ak (bB bV (qv 0) aD (λ_ _=>rfl)) (ak (aP cu (bB bV (qv 0) aD (λ_ _=>rfl)) (qv 1)) aA))) (cO (ak (aP cu (bB bV (qv 0) aD (λ_ _=>rfl)) (qv 1)) (ak (bB bV (qv 0) aD (λ_ _=>rfl)) aA)))))) ?_);refine(aj _ rfl (bK a _ _ _ rfl rfl hS (aN (j:=2) rfl) ?_));by_cases z:wy=0
  .subst z;refine⟨rfl,aj _ rfl (cB (aj _ rfl (bK a _ _ _ rfl rfl hS (aN (j:=0) rfl) (aj _ rfl (bK a _ _ _ rfl rfl hS (aN (j:=1) rfl) (aj _ rfl (aY _ _ rfl rfl (zsz 2) (λt ht=>?_))))))))⟩;refine q t _ (aB.upd ht) ?_;rw[au];simp
  .have z1:wy=1:=by simp only at Xy;lia
   subst z1;refine⟨rfl,aj _ rfl (cA (aj _ rfl (bK a _ _ _ rfl rfl hS (aN (j:=0) rfl) (aj _ rfl (aR _ _ rfl rfl (aj _ rfl (jN a _ _ _ rfl rfl hS (aN (j:=1) rfl) (zsz 2) (λt ht=>?_))))))))⟩;refine q t _ (aB.upd ht) ?_;rw[au];simp
def Cj (c:Nat):Int:=if c=50 then 2 else if c=51 then 3 else if c=52 then 4 else 1
def JW (c:Nat):Int:=if c=98 then 2 else if c=99 then 3 else if c=100 then 4 else 1
def Rr:List (Key×V):=[(bQ [50],.int 2),(bQ [51],.int 3),(bQ [52],.int 4)]
def Rt:List (Key×V):=[(bQ [98],.int 2),(bQ [99],.int 3),(bQ [100],.int 4)]
def Ru (a b):decide (bQ [a]=bQ [b])=decide (a=b):=by
 by_cases h:a=b;.subst h;simp
 .have:¬bQ [a]=bQ [b]:=λz=>h (by have:=pX (qi z);simpa using this)
  rw[am h,am this]
def ae5 (c):(cX Rr (bQ [c])).getD (.int 1)=.int (Cj c):=by
 unfold cX Rr Cj;simp only[ip,Ru];by_cases h1:c=50;.subst h1;rfl
 by_cases h2:c=51;.subst h2;rfl
 by_cases h3:c=52;.subst h3;rfl
 rw[am (λz=>h1 z.symm),am (λz=>h2 z.symm),am (λz=>h3 z.symm),if_neg h1,if_neg h2,if_neg h3];rfl
def ae6 (c):(cX Rt (bQ [c])).getD (.int 1)=.int (JW c):=by
 unfold cX Rt JW;simp only[ip,Ru];by_cases h1:c=98;.subst h1;rfl
 by_cases h2:c=99;.subst h2;rfl
 by_cases h3:c=100;.subst h3;rfl
 rw[am (λz=>h1 z.symm),am (λz=>h2 z.symm),am (λz=>h3 z.symm),if_neg h1,if_neg h2,if_neg h3];rfl
def sx (q:j7)(k:Nat):Nat:=q.1+k*q.2.2.1
def sy (q:j7)(k:Nat):Nat:=q.2.1+k*(1-q.2.2.1)
noncomputable def wB (M:AA)(kvs:List (Key×V))(ts:List bL)(q:j7)(k c:Nat)(p:Int×Int):Int×Int:=if (sx q k,sy q k)∈ts.map cg then (p.1+wf kvs c*Cj (cell M (sx q k) (sy q k)),p.2*JW (cell M (sx q k) (sy q k))) else (p.1+wf kvs c,p.2)
noncomputable def iW (M:AA)(kvs:List (Key×V))(ts:List bL)(q:j7):Nat->Int×Int
 | 0=>(0,1)
 | n+1=>wB M kvs ts q n (q.2.2.2.getD n 0) (iW M kvs ts q n)
def wC (M:AA)(kvs:List (Key×V))(ts:List bL)(q:j7):Int:=(iW M kvs ts q q.2.2.2.length).1*(iW M kvs ts q q.2.2.2.length).2
def ae7 (c):1<=Cj c/\Cj c<=4:=by
 unfold Cj;split;.lia
 split;.lia
 split <;> lia
def ae8 (c):1<=JW c/\JW c<=4:=by
 unfold JW;split;.lia
 split;.lia
 split <;> lia
theorem aai (M)(kvs:List (Key×V))(ts:List bL)(q:j7):∀n,1<=(iW M kvs ts q n).2/\(iW M kvs ts q n).2<=4^n
 | 0=>⟨Int.le_refl _,Int.le_refl _⟩
 | n+1=>by
  obtain⟨h1,h2⟩:=aai M kvs ts q n;show 1<=(wB _ _ _ _ _ _ _).2/\(wB _ _ _ _ _ _ _).2<=4^(n+1);unfold wB;rw[Int.pow_succ];split
  .obtain⟨w1,w2⟩:=ae8 (cell M (sx q n) (sy q n));refine⟨?_,tj h2 w2 vE vE⟩;have:=tj h1 w1 vE vE;simpa using this
  .refine⟨h1,?_⟩;simp only;lia
def agZ (M)(kvs:List (Key×V))(ts:List bL)(q:j7)(hn:n<=20):-(2^64)<(iW M kvs ts q n).2/\(iW M kvs ts q n).2<2^64:=by
 obtain⟨h1,h2⟩:=aai M kvs ts q n;have h3:(4:Int)^n<=4^20:=by
  have:=sk (show 0<4 by decide) hn
  exact_mod_cast this
 have h4:(4:Int)^20=1099511627776:=by decide
 have h5:(2:Int)^64=18446744073709551616:=by decide
 lia
structure XF (r w:Nat)(q:j7):Prop where
 way:q.2.2.1<=1
 len:q.2.2.2.length<=20
 inn:∀k,k<q.2.2.2.length->sx q k<r/\sy q k<w
def N8 (C:Addr):Sp:=λvs H Q _=>∃(b d t a:Addr) (kvs:List (Key×V)) (as:List Addr) (ts:List bL) (q:j7) (r w:Nat) (ao aF:AA) (bi bj:Nat),vs=[.ref b,.ref d,.ref t,.ref a]/\dz C H b r w ao aF bi bj/\Rd H d (.dK kvs)/\WD kvs/\H t=some (.tup (as.map V.ref))/\cT H as ts/\ts.length<=7/\Xv H a q/\XF r w q/\
 ∀H',aB H H'->Q (.int (wC aF kvs ts q)) H'
open Classical in
def XH (D:aK K mg "word_points" m_ ["board","worths","laying","word"])(cJ:mg "enumerate"=none)(bO:d_ K C)(HJ:mg "LETTER_MARKS"=some (.ref gl))(N_:mg "WORD_MARKS"=some (.ref gw))(kl:KDict P w K gl Rr)(kw:KDict P w K gw Rt)(oY:bF P w K mg base "cells_of" 1 ["laying"] (Bq K))(XJ:bF P w K mg base "cell_in" 1 ["word","place"] N7)(Ul:bF P w K mg base "worth_of" 1 ["worths","sign"] Rq):bF P w K mg base "word_points" 2 ["board","worths","laying","word"] (N8 C):=by
 refine D.cY cN (λvs H Q E h=>?_) (λf bD A outer s H vs Q E hr h=>?_)
 .obtain⟨b,d,t,a,kvs,as,ts,q,r,w,ao,aF,bi,bj,rfl,_⟩:=h;rfl
 .obtain⟨b,d,t,a,kvs,as,ts,qq,r,w',ao,aF,bi,bj,rfl,BA,hd,hW,ht,hL,h7,ha,hq,q⟩:=h;obtain⟨⟨dx,pr,pm,pb,hb,hpr,hpm,hpb⟩,B⟩:=BA;refine(aj _ (aG (aV (i:=4) cN.nd rfl (Or.inl rfl) (aZ oY hr.mono rfl (ak (qv 2) aA))) (aG (aV (i:=5) cN.nd rfl (Or.inl rfl) aD) (aG (aV (i:=6) cN.nd rfl (Or.inl rfl) aD) (aG (fJ c9 rfl (Li vT cJ (ak (bB bV (qv 3) aD (λ_ _=>rfl)) aA)) (oh rfl (dj (bY (i:=7) cN.nd rfl (Or.inl rfl)) (dj (bY (i:=8) cN.nd rfl (Or.inl rfl)) lN))) (aG (aV (i:=9) cN.nd rfl (Or.inl rfl) (aZ XJ hr.mono rfl (ak (qv 3) (ak (qv 7) aA)))) (aG (aV (i:=10) cN.nd rfl (Or.inl rfl) (aZ Ul hr.mono rfl (ak (qv 1) (ak (qv 8) aA)))) (aG (zm (d7 (bZ (abH hr.units) (qv 9) (qv 4) rfl) (aG (aV (i:=11) cN.nd rfl (Or.inl rfl) (bB Gx (bB bV (eN (qv 0) rfl) (bB bV (qv 9) aD (λ_ _=>rfl)) (λ_ _=>rfl)) (bB bV (qv 9) aD (λ_ _=>rfl)) (λ_ _=>rfl))) (aG (aV (i:=10) cN.nd rfl (Or.inl rfl) (aP mG (qv 10) (Ln (Ax (v:=.ref _) vT HJ rfl) (qv 11) aD ⟨rfl,rfl,rfl,rfl⟩))) (aL (aV (i:=6) cN.nd rfl (Or.inl rfl) (aP mG (qv 6) (Ln (Ax (v:=.ref _) vT N_ rfl) (qv 11) aD ⟨rfl,rfl,rfl,rfl⟩)))))) cD)) (aL (aV (i:=5) cN.nd rfl (Or.inl rfl) (aP cu (qv 5) (qv 10)))))))) (aL (aX (aP mG (qv 5) (qv 6)))))))) ?_);refine(aj _ rfl (ig t as ts rfl (Or.inr (aU.of ht)) hL vE (λLc cs H1 s1 _ hLc hcs=>?_)));refine(aj _ rfl (bK a _ _ _ rfl rfl (aU.of (s1 _ _ ha)) (aN (j:=3) rfl) (aj _ rfl (VL (l:=qq.2.2.2) (λn σ H2=>∃v7 v8 v9 v10 v11:Option V,σ=[some (.ref b),some (.ref d),some (.ref t),some (.ref a),some (.ref Lc),some (.int (iW aF kvs ts qq n).1),some (.int (iW aF kvs ts qq n).2),v7,v8,v9,v10,v11]/\aB H1 H2)
   ⟨none,none,none,none,none,rfl,aB.refl _⟩ ?_ ?_))))
  .rintro n c σ H2 T hc ⟨v7,v8,v9,v10,v11,rfl,s2⟩ hT;have hn:n<qq.2.2.2.length:=(ai.mp hc).1;obtain⟨hx,hy⟩:=hq.inn n hn;have kT:aB H2 (upd H2 T (HO.tup [.int n,.str (S [c])])):=aB.upd hT;refine(aY T _ rfl (aU.of au) rfl ⟨_,_,rfl,aR _ _ rfl rfl ?_⟩);have s3:=(s1.trans s2).trans kT;have Gk:=s2.trans kT;generalize upd H2 T (HO.tup [.int n,.str (S [c])])=H3 at kT s3 Gk ⊢;refine(aj _ rfl (aj _ rfl (dM a qq n rfl (s3 _ _ ha) hq.way (λg H4 s4 hg=>?_))));have Rv:=s3.trans s4;refine(aj _ rfl (aj _ rfl (dM d kvs c rfl (hd.mv Rv) hW ?_)));have gi:sx qq n<aF.length:=by rw[B.bm.len];exact hx
   have hwi:aF[sx qq n].length=w':=B.bm.jr _ (a8 _);have gj:sy qq n<aF[sx qq n].length:=by rw[hwi];exact hy
   have hmr:aF.getD (sx qq n) []=aF[sx qq n]:=by rw[al,ae gi];rfl
   have w9:=B.w9;have hgd:qq.2.2.2.getD n 0=c:=by rw[al,hc];rfl
   have hstep:iW aF kvs ts qq (n+1)=wB aF kvs ts qq n c (iW aF kvs ts qq n):=by rw[<-hgd];rfl
   have hg:H4 g=some (.tup [.int (sx qq n:Nat),.int (sy qq n:Nat)]):=hg;refine⟨λσ H'=>∃(wv:Int) (u11:Option V),σ=[some (.ref b),some (.ref d),some (.ref t),some (.ref a),some (.ref Lc),some (.int (iW aF kvs ts qq n).1),some (.int (iW aF kvs ts qq (n+1)).2),some (.int n),some (.str (S [c])),some (.ref g),some (.int wv),u11]/\aB H1 H'/\(iW aF kvs ts qq n).1+wv=(iW aF kvs ts qq (n+1)).1,?_,?_⟩
   .have ag0:=hcs.mv (Gk.trans s4);refine(aj _ rfl (aj _ rfl (dM 2 (.tup [.int (sx qq n:Nat),.int (sy qq n:Nat)]) ((ts.map cg).map zT) vS (.tup (aU.of hg) (.cons (.int _) (.cons (.int _) .nil))) (ag0.has ((Gk.trans s4) _ _ hLc)) ?_)));simp only[bd,if_false];by_cases hm:(sx qq n,sy qq n)∈ts.map cg
    .rw[aE (XC (c:=(sx qq n,sy qq n)).mpr hm)];refine(aj _ rfl (cB (aj _ rfl (iT b C dx _ _ rfl (Rv _ _ hb) bO.cl bO.nm rfl (aj _ rfl (bK g _ _ _ rfl rfl (aU.of hg) (aN (j:=0) rfl) (bK pm _ _ (.str (S (aF.getD (sx qq n) []))) rfl rfl (aU.of (Rv _ _ hpm)) (aN ?_) (aj _ rfl (bK g _ _ _ rfl rfl (aU.of hg) (aN (j:=1) rfl) ?_)))))))));.rw[hmr];exact qp (ae gi)
     generalize hmm:cell aF (sx qq n) (sy qq n)=m;refine(ig _ _ m rfl rfl (ay (aM (by rw[hmr,hwi];lia))) (aN (by rw[<-hmm,hmr,cell_eq gi gj];exact ae gj)) ?_);obtain⟨l1,l2⟩:=ae7 m;obtain⟨w1,w2⟩:=ae8 m;have e:iW aF kvs ts qq (n+1)=((iW aF kvs ts qq n).1+wf kvs c*Cj m,(iW aF kvs ts qq n).2*JW m):=by rw[hstep];unfold wB;rw[if_pos hm,hmm]
     refine(aj _ rfl (aR gl Rr rfl kl (aj _ rfl (aj (bQ [m]) rfl (aY _ (Cj m) rfl (ae5 m) (.inr ⟨vE,vE⟩) ?_)))));refine(aj _ rfl (aR gw Rt rfl kw (aj _ rfl (aj (bQ [m]) rfl (aY _ (JW m) rfl (ae6 m) (.inr ⟨vE,vE⟩) ?_)))));refine(aR (wf kvs c*Cj m) (some (.str (S [m]))) ?_ (Gk.trans s4) ?_);.rw[e];rfl
     .rw[e]
    .rw[am (λz=>hm (XC (c:=(sx qq n,sy qq n)).mp z))];have e:iW aF kvs ts qq (n+1)=((iW aF kvs ts qq n).1+wf kvs c,(iW aF kvs ts qq n).2):=by rw[hstep];unfold wB;rw[if_neg hm]
     refine(aj _ rfl (cA (aR (wf kvs c) v11 ?_ (Gk.trans s4) ?_)));.rw[e];rfl
     .rw[e]
   .rintro σ H' ⟨wv,u11,rfl,s5,ew⟩;refine(aj _ rfl (aj _ rfl (aR _ _ rfl rfl ?_)));exact⟨_,_,_,_,_,by rw[<-ew];rfl,s5⟩
  .rintro σ H2 ⟨v7,v8,v9,v10,v11,rfl,s2⟩;refine(aj _ rfl (aj _ rfl (aR _ _ rfl rfl ?_)));exact⟨.inr (agZ _ _ _ _ hq.len),q _ (s1.trans s2)⟩
def Rw {r w:Nat}{R:AA}(hb:Blk r w R)(r9:r<=9)(w9:w<=9){i j wy:Nat}(hi:i<r)(hj:j<w)(Xy:wy<=1):XF r w (j8 R i j wy):=by
 refine⟨Xy,NZ hb r9 w9 hi,λk hk=>?_⟩;have hll:=oO hb hi (j:=j) (way:=(wy:Int));have hk:k<(cQ ((lineOf R i j (wy:Int)).take (placeOf i j (wy:Int)))++dW ((lineOf R i j (wy:Int)).drop (placeOf i j (wy:Int)))).length:=hk;rw[av]at hk;have a1:=lE ((lineOf R i j (wy:Int)).take (placeOf i j (wy:Int)));have a2:=qI ((lineOf R i j (wy:Int)).drop (placeOf i j (wy:Int)));rw[bn]at a1;rw[dP]at a2;unfold sx sy;by_cases z:wy=0
 .subst z;have ep:placeOf i j ((0:Nat):Int)=j:=if_pos rfl;rw[ep]at hk a1 a2;have hll:(lineOf R i j ((0:Nat):Int)).length=w:=by rw[hll];exact if_pos rfl
  rw[hll]at a1 a2;show i+k*0<r/\(j-(cQ ((lineOf R i j ((0:Nat):Int)).take j)).length)+k*(1-0)<w;lia
 .have z1:wy=1:=vE;subst z1;have ep:placeOf i j ((1:Nat):Int)=i:=if_neg vS;rw[ep]at hk a1 a2;have hll:(lineOf R i j ((1:Nat):Int)).length=r:=by rw[hll];exact if_neg vS
  rw[hll]at a1 a2;show (i-(cQ ((lineOf R i j ((1:Nat):Int)).take i)).length)+k*1<r/\j+k*(1-1)<w;lia
def Dq {r w:Nat}{ao:AA}(hb:Blk r w ao)(r9:r<=9)(w9:w<=9)(cV:∀t∈ts,inB r w t)(h:q∈g_ ao ts):XF r w q:=by
 unfold g_ at h;obtain⟨a,ha,rfl⟩:=ar.mp (n9.mp h).1;have hb':=jU hb cV;have iV:=NT ts;rcases ba.mp ha with z|z
 .obtain⟨u,hu,rfl⟩:=ar.mp z;obtain⟨h1,h2,_⟩:=cV u (eL hu);exact Rw hb' r9 w9 h1 h2 iV
 .obtain⟨u,hu,rfl⟩:=ar.mp z;obtain⟨h1,h2,_⟩:=cV u hu;exact Rw hb' r9 w9 h1 h2 (show 1-iQ ts<=1 by lia)
def ae9 (c):wf (putK kvs (bQ [c0]) (.int i)) c=if c=c0 then i else wf kvs c:=by
 unfold wf;rw[K5];by_cases h:c=c0;.rw[if_pos h,if_pos (by rw[h])]
 .rw[if_neg h,if_neg (λz=>h (by have:=pX (qi z);simpa using this))]
def WD.put (h:WD kvs)(i)(h1:97<=c)(h2:c<=122):WD (putK kvs (bQ [c]) (.int i)):=by
 unfold putK;intro kv m;split at m
 .obtain⟨p,hp,rfl⟩:=ar.mp m;split
  .rename_i e;exact⟨c,i,by rw[e],h1,h2⟩
  .exact h p hp
 .rcases ba.mp m with m|m;.exact h kv m
  .rw[ap.mp m];exact⟨c,i,rfl,h1,h2⟩
def WB (b:Int)(kvs:List (Key×V)):Prop:=∀c,0<=wf kvs c/\wf kvs c<=b
def WB.put (h:WB b kvs)(h1:0<=i)(h2:i<=b):WB b (putK kvs (bQ [c]) (.int i)):=λe=>by
 rw[ae9];split;.exact⟨h1,h2⟩
 .exact h e
def Um {ts:List bL}(h:ts.length<=7):(g_ ao ts).length<=100:=by refine a9 (ik _ _) ?_;rw[aa];unfold j9;rw[av,aa,aa,bn];lia
def Rx:Sp:=λvs H Q _=>∃(pb t:Addr) (as:List Addr) (n m:Int),vs=[.ref pb,.ref t]/\H pb=some (.tup [.int n,.int m])/\H t=some (.tup (as.map V.ref))/\Q (.int (if n<=(as.length:Int) then m else 0)) H
def PN (D:aK K mg "bonus_of" rY ["bonus","laying"])(bI:mg "len"=none):bF P w K mg base "bonus_of" 1 ["bonus","laying"] Rx:=by
 refine D.cY Ph (λvs H Q E h=>?_) (λf bD A outer s H vs Q E hr h=>?_)
 .obtain⟨pb,t,as,n,m,rfl,_⟩:=h;rfl
 .obtain⟨pb,t,as,n,m,rfl,hpb,ht,q⟩:=h;refine⟨_,(aL (aX (jK (bZ aaJ (bh dh vT bI ck (ak (qv 1) aA)) (bB bV (qv 0) aD (λ_ _=>rfl)) (bU _)) (bB bV (qv 0) aD (λ_ _=>rfl)) aD))),?_⟩;refine⟨_,rfl,t,_,rfl,.inr (aU.of ht),_,rfl,pb,_,_,_,rfl,rfl,aU.of hpb,aN (j:=0) rfl,_,_,rfl,rfl,_,rfl,?_⟩;rw[aa];by_cases c:n<=(as.length:Int)
  .rw[if_pos c]at q;rw[aE c];exact cB ⟨_,rfl,pb,_,_,_,rfl,rfl,aU.of hpb,aN (j:=1) rfl,q⟩
  .rw[if_neg c]at q;rw[am c];exact cA q
theorem ae_ (hB:WB 1000000 kvs):∀n,0<=(iW M kvs ts q n).1/\(iW M kvs ts q n).1<=4000000*(n:Int)
 | 0=>⟨Int.le_refl _,by show (0:Int)<=4000000*0;decide⟩
 | n+1=>by
  obtain⟨h1,h2⟩:=ae_ (M:=M) (ts:=ts) (q:=q) hB n;obtain⟨b1,b2⟩:=hB (q.2.2.2.getD n 0);show 0<=(wB _ _ _ _ _ _ _).1/\(wB _ _ _ _ _ _ _).1<=4000000*((n+1:Nat):Int)
  unfold wB;split
  .obtain⟨w1,w2⟩:=ae7 (cell M (sx q n) (sy q n));have m1:=Int.mul_nonneg b1 (show 0<=Cj (cell M (sx q n) (sy q n)) by lia);have m2:=tj b2 w2 vE vS;simp only;lia
  .simp only;lia
def ag1 {M:AA}{r w:Nat}(hB:WB 1000000 kvs)(hq:XF r w q)(r9:r<=9)(w9:w<=9):-1000000000000000<=wC M kvs ts q/\wC M kvs ts q<=1000000000000000:=by
 have hl:q.2.2.2.length<=9:=by
  rcases kq q.2.2.2.length with z|z;.lia
  have h:=hq.inn (q.2.2.2.length-1) vE;have hw:=hq.way;unfold sx sy at h;by_cases c:q.2.2.1=0;.rw[c]at h;lia
  .rw[show q.2.2.1=1 by lia]at h;lia
 unfold wC;obtain⟨h1,h2⟩:=ae_ (M:=M) (ts:=ts) (q:=q) hB q.2.2.2.length;obtain⟨h3,h4⟩:=aai M kvs ts q q.2.2.2.length;have h5:(4:Int)^q.2.2.2.length<=4^9:=by
  have:=sk (show 0<4 by decide) hl
  exact_mod_cast this
 have h6:(4:Int)^9=262144:=by decide
 rw[h6]at h5;have h7:=Int.mul_nonneg h1 (show 0<=(iW M kvs ts q q.2.2.2.length).2 by lia);have h8:=tj (show (iW M kvs ts q q.2.2.2.length).1<=36000000 by lia) (show (iW M kvs ts q q.2.2.2.length).2<=262144 by lia) vE vS;lia
noncomputable def Uo (ao aF:AA)(kvs:List (Key×V))(ts:List bL)(n m:Int):Int:=((g_ ao ts).map (wC aF kvs ts)).sum+if n<=(ts.length:Int) then m else 0
def aa4 (C:Addr):Sp:=λvs H Q _=>∃(b d pb t:Addr) (kvs:List (Key×V)) (n m:Int) (as:List Addr) (ts:List bL) (r w:Nat) (ao aF:AA) (bi bj:Nat),vs=[.ref b,.ref d,.ref pb,.ref t]/\dz C H b r w ao aF bi bj/\Rd H d (.dK kvs)/\WD kvs/\WB 1000000 kvs/\H pb=some (.tup [.int n,.int m])/\H t=some (.tup (as.map V.ref))/\cT H as ts/\(∀t∈ts,inB r w t)/\0<ts.length/\ts.length<=7/\Gi ts/\
 ∀H',aB H H'->Q (.int (Uo ao aF kvs ts n m)) H'
def Oa (D:aK K mg "points_of" qm ["board","worths","bonus","laying"])(Gm:mg "sum"=none)(aaj:bF P w K mg base "formed" 10 ["board","laying"] (N6 C))(Kh:bF P w K mg base "word_points" 2 ["board","worths","laying","word"] (N8 C))(Uq:bF P w K mg base "bonus_of" 1 ["bonus","laying"] Rx):bF P w K mg base "points_of" 11 ["board","worths","bonus","laying"] (aa4 C):=by
 refine D.cY zP (λvs H Q E h=>?_) (λf bD A outer s H vs Q E hr h=>?_)
 .obtain⟨b,d,pb,t,kvs,n,m,as,ts,r,w,ao,aF,bi,bj,rfl,_⟩:=h;rfl
 .obtain⟨b,d,pb,t,kvs,n,m,as,ts,r,w,ao,aF,bi,bj,rfl,BA,hd,hW,hB,hpb,ht,hL,cV,h0,h7,hl1,q⟩:=h;refine⟨_,(aG (GF (ix:=4) (ns:=["word"]) zP.nd rfl (Or.inl rfl) rfl (fu.of ["board","worths","bonus","laying","counted"] [] v0) (iG (aZ aaj hr.mono rfl (ak (qv 0) (ak (qv 3) aA)))) (λ_ _ _ _ _=>(pH (show (["word","board","worths","bonus","laying","counted"]:List Str).Nodup by decide +kernel) rfl vT)) (λ_ _ _ _ _=>cF) (λ_ _ _ _ _=>(aZ Kh hr.mono rfl (ak (qv 1) (ak (qv 2) (ak (qv 4) (ak (qv 0) aA))))))) (aL (aX (aP cu (bh (V1 rfl) vT Gm PyProof.Rows.boot_sum (ak (qv 4) aA)) (aZ Uq hr.mono rfl (ak (qv 2) (ak (qv 3) aA))))))),?_⟩;refine⟨_,rfl,_,rfl,b,t,as,ts,r,w,ao,aF,bi,bj,rfl,BA,ht,hL,cV,h0,h7,hl1,λT bs H1 s1 hT hQ=>?_⟩;have hql:=Um (ao:=ao) h7;have gK:bs.length=(g_ ao ts).length:=hQ.len;refine⟨T,rfl,⟨_,aU.of hT⟩,λM hM=>wQ (K:=K) (a:=T) (f:=eU [] 0) (tt:=gF) (xs:=bs.map V.ref) (λi ys H2=>ys=((g_ ao ts).take i).map (λq=>V.int (wC aF kvs ts q))/\H2 M=some (.lst ys)/\aB H1 H2)
   ⟨rfl,au,aB.upd hM⟩ (λi ys H2 _ h=>aU.of (h.2.2 _ _ hT)) ?_ ?_⟩
  .rintro i x ys H2 hx ⟨rfl,qK,s2⟩;have hi:i<bs.length:=by have:=(ai.mp hx).1;simpa using this
   have hiw:i<(g_ ao ts).length:=vE;rw[aw,ae hi]at hx;have hx:V.ref bs[i]=x:=ax hx;subst hx;obtain⟨qq,eq,hat⟩:=(hQ.mv s2).get hi;have hB2:=BA.1;obtain⟨_,Bd⟩:=id BA;have hqi:=Dq Bd.br Bd.r9 Bd.w9 cV (aT eq);have s12:=s1.trans s2;refine Kq ⟨_,rfl,_,rfl,_,rfl,_,rfl,b,d,t,bs[i],kvs,as,ts,qq,r,w,ao,aF,bi,bj,rfl,BA.mv s12,hd.mv s12,hW,s12 _ _ ht,hL.mv s12,h7,hat,hqi,λH3 s3=>?_⟩;refine⟨s3 _ _ qK,by rw[aa,bn];exact aM vE,dJ.mk (by rw[aa];exact hi) ⟨?_,au,(s2.trans s3).bG hM⟩⟩;rw[bz,eq,bv];rfl
  .rintro ys H2 ⟨rfl,qK,s2⟩;rw[aa,gK,cz]at qK;obtain⟨_,Bd⟩:=id BA;have s12:=s1.trans s2;have ag2:H2 M=some (.lst (((g_ ao ts).map (wC aF kvs ts)).map V.int)):=by rw[b6];exact qK
   refine⟨_,rfl,M,(g_ ao ts).map (wC aF kvs ts),rfl,aQ.of ag2,by rw[aa];lia,λx hx=>?_,_,rfl,_,rfl,pb,t,as,n,m,rfl,s12 _ _ hpb,s12 _ _ ht,_,_,rfl,rfl,?_⟩
   .obtain⟨qq,hq,rfl⟩:=ar.mp hx;exact ag1 hB (Dq Bd.br Bd.r9 Bd.w9 cV hq) Bd.r9 Bd.w9
   .rw[hL.len];exact q H2 s12
def Ry {r w:Nat}{A B:AA}(ha:Blk r w A)(hb:Blk r w B)(h:∀i j,i<r->j<w->cell A i j=cell B i j):A=B:=by
 apply nL;.rw[ha.len,hb.len]
 .intro i h1 h2;have wa:=ha.jr A[i] (a8 _);have wb:=hb.jr B[i] (a8 _);have hr:i<r:=by rw[<-ha.len];exact h1
  apply nL;.rw[wa,wb]
  .intro j h3 h4;have:=h i j hr vE;rw[cell_eq h1 h3,cell_eq h2 h4]at this;exact this
def set_same {r w:Nat}{R:AA}(hb:Blk r w R){i j z:Nat}(hi:i<r)(hj:j<w):cell (setAt R i j z) i j=z:=by
 have hi':i<R.length:=by rw[hb.len];exact hi
 have hw:(R.getD i []).length=w:=by rw[al,ae hi'];exact hb.jr _ (a8 _)
 unfold cell setAt;rw[al (l:=R.set _ _),gV hi'];show ((R.getD i []).set j z).getD j 0=z;rw[al,gV (by rw[hw];exact hj)];rfl
def XM (h:¬(i=i'/\j=j')):cell (setAt R i j z) i' j'=cell R i' j':=by
 unfold cell setAt;by_cases e:i=i'
 .subst e;have ne:j≠j':=λy=>h ⟨rfl,y⟩;rw[al (l:=R.set _ _)];by_cases hi:i<R.length
  .rw[gV hi];show ((R.getD i []).set j z).getD j' 0=_;rw[al,kN ne,<-al]
  .rw[List.set_eq_of_length_le vE,<-al]
 .rw[al (l:=R.set _ _),kN e,<-al]
theorem su:∀{ts:List bL} {R:AA},(∀t∈ts,¬(t.1=i/\t.2.1=j))->cell (dD R ts) i j=cell R i j
 | [],_,_=>rfl
 | t::ts,R,h=>(su (ts:=ts) λx hx=>h x (aI _ hx)).trans (XM (h t a6))
theorem HN {r w:Nat}:∀{ts:List bL} {R:AA} {t:bL},Blk r w R->(∀t∈ts,inB r w t)->ts.Pairwise (λa b=>¬(a.1=b.1/\a.2.1=b.2.1))->t∈ts->cell (dD R ts) t.1 t.2.1=t.2.2
 | u::ts,R,t,hb,cV,pw,hm=>by
  obtain⟨p1,p2⟩:=gx.mp pw;have hu:=cV u a6;rcases bb.mp hm with z|z
  .subst z;exact(su λx hx y=>p1 x hx ⟨y.1.symm,y.2.symm⟩).trans (set_same hb hu.1 hu.2.1)
  .exact HN (ts:=ts) (R:=setAt R u.1 u.2.1 u.2.2) (Hs hb hu.1) (λx hx=>cV x (aI _ hx)) p2 z
def Rz {ts:List bL}(pw:(ts.map rk).Pairwise (·<·)):ts.Pairwise (λa b=>¬(a.1=b.1/\a.2.1=b.2.1)):=by rw[df]at pw;refine pw.imp λ{a b} h z=>?_;unfold rk at h;lia
def XQ {r w:Nat}{ao:AA}{ts ts':List bL}(hb:Blk r w ao)(cV:∀t∈ts,inB r w t)(pw:(ts.map rk).Pairwise (·<·))(pm:ts'.Perm (ts.map sw))(pw':(ts'.map rk).Pairwise (·<·)):bx (dD ao ts) w=dD (bx ao w) ts':=by
 have afa:∀t∈ts',inB w r t:=λt ht=>by obtain⟨u,hu,e⟩:=ar.mp (pm.mem_iff.mp ht);have:=cV u hu;rw[<-e];exact⟨this.2.1,this.1,this.2.2⟩
 refine Ry (jo (jU hb cV)) (jU (jo hb) afa) λj i hj hi=>?_;rw[nR (jU hb cV) hi hj];by_cases h:∃t∈ts,t.1=i/\t.2.1=j
 .obtain⟨t,ht,e1,e2⟩:=h;have h1:=HN hb cV (Rz pw) ht;have hm:sw t∈ts':=pm.mem_iff.mpr (cy ht);have h2:=HN (jo hb) afa (Rz pw') hm;rw[e1,e2]at h1;have h2':cell (dD (bx ao w) ts') t.2.1 t.1=t.2.2:=h2;rw[e1,e2]at h2';rw[h1,h2']
 .have n1:∀t∈ts,¬(t.1=i/\t.2.1=j):=λt ht z=>h ⟨t,ht,z⟩
  have n2:∀t∈ts',¬(t.1=j/\t.2.1=i):=λt ht z=>by obtain⟨u,hu,e⟩:=ar.mp (pm.mem_iff.mp ht);rw[<-e]at z;exact n1 u hu ⟨z.2,z.1⟩
  rw[su n1,su n2,nR hb hi hj]
def Ur {r w:Nat}{ao:AA}(hb:Blk r w ao){i j:Nat}(hi:i<r):lineOf (bx ao w) j i 1=lineOf ao i j 0:=by
 unfold lineOf;rw[if_neg vS,if_pos rfl];have e:=JD hb;have:(bx (bx ao w) r).getD i []=jT (bx ao w) i:=by unfold bx;rw[al,aw,gd hi];rfl
 rw[<-this,e]
def Us {w:Nat}{ao:AA}{i j:Nat}(hj:j<w):lineOf (bx ao w) j i 0=lineOf ao i j 1:=by unfold lineOf;rw[if_pos rfl,if_neg vS];unfold bx;rw[al,aw,gd hj];rfl
def Bv (h:mj ts):(ts.map rk).Pairwise (·<·):=by
 rw[df];rcases h with⟨i,h1,h2⟩|⟨j,h1,h2⟩
 .exact h2.imp_of_mem λ{a b} ha hb hl=>by unfold rk;have:=h1 a ha;have:=h1 b hb;lia
 .exact h2.imp_of_mem λ{a b} ha hb hl=>by unfold rk;have:=h1 a ha;have:=h1 b hb;lia
def mj.turn (h:mj ts):mj (ts.map sw):=by
 rcases h with⟨i,h1,h2⟩|⟨j,h1,h2⟩
 .refine .inr ⟨i,λt ht=>?_,by rw[df];exact h2⟩;obtain⟨u,hu,rfl⟩:=ar.mp ht;exact h1 u hu
 .refine .inl ⟨j,λt ht=>?_,by rw[df];exact h2⟩;obtain⟨u,hu,rfl⟩:=ar.mp ht;exact h1 u hu
def swA (a:Nat×Nat×Nat):Nat×Nat×Nat:=(a.2.1,a.1,1-a.2.2)
def wD (q:j7):j7:=(q.2.1,q.1,1-q.2.2.1,q.2.2.2)
def XR {r w:Nat}{R:AA}(hb:Blk r w R){i j wy:Nat}(hi:i<r)(hj:j<w)(Xy:wy<=1):j8 (bx R w) j i (1-wy)=wD (j8 R i j wy):=by
 rcases(show wy=0\/wy=1 by lia) with z|z
 .subst z;have e:lineOf (bx R w) j i ((1:Nat):Int)=lineOf R i j ((0:Nat):Int):=Ur hb hi;show j8 (bx R w) j i 1=_;unfold j8 wD;rw[e];rfl
 .subst z;have e:lineOf (bx R w) j i ((0:Nat):Int)=lineOf R i j ((1:Nat):Int):=Us hj;show j8 (bx R w) j i 0=_;unfold j8 wD;rw[e];rfl
def aak (h:mj ts)(h2:2<=ts.length):iQ (ts.map sw)=1-iQ ts:=by
 have h0:0<ts.length:=vE;have h0':0<(ts.map sw).length:=by rw[aa];exact h0
 rw[zY h0,zY h0'];have e1:(ts.map sw)[0].1=ts[0].2.1:=by rw[nN];rfl
 have e2:(ts.map sw)[(ts.map sw).length-1].1=ts[ts.length-1].2.1:=by rw[nN];simp only[aa];rfl
 rw[e1,e2];rcases h with⟨i,a1,a2⟩|⟨j,a1,a2⟩
 .have p:=(eJ.mp a2) 0 (ts.length-1) h0 vE vE;rw[if_neg vE,if_pos (by rw[a1 _ (a8 _),a1 _ (a8 _)])]
 .have p:=(eJ.mp a2) 0 (ts.length-1) h0 vE vE;rw[if_pos (by rw[a1 _ (a8 _),a1 _ (a8 _)]),if_neg vE]
def aal (h:mj ts)(h0:0<ts.length):(j9 (ts.map sw)).Perm ((j9 ts).map swA):=by
 by_cases c:2<=ts.length
 .have e:j9 (ts.map sw)=(j9 ts).map swA:=by
   unfold j9;rw[aak h c,bv,<-List.map_take,b6,b6,b6,b6];rfl
  rw[e]
 .obtain⟨t,rfl⟩:∃t,ts=[t]:=by
   match ts,h0,c with| [t],_,_=>exact⟨t,rfl⟩| _::_::_,_,c=>exact absurd vF c
  have l1:iQ [t]=0:=if_pos rfl;have l2:iQ ([t].map sw)=0:=if_pos rfl;unfold j9;rw[l1,l2];exact List.Perm.swap _ _ _
def afb {r w:Nat}(cV:∀t∈ts,inB r w t){a:Nat×Nat×Nat}(h:a∈j9 ts):a.1<r/\a.2.1<w/\a.2.2<=1:=by
 have iV:=NT ts;rcases ba.mp h with z|z
 .obtain⟨u,hu,rfl⟩:=ar.mp z;obtain⟨h1,h2,_⟩:=cV u (eL hu);exact⟨h1,h2,iV⟩
 .obtain⟨u,hu,rfl⟩:=ar.mp z;obtain⟨h1,h2,_⟩:=cV u hu;exact⟨h1,h2,show 1-iQ ts<=1 by lia⟩
def Ut {r w:Nat}{ao:AA}(hb:Blk r w ao)(cV:∀t∈ts,inB r w t)(h:mj ts)(h0:0<ts.length):(g_ (bx ao w) (ts.map sw)).Perm ((g_ ao ts).map wD):=by
 unfold g_;rw[<-XQ hb cV (Bv h) (s_ _) (Bv h.turn)];have hb':=jU hb cV;generalize dD ao ts=R at hb';have p:=((aal h h0).map (qd (bx R w))).filter Bu;refine p.trans ?_;have e:((j9 ts).map swA).map (qd (bx R w))=((j9 ts).map (qd R)).map wD:=by rw[b6,b6];refine eI λa ha=>?_;obtain⟨a1,a2,a3⟩:=afb cV ha;exact XR hb' a1 a2 a3
 rw[e,List.filter_map];exact s_ _
def acA {r w:Nat}{M:AA}{ts:List bL}(hb:Blk r w M)(hq:XF r w q):wC (bx M w) kvs (ts.map sw) (wD q)=wC M kvs ts q:=by
 have hw:=hq.way;have key:∀n,n<=q.2.2.2.length->iW (bx M w) kvs (ts.map sw) (wD q) n=iW M kvs ts q n:=by
  intro n
  induction n with
  | zero=>intro _;rfl
  | succ n ih=>
   intro hn;show wB (bx M w) kvs (ts.map sw) (wD q) n (q.2.2.2.getD n 0) (iW (bx M w) kvs (ts.map sw) (wD q) n)=wB M kvs ts q n (q.2.2.2.getD n 0) (iW M kvs ts q n);rw[ih vE];obtain⟨h1,h2⟩:=hq.inn n vE;have ex:sx (wD q) n=sy q n:=rfl;have ey:sy (wD q) n=sx q n:=by show q.1+n*(1-(1-q.2.2.1))=q.1+n*q.2.2.1;rw[show 1-(1-q.2.2.1)=q.2.2.1 by lia]
   unfold wB;rw[ex,ey,nR hb h1 h2];have ec:((sy q n,sx q n)∈(ts.map sw).map cg)↔((sx q n,sy q n)∈ts.map cg):=by
    constructor
    .intro z;obtain⟨u,hu,e⟩:=ar.mp z;obtain⟨v,hv,rfl⟩:=ar.mp hu;have e1:v.2.1=sy q n:=congrArg Prod.fst e;have e2:v.1=sx q n:=congrArg Prod.snd e;exact ar.mpr ⟨v,hv,by unfold cg;rw[e1,e2]⟩
    .intro z;obtain⟨v,hv,e⟩:=ar.mp z;have e1:v.1=sx q n:=congrArg Prod.fst e;have e2:v.2.1=sy q n:=congrArg Prod.snd e;exact ar.mpr ⟨sw v,cy hv,by unfold cg sw;rw[e1,e2]⟩
   by_cases z:(sx q n,sy q n)∈ts.map cg;.rw[if_pos z,if_pos (ec.mpr z)]
   .rw[if_neg z,if_neg (λy=>z (ec.mp y))]
 unfold wC;have hl:(wD q).2.2.2.length=q.2.2.2.length:=rfl;rw[hl,key _ (ag _)]
def aam {a b:List Int}(h:a.Perm b):a.sum=b.sum:=by
 induction h with| nil=>rfl| cons x _ ih=>rw[gE,gE,ih]| swap x y l=>rw[gE,gE,gE,gE];lia| trans _ _ i1 i2=>exact i1.trans i2
def aan {r w:Nat}{ao aF:AA}{n m:Int}(hb:Blk r w ao)(hm:Blk r w aF)(r9:r<=9)(w9:w<=9)(cV:∀t∈ts,inB r w t)(h:mj ts)(h0:0<ts.length):Uo (bx ao w) (bx aF w) kvs (ts.map sw) n m=Uo ao aF kvs ts n m:=by unfold Uo;rw[aa,aam ((Ut hb cV h h0).map _),b6];have e:(g_ ao ts).map (wC (bx aF w) kvs (ts.map sw) ∘ wD)=(g_ ao ts).map (wC aF kvs ts):=eI λq hq=>acA hm (Dq hb r9 w9 cV hq);rw[e]
def Ob {r w:Nat}{ao:AA}(hb:Blk r w ao):bx (bx ao w) r=ao:=Ry (jo (jo hb)) hb λi j hi hj=>by rw[nR (jo hb) hj hi,nR hb hi hj]
def uT (ts:List bL):(ts.map sw).map sw=ts:=by rw[b6];exact(eI λt _=>rfl).trans (ke _)
def XS {ws ao:AA}{r w bi bj:Nat}{rk:List Nat}(hb:Blk r w ao)(x:List bL):x∈yg ws (bx ao w) w r bj bi rk↔x.map sw∈yg ws ao r w bi bj rk:=by
 unfold yg;rw[Ob hb,ba,ba,ar,ar];constructor
 .rintro(h|⟨u,hu,rfl⟩);.exact .inr ⟨x,h,rfl⟩
  .exact .inl (by rw[uT];exact hu)
 .rintro(h|⟨u,hu,e⟩);.exact .inr ⟨_,h,uT x⟩
  .refine .inl ?_;have:=congrArg (List.map sw) e;rw[uT,uT]at this;rw[<-this];exact hu
def gR.line {ao:AA}{r w:Nat}{hk:List (Nat×Nat)}(h:gR ao r w hk ts):mj ts:=by obtain⟨i,hi⟩:=h.row;exact .inl ⟨i,hi,df.mp h.col⟩
def X3 {ws ao:AA}{r w bi bj:Nat}{rk:List Nat}(hw:∀l∈ws,oN l)(h:x∈yg ws ao r w bi bj rk):mj x:=by
 rcases ba.mp h with h|h;.exact(qM hw h).line
 .obtain⟨u,hu,rfl⟩:=ar.mp h;exact(qM hw hu).line.turn
def Kl (D:aK K mg "_law_turned" xP ["_law_laying"])(bN:mg "tuple"=none)(dR:mg "sorted"=none):bF P w K mg base "_law_turned" 1 ["_law_laying"] zV:=by
 refine D.cY Wy (λvs H Q E h=>?_) (λf bD A outer s H vs Q E hr h=>?_)
 .obtain⟨p,as,ts,rfl,_⟩:=h;rfl
 .obtain⟨p,as,ts,rfl,hp,hL,hok,hnd,h63,q⟩:=h;refine⟨_,(aL (aX (cP dg vT bN cE (ak (bh yG vT dR gy (ak (gb (ns:=["_law_row","_law_column","_law_sign"]) rfl (fu.of ["_law_laying"] [] v0) (iG (qv 0)) (λ_ _ _ _ _=>(pJ K rfl (show (["_law_row","_law_column","_law_sign","_law_laying"]:List Str).Nodup by decide +kernel) rfl rfl rfl vT vT vT)) (λ_ _ _ _ _=>cF) (λ_ _ _ _ _=>(cO (ak (qv 1) (ak (qv 0) (ak (qv 2) aA)))))) aA)) aA)))),?_⟩;have bW:=hL.len;refine⟨_,rfl,p,rfl,⟨_,aU.of hp⟩,λM hM=>oA (f:=eU [] 0) (tt:=gF) (xs:=as.map V.ref) (λi ys H6=>∃bs:List Addr,ys=bs.map V.ref/\bs.length=i/\H6 M=some (.lst ys)/\aB H H6/\cT H6 bs ((ts.take i).map sw))
   ⟨[],rfl,rfl,au,aB.upd hM,cT.nil⟩ (λi ys H6 _ h=>by obtain⟨_,_,_,_,sm,_⟩:=h;exact aU.of (sm _ _ hp)) ?_ ?_⟩
  .rintro i x ys H6 hx ⟨bs,rfl,gK,pB,sm,hB⟩;rw[aw]at hx;have hi:i<as.length:=by
    rcases cn i as.length with z|z;.exact z
    .rw[bP z]at hx;cases hx
   rw[ae hi]at hx;have hx:V.ref as[i]=x:=ax hx;obtain⟨t,et,hT⟩:=hL.get hi;refine wR hx.symm (aU.of (sm _ _ hT)) ?_;refine⟨_,rfl,_,rfl,_,rfl,zsz 3,λc hc=>?_⟩;have nM:M≠c:=λz=>by rw[<-z,pB]at hc;cases hc
   have rJ:upd H6 c (.tup [.int t.2.1,.int t.1,.str (S [t.2.2])]) M=some (.lst (bs.map V.ref)):=by rw[bw nM];exact pB
   refine⟨rJ,by rw[aa,gK];exact aM vE,dJ.mk (by rw[aa];exact hi) ⟨bs++[c],vF,by simp[gK],by rw[au],?_,?_⟩⟩;.exact(sm.bG (sm.free hc)).bG hM
   .rw[show (ts.take (i+1)).map sw=(ts.take i).map sw++[sw t] by rw[vz,et];simp];refine cT.snoc ?_ ?_;.exact(hB.mv (aB.upd hc)).gG (dI rJ)
    .exact dI rJ _ _ au
  .rintro ys H6 ⟨bs,rfl,gK,pB,sm,hB⟩;rw[aa]at gK;rw[cq (by rw[aa];lia)]at hB;have ecf:bs.map (λa=>rk (tO H6 a))=ts.map λt=>rk (sw t):=by
    have:(bs.map (tO H6)).map rk=(ts.map sw).map rk:=by rw[hB.eq]
    rw[b6,b6]at this;exact this
   have Z5:∀a∈bs,qJ (tO H6 a):=λa ha=>by
    have:tO H6 a∈ts.map sw:=by rw[<-hB.eq];exact cy ha
    obtain⟨t,ht,e⟩:=ar.mp this;rw[<-e];have:=hok t ht;exact⟨this.2.1,this.1,this.2.2⟩
   refine⟨M,bs,λa=>rk (tO H6 a),rfl,aQ.of pB,vE,λa ha=>?_,by rw[ecf];exact hnd,λp1 as' hp1 pm pw=>?_⟩
   .have:=Z5 a ha;exact⟨(tO H6 a).1,(tO H6 a).2.1,[.str (S [(tO H6 a).2.2])],hB.at_ a ha,by have:=this.2.1;lia,rfl,.inr ⟨_,rfl⟩⟩
   .obtain⟨l1,l2⟩:=hB.perm pm;refine⟨p1,_,rfl,.inl ⟨aQ.of au,λl hl=>?_⟩⟩;have s1:aB H6 (upd H6 p1 (.lst (as'.map V.ref))):=aB.upd hp1;have s2:=s1.bG (o:=.tup (as'.map V.ref)) (s1.free hl);exact q l as' _ _ (sm.trans s2) au (l1.mv s2) l2 (by rw[b6];exact pw)
theorem Oc:∀{a b:List (List bL)},Mt a->Mt b->a.Nodup->b.Nodup->(∀x∈a,∀t∈x,qQ t)->(∀x,x∈a↔x∈b)->a=b
 | [],[],_,_,_,_,_,_=>rfl
 | [],y::b,_,_,_,_,_,h=>absurd ((h y).mpr a6) vF
 | x::a,[],_,_,_,_,_,h=>absurd ((h x).mp a6) vF
 | x::a,y::b,ha,hb,na,nb,ok,h=>by
  have ha0:=gx.mp ha;have hb0:=gx.mp hb;have na0:=f7.mp na;have nb0:=f7.mp nb;have e:x=y:=by
   rcases bb.mp ((h x).mp a6) with z|z;.exact z
   .rcases bb.mp ((h y).mpr a6) with z'|z';.exact z'.symm
    .have h1:=oP (hb0.1 x z);have h2:=oP (ha0.1 y z');refine Mr (ok x a6) (ok y (aI _ z')) ?_;by_cases q:iY x=iY y;.exact q
     .exact absurd (aeQ h1 q) h2
  subst e;rw[Oc ha0.2 hb0.2 na0.2 nb0.2 (λz hz=>ok z (aI _ hz)) λz=>⟨λhz=>?_,λhz=>?_⟩]
  .rcases bb.mp ((h z).mp (aI _ hz)) with e|e;.exact absurd (e ▸ hz) na0.1
   .exact e
  .rcases bb.mp ((h z).mpr (aI _ hz)) with e|e;.exact absurd (e ▸ hz) nb0.1
   .exact e
def eZ.has (h:eZ H as L)(hp:H p=some (.tup (as.map V.ref)))(ok:∀ts∈L,ts≠[]/\∀t∈ts,qJ t):fK K H 3 (.tup (L.map oG)) (.ref p):=by
 refine .tup (aU.of hp) ?_;have key:∀bs:List Addr,(∀b∈bs,tH K H b (lO H b))->jL K H 2 ((bs.map (lO H)).map oG) (bs.map V.ref):=by
  intro bs
  induction bs with| nil=>exact λ_=>.nil| cons b bs ih=>exact λhb=>.cons (hb b a6).1 (ih λx hx=>hb x (aI _ hx))
 have:=key as λb hb=>by
  have hm:lO H b∈L:=by rw[<-h.eq];exact cy hb
  exact(h.at_ b hb).lay (ok _ hm).1 (ok _ hm).2
 rw[h.eq]at this;exact this
def afc (f:Nat->Nat):Nat->Nat
 | 0=>2*f 0
 | p+1=>max (afc f p+f (p+1)) (2*f (p+1))
def tBr:Nat->Nat->Nat
 | 0=>λ_=>1
 | b+1=>afc (tBr b)
def tB (p b:Nat):Nat:=tBr b p
def tB1 (b):tB 0 (b+1)=2*tB 0 b:=rfl
def tB2 (p b):tB (p+1) (b+1)=max (tB p (b+1)+tB (p+1) b) (2*tB (p+1) b):=rfl
theorem aao:∀p b,2*tB p b<=tB p (b+1)
 | 0,b=>by rw[tB1];exact ag _
 | p+1,b=>by rw[tB2];exact Nat.le_max_right _ _
theorem X4 (p):∀b,1<=tB p b
 | 0=>ag _
 | b+1=>by have:=X4 p b;have:=aao p b;lia
theorem ag3:∀p b,tB p b<=tB (p+1) b
 | _,0=>ag _
 | p,b+1=>by rw[tB2];lia
theorem Gn:∀(ls rk:List Nat),(fQ ls rk).length<=tB (rk.length-rk.count 63) (rk.count 63)
 | [],rk=>X4 _ _
 | c::ls,rk=>by
  have hcl:rk.count 63<=rk.length:=sv;have e63:63∈rk->(fQ ls (rk.erase 63)).length<=tB (rk.length-rk.count 63) (rk.count 63-1)/\1<=rk.count 63:=λh=>by have h1:=List.count_pos_iff.mpr h;have ih:=Gn ls (rk.erase 63);rw[oS h,List.count_erase_self,show rk.length-1-(rk.count 63-1)=rk.length-rk.count 63 from eQ vE]at ih;exact⟨ih,h1⟩
  rw[fQ,av];by_cases h63:c=63
  .subst h63;by_cases h:63∈rk
   .obtain⟨h1,h2⟩:=e63 h;rw[if_pos h,if_pos h,aa,aa];obtain⟨b,hb⟩:∃b,rk.count 63=b+1:=⟨rk.count 63-1,by simp_all⟩
    rw[hb]at h1 ⊢;have:=aao (rk.length-(b+1)) b;simp only[oT]at h1;lia
   .rw[if_neg h,if_neg h];exact cw _
  .have ec:c∈rk->(fQ ls (rk.erase c)).length<=tB (rk.length-rk.count 63-1) (rk.count 63)/\rk.count 63<rk.length:=λh=>by
    have ih:=Gn ls (rk.erase c);rw[oS h,List.count_erase_of_ne (by simpa using λz=>h63 z.symm)]at ih;have h1:rk.count 63<=(rk.erase c).length:=by rw[<-List.count_erase_of_ne (a:=63) (b:=c) (by simpa using λz=>h63 z.symm)];exact sv
    rw[oS h]at h1;have h2:=List.length_pos_of_mem h;rw[show rk.length-1-rk.count 63=rk.length-rk.count 63-1 by lia]at ih;exact⟨ih,vE⟩
   by_cases h1:c∈rk
   .obtain⟨a1,a2⟩:=ec h1;obtain⟨p,hp⟩:∃p,rk.length-rk.count 63=p+1:=⟨rk.length-rk.count 63-1,eQ vE⟩
    rw[if_pos h1,aa];by_cases h2:63∈rk
    .obtain⟨b1,b2⟩:=e63 h2;rw[if_pos h2,aa];obtain⟨b,hb⟩:∃b,rk.count 63=b+1:=⟨rk.count 63-1,vE⟩
     rw[hp,hb]at a1 b1 ⊢;rw[tB2];simp only[oT]at a1 b1;lia
    .rw[if_neg h2];rw[hp]at a1 ⊢;simp only[oT]at a1;have:=ag3 p (rk.count 63);show _+0<=_;lia
   .rw[if_neg h1];by_cases h2:63∈rk
    .obtain⟨b1,b2⟩:=e63 h2;rw[if_pos h2,aa];obtain⟨b,hb⟩:∃b,rk.count 63=b+1:=⟨rk.count 63-1,vE⟩
     rw[hb]at b1 ⊢;have:=aao (rk.length-(b+1)) b;simp only[oT]at b1;show 0+_<=_;lia
    .rw[if_neg h2];exact cw _
def afd:∀n:Fin 6,∀b:Fin 3,(n.val<4\/b.val<=1)->tB (n.val-b.val) b.val<=7/\(n.val<=2->b.val<=n.val->tB (n.val-b.val) b.val<=4):=by decide
def afe (n)(hn:n<6)(b)(hb:b<3)(h1:n<4->b<=2)(h2:4<=n->b<=1):tB (n-b) b<=7/\(n<=2->b<=n->tB (n-b) b<=4):=afd ⟨n,hn⟩ ⟨b,hb⟩ (by rcases cn n 4 with z|z;exact .inl z;exact .inr (h2 z))
def acB {rk:List Nat}(h5:rk.length<=5)(h1:rk.length<4->rk.count 63<=2)(h2:4<=rk.length->rk.count 63<=1):(∀ls,(fQ ls rk).length<=7)/\(rk.length<=2->∀ls,(fQ ls rk).length<=4):=by
 have hb:rk.count 63<3:=by
  rcases cn rk.length 4 with z|z;.have:=h1 z;exact qf this
  .have:=h2 z;lia
 obtain⟨a,b⟩:=afe rk.length (qf h5) (rk.count 63) hb h1 h2;exact⟨λls=>a9 (Gn ls rk) a,λh ls=>a9 (Gn ls rk) (b h sv)⟩
def ag4 (b):j_ [V.int 5,V.int 2] (if b=true then 1 else 0)=some (.int ((if b=true then 2 else 5:Nat):Int)):=by
 cases b;.exact aN (j:=0) rfl
 .exact aN (j:=1) rfl
def X5 {K KT:W.Frag}{a0:Addr}{l:List V}{f:St->St}{tt:TT}{D:Addr}{te:TE}{σ:St}{H:Hp}{R:Hp->Prop}(Pv:Nat->List V->Hp->Prop)(h0:Pv 0 [] (upd H D (.lst [])))(hl:∀i ys H,i<=l.length->Pv i ys H->aU K H a0 l)(hs:∀i c ys H T,l[i]?=some c->Pv i ys H->H T=none->uy l.length i D (λv H Q=>∃a p q,v=.ref a/\aU KT H a [p,q]/\Q [some p,some q]) f σ tt te (.ref T) (upd H T (.tup [.int i,c])) ys (Pv (i+1)))(hd:∀ys H,Pv l.length ys H->R H):qO (SN K a0) D H R (BR (λv H Q=>∃a p q,v=.ref a/\aU KT H a [p,q]/\Q [some p,some q]) f σ tt te):=Cv l.length Pv h0 (λi ys H h p=>⟨⟨l,l[i],hl i ys H (ay h) p,by simp[h]⟩,λx H' y=>by obtain⟨T,c,hT,rfl,hc,rfl⟩:=y;exact hs i c ys H T (hc l (hl i ys H (ay h) p)) p hT⟩) λys H p=>⟨⟨l,hl _ ys H (ag _) p,ag _⟩,hd ys H p⟩
def X6 {K:W.Frag}{a:Addr}{xs:List V}{g:TG}{tb:TS}{D:Ends}{σ:St}{H:Hp}(Pv:Nat->St->Hp->Prop)(h0:Pv 0 σ H)(hl:∀i σ H,i<=xs.length->Pv i σ H->aQ K H a xs)(hs:∀i x σ H T,xs[i]?=some x->Pv i σ H->H T=none->g (.ref T) σ (upd H T (.tup [.int i,x])) λσ2 H2=>tb {D with nx:=Pv (i+1),ct:=Pv (i+1),bk:=D.nx} σ2 H2)(hd:∀σ H,Pv xs.length σ H->D.nx σ H):yL (Zz K a) g tb D σ H:=Gr xs.length Pv h0 (λi σ H h p=>⟨⟨xs,xs[i],hl i σ H (ay h) p,by simp[h]⟩,λx H' y=>by obtain⟨T,y,hT,rfl,hy,rfl⟩:=y;exact hs i y σ _ T (hy xs (hl i σ H (ay h) p)) p hT⟩) λσ H p=>⟨⟨xs,hl _ σ H (ag _) p,ag _⟩,hd σ H p⟩
def afg (F:iD K "law" "law" Ku f fd)(bI:mg "len"=none)(bN:mg "tuple"=none)(kO:mg "int"=none)(dR:mg "sorted"=none)(cJ:mg "enumerate"=none)(bO:d_ K C)(iy:Meth K C "turned" f3)(iz:cL P w K mg base fW 8 f3 yJ ["self"] (Dg C))(iB:cj K yJ ["self"] [])(Fw:pQ K CB)(acC:mg "Book"=some (.ref CB))(afh:Mk K CB g0)(afi:cL P w K mg base fW 3 g0 fe0 ["self","words"] (WY K CB))(afj:cj K fe0 ["self","words"] [])(afk:bF P w K mg base "_law_next" 1 ["_law_x"] xQ)(X7:bF P w K mg base "_law_letters" 4 ["_law_script","_law_k"] (WT K))(Od:bF P w K mg base "_law_number" 2 ["_law_script","_law_k"] (TJ K))(acD:bF P w K mg base "_law_words" 4 ["_law_letters_here","_law_script","_law_start","_law_many"] (M5 K))(acE:bF P w K mg base "_law_board" 8 ["_law_letters_here","_law_script","_law_start","_law_x"] (Nb K C))(afl:bF P w K mg base "_law_rack" 4 ["_law_letters_here","_law_script","_law_k","_law_most"] (Xu K))(qX:bF P w K mg base "all_layings" 13 ["board","book","rack"] (aaZ C CB))(oZ:bF P w K mg base "turned_laying" 1 ["laying"] zV)(Ds:bF P w K mg base "_law_turned" 1 ["_law_laying"] zV)(Ck:bF P w K mg base "points_of" 11 ["board","worths","bonus","laying"] (aa4 C)):cL P w K mg base fW 15 f fd ["_law_script"] (Ko K):=by
 refine F.cY jh (λvs H Q E h=>?_) (λbD A outer s H vs Q E hr h=>?_)
 .obtain⟨a,ns,rfl,_⟩:=h;rfl
 .obtain⟨a,ns,rfl,hS,hn,q⟩:=h;have aaY:4000<=sizeLine:=by decide
  have hu:=wJ hr;refine(aj _ (aG (aV (i:=1) jh.nd rfl (Or.inl rfl) (aZ X7 hr.mono rfl (ak (qv 0) (ak aD aA)))) (aG (aV (i:=2) jh.nd rfl (Or.inr rfl) (aZ Od hr.mono rfl (ak (qv 0) (ak aD aA)))) (aG (aV (i:=3) jh.nd rfl (Or.inl rfl) (aZ acD hr.mono rfl (ak (qv 1) (ak (qv 0) (ak aD (ak (aP cu aD (aP b_ (qv 2) aD)) aA)))))) (aG (aV (i:=4) jh.nd rfl (Or.inl rfl) (aZ acE hr.mono rfl (ak (qv 1) (ak (qv 0) (ak aD (ak (aZ Od hr.mono rfl (ak (qv 0) (ak aD aA))) aA)))))) (aG (aV (i:=5) jh.nd rfl (Or.inl rfl) (aZ afl hr.mono rfl (ak (qv 1) (ak (qv 0) (ak aD (ak (bB fU (eY (ak aD (ak aD aA))) (cP yO vT kO nw (ak (gJ aaI (aP mG (bh dh vT bI ck (ak (eN (qv 4) rfl) aA)) (bh d9 vT bI ck (ak (bB bV (eN (qv 4) rfl) aD (λ_ _=>rfl)) aA))) aD (bU _)) aA)) (λ_ _=>rfl)) aA)))))) (aG (aV (i:=6) jh.nd rfl (Or.inl rfl) (Ay afh afi hr.mono rfl acC afj .nil gD (ak (qv 3) aA))) (aG (aV (i:=7) jh.nd rfl (Or.inl rfl) Cy) (aG (fJ c9 rfl (ZC vT cJ (ak (qv 1) aA)) (oh rfl (dj (bY (i:=8) jh.nd rfl (Or.inl rfl)) (dj (bY (i:=9) jh.nd rfl (Or.inl rfl)) lN))) (aL (Az hu (qv 7) (qv 9) (aP b_ (aZ afk hr.mono rfl (ak (aP cu (aP b_ (qv 2) aD) (qv 8)) aA)) (bB fU (eY (ak aD (ak (aP cu (aP adt aD aD) aD) aA))) (aP b_ (qv 8) aD) (λ_ _=>rfl))) rfl))) (aG (aV (i:=10) jh.nd rfl (Or.inl rfl) (cO (ak (aP cu aD (aP b_ (aP eV (qv 2) aD) aD)) (ak (aP b_ (aP eV (qv 2) aD) aD) aA)))) (aG (aV (i:=11) jh.nd rfl (Or.inl rfl) (aZ qX hr.mono rfl (ak (qv 4) (ak (qv 6) (ak (qv 5) aA))))) (aG (aV (i:=12) jh.nd rfl (Or.inl rfl) (aZ qX hr.mono rfl (ak (nD (qv 4) bO.cl iy iz hr.mono iB .nil gD) (ak (qv 6) (ak (qv 5) aA))))) (aG (d7 (bZ (VB hr.units) (qv 12) (cP dg vT bN cE (ak (bh (G8 hr.units) vT dR gy (ak (gb (ns:=["_law_laying"]) rfl (fu.of ["_law_script","_law_some","_law_x","_law_words_here","_law_board_here","_law_rack_here","_law_book","_law_worths","_law_k","_law_letter","_law_bonus","_law_found","_law_about",".13"] [13] v0) (iG (qv 11)) (λ_ _ _ _ _=>(pH (show (["_law_laying","_law_script","_law_some","_law_x","_law_words_here","_law_board_here","_law_rack_here","_law_book","_law_worths","_law_k","_law_letter","_law_bonus","_law_found","_law_about",".13"]:List Str).Nodup by decide +kernel) rfl vT)) (λ_ _ _ _ _=>cF) (λ_ _ _ _ _=>(aZ Ds hr.mono rfl (ak (qv 0) aA)))) aA)) aA)) (bU _)) (aL (aX lQ)) cD) (aG (fJ c9 rfl (eG (gb (ns:=["_law_k","_law_one"]) rfl (fu.of ["_law_script","_law_some","_law_x","_law_words_here","_law_board_here","_law_rack_here","_law_book","_law_worths",".8","_law_letter","_law_bonus","_law_found","_law_about","_law_laying"] [8] v0) (Lj vT cJ (ak (qv 11) aA)) (λ_ _ _ _ _=>(Gz K rfl (show (["_law_k","_law_one","_law_script","_law_some","_law_x","_law_words_here","_law_board_here","_law_rack_here","_law_book","_law_worths",".8","_law_letter","_law_bonus","_law_found","_law_about","_law_laying"]:List Str).Nodup by decide +kernel) rfl rfl vT vT)) (λ_ _ _ _ _=>(A_ (QW.qt (wL (bZ jc (aP b_ (qv 0) aD) (aP b_ (aP eV (qv 4) aD) aD) (bU _)) (sW (bZ Ag (qv 0) aD (bU _))))))) (λ_ _ _ _ _=>(qv 1)))) (bY (i:=13) jh.nd rfl (Or.inl rfl)) (aG (d7 (bZ (VB hr.units) (aZ oZ hr.mono rfl (ak (qv 13) aA)) (aZ Ds hr.mono rfl (ak (qv 13) aA)) (bU _)) (aL (aX lQ)) cD) (aL (d7 (bZ DQ (aZ Ck hr.mono rfl (ak (qv 4) (ak (qv 7) (ak (qv 10) (ak (qv 13) aA))))) (aZ Ck hr.mono rfl (ak (nD (qv 4) bO.cl iy iz hr.mono iB .nil gD) (ak (qv 7) (ak (qv 10) (ak (aZ Ds hr.mono rfl (ak (qv 13) aA)) aA))))) (bU _)) (aL (aX lQ)) cD)))) (aL (aX (gJ (ad6 hr.units) (aZ qX hr.mono rfl (ak (nD (nD (qv 4) bO.cl iy iz hr.mono iB .nil gD) bO.cl iy iz hr.mono iB .nil gD) (ak (qv 6) (ak (qv 5) aA)))) (qv 11) (bU _))))))))))))))))) ?_);refine(aj _ rfl (dM a ns 0 rfl hS vS (λpl ls H1 s1 hpl hA=>?_)));refine(aj _ rfl (dM a ns 1 rfl (s1.seq hS) vS (λx=>?_)));obtain⟨m,hm,hm6⟩:∃m:Nat,3+x%4=(m:Int)/\m<=6:=(aj ((3+x%4).toNat) vE vE)
  refine(aj _ rfl (aj _ rfl (aj _ rfl (aY _ _ rfl rfl (by show (0:Int)<4;decide) (aR _ _ rfl rfl ⟨pl,a,ls,ns,3,m,by show [V.ref pl,V.ref a,V.int 3,V.int (3+x%4)]=_;rw[hm];rfl,hpl,hA,s1.seq hS,vE,vE,λpw ws H2 s2 hpw nd az rs bW=>?_⟩)))));have JT:=s1.trans s2;refine(aj _ rfl (aj _ rfl (aj _ rfl (dM a ns 28 rfl (JT.seq hS) vS (λy=>⟨pl,a,ls,ns,9,y,rfl,s2 _ _ hpl,hA,JT.seq hS,vS,λb r w' ao aF bi bj H3 s3 B=>?_⟩)))));have uP:=JT.trans s3;have afm:=s3 _ _ (s2 _ _ hpl);obtain⟨dx,pr,pm0,pb0,hb3,afn,_,_⟩:=id B.ex;have O:=B.ok;have r1:=O.r1;have r9:=O.r9;have w9:=O.w9;have hb':=O.br;have iV:(Ts ao).length=r:=by rw[aa,hb'.len]
  have h0:0<ao.length:=by rw[hb'.len];lia
  have hw0:ao[0].length=w':=hb'.jr _ (a8 _);have at0:j_ (Ts ao) 0=some (.str (S ao[0])):=aN (j:=0) (qp (ae h0));have hz:∀n,n<=100->n<=sizeLine:=λn h=>ay (aM vE);refine(aj _ rfl (aO _ rfl (zsz 2) (λt ht=>?_)));have k3:aB H3 (upd H3 t (HO.lst [V.int 5,V.int 2])):=aB.upd ht;have hT:upd H3 t (HO.lst [V.int 5,V.int 2]) t=some (.lst [V.int 5,V.int 2]):=au;generalize upd H3 t (HO.lst [V.int 5,V.int 2])=H3' at k3 hT ⊢;refine(aj _ rfl (iT b C dx _ _ rfl (k3 _ _ hb3) bO.cl bO.nr rfl (aR pr _ rfl (.inr (aU.of (k3 _ _ afn))) (aj _ rfl (iT b C dx _ _ rfl (k3 _ _ hb3) bO.cl bO.nr rfl (bK pr _ _ _ rfl rfl (aU.of (k3 _ _ afn)) at0 (aO _ rfl (hz _ vE) (aY _ _ rfl rfl (.inl ⟨by rw[iV];lia,by rw[iV];lia⟩) (aR _ _ rfl rfl (.inr (aj _ rfl (bK t _ _ _ rfl rfl (aQ.of hT) (ag4 _) ?_))))))))))));rw[iV,hw0];obtain⟨mm,hmm,ag5,ag6⟩:∃mm:Nat,(if decide ((20:Int)<(r:Int)*(w':Int))=true then 2 else 5:Nat)=mm/\mm<=5/\(20<r*w'->mm<=2):=by
   by_cases c:(20:Int)<(r:Int)*(w':Int)
   .exact(aO 2 (by rw[if_pos (aE c)]) vS (λ_=>ag _))
   .exact(aO 5 (by rw[if_neg (by rw[am c];decide)]) vS (λz=>absurd (by exact_mod_cast z) c))
  refine⟨pl,a,ls,ns,2,mm,by rw[<-hmm];rfl,k3 _ _ afm,hA,(uP.trans k3).seq hS,vS,ag5,λrk H4 s4 hrl hr1 hr2 hra=>?_⟩;have Rv:=k3.trans s4;have ag7:rk.length<=5:=vE;obtain⟨g7,g4⟩:=acB ag7 hr1 hr2;have ag8:=Rv _ _ (s3 _ _ hpw);refine(aj _ rfl (λk dk nk ndk nek=>?_));have afo:aB H4 (upd (upd H4 dk (HO.own k)) k (HO.ins CB dk [])):=λc o e=>by rw[bw (bM e nk),bw (bM e ndk)];exact e
  refine(jN k dk pw ws rfl au (.inl (aQ.of (afo _ _ ag8))) az vE (λd Oe H5 hd BK hmem hlen2 kp=>⟨rfl,?_⟩));have s45:aB H4 H5:=λc o e=>kp c o (afo c o e) (bM e nk);have s35:=Rv.trans s45;have B5:=B.mv s35;have zW:Oe.length<64:=vE
  have Og:rk.length<=100:=vE;obtain⟨g,hg,JQ,hbd⟩:∃g:Nat,(∀ls,(fQ ls rk).length<=g)/\g<=900/\Oe.length*(r*w'*g)<=1999:=by
   by_cases c:20<r*w'
   .refine(aO 4 (g4 (by have:=ag6 c;lia)) vS ?_);have h1:r*w'<=9*9:=kd r9 w9;exact a9 (kd (show Oe.length<=6 by lia) (iP 4 h1)) vS
   .refine(aO 7 g7 vS ?_);exact a9 (kd (show Oe.length<=6 by lia) (iP 7 (show r*w'<=20 by lia))) vS
  refine λdw hdw=>?_;have kw0:aB H5 (upd H5 dw (HO.dK [])):=aB.upd hdw;have aap:upd H5 dw (HO.dK []) dw=some (.dK []):=au;generalize upd H5 dw (HO.dK [])=H6 at kw0 aap ⊢;have s36:=s35.trans kw0;have Uu:=s36 _ _ afm;refine(aj _ rfl (aO pl rfl ⟨_,aQ.of Uu⟩ (X6 (xs:=Ts (ones ls)) (λi σ H7=>∃(v8 v9:Option V) (kvs:List (Key×V)),σ=[some (.ref a),some (.ref pl),some (.int x),some (.ref pw),some (.ref b),some (.str (S rk)),some (.ref k),some (.ref dw),v8,v9,none,none,none,none]/\(∀c o,c≠dw->H6 c=some o->H7 c=some o)/\H7 dw=some (.dK kvs)/\WD kvs/\WB 1000000 kvs/\kvs.length<=i)
   ⟨none,none,[],rfl,λ_ _ _ e=>e,aap,(λkv m=>nomatch m),(λc=>⟨by show (0:Int)<=0;decide,by show (0:Int)<=1000000;decide⟩),ag _⟩ ?_ ?_ ?_)))
  .rintro i σ H7 hi ⟨v8,v9,kvs,rfl,k7,X8,hW,hB,hl⟩;exact aQ.of (k7 _ _ (λz=>by rw[z,aap]at Uu;cases Uu) Uu)
  .rintro i z σ H7 T hz1 ⟨v8,v9,kvs,rfl,k7,X8,hW,hB,hl⟩ hT;obtain⟨c,hc,rfl⟩:∃c,ls[i]?=some c/\V.str (S [c])=z:=by
    rw[Ts,ones,b6,aw]at hz1;cases e:ls[i]? with
    | none=>rw[e]at hz1;cases hz1
    | some c=>rw[e]at hz1;exact(aj c rfl (ax hz1))
   have hi:i<ls.length:=(ai.mp hc).1;have hhi:=hA.hi;obtain⟨c1,c2⟩:=hA.az _ (aT hc);refine(aY T _ rfl (aU.of au) rfl ⟨_,_,rfl,aR _ _ rfl rfl ?_⟩);have nTd:dw≠T:=λz=>by rw[<-z,X8]at hT;cases hT
   have kT:aB H7 (upd H7 T (HO.tup [.int i,.str (S [c])])):=aB.upd hT;have RB:=kT _ _ X8;generalize upd H7 T (HO.tup [.int i,.str (S [c])])=H8 at kT RB ⊢;refine(aj _ rfl (aY _ _ rfl rfl (by show (0:Int)<2147483647;decide) (aj _ rfl (aR _ _ rfl rfl (dX _ rfl vE vE (λy hy0 hy1=>?_))))));refine(aY _ _ rfl rfl ⟨vS,vS,vS⟩ (aY _ _ rfl rfl (zsz 2) (λL hL=>?_)));have zH:(10:Int)^(6:Int).toNat+1=1000001:=by decide
   have sL:aB H8 (upd H8 L (HO.lst [V.int 5,V.int ((10:Int)^(6:Int).toNat+1)])):=aB.upd hL;have hL9:upd H8 L (HO.lst [V.int 5,V.int ((10:Int)^(6:Int).toNat+1)]) L=some (.lst [V.int 5,V.int 1000001]):=by rw[au,zH]
   have hd9:=sL _ _ RB;have k9:=kT.trans sL;generalize upd H8 L (HO.lst [V.int 5,V.int ((10:Int)^(6:Int).toNat+1)])=H9 at k9 hL9 hd9 ⊢;obtain⟨m2,hm2,hm1⟩:∃m:Int,j_ [V.int 5,V.int 1000001] ((i:Int)%2)=some (.int m)/\0<m/\m<=1000001:=by
    rcases(show (i:Int)%2=0\/(i:Int)%2=1 by lia) with e|e;.rw[e];exact(aO 5 rfl vS vS)
    .rw[e];exact(aO 1000001 rfl vS vS)
   refine(aj _ rfl (aY _ _ rfl rfl (by show (0:Int)<2;decide) (bK L _ _ _ rfl rfl (aQ.of hL9) hm2 (aY _ _ rfl rfl hm1.1 ?_))));have hy2:0<=y%m2/\y%m2<=1000000:=⟨d6 _ vE,by have:=de y hm1.1;lia⟩
   refine(aj _ rfl (aj _ rfl (aR dw _ rfl (sS.k (k:=bQ [c]) hd9 (aM vE)) ?_)));refine⟨_,_,_,rfl,λe o ne he=>?_,au,hW.put _ c1 c2,hB.put hy2.1 hy2.2,?_⟩;.rw[bw ne];exact k9 _ _ (k7 _ _ ne he)
   .exact a9 (uV _ _ _) vE
  .rintro σ H7 ⟨v8,v9,kvs,rfl,k7,X8,hW,hB,hl⟩;have s57:aB H5 H7:=λc o e=>k7 c o (bM e hdw) (kw0 c o e);refine(aj _ rfl (aY _ _ rfl rfl ⟨vS,vS⟩ (aY _ _ rfl rfl (by show (0:Int)<8;decide) (aR _ _ rfl rfl (aj _ rfl (aY _ _ rfl rfl ⟨vS,vS⟩ (fY _ _ rfl rfl (by show (0:Int)<99;decide) (zsz 2) (λpb hpb=>?_))))))));have k8:aB H7 (upd H7 pb (HO.tup [.int (1+x/8%8),.int (x/64%99)])):=aB.upd hpb;have aaq:upd H7 pb (HO.tup [.int (1+x/8%8),.int (x/64%99)]) pb=some (.tup [.int (1+x/8%8),.int (x/64%99)]):=au;have RB:=k8 _ _ X8;have X_:=s57.trans k8;generalize upd H7 pb (HO.tup [.int (1+x/8%8),.int (x/64%99)])=H8 at k8 aaq RB X_ ⊢;have B8:=B5.mv X_;refine(aj _ rfl (aj _ rfl (aj _ rfl (zM b k d Oe r w' ao aF bi bj g rk rfl B8 (BK.same X_) zW Og hg JQ hbd (λpf as L H9 s9 hpf hY up ndL ahe Yb=>?_)))));have B9:=B8.mv s9;obtain⟨dx9,_,_,_,ex9,_⟩:=id B9.ex;refine(aj _ rfl (dM b dx9 _ rfl ex9 rfl (rO b r w' ao aF bi bj rfl B9 (λpt H10 s10 Bt=>?_))));have s8t:=s9.trans s10;have BKt:=BK.same (X_.trans s8t);refine(aj _ rfl (aj _ rfl (zM pt k d Oe w' r (bx ao w') (bx aF w') bj bi g rk rfl Bt BKt zW Og hg JQ (by rw[fz w' r];exact hbd) (λpa as2 L2 H11 s11 hpa Xr up2 Ma ahd afp=>?_))));have okL:∀ts∈L,yd ao r w' (cU ao r w' bi bj) ts:=λts h=>HD hb' BK.az ((Yb ts).mp h);have lnL:∀ts∈L,mj ts:=λts h=>X3 BK.az ((Yb ts).mp h);have Uv:=s11 _ _ (s10 _ _ hpf);have afq:=(hY.mv s10).mv s11;have hlY:=hY.len;refine(aj _ rfl (aj _ rfl (aO pf rfl ⟨_,aU.of Uv⟩ (λM hM=>wQ (f:=eU [13] 0) (tt:=gF) (K:=K) (a:=pf) (xs:=as.map V.ref) (λi ys rM=>∃ds:List Addr,ys=ds.map V.ref/\ds.length=i/\rM M=some (.lst ys)/\aB H11 rM/\eZ rM ds ((L.take i).map λts=>ts.map sw))
    (cW [] rfl rfl au (aB.upd hM) eZ.nil) (λi ys rM _ h=>by obtain⟨_,_,_,_,sm,_⟩:=h;exact aU.of (sm _ _ Uv)) ?_ ?_))))
   .rintro i z ys rM hz1 ⟨ds,rfl,hdl,aar,s12,vp⟩;rw[aw]at hz1;have hi:i<as.length:=by
     rcases cn i as.length with z|z;.exact z
     .rw[bP z]at hz1;cases hz1
    rw[ae hi]at hz1;have hz1:V.ref as[i]=z:=ax hz1;subst hz1;obtain⟨ts,et,⟨bs,hbs,JV⟩⟩:=afq.get hi;have hm:=aT et;have hok:=okL ts hm;have hrw:=Bv (lnL ts hm).turn;have hnd:(ts.map λt=>My.rk (sw t)).Nodup:=by rw[b6]at hrw;exact tT (λ{a b} hab=>be hab) hrw
    refine Kq ?_;refine(aj _ rfl (pZ (as[i]) bs ts rfl (s12 _ _ hbs) (JV.mv s12) (hok.qJ r9 w9) hnd (by have:=hok.len;lia) (λp7 bs7 ts7 H13 Gk FZ Ng pm7 pw7=>?_)));have e7:ts7=ts.map sw:=Bs pw7 hrw pm7;subst e7;have afr:=Gk _ _ aar;refine⟨afr,by rw[aa,hdl];lia,dJ.mk (by rw[aa];exact hi) (cW (ds++[p7]) vF (by simp[hdl]) (by rw[au]) ((s12.trans Gk).bG hM) ?_)⟩;rw[bz,et,bv];exact((vp.mv Gk).app (eZ.one (ts:=ts.map sw) (aj bs7 FZ Ng))).gG (dI afr)
   .rintro ys rM ⟨ds,rfl,hdl,aar,s12,vp⟩;rw[aa]at hdl;rw[cq (by rw[aa];lia)]at vp;generalize hX:(L.map λts=>ts.map sw)=X at vp;have Uw:∀x,x∈X↔x∈L2:=λz=>by
     rw[<-hX,afp,XS hb',ar,<-Yb];constructor;.rintro⟨u,hu,rfl⟩;rw[uT];exact hu
     .intro h;exact(aj _ h (uT z))
    have afs:∀ts∈L2,yd (bx ao w') w' r (cU (bx ao w') w' r bj bi) ts:=λts h=>HD (jo hb') BK.az ((afp ts).mp h);have Oh:∀ts∈L2,ts≠[]/\∀t∈ts,qJ t:=λts h=>⟨(afs ts h).ne,(afs ts h).qJ w9 r9⟩
    have hlay:∀a∈ds,tH K rM a (lO rM a):=λa ha=>by
     have hm:lO rM a∈X:=by rw[<-vp.eq];exact cy ha
     have ok:=Oh _ ((Uw _).mp hm);exact(vp.at_ a ha).lay ok.1 ok.2
    refine(ig M ds (lO rM) rfl (aQ.of aar) vE hlay (λpq ds' hpq pmd upX=>?_));have k13:aB rM (upd rM pq (HO.lst (ds'.map V.ref))):=aB.upd hpq;refine⟨pq,_,rfl,.inl ⟨aQ.of au,λT hT=>?_⟩⟩;have k14:=k13.bG (o:=HO.tup (ds'.map V.ref)) (k13.free hT);have Hv:upd (upd rM pq (HO.lst (ds'.map V.ref))) T (HO.tup (ds'.map V.ref)) T=some (.tup (ds'.map V.ref)):=au;generalize upd (upd rM pq (HO.lst (ds'.map V.ref))) T (HO.tup (ds'.map V.ref))=H14 at k14 Hv ⊢;have ndX:X.Nodup:=by rw[<-hX];exact List.Pairwise.map _ (λa b h e=>h (by have:=congrArg (List.map sw) e;rwa [uT,uT]at this)) ndL
    have pmX:(ds'.map (lO rM)).Perm X:=by rw[<-vp.eq];exact pmd.map _
    have e2:ds'.map (lO rM)=L2:=Oc upX up2 (pmX.nodup_iff.mpr ndX) Ma (λz hz t ht=>by have:=(Oh z ((Uw z).mp (pmX.mem_iff.mp hz))).2 t ht;exact⟨by have:=this.2.1;lia,this.2.2⟩) λz=>by rw[pmX.mem_iff,Uw]
    have hYT:eZ H14 ds' L2:=by rw[<-e2];exact(eZ.mk (λa ha=>vp.at_ a (pmd.mem_iff.mp ha)) rfl).mv k14
    refine(dM 3 (.tup (L2.map oG)) (.tup (L2.map oG)) vS ((Xr.mv (s12.trans k14)).has ((s12.trans k14) _ _ hpa) Oh) (hYT.has Hv Oh) (aj _ rfl ?_));simp only[if_true,decide_true,eB];refine cA ?_;have Ux:=s12.trans k14;have Uy:=Ux _ _ Uv;have aft:=afq.mv Ux;refine(aj _ rfl (aO pf rfl ⟨_,aU.of Uy⟩ (λN hN=>X5 (K:=K) (a0:=pf) (l:=as.map V.ref) (f:=eU [8] 0) (KT:=K) (te:=eO 1) (λn ys H'=>∃es:List Addr,ys=es.map V.ref/\es.length<=n/\(∀d∈es,d∈as)/\H' N=some (.lst ys)/\aB H14 H')
     (cW [] rfl (ag _) (λd h=>by simp at h) au (aB.upd hN)) (λn ys H' _ h=>by obtain⟨_,_,_,_,_,sm⟩:=h;exact aU.of (sm _ _ Uy)) ?_ ?_)))
    .rintro n c ys H' T' hx ⟨es,rfl,hel,hem,hN',s'⟩ hT';rw[aw]at hx;have hi:n<as.length:=by
      rcases cn n as.length with z|z;.exact z
      .rw[bP z]at hx;cases hx
     rw[ae hi]at hx;have hx:V.ref as[n]=c:=ax hx;subst hx;have k7':aB H' (upd H' T' (HO.tup [.int (n:Int),.ref as[n]])):=aB.upd hT';refine⟨T',_,_,rfl,aU.of au,?_⟩;have hN7:=k7' _ _ hN';have s7':=s'.trans k7';generalize upd H' T' (HO.tup [.int (n:Int),.ref as[n]])=H'' at k7' hN7 s7' ⊢;have hmem:∀d∈es++[as[n]],d∈as:=λd hd=>by
      rcases ba.mp hd with z|z;.exact hem d z
      .rw[ap.mp z];exact a8 _
     refine(aj _ rfl (aY _ _ rfl rfl (by show (0:Int)<9;decide) (aj _ rfl (aY _ _ rfl rfl ⟨vS,vS⟩ (fY _ _ rfl rfl (by show (0:Int)<9;decide) rfl (aj _ rfl ?_))))));refine sV (λ_=>cB (dX _ rfl hN7 (by rw[aa];lia) (dJ.mk (by rw[aa];exact hi) (cW (es++[as[n]]) vF (by simp;lia) hmem (by rw[au]) (s7'.bG hN))))) (λ_=>?_);refine(aj _ rfl (aR _ _ rfl rfl (aj _ rfl ?_)));exact sV (λ_=>(dX _ rfl hN7 (by rw[aa];lia) (dJ.mk (by rw[aa];exact hi) (cW (es++[as[n]]) vF (by simp;lia) hmem (by rw[au]) (s7'.bG hN))))) (λ_=>dJ.mk (by rw[aa];exact hi) (cW es rfl vE hem hN7 s7'))
    .rintro ys H15 ⟨es,rfl,hel,hem,afu,s15⟩;refine(aO N rfl ⟨_,aQ.of afu⟩ (jJ (K:=K) (a:=N) (xs:=es.map V.ref) (λn σ H'=>∃(v13:Option V),σ=[some (.ref a),some (.ref pl),some (.int x),some (.ref pw),some (.ref b),some (.str (S rk)),some (.ref k),some (.ref dw),v8,v9,some (.ref pb),some (.ref pf),some (.ref pa),v13]/\aB H15 H')
      (aj none rfl (aB.refl _)) (λn σ H' _ h=>by obtain⟨_,_,sm⟩:=h;exact aQ.of (sm _ _ afu)) ?_ ?_))
     .rintro n z σ H' hx ⟨v13,rfl,s'⟩;rw[aw]at hx;have hi:n<es.length:=by
       rcases cn n es.length with z|z;.exact z
       .rw[bP z]at hx;cases hx
      rw[ae hi]at hx;have hx:V.ref es[n]=z:=ax hx;subst hx;obtain⟨j,hj,ej⟩:=List.getElem_of_mem (hem _ (a8 hi));obtain⟨ts,et,⟨bs,hbs,JV⟩⟩:=aft.get hj;rw[ej]at hbs;generalize es[n]=e at hbs ⊢;have hm:=aT et;have hok:=okL ts hm;have iV:=lnL ts hm;have hrw:=Bv iV.turn;have hnd:(ts.map λt=>My.rk (sw t)).Nodup:=by rw[b6]at hrw;exact tT (λ{a b} hab=>be hab) hrw
      have h7:=hok.len;have s16:=s15.trans s';refine(aj _ rfl (pZ e bs ts rfl (s16 _ _ hbs) (JV.mv s16) (hok.qJ r9 w9) hnd vE (λp1 bs1 ts1 H17 s17 hp1 hL1 JR pw1=>?_)));have e1:ts1=ts.map sw:=Bs pw1 hrw JR;subst e1;have aas:=s16.trans s17;refine(aj _ rfl (pZ e bs ts rfl (aas _ _ hbs) (JV.mv aas) (hok.qJ r9 w9) hnd vE (λp2 bs2 ts2 H18 s18 hp2 hL2 Gf pw2=>?_)));have e2':ts2=ts.map sw:=Bs pw2 hrw Gf;subst e2';have okS:=Oh (ts.map sw) ((Uw _).mp (by rw[<-hX];exact cy hm));have afv:∀(Hz:Hp) (q:Addr) (cs:List Addr),Hz q=some (.tup (cs.map V.ref))->cT Hz cs (ts.map sw)->fK K Hz 2 (oG (ts.map sw)) (.ref q):=λHz q cs h1 h2=>(vm.lay (K:=K) (aj cs h1 h2) okS.1 okS.2).1;refine(dM 2 (oG (ts.map sw)) (oG (ts.map sw)) vS (afv _ p1 bs1 (s18 _ _ hp1) (hL1.mv s18)) (afv _ p2 bs2 hp2 hL2) (aj _ rfl ?_));simp only[if_true,decide_true,eB];refine cA ?_;have Uz:=aas.trans s18;have Kv:=((s8t.trans s11).trans Ux).trans Uz;have cV:∀t∈ts,inB r w' t:=λt ht=>⟨(hok.cell t ht).1,(hok.cell t ht).2.1,(hok.cell t ht).2.2.2⟩
      have ag9:∀t∈ts.map sw,inB w' r t:=λt ht=>by obtain⟨u,hu,rfl⟩:=ar.mp ht;exact⟨(cV u hu).2.1,(cV u hu).1,(cV u hu).2.2⟩
      have h0:0<ts.length:=n0.mpr hok.ne;have B18:=B8.mv Kv;refine(aj _ rfl (aj _ rfl (aj _ rfl (aj _ rfl ⟨b,dw,pb,e,kvs,_,_,bs,ts,r,w',ao,aF,bi,bj,rfl,B18,Rd.of (Kv _ _ RB),hW,hB,Kv _ _ aaq,Uz _ _ hbs,JV.mv Uz,cV,h0,h7,iV.one,λH19 s19=>?_⟩))));have B19:=B18.mv s19;obtain⟨aha,_,_,_,ahb,_⟩:=id B19.ex;refine(aj _ rfl (dM b aha _ rfl ahb rfl (rO b r w' ao aF bi bj rfl B19 (λpt2 H20 s20 UG=>?_))));have Oi:=s19.trans s20;have Yc:=Uz.trans Oi;refine(aj _ rfl (aj _ rfl (aj _ rfl (pZ e bs ts rfl (Yc _ _ hbs) (JV.mv Yc) (hok.qJ r9 w9) hnd vE (λp3 bs3 ts3 H21 RD hp3 vY pm3 pw3=>?_)))));have e3:ts3=ts.map sw:=Bs pw3 hrw pm3;subst e3;have aa5:=(Kv.trans Oi).trans RD;refine⟨pt2,dw,pb,p3,kvs,_,_,bs3,ts.map sw,w',r,bx ao w',bx aF w',bj,bi,rfl,UG.mv RD,Rd.of (aa5 _ _ RB),hW,hB,aa5 _ _ aaq,hp3,vY,ag9,by rw[aa];exact h0,by rw[aa];exact h7,iV.turn.one,λH22 s22=>?_⟩;rw[aan O.br O.bm r9 w9 cV iV h0];refine⟨rfl,aj _ rfl ?_⟩;simp only[if_true,decide_true,eB];exact cA (aj _ rfl (((((s'.trans s17).trans s18).trans Oi).trans RD).trans s22))
     .rintro σ H' ⟨v13,rfl,s'⟩;have s8':=((s8t.trans s11).trans Ux).trans (s15.trans s');have B':=B8.mv s8';obtain⟨dx',_,_,_,ex',_⟩:=id B'.ex;refine(aj _ rfl (dM b dx' _ rfl ex' rfl (rO b r w' ao aF bi bj rfl B' (λpt2 H20 s20 UG=>?_))));obtain⟨dx2,_,_,_,ex2,_⟩:=id UG.ex;refine(dM pt2 dx2 _ rfl ex2 rfl (rO pt2 w' r (bx ao w') (bx aF w') bj bi rfl UG (λpt3 H21 RD afw=>?_)));have ahc:=(s8'.trans s20).trans RD;rw[Ob O.br,Ob O.bm]at afw;refine(aj _ rfl (aj _ rfl (zM pt3 k d Oe r w' ao aF bi bj g rk rfl afw (BK.same (X_.trans ahc)) zW Og hg JQ hbd (λp3 as3 L3 H22 s22 hp3 hY3 up3 nd3 hl3 QD=>?_))));have okN:∀ts∈L,ts≠[]/\∀t∈ts,qJ t:=λts h=>⟨(okL ts h).ne,(okL ts h).qJ r9 w9⟩
      have e3:L3=L:=Oc up3 up nd3 ndL (λz hz t ht=>by have:=(okN z ((Yb z).mpr ((QD z).mp hz))).2 t ht;exact⟨by have:=this.2.1;lia,this.2.2⟩) λz=>by rw[QD,Yb]
      subst e3;have afx:=(((s15.trans s').trans s20).trans RD).trans s22;refine(aj _ rfl (dM 3 (.tup (L3.map oG)) (.tup (L3.map oG)) vS (hY3.has hp3 okN) ((aft.mv afx).has (afx _ _ Uy) okN) ?_));have:=q H22;simpa using this
end
end My
end
namespace My
open PySem L2
section
variable {P:Program}{w:World}{K:W.Frag}{mg:Str->Option Value}{base:Heap}
def Yd {h:Heap}(X:K.In h)(G:h.Ns mainGlobals mg){x:Str}{a:Addr}{c1 c2 c3:Nat}{i1 i2 i3:Int}{t1 t2 t3 u1 u2 u3:Tok}{ep:Nat}(b:W.nsIn K mainGlobals x=some (some (.ref a)))(l:K.lookup a=some ⟨.type "dict",none,.dict #[⟨hashStr w (S [c1]),.str (S [c1]) t1,.int i1 u1⟩,⟨hashStr w (S [c2]),.str (S [c2]) t2,.int i2 u2⟩,⟨hashStr w (S [c3]),.str (S [c3]) t3,.int i3 u3⟩] ep,#[]⟩)(z:(a==sysModules)=false)(n:([c1,c2,c3]:List Nat).Nodup):∃a,mg x=some (.ref a)/\∀P:Program,KDict P w K a [(bQ [c1],.int i1),(bQ [c2],.int i2),(bQ [c3],.int i3)]:=by
 refine⟨a,ml X G b,λP=>⟨z,_,[(bQ [c1],.int i1 u1),(bQ [c2],.int i2 u2),(bQ [c3],.int i3 u3)],l,?_,?_⟩⟩;.exact .cons ⟨rfl,⟨_,rfl⟩⟩ (.cons ⟨rfl,⟨_,rfl⟩⟩ (.cons ⟨rfl,⟨_,rfl⟩⟩ .nil))
 .refine⟨_,_,⟨rfl,rfl,rfl⟩,rfl,?_,?_,?_⟩
  .intro e he;have he:e∈[(⟨hashStr w (S [c1]),.str (S [c1]) t1,.int i1 u1⟩:DictEntry),⟨hashStr w (S [c2]),.str (S [c2]) t2,.int i2 u2⟩,⟨hashStr w (S [c3]),.str (S [c3]) t3,.int i3 u3⟩]:=by simpa using he
   rcases bb.mp he with rfl|he;.exact⟨bQ [c1],ji _ _ _ _,rfl⟩
   rcases bb.mp he with rfl|he;.exact⟨bQ [c2],ji _ _ _ _,rfl⟩
   rcases bb.mp he with rfl|he;.exact⟨bQ [c3],ji _ _ _ _,rfl⟩
   .cases he
  .exact .cons (ji _ _ _ _) rfl (.cons (ji _ _ _ _) rfl (.cons (ji _ _ _ _) rfl .nil))
  .have e:([(bQ [c1],Value.int i1 u1),(bQ [c2],Value.int i2 u2),(bQ [c3],Value.int i3 u3)]:List (Key×Value)).map (·.1)=([c1,c2,c3]:List Nat).map (λc=>bQ [c]):=rfl;rw[e];refine List.Pairwise.map _ (λa b hab q=>hab ?_) n;have:=pX (qi q);simpa using this
structure yh (K:W.Frag)(mg:Str->Option Value)(C f0 f1 f2 f3 f4 f5:Addr)(oR lG fd2 yJ RG RJ:FuncData):Prop where
 T:d_ K C
 Ye:mg "Board"=some (.ref C)
 M:Mk K C f0
 F0:iD K "__init__" "Board.__init__" iH f0 oR
 b0:cj K oR ["self","rows","marks","begin"] []
 F1:iD K "at" "Board.at" jO f1 lG
 b1:cj K lG ["self","row","column"] []
 m1:Meth K C "at" f1
 F2:iD K "is_free" "Board.is_free" fP f2 fd2
 b2:cj K fd2 ["self"] []
 m2:Meth K C "is_free" f2
 F3:iD K "run" "Board.run" jl f3 yJ
 b3:cj K yJ ["self","row","column","way"] []
 m3:Meth K C "run" f3
 F4:iD K "turned" "Board.turned" gk f4 RG
 b4:cj K RG ["self"] []
 m4:Meth K C "turned" f4
 F5:iD K "laid" "Board.laid" iI f5 RJ
 b5:cj K RJ ["self","laying"] []
 m5:Meth K C "laid" f5
def aat {h:Heap}{C f0 f1 f2 f3 f4 f5:Addr}(X:K.In h)(G:h.Ns mainGlobals mg){od0 an0 od1 an1 od2 an2 od3 an3 od4 an4 od5 an5:Option Addr}{sl0 sl1 sl2 sl3 sl4 sl5:Array (Option Value)}{oc0 kV0 dc0 pm0 Yg ct0 oc1 kV1 dc1 JR Yh ct1 oc2 kV2 dc2 Gf Yi ct2 oc3 kV3 dc3 pm3 cd3 ct3 oc4 kV4 dc4 pm4 cd4 ct4 oc5 kV5 dc5 pm5 cd5 ct5:Value}(aC:W.nsIn K mainGlobals "Board"=some (some (.ref C)))(a0:W.findIn K (.ref C) "__init__"=some (some (.ref f0)))(i0:W.isFn K (.ref f0)=true)(l0:K.lookup f0=some ⟨oc0,od0,.func (W.fnOf "__init__" "Board.__init__" (eF iH) (cM iH) (aH iH) .none kV0 dc0 pm0 an0 Yg ct0),sl0⟩)(c0:W.codeIn K Yg "Board.__init__"=true)(k0:W.keepIn K (.ref f0)=true)(a1:W.findIn K (.ref C) "at"=some (some (.ref f1)))(i1:W.isFn K (.ref f1)=true)(l1:K.lookup f1=some ⟨oc1,od1,.func (W.fnOf "at" "Board.at" (eF jO) (cM jO) (aH jO) .none kV1 dc1 JR an1 Yh ct1),sl1⟩)(c1:W.codeIn K Yh "Board.at"=true)(k1:W.keepIn K (.ref f1)=true)(a2:W.findIn K (.ref C) "is_free"=some (some (.ref f2)))(i2:W.isFn K (.ref f2)=true)(l2:K.lookup f2=some ⟨oc2,od2,.func (W.fnOf "is_free" "Board.is_free" (eF fP) (cM fP) (aH fP) .none kV2 dc2 Gf an2 Yi ct2),sl2⟩)(c2:W.codeIn K Yi "Board.is_free"=true)(k2:W.keepIn K (.ref f2)=true)(a3:W.findIn K (.ref C) "run"=some (some (.ref f3)))(i3:W.isFn K (.ref f3)=true)(l3:K.lookup f3=some ⟨oc3,od3,.func (W.fnOf "run" "Board.run" (eF jl) (cM jl) (aH jl) .none kV3 dc3 pm3 an3 cd3 ct3),sl3⟩)(c3:W.codeIn K cd3 "Board.run"=true)(k3:W.keepIn K (.ref f3)=true)(a4:W.findIn K (.ref C) "turned"=some (some (.ref f4)))(i4:W.isFn K (.ref f4)=true)(l4:K.lookup f4=some ⟨oc4,od4,.func (W.fnOf "turned" "Board.turned" (eF gk) (cM gk) (aH gk) .none kV4 dc4 pm4 an4 cd4 ct4),sl4⟩)(c4:W.codeIn K cd4 "Board.turned"=true)(k4:W.keepIn K (.ref f4)=true)(a5:W.findIn K (.ref C) "laid"=some (some (.ref f5)))(i5:W.isFn K (.ref f5)=true)(l5:K.lookup f5=some ⟨oc5,od5,.func (W.fnOf "laid" "Board.laid" (eF iI) (cM iI) (aH iI) .none kV5 dc5 pm5 an5 cd5 ct5),sl5⟩)(c5:W.codeIn K cd5 "Board.laid"=true)(k5:W.keepIn K (.ref f5)=true)(pg:W.plainGet K C Str.empty=true)(hd:W.hasDictIn K C=true)(po:W.plainOver K C=true)(sa:W.findIn K (.ref C) "__setattr__"=some (some (.builtin "object.__setattr__")))(mk:W.makesIn K C=true)(kc:W.keepIn K (.ref C)=true)(Oj:W.findIn K (.ref C) "rows"=some none)(nf1:W.findIn K (.ref C) "marks"=some none)(nf2:W.findIn K (.ref C) "begin"=some none):∃C f0 f1 f2 f3 f4 f5 oR lG fd2 yJ RG RJ,yh K mg C f0 f1 f2 f3 f4 f5 oR lG fd2 yJ RG RJ:=by have F0:=jV (st:=iH) l0 c0 k0;have F1:=jV (st:=jO) l1 c1 k1;have F2:=jV (st:=fP) l2 c2 k2;have F3:=jV (st:=jl) l3 c3 k3;have F4:=jV (st:=gk) l4 c4 k4;have F5:=jV (st:=iI) l5 c5 k5;exact⟨C,f0,f1,f2,f3,f4,f5,_,_,_,_,_,_,⟨⟨pg,hd,po,sa⟩,Oj,nf1,nf2⟩,ml X G aC,⟨mk,a0,i0,kc⟩,F0,F0.binds (ps:=["self","rows","marks","begin"]) (λ_ _ _ _ _ _ us hl=>L2.e4 (λ_ _ _ _=>rfl) us hl),F1,F1.binds (ps:=["self","row","column"]) (λ_ _ _ _ _ _ us hl=>L2.e3 (λ_ _ _=>rfl) us hl),⟨a1,i1,k1⟩,F2,F2.binds (ps:=["self"]) (λ_ _ _ _ _ _ us hl=>L2.e1 (λ_=>rfl) us hl),⟨a2,i2,k2⟩,F3,F3.binds (ps:=["self","row","column","way"]) (λ_ _ _ _ _ _ us hl=>L2.e4 (λ_ _ _ _=>rfl) us hl),⟨a3,i3,k3⟩,F4,F4.binds (ps:=["self"]) (λ_ _ _ _ _ _ us hl=>L2.e1 (λ_=>rfl) us hl),⟨a4,i4,k4⟩,F5,F5.binds (ps:=["self","laying"]) (λ_ _ _ _ _ _ us hl=>L2.e2 (λ_ _=>rfl) us hl),⟨a5,i5,k5⟩⟩
structure zZ (K:W.Frag)(mg:Str->Option Value)(C f0 f1 f2:Addr)(oR lG fd2:FuncData):Prop where
 T:pQ K C
 Ye:mg "Book"=some (.ref C)
 M:Mk K C f0
 F0:iD K "__init__" "Book.__init__" jm f0 oR
 b0:cj K oR ["self","words"] []
 F1:iD K "has" "Book.has" jR f1 lG
 b1:cj K lG ["self","text"] []
 m1:Meth K C "has" f1
 F2:iD K "words" "Book.words" iK f2 fd2
 b2:cj K fd2 ["self"] []
 m2:Meth K C "words" f2
def acF {h:Heap}{C f0 f1 f2:Addr}(X:K.In h)(G:h.Ns mainGlobals mg){od0 an0 od1 an1 od2 an2:Option Addr}{sl0 sl1 sl2:Array (Option Value)}{oc0 kV0 dc0 pm0 Yg ct0 oc1 kV1 dc1 JR Yh ct1 oc2 kV2 dc2 Gf Yi ct2:Value}(aC:W.nsIn K mainGlobals "Book"=some (some (.ref C)))(a0:W.findIn K (.ref C) "__init__"=some (some (.ref f0)))(i0:W.isFn K (.ref f0)=true)(l0:K.lookup f0=some ⟨oc0,od0,.func (W.fnOf "__init__" "Book.__init__" (eF jm) (cM jm) (aH jm) .none kV0 dc0 pm0 an0 Yg ct0),sl0⟩)(c0:W.codeIn K Yg "Book.__init__"=true)(k0:W.keepIn K (.ref f0)=true)(a1:W.findIn K (.ref C) "has"=some (some (.ref f1)))(i1:W.isFn K (.ref f1)=true)(l1:K.lookup f1=some ⟨oc1,od1,.func (W.fnOf "has" "Book.has" (eF jR) (cM jR) (aH jR) .none kV1 dc1 JR an1 Yh ct1),sl1⟩)(c1:W.codeIn K Yh "Book.has"=true)(k1:W.keepIn K (.ref f1)=true)(a2:W.findIn K (.ref C) "words"=some (some (.ref f2)))(i2:W.isFn K (.ref f2)=true)(l2:K.lookup f2=some ⟨oc2,od2,.func (W.fnOf "words" "Book.words" (eF iK) (cM iK) (aH iK) .none kV2 dc2 Gf an2 Yi ct2),sl2⟩)(c2:W.codeIn K Yi "Book.words"=true)(k2:W.keepIn K (.ref f2)=true)(pg:W.plainGet K C Str.empty=true)(hd:W.hasDictIn K C=true)(po:W.plainOver K C=true)(sa:W.findIn K (.ref C) "__setattr__"=some (some (.builtin "object.__setattr__")))(mk:W.makesIn K C=true)(kc:W.keepIn K (.ref C)=true)(Oj:W.findIn K (.ref C) "held"=some none):∃C f0 f1 f2 oR lG fd2,zZ K mg C f0 f1 f2 oR lG fd2:=by have F0:=jV (st:=jm) l0 c0 k0;have F1:=jV (st:=jR) l1 c1 k1;have F2:=jV (st:=iK) l2 c2 k2;exact⟨C,f0,f1,f2,_,_,_,⟨⟨pg,hd,po,sa⟩,Oj⟩,ml X G aC,⟨mk,a0,i0,kc⟩,F0,F0.binds (ps:=["self","words"]) (λ_ _ _ _ _ _ us hl=>L2.e2 (λ_ _=>rfl) us hl),F1,F1.binds (ps:=["self","text"]) (λ_ _ _ _ _ _ us hl=>L2.e2 (λ_ _=>rfl) us hl),⟨a1,i1,k1⟩,F2,F2.binds (ps:=["self"]) (λ_ _ _ _ _ _ us hl=>L2.e1 (λ_=>rfl) us hl),⟨a2,i2,k2⟩⟩
def acG (bI:mg "len"=none)(fV:mg "range"=none)(dR:mg "sorted"=none)(bN:mg "tuple"=none)(lu:mg "list"=none)(cR:mg "isinstance"=none)(zQ:mg "bool"=none)(kO:mg "int"=none)(Bo:mg "str"=none)(fZ:mg "all"=none)(uQ:mg "any"=none)(Gm:mg "sum"=none)(Ge:mg "set"=none)(cJ:mg "enumerate"=none)(Ga:mg "zip"=none)(Gh:mg "min"=none)(dH:∃t,mg "FREE"=some (.str (S [46]) t))(vZ:∃t,mg "MARKS"=some (.str (S MK) t))(vX:∃t,mg "MOST"=some (.int 9 t))(nQ:∃t,mg "LETTERS"=some (.str (S AL) t))(lJ:∃t,mg "MOST_TILES"=some (.int 7 t))(yj:aK K mg "is_whole" rP ["thing"])(z_:aK K mg "is_sign" uG ["thing"])(vq:aK K mg "letter_of" qe ["sign"])(Aa:aK K mg "tile_of" uH ["sign"])(o7:aK K mg "turned_laying" kE ["laying"])(yp:aK K mg "is_block" rQ ["thing"])(yq:aK K mg "are_rows" rR ["thing"])(vA:aK K mg "are_marks" qj ["thing"])(uf:aK K mg "is_cell_of" oH ["rows","row","column"])(qY:aK K mg "is_begin_of" mV ["rows","thing"])(yr:aK K mg "is_board" rT ["rows","marks","begin"])(qZ:aK K mg "column_text" mW ["rows","column"])(q_:aK K mg "turned_rows" mX ["rows"])(yt:aK K mg "cells_of" rU ["laying"])(vB:aK K mg "is_across" ql ["laying"])(lK:aK K mg "is_next_to_taken" jf ["board","row","column"])(Du:aK K mg "formed" xJ ["board","laying"])(o8:aK K mg "cross_letters" kI ["board","book","row","column","way"])(ug:aK K mg "free_cells" oJ ["board"])(HS:aK K mg "hooks" Bh ["board"])(Dv:aK K mg "starts" xK ["board","word"])(nG:aK K mg "letters_to_lay" jP ["board","row","column","word"])(pU:aK K mg "letters_down" lW ["board","book"])(rA:aK K mg "can_be_laid" mZ ["triples","fitting","joining"])(uh:aK K mg "sign_texts" jD ["letters","rack"])(um:aK K mg "layings_of" oK ["triples","rack"])(nH:aK K mg "layings_across" jQ ["board","book","rack"])(rB:aK K mg "all_layings" m9 ["board","book","rack"])(Ab:aK K mg "is_word" uK ["text"])(uo:aK K mg "check_word" oM ["text"])(yu:aK K mg "worth_of" rW ["worths","sign"])(Ac:aK K mg "cell_in" uL ["word","place"])(rC:aK K mg "word_points" m_ ["board","worths","laying","word"])(yw:aK K mg "bonus_of" rY ["bonus","laying"])(vC:aK K mg "points_of" qm ["board","worths","bonus","laying"])(Ad:aK K mg "_law_cell_at" uM ["_law_script","_law_k"])(Ol:aK K mg "_law_next" Fg ["_law_x"])(HW:aK K mg "_law_other" Bj ["_law_x"])(Dw:aK K mg "_law_number" xM ["_law_script","_law_k"])(Dy:aK K mg "_law_digits" xO ["_law_script","_law_k","_law_base","_law_many"])(Ae:aK K mg "_law_letters" uN ["_law_script","_law_k"])(HX:aK K mg "_law_words" Bk ["_law_letters_here","_law_script","_law_start","_law_many"])(Om:aK K mg "_law_size" Fi ["_law_x"])(HY:aK K mg "_law_board" Bl ["_law_letters_here","_law_script","_law_start","_law_x"])(Oo:aK K mg "_law_rack" Fj ["_law_letters_here","_law_script","_law_k","_law_most"])(Dz:aK K mg "_law_turned" xP ["_law_laying"]){acH acI acJ acK acL acM acN:Addr}{aau aav aaw aax aay aaz:FuncData}(bC:yh K mg acH acI acJ acK acL acM acN aau aav aaw aax aay aaz){afy afz afA afB:Addr}{acO acP acQ:FuncData}(h_:zZ K mg afy afz afA afB acO acP acQ){gl gw:Addr}(kl:mg "LETTER_MARKS"=some (.ref gl)/\∀P:Program,KDict P w K gl Rr)(kw:mg "WORD_MARKS"=some (.ref gw)/\∀P:Program,KDict P w K gw Rt){f:Addr}{fd:FuncData}(F:iD K "law" "law" Ku f fd):cL P w K mg base fW 20 f fd ["_law_script"] (Ko K):=by have c1:=TV (P:=P) (w:=w) (base:=base) Ad bI;have c2:=ab9 (P:=P) (w:=w) (base:=base) Ol;have c3:=ZK (P:=P) (w:=w) (base:=base) HW;have c4:=WK Dw c1 c2 c3;have c5:=WL Dy fV c1 c2 c3 c4;have c6:=TX Ae lu c5;have c7:=Pj HX bI fV dR lu c5;have c8:=acd (P:=P) (w:=w) (base:=base) Om;have p1:=TF (P:=P) (w:=w) (base:=base) z_ bI Bo cR;have p2:=Pk (P:=P) (w:=w) (base:=base) yj kO zQ cR;have p3:=Pn (P:=P) (w:=w) (base:=base) yp bI bN Bo fZ cR vX;have p4:=Pq yq fZ dH p3 p1;have p5:=M6 vA fZ vZ p3;have p6:=J_ uf bI p2;have p7:=Hq qY bI bN cR p6;have p8:=Pr yr bI p4 p5 p7;have p9:=Hr (P:=P) (w:=w) (base:=base) qZ;have pA:=Hu q_ bI fV bN p9;have g0:=Kc bC.F0 bC.T p8;have g1:=agd bC.F1 bC.T dH p6;have g2:=T7 (P:=P) (w:=w) (base:=base) bC.F2 bC.T fZ dH;have g3:=aeR bC.F3 bC.T bI dH p9;have g4:=W7 bC.F4 bC.T bC.Ye bC.M g0 bC.b0 pA;have g5:=acj bC.F5 bC.T lu bN bC.Ye bC.M g0 bC.b0;have w1:=TY (P:=P) (w:=w) (base:=base) Ab bI fZ;have w2:=J9 uo w1;have k0:=acg h_.F0 h_.T w2;have k1:=aeO (P:=P) (w:=w) (mg:=mg) (base:=base) h_.F1 h_.T;have k2:=ZQ (P:=P) (w:=w) (base:=base) h_.F2 h_.T dR bN;have x3:=Nf HY bI fV bN kO bC.Ye bC.M g0 bC.b0 c8 c5;have x4:=Dh o8 bI nQ bC.T h_.T bC.m5 g5 bC.b5 bC.m3 g3 bC.b3 h_.m1 k1 h_.b1;have y1:=Ue lK uQ dH bC.T bC.m1 g1 bC.b1;have y2:=Kd (P:=P) (w:=w) (base:=base) ug cJ dH bC.T;have y3:=Z4 HS bN bC.T bC.m2 g2 bC.b2 y2 y1;have y4:=Dj (P:=P) (w:=w) (base:=base) o7 bN dR;have z1:=Px (P:=P) (w:=w) (base:=base) yt;have z2:=Np (P:=P) (w:=w) (base:=base) vq;have z3:=Xj (P:=P) (w:=w) (base:=base) Dv bI fV bC.T;have z4:=Bx nG bI cJ dH bC.T bC.m1 g1 bC.b1 z2;have z5:=FT pU y2 x4;have z6:=Hy rA bI fZ uQ lJ z1;have z7:=Ke (P:=P) (w:=w) (base:=base) uh Aa;have z8:=Kf um bN Ga z1 z7;have z9:=BJ nH h_.T h_.m2 k2 h_.b2 z5 y3 z3 z4 z6 z8;have za:=HF rB Ge dR bN bC.T bC.m4 g4 bC.b4 z9 y4;have zc:=acz Oo bI Gh kO c5;have x5:=N5 (P:=P) (w:=w) (base:=base) vB fZ;have x6:=Xz Du bI bN bC.T bC.m5 g5 bC.b5 bC.m3 g3 bC.b3 x5;have q2:=Uk (P:=P) (w:=w) (base:=base) Ac;have q3:=PL (P:=P) (w:=w) (base:=base) yu;have q4:=XH rC cJ bC.T kl.1 kw.1 (kl.2 P) (kw.2 P) z1 q2 q3;have q8:=PN (P:=P) (w:=w) (base:=base) yw bI;have q9:=Oa vC Gm x6 q4 q8;have qA:=Kl (P:=P) (w:=w) (base:=base) Dz bN dR;exact(afg F bI bN kO dR cJ bC.T bC.m4 g4 bC.b4 h_.T h_.Ye h_.M k0 h_.b0 c2 c6 c4 c7 x3 zc za y4 qA q9).mono vS
end
end My
namespace PySem.W.Fast
abbrev U:=True
def tw14417987357959891805:=U
def tw17194722178007904773:=U
def tw8379028103274882824:=U
def tw2027072798262434688:=U
def tw10297583134538244284:=U
def tw14651512903323685978:=U
def tw11055683291307320985:=U
def tw2503758706732553809:=U
def tw13171424148140920256:=U
def tw3758492723513918191:=U
def tw3686095741560353503:=U
def tw16683570059431419540:=U
def tw1655450616962623599:=U
def tw9450270635770066656:=U
def tw12200049552680234604:=U
def tw15227482235870145366:=U
def tw9431723274750137694:=U
def tw6996035868614415993:=U
def tw16749508514465735580:=U
def tw11217647368840161212:=U
def tw15344959914322362233:=U
def tw8586559777149709457:=U
def tw8922009838123383171:=U
def tw16201085728862312097:=U
def tw16206183683811964972:=U
def tw4399623229448573505:=U
def tw9936643817658563431:=U
def tw11569741775404201001:=U
def tw858194177687664763:=U
def tw4326067818259830564:=U
def tw2477600637763422151:=U
def tw17840393357030705608:=U
def tw8888499511126857411:=U
def tw11234710056416964504:=U
def tw4161172993406562512:=U
def tw417412304532884432:=U
def tw2322800764175716205:=U
def tw18424933842674191069:=U
def tw4728037112970208277:=U
def tw16642901767832333852:=U
def tw5449514156381816587:=U
def tw801255013557980179:=U
def tw15719094110123324745:=U
def tw2805872001908635846:=U
def tw11419807809045127663:=U
def tw15289637775538874529:=U
def tw6497473112402157700:=U
def tw12773390841955077426:=U
def tw4170463590764233501:=U
def tw9705322759240927485:=U
def tw10849974796148441322:=U
def tw11898806416020892966:=U
def tw3362656249408056974:=U
def tw10712966359940320004:=U
def tw9038732371273889769:=U
def tw13906031432680007829:=U
def tw8174293603207755033:=U
def tw16878317352159067408:=U
def tw2951665637888109368:=U
def tw11108671186506578489:=U
def tw1064160885245128295:=U
def tw15377512536526972556:=U
def tw15458427541267944419:=U
def tw8133014666992834768:=U
def tw17668365465944793490:=U
def tw11709184006252850455:=U
def tw6505471543337907960:=U
def tw3230323372331296475:=U
def tw1751165289727635681:=U
def tw5618923649255359984:=U
def tw8395606725556133623:=U
def tw10219186510787017476:=U
def tw5902622420993800507:=U
def tw8419242150913302421:=U
def tw13709323650136737647:=U
def tw298308188626379630:=U
def tw10398690256701497465:=U
def tw9035957550273602154:=U
def tw4826704951966654429:=U
def tw6310456114973660432:=U
def tw5161703675519592761:=U
def tw2588887142826154633:=U
def tw13123895036355010780:=U
def tw8804998915719372587:=U
def tw8851872435605196402:=U
def tw11303830601330224267:=U
def tw9502752866498255467:=U
def tw2672777856001941097:=U
def tw2563630186935293306:=U
def tw6560405556181336497:=U
def tw2532585712359143978:=U
def tw16711778181397061960:=U
def tw17242189799293569191:=U
def tw17117688128270044642:=U
def tw961181803859051363:=U
def tw15187039472381260144:=U
def tw13683083311755396575:=U
def tw2445871550955722277:=U
def tw1244444486455703660:=U
def tw9010832134568504612:=U
def tw8742417093192235052:=U
def tw12036391545871441996:=U
def tw10529804512109342786:=U
def tw6399225626058732009:=U
def tw6308613996848193443:=U
def tw8269859339131964502:=U
def tw16895323013203750281:=U
def tw1450226144327572916:=U
def tw18305092860323349489:=U
def tw2881630587814503317:=U
def tw14350296149698270332:=U
def tw2618063745469197759:=U
def tw7698901218897595826:=U
def tw17491739716428936889:=U
def tw13085319225461277234:=U
def tw3888722445465560654:=U
def tw5150428185926073859:=U
def tw4849849779195162852:=U
def tw11915028043112046090:=U
def tw8251671646706046191:=U
def tw12743915182301430503:=U
def tw12076959249285480200:=U
def tw10415056855354798153:=U
def tw1592302975168556841:=U
def tw5364082485326771345:=U
def tw14537779320917424978:=U
def tw5874973549081524710:=U
def tw3823925054207638693:=U
def tw12978245382003663384:=U
def tw13858567535162874754:=U
end PySem.W.Fast
open PySem PySem.W PyProof.Rows
def L2.dK {K:W.Frag}{h:Heap}{mg:Str->Option Value}{name:Str}{st:Stmt}{ps:List Str}{f:Addr}{oc:Value}{od an:Option Addr}{osl:Array (Option Value)}{kV doc pm bD ct:Value}(X:K.In h)(G:h.Ns mainGlobals mg)(a:W.nsIn K mainGlobals name=some (some (.ref f)):=by k_is)(l:K.lookup f=some ⟨oc,od,.func (W.fnOf name name (L2.eF st) (L2.cM st) (L2.aH st) .none kV doc pm an bD ct),osl⟩:=by k_is)(c:W.codeIn K bD name=true:=by k_is)(k:W.keepIn K (.ref f)=true:=by k_is)(hb:∀(kV doc pm:Value) (an:Option Addr) (bD ct:Value) (us:List Value),us.length=ps.length->bindArgs (W.fnOf name name (L2.eF st) (L2.cM st) (L2.aH st) .none kV doc pm an bD ct) ⟨us,[]⟩=pure (ps.zip us):=by intro _ _ _ _ _ _ us hl;first|exact(L2.e1 (λ_=>rfl) us hl)|exact(L2.e2 (λ_ _=>rfl) us hl)|exact(L2.e3 (λ_ _ _=>rfl) us hl)|exact(L2.e4 (λ_ _ _ _=>rfl) us hl)|exact(L2.e5 (λ_ _ _ _ _=>rfl) us hl)):L2.aK (L2.KOf X) mg name st ps:=L2.YT X G a l c k hb
set_option maxRecDepth 100000 in
set_option maxHeartbeats 0 in
theorem PySem.Challenge.cw_letterrack_k45_the_turned_board_holds : PySem.Challenge.rw_letterrack_k45_the_turned_board.Holds := by
 w_on;o_law;k_head;(case hw=>w_witness2)
 k_fill
 refine L2.abC (x:="_law_script") (l:=PySem.Challenge.rw_letterrack_k45_the_turned_board) rfl rfl (λw h Y=>W.kIn_of Y) ?F
 case F=>
  intro w mg fa h KX G hmg;have bI:mg "len"=none:=by
   refine' di KX G ?z
   (case z=>k_is)
  have fV:mg "range"=none:=by
   refine' di KX G ?z
   (case z=>k_is)
  have dR:mg "sorted"=none:=by
   refine' di KX G ?z
   (case z=>k_is)
  have bN:mg "tuple"=none:=by
   refine' di KX G ?z
   (case z=>k_is)
  have lu:mg "list"=none:=by
   refine' di KX G ?z
   (case z=>k_is)
  have cR:mg "isinstance"=none:=by
   refine' di KX G ?z
   (case z=>k_is)
  have zQ:mg "bool"=none:=by
   refine' di KX G ?z
   (case z=>k_is)
  have kO:mg "int"=none:=by
   refine' di KX G ?z
   (case z=>k_is)
  have Bo:mg "str"=none:=by
   refine' di KX G ?z
   (case z=>k_is)
  have fZ:mg "all"=none:=by
   refine' di KX G ?z
   (case z=>k_is)
  have uQ:mg "any"=none:=by
   refine' di KX G ?z
   (case z=>k_is)
  have Gm:mg "sum"=none:=by
   refine' di KX G ?z
   (case z=>k_is)
  have Ge:mg "set"=none:=by
   refine' di KX G ?z
   (case z=>k_is)
  have cJ:mg "enumerate"=none:=by
   refine' di KX G ?z
   (case z=>k_is)
  have Ga:mg "zip"=none:=by
   refine' di KX G ?z
   (case z=>k_is)
  have Gh:mg "min"=none:=by
   refine' di KX G ?z
   (case z=>k_is)
  have dH:∃t,mg "FREE"=some (.str (L2.S [46]) t):=by
   refine' L2.CJ KX G ?z
   (case z=>k_is)
  have vZ:∃t,mg "MARKS"=some (.str (L2.S My.MK) t):=by
   refine' L2.CJ KX G ?z
   (case z=>k_is)
  have vX:∃t,mg "MOST"=some (.int 9 t):=by
   refine' L2.Lb KX G ?z
   (case z=>k_is)
  have nQ:∃t,mg "LETTERS"=some (.str (L2.S L2.AL) t):=by
   refine' L2.CJ KX G ?z
   (case z=>k_is)
  have lJ:∃t,mg "MOST_TILES"=some (.int 7 t):=by
   refine' L2.Lb KX G ?z
   (case z=>k_is)
  have yj:L2.aK (L2.KOf KX) mg "is_whole" My.rP ["thing"]:=L2.dK KX G;have z_:L2.aK (L2.KOf KX) mg "is_sign" My.uG ["thing"]:=L2.dK KX G;have vq:L2.aK (L2.KOf KX) mg "letter_of" My.qe ["sign"]:=L2.dK KX G;have Aa:L2.aK (L2.KOf KX) mg "tile_of" My.uH ["sign"]:=L2.dK KX G;have o7:L2.aK (L2.KOf KX) mg "turned_laying" My.kE ["laying"]:=L2.dK KX G;have yp:L2.aK (L2.KOf KX) mg "is_block" My.rQ ["thing"]:=L2.dK KX G;have yq:L2.aK (L2.KOf KX) mg "are_rows" My.rR ["thing"]:=L2.dK KX G;have vA:L2.aK (L2.KOf KX) mg "are_marks" My.qj ["thing"]:=L2.dK KX G;have uf:L2.aK (L2.KOf KX) mg "is_cell_of" My.oH ["rows","row","column"]:=L2.dK KX G;have qY:L2.aK (L2.KOf KX) mg "is_begin_of" My.mV ["rows","thing"]:=L2.dK KX G;have yr:L2.aK (L2.KOf KX) mg "is_board" My.rT ["rows","marks","begin"]:=L2.dK KX G;have qZ:L2.aK (L2.KOf KX) mg "column_text" My.mW ["rows","column"]:=L2.dK KX G;have q_:L2.aK (L2.KOf KX) mg "turned_rows" My.mX ["rows"]:=L2.dK KX G;have yt:L2.aK (L2.KOf KX) mg "cells_of" My.rU ["laying"]:=L2.dK KX G;have vB:L2.aK (L2.KOf KX) mg "is_across" My.ql ["laying"]:=L2.dK KX G;have lK:L2.aK (L2.KOf KX) mg "is_next_to_taken" My.jf ["board","row","column"]:=L2.dK KX G;have Du:L2.aK (L2.KOf KX) mg "formed" My.xJ ["board","laying"]:=L2.dK KX G;have o8:L2.aK (L2.KOf KX) mg "cross_letters" My.kI ["board","book","row","column","way"]:=L2.dK KX G;have ug:L2.aK (L2.KOf KX) mg "free_cells" My.oJ ["board"]:=L2.dK KX G;have HS:L2.aK (L2.KOf KX) mg "hooks" My.Bh ["board"]:=L2.dK KX G;have Dv:L2.aK (L2.KOf KX) mg "starts" My.xK ["board","word"]:=L2.dK KX G;have nG:L2.aK (L2.KOf KX) mg "letters_to_lay" My.jP ["board","row","column","word"]:=L2.dK KX G;have pU:L2.aK (L2.KOf KX) mg "letters_down" My.lW ["board","book"]:=L2.dK KX G;have rA:L2.aK (L2.KOf KX) mg "can_be_laid" My.mZ ["triples","fitting","joining"]:=L2.dK KX G;have uh:L2.aK (L2.KOf KX) mg "sign_texts" My.jD ["letters","rack"]:=L2.dK KX G;have um:L2.aK (L2.KOf KX) mg "layings_of" My.oK ["triples","rack"]:=L2.dK KX G;have nH:L2.aK (L2.KOf KX) mg "layings_across" My.jQ ["board","book","rack"]:=L2.dK KX G;have rB:L2.aK (L2.KOf KX) mg "all_layings" My.m9 ["board","book","rack"]:=L2.dK KX G;have Ab:L2.aK (L2.KOf KX) mg "is_word" My.uK ["text"]:=L2.dK KX G;have uo:L2.aK (L2.KOf KX) mg "check_word" My.oM ["text"]:=L2.dK KX G;have yu:L2.aK (L2.KOf KX) mg "worth_of" My.rW ["worths","sign"]:=L2.dK KX G;have Ac:L2.aK (L2.KOf KX) mg "cell_in" My.uL ["word","place"]:=L2.dK KX G;have rC:L2.aK (L2.KOf KX) mg "word_points" My.m_ ["board","worths","laying","word"]:=L2.dK KX G;have yw:L2.aK (L2.KOf KX) mg "bonus_of" My.rY ["bonus","laying"]:=L2.dK KX G;have vC:L2.aK (L2.KOf KX) mg "points_of" My.qm ["board","worths","bonus","laying"]:=L2.dK KX G;have Ad:L2.aK (L2.KOf KX) mg "_law_cell_at" My.uM ["_law_script","_law_k"]:=L2.dK KX G;have Ol:L2.aK (L2.KOf KX) mg "_law_next" My.Fg ["_law_x"]:=L2.dK KX G;have HW:L2.aK (L2.KOf KX) mg "_law_other" My.Bj ["_law_x"]:=L2.dK KX G;have Dw:L2.aK (L2.KOf KX) mg "_law_number" My.xM ["_law_script","_law_k"]:=L2.dK KX G;have Dy:L2.aK (L2.KOf KX) mg "_law_digits" My.xO ["_law_script","_law_k","_law_base","_law_many"]:=L2.dK KX G;have Ae:L2.aK (L2.KOf KX) mg "_law_letters" My.uN ["_law_script","_law_k"]:=L2.dK KX G;have HX:L2.aK (L2.KOf KX) mg "_law_words" My.Bk ["_law_letters_here","_law_script","_law_start","_law_many"]:=L2.dK KX G;have Om:L2.aK (L2.KOf KX) mg "_law_size" My.Fi ["_law_x"]:=L2.dK KX G;have HY:L2.aK (L2.KOf KX) mg "_law_board" My.Bl ["_law_letters_here","_law_script","_law_start","_law_x"]:=L2.dK KX G;have Oo:L2.aK (L2.KOf KX) mg "_law_rack" My.Fj ["_law_letters_here","_law_script","_law_k","_law_most"]:=L2.dK KX G;have Dz:L2.aK (L2.KOf KX) mg "_law_turned" My.xP ["_law_laying"]:=L2.dK KX G;have Yj:∃C f0 f1 f2 f3 f4 f5 oR lG fd2 yJ RG RJ,My.yh (L2.KOf KX) mg C f0 f1 f2 f3 f4 f5 oR lG fd2 yJ RG RJ:=by
   dsimp only[L2.KOf];refine' My.aat KX G ?aC ?a0 ?i0 ?l0 ?c0 ?k0 ?a1 ?i1 ?l1 ?c1 ?k1 ?a2 ?i2 ?l2 ?c2 ?k2 ?a3 ?i3 ?l3 ?c3 ?k3 ?a4 ?i4 ?l4 ?c4 ?k4 ?a5 ?i5 ?l5 ?c5 ?k5 ?pg ?hd ?po ?sa ?mk ?kc ?Oj ?nf1 ?nf2
   (case aC=>k_is)
   (case a0=>k_is)
   (case i0=>k_is)
   (case l0=>k_is)
   (case c0=>k_is)
   (case k0=>k_is)
   (case a1=>k_is)
   (case i1=>k_is)
   (case l1=>k_is)
   (case c1=>k_is)
   (case k1=>k_is)
   (case a2=>k_is)
   (case i2=>k_is)
   (case l2=>k_is)
   (case c2=>k_is)
   (case k2=>k_is)
   (case a3=>k_is)
   (case i3=>k_is)
   (case l3=>k_is)
   (case c3=>k_is)
   (case k3=>k_is)
   (case a4=>k_is)
   (case i4=>k_is)
   (case l4=>k_is)
   (case c4=>k_is)
   (case k4=>k_is)
   (case a5=>k_is)
   (case i5=>k_is)
   (case l5=>k_is)
   (case c5=>k_is)
   (case k5=>k_is)
   (case pg=>k_is)
   (case hd=>k_is)
   (case po=>k_is)
   (case sa=>k_is)
   (case mk=>k_is)
   (case kc=>k_is)
   (case Oj=>k_is)
   (case nf1=>k_is)
   (case nf2=>k_is)
  obtain⟨_,_,_,_,_,_,_,_,_,_,_,_,_,aaA⟩:=Yj;have aaB:∃C f0 f1 f2 oR lG fd2,My.zZ (L2.KOf KX) mg C f0 f1 f2 oR lG fd2:=by
   dsimp only[L2.KOf];refine' My.acF KX G ?aC ?a0 ?i0 ?l0 ?c0 ?k0 ?a1 ?i1 ?l1 ?c1 ?k1 ?a2 ?i2 ?l2 ?c2 ?k2 ?pg ?hd ?po ?sa ?mk ?kc ?Oj
   (case aC=>k_is)
   (case a0=>k_is)
   (case i0=>k_is)
   (case l0=>k_is)
   (case c0=>k_is)
   (case k0=>k_is)
   (case a1=>k_is)
   (case i1=>k_is)
   (case l1=>k_is)
   (case c1=>k_is)
   (case k1=>k_is)
   (case a2=>k_is)
   (case i2=>k_is)
   (case l2=>k_is)
   (case c2=>k_is)
   (case k2=>k_is)
   (case pg=>k_is)
   (case hd=>k_is)
   (case po=>k_is)
   (case sa=>k_is)
   (case mk=>k_is)
   (case kc=>k_is)
   (case Oj=>k_is)
  obtain⟨_,_,_,_,_,_,_,acR⟩:=aaB;have xkl:∃a,mg "LETTER_MARKS"=some (.ref a)/\∀P:Program,L2.KDict P w (L2.KOf KX) a My.Rr:=by
   dsimp only[L2.KOf];refine' My.Yd KX G ?b ?l ?z ?n
   (case b=>k_is)
   (case l=>k_is)
   (case z=>rfl)
   (case n=>decide)
  obtain⟨_,kl⟩:=xkl;have xkw:∃a,mg "WORD_MARKS"=some (.ref a)/\∀P:Program,L2.KDict P w (L2.KOf KX) a My.Rt:=by
   dsimp only[L2.KOf];refine' My.Yd KX G ?b ?l ?z ?n
   (case b=>k_is)
   (case l=>k_is)
   (case z=>rfl)
   (case n=>decide)
  obtain⟨_,kw⟩:=xkw;have lw:∃fd:FuncData,L2.iD (L2.KOf KX) "law" "law" My.Ku fa fd/\∀(s:Shared) (v:Value),BindsTo s fd ⟨[v],[]⟩ [("_law_script",v)]:=by
   dsimp only[L2.KOf];refine' L2.adY KX G hmg ?a ?l ?c ?k ?b
   case a|l|c|k=>k_is
   (case b=>exact λ_ _ _ _ _ _ _=>rfl)
  obtain⟨fd,F,hb⟩:=lw;exact⟨fd,hb,λbase _ _=>My.acG bI fV dR bN lu cR zQ kO Bo fZ uQ Gm Ge cJ Ga Gh dH vZ vX nQ lJ yj z_ vq Aa o7 yp yq vA uf qY yr qZ q_ yt vB lK Du o8 ug HS Dv nG pU rA uh um nH rB Ab uo yu Ac rC yw vC Ad Ol HW Dw Dy Ae HX Om HY Oo Dz aaA acR kl kw F⟩

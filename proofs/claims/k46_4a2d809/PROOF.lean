import PyProof.Rows.All
import Wide.All
import OpenK.AllK
import Wide.FinOn
import Lean
import PyProof.EqAt
import PyProof.EqKinds
import PyProof.TupleCall
import KE.KRevIter
import PyProof.JoinWalk
import PyProof.CollectIter
import KE.KDictSum
import KE.KSortTup
import PyProof.ListMulRoad
import PyProof.Rows.SeqMore
import PyProof.FactsAll.tuple_2
import PyProof.WalkInts
import PyProof.SeqI3
import KE.KIntText
import KE.KEqDict
import KE.KDictOf
import PyProof.Rows.SetFrom
import KE.KDictLaws
import PyProof.DictItems
import KE.KPairComp
import KE.KRevSl
import PyProof.AutoSeq1
import PyProof.TupleOfSeq
import PyProof.AttrMiss
import PyProof.IsiH_tuple
import PyProof.TupleKey
import PyProof.DictRoadsH
import PyProof.IsRules
import PySem.Challenge.RW_letterrack_k46_other_racks
set_option Elab.async false
set_option linter.all false
set_option maxRecDepth 100000
set_option maxHeartbeats 4000000

set_option bootstrap.genMatcherCode false
theorem ZzN {G:Prop}(h:¬¬G):G:=Classical.byContradiction h
theorem rQ {α:Sort _}{a:α}:a=a:=rfl
theorem Zzx2{q:A->B->Prop}{G:Prop}(h:∃a b,q a b)(f:∀a b,q a b->G):G:=Exists.elim h λa h=>Exists.elim h (f a)
theorem Zzx3{q:A->B->C->Prop}{G:Prop}(h:∃a b c,q a b c)(f:∀a b c,q a b c->G):G:=Exists.elim h λa h=>Zzx2 h (f a)
theorem Zzx4{q:A->B->C->D->Prop}{G:Prop}(h:∃a b c d,q a b c d)(f:∀a b c d,q a b c d->G):G:=Exists.elim h λa h=>Zzx3 h (f a)
theorem Zzx5{q:A->B->C->D->E->Prop}{G:Prop}(h:∃a b c d e,q a b c d e)(f:∀a b c d e,q a b c d e->G):G:=Exists.elim h λa h=>Zzx4 h (f a)
theorem Zzx7{q:A->B->C->D->E->I->J->Prop}{G:Prop}(h:∃a b c d e i j,q a b c d e i j)(f:∀a b c d e i j,q a b c d e i j->G):G:=Exists.elim h λa h=>Exists.elim h λb h=>Zzx5 h (f a b)
theorem Zzx10{q:A->B->C->D->E->I->J->K->L->M->Prop}{G:Prop}(h:∃a b c d e i j k l m,q a b c d e i j k l m)(f:∀a b c d e i j k l m,q a b c d e i j k l m->G):G:=Exists.elim h λa h=>Exists.elim h λb h=>Exists.elim h λc h=>Zzx7 h (f a b c)
theorem Zzx14{q:A->B->C->D->E->I->J->K->L->M->N->O->P->R->Prop}{G:Prop}(h:∃a b c d e i j k l m n o p r,q a b c d e i j k l m n o p r)(f:∀a b c d e i j k l m n o p r,q a b c d e i j k l m n o p r->G):G:=Exists.elim h λa h=>Exists.elim h λb h=>Exists.elim h λc h=>Exists.elim h λd h=>Zzx10 h (f a b c d)
local macro_rules|`(tactic|show $e)=>`(tactic|first|exact $e|change $e)
local macro_rules|`(tactic|calc $e:term)=>`(tactic|refine $e)
local macro_rules|`(tactic|let $x:ident := $e)=>`(tactic|have $x:ident := $e)|`(tactic|let $x:ident : $t := $e)=>`(tactic|have $x:ident : $t := $e)
open Lean in
local macro_rules|`(tactic|let ⟨$ts,*⟩ := $h)=>do
 let a:=ts.getElems
 let ps<-a.mapM λt=>if t.raw.isIdent then `(Parser.Tactic.rcasesPatLo|$(⟨t⟩):ident) else `(Parser.Tactic.rcasesPatLo|_)
 let n:=(a.pop.toList.takeWhile λt=>t.raw.getId != `rfl).length
 let mut t<-`(tactic|rcases $h:term with ⟨$ps,*⟩)
 for k in [2, 3, 4, 5, 7, 10, 14] do
  if k<=n then
   let m<-if k+1==a.size&&a.back!.raw.getId != `rfl then `(tactic|intro $a*) else `(tactic|(intro $(a[:k].toArray)* z;rcases z with ⟨$(ps[k:].toArray),*⟩))
   t<-`(tactic|first|(refine $(mkIdent (.mkSimple s!"Zzx{k}")) $h ?_;(try clear $(⟨h⟩));$m:tactic)|$t:tactic)
 `(tactic|(refine ZzN λn=>?_;$t:tactic<;>refine n ?_<;>clear n))
section
variable{p:Prop}
def vT(h:p:=by lia):p:=h
def v0(h:p:=by simp):p:=h
def v_(h:p:=by decide):p:=h
def wa(h:p:=by rfl):p:=h
def wb(h:p:=by kernel_rfl):p:=h
def wc(h:p:=by decide +kernel):p:=h
def wd(h:p:=by first | lia | ((try dsimp only);lia)):p:=h
def we(h:p:=by size_fits):p:=h
end
def zsz (n:Nat)(h:n<=1000:=by decide):n<=PySem.sizeLine:=Nat.le_trans h v_
abbrev aa:=@PySem.wpAny_bind
abbrev ab:=@List.length_map
abbrev ae:=@PySem.Heap.get?_push_of_some
abbrev af:=@Nat.le_refl
abbrev ag:=@PySem.wpAny_pure
abbrev ah:=@List.getElem?_eq_getElem
abbrev ai:=@List.getElem?_eq_some_iff
abbrev al:=@decide_eq_false
abbrev am:=@List.mem_singleton
abbrev ap:=@PySem.Heap.get?_push_size
abbrev ar:=@List.length_append
abbrev av:=@List.getD_eq_getElem?_getD
abbrev aw:=@decide_eq_true
abbrev ax:=@List.mem_cons_self
abbrev ay:=@List.mem_cons_of_mem
abbrev aE:=@List.mem_of_getElem?
abbrev aI:=@Nat.le_of_lt
abbrev aS:=@Nat.le_trans
abbrev aT:=@List.mem_map
abbrev a6:=@Bool.false_eq_true
abbrev a7:=@PySem.Heap.lt_size
abbrev a8:=@PyProof.Rows.wpS_bind
abbrev a9:=@List.mem_append
abbrev a_:=@List.mem_cons
abbrev ba:=@List.getElem?_map
abbrev bb:=@Nat.ne_of_lt
abbrev bd:=@PyProof.Rows.wpS_pure
abbrev be:=@Option.some.inj
abbrev bg:=@List.getElem_mem
abbrev bn:=@Array.length_toList
abbrev bo:=@Nat.lt_of_lt_of_le
abbrev bq:=@List.length_take
abbrev bt:=@List.append_assoc
abbrev bu:=@List.length_cons
abbrev bv:=@List.mem_range
abbrev bz:=@List.size_toArray
abbrev bE:=@List.take_of_length_le
abbrev bP:=@PySem.F.plainAttrs_str
abbrev bS:=@Array.getElem?_eq_getElem
abbrev bX:=@List.map_cons
abbrev b6:=@Bool.false_ne_true
abbrev b7:=@PySem.boot_len
abbrev b8:=@List.take_add_one
abbrev b9:=@List.map_append
abbrev ci:=@Nat.sub_lt_left_of_lt_add
abbrev ck:=@Array.getElem?_toList
abbrev cn:=@Nat.zero_le
abbrev cp:=@List.mem_map_of_mem
abbrev cq:=@List.mem_iff_getElem
abbrev cw:=@List.take_append_drop
abbrev cx:=@Nat.le_succ
abbrev cy:=@PySem.PassesOwn.never
abbrev cz:=@List.length_drop
abbrev cE:=@PyProof.Rows.KeyOrd.kle_trans
abbrev cK:=@List.mem_append_right
abbrev cS:=@Int.toNat_natCast
abbrev c9:=@Bool.and_eq_true
abbrev c_:=@PySem.wpAny_call_entry
abbrev de:=@Int.emod_lt_of_pos
abbrev df:=@PyProof.Rows.boot_tuple
abbrev di:=@List.getElem?_eq_none
abbrev dm:=@List.length_range
abbrev dq:=@Nat.le_of_lt_succ
abbrev du:=@PyProof.Rows.KeyOrd.kle_of_klt
abbrev dA:=@PySem.W.mg_none_of
abbrev dC:=@PySem.Heap.size_push
abbrev dE:=@List.getElem?_append_right
abbrev dL:=@List.take_length
abbrev dP:=@PySem.wpAny_callSpecial?_slot
abbrev dQ:=@PySem.F.plainAttrs_list
abbrev dS:=@List.map_map
abbrev d6:=@Nat.le_sub_one_of_lt
abbrev ee:=@Nat.lt_or_ge
abbrev ef:=@PySem.wpAny_truthy_bool
abbrev ej:=@PySem.wpAny_newObj_type
abbrev eA:=@List.length_replicate
abbrev eB:=@Int.emod_nonneg
abbrev eC:=@Nat.lt_succ_self
abbrev eD:=@PySem.wpAny_holding
abbrev eI:=@PySem.Obj.data_mapFields
abbrev eJ:=@List.append_nil
abbrev eK:=@List.mem_flatMap
abbrev eL:=@Nat.lt_succ_of_lt
abbrev eM:=@List.getElem?_append_left
abbrev eP:=@Nat.le_sub_of_add_le
abbrev eQ:=@List.range_succ
abbrev eR:=@Bool.not_true
abbrev eT:=@PyProof.Rows.wpS_forRange
abbrev eW:=@PySem.wpAny_mono
abbrev e6:=@List.map_congr_left
abbrev e_:=@Array.toList_append
abbrev fb:=@PySem.Heap.get?_update_self
abbrev fc:=@Nat.sub_le_iff_le_add
abbrev fe:=@Array.getD_eq_getD_getElem?
abbrev ff:=@List.cons_lt_cons_iff
abbrev fg:=@PySem.F.slot_str_join
abbrev fh:=@PySem.F.type_str_join
abbrev fi:=@PySem.wpAny_setState_of
abbrev fk:=@List.pairwise_map
abbrev fm:=@PySem.wpAny_passesOwn
abbrev fq:=@List.filter_append
abbrev fv:=@List.pairwise_append
abbrev fw:=@PySem.wpAny_field
abbrev fz:=@Option.map_eq_some_iff
abbrev fA:=@PySem.Heap.SameBut.update
abbrev fE:=@PySem.wpAny_seqItems
abbrev fF:=@Nat.mul_comm
abbrev fI:=@PyProof.Rows.boot_isinstance
abbrev fN:=@PySem.F.slot_list_append
abbrev fR:=@PySem.F.type_list_append
abbrev fS:=@PySem.W.kia_one
abbrev fT:=@List.nodup_cons
abbrev f6:=@PySem.Calls.spliced_cons
abbrev f7:=@PySem.wpAny_rule
abbrev f8:=@Nat.sub_eq_of_eq_add
abbrev f_:=@PyProof.Rows.slot_tuple_getitem
abbrev ga:=@PySem.StrLaws.subAt_one
abbrev gd:=@PyProof.Rows.KeyOrd.kle_refl
abbrev ge:=@Classical.byContradiction
abbrev gf:=@Nat.lt_sub_iff_add_lt
abbrev gg:=@Nat.ne_of_gt
abbrev gm:=@Nat.succ_le_succ
abbrev gp:=@Nat.sub_lt_of_lt
abbrev gr:=@Nat.sub_sub_self
abbrev gt:=@Nat.zero_add
abbrev gu:=@List.not_mem_nil
abbrev gv:=@List.mem_of_mem_take
abbrev gx:=@List.getElem?_of_mem
abbrev gy:=@Nat.add_sub_cancel_left
abbrev gz:=@Nat.le_succ_of_le
abbrev gE:=@List.ext_getElem?
abbrev gI:=@decide_eq_true_eq
abbrev gL:=@PyProof.Rows.wpS_mono
abbrev gN:=@List.drop_sublist
abbrev gS:=@PyProof.Rows.callWith_type1
abbrev gT:=@List.forIn_cons
abbrev gV:=@Nat.not_lt_zero
abbrev g6:=@List.filterMap_cons
abbrev g9:=@List.getElem?_range
abbrev hG:=@Int.ofNat_lt
abbrev hV:=@PySem.Heap.get?_update_other
abbrev ib:=@List.lookup_cons
abbrev ic:=@PySem.wpAny_isInstance
abbrev ie:=@Ne.symm
abbrev ii:=@PySem.Calls.Constant_str
abbrev ij:=@Bool.false_and
abbrev ik:=@PySem.wpAny_setField
abbrev im:=@List.Perm.append_left
abbrev io:=@List.pairwise_cons
abbrev ip:=@List.pairwise_iff_getElem
abbrev iq:=@PySem.wpAny_execs_nil
abbrev iA:=@PySem.codeAny_mono
abbrev iE:=@Nat.succ_pos
abbrev iF:=@List.mem_of_mem_drop
abbrev iL:=@Nat.min_eq_left
abbrev iN:=@Nat.sub_le_of_le_add
abbrev iO:=@Nat.pow_succ
abbrev iP:=@Nat.mul_le_mul_right
abbrev iS:=@List.flatten_cons
abbrev iX:=@Nat.lt_irrefl
abbrev i6:=@List.length_eq_zero_iff
abbrev i7:=@List.all_eq_true
abbrev i8:=@Bool.not_false
abbrev i9:=@Nat.mul_le_mul
abbrev ja:=@PySem.wpAny_Call_Name_kw
abbrev jn:=@Nat.lt_trans
abbrev jI:=@Nat.lt_of_le_of_lt
abbrev jS:=@Nat.sub_self
abbrev kd:=@List.mem_filter
abbrev ke:=@PySem.Obj.isFreed_of_fields
abbrev kg:=@PySem.codeAny_builtin
abbrev ki:=@PyProof.Rows.boot_int
abbrev km:=@List.length_filter_le
abbrev ko:=@PySem.F.slot_tuple_iterator_next
abbrev kq:=@PySem.wpAny_attempt
abbrev kr:=@Nat.mul_assoc
abbrev ku:=@Int.ofNat.inj
abbrev kz:=@Array.toList_push
abbrev kC:=@List.mem_append_left
abbrev kD:=@PySem.Around.under_plainId
abbrev kF:=@List.map_id
abbrev kG:=@Bool.and_false
abbrev kH:=@PySem.wpAny_execs_cons
abbrev kK:=@Nat.le_of_eq
abbrev kM:=@List.map_nil
abbrev kN:=@Array.toList_inj
abbrev kP:=@PySem.wpAny_askSetting
abbrev kQ:=@Nat.ge_of_not_lt
abbrev kR:=@PySem.wpAny_forIn_list
abbrev kS:=@PySem.F.called_set
abbrev kU:=@List.Pairwise.imp_of_mem
abbrev kX:=@Int.ofNat_nonneg
abbrev lh:=@PyProof.Rows.boot_sorted
abbrev lj:=@PySem.F.slot_list_extend
abbrev lv:=@PySem.F.type_list_extend
abbrev lx:=@PySem.mem_of_lookup
abbrev ly:=@Nat.add_le_add_left
abbrev lI:=@PySem.wpAny_setEntries_of
abbrev lL:=@Nat.add_sub_cancel'
abbrev lS:=@PyProof.Rows.F.plain_set_update_loop
abbrev lT:=@List.any_cons
abbrev l_:=@Nat.add_assoc
abbrev md:=@PySem.wpAny_pyIter_tuple
abbrev me:=@Bool.eq_iff_iff
abbrev mf:=@PySem.SeqAt.EqAt.int_int
abbrev mh:=@List.find?_cons
abbrev ml:=@PySem.wpAny_specialOf
abbrev mr:=@PySem.wpAny_tupleItemsOf
abbrev mw:=@PySem.wpAny_setField_rec
abbrev mx:=@List.map_singleton
abbrev my:=@List.count_cons
abbrev mB:=@List.getElem?_set_self
abbrev mE:=@PySem.Calls.callWith_builtin
abbrev mI:=@List.drop_of_length_le
abbrev mM:=@PySem.wpAny_of_eq
abbrev mN:=@Array.getElem?_eq_none
abbrev mP:=@PySem.wpAny_pyIter_list
abbrev mS:=@PySem.Calls.spliced_nil
abbrev ng:=@PySem.wpAny_pyIter_strU
abbrev np:=@PySem.wpAny_pyIter_enum
abbrev nt:=@PySem.F.slot_tuple_hash
abbrev nv:=@of_decide_eq_true
abbrev nw:=@List.nodup_nil
abbrev ny:=@List.takeWhile_prefix
abbrev nB:=@List.getElem?_set_ne
abbrev nE:=@Nat.mod_lt
abbrev nI:=@Array.toList_reverse
abbrev nK:=@Nat.div_lt_of_lt_mul
abbrev nL:=@List.length_erase_le
abbrev nN:=@PySem.W.mg_of
abbrev nS:=@List.flatMap_append
abbrev nV:=@List.length_set
abbrev n0:=@List.drop_eq_getElem_cons
abbrev n5:=@Nat.min_le_left
abbrev n9:=@List.extract_eq_take_drop
abbrev oj:=@List.mem_or_eq_of_mem_set
abbrev om:=@List.mem_filterMap
abbrev on:=@PySem.W.callWith_K
abbrev oq:=@List.getElem?_take_of_lt
abbrev ox:=@PySem.F.args_tuple_add_2
abbrev oy:=@PySem.wpAny_typeOf
abbrev oz:=@PySem.F.called_enumerate
abbrev oB:=@PyProof.Rows.KeyOrd.klt_of_klt_of_kle
abbrev oC:=@List.getElem?_drop
abbrev oI:=@Array.forIn_toList
abbrev oP:=@of_decide_eq_false
abbrev oQ:=@List.count_pos_iff
abbrev oS:=@List.length_erase_of_mem
abbrev o0:=@Nat.add_sub_cancel
abbrev o6:=@PySem.wpAny_Name
abbrev ph:=@Iff.mpr
abbrev pi:=@PyProof.Rows.wpS_get
abbrev pE:=@PySem.F.entry_tuple_add
abbrev pM:=@List.getElem?_cons_succ
abbrev pT:=@List.take_sublist
abbrev pV:=@PySem.Obj.cls_mapFields
abbrev p_:=@Nat.lt_trichotomy
abbrev qf:=@Bool.eq_false_iff
abbrev qh:=@List.getElem?_set
abbrev qi:=@PySem.F.slot_tuple_add
abbrev qk:=@PySem.F.slot_str_upper
abbrev qo:=@PySem.F.type_str_upper
abbrev qq:=@PyProof.Rows.boot_list
abbrev qr:=@PySem.F.slot_str_lower
abbrev qA:=@PySem.F.type_str_lower
abbrev qB:=@PySem.wpAny_standAt
abbrev qE:=@Bool.or_false
abbrev qS:=@Prod.ext
abbrev qV:=@Nat.succ_lt_succ
abbrev q0:=@Nat.min_eq_right
abbrev rc:=@Nat.lt_of_not_le
abbrev re:=@List.nodup_range
abbrev rg:=@Array.toList_map
abbrev rh:=@decide_eq_decide
abbrev rj:=@List.ext_getElem
abbrev rl:=@List.getElem_map
abbrev rn:=@List.mem_flatten
abbrev rq:=@PySem.codeAny_call_function
abbrev rL:=@List.getElem?_reverse
abbrev rS:=@List.mem_iff_getElem?
abbrev rV:=@List.perm_append_comm
abbrev rX:=@PyProof.Rows.KeyOrd.not_klt_of_kle
abbrev r0:=@PySem.wpAny_loadName_local
abbrev r8:=@Array.mem_toList_iff
abbrev r_:=@List.of_mem_zip
abbrev sd:=@Option.map_some
abbrev se:=@List.length_nil
abbrev sf:=@Array.toArray_toList
abbrev sh:=@PySem.wpAny_loadPart'
abbrev si:=@PyProof.Rows.wpS_modify
abbrev sk:=@Nat.add_zero
abbrev sn:=@Array.toList_extract
abbrev sq:=@Nat.sub_le_sub_right
abbrev sr:=@PySem.codeAny_call_builtin
abbrev sv:=@PySem.F.slot_zip_next
abbrev sC:=@List.map_set
abbrev sD:=@Int.zero_add
abbrev sF:=@Nat.succ_mul
abbrev sK:=@List.count_le_length
abbrev sL:=@List.eq_nil_of_length_eq_zero
abbrev sN:=@PySem.W.plainGet_of
abbrev sP:=@PySem.wpAny_Tuple_spliced
abbrev sQ:=@List.take_succ_cons
abbrev sT:=@List.reverse_append
abbrev s_:=@List.length_pos_iff
abbrev tf:=@List.flatten_append
abbrev tj:=@PySem.Heap.get?_update_ne
abbrev tm:=@List.drop_zero
abbrev tq:=@PySem.wpAny_fieldsOf
abbrev tw:=@PySem.wpAny_Constant_int
abbrev tz:=@PySem.W.codeRec_of
abbrev tI:=@Nat.eq_zero_or_pos
abbrev tJ:=@PySem.isSubtype_tuple_tuple
abbrev tN:=@List.count_reverse
abbrev tP:=@List.takeWhile_cons_of_pos
abbrev tS:=@Array.toList_setIfInBounds
abbrev tT:=@Array.perm_iff_toList_perm
abbrev t7:=@PySem.wpAny_assign_Name
abbrev t9:=@PySem.wpAny_Assign_Name
abbrev ue:=@PySem.StrLaws.found_one
abbrev ui:=@List.count_append
abbrev uj:=@Nat.le_pred_of_lt
abbrev uk:=@PySem.Heap.get?_push_ne
abbrev ul:=@PySem.wpAny_call
abbrev ut:=@PySem.F.plain_extend_loop
abbrev uu:=@Nat.sub_le
abbrev uv:=@Nat.sub_lt
abbrev uA:=@Nat.min_le_right
abbrev uB:=@Nat.succ_ne_self
abbrev uC:=@List.any_eq_true
abbrev uS:=@List.filter_cons
abbrev u7:=@List.drop_length
abbrev u8:=@List.mem_reverse
abbrev ve:=@List.zipIdx_cons
abbrev vi:=@Nat.pow_zero
abbrev vj:=@Option.getD_some
abbrev vn:=@Array.toList_zip
abbrev vv:=@Int.lt_trans
abbrev vw:=@List.foldl_cons
abbrev vx:=@Nat.le_antisymm
abbrev vy:=@List.Perm.of_eq
abbrev vz:=@Nat.mul_add
abbrev vE:=@Nat.mul_one
abbrev vF:=@List.forIn_nil
abbrev vS:=@PySem.P.le_str
abbrev AA:=List (List Nat)
abbrev AB:=PySem.Value->PySem.Shared->Prop
abbrev AC:=List (PySem.Addr×PySem.Obj)
noncomputable section
namespace L2
open PySem
def xu {M:Model}{Γ:Ctx}{p:Pos}{t:Sem PySem.Fin}{fs:List Frame}{s s':Shared}{e:End}(h:Runs M Γ p t fs s e s'):s.toks<=s'.toks:=by
 induction h with| done|raise|yield=>show af _| fresh _ ih=>show aS (cx _) ih| again _ _ ih|rule _ ih|«at» _ ih|load _ _ ih|update _ _ ih|loadIfAlive _ ih|point _ ih|alloc _ ih|ask _ ih|choose _ _ ih|os _ ih|handled _ ih|genState _ _ ih|stack _ ih|thread _ ih|newGen _ ih=>show ih| call _ _ ih1 ih2=>show aS ih1 ih2| callSusp _ ih=>show ih| resumeFresh _ _ _ _ ih1 ih2=>show aS ih1 ih2| resumeSuspended _ _ _ _ ih1 ih2=>show aS ih1 ih2| resumeJustStarted _ _ _ ih=>show ih| resumeThrowFresh _ _ ih=>show ih| resumeRunning _ _ ih=>show ih| resumeFinished _ _ ih=>show ih| segRet _ _ ih1 ih2=>show aS ih1 ih2| segGen _ _ ih1 ih2=>show aS ih1 ih2| segSuspOut _ _ ih=>show ih| segSuspGen _ _ _ _ ih1 ih2=>show aS ih1 ih2
def QJ {M:Model}{Γ:Ctx}{p:Pos}{g:Nat}{r:Resume}{s s':Shared}{res:GenResult}(h:Wakes M Γ p g r s res s'):s.toks<=s'.toks:=by
 unfold Wakes at h;split at h;.show h.elim
 .split at h
  .let⟨e,s1,d,_,_,rfl⟩:=h;let z:=xu d;show z
  .let⟨_,rfl⟩:=h;show af _
  .let⟨_,rfl⟩:=h;show af _
 .let⟨e,s1,d,_,_,rfl⟩:=h;let z:=xu d;show z
 .let⟨_,rfl⟩:=h;show af _
 .let⟨_,rfl⟩:=h;show af _
def aeI {α:Type}{M:Model}{Γ:Ctx}(t:Sem α)(n:Nat){Q:α->Pos->Shared->Prop}{E:Value->Pos->Shared->Prop}(p:Pos)(s:Shared)(hn:n<=s.toks)(h:Sem.wp M Γ t (λa p s=>n<=s.toks->Q a p s) (λe p s=>n<=s.toks->E e p s) p s):Sem.wp M Γ t Q E p s:=by
 revert h
 induction t generalizing p s with| pure x=>show λh=>h hn| raise v=>show λh=>h hn| unsupported|finish|yield|fork|await|register=>show id| fresh k ih=>show ih _ _ _ (aS hn (cx _))| rule _ k ih|«at» _ k ih|alloc _ k ih|loadIfAlive _ k ih|point _ k ih|ask k ih|os _ _ k ih|handled _ k ih|newGen _ k ih|stack k ih|thread k ih=>show ih _ _ _ hn| load a _ k ih|genState a k ih=>show λ⟨o,q,h⟩=>⟨o,q,ih _ _ _ hn h⟩| update a _ f k ih|choose _ _ k ih=>show λ⟨ha,h⟩=>⟨ha,ih _ _ _ hn h⟩| call c h g l k ih=>show λ⟨r,s',d,j⟩=>⟨r,s',d,ih _ _ _ (aS hn (xu d)) j⟩| resume g r l k ih=>show λ⟨res,s',hw,h⟩=>⟨res,s',hw,ih _ _ _ (aS hn (QJ hw)) h⟩
def bR {α:Type}{M:Model}{A:Around}{t:Sem α}{Q:α->Shared->Prop}{E:AB}{s:Shared}(h:wpAny M A t (λa s'=>s.toks<=s'.toks->Q a s') (λe s'=>s.toks<=s'.toks->E e s') s):wpAny M A t Q E s:=λΓ p hΓ=>aeI t s.toks p s (af _) (h Γ p hΓ)
end L2
namespace L2
open PySem PySem.Spec PyProof.Rows
abbrev Key:=Sum Int Str
def jc:Key->Value->Bool
 | .inl k,v=>Value.isInt k v
 | .inr x,v=>Value.isStrOf x v
def afo (w:World):Key->Int
 | .inl k=>hashInt k
 | .inr x=>hashStr w x
theorem cV:∀{k:Key} {v:Value},jc k v=true->(∃i t,k=Sum.inl i/\v=Value.int i t)\/(∃x t,k=Sum.inr x/\v=Value.str x t)
 | .inl i,v,h=>by let⟨t,e⟩:=Value.isInt_shape (k:=i) (v:=v) h;show .inl ⟨i,t,rQ,e⟩
 | .inr x,v,h=>by let⟨t,e⟩:=Value.isStrOf_shape (x:=x) (v:=v) h;show .inr ⟨x,t,rQ,e⟩
def Gw (i:Int)(t:Tok):jc (.inl i) (.int i t)=true:=by simp[jc,Value.isInt]
def Gx (x:Str)(t:Tok):jc (.inr x) (.str x t)=true:=by simp[jc,Value.isStrOf]
def ab9 (a b:Int):decide ((Sum.inl a:Key)=Sum.inl b)=(a==b):=by
 by_cases e:a=b;.subst e;simp
 .let h:¬(Sum.inl a:Key)=Sum.inl b:=λq=>e (Sum.inl.inj q)
  rw[al h];show(beq_eq_false_iff_ne.mpr e).symm
def ab_ (a b:Str):decide ((Sum.inr a:Key)=Sum.inr b)=decide (a=b):=by
 by_cases e:a=b;.subst e;simp
 .let h:¬(Sum.inr a:Key)=Sum.inr b:=λq=>e (Sum.inr.inj q)
  rw[al h,al e]
def acd (a:Int)(b:Str):decide ((Sum.inl a:Key)=Sum.inr b)=false:=al (λq=>nomatch q)
def ace (a:Str)(b:Int):decide ((Sum.inr a:Key)=Sum.inl b)=false:=al (λq=>nomatch q)
noncomputable def cQ (prog:Program)(w:World):PySem.KeyKind prog w Key where
 is:=jc
 hash:=afo w
 inj:=λv a b ha d=>by
  rcases cV ha with⟨i,t,rfl,rfl⟩|⟨x,t,rfl,rfl⟩
  .rcases cV d with⟨j,u,rfl,e⟩|⟨y,u,rfl,e⟩
   .injection e with e1 _;rw[e1]
   .show nomatch e
  .rcases cV d with⟨j,u,rfl,e⟩|⟨y,u,rfl,e⟩;.show nomatch e
   .injection e with e1 _;rw[e1]
 byValue:=λk v h=>by rcases cV h with⟨i,t,rfl,rfl⟩|⟨x,t,rfl,rfl⟩ <;> rfl
 pyHash:=λhv h=>by
  rcases cV hv with⟨i,t,rfl,rfl⟩|⟨x,t,rfl,rfl⟩;.show wpAny_pyHash_int h
  .show wpAny_pyHash_str h
 eqBool:=λg hv h=>by
  rcases cV g with⟨i,t,rfl,rfl⟩|⟨x,t,rfl,rfl⟩
  .rcases cV hv with⟨j,u,rfl,rfl⟩|⟨y,u,rfl,rfl⟩;.rw[ab9]at h;show wpAny_eqBool_int h
   .rw[acd]at h;show SeqAt.EqAt.int_str i t y u _ _ _ _ h
  .rcases cV hv with⟨j,u,rfl,rfl⟩|⟨y,u,rfl,rfl⟩;.rw[ace]at h;show SeqAt.EqAt.str_int x t j u _ _ _ _ h
   .rw[ab_]at h;show wpAny_eqBool_str h
 «strs»:=λk x t v h=>by
  rcases cV h with⟨i,u,rfl,e⟩|⟨y,u,rfl,e⟩;.show nomatch e
  .injection e with e1 _;subst e1;cases v <;> rfl
def M_ (prog:Program)(w:World)(i:Int)(t:Tok):(cQ prog w).is (.inl i) (.int i t)=true:=Gw i t
def Nb (prog:Program)(w:World)(x:Str)(t:Tok):(cQ prog w).is (.inr x) (.str x t)=true:=Gx x t
inductive V where
 | non|bl (b:Bool)|int (i:Int)|str (x:Str)|wQ (b:Array UInt8)|flt (b:UInt64)|ref (a:Addr)|ty (n:String)|sx (x:Str) (t:Nat)
 deriving DecidableEq
def bD:V->Value->Prop
 | .non,u=>u=Value.none
 | .bl b,u=>u=Value.bool b
 | .int i,u=>∃t,u=Value.int i t
 | .str x,u=>∃t,u=Value.str x t
 | .wQ b,u=>∃t,u=Value.bytes b t
 | .flt b,u=>∃t,u=Value.float b t
 | .ref a,u=>u=Value.ref a
 | .ty n,u=>u=Value.type n
 | .sx x t,u=>u=Value.str x t
def zX:V->V
 | .sx x _=>.str x
 | v=>v
def bD.weak {v:V}{u:Value}(r:bD v u):bD (zX v) u:=by cases v <;> first|show r|show⟨_,r⟩
abbrev Vals:List V->List Value->Prop:=Paired bD
def Vals.length {xs:List V}{us:List Value}(r:Vals xs us):xs.length=us.length:=Paired.length r
theorem Vals.get:∀{xs:List V} {us:List Value} {i:Nat} {x:V},Vals xs us->xs[i]?=some x->∃u,us[i]?=some u/\bD x u
 | _,_,_,_,.nil,e=>by simp at e
 | _,_,0,_,.cons r _,e=>by simp at e;subst e;show⟨_,rQ,r⟩
 | _,_,i+1,x,.cons _ t,e=>by let⟨u,h1,d⟩:=Vals.get (i:=i) (x:=x) t (by simpa using e);show⟨u,by simpa using h1,d⟩
theorem Vals.set {x:V}{u:Value}(r:bD x u):∀{xs:List V} {us:List Value} (i:Nat),Vals xs us->Vals (xs.set i x) (us.set i u)
 | _,_,_,.nil=>.nil
 | _,_,0,.cons _ t=>.cons r t
 | _,_,i+1,.cons q t=>.cons q (Vals.set r i t)
theorem Vals.append:∀{xs ys:List V} {us ws:List Value},Vals xs us->Vals ys ws->Vals (xs++ys) (us++ws)
 | _,_,_,_,.nil,s=>s
 | _,_,_,_,.cons r t,s=>.cons r (Vals.append t s)
theorem Vals.take:∀{xs:List V} {us:List Value} (n:Nat),Vals xs us->Vals (xs.take n) (us.take n)
 | _,_,0,_=>.nil
 | _,_,_+1,.nil=>.nil
 | _,_,n+1,.cons r t=>.cons r (Vals.take n t)
theorem Vals.drop:∀{xs:List V} {us:List Value} (n:Nat),Vals xs us->Vals (xs.drop n) (us.drop n)
 | _,_,0,r=>r
 | _,_,_+1,.nil=>.nil
 | _,_,n+1,.cons _ t=>Vals.drop n t
def lJ:Option V->Option Value->Prop
 | some v,some u=>bD v u
 | none,none=>True
 | _,_=>False
def KV {κ:Type}:List (κ×V)->List (κ×Value)->Prop:=Paired λ(p:κ×V) (q:κ×Value)=>p.1=q.1/\bD p.2 q.2
def kV:Key->V
 | .inl i=>.int i
 | .inr x=>.str x
inductive HO where
 | lst (xs:List V)
 | tup (xs:List V)
 | dK (kvs:List (Key×V))|dT (kvs:List (List Key×V))
 | set (S:Int->Bool) (n:Nat)
 | ins (C dx:Addr) (fs:List (Str×V))
 | own (x:Addr)
 | xd (fs:List (Str×V))
 | met (f x:Addr)
 | rng (lo hi:Int)
 | cH (o:Obj) (u:HO)
 | Jy (ps:Array Value)
 | ext (φ:Heap->Prop)
abbrev Hp:=Addr->Option HO
def upd (H:Hp)(a:Addr)(o:HO):Hp:=λb=>if b=a then some o else H b
def aq {H:Hp}{a:Addr}{o:HO}:upd H a o a=some o:=by unfold upd;rw[if_pos rfl]
def aY {H:Hp}{a b:Addr}{o:HO}(h:b≠a):upd H a o b=H b:=by unfold upd;rw[if_neg h]
def aeJ {H:Hp}{a b:Addr}{o u:HO}(h:H a=some o)(h':H b=some u)(d:o≠u):a≠b:=by intro e;subst e;rw[h]at h';show d (be h')
def bI {H:Hp}{a b:Addr}{o:HO}(h:H a=some o)(h':H b=none):a≠b:=by intro e;subst e;rw[h]at h';cases h'
section
variable (P:Program)(w:World)
def dh (H:Hp)(h:Heap)(a:Addr):HO->Prop
 | .lst xs=>xs.length<=sizeLine/\∃(its:List Value) (n:Nat),Vals xs its/\h.get? a=some {cls:=.type "list",data:=.seq its.toArray n}
 | .tup xs=>xs.length<=sizeLine/\∃its:List Value,Vals xs its/\IsTup h a its.toArray
 | .dK kvs=>kvs.length<=sizeLine/\(a==sysModules)=false/\∃vs,KV kvs vs/\h.DictOf (cQ P w) a vs
 | .dT kvs=>kvs.length<=sizeLine/\(a==sysModules)=false/\∃xs:List (List Key×Addr×Value),
   Paired (λ(p:List Key×V) (q:List Key×Addr×Value)=>p.1=q.1/\H q.2.1=some (.tup (p.1.map kV))/\bD p.2 q.2.2) kvs xs/\
   ∃o es ep,h.get? a=some o/\o.ExactDict/\o.data=.dict es ep/\es.toList=xs.map (entryOfKey (tupleKind (cQ P w)))/\(xs.map (·.1)).Nodup
 | .set S n=>h.SetOf (intKind P w) a S n
 | .ins C dx fs=>H dx=some (.own a)/\fs.length<=1000/\dx≠a/\h.get? a=some (W.instObj C dx)/\
   ∃mA,h.Ns1 dx mA/\(∀f,lJ (fs.lookup f) (mA f))/\PySem.Within mA (fs.map (·.1))
 | .own _=>∃o,h.get? a=some o
 | .xd fs=>∃mA,h.Ns1 a mA/\∀f,lJ (fs.lookup f) (mA f)
 | .rng lo hi=>∃t u v,h.get? a=some {cls:=.type "range",data:=.fields #[.int lo t,.int hi u,.int 1 v]}
 | .cH o u=>h.get? a=some o/\dh H h a u
 | .Jy ps=>h.get? a=some {cls:=.none,data:=.fields ps}
 | .met f x=>h.get? a=some (W.methodObj (.ref f) (.ref x))
 | .ext φ=>φ h/\(∃o,h.get? a=some o)/\∀h1 d:Heap,φ h1->(∀o,h1.get? a=some o->d.get? a=some o)->φ d
def iB (H:Hp)(h:Heap):Prop:=∀a o,H a=some o->dh P w H h a o
end
section
variable {P:Program}{w:World}{H H':Hp}{h h':Heap}{a:Addr}{o:HO}
def dh.lt (x:dh P w H h a o):a<h.objs.size:=by
 cases o with
 | lst xs=>let⟨_,_,_,_,e⟩:=x;show a7 e
 | tup xs=>let⟨_,_,_,p⟩:=x;show p.lt
 | dK kvs=>let⟨_,_,_,_,o,_,_,e,_⟩:=x;show a7 e
 | dT kvs=>let⟨_,_,_,_,o,_,_,e,_⟩:=x;show a7 e
 | set S n=>let⟨o,_,_,_,e,_⟩:=x;show a7 e
 | ins C dx fs=>let⟨_,_,_,e,_⟩:=x;show a7 e
 | own y=>let⟨_,e⟩:=x;show a7 e
 | xd fs=>obtain⟨_,⟨_,_,_,e,_⟩,_⟩:=x;show a7 e
 | rng lo hi=>let⟨_,_,_,e⟩:=x;show a7 e
 | cH ob u=>let⟨e,_⟩:=x;show a7 e
 | Jy ps=>show a7 (show h.get? a=some _ from x)
 | met f y=>show a7 (show h.get? a=some _ from x)
 | ext φ=>obtain⟨_,⟨_,e⟩,_⟩:=x;show a7 e
theorem Paired.WX {α β:Type}{F G:α->β->Prop}:∀{d:List α} {l₂:List β},Paired F d l₂->(∀a b,F a b->G a b)->Paired G d l₂
 | _,_,.nil,_=>.nil
 | _,_,.cons r t,f=>.cons (f _ _ r) (Paired.WX t f)
def dh.stay (x:dh P w H h a o)(k:∀b u,(b=a\/H b=some (.own a))->h.get? b=some u->h'.get? b=some u)(j:∀b,H b=some (.own a)->H' b=some (.own a))(g:∀b xs,H b=some (.tup xs)->H' b=some (.tup xs)):dh P w H' h' a o:=by
 induction o with
 | lst xs=>let⟨z,its,n,r,e⟩:=x;show⟨z,its,n,r,k _ _ (.inl rQ) e⟩
 | tup xs=>let⟨z,its,r,ob,e,c⟩:=x;show⟨z,its,r,ob,k _ _ (.inl rQ) e,c⟩
 | dK kvs=>let⟨z,y,vs,r,ob,es,ep,e,c⟩:=x;show⟨z,y,vs,r,ob,es,ep,k _ _ (.inl rQ) e,c⟩
 | dT kvs=>let⟨z,y,xs,r,ob,es,ep,e,c⟩:=x;show⟨z,y,xs,Paired.WX r λp q z=>⟨z.1,g _ _ z.2.1,z.2.2⟩,ob,es,ep,k _ _ (.inl rQ) e,c⟩
 | set S n=>let⟨ob,es,ep,t,e,c⟩:=x;show⟨ob,es,ep,t,k _ _ (.inl rQ) e,c⟩
 | ins C dx fs=>obtain⟨d,z,ne,e,mA,⟨od,es,ep,e2,c⟩,r⟩:=x;show⟨j _ d,z,ne,k _ _ (.inl rQ) e,mA,⟨od,es,ep,k _ _ (.inr d) e2,c⟩,r⟩
 | own y=>let⟨ob,e⟩:=x;show⟨ob,k _ _ (.inl rQ) e⟩
 | xd fs=>obtain⟨mA,⟨od,es,ep,e,c⟩,r⟩:=x;show⟨mA,⟨od,es,ep,k _ _ (.inl rQ) e,c⟩,r⟩
 | rng lo hi=>let⟨t,u,v,e⟩:=x;show⟨t,u,v,k _ _ (.inl rQ) e⟩
 | cH ob u ih=>let⟨e,q⟩:=x;show⟨k _ _ (.inl rQ) e,ih q⟩
 | Jy ps=>have e:h.get? a=some {cls:=.none,data:=.fields ps}:=x;show h'.get? a=some {cls:=.none,data:=.fields ps};show k a _ (.inl rQ) e
 | met f y=>have e:h.get? a=some (W.methodObj (.ref f) (.ref y)):=x;show h'.get? a=some (W.methodObj (.ref f) (.ref y));show k a _ (.inl rQ) e
 | ext φ=>obtain⟨p,⟨o,e⟩,st⟩:=x;show⟨st _ _ p λo q=>k _ _ (.inl rQ) q,⟨o,k _ _ (.inl rQ) e⟩,st⟩
def iB.lt (x:iB P w H h)(e:H a=some o):a<h.objs.size:=(x a o e).lt
def iB.fresh (x:iB P w H h)(e:h.objs.size<=a):H a=none:=by
 cases q:H a with| none=>rfl| some u=>show absurd (bo (x.lt q) e) (iX _)
def iB.kept (x:iB P w H h)(k:∀b u,h.get? b=some u->h'.get? b=some u):iB P w H h':=λa o e=>(x a o e).stay (λb u _ q=>k b u q) (λ_ q=>q) λ_ _ q=>q
def iB.laid (x:iB P w H h)(k:∀b u,h.get? b=some u->h'.get? b=some u)(hp:h.objs.size<=a)(d:dh P w (upd H a o) h' a o):iB P w (upd H a o) h':=λb u e=>by
 let hn:=x.fresh hp;by_cases g:b=a;.subst g;rw[aq]at e;cases e;show d
 .rw[aY g]at e;show(x b u e).stay (λc v _ q=>k c v q) (λc q=>by rw[aY (bI q hn)];show q) λc xs q=>by rw[aY (bI q hn)];show q
end
def Rd (H:Hp)(a:Addr)(u:HO):Prop:=H a=some u\/∃o,H a=some (.cH o u)
def Rd.ok {P:Program}{w:World}{H:Hp}{h:Heap}{a:Addr}{u:HO}(r:Rd H a u)(x:iB P w H h):dh P w H h a u:=by
 rcases r with r|⟨o,r⟩;.show x a u r
 .let⟨_,q⟩:=x a _ r;show q
def Tg:Option HO->Prop
 | some (.lst _)=>True
 | some (.dK _)=>True
 | some (.dT _)=>True
 | some (.set _ _)=>True
 | some (.ins _ _ _)=>True
 | some (.ext _)=>True
 | _=>False
section
variable {P:Program}{w:World}{H:Hp}{h h':Heap}{x e:Addr}{o':HO}
def iB.write (ok:iB P w H h)(B:Tg (H x))(L:e=x\/H e=some (.own x))(k:∀b u,b≠e->h.get? b=some u->h'.get? b=some u)(J:∃u,h'.get? e=some u)(F:dh P w (upd H x o') h' x o'):iB P w (upd H x o') h':=λb u q=>by
 let g:∀c y,H c=some (.own y)->c≠x:=λc y r z=>by subst z;rw[r]at B;show B
 let G:∀c xs,H c=some (.tup xs)->c≠x:=λc xs r z=>by subst z;rw[r]at B;show B
 by_cases D:b=x;.subst D;rw[aq]at q;cases q;show F
 .rw[aY D]at q;by_cases d:b=e
  .let M:H b=some (.own x):=by
    rcases L with z|z;.show absurd (d.trans z) D
    .rw[d];show z
   rw[q]at M;cases M;let⟨v,hv⟩:=J;show⟨v,by rw[d];show hv⟩
  .refine(ok b u q).stay (λc v j r=>k c v ?_ r) (λc r=>by rw[aY (g c b r)];show r) λc xs r=>by rw[aY (G c xs r)];show r
   rcases j with rfl|j;.show d
   .rintro rfl;rcases L with z|z;.show g c b j z
    .rw[j]at z;cases z;show D rfl
end
structure Un (fs ex:List Addr)(H H':Hp)(h h':Heap):Prop where
 keep:∀b o,h.get? b=some o->H b=none->b∉fs->b∉ex->h'.get? b=some o
 slot:∀b o,h.get? b=some o->H b=none->b∈fs->b∉ex->∃sl,h'.get? b=some {o with slots:=sl}
 free:∀b o,h.get? b=some o->H b=none->b∉ex->H' b=none
 there:∀b o,h.get? b=some o->b∉ex->∃o',h'.get? b=some o'
 tups:∀b xs,H b=some (.tup xs)->H' b=some (.tup xs)
 tZ:∀b o u,H b=some (.cH o u)->H' b=some (.cH o u)
 vh:∀b ps,H b=some (.Jy ps)->∃more,H' b=some (.Jy (ps++more))
section
variable {fs ex:List Addr}{H H1:Hp}{h h1 h':Heap}{a x e:Addr}{o:HO}
def Un.any (u:Un fs ex H H1 h h1){b:Addr}{ob:Obj}(q:h.get? b=some ob)(n:H b=none)(hx:b∉ex):∃sl,h1.get? b=some {ob with slots:=sl}:=by
 by_cases d:b∈fs;.show u.slot b ob q n d hx
 .show⟨ob.slots,u.keep b ob q n d hx⟩
def Un.kept (k:∀b u,h.get? b=some u->h'.get? b=some u):Un fs ex H H h h':=⟨λb ob q _ _ _=>k b ob q,λb ob q _ _ _=>⟨ob.slots,k b ob q⟩,λ_ _ _ n _=>n,λb ob q _=>⟨ob,k b ob q⟩,λ_ _ q=>q,λ_ _ _ q=>q,λ_ ps q=>⟨#[],by rw[q];simp⟩⟩
def Un.refl:Un fs ex H H h h:=Un.kept λ_ _ q=>q
def Un.laid (k:∀b u,h.get? b=some u->h'.get? b=some u)(hp:h.objs.size<=a)(hn:H a=none):Un fs ex H (upd H a o) h h' where
 keep:=λb u q _ _ _=>k b u q
 slot:=λb u q _ _ _=>⟨u.slots,k b u q⟩
 free:=λb u q n _=>by rw[aY (bb (bo (a7 q) hp))];show n
 there:=λb u q _=>⟨u,k b u q⟩
 tups:=λb xs q=>by rw[aY (bI q hn)];show q
 tZ:=λb u xs q=>by rw[aY (bI q hn)];show q
 vh:=λb ps q=>⟨#[],by rw[aY (bI q hn),q];simp⟩
def Un.write (g:Tg (H x))(D:e=x\/H e=some (.own x))(k:∀b u,b≠e->h.get? b=some u->h'.get? b=some u)(j:∃u,h'.get? e=some u):Un fs ex H (upd H x o) h h':=by
 let hx:∀b,H b=none->b≠x:=λb n z=>by subst z;rw[n]at g;show g
 let B:∀b,H b=none->b≠e:=λb n z=>by
  subst z;rcases D with r|r;.show hx b n r
  .rw[n]at r;cases r
 let hm:∀b u,H b=some u->¬Tg (some u)->b≠x:=λb u q nm z=>by subst z;rw[q]at g;show nm g
 refine⟨λb u q n _ _=>k b u (B b n) q,λb u q n _ _=>⟨u.slots,k b u (B b n) q⟩,λb u q n _=>by rw[aY (hx b n)];show n,λb u q _=>?_,
  λb xs q=>by rw[aY (hm b _ q λz=>z)];show q,λb u xs q=>by rw[aY (hm b _ q λz=>z)];show q,λb ps q=>⟨#[],by rw[aY (hm b _ q λz=>z),q];simp⟩⟩
 by_cases d:b=e;.subst d;show j
 .show⟨u,k b u d q⟩
end
def Zg (h:Heap)(H:Hp):List Addr:=(List.range h.objs.size).filter λa=>(H a).isSome
def vm (h:Heap)(H:Hp):Heap:=W.hideAll h (Zg h H)
def Ti (h:Heap)(H:Hp):(vm h H).objs.size=h.objs.size:=W.hideAll_size _ _
def WY {h:Heap}{H:Hp}{b:Addr}{o:Obj}(e:h.get? b=some o)(n:H b=none):(vm h H).get? b=some o:=
 W.hideAll_get _ e λhm=>by let q:(H b).isSome=true:=(kd.mp hm).2;rw[n]at q;simp at q
def aaj {h:Heap}{H:Hp}{b:Addr}{o:Obj}(e:(vm h H).get? b=some o):h.get? b=some o/\H b=none:=by
 let d:h.get? b=some o:=W.of_hideAll (Zg h H) e;calc⟨d,?_⟩;cases q:H b with| none=>rfl| some x=>have hm:b∈Zg h H:=kd.mpr ⟨bv.mpr (a7 d),by simp[q]⟩;let z:(vm h H).get? b=none:=W.hideAll_none (Zg h H) hm;rw[z]at e;cases e
structure Mod (K:W.Frag)(mg:Str->Option Value)(base:Heap):Prop where
 wR:K.In base
 glob:base.Ns mainGlobals mg
 blt:∃mb,base.Ns builtinsNs mb/\∀x:Str,x≠"__name__"->mb x=bootBuiltins x
 nolimit:base.NoLimit
structure Cx where
 prog:Program
 w:World
 K:W.Frag
 mg:Str->Option Value
 base:Heap
 A:Around
 N:List Str
 s₀:Shared
 H₀:Hp
 env:Env
 outer:List Env
 stack:List Env
 ex:List Addr
 fn:Str->Bool
 calm:Bool
 pn:List (Addr×Obj)
 xe:Value->Shared->Prop
def frs (l:List Env):List Addr:=l.filterMap (·.frame)
abbrev Cx.fs (X:Cx):List Addr:=frs X.outer
def Tj (sc:Scope)(x:Str):Prop:=sc.names.lookup x=some .local\/sc.names.lookup x=some .cell\/sc.names.lookup x=some .free
def Loc (sc:Scope)(x:Str):Prop:=sc.names.lookup x=some .local\/sc.names.lookup x=some .cell
def Look (env:Env)(h:Heap)(m:Str->Option Value)(x:Str)(u:Value):Prop:=(env.kindOf x=some .local/\m x=some u)\/((env.kindOf x=some .cell\/env.kindOf x=some .free)/\∃c,env.cells.lookup x=some c/\h.IsCell c (some u))
structure Cx.Ok (X:Cx):Prop where
 mod:Mod X.K X.mg X.base
 kind:X.env.scope.kind=.function
 glob:X.env.globals=mainGlobals
 blt:X.env.builtins=builtinsNs
 above:X.s₀.heap.objs.size<=X.env.locals
 inj:∀x y c,X.env.cells.lookup x=some c->X.env.cells.lookup y=some c->x=y
 has:∀x,(X.env.kindOf x=some .cell\/X.env.kindOf x=some .free)->∃c,X.env.cells.lookup x=some c
 cab:∀x c,X.fn x=true->X.env.cells.lookup x=some c->X.s₀.heap.objs.size<=c
 hd:X.calm=true->X.A.handled=none
 frames:X.A.frames=some X.stack
 stk:X.stack=X.outer\/(X.stack=X.env::X.outer/\X.env.frame=some X.env.locals)
 exf:∀b∈X.ex,b≠X.env.locals/\∀x c,X.env.cells.lookup x=some c->c≠b
 bs:∀b o,X.base.get? b=some o->X.s₀.heap.get? b=some o/\X.H₀ b=none
 B_:X.base.objs.size<=X.s₀.heap.objs.size
 Jz:∀b o,X.base.get? b=some o->b∉X.ex
 QK:∀b∈X.ex,b∉X.fs
 pW:X.s₀.heap.FunFrames X.base X.outer
 JB:∀b∈X.fs,X.H₀ b=none
def qC (o:Obj)(n:Nat):Prop:=match o.data with| .seq xs _=>∀x t,Value.str x t∈xs->0<t/\t<n| _=>True
def Gy:HO->Nat->Prop
 | .cH o _,n=>qC o n
 | _,_=>True
def Gh (H:Hp)(n:Nat):Prop:=0<n/\∀a o,H a=some o->Gy o n
def Gy.up {o:HO}{n m:Nat}(h:Gy o n)(k:n<=m):Gy o m:=by
 cases o with
 | cH o u=>
  show qC o m;let h:qC o n:=h;unfold qC at h ⊢;split at h
  .show λx t e=>⟨(h x t e).1,bo (h x t e).2 k⟩
  .trivial
 | _=>trivial
def Gh.up {H:Hp}{n m:Nat}(h:Gh H n)(k:n<=m):Gh H m:=⟨bo h.1 k,λa o e=>(h.2 a o e).up k⟩
def Gh.put {H:Hp}{n m:Nat}{a:Addr}{o:HO}(h:Gh H n)(k:n<=m)(g:Gy o m):Gh (upd H a o) m:=⟨bo h.1 k,λb u e=>by
 by_cases z:b=a;.rw[z,aq]at e;cases e;show g
 .rw[aY z]at e;show(h.2 b u e).up k⟩
structure aG (X:Cx)(ak:AC)(σ:List (Option V))(H:Hp)(s:Shared):Prop where
 ok:X.Ok
 os:s.os=X.s₀.os
 bare:AllBare s.gens
 base:Un X.fs X.ex X.H₀ H X.s₀.heap s.heap
 loc:∃m,s.heap.Ns X.env.locals m/\∀(i:Nat) (x:Str) (v:V),X.N[i]?=some x->σ[i]?=some (some v)->Tj X.env.scope x->∃u,bD v u/\Look X.env s.heap m x u
 cell:∀x c,X.env.cells.lookup x=some c->∃v,s.heap.IsCell c v
 free:H X.env.locals=none
 nA:∀x c,X.env.cells.lookup x=some c->H c=none
 pin:∀p∈X.pn++ak,s.heap.get? p.1=some p.2/\H p.1=none/\p.1≠X.env.locals/\p.1∉X.fs/\∀v,p.2.data≠.cell v
 hok:iB X.prog X.w H s.heap
 len:σ.length=X.N.length
 gh:Gh H s.toks
section
variable {X:Cx}{ak:AC}{σ:List (Option V)}{H H':Hp}{s:Shared}{h':Heap}
def Cx.Ok.afq (ok:X.Ok){b:Addr}{o:Obj}(e:X.base.get? b=some o):b∉X.fs:=λd=>by have:=(ok.pW.mem d).1;rw[e]at this;cases this
def aG.bs (I:aG X ak σ H s):∀b o,X.base.get? b=some o->s.heap.get? b=some o/\H b=none:=λb o e=>⟨I.base.keep b o (I.ok.bs b o e).1 (I.ok.bs b o e).2 (I.ok.afq e) (I.ok.Jz b o e),I.base.free b o (I.ok.bs b o e).1 (I.ok.bs b o e).2 (I.ok.Jz b o e)⟩
def aG.bk (I:aG X ak σ H s):∀b o,X.base.get? b=some o->s.heap.get? b=some o:=λb o e=>(I.bs b o e).1
def aG.mod (I:aG X ak σ H s):Mod X.K X.mg X.base:=I.ok.mod
def aG.jg (I:aG X ak σ H s):X.K.In s.heap:=I.ok.mod.wR.keeps I.bk
def aG.lt (I:aG X ak σ H s):X.env.locals<s.heap.objs.size:=let ⟨_,hn,_⟩:=I.loc;hn.lt
def aG.sz (I:aG X ak σ H s):X.s₀.heap.objs.size<=s.heap.objs.size:=aS I.ok.above (aI I.lt)
def aG.afr (I:aG X ak σ H s){a:Addr}(h:s.heap.objs.size<=a):a∉X.fs:=λd=>by let⟨_,o,g,_⟩:=I.ok.pW.mem d;show absurd (bo (a7 g) (aS I.sz h)) (iX _)
def aG.Gz (I:aG X ak σ H s):∀x c,X.env.cells.lookup x=some c->c≠X.env.locals:=λx c e z=>by let⟨v,o,j,hd⟩:=I.cell x c e;obtain⟨m,⟨o',es,ep,d,g,_⟩,_⟩:=I.loc;rw[z,d]at j;cases j;rw[g]at hd;cases hd
def aG.pW (I:aG X ak σ H s):s.heap.FunFrames X.base X.outer:=by
 let all:∀(l:List Env),(∀b∈frs l,b∈X.fs)->X.s₀.heap.FunFrames X.base l->s.heap.FunFrames X.base l:=by
  intro l
  induction l with| nil=>intro _ _;trivial| cons env r ih=>intro hs q;obtain⟨hk,⟨L,o,j,hn,B,hd⟩,D⟩:=q;let d:L∈X.fs:=hs L (by unfold frs;rw[g6,j];show ax);let⟨sl,e⟩:=I.base.slot L o B (I.ok.JB L d) d λz=>I.ok.QK L z d;show⟨hk,⟨L,_,j,hn,e,hd⟩,ih (λb g=>hs b (by unfold frs;rw[g6,j];show ay _ g)) D⟩
 show all X.outer (λ_ g=>g) I.ok.pW
def aG.stack (I:aG X ak σ H s):s.heap.FunFrames X.base X.stack:=by
 rcases I.ok.stk with e|⟨e,d⟩;.rw[e];show I.pW
 .rw[e];let⟨m,hn,_⟩:=I.loc;calc .cons (by rw[I.ok.kind];decide) d hn ?_ I.pW;show Heap.get?_none_of_le (aS I.ok.B_ I.ok.above)
def aG.JC (I:aG X ak σ H s):∀b∈frs X.stack,b∈X.env.locals::X.fs:=λb d=>by
 rcases I.ok.stk with e|⟨e,g⟩;.rw[e]at d;show ay _ d
 .rw[e]at d;unfold frs at d;rw[g6,g]at d;show d
def aG.Oh (I:aG X ak σ H s):∀b∈frs X.stack,H b=none:=λb d=>by
 rcases a_.mp (I.JC b d) with e|d;.rw[e];show I.free
 .let⟨_,o,g,_⟩:=I.ok.pW.mem d;show I.base.free b o g (I.ok.JB b d) λz=>I.ok.QK b z d
def aG.step {g':Array GenState}{t':Nat}{d':Drawn}{ch:List Addr}(I:aG X ak σ H s)(j:∀b∈ch,(b∈X.ex\/X.s₀.heap.objs.size<=b)/\b≠X.env.locals/\(∀x c,X.env.cells.lookup x=some c->c≠b)/\∀p∈X.pn++ak,p.1≠b)(keep:∀b o,b≠X.env.locals->b∉X.fs->b∉ch->s.heap.get? b=some o->H b=none->h'.get? b=some o)(slot:∀b o,b≠X.env.locals->b∈X.fs->b∉ch->s.heap.get? b=some o->H b=none->∃sl,h'.get? b=some {o with slots:=sl})(free:∀b o,b∉ch->s.heap.get? b=some o->H b=none->H' b=none)(there:∀b o,b∉ch->s.heap.get? b=some o->∃o',h'.get? b=some o')(tups:∀b xs,H b=some (.tup xs)->H' b=some (.tup xs))(tZ:∀b o u,H b=some (.cH o u)->H' b=some (.cH o u))(vh:∀b ps,H b=some (.Jy ps)->∃more,H' b=some (.Jy (ps++more)))(ns:∀m,s.heap.Ns X.env.locals m->h'.Ns X.env.locals m)(hok:iB X.prog X.w H' h')(Y:AllBare g')(gh:Gh H' t'):aG X ak σ H' {s with heap:=h',gens:=g',drawn:=d',toks:=t' }:=by
 let L:∀b o,X.s₀.heap.get? b=some o->b≠X.env.locals:=λb o e=>bb (bo (a7 e) I.ok.above);let G:∀b o,X.s₀.heap.get? b=some o->b∉X.ex->b∉ch:=λb o e hx B=>by
  rcases(j b B).1 with z|z;.show hx z
  .show absurd (bo (a7 e) z) (iX _)
 let g:∀x c,X.env.cells.lookup x=some c->∀v,s.heap.IsCell c v->h'.IsCell c v:=λx c e v ⟨o,D,hd⟩=>by
  let F:c∉ch:=λz=>(j c z).2.2.1 x c e rfl;by_cases M:c∈X.fs
  .let⟨sl,q⟩:=slot c o (I.Gz x c e) M F D (I.nA x c e);show⟨_,q,hd⟩
  .show⟨o,keep c o (I.Gz x c e) M F D (I.nA x c e),hd⟩
 calc⟨I.ok,I.os,Y,⟨λb o e n B hx=>?_,λb o e n B hx=>?_,λb o e n hx=>?_,λb o e hx=>?_,λb xs e=>tups b xs (I.base.tups b xs e),λb o xs e=>tZ b o xs (I.base.tZ b o xs e),λb ps e=>?_⟩,?_,λx c e=>?_,?_,λx c e=>?_,λp hp=>?_,hok,I.len,gh⟩;.show keep b o (L b o e) B (G b o e hx) (I.base.keep b o e n B hx) (I.base.free b o e n hx)
 .let⟨sl,e1⟩:=I.base.slot b o e n B hx;let⟨J,e2⟩:=slot b _ (L b o e) B (G b o e hx) e1 (I.base.free b o e n hx);show⟨J,e2⟩
 .let⟨o',e1⟩:=I.base.there b o e hx;show free b o' (G b o e hx) e1 (I.base.free b o e n hx)
 .let⟨o',e1⟩:=I.base.there b o e hx;show there b o' (G b o e hx) e1
 .let⟨m1,e1⟩:=I.base.vh b ps e;let⟨m2,e2⟩:=vh b _ e1;show⟨m1++m2,by rw[e2,Array.append_assoc]⟩
 .let⟨m,hn,O⟩:=I.loc;calc⟨m,ns m hn,λi x v e1 e2 e3=>?_⟩;let⟨u,r,l⟩:=O i x v e1 e2 e3;calc⟨u,r,?_⟩;rcases l with l|⟨k,c,e,z⟩;.show .inl l
  .show .inr ⟨k,c,e,g x c e _ z⟩
 .let⟨v,z⟩:=I.cell x c e;show⟨v,g x c e v z⟩
 .obtain⟨m,⟨o,_,_,D,_⟩,_⟩:=I.loc;show free _ o (λz=>(j _ z).2.1 rQ) D I.free
 .let⟨v,o,D,hd⟩:=I.cell x c e;show free c o (λz=>(j c z).2.2.1 x c e rQ) D (I.nA x c e)
 .let⟨e,n,ne,N,d⟩:=I.pin p hp;let F:p.1∉ch:=λz=>(j p.1 z).2.2.2 p hp rfl;show⟨keep p.1 p.2 ne N F e n,free p.1 p.2 F e n,ne,N,d⟩
def aG.un {t':Nat}(I:aG X ak σ H s)(u:Un X.fs [] H H' s.heap h')(hok:iB X.prog X.w H' h')(gh:Gh H' t'):aG X ak σ H' {s with heap:=h',toks:=t' }:=by
 obtain⟨m,⟨o,es,ep,B,r⟩,_⟩:=id I.loc;let⟨sl,L⟩:=u.any B I.free v0;show I.step (g':=s.gens) (d':=s.drawn) (ch:=[]) (λ_ z=>nomatch z) (λb o _ q _ e n=>u.keep b o e n q v0) (λb o _ q _ e n=>u.slot b o e n q v0) (λb o _ e n=>u.free b o e n v0) (λb o _ e=>u.there b o e v0) u.tups u.tZ u.vh (λF hm=>by let⟨o',j,g,d,D⟩:=hm;rw[B]at d;cases d;show⟨_,j,g,L,D⟩) hok I.bare gh
def aG.call {g':Array GenState}{t':Nat}{d':Drawn}{ch:List Addr}(I:aG X ak σ H s)(u:Un (frs X.stack) ch H H' s.heap h')(hok:iB X.prog X.w H' h')(F:AllBare g')(gh:Gh H' t')(j:∀b∈ch,(b∈X.ex\/X.s₀.heap.objs.size<=b)/\b≠X.env.locals/\(∀x c,X.env.cells.lookup x=some c->c≠b)/\∀p∈X.pn++ak,p.1≠b):aG X ak σ H' {s with heap:=h',gens:=g',drawn:=d',toks:=t' }:=by
 obtain⟨m,⟨o,es,ep,D,r⟩,_⟩:=id I.loc;let⟨sl,L⟩:=u.any D I.free λz=>(j _ z).2.1 rfl;show I.step (ch:=ch) j (λb o L G d e n=>u.keep b o e n (λz=>(a_.mp (I.JC b z)).elim L G) d) (λb o _ _ d e n=>u.any e n d) (λb o d e n=>u.free b o e n d) (λb o d e=>u.there b o e d) u.tups u.tZ u.vh (λM hm=>by let⟨o',B,q,g,J⟩:=hm;rw[D]at g;cases g;show⟨_,B,q,L,J⟩) hok F gh
def aG.turned {t':Nat}{it:Addr}(I:aG X ak σ H s)(k:∀b o,b≠it->s.heap.get? b=some o->h'.get? b=some o)(hn:H it=none)(L:it≠X.env.locals)(h1:it∈X.ex\/X.s₀.heap.objs.size<=it)(B:∀x c,X.env.cells.lookup x=some c->c≠it)(F:∀p∈X.pn++ak,p.1≠it)(j:s.toks<=t':=by first|show af _|assumption|show cx _|lia):aG X ak σ H {s with heap:=h',toks:=t' }:=by
 let g:∀b u,H b=some u->b≠it:=λb u e z=>by rw[z,hn]at e;cases e
 refine I.step (g':=s.gens) (d':=s.drawn) (ch:=[it]) (λb G=>?_) (λb o _ _ d e _=>k b o (λz=>d (by simp[z])) e) (λb o _ _ d e _=>⟨o.slots,k b o (λz=>d (by simp[z])) e⟩) (λ_ _ _ _ n=>n)
  (λb o d e=>⟨o,k b o (λz=>d (by simp[z])) e⟩) (λ_ _ e=>e) (λ_ _ _ e=>e) (λb ps e=>⟨#[],by rw[e];simp⟩) (λm hm=>?_) (λb u e=>?_) I.bare (I.gh.up j)
 .let e:b=it:=by simpa using G
  subst e;show⟨h1,L,B,F⟩
 .let⟨o,es,ep,D,r⟩:=hm;show⟨o,es,ep,k _ o (ie L) D,r⟩
 .refine(I.hok b u e).stay (λc v d q=>k c v ?_ q) (λ_ q=>q) λ_ _ q=>q
  rcases d with z|z;.rw[z];show g b u e
  .show g c _ z
def aG.tok (I:aG X ak σ H s)(t:Nat)(d:s.toks<=t:=by first|show af _|assumption|show cx _|lia):aG X ak σ H {s with toks:=t}:=I.un (h':=s.heap) (t':=t) Un.refl I.hok (I.gh.up d)
def aG.kept {t':Nat}(I:aG X ak σ H s)(k:∀b u,s.heap.get? b=some u->h'.get? b=some u)(d:s.toks<=t':=by first|show af _|assumption|show cx _|lia):aG X ak σ H {s with heap:=h',toks:=t' }:=I.un (Un.kept k) (I.hok.kept k) (I.gh.up d)
def aG.laid {a:Addr}{o:HO}{t':Nat}(I:aG X ak σ H s)(k:∀b u,s.heap.get? b=some u->h'.get? b=some u)(hp:s.heap.objs.size<=a)(d:dh X.prog X.w (upd H a o) h' a o)(g:s.toks<=t':=by first|show af _|assumption|show cx _|lia)(q:Gy o t':=by trivial):aG X ak σ (upd H a o) {s with heap:=h',toks:=t' }:=I.un (Un.laid k hp (I.hok.fresh hp)) (I.hok.laid k hp d) (I.gh.put g q)
def aG.write {x e:Addr}{o:HO}{t':Nat}(I:aG X ak σ H s)(j:Tg (H x))(q:e=x\/H e=some (.own x))(k:∀b u,b≠e->s.heap.get? b=some u->h'.get? b=some u)(d:∃u,h'.get? e=some u)(g:dh X.prog X.w (upd H x o) h' x o)(D:s.toks<=t':=by first|show af _|assumption|show cx _|lia)(B:Gy o t':=by trivial):aG X ak σ (upd H x o) {s with heap:=h',toks:=t' }:=I.un (Un.write j q k d) (I.hok.write j q k d g) (I.gh.put D B)
def aG.Oi {Z:AC}(I:aG X ak σ H s)(h:∀p∈Z,s.heap.get? p.1=some p.2/\H p.1=none/\p.1≠X.env.locals/\p.1∉X.fs/\∀v,p.2.data≠.cell v):aG X Z σ H s:=⟨I.ok,I.os,I.bare,I.base,I.loc,I.cell,I.free,I.nA,λp hp=>(a9.mp hp).elim (λz=>I.pin p (kC _ z)) (h p),I.hok,I.len,I.gh⟩
def JD {N:List Str}(d:N.Nodup){i j:Nat}{x:Str}(a:N[i]?=some x)(b:N[j]?=some x):i=j:=by let⟨h1,e1⟩:=ai.mp a;let⟨g,e2⟩:=ai.mp b;show(List.getElem_inj d).mp (e1.trans e2.symm)
def sI {M:Model}{A:Around}{E:AB}{i:Nat}{x:Str}{v:V}{u:Value}{Q:Unit->Shared->Prop}(I:aG X ak σ H s)(hN:X.N.Nodup)(hi:X.N[i]?=some x)(hx:Loc X.env.scope x)(r:bD v u)(h:∀s',aG X ak (σ.set i (some v)) H s'->(∃a,Heap.SameBut a s.heap s'.heap/\(a=X.env.locals\/X.env.cells.lookup x=some a))->(∃m,s'.heap.Ns X.env.locals m/\Look X.env s'.heap m x u)->Q () s')(hf:X.fn x=true\/X.env.scope.names.lookup x=some .local:=by first|show .inl rfl|show .inr rfl|assumption):wpAny M A (storeName X.env x u) Q E s:=by
 let⟨m,hn,hl⟩:=id I.loc;let Y:(X.env.scope.kind == .class||(X.env.scope.kind == .module&&X.env.locals != X.env.globals))=false:=by rw[I.ok.kind];rfl
 let hiσ:i<σ.length:=by rw[I.len];show(ai.mp hi).1
 let Gz:=I.Gz;let B:∀{a:Addr} {h':Heap},(∃o,s.heap.get? a=some o/\H a=none)->Heap.SameBut a s.heap h'->iB X.prog X.w H h':=λ{a h'} ha hs b ob e=>by
  let⟨_,_,D⟩:=ha;calc(I.hok b ob e).stay (λc w' g q=>(hs.2 c ?_).trans q) (λ_ q=>q) λ_ _ q=>q;rintro rfl;rcases g with rfl|g
  .rw[D]at e;cases e
  .rw[D]at g;cases g
 rcases hx with hk|hk
 .calc wpAny_storeName_local hk hn (λh' N hs=>?_) Y;let⟨oL,_,_,hoL,_⟩:=id hn;calc h _ ⟨I.ok,I.os,I.bare,⟨λb o e n L hx=>?_,λb o e n L hx=>?_,I.base.free,λb o e hx=>?_,I.base.tups,I.base.tZ,I.base.vh⟩,⟨_,N,λj y v' e1 e2 e3=>?_⟩,λy c e=>?_,I.free,I.nA,λp hp=>?_,B ⟨oL,hoL,I.free⟩ hs,by simpa using I.len,I.gh.up (by first|show af _|show cx _)⟩ ⟨_,hs,.inl rQ⟩ ⟨_,N,.inl ⟨hk,v0⟩⟩;.show(hs.2 b (bb (bo (a7 e) I.ok.above))).trans (I.base.keep b o e n L hx)
  .let⟨sl,e1⟩:=I.base.slot b o e n L hx;show⟨sl,(hs.2 b (bb (bo (a7 e) I.ok.above))).trans e1⟩
  .let⟨o',e1⟩:=I.base.there b o e hx;show⟨o',(hs.2 b (bb (bo (a7 e) I.ok.above))).trans e1⟩
  .by_cases F:j=i
   .subst F;rw[hi]at e1;cases e1;rw[mB hiσ]at e2;cases e2;show⟨u,r,.inl ⟨hk,v0⟩⟩
   .rw[nB (ie F)]at e2;let⟨u',r',q⟩:=hl j y v' e1 e2 e3;calc⟨u',r',?_⟩;rcases q with⟨k,e⟩|⟨k,c,e,z⟩
    .calc .inl ⟨k,?_⟩;have:y≠x:=λe=>F (JD hN e1 (e ▸ hi));simp[this,e]
    .show .inr ⟨k,c,e,z.sameBut hs (Gz y c e)⟩
  .let⟨w',z⟩:=I.cell y c e;show⟨w',z.sameBut hs (Gz y c e)⟩
  .let⟨e,n,ne,nf,d⟩:=I.pin p hp;show⟨(hs.2 p.1 ne).trans e,n,ne,nf,d⟩
 .let G:X.fn x=true:=by
   rcases hf with z|z;.show z
   .rw[z]at hk;cases hk
  let⟨c,g⟩:=I.ok.has x (.inl hk);let⟨w',z⟩:=I.cell x c g;calc wpAny_storeName_cell I.ok.kind hk g z (λh' J hs=>?_);let⟨oc,O,afs⟩:=id z;calc h {s with heap:=h' } ⟨I.ok,I.os,I.bare,⟨λb o e n L hx=>?_,λb o e n L hx=>?_,I.base.free,λb o e hx=>?_,I.base.tups,I.base.tZ,I.base.vh⟩,⟨m,hn.sameBut hs (ie (Gz x c g)),λj y v' e1 e2 e3=>?_⟩,λy c' e=>?_,I.free,I.nA,λp hp=>?_,B ⟨oc,O,I.nA x c g⟩ hs,by simpa using I.len,I.gh⟩ ⟨c,hs,.inr g⟩ ⟨m,hn.sameBut hs (ie (Gz x c g)),.inr ⟨.inl hk,c,g,J⟩⟩;.show(hs.2 b (bb (bo (a7 e) (I.ok.cab x c G g)))).trans (I.base.keep b o e n L hx)
  .let⟨sl,e1⟩:=I.base.slot b o e n L hx;show⟨sl,(hs.2 b (bb (bo (a7 e) (I.ok.cab x c G g)))).trans e1⟩
  .let⟨o',e1⟩:=I.base.there b o e hx;show⟨o',(hs.2 b (bb (bo (a7 e) (I.ok.cab x c G g)))).trans e1⟩
  .by_cases F:j=i
   .subst F;rw[hi]at e1;cases e1;rw[mB hiσ]at e2;cases e2;show⟨u,r,.inr ⟨.inl hk,c,g,J⟩⟩
   .rw[nB (ie F)]at e2;let⟨u',r',q⟩:=hl j y v' e1 e2 e3;calc⟨u',r',?_⟩;rcases q with q|⟨k,c',e,z'⟩;.show .inl q
    .calc .inr ⟨k,c',e,z'.sameBut hs ?_⟩;rintro rfl;show F (JD hN e1 (I.ok.inj _ _ _ e g ▸ hi))
  .by_cases Z:c'=c;.subst Z;show⟨_,J⟩
   .let⟨w2,z2⟩:=I.cell y c' e;show⟨w2,z2.sameBut hs Z⟩
  .let⟨e,n,ne,nf,d⟩:=I.pin p hp;calc⟨(hs.2 p.1 ?_).trans e,n,ne,nf,d⟩;intro q;rw[q,O]at e;let q':oc=p.2:=be e;show d w' (by rw[<-q'];show afs)
def Am {M:Model}{A:Around}{E:AB}{i:Nat}{x:Str}{v:V}{u:Value}{Q:Unit->Shared->Prop}(I:aG X ak σ H s)(N:X.N.Nodup)(hi:X.N[i]?=some x)(hx:Loc X.env.scope x)(r:bD v u)(h:∀s',aG X ak (σ.set i (some v)) H s'->Q () s')(d:X.fn x=true\/X.env.scope.names.lookup x=some .local:=by first|show .inl rfl|show .inr rfl|assumption):wpAny M A (storeName X.env x u) Q E s:=sI I N hi hx r (λs' g _ _=>h s' g) d
def aG.call' {s':Shared}{ch:List Addr}(I:aG X ak σ H s)(g:s'.os=s.os)(u:Un (frs X.stack) ch H H' s.heap s'.heap)(hok:iB X.prog X.w H' s'.heap)(j:AllBare s'.gens)(gh:Gh H' s'.toks)(d:∀b∈ch,(b∈X.ex\/X.s₀.heap.objs.size<=b)/\b≠X.env.locals/\(∀x c,X.env.cells.lookup x=some c->c≠b)/\∀p∈X.pn++ak,p.1≠b):aG X ak σ H' s':=by let⟨h',g',d',t',o'⟩:=s';let e:o'=s.os:=g;subst e;show I.call (g':=g') (t':=t') (d':=d') u hok j gh d
end
abbrev XK:=Value->Option Addr->Hp->Prop
abbrev St:=List (Option V)
abbrev VK:=V->Hp->Prop
abbrev TE:=St->Hp->VK->Prop
abbrev TT:=St->Hp->(Bool->Hp->Prop)->Prop
abbrev TA:=St->Hp->(List V->Hp->Prop)->Prop
structure Ends where
 nx:St->Hp->Prop
 rt:VK
 bk:St->Hp->Prop:=λ_ _=>False
 ct:St->Hp->Prop:=λ_ _=>False
abbrev TS:=Ends->St->Hp->Prop
def EP (X:Cx)(ak:AC)(σ:St)(Q:VK)(u:Value)(s':Shared):Prop:=∃v H',aG X ak σ H' s'/\bD v u/\Q v H'
def TP (X:Cx)(ak:AC)(σ:St)(Q:Bool->Hp->Prop)(b:Bool)(s':Shared):Prop:=∃H',aG X ak σ H' s'/\Q b H'
def AP (X:Cx)(ak:AC)(σ:St)(Q:List V->Hp->Prop)(us:List Value)(s':Shared):Prop:=∃vs H',aG X ak σ H' s'/\Vals vs us/\Q vs H'
def SP (X:Cx)(ak:AC)(D:Ends)(f:Flow)(s':Shared):Prop:=match f with| .next=>∃σ' H',aG X ak σ' H' s'/\D.nx σ' H'| .brk=>∃σ' H',aG X ak σ' H' s'/\D.bk σ' H'| .cont=>∃σ' H',aG X ak σ' H' s'/\D.ct σ' H'| .ret u=>∃v σ' H',aG X ak σ' H' s'/\bD v u/\D.rt v H'
def PE (X:Cx)(e:Expr)(t:TE):Prop:=∀(ak:AC) (s:Shared) (σ:St) (H:Hp) (Q:VK),aG X ak σ H s->t σ H Q->wpAny (model X.prog X.w) X.A (eval e X.env) (EP X ak σ Q) X.xe s
def PT (X:Cx)(e:Expr)(t:TT):Prop:=∀(ak:AC) (s:Shared) (σ:St) (H:Hp) (Q:Bool->Hp->Prop),aG X ak σ H s->t σ H Q->wpAny (model X.prog X.w) X.A (isTrue e X.env (eval e X.env)) (TP X ak σ Q) X.xe s
def PW (X:Cx)(e:Expr)(t:TT):Prop:=∀(d:Sem Value) (ak:AC) (s:Shared) (σ:St) (H:Hp) (Q:Bool->Hp->Prop),aG X ak σ H s->t σ H Q->wpAny (model X.prog X.w) X.A (isTrue e X.env d) (TP X ak σ Q) X.xe s
def PW.pt {X:Cx}{e:Expr}{t:TT}(h:PW X e t):PT X e t:=h _
def PA (X:Cx)(es:List Expr)(t:TA):Prop:=∀(pos:Pos) (ak:AC) (s:Shared) (σ:St) (H:Hp) (Q:List V->Hp->Prop),aG X ak σ H s->t σ H Q->wpAny (model X.prog X.w) X.A (spliced (backTo pos (starEach es X.env))) (AP X ak σ Q) X.xe s
def PS (X:Cx)(st:Stmt)(t:TS):Prop:=∀(ak:AC) (s:Shared) (σ:St) (H:Hp) (D:Ends),aG X ak σ H s->t D σ H->wpAny (model X.prog X.w) X.A (exec st X.env) (SP X ak D) X.xe s
def oE (X:Cx)(st:List Stmt)(t:TS):Prop:=∀(ak:AC) (s:Shared) (σ:St) (H:Hp) (D:Ends),aG X ak σ H s->t D σ H->wpAny (model X.prog X.w) X.A (execs st X.env) (SP X ak D) X.xe s
def bA {α:Type}{t:Sem α}{Q d:α->Shared->Prop}{M:Model}{A:Around}{E:AB}{s:Shared}(h:wpAny M A t Q E s)(g:∀a s,Q a s->d a s):wpAny M A t d E s:=eW h g λ_ _ x=>x
section
variable {X:Cx}
def dj (i:Nat):TE:=λσ H Q=>∃v,σ[i]?=some (some v)/\Q v H
def tC (v:V):TE:=λ_ H Q=>Q v H
def acg {i:Nat}{x:Str}{pos:Pos}(N:X.N[i]?=some x)(hv:Tj X.env.scope x)(hd:(x==("__debug__":Str))=false:=by decide)(j:(x==("__classdict__":Str))=false:=by decide):PE X (.Name x pos) (dj i):=by
 intro ak s σ H Q I h;let⟨v,e,h⟩:=h;let⟨m,hn,B⟩:=I.loc;let⟨u,r,l⟩:=B i x v N e hv;let g:EP X ak σ Q u s:=⟨v,H,I,r,h⟩
 rcases l with⟨hk,hm⟩|⟨hk,c,q,d⟩;.show o6 (r0 I.ok.kind hk hn hm g) hd
 .rcases hk with hk|hk;.show o6 (wpAny_loadName_cell I.ok.kind hk q d g) hd
  .show o6 (wpAny_loadName_free I.ok.kind hk q d g j) hd
def ach {i j pos}:PE X (.Constant (.int i) j pos) (tC (.int i)):=λ_ _ _ H _ I h=>tw ⟨.int i,H,I.tok _,⟨_,rQ⟩,h⟩
def aeK {b j pos}:PE X (.Constant (.bool b) j pos) (tC (.bl b)):=λ_ _ _ H _ I h=>Constant_bool ⟨.bl b,H,I,rQ,h⟩
def aci {x j pos}:PE X (.Constant (.str x) j pos) (tC (.str x)):=λ_ _ _ H _ I h=>ii ⟨.str x,H,I.tok _,⟨_,rQ⟩,h⟩
def Gl (X:Cx)(x:Str):Prop:=X.env.kindOf x=some .globalImplicit
def yV {E:AB}{ak:AC}{s:Shared}{σ:St}{H:Hp}{x:Str}{u:Value}{pos:Pos}{Q:AB}(I:aG X ak σ H s)(g:Gl X x)(hm:X.mg x=some u)(h:Q u s)(hd:(x==("__debug__":Str))=false:=by decide):wpAny (model X.prog X.w) X.A (eval (.Name x pos) X.env) Q E s:=Calls.Name_function_global I.ok.kind g (Calls.loadGlobal_global (by rw[I.ok.glob];show I.mod.glob.keeps I.bk) hm h) hd
def pG {E:AB}{ak:AC}{s:Shared}{σ:St}{H:Hp}{x:Str}{u:Value}{pos:Pos}{Q:AB}(I:aG X ak σ H s)(g:Gl X x)(hm:X.mg x=none)(hv:bootBuiltins x=some u)(h:Q u s)(hn:x≠"__name__":=by decide)(hd:(x==("__debug__":Str))=false:=by decide):wpAny (model X.prog X.w) X.A (eval (.Name x pos) X.env) Q E s:=by let⟨mb,h1,d⟩:=I.mod.blt;show Calls.Name_function_global I.ok.kind g (Calls.loadGlobal_builtin (by rw[I.ok.glob];show I.mod.glob.keeps I.bk) hm (by rw[I.ok.blt];show h1.keeps I.bk) ((d x hn).trans hv) h) hd
def aak {x:Str}{v:V}{u:Value}{pos:Pos}(g:Gl X x)(hm:X.mg x=some u)(r:bD v u)(hd:(x==("__debug__":Str))=false:=by decide):PE X (.Name x pos) (tC v):=λ_ _ _ H _ I h=>yV I g hm ⟨v,H,I,r,h⟩ hd
def aal {x:Str}{v:V}{u:Value}{pos:Pos}(g:Gl X x)(hm:X.mg x=none)(hv:bootBuiltins x=some u)(r:bD v u)(hn:x≠"__name__":=by decide)(hd:(x==("__debug__":Str))=false:=by decide):PE X (.Name x pos) (tC v):=λ_ _ _ H _ I h=>pG I g hm hv ⟨v,H,I,r,h⟩ hn hd
variable {a b:Expr}{ta tb:TE}{pos:Pos}
def PC (X:Cx)(op:CmpOp)(a b:Expr)(t:TE):Prop:=∀(ak:AC) (s:Shared) (σ:St) (H:Hp) (Q:VK),aG X ak σ H s->t σ H Q->
  wpAny (model X.prog X.w) X.A (eval a X.env) (λv d=>wpAny (model X.prog X.w) X.A (eval b X.env) (λu g=>wpAny (model X.prog X.w) X.A (compareOp op v u) (EP X ak σ Q) X.xe g) X.xe d) X.xe s
def tB (t:TE):TT:=λσ H Q=>t σ H λx H1=>∃c,x=.bl c/\Q c H1
def acj {op:CmpOp}{t:TE}(h:PC X op a b t)(h1:behindInMarks op b=false:=by first|show W0 _ v_ v_|rfl):PE X (.Compare a [op] [b] pos) t:=λak s σ H Q I hw=>wpAny_Compare1 (h ak s σ H Q I hw) h1
def acn {e:Expr}{t:TE}(h:PE X e t)(B:∀g,isTrue e X.env g=(do let v <- g;standAt e.pos;holding [v] (truthy v)):=by intro _;rfl):PT X e (tB t):=by intro ak s σ H Q I hw;calc isTrue_plain (bA (h ak s σ H _ I hw) λv s1 D=>?_) (B _);let⟨x,H1,j,r1,q1⟩:=D;let⟨d,rfl,q⟩:=q1;cases r1;show ef ⟨H1,j,q⟩
variable {tA lM:TT}{rest:List Expr}
def aco (t u:TT):TT:=λσ H Q=>t σ H λc H1=>if c=true then u σ H1 Q else Q false H1
def tOr (t u:TT):TT:=λσ H Q=>t σ H λc H1=>if c=true then Q true H1 else u σ H1 Q
def acp (t:TT):TT:=λσ H Q=>t σ H λc H1=>Q (!c) H1
def aam (ha:PT X a tA):PW X (.BoolOp .And [a] pos) tA:=by
 intro d ak s σ H Q I h;calc isTrue_and (bA (ha ak s σ H Q I h) λc s1 e=>?_);cases c with| true=>show isTrue_and_nil e| false=>show e
def acq (ha:PT X a tA):PW X (.BoolOp .Or [a] pos) tA:=by
 intro d ak s σ H Q I h;calc isTrue_or (bA (ha ak s σ H Q I h) λc s1 e=>?_);cases c with| false=>show isTrue_or_nil e| true=>show e
def acr (ha:PT X a tA)(g:PW X (.BoolOp .And (b::rest) pos) lM):PW X (.BoolOp .And (a::b::rest) pos) (aco tA lM):=by
 intro q ak s σ H Q I h;calc isTrue_and (bA (ha ak s σ H _ I h) λc s1 j=>?_);let⟨H1,d,q1⟩:=j;cases c with| true=>show g q ak s1 σ H1 Q d q1| false=>show⟨H1,d,q1⟩
def aeL (ha:PT X a tA)(g:PW X (.BoolOp .Or (b::rest) pos) lM):PW X (.BoolOp .Or (a::b::rest) pos) (tOr tA lM):=by
 intro q ak s σ H Q I h;calc isTrue_or (bA (ha ak s σ H _ I h) λc s1 j=>?_);let⟨H1,d,q1⟩:=j;cases c with| true=>show⟨H1,d,q1⟩| false=>show g q ak s1 σ H1 Q d q1
def acs (ha:PT X a tA):PT X (.UnaryOp .Not a pos) (acp tA):=by intro ak s σ H Q I h;show isTrue_not (ha ak s σ H (λc H1=>Q (!c) H1) I h)
def Zi (ta tb:TE):TE:=λσ H Q=>ta σ H λx H1=>∃c,x=.bl c/\if c=true then tb σ H1 Q else Q (.bl false) H1
def acu (ta tb:TE):TE:=λσ H Q=>ta σ H λx H1=>∃c,x=.bl c/\if c=true then Q (.bl true) H1 else tb σ H1 Q
def Zj (ta:TE):TE:=λσ H Q=>ta σ H λx H1=>∃c,x=.bl c/\Q (.bl (!c)) H1
def acv {op}{t:TE}(h:PE X a t):PE X (.BoolOp op [a] pos) t:=λak s σ H Q I hw=>BoolOp_one (h ak s σ H Q I hw)
def acw (ha:PE X a ta)(g:PE X (.BoolOp .And (b::rest) pos) tb):PE X (.BoolOp .And (a::b::rest) pos) (Zi ta tb):=by
 intro ak s σ H Q I h;calc BoolOp_and (bA (ha ak s σ H _ I h) λv s1 j=>?_);let⟨x,H1,d,r1,q1⟩:=j;let⟨c,rfl,q1⟩:=q1;cases r1;calc ef ?_;cases c with| true=>show g ak s1 σ H1 Q d q1| false=>show⟨.bl false,H1,d,rQ,q1⟩
def aeM (ha:PE X a ta)(g:PE X (.BoolOp .Or (b::rest) pos) tb):PE X (.BoolOp .Or (a::b::rest) pos) (acu ta tb):=by
 intro ak s σ H Q I h;calc BoolOp_or (bA (ha ak s σ H _ I h) λv s1 j=>?_);let⟨x,H1,d,r1,q1⟩:=j;let⟨c,rfl,q1⟩:=q1;cases r1;calc ef ?_;cases c with| false=>show g ak s1 σ H1 Q d q1| true=>show⟨.bl true,H1,d,rQ,q1⟩
def acy (ha:PE X a ta):PE X (.UnaryOp .Not a pos) (Zj ta):=by intro ak s σ H Q I h;calc UnaryOp_ (bA (ha ak s σ H _ I h) λv s1 g=>?_);let⟨x,H1,d,r1,q1⟩:=g;let⟨c,rfl,q1⟩:=q1;cases r1;show not_of (ef ⟨.bl (!c),H1,d,rQ,q1⟩)
def tIf (t:TT)(ta tb:TE):TE:=λσ H Q=>t σ H λc H1=>if c=true then ta σ H1 Q else tb σ H1 Q
def W2 {c:Expr}(B:PT X c tA)(ha:PE X a ta)(j:PE X b tb):PE X (.IfExp c a b pos) (tIf tA ta tb):=by
 intro ak s σ H Q I h;calc wpAny_IfExp (bA (B ak s σ H _ I h) λd s1 q=>?_);let⟨H1,g,q1⟩:=q;cases d with| true=>show ha ak s1 σ H1 Q g q1| false=>show j ak s1 σ H1 Q g q1
end
def aP (K:W.Frag)(H:Hp)(a:Addr)(xs:List V):Prop:=Rd H a (.lst xs)\/
  ∃(o:Obj) (its:Array Value) (n:Nat),K.lookup a=some o/\o.cls=.type "list"/\o.dict=none/\o.data=.seq its n/\its.size<=sizeLine/\Vals xs its.toList/\∀v∈xs,zX v=v
def aU (K:W.Frag)(H:Hp)(a:Addr)(xs:List V):Prop:=Rd H a (.tup xs)\/
  ∃(o:Obj) (its:Array Value) (n:Nat),K.lookup a=some o/\o.cls=.type "tuple"/\o.data=.seq its n/\its.size<=sizeLine/\Vals xs its.toList/\∀v∈xs,zX v=v
noncomputable def aft:Value->Option V
 | .none=>some .non
 | .bool b=>some (.bl b)
 | .int i _=>some (.int i)
 | .str x _=>some (.str x)
 | .bytes b _=>some (.wQ b)
 | .float b _=>some (.flt b)
 | .ref a=>some (.ref a)
 | .type n=>some (.ty n)
 | _=>none
def bD.abs {x:V}{u:Value}(r:bD x u):aft u=some (zX x):=by
 cases x with
 | non=>cases r;rfl
 | bl _=>cases r;rfl
 | int _=>let⟨t,rfl⟩:=r;rfl
 | str _=>let⟨t,rfl⟩:=r;rfl
 | wQ _=>let⟨t,rfl⟩:=r;rfl
 | flt _=>let⟨t,rfl⟩:=r;rfl
 | ref _=>cases r;rfl
 | ty _=>cases r;rfl
 | sx _ _=>cases r;rfl
def bD.inj {x y:V}{u:Value}(r:bD x u)(q:bD y u)(h:zX x=x)(h':zX y=y):x=y:=by rw[<-h,<-h'];show be (r.abs.symm.trans q.abs)
theorem Vals.inj:∀{xs ys:List V} {us:List Value},Vals xs us->Vals ys us->(∀v∈xs,zX v=v)->(∀v∈ys,zX v=v)->xs=ys
 | _,_,_,.nil,.nil,_,_=>rfl
 | _,_,_,.cons r t,.cons r' t',h,h'=>by rw[r.inj r' (h _ (.head _)) (h' _ (.head _)),Vals.inj t t' (λv z=>h v (.tail _ z)) λv z=>h' v (.tail _ z)]
def Rd.one {H:Hp}{a:Addr}{u v:HO}(h:Rd H a u)(h':Rd H a v)(d:∀o x,u≠.cH o x)(g:∀o x,v≠.cH o x):u=v:=by
 rcases h with h|⟨o,h⟩ <;> rcases h' with h'|⟨o',h'⟩ <;> rw[h]at h' <;> injection h' with h'
 .show absurd h' (d _ _)
 .show absurd h'.symm (g _ _)
 .injection h'
def Rd.ne {H:Hp}{a:Addr}{u:HO}(h:Rd H a u):H a≠none:=by rcases h with h|⟨o,h⟩ <;> rw[h] <;> simp
section
variable {X:Cx}{ak:AC}{σ:St}{H:Hp}{s:Shared}{a:Addr}{xs ys:List V}
def aP.of {K:W.Frag}(h:H a=some (.lst xs)):aP K H a xs:=.inl (.inl h)
def aU.of {K:W.Frag}(h:H a=some (.tup xs)):aU K H a xs:=.inl (.inl h)
def aG.list (I:aG X ak σ H s)(h:aP X.K H a xs):∃its:List Value,Vals xs its/\PlainL s.heap a its.toArray/\xs.length<=sizeLine:=by
 rcases h with h|⟨o,its,n,hk,d,hd,hs,hz,r,_⟩
 .let⟨z,its,n,r,e⟩:=h.ok I.hok;show⟨its,r,⟨_,n,e,rQ,rQ,rQ⟩,z⟩
 .calc⟨its.toList,r,⟨o,n,I.jg a o hk,d,hd,by simpa using hs⟩,?_⟩;let e:=r.length;simp only[bn]at e;lia
def aG.tuple (I:aG X ak σ H s)(h:aU X.K H a xs):∃its:List Value,Vals xs its/\IsTup s.heap a its.toArray/\xs.length<=sizeLine:=by
 rcases h with h|⟨o,its,n,hk,d,hs,hz,r,_⟩
 .let⟨z,its,r,p⟩:=h.ok I.hok;show⟨its,r,p,z⟩
 .calc⟨its.toList,r,⟨o,I.jg a o hk,d,n,by simpa using hs⟩,?_⟩;let e:=r.length;simp only[bn]at e;lia
def aG.JF (I:aG X ak σ H s)(h:aP X.K H a xs)(h':aP X.K H a ys):xs=ys:=by
 rcases h with h|⟨o,its,n,hk,_,_,hd,_,r,p⟩ <;> rcases h' with h'|⟨o',its',B,d,_,_,g,_,j,q⟩
 .show HO.lst.inj (h.one h' (λ_ _=>nofun) λ_ _=>nofun)
 .show absurd (I.bs a _ (I.mod.wR a _ d)).2 h.ne
 .show absurd (I.bs a _ (I.mod.wR a _ hk)).2 h'.ne
 .rw[hk]at d;cases d;rw[hd]at g;cases g;show r.inj j p q
def aG.GD (I:aG X ak σ H s)(h:aU X.K H a xs)(h':aU X.K H a ys):xs=ys:=by
 rcases h with h|⟨o,its,n,hk,_,hd,_,r,p⟩ <;> rcases h' with h'|⟨o',its',B,d,_,g,_,j,q⟩
 .show HO.tup.inj (h.one h' (λ_ _=>nofun) λ_ _=>nofun)
 .show absurd (I.bs a _ (I.mod.wR a _ d)).2 h.ne
 .show absurd (I.bs a _ (I.mod.wR a _ hk)).2 h'.ne
 .rw[hk]at d;cases d;rw[hd]at g;cases g;show r.inj j p q
end
abbrev Cx.wish (X:Cx)(E:AB):Cx:={X with xe:=E}
abbrev Cx.xG (X:Cx):Cx:=X.wish λ_ _=>False
def Cx.Ok.wish {X:Cx}(ok:X.Ok)(E:AB):(X.wish E).Ok:=⟨ok.mod,ok.kind,ok.glob,ok.blt,ok.above,ok.inj,ok.has,ok.cab,ok.hd,ok.frames,ok.stk,ok.exf,ok.bs,ok.B_,ok.Jz,ok.QK,ok.pW,ok.JB⟩
def Cx.Ok.pH {X:Cx}{E:AB}(ok:(X.wish E).Ok):X.Ok:=⟨ok.mod,ok.kind,ok.glob,ok.blt,ok.above,ok.inj,ok.has,ok.cab,ok.hd,ok.frames,ok.stk,ok.exf,ok.bs,ok.B_,ok.Jz,ok.QK,ok.pW,ok.JB⟩
section
variable {X:Cx}{ak:AC}{σ:St}{H:Hp}{s:Shared}{E:AB}
def aG.wish (I:aG X ak σ H s)(E:AB):aG (X.wish E) ak σ H s:=⟨I.ok.wish E,I.os,I.bare,I.base,I.loc,I.cell,I.free,I.nA,I.pin,I.hok,I.len,I.gh⟩
def aG.pH (I:aG (X.wish E) ak σ H s):aG X ak σ H s:=⟨I.ok.pH,I.os,I.bare,I.base,I.loc,I.cell,I.free,I.nA,I.pin,I.hok,I.len,I.gh⟩
def SP.pH {D:Ends}{f:Flow}{s':Shared}(h:SP (X.wish E) ak D f s'):SP X ak D f s':=by
 cases f with
 | next=>let⟨σ',H',I,q⟩:=h;show⟨σ',H',I.pH,q⟩
 | brk=>let⟨σ',H',I,q⟩:=h;show⟨σ',H',I.pH,q⟩
 | cont=>let⟨σ',H',I,q⟩:=h;show⟨σ',H',I.pH,q⟩
 | ret u=>let⟨v,σ',H',I,r,q⟩:=h;show⟨v,σ',H',I.pH,r,q⟩
def oE.xG {st:List Stmt}{t:TS}(h:oE X.xG st t):oE X st t:=λak s σ H D I hw=>eW (h ak s σ H D (I.wish _) hw) (λ_ _ q=>q.pH) λ_ _ z=>False.elim z
end
section
variable {X:Cx}{st:Stmt}{rest:List Stmt}{t u:TS}{e:Expr}{te:TE}{pos:Pos}
def Zk:TS:=λD σ H=>D.nx σ H
def acz (t u:TS):TS:=λD σ H=>t {D with nx:=u D} σ H
def aan:oE X [] Zk:=λ_ _ σ H _ I h=>iq ⟨σ,H,I,h⟩
def W3 (h1:PS X st t)(d:oE X rest u):oE X (st::rest) (acz t u):=by
 intro ak s σ H D I h;calc kH (bA (h1 ak s σ H {D with nx:=u D} I h) λf s1 q=>?_);cases f with
 | next=>let⟨σ',H',g,q⟩:=q;show d ak s1 σ' H' D g q
 | ret v=>show q
 | brk=>show q
 | cont=>show q
def aao (h1:PS X st t):oE X [st] t:=by
 intro ak s σ H D I h;calc kH (bA (h1 ak s σ H D I h) λf s1 q=>?_);cases f with| next=>show iq q| ret v=>show q| brk=>show q| cont=>show q
def aG.quiet {ak:AC}{σ:St}{H:Hp}{s:Shared}(I:aG X ak σ H s):interactive X.env=false:=by simp[interactive,I.ok.kind]
def Ca (te:TE):TS:=λD σ H=>te σ H λ_ H1=>D.nx σ H1
def aap (g:PE X e te)(hs:swapsWith e none pos.line X.env=pure false:=by rfl):PS X (.Expr e pos) (Ca te):=by intro ak s σ H D I h;show wpAny_Expr_any (bA (g ak s σ H _ I h) λv s1 ⟨x,H1,d,r1,q1⟩=>⟨σ,H1,d,q1⟩) I.quiet hs
def QL (te:TE):TS:=λD σ H=>te σ H D.rt
def acA (g:PE X e te):PS X (.Return (some e) pos) (QL te):=by intro ak s σ H D I h;show wpAny_Return_some (bA (g ak s σ H _ I h) λv s1 ⟨x,H1,d,r1,q1⟩=>⟨x,σ,H1,d,r1,q1⟩)
def acB (c:TT)(t u:TS):TS:=λD σ H=>c σ H λb H1=>if b=true then t D σ H1 else u D σ H1
def aeN {c:Expr}{a b:List Stmt}{tc:TT}(j:PT X c tc)(ha:oE X a t)(q:oE X b u):PS X (.If c a b pos) (acB tc t u):=by
 intro ak s σ H D I h;calc wpAny_If (bA (j ak s σ H _ I h) λd s1 B=>?_);let⟨H1,g,q1⟩:=B;cases d with| true=>show ha ak s1 σ H1 D g q1| false=>show q ak s1 σ H1 D g q1
def Tr:TS:=λ_ _ _=>False
def Tt {d:List Stmt}:oE X d Tr:=λ_ _ _ _ _ _ h=>h.elim
end
abbrev TG:=V->St->Hp->(St->Hp->Prop)->Prop
abbrev qW:=List V->St->Hp->(St->Hp->Prop)->Prop
def PG (X:Cx)(d:Expr)(t:TG):Prop:=∀(ak:AC) (s:Shared) (σ:St) (H:Hp) (v:V) (u:Value) (Q:St->Hp->Prop),aG X ak σ H s->bD v u->t v σ H Q->
  wpAny (model X.prog X.w) X.A (assign d X.env u) (λ_ s'=>∃σ' H',aG X ak σ' H' s'/\Q σ' H') X.xe s
def JG (X:Cx)(ts:List Expr)(t:qW):Prop:=∀(ak:AC) (s:Shared) (σ:St) (H:Hp) (vs:List V) (us:List Value) (Q:St->Hp->Prop),aG X ak σ H s->Vals vs us->t vs σ H Q->
  wpAny (model X.prog X.w) X.A (assignInOrder ((assignEach ts X.env).map (·.2)) us) (λ_ s'=>∃σ' H',aG X ak σ' H' s'/\Q σ' H') X.xe s
abbrev QM:=V->V->V->Hp->(Hp->Prop)->Prop
def W4 (X:Cx)(t:QM):Prop:=∀(ak:AC) (s:Shared) (σ:St) (H:Hp) (o i v:V) (d g u:Value) (Q:Hp->Prop),aG X ak σ H s->bD o d->bD i g->bD v u->t o i v H Q->
  wpAny (model X.prog X.w) X.A (setItem d g u) (λ_ s'=>∃H',aG X ak σ H' s'/\Q H') X.xe s
section
variable {X:Cx}{pos:Pos}
def jd (i:Nat):TG:=λv σ H Q=>Q (σ.set i (some v)) H
def iD {i:Nat}{x:Str}(N:X.N.Nodup)(hi:X.N[i]?=some x)(hx:Loc X.env.scope x)(d:X.fn x=true\/X.env.scope.names.lookup x=some .local:=by first|show .inl rfl|show .inr rfl|assumption):PG X (.Name x pos) (jd i):=by intro ak s σ H v u Q I r h;show t7 (Am I N hi hx r (λs' g=>⟨_,H,g,h⟩) d)
def Et:qW:=λvs σ H Q=>vs=[]/\Q σ H
def lZ (t:TG)(u:qW):qW:=λvs σ H Q=>∃v r,vs=v::r/\t v σ H λσ' H'=>u r σ' H' Q
def uz:JG X [] Et:=by intro ak s σ H vs us Q I r h;let⟨e,h⟩:=h;subst e;cases r;show assignInOrder_nil ⟨σ,H,I,h⟩
def g_ {e:Expr}{es:List Expr}{t:TG}{u:qW}(h1:PG X e t)(g:JG X es u)(hs:(assignEach (e::es) X.env).map (·.2)=assign e X.env::(assignEach es X.env).map (·.2):=by rfl):JG X (e::es) (lZ t u):=by
 intro ak s σ H vs us Q I r h;let⟨v,vr,e1,h⟩:=h;subst e1;cases r with| cons r rr=>rw[hs];calc assignInOrder_cons (bA (h1 ak s σ H _ _ _ I r h) λ_ s1 j=>?_);let⟨σ1,H1,d,q1⟩:=j;show g ak s1 σ1 H1 _ _ Q d rr q1
def QV (K:W.Frag)(n:Nat)(t:qW):TG:=λv σ H Q=>∃a xs,v=.ref a/\aU K H a xs/\xs.length=n/\t xs σ H Q
def JH {es:List Expr}{k:Nat}{t:qW}{n:Nat}(B:X.calm=true)(h:JG X es t)(hn:(assignEach es X.env).length=n:=by rfl)(d:(assignEach es X.env).findIdx? (·.1)=none:=by rfl):PG X (.Tuple es k pos) (QV X.K n t):=by intro ak s σ H v u Q I r hw;let⟨a,xs,e1,F,D,hw⟩:=hw;subst e1;cases r;let⟨its,g,q,hz⟩:=I.tuple F;calc assign_Tuple_tuple (I.ok.hd B) q (by simp[hn,<-D,g.length]) d λh' hx=>?_;let j:aG X ak σ H {s with heap:=h' }:=I.kept (t':=s.toks) λb o e=>hx b o (bb (a7 e)) e;show h ak _ σ H xs _ Q j (by simpa using g) hw
def acC (to ti:TE)(t:QM):TG:=λv σ H Q=>to σ H λo H1=>ti σ H1 λi d=>t o i v d λg=>Q σ g
def acD {o i:Expr}{to ti:TE}{t:QM}(G:PE X o to)(hi:PE X i ti)(hs:W4 X t)(ha:∀v,assign (.Subscript o i pos) X.env v=(do
   let d <- holding [v] (eval o X.env)
   let g <- holding [v,d] (eval i X.env)
   standAt pos
   holding [v,d,g] (setItem d g v)
   release [v,d,g] []):=by intro _;rfl):PG X (.Subscript o i pos) (acC to ti t):=by
 intro ak s σ H v u Q I r h;rw[ha];calc aa (eD (bA (G ak s σ H _ I h) λd s1 j=>?_));let⟨x,H1,q,r1,q1⟩:=j;calc aa (eD (bA (hi ak s1 σ H1 _ q q1) λg s2 j=>?_));let⟨y,L,D,F,q2⟩:=j;calc aa (qB (aa (eD (bA (hs ak s2 σ L x y v d g u _ D r1 F r q2) λ_ M j=>?_))));let⟨B,J,q3⟩:=j;show wpAny_release ⟨σ,B,J,q3⟩
def Eu (te:TE)(g:TG):TS:=λD σ H=>te σ H λx H1=>g x σ H1 D.nx
def acE {tg e:Expr}{te:TE}{g:TG}(j:PE X e te)(B:PG X tg g)(hs:swapsWithSole [tg] e pos.line X.env=pure false:=by rfl)(hw:swappedStores [tg] e X.env=pure none:=by rfl)(h1:(assignEach [tg] X.env).map (·.2)=[assign tg X.env]:=by rfl):PS X (.Assign [tg] e pos) (Eu te g):=by intro ak s σ H D I h;calc wpAny_Assign_stores (bA (j ak s σ H _ I h) λv s1 F=>?_) hs hw;let⟨x,H1,d,r1,q1⟩:=F;rw[h1];show bA (B ak s1 σ H1 x v _ d r1 q1) λ_ s2 q=>q
def acF {i:Nat}{x:Str}{e:Expr}{te:TE}{pos':Pos}(N:X.N.Nodup)(hi:X.N[i]?=some x)(hx:Loc X.env.scope x)(q:PE X e te)(hs:swapsWith e (some (.Name x pos')) pos.line X.env=pure false:=by rfl)(d:X.fn x=true\/X.env.scope.names.lookup x=some .local:=by first|show .inl rfl|show .inr rfl|assumption):PS X (.Assign [.Name x pos'] e pos) (Eu te (jd i)):=by intro ak s σ H D I h;calc t9 (bA (q ak s σ H _ I h) λv s1 B=>?_) hs;let⟨y,H1,g,r1,q1⟩:=B;show Am g N hi hx r1 (λs2 j=>⟨_,H1,j,q1⟩) d
def Tv (c:TT)(tb:TS):TS:=λD σ H=>∃W:Nat->St->Hp->Prop,(∃m,W m σ H)/\∀m σ H,W m σ H->
 c σ H λb H1=>if b=true then ∃N:St->Hp->Prop,(∀σ' H',N σ' H'->∃d,d<m/\W d σ' H')/\tb {D with nx:=N,ct:=N,bk:=D.nx} σ H1 else D.nx σ H1
def W5 {c:Expr}{d:List Stmt}{tc:TT}{tb:TS}(hp:PassesOwn (model X.prog X.w) X.A X.env X.xe)(Y:PT X c tc)(hb:oE X d tb):PS X (.While c d [] pos) (Tv tc tb):=by
 intro ak s σ H D I h;obtain⟨W,⟨Z,w0⟩,j⟩:=h;calc wpAny_While (codeAny_whileLoop (λn s'=>∃σ' H',aG X ak σ' H' s'/\W n σ' H') ?_ Z ⟨σ,H,I,w0⟩);intro n s1 z;let⟨σ1,H1,O,w1⟩:=z;calc fm hp (bA (Y ak s1 σ1 H1 _ O (j n σ1 H1 w1)) λb s2 zz=>?_);let⟨M,J,q2⟩:=zz;cases b with
 | true=>
  let⟨N,L,q2⟩:=q2;rw[if_pos rfl];calc fm hp (bA (hb ak s2 σ1 M _ J q2) λf s3 q3=>?_);cases f with
  | next=>let⟨σ3,g,q,B⟩:=q3;let⟨F,hm,G⟩:=L σ3 g B;show⟨F,hm,σ3,g,q,G⟩
  | cont=>let⟨σ3,g,q,B⟩:=q3;let⟨F,hm,G⟩:=L σ3 g B;show⟨F,hm,σ3,g,q,G⟩
  | brk=>show q3
  | ret v=>show q3
 | false=>rw[if_neg b6];show iq ⟨σ1,M,J,q2⟩
end
structure It where
 go:Nat->Hp->Prop
 zY:Nat->Hp->V->Hp->Prop
 stop:Nat->Hp->Prop
def mQ (X:Cx)(ak:AC)(H:Hp)(b:Addr):Prop:=H b=none/\b≠X.env.locals/\b∉X.fs/\(b∈X.ex\/X.s₀.heap.objs.size<=b)/\(∀x c,X.env.cells.lookup x=some c->c≠b)/\∀p∈X.pn++ak,p.1≠b
def aG.nC {X:Cx}{ak:AC}{σ:St}{H H':Hp}{s:Shared}{b:Addr}(I:aG X ak σ H s)(d:s.heap.objs.size<=b)(hn:H' b=none):mQ X ak H' b:=by
 refine⟨hn,gg (bo I.lt d),I.afr d,.inr (aS I.sz d),λx c e z=>?_,λp hp z=>?_⟩
 .let⟨v,q⟩:=I.cell x c e;show absurd (bo q.lt (by rw[z];show d)) (iX _)
 .show absurd (bo (a7 (I.pin p hp).1) (by rw[z];show d)) (iX _)
structure Turn (P:Program)(w:World)(K:W.Frag)(tg:Expr)(J:It)(fp:List Addr)(it:Addr)(tn:Nat->Heap->Prop):Prop where
 mem:it∈fp
 obj:∀i h,tn i h->∀b∈fp,∃o,h.get? b=some o/\∀v,o.data≠.cell v
 keep:∀i h h',tn i h->(∀b∈fp,∀o,h.get? b=some o->h'.get? b=some o)->tn i h'
 item:∀(X:Cx),X.prog=P->X.w=w->X.K=K->X.calm=true->∀(i:Nat) (ak:AC) (s:Shared) (σ:St) (H:Hp) (E:AB),aG X ak σ H s->(∀b∈fp,mQ X ak H b)->tn i s.heap->J.go i H->
  wpAny (model P w) X.A (pyNext (.ref it)) (λr s1=>∃u,r=some u/\
   wpAny (model P w) X.A (letOwnedTupleGo tg (.ref it) u) (λ_ s2=>∃x H',aG X ak σ H' s2/\bD x u/\J.zY i H x H'/\tn (i+1) s2.heap/\∀b∈fp,H' b=none) E s1) E s
 done:∀(X:Cx),X.prog=P->X.w=w->X.K=K->X.calm=true->∀(i:Nat) (ak:AC) (s:Shared) (σ:St) (H:Hp) (E:AB),aG X ak σ H s->(∀b∈fp,mQ X ak H b)->tn i s.heap->J.stop i H->
  wpAny (model P w) X.A (pyNext (.ref it)) (λr s1=>r=none/\aG X ak σ H s1) E s
 self:∀(A:Around) (i:Nat) (s:Shared) (Q:AB) (E:AB),tn i s.heap->Q (.ref it) s->wpAny (model P w) A (pyIter (.ref it)) Q E s
abbrev TI:=St->Hp->(It->Hp->Prop)->Prop
def PIE (X:Cx)(ak:AC)(σ:St)(tg:Expr)(R:It->Hp->Prop)(d:Value)(s2:Shared):Prop:=∃(it:Addr) (fp:List Addr) (tn:Nat->Heap->Prop) (J:It) (H':Hp),d=.ref it/\aG X ak σ H' s2/\Turn X.prog X.w X.K tg J fp it tn/\tn 0 s2.heap/\(∀b∈fp,mQ X ak H' b)/\R J H'
def PI (X:Cx)(tg iter:Expr)(wi:TI):Prop:=∀(ak:AC) (s:Shared) (σ:St) (H:Hp) (R:It->Hp->Prop),aG X ak σ H s->wi σ H R->
  wpAny (model X.prog X.w) X.A (eval iter X.env) (λv s1=>wpAny (model X.prog X.w) X.A (pyIter v) (PIE X ak σ tg R) X.xe s1) X.xe s
def Cd {M : Model}{A : Around}{E : Value -> Shared -> Prop}{s : Shared}{tg : Expr}{it : Addr}{u : Value}{o : Obj}{n : String}{vs : Array Value}{Q : Unit -> Shared -> Prop}(g : s.heap.get? it = some o)(j : o.cls = .type n)(hd : o.data = .fields vs)(hn : ["enumerate", "zip", "dict_itemiterator", "dict_reverseitemiterator", "odict_iterator", "itertools.zip_longest", "itertools.pairwise"].contains n = false)(d : Q () s) : wpAny M A (letOwnedTupleGo tg (.ref it) u) Q E s := by
  unfold letOwnedTupleGo;cases tg <;> first
    | show ag d
    | (cases u <;> first
        | show ag d
        | (refine aa (wpAny_load g ?_)
           rw[j, hd];show wpAny M A (if (["enumerate", "zip", "dict_itemiterator", "dict_reverseitemiterator", "odict_iterator", "itertools.zip_longest", "itertools.pairwise"].contains n&&vs[0]? == some (rawInt _)) = true then _ else _) Q E s;rw[if_neg (by intro h; rw[hn, ij]at h; cases h)];show ag d))
abbrev Zm (Sq:Hp->List V->Prop):It:=⟨λi H=>∃xs x,Sq H xs/\xs[i]?=some x,λi H x H'=>H'=H/\∀xs,Sq H xs->xs[i]?=some x,λi H=>∃xs,Sq H xs/\xs.length<=i⟩
def Itl (K:W.Frag)(a:Addr):It:=Zm λH=>aP K H a
def Ce (K:W.Frag)(a:Addr):It:=Zm λH=>aU K H a
def Tw (lo:Int)(n:Nat):It:=⟨λi _=>i<n,λi H x H'=>H'=H/\x=.int (lo+i),λi _=>n<=i⟩
def Tz {P:Program}{w:World}{K:W.Frag}{tg:Expr}(a it:Addr):Turn P w K tg (Itl K a) [it] it (λi h=>h.IsListIter it a i) where
 mem:=by simp
 obj:=λi h st b g=>by
  let e:b=it:=by simpa using g
  subst e;let⟨o,e,c,d⟩:=st;show⟨o,e,λv z=>by rw[d]at z;cases z⟩
 keep:=λi h h' st k=>st.at λo e=>k it v0 o e
 item:=by intro X D hw F J i ak s σ H E I j st G;subst D hw F;let⟨xs,x,q,hx⟩:=G;let⟨its,B,p,hz⟩:=I.list q;let⟨u,N,Y⟩:=B.get hx;let⟨f0,f1,f2,f3,f4,f5⟩:=j it v0;calc wpAny_pyNext_list_item st p.isList (x:=u) (by simpa using N) λh' st' Z=>?_;let O:aG X ak σ H {s with heap:=h' }:=I.turned (t':=s.toks) (λb o g e=>(Z.2 b g).trans e) f0 f1 f3 f4 f5;let⟨o,e,c,d⟩:=id st';show⟨u,rQ,Cd (s:={s with heap:=h' }) e c d v_ ⟨x,H,O,Y,⟨rQ,λys L=>by rw[I.JF L q];show hx⟩,st',λb g=>(j b g).1⟩⟩
 done:=by intro X D hw F J i ak s σ H E I j st G;subst D hw F;let⟨xs,q,hx⟩:=G;let⟨its,B,p,hz⟩:=I.list q;let⟨f0,f1,f2,f3,f4,f5⟩:=j it v0;let hl:=B.length;show wpAny_pyNext_list_end (I.ok.hd J) st p.isList (by simp;simp_all) λh' M=>⟨rQ,I.turned (t':=s.toks) (λb o g e=>M b o g e) f0 f1 f3 f4 f5⟩
 self:=λ_ _ _ _ _ st h=>wpAny_pyIter_listiter st h
def QX {P:Program}{w:World}{K:W.Frag}{tg:Expr}(a it:Addr):Turn P w K tg (Ce K a) [it] it (λi h=>h.IsTupleIter it a i) where
 mem:=by simp
 obj:=λi h st b g=>by
  let e:b=it:=by simpa using g
  subst e;let⟨o,e,c,d⟩:=st;show⟨o,e,λv z=>by rw[d]at z;cases z⟩
 keep:=λi h h' st k=>st.at λo e=>k it v0 o e
 item:=by intro X D hw F J i ak s σ H E I j st G;subst D hw F;let⟨xs,x,q,hx⟩:=G;let⟨its,B,p,hz⟩:=I.tuple q;let⟨u,N,Y⟩:=B.get hx;let⟨f0,f1,f2,f3,f4,f5⟩:=j it v0;calc wpAny_pyNext_tuple_item st (show s.heap.IsTuple a its.toArray from p) (x:=u) (by simpa using N) λh' st' Z=>?_;let O:aG X ak σ H {s with heap:=h' }:=I.turned (t':=s.toks) (λb o g e=>(Z.2 b g).trans e) f0 f1 f3 f4 f5;let⟨o,e,c,d⟩:=id st';show⟨u,rQ,Cd (s:={s with heap:=h' }) e c d v_ ⟨x,H,O,Y,⟨rQ,λys L=>by rw[I.GD L q];show hx⟩,st',λb g=>(j b g).1⟩⟩
 done:=by intro X D hw F J i ak s σ H E I j st G;subst D hw F;let⟨xs,q,hx⟩:=G;let⟨its,B,p,hz⟩:=I.tuple q;let⟨f0,f1,f2,f3,f4,f5⟩:=j it v0;let hl:=B.length;show wpAny_pyNext_tuple_end (I.ok.hd J) st (show s.heap.IsTuple a its.toArray from p) (by simp;lia) λh' M=>⟨rQ,I.turned (t':=s.toks) (λb o g e=>M b o g e) f0 f1 f3 f4 f5⟩
 self:=λ_ _ _ _ _ st h=>wpAny_pyIter_tupleiter st h
def QZ {P:Program}{w:World}{K:W.Frag}{tg:Expr}(it:Addr)(lo:Int)(n:Nat):Turn P w K tg (Tw lo n) [it] it (λi h=>IsRangeIter h it (lo+(i:Nat)*1) ((n:Int)-(i:Nat)) 1) where
 mem:=by simp
 obj:=λi h st b d=>by
  let e:b=it:=by simpa using d
  subst e;show⟨_,st,λv z=>by let L:Data.fields _=Data.cell v:=z;cases L⟩
 keep:=λi h h' st k=>k it v0 _ st
 item:=by intro X q hw B j i ak s σ H E I g st D;subst q hw B;let⟨f0,f1,f2,f3,f4,f5⟩:=g it v0;let W:=Walks.range (prog:=X.prog) (w:=X.w) (I.ok.hd j) it lo 1 n;calc bR (W.item i s _ _ D st λv h' F hv st' M N=>?_);let⟨t,rfl⟩:=hv;let J:aG X ak σ H {s with heap:=h',toks:=F}:=I.turned (λb o d e=>M b o (by simpa using d) e) f0 f1 f3 f4 f5;calc⟨_,rQ,Cd (s:={s with heap:=h',toks:=F}) (n:="range_iterator") st' rQ rQ v_ ⟨.int (lo+i),H,J,⟨t,?_⟩,⟨rQ,rQ⟩,st',λb d=>(g b d).1⟩⟩;rw[Int.mul_one]
 done:=by intro X q hw B j i ak s σ H E I g st D;subst q hw B;let⟨f0,f1,f2,f3,f4,f5⟩:=g it v0;show wpAny_pyNext_range_end (I.ok.hd j) st (by have:n<=i:=D;lia) λh' G=>⟨rQ,I.turned (t':=s.toks) (λb o d e=>G b o d e) f0 f1 f3 f4 f5⟩
 self:=λ_ _ _ _ _ st h=>wpAny_pyIter_rangeiter st h
section
variable {X:Cx}{tg:Expr}
def Cg (K:W.Frag)(tl:TE):TI:=λσ H R=>tl σ H λx H1=>∃a,x=.ref a/\(∃xs,aP K H1 a xs)/\R (Itl K a) H1
def acG (K:W.Frag)(tl:TE):TI:=λσ H R=>tl σ H λx H1=>∃a,x=.ref a/\(∃xs,aU K H1 a xs)/\R (Ce K a) H1
def aaq {l:Expr}{tl:TE}(g:PE X l tl):PI X tg l (Cg X.K tl):=by
 intro ak s σ H R I h;calc bA (g ak s σ H _ I h) λv s1 D=>?_;let⟨x,H1,d,r1,q1⟩:=D;obtain⟨a,e,⟨xs,B⟩,q⟩:=q1;subst e;cases r1;let⟨its,F,p,hz⟩:=d.list B;calc mP p.isList ?_;calc⟨s1.heap.objs.size,[s1.heap.objs.size],_,_,H1,rQ,d.kept (t':=s1.toks) λb o e=>ae _ e,Tz a _,⟨_,ap _ rQ,rQ,rQ⟩,λb j=>?_,q⟩;let e:b=s1.heap.objs.size:=by simpa using j
 subst e;show d.nC (af _) (d.hok.fresh (af _))
def acH {l:Expr}{tl:TE}(g:PE X l tl):PI X tg l (acG X.K tl):=by
 intro ak s σ H R I h;calc bA (g ak s σ H _ I h) λv s1 D=>?_;let⟨x,H1,d,r1,q1⟩:=D;obtain⟨a,e,⟨xs,B⟩,q⟩:=q1;subst e;cases r1;let⟨its,F,p,hz⟩:=d.tuple B;calc md (show s1.heap.IsTuple a its.toArray from p) ?_;calc⟨s1.heap.objs.size,[s1.heap.objs.size],_,_,H1,rQ,d.kept (t':=s1.toks) λb o e=>ae _ e,QX a _,⟨_,ap _ rQ,rQ,rQ⟩,λb j=>?_,q⟩;let e:b=s1.heap.objs.size:=by simpa using j
 subst e;show d.nC (af _) (d.hok.fresh (af _))
def W6 {ak:AC}{σ:St}{H:Hp}{s:Shared}{R:It->Hp->Prop}{E:AB}{lo hi:Int}{t u v:Tok}{d:Nat}(I:aG X ak σ H s)(h1:-(2^62)<=lo)(j:lo<2^62)(D:-(2^62)<=hi)(B:hi<2^62)(q:R (Tw lo (hi-lo).toNat) H)(G:s.toks<=d:=by first|show af _|assumption|show cx _|lia):wpAny (model X.prog X.w) X.A (pyIter (.ref s.heap.objs.size)) (PIE X ak σ tg R) E {s with heap:=s.heap.push {cls:=.type "range",data:=.fields #[.int lo t,.int hi u,.int 1 v]},toks:=d}:=by
 calc wpAny_pyIter_range (IsRange.new ..) (small_one h1 j D B) ?_;let g:aG X ak σ H {s with heap:=s.heap.push {cls:=.type "range",data:=.fields #[.int lo t,.int hi u,.int 1 v]},toks:=d}:=I.kept λb o e=>ae _ e;refine⟨(s.heap.push {cls:=.type "range",data:=.fields #[.int lo t,.int hi u,.int 1 v]}).objs.size,[(s.heap.push {cls:=.type "range",data:=.fields #[.int lo t,.int hi u,.int 1 v]}).objs.size],_,_,H,rQ,
  g.kept (t':=d) λb o e=>ae _ e,QZ _ lo (hi-lo).toNat,?_,λb F=>?_,q⟩
 .let e1:lo+((0:Nat):Int)*1=lo:=v0;let e2:(((hi-lo).toNat:Nat):Int)-((0:Nat):Int)=Builtin.Range.rangeSize lo hi 1:=by rw[rangeSize_one];split <;> lia
  show IsRangeIter _ _ (lo+((0:Nat):Int)*1) ((((hi-lo).toNat:Nat):Int)-((0:Nat):Int)) 1;rw[e1,e2];show ap _ rfl
 .let e:b=(s.heap.push {cls:=.type "range",data:=.fields #[.int lo t,.int hi u,.int 1 v]}).objs.size:=by simpa using F
  subst e;show g.nC (af _) (g.hok.fresh (af _))
def Zn (ta:TA):TI:=λσ H R=>ta σ H λvs H1=>∃j:Int,vs=[.int j]/\-(2^62)<=j/\j<2^62/\R (Tw 0 j.toNat) H1
def TF {a:Expr}{ta:TA}{p pos:Pos}(g:Gl X "range")(hm:X.mg "range"=none)(ha:PA X [a] ta)(hs:starEach [a] X.env=[(false,eval a X.env)]:=by rfl):PI X tg (.Call (.Name "range" p) [a] [] pos) (Zn ta):=by
 intro ak s σ H R I h;calc Call_ (pG I g hm boot_range (gS (bA (ha pos ak s σ H _ I h) λus s1 B=>?_) hs rQ));let⟨vs,H1,d,r1,q1⟩:=B;let⟨j,e,q1,q2,q⟩:=q1;subst e;cases r1 with| cons r rr=>cases rr;let⟨t,rfl⟩:=r;show call_range_1 (W6 d vT vT q1 q2 (by simpa using q))
abbrev Ew (J:It)(g:TG)(tb:TS)(D:Ends)(σ:St)(H:Hp):Prop:=∃W:Nat->Nat->St->Hp->Prop,(∃m,W 0 m σ H)/\∀i m σ H,W i m σ H->
 (J.stop i H/\D.nx σ H)\/(J.go i H/\∃N:St->Hp->Prop,(∀σ' H',N σ' H'->∃m',m'<m/\W (i+1) m' σ' H')/\∀x H',J.zY i H x H'->g x σ H' λσ2 H2=>tb {D with nx:=N,ct:=N,bk:=D.nx} σ2 H2)
def acI (wi:TI)(g:TG)(tb:TS):TS:=λD σ H=>wi σ H λJ H1=>Ew J g tb D σ H1
def Q0 {J:It}{g:TG}{tb:TS}{D:Ends}{σ:St}{H:Hp}(n:Nat)(j:Nat->St->Hp->Prop)(B:j 0 σ H)(q:∀i σ H,i<n->j i σ H->J.go i H/\∀x H',J.zY i H x H'->g x σ H' λσ2 L=>tb {D with nx:=j (i+1),ct:=j (i+1),bk:=D.nx} σ2 L)(F:∀σ H,j n σ H->J.stop n H/\D.nx σ H):Ew J g tb D σ H:=by
 calc⟨λi m σ H=>m=n-i/\i<=n/\j i σ H,⟨n,v0,cn _,B⟩,?_⟩;intro i m σ H z;let⟨rfl,hi,p⟩:=z;by_cases d:i<n;.show .inr ⟨(q i σ H d p).1,j (i+1),λσ' H' G=>⟨n-(i+1),Nat.sub_lt_sub_left d (eC _),rQ,d,G⟩,(q i σ H d p).2⟩
 .let e:i=n:=vT;subst e;show .inl (F σ H p)
def Zo {q:Hp->List V->Prop}{xs:List V}{g:TG}{tb:TS}{D:Ends}{σ:St}{H:Hp}(d:Nat->St->Hp->Prop)(B:d 0 σ H)(j:∀i σ H,i<=xs.length->d i σ H->q H xs)(hs:∀i x σ H,xs[i]?=some x->d i σ H->g x σ H λσ2 F=>tb {D with nx:=d (i+1),ct:=d (i+1),bk:=D.nx} σ2 F)(hd:∀σ H,d xs.length σ H->D.nx σ H):Ew (Zm q) g tb D σ H:=Q0 xs.length d B (λi σ H h p=>⟨⟨xs,xs[i],j i σ H (aI h) p,by simp[h]⟩,λx H' ⟨e,y⟩=>by subst e;show hs i x σ _ (y xs (j i σ _ (aI h) p)) p⟩) λσ H p=>⟨⟨xs,j _ σ H (af _) p,af _⟩,hd σ H p⟩
def xH (fp:List Addr)(h:Heap):List (Addr×Obj):=fp.filterMap λb=>(h.get? b).map λo=>(b,o)
def nD {fp:List Addr}{h:Heap}{b:Addr}{o:Obj}(d:b∈fp)(e:h.get? b=some o):(b,o)∈xH fp h:=om.mpr ⟨b,d,by rw[e];rfl⟩
def TJ {fp:List Addr}{h:Heap}{p:Addr×Obj}(hp:p∈xH fp h):p.1∈fp/\h.get? p.1=some p.2:=by
 let⟨b,d,e⟩:=om.mp hp;cases q:h.get? b with
 | none=>rw[q]at e;cases e
 | some o=>rw[q]at e;let g:(b,o)=p:=be e;subst g;show⟨d,q⟩
def aG.pinned {ak:AC}{σ:St}{H:Hp}{s:Shared}{fp:List Addr}(I:aG X ak σ H s)(B:∀b∈fp,mQ X ak H b)(q:∀b∈fp,∃o,s.heap.get? b=some o/\∀v,o.data≠.cell v):aG X (ak++xH fp s.heap) σ H s:=
 I.Oi λp hp=>(a9.mp hp).elim (λz=>I.pin p (cK _ z)) λz=>by let⟨j,e⟩:=TJ z;let⟨f0,f1,f2,_⟩:=B p.1 j;let⟨o,g,d⟩:=q p.1 j;rw[e]at g;cases g;show⟨e,f0,f1,f2,d⟩
def aG.mR {ak pl:AC}{σ:St}{H:Hp}{s:Shared}(I:aG X (ak++pl) σ H s):aG X ak σ H s:=I.Oi λp hp=>I.pin p (cK _ (kC _ hp))
def acJ {iter:Expr}{L:List Stmt}{wi:TI}{g:TG}{tb:TS}{pos:Pos}(hp:PassesOwn (model X.prog X.w) X.A X.env X.xe)(hc:X.calm=true)(hi:PI X tg iter wi)(hg:PG X tg g)(B:oE X L tb)(hs:∀x,foldedSetIterable iter X.env x=pure x:=by intro _;rfl):PS X (.For tg iter L [] pos) (acI wi g tb):=by
 intro ak s σ H D I h;calc wpAny_For (bA (hi ak s σ H _ I h) λv s1 h1=>bA h1 λitv s2 h2=>?_) hs;obtain⟨it,fp,tn,J,H2,e,I2,T,st2,f2,W,⟨m0,w0⟩,O⟩:=h2;subst e;let q:∀{H':Hp},(∀b∈fp,H' b=none)->∀b∈fp,mQ X ak H' b:=λhn b B=>⟨hn b B,(f2 b B).2⟩
 calc codeAny_forLoop_any (λn s'=>∃i σ' H',aG X ak σ' H' s'/\tn i s'.heap/\(∀b∈fp,H' b=none)/\W i n σ' H') ?_ m0 ⟨0,σ,H2,I2,st2,λb B=>(f2 b B).1,w0⟩;intro n s3 z;let⟨i,σ3,H3,I3,Y,M,w3⟩:=z;rcases O i n σ3 H3 w3 with⟨stop,qn⟩|⟨go,N,hN,step⟩
 .calc fm hp (bA (T.done X rQ rQ rQ hc i ak s3 σ3 H3 X.xe I3 (q M) Y stop) λr s4 ⟨hr,I4⟩=>?_);subst hr;show iq ⟨σ3,H3,I4,qn⟩
 .calc fm hp (bA (T.item X rQ rQ rQ hc i ak s3 σ3 H3 X.xe I3 (q M) Y go) λr s4 Z=>?_);let⟨u,hr,h4⟩:=Z;subst hr;calc fm hp (bA h4 λ_ s5 Z=>?_);let⟨x,H5,I5,r5,y5,JK,fr5⟩:=Z;let I5':=I5.pinned (q fr5) (T.obj _ _ JK);calc fm hp (bA (hg _ s5 σ3 H5 x u _ I5' r5 (step x H5 y5)) λ_ s6 Z=>?_);let⟨σ6,H6,I6,q6⟩:=Z;calc fm hp (bA (B _ s6 σ6 H6 _ I6 q6) λf s7 q7=>?_);let G:∀{σ7:St} {F:Hp},aG X (ak++xH fp s5.heap) σ7 F s7->N σ7 F->∃m,m<n/\∃i σ' H',aG X ak σ' H' s7/\tn i s7.heap/\(∀b∈fp,H' b=none)/\W i m σ' H':=λ{σ7 F} j n7=>by
   let⟨m',hm,w7⟩:=hN σ7 F n7;calc⟨m',hm,i+1,σ7,F,j.mR,T.keep _ _ _ JK λb B o e=>(j.pin (b,o) (cK _ (cK _ (nD B e)))).1,λb B=>?_,w7⟩;let⟨o,e,d⟩:=T.obj _ _ JK b B;show(j.pin (b,o) (cK _ (cK _ (nD B e)))).2.1
  cases f with
  | next=>let⟨σ7,F,j,n7⟩:=q7;show G j n7
  | cont=>let⟨σ7,F,j,n7⟩:=q7;show G j n7
  | brk=>let⟨σ7,F,j,q7⟩:=q7;show⟨σ7,F,j.mR,q7⟩
  | ret v=>let⟨x7,σ7,F,j,r7,q7⟩:=q7;show⟨x7,σ7,F,j.mR,r7,q7⟩
end
def j_ {K:W.Frag}{a:Addr}:=@Zo λH=>aP K H a
def uD {K:W.Frag}{a:Addr}:=@Zo λH=>aU K H a
def mZ {lo:Int}{n:Nat}{g:TG}{tb:TS}{D:Ends}{σ:St}{H:Hp}(d:Nat->St->Hp->Prop)(j:d 0 σ H)(hs:∀i σ H,i<n->d i σ H->g (.int (lo+i)) σ H λσ2 q=>tb {D with nx:=d (i+1),ct:=d (i+1),bk:=D.nx} σ2 q)(hd:∀σ H,d n σ H->D.nx σ H):Ew (Tw lo n) g tb D σ H:=Q0 n d j (λi σ H h p=>⟨h,λx H' y=>by let⟨rfl,rfl⟩:=y;show hs i σ _ h p⟩) λσ H p=>⟨af _,hd σ H p⟩
abbrev R2:=V->V->Hp->VK->Prop
def dY (X:Cx)(f:Value->Value->Sem Value)(r:R2):Prop:=∀(ak:AC) (s:Shared) (σ:St) (H:Hp) (x y:V) (v u:Value) (Q:VK),aG X ak σ H s->bD x v->bD y u->r x y H Q->
  wpAny (model X.prog X.w) X.A (f v u) (EP X ak σ Q) X.xe s
def Zq (X:Cx)(f:Value->Sem Value)(r:V->Hp->VK->Prop):Prop:=∀(ak:AC) (s:Shared) (σ:St) (H:Hp) (x:V) (v:Value) (Q:VK),aG X ak σ H s->bD x v->r x H Q->
  wpAny (model X.prog X.w) X.A (f v) (EP X ak σ Q) X.xe s
def fU (X:Cx)(f:Value)(r:List V->Hp->VK->Prop):Prop:=∀(ak:AC) (s:Shared) (σ:St) (H:Hp) (xs:List V) (us:List Value) (Q:VK),aG X ak σ H s->Vals xs us->r xs H Q->
  wpAny (model X.prog X.w) X.A (call f us) (EP X ak σ Q) X.xe s
def qu (r:R2)(ta tb:TE):TE:=λσ H Q=>ta σ H λx H1=>tb σ H1 λy d=>r x y d Q
def tUn (r:V->Hp->VK->Prop)(ta:TE):TE:=λσ H Q=>ta σ H λx H1=>r x H1 Q
def rI (C:Int->Int->Prop)(g:Int->Int->V):R2:=λx y H Q=>∃i j,x=.int i/\y=.int j/\C i j/\Q (g i j) H
def GF (g:Int->Int->V):R2:=λx y H Q=>∃i j,x=.int i/\y=.int j/\Q (g i j) H
def rU (g:Int->V):V->Hp->VK->Prop:=λx H Q=>∃i,x=.int i/\Q (g i) H
section
variable {X:Cx}{a b:Expr}{ta tb:TE}{pos:Pos}
def W7 (ha:PE X a ta)(D:PE X b tb){ak:AC}{s:Shared}{σ:St}{H:Hp}{R:V->V->Hp->Prop}(I:aG X ak σ H s)(h:ta σ H λx H1=>tb σ H1 λy d=>R x y d){Q:AB}{f:Value->Value->Sem Value}(J:∀v u s2 x y d,aG X ak σ d s2->bD x v->bD y u->R x y d->wpAny (model X.prog X.w) X.A (f v u) Q X.xe s2):wpAny (model X.prog X.w) X.A (eval a X.env) (λv F=>wpAny (model X.prog X.w) X.A (eval b X.env) (λu G=>wpAny (model X.prog X.w) X.A (f v u) Q X.xe G) X.xe F) X.xe s:=by calc bA (ha ak s σ H _ I h) λv s1 g=>?_;let⟨x,H1,j,r1,q1⟩:=g;calc bA (D ak s1 σ H1 _ j q1) λu s2 g=>?_;let⟨y,d,q,B,q2⟩:=g;show J v u s2 x y d q r1 B q2
def aeO {op:Operator}{r:R2}(j:dY X (binaryOp op) r)(ha:PE X a ta)(B:PE X b tb):PE X (.BinOp a op b pos) (qu r ta tb):=by intro ak s σ H Q I h;show wpAny_BinOp (W7 ha B I h λv u s2 x y F g D d q=>j ak s2 σ F x y v u Q g D d q)
def aeP {op:UnaryOp}{r:V->Hp->VK->Prop}(d:Zq X (unaryOp op) r)(ha:PE X a ta):PE X (.UnaryOp op a pos) (tUn r ta):=by intro ak s σ H Q I h;show UnaryOp_ (bA (ha ak s σ H _ I h) λv s1 ⟨x,H1,g,r1,q1⟩=>d ak s1 σ H1 x v Q g r1 q1)
def opI {f:Value->Value->Sem Value}{C:Int->Int->Prop}{g:Int->Int->Int}(d:∀(i j:Int) (t u:Tok) (s:Shared) (Q:AB) (E:AB),C i j->Q (.int (g i j) s.toks) {s with toks:=s.toks+1}->wpAny (model X.prog X.w) X.A (f (.int i t) (.int j u)) Q E s):dY X f (rI C λi j=>.int (g i j)):=by intro ak s σ H x y v u Q I F D h;let⟨i,j,rfl,rfl,B,q⟩:=h;let⟨t,rfl⟩:=F;let⟨t',rfl⟩:=D;show d i j t t' s _ _ B ⟨.int (g i j),H,I.tok _,⟨_,rQ⟩,q⟩
def acK {f:Value->Value->Sem Value}{g:Int->Int->Int}(d:∀(i j:Int) (t u:Tok) (s:Shared) (Q:AB) (E:AB),Q (.int (g i j) s.toks) {s with toks:=s.toks+1}->wpAny (model X.prog X.w) X.A (f (.int i t) (.int j u)) Q E s):dY X f (GF λi j=>.int (g i j)):=by intro ak s σ H x y v u Q I D B h;let⟨i,j,rfl,rfl,q⟩:=h;let⟨t,rfl⟩:=D;let⟨t',rfl⟩:=B;show d i j t t' s _ _ ⟨.int (g i j),H,I.tok _,⟨_,rQ⟩,q⟩
def Q5 {f:Value->Value->Sem Value}{g:Int->Int->Bool}(d:∀(i j:Int) (t u:Tok) (s:Shared) (Q:AB) (E:AB),Q (.bool (g i j)) s->wpAny (model X.prog X.w) X.A (f (.int i t) (.int j u)) Q E s):dY X f (GF λi j=>.bl (g i j)):=by intro ak s σ H x y v u Q I D B h;let⟨i,j,rfl,rfl,q⟩:=h;let⟨t,rfl⟩:=D;let⟨t',rfl⟩:=B;show d i j t t' s _ _ ⟨.bl (g i j),H,I,rQ,q⟩
def afu (i j:Int):Prop:=0<j/\j<1073741824
def W8 (i j:Int):Prop:=(-(2^64)<i/\i<2^64)\/(-(2^64)<j/\j<2^64)
def W8.ok {i j:Int}(h:W8 i j):IntMulOk i j:=by
 rcases h with⟨h1,d⟩|⟨h1,d⟩;.show .of_left (intBits_le_64 h1 d)
 .show .of_right (intBits_le_64 h1 d)
def cM:dY X (binaryOp .Add) (GF λi j=>.int (i+j)):=acK λ_ _ _ _ _ _ _ q=>add_int q
def qX:dY X (binaryOp .Sub) (GF λi j=>.int (i-j)):=acK λ_ _ _ _ _ _ _ q=>sub_int q
def qY:dY X (binaryOp .Mult) (rI W8 λi j=>.int (i*j)):=opI λ_ _ _ _ _ _ _ d q=>mul_int q d.ok
def fZ:dY X (binaryOp .FloorDiv) (rI afu λi j=>.int (i/j)):=opI λi j _ _ _ _ _ d q=>by let h1:(0:Int)<j:=d.1;let g:j<1073741824:=d.2;show floordiv_int vT (by rw[Int.fdiv_eq_ediv_of_nonneg i (Int.le_of_lt h1)];show q) (.inl (PyProof.noPylong_small (by grind)))
def cI:dY X (binaryOp .Mod) (rI (λ_ j=>0<j) λi j=>.int (i%j)):=opI λi j _ _ _ _ _ d q=>by let h1:(0:Int)<j:=d;show mod_int' vT (by rw[Int.fmod_eq_emod_of_nonneg i vT];show q)
def unI {f:Value->Sem Value}{g:Int->Int}(d:∀(i:Int) (t:Tok) (s:Shared) (Q:AB) (E:AB),Q (.int (g i) s.toks) {s with toks:=s.toks+1}->wpAny (model X.prog X.w) X.A (f (.int i t)) Q E s):Zq X f (rU λi=>.int (g i)):=by intro ak s σ H x v Q I j h;let⟨i,rfl,q⟩:=h;let⟨t,rfl⟩:=j;show d i t s _ _ ⟨.int (g i),H,I.tok _,⟨_,rQ⟩,q⟩
def acL:Zq X (unaryOp .USub) (rU λi=>.int (-i)):=unI λ_ _ _ _ _ q=>neg_int q
end
noncomputable def acM:V->V->Bool
 | .non,.non=>true|.non,.int _=>true|.int _,.non=>true|.non,.bl _=>true|.bl _,.non=>true|.non,.str _=>true|.str _,.non=>true
 | .int _,.int _=>true|.bl _,.bl _=>true|.str _,.str _=>true|.wQ _,.wQ _=>true
 | .int _,.str _=>true|.str _,.int _=>true|.bl _,.str _=>true|.str _,.bl _=>true
 | _,_=>false
def rEq:R2:=λx y H Q=>acM x y=true/\Q (.bl (decide (x=y))) H
def rNe:R2:=λx y H Q=>acM x y=true/\Q (.bl (!decide (x=y))) H
def Oj {i j:Int}:decide (V.int i=V.int j)=(i==j):=by rw[me];simp
def TQ {i j:Bool}:decide (V.bl i=V.bl j)=(i==j):=by rw[me];simp
def Ol {i j:Str}:decide (V.str i=V.str j)=(i==j):=by rw[me];simp
def Om {i j:Array UInt8}:decide (V.wQ i=V.wQ j)=(i.toList==j.toList):=by rw[me];cases i;cases j;simp
section
variable {X:Cx}{a b c:Expr}{ta tb tc:TE}{pos:Pos}
def cj {ak:AC}{σ:St}{H:Hp}{s:Shared}{Q:VK}{k d:Bool}(I:aG X ak σ H s)(q:Q (.bl k) H)(e:k=d):EP X ak σ Q (.bool d) s:=by subst e;show⟨.bl k,H,I,rQ,q⟩
def jW:dY X (compareOp .Eq) rEq:=by
 intro ak s σ H x y v u Q I g d h;let⟨hs,q⟩:=h;cases x with
 | non=>
  cases g;cases y with
  | non=>cases d;show PySem.EqNone.eq_none_none (cj I q v0)
  | bl j=>cases d;show PySem.EqNone.eq_none_bool (cj I q v0)
  | int j=>let⟨t',rfl⟩:=d;show PySem.EqNone.eq_none_int (cj I q v0)
  | str j=>let⟨t',rfl⟩:=d;show PySem.EqNone.eq_none_str (cj I q v0)
  | _=>show absurd (show false=true from hs) b6
 | bl i=>
  cases g;cases y with
  | non=>cases d;show PySem.EqNone.eq_bool_none (cj I q v0)
  | bl j=>cases d;show eq_bool (cj I q TQ)
  | str j=>let⟨t',rfl⟩:=d;show PySem.EqMixed.eq_bool_str (cj I q v0)
  | _=>show absurd (show false=true from hs) b6
 | int i=>
  let⟨t,rfl⟩:=g;cases y with
  | non=>cases d;show PySem.EqNone.eq_int_none (cj I q v0)
  | int j=>let⟨t',rfl⟩:=d;show eq_int (cj I q Oj)
  | str j=>let⟨t',rfl⟩:=d;show PySem.EqMixed.eq_int_str (cj I q v0)
  | _=>show absurd (show false=true from hs) b6
 | str i=>
  let⟨t,rfl⟩:=g;cases y with
  | non=>cases d;show PySem.EqNone.eq_str_none (cj I q v0)
  | bl j=>cases d;show PySem.EqMixed.eq_str_bool (cj I q v0)
  | int j=>let⟨t',rfl⟩:=d;show PySem.EqMixed.eq_str_int (cj I q v0)
  | str j=>let⟨t',rfl⟩:=d;show eq_str (cj I q Ol)
  | _=>show absurd (show false=true from hs) b6
 | wQ i=>
  let⟨t,rfl⟩:=g;cases y with
  | wQ j=>let⟨t',rfl⟩:=d;show W.eq_bytes (cj I q Om)
  | _=>show absurd (show false=true from hs) b6
 | _=>cases y <;> show absurd (show false=true from hs) b6
def Jm:dY X (compareOp .NotEq) rNe:=by
 intro ak s σ H x y v u Q I g d h;let⟨hs,q⟩:=h;cases x with
 | non=>
  cases g;cases y with
  | non=>cases d;show PySem.EqNone.ne_none_none (cj I q v0)
  | bl j=>cases d;show PySem.EqNone.ne_none_bool (cj I q v0)
  | int j=>let⟨t',rfl⟩:=d;show PySem.EqNone.ne_none_int (cj I q v0)
  | str j=>let⟨t',rfl⟩:=d;show PySem.EqNone.ne_none_str (cj I q v0)
  | _=>show absurd (show false=true from hs) b6
 | bl i=>
  cases g;cases y with
  | non=>cases d;show PySem.EqNone.ne_bool_none (cj I q v0)
  | bl j=>cases d;show ne_bool (cj I q (congrArg not TQ))
  | str j=>let⟨t',rfl⟩:=d;show PySem.EqMixed.ne_bool_str (cj I q v0)
  | _=>show absurd (show false=true from hs) b6
 | int i=>
  let⟨t,rfl⟩:=g;cases y with
  | non=>cases d;show PySem.EqNone.ne_int_none (cj I q v0)
  | int j=>let⟨t',rfl⟩:=d;show ne_int (cj I q (congrArg not Oj))
  | str j=>let⟨t',rfl⟩:=d;show PySem.EqMixed.ne_int_str (cj I q v0)
  | _=>show absurd (show false=true from hs) b6
 | str i=>
  let⟨t,rfl⟩:=g;cases y with
  | non=>cases d;show PySem.EqNone.ne_str_none (cj I q v0)
  | bl j=>cases d;show PySem.EqMixed.ne_str_bool (cj I q v0)
  | int j=>let⟨t',rfl⟩:=d;show PySem.EqMixed.ne_str_int (cj I q v0)
  | str j=>let⟨t',rfl⟩:=d;show ne_str (cj I q (congrArg not Ol))
  | _=>show absurd (show false=true from hs) b6
 | wQ i=>
  let⟨t,rfl⟩:=g;cases y with
  | wQ j=>let⟨t',rfl⟩:=d;show W.ne_bytes (cj I q (congrArg not Om))
  | _=>show absurd (show false=true from hs) b6
 | _=>cases y <;> show absurd (show false=true from hs) b6
def Ci:dY X (compareOp .Lt) (GF λi j=>.bl (decide (i<j))):=Q5 λ_ _ _ _ _ _ _ q=>lt_int q
def o7:dY X (compareOp .LtE) (GF λi j=>.bl (decide (i<=j))):=Q5 λ_ _ _ _ _ _ _ q=>le_int q
def Q6:dY X (compareOp .Gt) (GF λi j=>.bl (decide (j<i))):=Q5 λ_ _ _ _ _ _ _ q=>gt_int q
def aeQ:dY X (compareOp .GtE) (GF λi j=>.bl (decide (j<=i))):=Q5 λ_ _ _ _ _ _ _ q=>ge_int q
def TV:dY X (compareOp .In) (λx y H Q=>∃i j,x=.str i/\y=.str j/\Q (.bl (!(Builtin.Str.occurrences j i 0 j.length 1).isEmpty)) H):=by intro ak s σ H x y v u Q I d g h;let⟨i,j,rfl,rfl,q⟩:=h;let⟨t,rfl⟩:=d;let⟨t',rfl⟩:=g;show in_str (cj I q rQ)
def bQ (b:Expr){op:CmpOp}(h:op≠.In:=by decide)(d:op≠.NotIn:=by decide):behindInMarks op b=false:=by
 let e1:(op==CmpOp.In)=false:=by cases op <;> first|rfl|show absurd rQ h
 let e2:(op==CmpOp.NotIn)=false:=by cases op <;> first|rfl|show absurd rQ d
 cases b <;> simp[behindInMarks,e1,e2]
def aar {op:CmpOp}{r:R2}(j:dY X (compareOp op) r)(ha:PE X a ta)(B:PE X b tb)(hm:behindInMarks op b=false):PE X (.Compare a [op] [b] pos) (qu r ta tb):=by intro ak s σ H Q I h;show wpAny_Compare1 (W7 ha B I h λv u s2 x y F g D d q=>j ak s2 σ F x y v u Q g D d q) hm
def Jo (t:TE):TT:=λσ H Q=>t σ H λx H'=>∃k,x=.bl k/\Q k H'
def aas {op:CmpOp}{r:R2}(D:dY X (compareOp op) r)(ha:PE X a ta)(G:PE X b tb)(hm:behindInMarks op b=false):PT X (.Compare a [op] [b] pos) (Jo (qu r ta tb)):=by
 intro ak s σ H Q I h;refine wpAny_isTrue_Compare1 (bA (ha ak s σ H _ I h) λv s1 ⟨x,H1,d,r1,q1⟩=>bA (G ak s1 σ H1 _ d q1) λu s2 ⟨y,J,j,q,q2⟩=>bA (D ak s2 σ J x y v u _ j r1 q q2) λc L ⟨z,g,F,B,k,e,q3⟩=>?_) hm
 subst e;cases B;show ef ⟨g,F,q3⟩
def xJ (r j:R2)(ta tb tc:TE):TE:=λσ H Q=>ta σ H λx H1=>tb σ H1 λy g=>r x y g λz d=>∃k,z=.bl k/\
 (if k=true then tc σ d λq B=>j y q B Q else Q (.bl false) d)
def W9 {op g:CmpOp}{r F:R2}(Y:dY X (compareOp op) r)(j:dY X (compareOp g) F)(ha:PE X a ta)(hb:PE X b tb)(J:PE X c tc)(hm:lastMarks [op,g] [b,c]=false:=by with_unfolding_all rfl):PE X (.Compare a [op,g] [b,c] pos) (xJ r F ta tb tc):=by
 intro ak s σ H Q I h;refine Compare_chain (bA (ha ak s σ H _ I h) λv s1 ⟨x,H1,G,r1,q1⟩=>chain_link (bA (hb ak s1 σ H1 _ G q1) λu s2 ⟨y,H2,N,B,q2⟩=>bA (Y ak s2 σ H2 x y v u _ N r1 B q2) λd s3 ⟨z,q,D,O,k,e,q3⟩=>?_)) hm
 subst e;cases O;calc ef ?_;cases k with| false=>show ite_ff ⟨.bl false,q,D,rQ,q3⟩| true=>show ite_tt (chain_last (bA (J ak s3 σ q _ D q3) λL s4 ⟨M,H4,I4,Z,q4⟩=>j ak s4 σ H4 y M u L Q I4 B Z q4))
def W_ {op g:CmpOp}{r G:R2}(ho:dY X (compareOp op) r)(j:dY X (compareOp g) G)(ha:PE X a ta)(hb:PE X b tb)(L:PE X c tc)(hm:lastMarks [op,g] [b,c]=false:=by with_unfolding_all rfl):PT X (.Compare a [op,g] [b,c] pos) (Jo (xJ r G ta tb tc)):=by
 intro ak s σ H Q I h;refine isTrue_chain (bA (ha ak s σ H _ I h) λv s1 ⟨x,H1,J,r1,q1⟩=>test_link (bA (hb ak s1 σ H1 _ J q1) λu s2 ⟨y,H2,Y,D,q2⟩=>bA (ho ak s2 σ H2 x y v u _ Y r1 D q2) λd s3 ⟨z,B,F,Z,k,e,q3⟩=>?_)) hm
 subst e;cases Z;calc ef ?_;cases k with
 | false=>let⟨k',O,q'⟩:=q3;cases O;show ite_ff ⟨B,F,q'⟩
 | true=>calc ite_tt (test_last (bA (L ak s3 σ B _ F q3) λM s4 q=>?_));let⟨N,H4,I4,r4,q4⟩:=q;calc bA (j ak s4 σ H4 y N u M _ I4 D r4 q4) λd' s5 q=>?_;let⟨z2,H5,I5,r5,k2,e2,q5⟩:=q;subst e2;cases r5;show ef ⟨H5,I5,q5⟩
def qZ:(sizeLine:Nat)<2^63:=by rw[sizeLine_eq];decide
def Q7:dY X (binaryOp .Add) (λx y H Q=>∃i j,x=.str i/\y=.str j/\i.length+j.length<=sizeLine/\Q (.str (i++j)) H):=by intro ak s σ H x y v u Q I g d h;let⟨i,j,rfl,rfl,hz,q⟩:=h;let⟨t,rfl⟩:=g;let⟨t',rfl⟩:=d;show bR (add_str (λt' D B=>⟨.str (i++j),H,I.tok _,⟨_,rQ⟩,q⟩) hz)
def vals1 {x:V}{us:List Value}(r:Vals [x] us):∃u,us=[u]/\bD x u:=by
 cases r with| cons r1 r2=>cases r2;show⟨_,rQ,r1⟩
def vals2 {x y:V}{us:List Value}(r:Vals [x,y] us):∃u d,us=[u,d]/\bD x u/\bD y d:=by
 cases r with
 | cons r1 r2=>
  cases r2 with| cons r3 r4=>cases r4;show⟨_,_,rQ,r1,r3⟩
def TX (g:X.calm=true):fU X (.builtin "min") (λxs H Q=>∃i j,xs=[.int i,.int j]/\Q (.int (if j<i then j else i)) H):=by
 intro ak s σ H xs us Q I r h;let⟨i,j,rfl,q⟩:=h;obtain⟨u,D,rfl,⟨t,rfl⟩,⟨t',rfl⟩⟩:=vals2 r;calc bR (min_two_ints (I.ok.hd g) λh' F k B=>⟨_,H,I.kept k,?_,q⟩);by_cases d:j<i;.rw[if_pos d,if_pos d];show⟨_,rQ⟩
 .rw[if_neg d,if_neg d];show⟨_,rQ⟩
def sJ:fU X (.type "int") (λxs H Q=>(∃i,xs=[.int i]/\Q (.int i) H)\/∃k,xs=[.bl k]/\Q (.int (if k then 1 else 0)) H):=by
 intro ak s σ H xs us Q I r h;rcases h with⟨i,rfl,q⟩|⟨k,rfl,q⟩
 .let⟨u,rfl,t,rfl⟩:=vals1 r;show call_int_int ⟨.int i,H,I,⟨_,rQ⟩,q⟩
 .let⟨u,rfl,r1⟩:=vals1 r;cases r1;show call_int_bool ⟨.int (if k then 1 else 0),H,I.tok _,⟨_,rQ⟩,q⟩
end
structure Ao (h:Heap)(x dx C:Addr)(mA:Str->Option Value):Prop where
 obj:h.get? x=some (W.instObj C dx)
 ns:h.Ns1 dx mA
 ne:dx≠x
def TY {h:Heap}{dx:Addr}{mA:Str->Option Value}(n:h.Ns1 dx mA):∃od,h.get? dx=some od/\∀name,W.lookIn name od=some (mA name):=by
 let⟨o,es,ep,B,hd,hk,_,hm⟩:=n;calc⟨o,B,λname=>?_⟩;let e:=hm name;unfold nsFind findBy at e;rw[<-Array.find?_toList]at e;unfold W.lookIn;rw[hd];dsimp only;split
 .rename_i y q;rw[q]at e;show congrArg some e
 .rename_i q;rw[q]at e;let a:es.toList.any (·.refKey)=false:=by
   rw[List.any_eq_false];intro y g;let⟨z,t,d⟩:=hk y (r8.mp g);simp[DictEntry.refKey,d]
  let j:¬es.toList.any (·.refKey)=true:=by rw[a];show b6
  rw[if_neg j];show congrArg some e
def Ao.look {h:Heap}{x dx C:Addr}{mA:Str->Option Value}(I:Ao h x dx C mA):∃od,W.InstAt h x (W.instObj C dx) C (some od)/\∀name,W.lookIn name od=some (mA name):=let ⟨od,ho,hl⟩:=TY I.ns
 ⟨od,⟨I.obj,rQ,rQ,ho⟩,hl⟩
section
variable {prog:Program}{w:World}{A:Around}{E:AB}{s:Shared}{K:W.Frag}{x dx C f:Addr}{mA:Str->Option Value}{name:Str}{v:Value}
def get_map {d:Bool}{Q:AB}(X:K.In s.heap)(I:Ao s.heap x dx C mA)(q:W.plainGet K C name=true)(B:W.hasDictIn K C=true)(ha:W.findIn K (.ref C) name=some none)(hv:mA name=some v)(g:W.handedIn v=true)(h:Q v {s with toks:=s.toks+1}):wpAny (model prog w) A (getAttr (.ref x) name d) Q E s:=by let⟨od,J,j⟩:=I.look;show W.get_value X J (sN q).1 (W.findObj_own B ha rQ (by rw[j,hv])) g h
def Xa {pl:Sem Bool}{Q:Value×List Value->Shared->Prop}(X:K.In s.heap)(I:Ao s.heap x dx C mA)(g:W.plainGet K C name=true)(q:W.findIn K (.ref C) name=some (some (.ref f)))(j:W.isFn K (.ref f)=true)(hv:mA name=none)(h:Q (.ref f,[.ref x]) s):wpAny (model prog w) A (getMethod (.ref x) name pl) Q E s:=by let⟨od,J,d⟩:=I.look;show W.method_fn X J (sN g).1 (sN g).2 q (beq_iff_eq.mp j) (by show (W.lookIn name od).map (·.isSome)=some false;rw[d,hv];rfl) h
def aat {ns:List Str}{Q:Unit->Shared->Prop}(X:K.In s.heap)(I:Ao s.heap x dx C mA)(hs:W.findIn K (.ref C) "__setattr__"=some (some (.builtin "object.__setattr__")))(hp:W.plainOver K C=true)(G:W.takerIn K C name=some none)(N:W.hasDictIn K C=true)(hw:PySem.Within mA ns)(hsz:ns.length<=sizeLine)(h:∀h',Ao h' x dx C (λy=>if y=name then some v else mA y)->Heap.SameBut dx s.heap h'->Q () {s with heap:=h',toks:=s.toks+2}):wpAny (model prog w) A (setAttr (.ref x) name v) Q E s:=by let⟨od,J,Y⟩:=I.look;calc W.set_plain X J hs (W.osa_open (s:={s with toks:=s.toks+1}) (r:=none) X J hp G λb=>?_);let⟨Z,L,B⟩:=W.any_some N;let hx:s.heap.get? x=some ⟨.ref C,some dx,.plain,#[]⟩:=I.obj;calc aa (ag (aa (aa (wpAny_loadPart hx (aa (W.Looks.here (s:={s with toks:=s.toks+1}) (W.looks_clsIn X L) ?_))))));rw[B];calc ag (a:=some dx) (aa (ag (aa ?_)));calc wpAny_nsSet1 (s:={s with toks:=s.toks+1}) I.ns λh' g d=>?_;let⟨O,M,F,D,j,q⟩:=g.count (PySem.Within.cons name v hw);calc aa (wpAny_lookBehind D (by rw[j];show pastItsLine_dict (aS q (by rw[bu];show gm hsz))) ?_);show ag (h _ ⟨(d.2 _ (ie I.ne)).trans I.obj,g,I.ne⟩ d)
def Xb {R:Result->Shared->Prop}{vs:List Value}{j:List (Str×Value)}(X:K.In s.heap)(hm:W.makesIn K C=true)(hi:W.findIn K (.ref C) "__init__"=some (some (.ref f)))(q:W.typeIn K (.ref f)=some (.type "function"))(h:codeAny (model prog w) (A.under (.builtin "type.__call__" ⟨.ref C::vs,j⟩)) (.call (.ref f) ⟨.ref (s.heap.objs.size+1)::vs,j⟩) (W.InitBack (s.heap.objs.size+1) R) {s with heap:=(s.heap.push W.emptyDict).push (W.instObj C s.heap.objs.size)}):codeAny (model prog w) A (.call (.ref C) ⟨vs,j⟩) R s:=by let⟨B,g,d,t,os⟩:=s;show W.make_core (W.makes_of X hm) (W.looks_findIn X hi) (λself=>W.bind_fn X self q) (.inl rQ) h
end
def jh (f:Str)(v:V):List (Str×V)->List (Str×V)
 | []=>[(f,v)]
 | (g,x)::r=>if g=f then (g,v)::r else (g,x)::jh f v r
theorem zZ (f g:Str)(v:V):∀fs:List (Str×V),(jh f v fs).lookup g=if g=f then some v else fs.lookup g
 | []=>by
  show List.lookup g [(f,v)]=_;by_cases h:g=f
  .let d:(g==f)=true:=beq_iff_eq.mpr h;simp only[List.lookup,d,if_pos h]
  .let d:(g==f)=false:=beq_eq_false_iff_ne.mpr h;simp only[List.lookup,d,if_neg h]
 | (k,x)::r=>by
  let j:=zZ f g v r;rw[show jh f v ((k,x)::r)=(if k=f then (k,v)::r else (k,x)::jh f v r) from rfl];by_cases hk:k=f
  .rw[if_pos hk];by_cases h:g=k
   .let d:(g==k)=true:=beq_iff_eq.mpr h;simp only[List.lookup,d,if_pos (h.trans hk)]
   .let d:(g==k)=false:=beq_eq_false_iff_ne.mpr h;simp only[List.lookup,d,if_neg (λe:g=f=>h (e.trans hk.symm))]
  .rw[if_neg hk];by_cases h:g=k
   .let d:(g==k)=true:=beq_iff_eq.mpr h;simp only[List.lookup,d,if_neg (λe:g=f=>hk (h.symm.trans e))]
   .let d:(g==k)=false:=beq_eq_false_iff_ne.mpr h;simp only[List.lookup,d];show j
theorem xK (f:Str)(v:V):∀fs:List (Str×V),f∈(jh f v fs).map (·.1)/\∀g,g∈fs.map (·.1)->g∈(jh f v fs).map (·.1)
 | []=>⟨by simp[jh],λg h=>by simp at h⟩
 | (k,x)::r=>by
  let⟨i1,i2⟩:=xK f v r;rw[show jh f v ((k,x)::r)=(if k=f then (k,v)::r else (k,x)::jh f v r) from rfl];by_cases hk:k=f
  .rw[if_pos hk];subst hk;show⟨v0,λg h=>by simpa using h⟩
  .rw[if_neg hk];refine⟨?_,λg h=>?_⟩
   .rw[bX];show ay _ i1
   .rw[bX]at h ⊢;rcases a_.mp h with e|e;.show a_.mpr (.inl e)
    .show ay _ (i2 g e)
theorem z_ (f:Str)(v:V):∀fs:List (Str×V),(jh f v fs).length<=fs.length+1
 | []=>by simp[jh]
 | (k,x)::r=>by
  let d:=z_ f v r;rw[show jh f v ((k,x)::r)=(if k=f then (k,v)::r else (k,x)::jh f v r) from rfl];by_cases hk:k=f;.rw[if_pos hk,bu,bu];lia
  .rw[if_neg hk,bu,bu];show gm d
def lJ.some_of {v:V}{o:Option Value}(r:lJ (some v) o):∃u,o=some u/\bD v u:=by
 cases o with| none=>show(show False from r).elim| some u=>show⟨u,rQ,r⟩
def lJ.none_of {o:Option Value}(r:lJ none o):o=none:=by
 cases o with| none=>rfl| some u=>show(show False from r).elim
def T4 {v:V}{u:Value}(r:bD v u):W.handedIn u=true:=by
 cases v with
 | non=>cases(show u=Value.none from r);rfl
 | bl b=>cases(show u=Value.bool b from r);rfl
 | int i=>let⟨t,e⟩:=(show ∃t,u=Value.int i t from r);cases e;rfl
 | str x=>let⟨t,e⟩:=(show ∃t,u=Value.str x t from r);cases e;rfl
 | wQ b=>let⟨t,e⟩:=(show ∃t,u=Value.bytes b t from r);cases e;rfl
 | flt b=>let⟨t,e⟩:=(show ∃t,u=Value.float b t from r);cases e;rfl
 | ref a=>cases(show u=Value.ref a from r);rfl
 | ty n=>cases(show u=Value.type n from r);rfl
 | sx x t=>cases(show u=Value.str x t from r);rfl
section
variable {P:Program}{w:World}{H:Hp}{h:Heap}{a C dx:Addr}{fs:List (Str×V)}
def yW (hok:iB P w H h)(e:H a=some (.ins C dx fs)):∃mA,Ao h a dx C mA/\(∀f,lJ (fs.lookup f) (mA f))/\PySem.Within mA (fs.map (·.1))/\fs.length<=1000/\H dx=some (.own a):=by
 let⟨d,z,ne,ob,mA,n,r,q⟩:=(show dh P w H h a (.ins C dx fs) from hok a _ e)
 show⟨mA,⟨ob,n,ne⟩,r,q,z,d⟩
end
structure Cls (K:W.Frag)(C:Addr):Prop where
 pg:W.plainGet K C Str.empty=true
 hd:W.hasDictIn K C=true
 po:W.plainOver K C=true
 sa:W.findIn K (.ref C) "__setattr__"=some (some (.builtin "object.__setattr__"))
def Cls.get {K:W.Frag}{C:Addr}(c:Cls K C)(f:Str):W.plainGet K C f=true:=c.pg
def lN (K:W.Frag)(C:Addr)(f:Str):Prop:=W.findIn K (.ref C) f=some none
def lN.taker {K:W.Frag}{C:Addr}{f:Str}(n:lN K C f):W.takerIn K C f=some none:=by unfold W.takerIn;rw[show W.findIn K (.ref C) f=some none from n];rfl
structure Meth (K:W.Frag)(C:Addr)(m:Str)(f:Addr):Prop where
 at_:W.findIn K (.ref C) m=some (some (.ref f))
 fn:W.isFn K (.ref f)=true
 kp:W.keepIn K (.ref f)=true
section
variable {X:Cx}{ak:AC}{σ:St}{H:Hp}{s:Shared}{a C dx:Addr}{fs:List (Str×V)}{f:Str}{v:V}{A:Around}{E:AB}
def Q8 {b:Bool}{Q:AB}(I:aG X ak σ H s)(e:H a=some (.ins C dx fs))(c:Cls X.K C)(n:lN X.K C f)(l:fs.lookup f=some v)(h:∀u s',aG X ak σ H s'->bD v u->Q u s'):wpAny (model X.prog X.w) A (getAttr (.ref a) f b) Q E s:=by let⟨mA,O,r,_,_,_⟩:=yW I.hok e;let⟨u,g,d⟩:=lJ.some_of (v:=v) (o:=mA f) (by rw[<-l];show r f);show get_map I.jg O (c.get f) c.hd n g (T4 d) (h u _ (I.tok _) d)
def Cj {m:Str}{g:Addr}{pl:Sem Bool}{Q:Value×List Value->Shared->Prop}(I:aG X ak σ H s)(e:H a=some (.ins C dx fs))(c:Cls X.K C)(k:Meth X.K C m g)(l:fs.lookup m=none)(h:Q (.ref g,[.ref a]) s):wpAny (model X.prog X.w) A (getMethod (.ref a) m pl) Q E s:=by let⟨mA,O,r,_,_,_⟩:=yW I.hok e;let hn:mA m=none:=lJ.none_of (by rw[<-l];show r m);show Xa I.jg O (c.get m) k.at_ k.fn hn h
def Q9 {y:V}{u:Value}{Q:Unit->Shared->Prop}(I:aG X ak σ H s)(e:H a=some (.ins C dx fs))(c:Cls X.K C)(n:lN X.K C f)(J:fs.length<1000)(D:bD y u)(h:∀s',aG X ak σ (upd H a (.ins C dx (jh f y fs))) s'->Q () s'):wpAny (model X.prog X.w) A (setAttr (.ref a) f u) Q E s:=by
 let⟨mA,O,r,wi,_,j⟩:=yW I.hok e;let hz:(fs.map (·.1)).length<=sizeLine:=by rw[ab,sizeLine_eq];lia
 calc aat I.jg O c.sa c.po n.taker c.hd wi hz λh' d B=>h _ ?_;let hd:∃o,h'.get? dx=some o:=let ⟨o,_,_,e',_⟩:=d.ns;⟨o,e'⟩
 calc I.write (x:=a) (e:=dx) (by rw[e];show True.intro) (.inr j) (λb q G z=>(B.2 b G).trans z) hd ?_;calc⟨by rw[aY O.ne];show j,?_,O.ne,d.obj,_,d.ns,λg=>?_,λg F=>?_⟩;.have:=z_ f y fs;lia
 .show lJ ((jh f y fs).lookup g) (if g=f then some u else mA g);rw[zZ];by_cases q:g=f;.rw[if_pos q,if_pos q];show D
  .rw[if_neg q,if_neg q];show r g
 .by_cases q:g=f;.rw[q];show(xK f y fs).1
  .calc(xK f y fs).2 g (wi g λz=>F ?_);show (if g=f then some u else mA g)=none;rw[if_neg q];show z
def aG.made (I:aG X ak σ H s):aG X ak σ (upd (upd H s.heap.objs.size (.own (s.heap.objs.size+1))) (s.heap.objs.size+1) (.ins C s.heap.objs.size [])) {s with heap:=(s.heap.push W.emptyDict).push (W.instObj C s.heap.objs.size)}:=by
 let e1:(s.heap.push W.emptyDict).get? s.heap.objs.size=some W.emptyDict:=ap s.heap rfl;let e2:((s.heap.push W.emptyDict).push (W.instObj C s.heap.objs.size)).get? (s.heap.objs.size+1)=some (W.instObj C s.heap.objs.size):=by
  have:=ap (s.heap.push W.emptyDict) (o:=W.instObj C s.heap.objs.size) rfl
  rwa [dC]at this
 let e3:(s.heap.push W.emptyDict).Ns s.heap.objs.size (λ_=>none):=⟨W.emptyDict,#[],_,e1,rQ,(λe j=>absurd j v0),λ_=>rfl⟩
 let g:=I.laid (a:=s.heap.objs.size) (o:=.own (s.heap.objs.size+1)) (h':=s.heap.push W.emptyDict) (t':=s.toks) (λb u q=>ae _ q) (af _) ⟨_,e1⟩;calc g.laid (a:=s.heap.objs.size+1) (o:=.ins C s.heap.objs.size []) (t':=s.toks) (λb u q=>ae _ q) (kK (dC _ _)) ?_;let ne:s.heap.objs.size≠s.heap.objs.size+1:=bb (eC _);refine⟨by rw[aY ne,aq],cn _,ne,e2,λ_=>none,(Heap.Ns1.of_empty e3).at λo q=>ae _ q,λ_=>True.intro,λy d=>absurd rQ d⟩
def aau {prog:Program}{w:World}{env:Env}{e:Expr}{f:Str}{pos:Pos}{s:Shared}{Q:AB}(d:attributeBase e f env (eval e env)=eval e env)(h:wpAny (model prog w) A (eval e env) (λo g=>wpAny (model prog w) A (getAttr o f true) Q E g) E s):wpAny (model prog w) A (eval (.Attribute e f pos) env) Q E s:=Attribute_any_ h (by rw[arm_eval_Attribute,d])
end
def acN (K:W.Frag)(ta:TE)(f:Str):TE:=λσ H Q=>ta σ H λx H1=>∃a C dx fs v,x=.ref a/\H1 a=some (.ins C dx fs)/\Cls K C/\lN K C f/\fs.lookup f=some v/\Q v H1
def acO (K:W.Frag)(ta tv:TE)(f:Str):TS:=λD σ H=>tv σ H λy H1=>ta σ H1 λx d=>∃a C dx fs,x=.ref a/\d a=some (.ins C dx fs)/\Cls K C/\lN K C f/\fs.length<1000/\
 D.nx σ (upd d a (.ins C dx (jh f y fs)))
section
variable {X:Cx}{o e value:Expr}{f:Str}{pos pos':Pos}{ta tv:TE}
variable {ak:AC}{σ:St}{H:Hp}{s:Shared}{A:Around}{E Q:AB}{c:Value}{b:Bool}
def acP (D:PE X e ta)(F:attributeBase e f X.env (eval e X.env)=eval e X.env):PE X (.Attribute e f pos) (acN X.K ta f):=by intro ak s σ H Q I h;calc aau F (bA (D ak s σ H _ I h) λu s1 J=>?_);let⟨x,H1,d,G,a,C,dx,fs,v,ex,j,c,n,l,q⟩:=J;subst ex;obtain rfl:u=Value.ref a:=G;show Q8 d j c n l λL s2 B g=>⟨v,H1,B,g,q⟩
def acQ (ha:PE X o ta)(hv:PE X value tv)(hs:swapsWith value (some (.Attribute o f pos')) pos.line X.env=pure false):PS X (.Assign [.Attribute o f pos'] value pos) (acO X.K ta tv f):=by intro ak s σ H D I h;calc plainObj_wpAny_Assign_Attribute (bA (hv ak s σ H _ I h) λu s1 d=>?_) hs;let⟨y,H1,g,B,q⟩:=d;calc bA (ha ak s1 σ H1 _ g q) λL s2 d=>?_;let⟨x,N,F,J,a,C,dx,fs,ex,j,c,n,l,q2⟩:=d;subst ex;obtain rfl:L=Value.ref a:=J;show Q9 F j c n l B λM G=>⟨σ,_,G,q2⟩
inductive nF (K:W.Frag) (H:Hp):V->Value->Prop where
 | non:nF K H .non (.type "NoneType")
 | bl (x:Bool):nF K H (.bl x) (.type "bool")
 | int (i:Int):nF K H (.int i) (.type "int")
 | str (x:Str):nF K H (.str x) (.type "str")
 | flt (x:UInt64):nF K H (.flt x) (.type "float")
 | lst {a:Addr} {xs:List V} (e:H a=some (.lst xs)):nF K H (.ref a) (.type "list")
 | cH {a:Addr} {o:Obj} {xs:List V} (e:H a=some (.cH o (.lst xs))):nF K H (.ref a) (.type "list")
 | tup {a:Addr} {xs:List V} (e:H a=some (.tup xs)):nF K H (.ref a) (.type "tuple")
 | dK {a:Addr} {kvs:List (Key×V)} (e:H a=some (.dK kvs)):nF K H (.ref a) (.type "dict")
 | dT {a:Addr} {kvs:List (List Key×V)} (e:H a=some (.dT kvs)):nF K H (.ref a) (.type "dict")
 | ins {a C dx:Addr} {fs:List (Str×V)} (e:H a=some (.ins C dx fs)) (cl:Cls K C) (ha:W.findIn K (.ref C) "__class__"=some (some (.builtin "object.__class__")))
   (hn:W.specialIn K (.builtin "object.__class__") "__get__"=some (some (.builtin "getset_descriptor.__get__"))) (htk:W.takesIn K (.builtin "object.__class__")=some true)
   (hm:W.mroIn K C (.type "object")=some true):nF K H (.ref a) (.ref C)
def T5 {x:V}{u t:Value}(I:aG X ak σ H s)(d:bD x u)(ty:nF X.K H x t)(e:W.kitOne X.K t c=some b)(h:∀j,Q (.bool b) {s with toks:=j}):wpAny (model X.prog X.w) A (call (.builtin "isinstance") [u,c]) Q E s:=by
 cases ty with
 | non=>cases(show u=Value.none from d);show fS W.kitx_none I.jg True.intro e (λz=>nomatch z) h
 | bl y=>cases(show u=Value.bool y from d);show fS W.kitx_bool I.jg True.intro e (λz=>nomatch z) h
 | int i=>let⟨t,q⟩:=(show ∃t,u=Value.int i t from d);cases q;show fS W.kitx_int I.jg True.intro e (λz=>nomatch z) h
 | str y=>let⟨t,q⟩:=(show ∃t,u=Value.str y t from d);cases q;show fS W.kitx_str I.jg True.intro e (λz=>nomatch z) h
 | flt y=>let⟨t,q⟩:=(show ∃t,u=Value.float y t from d);cases q;show fS W.kitx_float I.jg True.intro e (λz=>nomatch z) h
 | @lst a xs ea=>
  cases(show u=Value.ref a from d);let⟨_,_,n,_,h1⟩:=(show dh X.prog X.w H s.heap a (.lst xs) from I.hok a _ ea)
  show fS W.kitx_list I.jg ⟨_,h1,rQ⟩ e (λz=>nomatch z) h
 | @cH a ob xs ea=>
  cases(show u=Value.ref a from d);let⟨_,_,_,n,_,h1⟩:=(show dh X.prog X.w H s.heap a (.cH ob (.lst xs)) from I.hok a _ ea)
  show fS W.kitx_list I.jg ⟨_,h1,rQ⟩ e (λz=>nomatch z) h
 | @tup a xs ea=>
  cases(show u=Value.ref a from d);let⟨_,_,_,p⟩:=(show dh X.prog X.w H s.heap a (.tup xs) from I.hok a _ ea)
  let⟨o,h1,g,_⟩:=p;show fS W.kitx_tuple I.jg ⟨o,h1,g⟩ e (λz=>nomatch z) h
 | @dK a kvs ea=>
  cases(show u=Value.ref a from d);let⟨_,_,vs,_,p⟩:=(show dh X.prog X.w H s.heap a (.dK kvs) from I.hok a _ ea)
  let⟨o,es,ep,h1,g,_⟩:=p;show fS W.kitx_dict I.jg ⟨o,h1,g.1⟩ e (λz=>nomatch z) h
 | @dT a kvs ea=>
  cases(show u=Value.ref a from d);let⟨_,_,xs,_,o,es,ep,h1,g,_⟩:=(show dh X.prog X.w H s.heap a (.dT kvs) from I.hok a _ ea)
  show fS W.kitx_dict I.jg ⟨o,h1,g.1⟩ e (λz=>nomatch z) h
 | @ins a C dx fs ea cl ha hn htk hm=>cases(show u=Value.ref a from d);let⟨mA,O,_⟩:=yW I.hok ea;let⟨od,J,_⟩:=O.look;show fS (W.kitx_own (cl.get _) cl.hd ha hn htk hm) I.jg J e (λz=>nomatch z) h
end
structure cW (k:Nat)(A:Around):Prop where
 hd:A.handled=none
 dp:A.depth+3*k+5<recursionLimit
 un:A.units+16*k+200<cLine
def cW.mono {j k:Nat}{A:Around}(r:cW k A)(h:j<=k:=by decide):cW j A:=⟨r.hd,by have:=r.dp;lia,by have:=r.un;lia⟩
def cW.deeper {k:Nat}{A:Around}(r:cW (k+1) A)(env:Env):cW k (A.deeper env):=⟨r.hd,by have:=r.dp;show A.depth+1+3*k+5<_;lia,by have:=r.un;show A.units+3+16*k+200<_;lia⟩
def Q_ {A:Around}{C:Addr}{us:List Value}{d:List (Str×Value)}:(A.under (.builtin "type.__call__" ⟨.ref C::us,d⟩)).depth=A.depth+1:=by first|rfl|simp[Around.under,Code.weight,Code.isCreation,Code.isGuard,Code.isCaller,Code.frames,Code.isFrame,guardIds]
def Ra {A:Around}{C:Addr}{us:List Value}{d:List (Str×Value)}:(A.under (.builtin "type.__call__" ⟨.ref C::us,d⟩)).units=A.units+1:=by first|rfl|simp[Around.under,Code.cUnits,Code.frames,Code.isFrame]
def cW.make {k:Nat}{A:Around}(r:cW (k+1) A)(C:Addr)(us:List Value)(d:List (Str×Value)):cW k (A.under (.builtin "type.__call__" ⟨.ref C::us,d⟩)):=⟨r.hd,by have:=r.dp;rw[Q_];(simp_all;lia),by have:=r.un;rw[Ra];(simp_all;lia)⟩
def cW.depth {k:Nat}{A:Around}(r:cW k A):A.depth<recursionLimit:=by have:=r.dp;lia
def cW.units {k:Nat}{A:Around}(r:cW k A):A.units+64<cLine:=by have:=r.un;lia
def lK:TA:=λ_ H Q=>Q [] H
def fV (ta:TE)(d:TA):TA:=λσ H Q=>ta σ H λx H1=>d σ H1 λxs g=>Q (x::xs) g
section
variable {X:Cx}{e:Expr}{es:List Expr}{te:TE}{t:TA}{pos:Pos}
def acR:PA X [] lK:=λ_ _ _ _ H Q I h=>mS ⟨[],H,I,.nil,h⟩
def aav (ha:PE X e te)(D:PA X es t)(hs:starEach (e::es) X.env=(false,eval e X.env)::starEach es X.env:=by rfl):PA X (e::es) (fV te t):=by intro pos ak s σ H Q I h;rw[hs];show wpAny _ _ (spliced ((false,eval e X.env)::backTo pos (starEach es X.env))) _ _ s;calc f6 (bA (ha ak s σ H _ I h) λu s1 q=>?_);let⟨x,H1,d,r1,q1⟩:=q;show bA (D pos ak s1 σ H1 _ d q1) λus s2 ⟨xs,B,g,j,q2⟩=>⟨x::xs,B,g,.cons r1 j,q2⟩
def Xc (t:TA):TE:=λσ H Q=>t σ H λxs H1=>xs.length<=sizeLine/\∀p,H1 p=none->Q (.ref p) (upd H1 p (.tup xs))
def acS (t:TA):TE:=λσ H Q=>t σ H λxs H1=>xs.length<=sizeLine/\∀p,H1 p=none->Q (.ref p) (upd H1 p (.lst xs))
def acT {x1}(h:PA X es t):PE X (.Tuple es x1 pos) (Xc t):=by intro ak s σ H Q I g;calc sP (bA (h pos ak s σ H _ I g) λus s1 ⟨xs,H1,d,r,z,q⟩=>⟨by rw[<-r.length];show z,?_⟩);let j:H1 s1.heap.objs.size=none:=d.hok.fresh (af _);calc⟨.ref s1.heap.objs.size,upd H1 s1.heap.objs.size (.tup xs),d.laid (t':=s1.toks) (λb u e=>ae _ e) (af _) ?_,rQ,q _ j⟩;show⟨z,us,r,⟨_,ap _ rQ,rQ,_,rQ⟩⟩
def acU (h:PA X es t):PE X (.List es pos) (acS t):=by intro ak s σ H Q I g;calc wpAny_List_spliced (bA (h pos ak s σ H _ I g) λus s1 ⟨xs,H1,d,r,z,q⟩=>⟨by rw[<-r.length];show z,?_⟩);let j:H1 s1.heap.objs.size=none:=d.hok.fresh (af _);calc⟨.ref s1.heap.objs.size,upd H1 s1.heap.objs.size (.lst xs),d.laid (t':=s1.toks) (λb u e=>ae _ e) (af _) ?_,rQ,q _ j⟩;show⟨z,us,0,r,ap _ rQ⟩
end
abbrev Sp:=List V->Hp->VK->XK->Prop
abbrev pI:=List Env->Hp->Shared->XK->Value->Shared->Prop
structure vo (P:Program)(w:World)(K:W.Frag)(mg:Str->Option Value)(base:Heap)(A:Around)(outer:List Env)(s:Shared)(H:Hp):Prop where
 frames:A.frames=some outer
 mod:Mod K mg base
 bs:∀b o,base.get? b=some o->s.heap.get? b=some o/\H b=none
 B_:base.objs.size<=s.heap.objs.size
 pW:s.heap.FunFrames base outer
 JB:∀b∈frs outer,H b=none
 hok:iB P w H s.heap
 bare:AllBare s.gens
 gh:Gh H s.toks
def CE (outer:List Env)(P:Program)(w:World)(H:Hp)(s:Shared)(Q:VK)(u:Value)(s':Shared):Prop:=∃v H',s'.os=s.os/\AllBare s'.gens/\Un (frs outer) [] H H' s.heap s'.heap/\iB P w H' s'.heap/\bD v u/\Q v H'/\Gh H' s'.toks
def CR (CX:pI)(outer:List Env)(P:Program)(w:World)(H:Hp)(s:Shared)(Q:VK)(E:XK)(r:Result)(s':Shared):Prop:=match r with| .ok (.ret u)=>CE outer P w H s Q u s'| .ok _=>False| .error e=>CX outer H s E e s'
structure dU (P:Program)(w:World)(K:W.Frag)(mg:Str->Option Value)(base:Heap)(CX:pI)(k:Nat)(f:Addr)(fd:FuncData)(ps:List Str)(sp:Sp):Prop where
 len:∀vs H Q E,sp vs H Q E->vs.length=ps.length
 run:∀(A:Around) (outer:List Env) (s:Shared) (H:Hp) (args:Args) (us:List Value) (vs:List V) (Q:VK) (E:XK),cW k A->vo P w K mg base A outer s H->BindsTo s fd args (ps.zip us)->Vals vs us->sp vs H Q E->
  codeAny (model P w) A (.call (.ref f) args) (CR CX outer P w H s Q E) s
structure nG (P:Program)(w:World)(K:W.Frag)(mg:Str->Option Value)(base:Heap)(CX:pI)(k:Nat)(f:Addr)(fd:FuncData)(ps:List Str)(sp:Sp):Prop where
 run:∀(A:Around) (outer:List Env) (s:Shared) (H:Hp) (args:Args) (us:List Value) (vs:List V) (Q:VK) (E:XK),cW k A->(∀n:Nat,vo P w K mg base A outer {s with toks:=n+1} H)->BindsTo s fd args (ps.zip us)->Vals vs us->sp vs H Q E->
  codeAny (model P w) A (.call (.ref f) args) (CR CX outer P w H s Q E) s
def nG.mono {P:Program}{w:World}{K:W.Frag}{mg:Str->Option Value}{base:Heap}{CX:pI}{j k:Nat}{f:Addr}{fd:FuncData}{ps:List Str}{sp:Sp}(F:nG P w K mg base CX j f fd ps sp)(h:j<=k):nG P w K mg base CX k f fd ps sp:=⟨λA outer s H args us vs Q E d=>F.run A outer s H args us vs Q E (d.mono h)⟩
def vo.make {P:Program}{w:World}{K:W.Frag}{mg:Str->Option Value}{base:Heap}{A:Around}{outer:List Env}{s:Shared}{H:Hp}(e:vo P w K mg base A outer s H)(C:Addr)(us:List Value)(d:List (Str×Value)):vo P w K mg base (A.under (.builtin "type.__call__" ⟨.ref C::us,d⟩)) outer s H:=⟨by first|show e.frames|(simpa [Around.under,Code.envs,Code.isFrame,pushEnvs] using e.frames),e.mod,e.bs,e.B_,e.pW,e.JB,e.hok,e.bare,e.gh⟩
section
variable {X:Cx}{ak:AC}{σ:St}{H:Hp}{s s':Shared}
def aG.env0 (I:aG X ak σ H s):vo X.prog X.w X.K X.mg X.base X.A X.stack s H:=⟨I.ok.frames,I.ok.mod,I.bs,aS I.ok.B_ I.sz,I.stack,I.Oh,I.hok,I.bare,I.gh⟩
def aG.after {Q:VK}{u:Value}(I:aG X ak σ H s)(h:CE X.stack X.prog X.w H s Q u s'):EP X ak σ Q u s':=by let⟨v,H',os,bare,un,hok,r,q,gh⟩:=h;let⟨B,g,d,t,j⟩:=s';obtain rfl:j=s.os:=os;show⟨v,H',I.call (h':=B) (g':=g) (d':=d) (t':=t) (ch:=[]) un hok bare gh (λb z=>absurd z v0),r,q⟩
end
def qD (sp:Sp)(h_:List V)(E:XK)(t:TA):TE:=λσ H Q=>t σ H λvs H1=>sp (vs++h_) H1 Q E
def Ck (C:Addr)(m:Str)(sp:Sp)(h_:List V)(E:XK)(ta:TE)(t:TA):TE:=λσ H Q=>ta σ H λx H1=>∃a dx fs,x=.ref a/\H1 a=some (.ins C dx fs)/\fs.lookup m=none/\
 t σ H1 λvs d=>sp (x::(vs++h_)) d Q E
def Zr (C:Addr)(sp:Sp)(h_:List V)(E:XK)(t:TA):TE:=λσ H Q=>t σ H λvs H1=>∀x dx,H1 x=none->H1 dx=none->dx≠x->
 sp (.ref x::(vs++h_)) (upd (upd H1 dx (.own x)) x (.ins C dx [])) (λv d=>v=.non/\Q (.ref x) d) E
def cB (K:W.Frag)(fd:FuncData)(ps:List Str)(ds:List Value):Prop:=∀(s:Shared) (us:List Value),K.In s.heap->(us++ds).length=ps.length->BindsTo s fd ⟨us,[]⟩ (ps.zip (us++ds))
def cB.all {K:W.Frag}{fd:FuncData}{ps:List Str}(h:∀us:List Value,us.length=ps.length->bindArgs fd ⟨us,[]⟩=pure (ps.zip us)):cB K fd ps []:=λs us _ d=>by rw[eJ]at d ⊢;show .of_eq (h us d)
def Passes (CX:pI)(X:Cx)(E:XK):Prop:=∀(ak:AC) (σ:St) (H:Hp) (s:Shared) (e:Value) (s':Shared),aG X ak σ H s->CX X.stack H s E e s'->X.xe e s'
section
variable {X:Cx}{CX:pI}{k:Nat}{f C:Addr}{fd:FuncData}{ps:List Str}{sp:Sp}{h_:List V}{ds:List Value}{E:XK}{x m:Str}{p pos apos:Pos}{e o:Expr}{es:List Expr}{ta:TE}{t:TA}
def JL {ak:AC}{σ:St}{H:Hp}{s:Shared}{Q:VK}{us:List Value}{vs:List V}(F:dU X.prog X.w X.K X.mg X.base CX k f fd ps sp)(B:cW k X.A)(g:cB X.K fd ps ds)(hd:Vals h_ ds)(hx:Passes CX X E)(I:aG X ak σ H s)(r:Vals vs us)(h:sp (vs++h_) H Q E):wpAny (model X.prog X.w) X.A (call (.ref f) us) (EP X ak σ Q) X.xe s:=by
 let d:Vals (vs++h_) (us++ds):=r.append hd;let j:(us++ds).length=ps.length:=by rw[<-d.length];show F.len _ _ _ _ h
 calc ul (iA (F.run X.A X.stack s H ⟨us,[]⟩ (us++ds) (vs++h_) Q E B I.env0 (g s us I.jg j) d h) λr s' q=>?_);cases r with
 | error e=>show hx ak σ H s e s' I q
 | ok fl=>
  cases fl with| ret u=>show I.after q| next=>show False.elim q| brk=>show False.elim q| cont=>show False.elim q
def aaw (F:dU X.prog X.w X.K X.mg X.base CX k f fd ps sp)(J:cW k X.A)(D:Gl X x)(hm:X.mg x=some (.ref f))(hk:W.keepIn X.K (.ref f)=true)(G:cB X.K fd ps ds)(hd:Vals h_ ds)(hx:Passes CX X E)(ha:PA X (e::es) t)(d:(x==("__debug__":Str))=false:=by decide)(B:starEach (e::es) X.env=(false,eval e X.env)::starEach es X.env:=by rfl)(g:(backTo pos (starEach es X.env)).any (·.1)=false:=by rfl):PE X (.Call (.Name x p) (e::es) [] pos) (qD sp h_ E t):=by intro ak s σ H Q I h;calc ja (yV I D hm ?_ d);calc on (h₀:=X.base) I.ok.mod.wR hk (bA (ha pos ak s σ H _ I h) λus s1 ⟨vs,H1,j,r,q⟩=>⟨j.jg,?_⟩) B g;show JL F J G hd hx j r q
def aax {pl:Sem Bool}(J:PE X o ta)(c:Cls X.K C)(hm:Meth X.K C m f)(F:dU X.prog X.w X.K X.mg X.base CX k f fd ps sp)(O:cW k X.A)(L:cB X.K fd ps ds)(hd:Vals h_ ds)(hx:Passes CX X E)(ha:PA X (e::es) t)(d:starEach (e::es) X.env=(false,eval e X.env)::starEach es X.env:=by rfl)(g:(backTo pos (starEach es X.env)).any (·.1)=false:=by rfl)(D:eval (.Call (.Attribute o m apos) (e::es) [] pos) X.env=(do
   let ov <- eval o X.env
   standAt apos.atName
   let (f,first) <- holding [ov] (getMethod ov m pl)
   callWith pos f first (backTo pos (starEach (e::es) X.env)) (backToKw pos (keywordEach [] X.env))):=by rfl) :
  PE X (.Call (.Attribute o m apos) (e::es) [] pos) (Ck C m sp h_ E ta t):=by
 intro ak s σ H Q I h;calc W.methodCall_KW (pl:=pl) (bA (J ak s σ H _ I h) λu s1 N=>?_) D;let⟨x,H1,j,M,a,dx,fs,ex,G,l,q⟩:=N;subst ex;obtain rfl:u=Value.ref a:=M;calc Cj j G c hm l ?_;calc on (first:=[.ref a]) (h₀:=X.base) I.ok.mod.wR hm.kp (bA (ha pos ak s1 σ H1 _ j q) λus s2 ⟨vs,Y,B,r,q2⟩=>⟨B.jg,?_⟩) d g;show JL (us:=.ref a::us) (vs:=.ref a::vs) F O L hd hx B (.cons rQ r) q2
def Xd {pl:Sem Bool}(B:PE X o ta)(c:Cls X.K C)(hm:Meth X.K C m f)(F:dU X.prog X.w X.K X.mg X.base CX k f fd ps sp)(L:cW k X.A)(D:cB X.K fd ps ds)(hd:Vals h_ ds)(hx:Passes CX X E)(g:eval (.Call (.Attribute o m apos) [] [] pos) X.env=(do
   let ov <- eval o X.env
   standAt apos.atName
   let (f,first) <- holding [ov] (getMethod ov m pl)
   callWith pos f first (backTo pos (starEach [] X.env)) (backToKw pos (keywordEach [] X.env))):=by rfl) :
  PE X (.Call (.Attribute o m apos) [] [] pos) (Ck C m sp h_ E ta lK):=by
 intro ak s σ H Q I h;calc W.methodCall_KW (pl:=pl) (bA (B ak s σ H _ I h) λu s1 J=>?_) g;let⟨x,H1,d,G,a,dx,fs,ex,j,l,q⟩:=J;subst ex;obtain rfl:u=Value.ref a:=G;calc Cj d j c hm l ?_;show W.callWith_K0 (first:=[.ref a]) d.jg hm.kp (JL (us:=[.ref a]) (vs:=[.ref a]) F L D hd hx d (.cons rQ .nil) q)
structure Mk (K:W.Frag)(C f:Addr):Prop where
 makes:W.makesIn K C=true
 init:W.findIn K (.ref C) "__init__"=some (some (.ref f))
 fn:W.isFn K (.ref f)=true
 kp:W.keepIn K (.ref C)=true
def Xe {ak:AC}{σ:St}{H:Hp}{s:Shared}{Q:VK}{us:List Value}{vs:List V}(M:Mk X.K C f)(F:dU X.prog X.w X.K X.mg X.base CX k f fd ps sp)(O:cW (k+1) X.A)(L:cB X.K fd ps ds)(hd:Vals h_ ds)(hx:Passes CX X E)(I:aG X ak σ H s)(r:Vals vs us)(h:∀x dx,H x=none->H dx=none->dx≠x->sp (.ref x::(vs++h_)) (upd (upd H dx (.own x)) x (.ins C dx [])) (λv N=>v=.non/\Q (.ref x) N) E):wpAny (model X.prog X.w) X.A (call (.ref C) us) (EP X ak σ Q) X.xe s:=by
 let q:=h (s.heap.objs.size+1) s.heap.objs.size (I.hok.fresh (cx _)) (I.hok.fresh (af _)) (bb (eC _));let g:=aG.made (C:=C) I;let j:Vals (V.ref (s.heap.objs.size+1)::(vs++h_)) (Value.ref (s.heap.objs.size+1)::(us++ds)):=.cons rQ (r.append hd);let G:(Value.ref (s.heap.objs.size+1)::us++ds).length=ps.length:=by let e:=j.length;rw[F.len _ _ _ _ q]at e;show e.symm
 refine ul (Xb (f:=f) I.jg M.makes M.init (beq_iff_eq.mp M.fn) (iA (F.run _ X.stack _ _ ⟨Value.ref (s.heap.objs.size+1)::us,[]⟩ (Value.ref (s.heap.objs.size+1)::(us++ds)) _ _ E (O.make C us [])
  (g.env0.make C us []) (L _ (Value.ref (s.heap.objs.size+1)::us) g.jg G) j q) λr s' d=>?_))
 cases r with
 | error e=>show hx ak σ _ _ e s' g d
 | ok fl=>
  cases fl with
  | ret u=>let⟨v,H',J,B,D,q3⟩:=g.after d;subst D;show⟨B,⟨V.ref (s.heap.objs.size+1),H',J,rQ,q3⟩⟩
  | next=>show False.elim d
  | brk=>show False.elim d
  | cont=>show False.elim d
def aay (M:Mk X.K C f)(F:dU X.prog X.w X.K X.mg X.base CX k f fd ps sp)(J:cW (k+1) X.A)(D:Gl X x)(hm:X.mg x=some (.ref C))(G:cB X.K fd ps ds)(hd:Vals h_ ds)(hx:Passes CX X E)(ha:PA X (e::es) t)(d:(x==("__debug__":Str))=false:=by decide)(B:starEach (e::es) X.env=(false,eval e X.env)::starEach es X.env:=by rfl)(g:(backTo pos (starEach es X.env)).any (·.1)=false:=by rfl):PE X (.Call (.Name x p) (e::es) [] pos) (Zr C sp h_ E t):=by intro ak s σ H Q I h;calc ja (yV I D hm ?_ d);calc on (h₀:=X.base) I.ok.mod.wR M.kp (bA (ha pos ak s σ H _ I h) λus s1 ⟨vs,H1,j,r,q⟩=>⟨j.jg,?_⟩) B g;show Xe M F J G hd hx j r q
end
def PK (X:Cx)(kws:List Keyword)(t:TA):Prop:=∀(pos:Pos) (ak:AC) (s:Shared) (σ:St) (H:Hp) (Q:List V->Hp->Prop),aG X ak σ H s->t σ H Q->wpAny (model X.prog X.w) X.A (evalAll ((backToKw pos (keywordEach kws X.env)).map (·.2))) (AP X ak σ Q) X.xe s
section
variable {X:Cx}{x:Str}{pos kpos:Pos}{e:Expr}{kws:List Keyword}{te:TE}{t:TA}{nm:Option Str}
def acV:PK X [] lK:=λ_ _ _ _ H Q I h=>wpAny_evalAll_nil ⟨[],H,I,.nil,h⟩
def aaz (ha:PE X e te)(B:PK X kws t):PK X (⟨nm,e,kpos⟩::kws) (fV te t):=by intro pos ak s σ H Q I h;show wpAny _ _ (evalAll ((do let v <- eval e X.env;standAt pos;pure v)::(backToKw pos (keywordEach kws X.env)).map (·.2))) _ _ s;calc wpAny_evalAll_cons (aa (bA (ha ak s σ H _ I h) λu s1 ⟨x,H1,d,r1,q1⟩=>aa (qB (ag ?_))));show bA (B pos ak s1 σ H1 _ d q1) λus s2 ⟨xs,q,g,j,q2⟩=>⟨x::xs,q,g,.cons r1 j,q2⟩
end
structure aV (N P:List Str)(sc:Scope):Prop where
 kind:sc.kind=.function:=by rfl
 co:sc.isCoroutine=false:=by rfl
 gen:sc.isGenerator=false:=by rfl
 nd:N.Nodup:=by decide +kernel
 pre:N.take P.length=P:=by rfl
 par:∀x∈P,sc.names.lookup x=some .local\/sc.names.lookup x=some .cell:=by decide +kernel
 acW:∀y∈sc.names,y.2≠.free:=by decide +kernel
theorem GJ {kindOf:Str->Option NameKind}{x:Str}:∀{binds:List (Str×Value)} {m:Str->Option Value},(∀v,(x,v)∉binds)->bindL kindOf binds m x=m x
 | [],_,_=>rfl
 | (n,v)::r,m,h=>by
  unfold bindL;rw[GJ λw hw=>h w (ay _ hw)];split
  .have:x≠n:=by rintro rfl;show h v ax
   simp[this]
  .rfl
theorem GK {kindOf:Str->Option NameKind}{x:Str}:∀{binds:List (Str×Value)} {m:Str->Option Value},(∀v,(x,v)∉binds)->bindC kindOf binds m x=m x
 | [],_,_=>rfl
 | (n,v)::r,m,h=>by
  unfold bindC;rw[GK λw hw=>h w (ay _ hw)];split;.rfl
  .have:x≠n:=by rintro rfl;show h v ax
   simp[this]
theorem xM {kindOf:Str->Option NameKind}{x:Str}{v:Value}:∀{P:List Str} {vs:List Value} {i:Nat} {m:Str->Option Value},P.Nodup->P[i]?=some x->vs[i]?=some v->kindOf x=some .local->
  bindL kindOf (P.zip vs) m x=some v
 | [],_,_,_,_,h,_,_=>by simp at h
 | _::_,[],_,_,_,_,h,_=>by simp at h
 | p::P,w::vs,0,m,nd,h1,h2,hk=>by simp at h1 h2;subst h1;subst h2;show bindL kindOf ((p,w)::P.zip vs) m p=_;unfold bindL;rw[GJ λv hv=>(fT.mp nd).1 (r_ hv).1,if_pos hk];simp
 | p::P,w::vs,i+1,m,nd,h1,h2,hk=>by show bindL kindOf ((p,w)::P.zip vs) m x=_;unfold bindL;show xM (i:=i) (fT.mp nd).2 (by simpa using h1) (by simpa using h2) hk
theorem GQ {kindOf:Str->Option NameKind}{x:Str}{v:Value}:∀{P:List Str} {vs:List Value} {i:Nat} {m:Str->Option Value},P.Nodup->P[i]?=some x->vs[i]?=some v->kindOf x≠some .local->
  bindC kindOf (P.zip vs) m x=some v
 | [],_,_,_,_,h,_,_=>by simp at h
 | _::_,[],_,_,_,_,h,_=>by simp at h
 | p::P,w::vs,0,m,nd,h1,h2,hk=>by simp at h1 h2;subst h1;subst h2;show bindC kindOf ((p,w)::P.zip vs) m p=_;unfold bindC;rw[GK λv hv=>(fT.mp nd).1 (r_ hv).1,if_neg hk];simp
 | p::P,w::vs,i+1,m,nd,h1,h2,hk=>by show bindC kindOf ((p,w)::P.zip vs) m x=_;unfold bindC;show GQ (i:=i) (fT.mp nd).2 (by simpa using h1) (by simpa using h2) hk
def start (N:List Str)(vs:List V):St:=vs.map some++List.replicate (N.length-vs.length) none
noncomputable def nH (CX:pI)(P:Program)(w:World)(K:W.Frag)(mg:Str->Option Value)(base:Heap)(N:List Str)(qual:Str)(scope:Scope)(f:Addr)(g:Value)(A:Around)(outer:List Env)(s:Shared)(H:Hp)(E:XK):Cx where
 prog:=P
 w:=w
 K:=K
 mg:=mg
 base:=base
 A:=A.deeper (envOfC qual scope s.heap.objs.size f g)
 N:=N
 s₀:=s
 H₀:=H
 env:=envOfC qual scope s.heap.objs.size f g
 outer:=outer
 stack:=envOfC qual scope s.heap.objs.size f g::outer
 ex:=[]
 calm:=true
 fn:=λ_=>true
 pn:=[]
 xe:=λe s'=>wpAny (model P w) (A.deeper (envOfC qual scope s.heap.objs.size f g)) (leaving (envOfC qual scope s.heap.objs.size f g) e) (λ_ d=>CX outer H s E e d) (λj d=>CX outer H s E j d) s'
def JM {sc:Scope}{n:Nat}{x:Str}(h:sc.names.lookup x=some .cell):∃c,(cellsFrom n sc.names []).lookup x=some c:=by let q:=W.cellsFrom_some sc.names n [] (.inl h);show Option.isSome_iff_exists.mp q
def xO {CX:pI}{P:Program}{w:World}{K:W.Frag}{mg:Str->Option Value}{base:Heap}{N ps:List Str}{qual:Str}{scope:Scope}{f:Addr}{D:Value}{A:Around}{outer:List Env}{s s1:Shared}{H:Hp}{E:XK}{us:List Value}{vs:List V}(S:aV N ps scope)(hd:A.handled=none)(g:vo P w K mg base A outer s H)(M:vs.length=ps.length)(r:Vals vs us)(x:InCallC s s.heap.objs.size (bindL (envOfC qual scope s.heap.objs.size f D).kindOf (ps.zip us) λ_=>none) (cellsFrom (s.heap.objs.size+1) scope.names []) (bindC (envOfC qual scope s.heap.objs.size f D).kindOf (ps.zip us) λ_=>none) s1)(htk:s.toks<=s1.toks):aG (nH CX P w K mg base N qual scope f D A outer s H E) [] (start N vs) H s1:=by
 let L:ps.length<=N.length:=by have:=congrArg List.length S.pre;rw[bq]at this;lia
 let⟨h1,Y,rfl,hk⟩:=x.done;let F:∀b:Addr,b∉(nH CX P w K mg base N qual scope f D A outer s H E).ex:=λb z=>absurd (show b∈([]:List Addr) from z) v0;refine⟨⟨g.mod,S.kind,rQ,rQ,af _,λy z c h1 d=>?_,λy j=>?_,λy c _ h=>?_,λ_=>hd,Around.frames_deeper g.frames,.inr ⟨rQ,rQ⟩,λb z=>absurd z (F b),g.bs,g.B_,λb _ _=>F b,λb z=>absurd z (F b),g.pW,g.JB⟩,
  rfl,g.bare,Un.kept hk,⟨_,x.toInCall.ns,λi y v h1 d O=>?_⟩,λy c h=>⟨_,x.cell y c h⟩,g.hok.fresh (af _),λy c h=>?_,λp hp=>absurd (show p∈([]:AC) from hp) v0,g.hok.kept hk,?_,g.gh.up htk⟩
 .show name_of_addr x.apart (lx h1) (lx d)
 .let j:scope.names.lookup y=some .cell\/scope.names.lookup y=some .free:=j;rcases j with j|j;.show JM j
  .show absurd rQ (S.acW _ (lx j))
 .show aI (x.above y c (lx h))
 .let hi:i<vs.length:=by
   unfold start at d;by_cases hi:i<vs.length;.show hi
   .rw[dE (by simpa using hi)]at d;rw[List.getElem?_replicate]at d;split at d <;> cases d
  let ha:vs[i]?=some v:=by
   unfold start at d;rw[eM (by simpa using hi),ba]at d;cases e:vs[i]? with
   | none=>rw[e]at d;cases d
   | some a=>rw[e]at d;cases d;rfl
  let⟨u,G,J⟩:=r.get ha;let hp:ps[i]?=some y:=by rw[<-S.pre,oq (by simp_all)];show h1
  let B:ps.Nodup:=by rw[<-S.pre];show S.nd.sublist (pT _ _)
  calc⟨u,J,?_⟩;rcases S.par y (aE hp) with k|k;.show .inl ⟨k,xM B hp G k⟩
  .let⟨c,e⟩:=JM (n:=s.heap.objs.size+1) k;calc .inr ⟨.inl k,c,e,?_⟩;let q:=x.cell y c e;rw[GQ B hp G (by show scope.names.lookup y≠_;rw[k];decide)]at q;show q
 .show g.hok.fresh (aI (x.above y c (lx h)))
 .unfold start;show _=N.length;rw[ar,ab,eA];simp_all
def aeR {CX:pI}{P:Program}{w:World}{K:W.Frag}{mg:Str->Option Value}{base:Heap}{k:Nat}{f:Addr}{name qual:Str}{d:Arguments}{g:List Stmt}{scope:Scope}{Z kV doc pm bw ct oc:Value}{an od:Option Addr}{osl:Array (Option Value)}{N ps:List Str}{sp:Sp}(lk:K.lookup f=some ⟨oc,od,.func (W.fnOf name qual d g scope Z kV doc pm an bw ct),osl⟩)(Y:W.codeIn K bw qual=true)(S:aV N ps scope)(len:∀vs H Q E,sp vs H Q E->vs.length=ps.length)(j:∀(A:Around) (outer:List Env) (s:Shared) (H:Hp) (vs:List V) (Q:VK) (E:XK),cW k (A.deeper (envOfC qual scope s.heap.objs.size f bw))->sp vs H Q E->
   ∃t,oE (nH CX P w K mg base N qual scope f bw A outer s H E) g t/\t {nx:=λ_ H'=>Q .non H',rt:=Q} (start N vs) H) :
  dU P w K mg base CX (k+1) f (W.fnOf name qual d g scope Z kV doc pm an bw ct) ps sp:=by
 calc⟨len,λA outer s H args us vs Q E O G hb r D=>?_⟩;let hl:=len _ _ _ _ D;let KX:K.In s.heap:=G.mod.wR.keeps λb o e=>(G.bs b o e).1;let M:s.heap.NoLimit:=G.mod.nolimit.keeps λb o e=>(G.bs b o e).1;let B:∀y∈ps.zip us,scope.names.lookup y.1=some .local\/(scope.names.lookup y.1=some .cell/\((cellsFrom (s.heap.objs.size+1) scope.names []).lookup y.1).isSome=true):=λ⟨n,v⟩ hy=>by
  rcases S.par n (r_ hy).1 with q|q;.show .inl q
  .show .inr ⟨q,W.cellsFrom_some _ _ _ (.inl q)⟩
 calc rq O.depth (KX _ _ lk) rQ S.co S.gen rQ (tz KX Y) (hb _ _ _ _ ?_);calc bR (wpAny_newFunctionEnv_cells S.kind B λenv he s1 x htk=>?_);subst he;calc⟨M.keeps x.toInCall.keep,codeAny_func ?_⟩;let⟨t,ht,hq⟩:=j A outer s H vs Q E (O.deeper _) D;let I:aG (nH CX P w K mg base N qual scope f bw A outer s H E) [] (start N vs) H s1:=xO S O.hd G hl r x htk;calc eW (ht [] s1 (start N vs) H _ I hq) (λfl s' hs=>?_) λe s' hs=>hs;let F:∀{σ':St} {H':Hp} {v:V} {u:Value},aG (nH CX P w K mg base N qual scope f bw A outer s H E) [] σ' H' s'->bD v u->Q v H'->CE outer P w H s Q u s':=λ{σ' H' v u} J L q=>⟨v,H',J.os,J.bare,J.base,J.hok,L,q,J.gh⟩
 cases fl with
 | ret u=>let⟨v,σ',H',J,L,q⟩:=hs;show F J L q
 | next=>let⟨σ',H',J,q⟩:=hs;show F (v:=V.non) (u:=Value.none) J rQ q
 | brk=>let⟨_,_,_,q⟩:=hs;show False.elim q
 | cont=>let⟨_,_,_,q⟩:=hs;show False.elim q
def Nf {s s1:Shared}{L:Addr}{m cm:Str->Option Value}{d:List (Str×Addr)}(x:InCallC s L m d cm s1)(n:Nat):InCallC {s with toks:=n} L m d cm s1:=⟨⟨let ⟨h,k,e⟩:=x.toInCall.same;⟨h,k,e⟩,x.toInCall.ns,x.toInCall.keep,x.toInCall.fresh⟩,x.cell,x.apart,x.above⟩
def aaA {M:Model}{A:Around}{E:AB}{s:Shared}{sc:Scope}{g:Addr}{n:Str}{v:Value}{qual:Str}{d:Option Addr}{j:Value}{bl:Addr}{Q:Env->Shared->Prop}(hk:sc.kind=.function)(B:sc.names.lookup n=some .local)(q:∀env,env=newEnv sc s.heap.objs.size g (cellsFrom (s.heap.objs.size+1) sc.names []) qual d j none bl->∀s',InCallC s env.locals (bindL env.kindOf [(n,v)] λ_=>none) env.cells (bindC env.kindOf [(n,v)] λ_=>none) s'->s.toks<s'.toks->Q env s'):wpAny M A (newFunctionEnv sc g [] [(n,v)] qual d j none bl) Q E s:=by
 simp only[newFunctionEnv,Option.isSome_none,a6,if_false];calc aa (wpAny_alloc (aa (wpAny_layCells _ (λa b c=>by cases h:b==NameKind.cell <;> simp[h]) _ _ _ _ ?_)));let ok:=cellsFrom_ok sc.names (s.heap.push {cls:=.type "frame",data:=.dict #[]}) (s.heap.objs.size+1) [] ⟨(λ_ _ z=>nomatch z),.nil⟩ (by rw[dC];show af _);rw[dC]at ok;rw[show ({s with heap:=s.heap.push {cls:=.type "frame",data:=.dict #[]} }:Shared).heap.objs.size=s.heap.objs.size+1 from dC ..];let x:InCallC s s.heap.objs.size (λ_=>none) (cellsFrom (s.heap.objs.size+1) sc.names []) (λ_=>none) {s with heap:=pushCells (s.heap.push {cls:=.type "frame",data:=.dict #[]}) sc.names}:=⟨⟨⟨_,_,rQ⟩,(Heap.Ns.new s.heap (.type "frame")).keeps (pushCells_keeps _ _),λb o e=>pushCells_keeps _ _ b o (ae _ e),af _⟩,λa c h=>(ok.empty a c (mem_of_lookup h)).1,ok.apart,λa c h=>(ok.empty a c h).2⟩
 calc aa ?_;rw[gT];calc aa (aa (wpAny_storeName_local (env:=newEnv sc s.heap.objs.size g (cellsFrom (s.heap.objs.size+1) sc.names []) qual d j none bl) B x.toInCall.ns (λh' hn hs=>?_) (by rw[show (newEnv sc s.heap.objs.size g (cellsFrom (s.heap.objs.size+1) sc.names []) qual d j none bl).scope.kind=.function from hk];rfl)));calc ag ?_;dsimp only;rw[vF];calc ag (ag (q _ rQ _ ⟨⟨⟨h',_,rQ⟩,?_,λb o e=>?_,x.toInCall.fresh⟩,λk c D=>?_,x.apart,x.above⟩ (eC _)));.unfold bindL;rw[if_pos (show (newEnv sc s.heap.objs.size g (cellsFrom (s.heap.objs.size+1) sc.names []) qual d j none bl).kindOf n=some .local from B)];show hn
 .show hs.extBut b o (bb (bo (a7 e) x.toInCall.fresh)) (x.toInCall.keep b o e)
 .unfold bindC;rw[if_pos (show (newEnv sc s.heap.objs.size g (cellsFrom (s.heap.objs.size+1) sc.names []) qual d j none bl).kindOf n=some .local from B)];show(x.cell k c D).sameBut hs (gg (x.above k c (mem_of_lookup D)))
def acX {P:Program}{w:World}{K:W.Frag}{mg:Str->Option Value}{base:Heap}{k:Nat}{f:Addr}{name qual y:Str}{d:Arguments}{g:List Stmt}{scope:Scope}{O kV doc pm bw ct oc:Value}{an od:Option Addr}{osl:Array (Option Value)}{N:List Str}{sp:Sp}(lk:K.lookup f=some ⟨oc,od,.func (W.fnOf name qual d g scope O kV doc pm an bw ct),osl⟩)(M:W.codeIn K bw qual=true)(S:aV N [y] scope)(hl:scope.names.lookup y=some .local)(len:∀vs H Q E,sp vs H Q E->vs.length=1)(B:∀(A:Around) (outer:List Env) (s:Shared) (H:Hp) (vs:List V) (Q:VK) (E:XK),cW k (A.deeper (envOfC qual scope s.heap.objs.size f bw))->sp vs H Q E->
   ∃t,oE (nH (λ_ _ _ _ _ _=>False) P w K mg base N qual scope f bw A outer s H E) g t/\t {nx:=λ_ H'=>Q .non H',rt:=Q} (start N vs) H) :
  nG P w K mg base (λ_ _ _ _ _ _=>False) (k+1) f (W.fnOf name qual d g scope O kV doc pm an bw ct) [y] sp:=by
 calc⟨λA outer s H args us vs Q E L e1 hb r D=>?_⟩;let F:=e1 s.toks;let j:=len _ _ _ _ D;let Y:K.In s.heap:=F.mod.wR.keeps λb o e=>(F.bs b o e).1;let G:s.heap.NoLimit:=F.mod.nolimit.keeps λb o e=>(F.bs b o e).1;obtain⟨u,rfl⟩:∃u,us=[u]:=by
  have:=r.length
  match us,this with
  | [u],_=>show⟨u,rQ⟩
  | [],h=>rw[j]at h;cases h
  | _::_::_,h=>rw[j]at h;cases h
 calc rq L.depth (Y _ _ lk) rQ S.co S.gen rQ (tz Y M) (hb _ _ _ _ ?_);calc aaA S.kind hl λenv he s1 x htk=>?_;subst he;calc⟨G.keeps x.toInCall.keep,codeAny_func ?_⟩;let⟨t,Z,hq⟩:=B A outer {s with toks:=s.toks+1} H vs Q E (L.deeper _) D;let I:=xO (CX:=λ_ _ _ _ _ _=>False) (s:={s with toks:=s.toks+1}) (E:=E) (us:=[u]) S L.hd F j r (Nf x (s.toks+1)) htk;calc eW (Z [] s1 (start N vs) H _ I hq) (λfl s' hs=>?_) λe s' hs=>hs;cases fl with
 | ret u=>let⟨v,σ',H',J,rv,q⟩:=hs;show⟨v,H',J.os,J.bare,J.base,J.hok,rv,q,J.gh⟩
 | next=>let⟨σ',H',J,q⟩:=hs;show⟨.non,H',J.os,J.bare,J.base,J.hok,rQ,q,J.gh⟩
 | brk=>let⟨_,_,_,q⟩:=hs;show False.elim q
 | cont=>let⟨_,_,_,q⟩:=hs;show False.elim q
section
variable {X:Cx}{x:Str}{p pos:Pos}{e:Expr}{es:List Expr}{t:TA}{id T:String}{r:List V->Hp->VK->Prop}
def Zt (r:List V->Hp->VK->Prop)(t:TA):TE:=λσ H Q=>t σ H λvs H1=>r vs H1 Q
def Xf (q:fU X (.builtin id) r)(D:Gl X x)(hm:X.mg x=none)(hv:bootBuiltins x=some (.builtin id))(ha:PA X (e::es) t)(hn:x≠"__name__":=by decide)(d:(x==("__debug__":Str))=false:=by decide)(B:starEach (e::es) X.env=(false,eval e X.env)::starEach es X.env:=by rfl)(g:(backTo pos (starEach es X.env)).any (·.1)=false:=by rfl):PE X (.Call (.Name x p) (e::es) [] pos) (Zt r t):=by intro ak s σ H Q I h;calc ja (pG I D hm hv ?_ hn d);show PyProof.Rows.callWith_builtin1 (bA (ha pos ak s σ H _ I h) λus s1 ⟨vs,H1,j,r1,q1⟩=>q ak s1 σ H1 vs us Q j r1 q1) B g
def T7 (q:fU X (.type T) r)(D:Gl X x)(hm:X.mg x=none)(hv:bootBuiltins x=some (.type T))(ha:PA X (e::es) t)(hn:x≠"__name__":=by decide)(d:(x==("__debug__":Str))=false:=by decide)(B:starEach (e::es) X.env=(false,eval e X.env)::starEach es X.env:=by rfl)(g:(backTo pos (starEach es X.env)).any (·.1)=false:=by rfl):PE X (.Call (.Name x p) (e::es) [] pos) (Zt r t):=by intro ak s σ H Q I h;calc ja (pG I D hm hv ?_ hn d);show gS (bA (ha pos ak s σ H _ I h) λus s1 ⟨vs,H1,j,r1,q1⟩=>q ak s1 σ H1 vs us Q j r1 q1) B g
end
end L2
namespace HT
open PySem PyProof.Rows
section
variable {prog:Program}{w:World}{A:Around}{E:AB}{s:Shared}
def aaB {t b:Addr}{vs ws:List Value}{Q:AB}(N:IsTup s.heap t vs.toArray)(Y:IsTup s.heap b ws.toArray)(hv:vs≠[])(h1:ws=[]->Q (.ref t) s)(O:ws≠[]->Q (.ref s.heap.objs.size) {s with heap:=s.heap.push {cls:=.type "tuple",data:=.seq (vs++ws).toArray} })(hsz:vs.length+ws.length<=sizeLine):wpAny (model prog w) A (binaryOp .Add (.ref t) (.ref b)) Q E s:=by
 obtain⟨⟨cls,G,data,sl⟩,D,J,n,hd⟩:=id N;obtain⟨⟨M,j,F,q⟩,d,g,L,B⟩:=id Y;simp only at J hd g B;subst J hd g B;let e:vs.toArray++ws.toArray=(vs++ws).toArray:=v0;by_cases hw:ws=[]
 .show concat_meets ⟨_,D,rQ⟩ ⟨_,d,rQ⟩ noFill_tuple_add seq_tuple_add qi pE (ox _ _)
   (tuple_addW1 t b vs.toArray ws.toArray n L G j sl q (by simpa using hv) (by simp[hw])) ⟨D,d,h1 hw⟩
 .refine concat_meets ⟨_,D,rQ⟩ ⟨_,d,rQ⟩ noFill_tuple_add seq_tuple_add qi pE (ox _ _)
   (tuple_addW2 t b vs.toArray ws.toArray n L G j sl q (by simpa using hv) (by simpa using hw) (by rw[bz,bz];show hsz)) ⟨D,d,?_⟩
  rw[e];show O hw
def bN (n d:Nat):Option Int->Nat
 | none=>d
 | some v=>if v<0 then (v+(n:Int)).toNat else min v.toNat n
def vp (n d:Nat):bN n d none=d:=rfl
def m7 (n d k:Nat):bN n d (some (k:Int))=min k n:=by show (if (k:Int)<0 then ((k:Int)+(n:Int)).toNat else min (k:Int).toNat n)=min k n;rw[if_neg vT,cS]
def T8 (n d:Nat)(hd:d<=n)(o:Option Int):bN n d o<=n:=by
 cases o with
 | none=>show hd
 | some v=>
  show (if v<0 then (v+(n:Int)).toNat else min v.toNat n)<=n;by_cases hv:v<0;.rw[if_pos hv];lia
  .rw[if_neg hv];show uA _ _
def Ey (v:Int)(n d:Nat):(if v<0 then max (v+(n:Int)) 0 else min v (n:Int))=((bN n d (some v):Nat):Int):=by
 show (if v<0 then max (v+(n:Int)) 0 else min v (n:Int))=(((if v<0 then (v+(n:Int)).toNat else min v.toNat n):Nat):Int)
 by_cases hv:v<0;.simp only[if_pos hv];lia
 .simp only[if_neg hv];grind
def Rb (lo hi:Option Int)(n:Nat):Builtin.Slice.sliceAdjust lo hi 1 (n:Int)=(((bN n 0 lo:Nat):Int),((bN n n hi:Nat):Int)):=by
 let h1:¬((1:Int)<0):=vT;unfold Builtin.Slice.sliceAdjust;simp only[h1,if_false];refine qS ?_ ?_
 .cases lo with| none=>rfl| some v=>show Ey v n 0
 .cases hi with| none=>rfl| some v=>show Ey v n n
def Rc (i j:Nat):Builtin.Slice.slicePlaces (i:Int) (j:Int) 1=j-i:=by unfold Builtin.Slice.slicePlaces;let h1:(1:Int) > 0:=vT;simp only[h1,if_true,Int.ediv_one];split <;> simp_all
def Cm {v:Value}{o:Option Int}{Q:Option Int->Shared->Prop}(p:IsPart v o)(h:Q o s):wpAny (model prog w) A (Builtin.Slice.slicePartIndex v) Q E s:=by
 cases p with| none=>show slicePart_none h| int i t=>show slicePart_int h
def q_ {sl:Addr}{vl j:Value}{lo hi:Option Int}{n:Nat}{Q:Int×Int×Nat->Shared->Prop}(hs:s.heap.IsSliceOf sl vl j .none)(pl:IsPart vl lo)(q:IsPart j hi)(h:Q (((bN n 0 lo:Nat):Int),1,bN n n hi-bN n 0 lo) s):wpAny (model prog w) A (Builtin.Slice.sliceApplied (.ref sl) (pure (n:Int))) Q E s:=by let⟨os,d,B,g⟩:=id hs;unfold Builtin.Slice.sliceApplied Builtin.Slice.sliceFields;calc aa (aa (fw d g (x:=vl) rQ (aa (fw d g (x:=j) rQ (aa (fw d g (x:=.none) rQ (ag ?_)))))));calc aa (slicePart_none ?_);show wpAny _ _ (if ((1:Int)==0)=true then _ else _) _ _ s;rw[if_neg v_];calc aa (Cm pl (aa (Cm q (aa (ag ?_)))));show wpAny _ _ (match Builtin.Slice.sliceAdjust lo hi 1 (n:Int) with|(lo,hi)=>pure (lo,(1:Int),Builtin.Slice.slicePlaces lo hi 1)) _ _ s;rw[Rb lo hi n];show wpAny _ _ (pure (((bN n 0 lo:Nat):Int),(1:Int),Builtin.Slice.slicePlaces ((bN n 0 lo:Nat):Int) ((bN n n hi:Nat):Int) 1)) _ _ s;rw[Rc];show ag h
def Xg (xs:Array Value)(i k:Nat):((List.range k).filterMap λ(m:Nat)=>xs[((i:Int)+(m:Int)*1).toNat]?).toArray=((xs.toList.drop i).take k).toArray:=by
 let e:(λ(m:Nat)=>xs[((i:Int)+(m:Int)*1).toNat]?)=λm=>xs[i+m]?:=by
  funext m;have:((i:Int)+(m:Int)*1).toNat=i+m:=by lia
  rw[this]
 rw[e];have:=pick_run xs i k;rw[List.filterMap_map]at this;let e2:((λx=>xs[x]?) ∘ λx=>i+x)=λm=>xs[i+m]?:=rfl;rw[e2]at this;rw[this]
def zR {t sl:Addr}{d:Array Value}{vl G:Value}{lo hi:Option Int}{Q:AB}(g:IsTup s.heap t d)(hs:s.heap.IsSliceOf sl vl G .none)(pl:IsPart vl lo)(L:IsPart G hi)(hw:¬(bN d.size 0 lo=0/\bN d.size d.size hi=d.size))(h:Q (.ref s.heap.objs.size) {s with heap:=s.heap.push {cls:=.type "tuple",data:=.seq ((d.toList.drop (bN d.size 0 lo)).take (bN d.size d.size hi-bN d.size 0 lo)).toArray} })(hsz:d.size<=sizeLine):wpAny (model prog w) A (getItem (.ref t) (.ref sl)) Q E s:=by
 let J:sizeOk (.seq ((d.toList.drop (bN d.size 0 lo)).take (bN d.size d.size hi-bN d.size 0 lo)).toArray):=by show ((d.toList.drop (bN d.size 0 lo)).take (bN d.size d.size hi-bN d.size 0 lo)).toArray.size<=sizeLine;rw[bz,bq,cz,bn];lia
 let N:bN d.size d.size hi<=d.size:=T8 _ _ (af _) hi;let⟨os,j,B,M⟩:=id hs;let F:s.TypeIs (.ref sl) "slice":=⟨os,j,B⟩
 unfold getItem
 try with_reducible refine eD ?_
 first|refine aa (ag ?_)|skip
 calc aa (wpAny_sequenceKey g.typeIs v_ ?_);refine aa (dP (name:=Str.ofString "__getitem__") g.typeIs f_
  (c_ f_ g.typeIs entry_tuple_getitem ?_ (args_tuple_getitem _ _)))
 show wpAny _ _ (Builtin.Tuple.tupleItemsOf (.ref t) >>= _) _ _ s;calc aa (tupleItemsOf_ g ?_);calc aa (oy F ?_);rw[if_pos v_];calc aa (q_ hs pl L ?_);let D:¬((((bN d.size 0 lo:Nat):Int)==0&&(1:Int)==1&&(bN d.size d.size hi-bN d.size 0 lo)==d.size)=true):=by intro q;rw[c9,c9]at q;let q1:((bN d.size 0 lo:Nat):Int)=0:=eq_of_beq q.1.1;let q2:bN d.size d.size hi-bN d.size 0 lo=d.size:=eq_of_beq q.2;show hw ⟨Iff.mp Int.ofNat_inj q1,by simp_all⟩
 show wpAny _ _ (if (((bN d.size 0 lo:Nat):Int)==0&&(1:Int)==1&&(bN d.size d.size hi-bN d.size 0 lo)==d.size)=true then _ else _) _ _ s;rw[if_neg D,Xg]
 first| show aa (m:=Builtin.Tuple.tupleExact _) (ej (ag ⟨_,rQ,ag h⟩) J)| show aa (m:=Builtin.Tuple.tupleExact _) (ej (aa (ag (ag ⟨_,rQ,ag h⟩))) J)| show aa (aa (m:=Builtin.Tuple.tupleExact _) (ej (ag (ag ⟨_,rQ,ag h⟩)) J))| show aa (aa (m:=Builtin.Tuple.tupleExact _) (ej (ag ⟨_,rQ,ag h⟩) J))
end
end HT
namespace L2
open PySem PySem.Spec PyProof.Rows
abbrev TO:=St->Hp->(Option Int->Hp->Prop)->Prop
def PO (X:Cx)(e:Option Expr)(t:TO):Prop:=∀(ak:AC) (s:Shared) (σ:St) (H:Hp) (Q:Option Int->Hp->Prop),aG X ak σ H s->t σ H Q->
  wpAny (model X.prog X.w) X.A (evalPart e X.env) (λu s'=>∃o H',aG X ak σ H' s'/\IsPart u o/\Q o H') X.xe s
def qO:TO:=λ_ H Q=>Q none H
def yX (t:TE):TO:=λσ H Q=>t σ H λx H1=>∃i,x=.int i/\Q (some i) H1
section
variable {X:Cx}{e:Expr}{te:TE}{lo hi:Option Expr}{tl th:TO}{pos p2:Pos}
def aaC:PO X none qO:=by intro ak s σ H Q I h;rw[evalPart_none];show ag ⟨none,H,I,.none,h⟩
def aaD (h:PE X e te):PO X (some e) (yX te):=by intro ak s σ H Q I hw;rw[evalPart_some];calc bA (h ak s σ H _ I hw) λu s1 g=>?_;let⟨x,H1,d,r1,q1⟩:=g;let⟨i,rfl,q⟩:=q1;let⟨t,rfl⟩:=r1;show⟨some i,H1,d,.int i t,q⟩
def T9 (X:Cx)(r:V->Option Int->Option Int->Hp->VK->Prop):Prop:=∀(ak:AC) (s:Shared) (σ:St) (H:Hp) (x:V) (v vl d:Value) (lo hi:Option Int) (sl:Addr) (Q:VK),aG X ak σ H s->bD x v->s.heap.IsSliceOf sl vl d .none->IsPart vl lo->IsPart d hi->r x lo hi H Q->
  ∃T id,typeLookup (.type T) "__getitem__"=pure (some (.builtin id))/\s.TypeIs v T/\wpAny (model X.prog X.w) X.A (getItem v (.ref sl)) (EP X ak σ Q) X.xe s
def Oo (r:V->Option Int->Option Int->Hp->VK->Prop)(te:TE)(tl th:TO):TE:=λσ H Q=>te σ H λx H1=>tl σ H1 λl d=>th σ d λu g=>r x l u g Q
def Xh {r:V->Option Int->Option Int->Hp->VK->Prop}(hr:T9 X r)(N:PE X e te)(L:PO X lo tl)(D:PO X hi th):PE X (.Subscript e (.Slice lo hi none p2) pos) (Oo r te tl th):=by intro ak s σ H Q I h;calc Subscript_ (bA (N ak s σ H _ I h) λv s1 g=>?_);let⟨x,H1,G,r1,q1⟩:=g;calc wpAny_Slice (bA (L ak s1 σ H1 _ G q1) λvl s2 g=>?_);let⟨l,H2,M,pl,q2⟩:=g;calc bA (D ak s2 σ H2 _ M q2) λj d g=>?_;let⟨u,B,O,F,q3⟩:=g;rw[evalPart_none];calc ag ?_;let I4:aG X ak σ B {d with heap:=d.heap.push {cls:=.type "slice",data:=.fields #[vl,j,.none]} }:=O.kept (t':=d.toks) λb ob q=>ae _ q;let⟨T,id,Z,J,Y⟩:=hr ak {d with heap:=d.heap.push {cls:=.type "slice",data:=.fields #[vl,j,.none]} } σ B x v vl j l u d.heap.objs.size Q I4 r1 (Heap.IsSliceOf.new ..) pl F q3;show wpAny (model X.prog X.w) X.A (subscriptTail e (.Slice lo hi none p2) v (.ref d.heap.objs.size)) (EP X ak σ Q) X.xe {d with heap:=d.heap.push {cls:=.type "slice",data:=.fields #[vl,j,.none]} };show tail_any (ops:=[.ref d.heap.objs.size,v]) J Z Y (by with_unfolding_all rfl)
noncomputable def ig (xs:List V)(lo hi:Option Int):List V:=(xs.drop (HT.bN xs.length 0 lo)).take (HT.bN xs.length xs.length hi-HT.bN xs.length 0 lo)
def Aa (xs:List V)(lo hi:Option Int):(ig xs lo hi).length<=xs.length:=by unfold ig;rw[bq,cz];lia
def Vals.Ez {xs:List V}{us:List Value}(r:Vals xs us):us=[]↔xs=[]:=by
 cases r with| nil=>simp| cons _ _=>simp
end
noncomputable def GR (n:Nat)(i:Int):Option Nat:=if 0<=i then (if i<n then some i.toNat else none) else if -(n:Int)<=i then some (i+n).toNat else none
def jL {α:Type}(xs:List α)(i:Int):Option α:=(GR xs.length i).bind λj=>xs[j]?
def Oq {n:Nat}{i:Int}{j:Nat}(h:GR n i=some j):seqIndex? i n=some j/\j<n/\-(n:Int)<=i/\i<n:=by
 unfold GR at h;by_cases d:0<=i
 .rw[if_pos d]at h;by_cases h1:i<n
  .rw[if_pos h1]at h;let e:i.toNat=j:=be h;show⟨by rw[seqIndex_of d h1,e],vT,vT,h1⟩
  .rw[if_neg h1]at h;cases h
 .rw[if_neg d]at h;by_cases h1:-(n:Int)<=i
  .rw[if_pos h1]at h;let e:(i+n).toNat=j:=be h;show⟨by rw[seqIndex_neg vT h1,e],vT,h1,vT⟩
  .rw[if_neg h1]at h;cases h
def yZ {α:Type}{xs:List α}{i:Int}{v:α}(h:jL xs i=some v):∃j,seqIndex? i xs.length=some j/\xs[j]?=some v/\j<xs.length/\-(xs.length:Int)<=i/\i<xs.length:=by
 unfold jL at h;cases e:GR xs.length i with
 | none=>rw[e]at h;cases h
 | some j=>rw[e]at h;let⟨h1,g,q,d⟩:=Oq e;show⟨j,h1,h,g,q,d⟩
def aO {α:Type}{xs:List α}{j:Nat}{v:α}(h:xs[j]?=some v):jL xs (j:Int)=some v:=by
 let d:j<xs.length:=(ai.mp h).1;let e:GR xs.length (j:Int)=some j:=by unfold GR;rw[if_pos vT,if_pos (ph hG d)];simp
 unfold jL;rw[e];show h
def EY (b:Expr):Prop:=∀o i,subscripted b false o i=operate [o,i] (getItem o i)
def GX (X:Cx)(r:R2):Prop:=∀(value d:Expr) (ak:AC) (s:Shared) (σ:St) (H:Hp) (x y:V) (v u:Value) (Q:VK),aG X ak σ H s->bD x v->bD y u->r x y H Q->
  subscripted d false v u=operate [v,u] (getItem v u)->wpAny (model X.prog X.w) X.A (subscriptTail value d v u) (EP X ak σ Q) X.xe s
def sO (X:Cx)(id:String)(r:V->List V->Hp->VK->Prop):Prop:=∀(ak:AC) (s:Shared) (σ:St) (H:Hp) (x:V) (xs:List V) (v:Value) (us:List Value) (Q:VK),aG X ak σ H s->bD x v->Vals xs us->r x xs H Q->
  wpAny (model X.prog X.w) X.A (call (.builtin id) (v::us)) (EP X ak σ Q) X.xe s
section
variable {X:Cx}{a b:Expr}{ta tb:TE}{pos:Pos}
def aeS {r:R2}(F:GX X r)(ha:PE X a ta)(j:PE X b tb)(hs:EY b):PE X (.Subscript a b pos) (qu r ta tb):=by intro ak s σ H Q I h;show Subscript_ (W7 ha j I h λv u s2 x y D g B d q=>F a b ak s2 σ D x y v u Q g B d q (hs _ _))
def acY (K:W.Frag):R2:=λx y H Q=>∃p xs i v,x=.ref p/\y=.int i/\aP K H p xs/\jL xs i=some v/\Q v H
def Rf (K:W.Frag):R2:=λx y H Q=>∃p xs i v,x=.ref p/\y=.int i/\aU K H p xs/\jL xs i=some v/\Q v H
def acZ:R2:=λx y H Q=>∃z i c,x=.str z/\y=.int i/\z.length<=sizeLine/\jL z.cps.toList i=some c/\Q (.str ⟨#[c]⟩) H
def fP:GX X (acY X.K):=by
 intro value g ak s σ H x y v u Q I Z J h hs;let⟨p,xs,i,z,rfl,rfl,hq,M,q⟩:=h;cases Z;let⟨t,rfl⟩:=J;let⟨its,r,pl,hz⟩:=I.list hq;let⟨j,h1,G,h3,O,N⟩:=yZ M;let⟨w,D,Y⟩:=r.get G;let L:=r.length;let hn:=qZ;let d:EP X ak σ Q w s:=⟨z,H,I,Y,q⟩
 by_cases F:0<=i
 .let B:i.toNat=j:=by
   rw[seqIndex_of F N]at h1;show be h1
  show item_listR pl.isList F vT (by rw[B];simpa using D) d hs
 .let B:(i+(its.toArray.size:Int)).toNat=j:=by
   rw[seqIndex_neg vT O]at h1;rw[bz,<-L];show be h1
  show subscriptTail_builtinR (x:=w) pl.isList.typeIs slot_list_getitem.lookup
   (wpAny_getItem_list_neg (Q:=λr s'=>r=w/\EP X ak σ Q r s') pl.isList vT (by rw[bz] <;> lia) vT (by rw[B];simpa using D) ⟨rQ,d⟩) hs
def cR:GX X (Rf X.K):=by
 intro value d ak s σ H x y v u Q I M F h hs;let⟨p,xs,i,z,rfl,rfl,N,J,q⟩:=h;cases M;let⟨t,rfl⟩:=F;let⟨its,r,pl,hz⟩:=I.tuple N;let⟨j,h1,D,Z,Y,O⟩:=yZ J;let⟨w,B,L⟩:=r.get D;let G:=r.length;let hn:=qZ;let g:EP X ak σ Q w s:=⟨z,H,I,L,q⟩
 show subscriptTail_builtinR (x:=w) pl.typeIs slot_tuple_getitem.lookup
  (getItem_tuple (j:=j) (Q:=λr s'=>r=w/\EP X ak σ Q r s') pl vT vT (by rw[bz,<-G];show h1) (by simpa using B) ⟨rQ,g⟩) hs
def ac0:GX X acZ:=by
 intro value d ak s σ H x y v u Q I L B h hs;let⟨z,i,c,rfl,rfl,hz,F,q⟩:=h;let⟨t,rfl⟩:=L;let⟨t',rfl⟩:=B;let⟨j,h1,g,M,J,G⟩:=yZ F;let D:z.cps.toList.length=z.length:=by simp[Str.length]
 rw[D]at h1 J G;let hn:=qZ;show tail_any (typeIs_str s z t) slot_str_getitem.lookup (getItem_str (c:=c) (by
  let e1:decide (i < -(2^63:Int))=false:=al vT;let e2:decide (i>=2^63)=false:=al vT;rw[e1,e2,qE]) (by rw[h1];simpa using g) ⟨.str ⟨#[c]⟩,H,I.tok _,⟨_,rQ⟩,q⟩) hs
def Rg (its:List Value)(n j:Nat)(u:Value):Obj.mapSeq (·.setIfInBounds j u) {cls:=.type "list",data:=.seq its.toArray n}={cls:=.type "list",data:=.seq (its.set j u).toArray n}:=by simp[Obj.mapSeq]
def aG.lst {ak:AC}{σ:St}{H:Hp}{s:Shared}{p:Addr}{xs:List V}(I:aG X ak σ H s)(h:H p=some (.lst xs)):∃(its:List Value) (n:Nat),Vals xs its/\s.heap.get? p=some {cls:=.type "list",data:=.seq its.toArray n}/\xs.length<=sizeLine:=by let⟨z,its,n,r,e⟩:=I.hok p _ h;show⟨its,n,r,e,z⟩
def aG.ac1 {ak:AC}{σ:St}{H:Hp}{s:Shared}{p:Addr}{xs ys:List V}{its its':List Value}{n d:Nat}{f:Obj->Obj}(I:aG X ak σ H s)(h:H p=some (.lst xs))(j:s.heap.get? p=some {cls:=.type "list",data:=.seq its.toArray n})(g:f {cls:=.type "list",data:=.seq its.toArray n}={cls:=.type "list",data:=.seq its'.toArray d })(r:Vals ys its')(hz:ys.length<=sizeLine)(t:Nat)(D:s.toks<=t:=by first|show af _|assumption|show cx _|lia):aG X ak σ (upd H p (.lst ys)) {s with heap:=s.heap.update p f,toks:=t}:=by
 let e:(s.heap.update p f).get? p=some {cls:=.type "list",data:=.seq its'.toArray d }:=by rw[fb f j (by rw[g] <;> rfl),g]
 calc I.write (x:=p) (e:=p) (by rw[h];trivial) (.inl rQ) (λb u B q=>(hV _ _ (ie B)).trans q) ⟨_,e⟩ ?_;show⟨hz,its',d,r,e⟩
def aeT:V->V->V->Hp->(Hp->Prop)->Prop:=λo i v H Q=>∃p xs k j,o=.ref p/\i=.int k/\H p=some (.lst xs)/\GR xs.length k=some j/\Q (upd H p (.lst (xs.set j v)))
def set_list:W4 X aeT:=by
 intro ak s σ H o i v Z Y u Q I J N L h;let⟨p,xs,k,j,rfl,rfl,hp,M,q⟩:=h;cases J;let⟨t,rfl⟩:=N;let⟨its,n,r,g,hz⟩:=I.lst hp;let⟨h1,O,G,F⟩:=Oq M;let d:=r.length;let hn:=qZ;let B:aG X ak σ (upd H p (.lst (xs.set j v))) {s with heap:=s.heap.update p (Obj.mapSeq (·.setIfInBounds j u))}:=I.ac1 hp g (Rg its n j u) (r.set L j) (by rw[nV];show hz) s.toks
 by_cases D:0<=k
 .let hk:k.toNat=j:=by
   rw[seqIndex_of D F]at h1;show be h1
  show W.ki_setAt g D vT (by rw[bz,<-d];show F) (by rw[hk];show⟨_,B,q⟩)
 .let hk:(k+(its.toArray.size:Int)).toNat=j:=by
   rw[seqIndex_neg vT G]at h1;rw[bz,<-d];show be h1
  show W.ki_setBack g vT (by rw[bz,<-d];show G) vT (by rw[hk];show⟨_,B,q⟩)
def JN (lo hi:Option Int)(n:Nat):(sliceBounds lo hi none n).1=((HT.bN n 0 lo:Nat):Int)/\(sliceBounds lo hi none n).2.1=((HT.bN n n hi:Nat):Int)/\(sliceBounds lo hi none n).2.2=1:=by
 refine⟨?_,?_,rQ⟩
 .cases lo with
  | none=>simp[sliceBounds,HT.bN]
  | some i=>
   simp only[sliceBounds,HT.bN,Option.getD_none,show (1:Int) > 0 by decide,if_true];by_cases h:i<0
   .simp only[h,if_true] <;> grind
   .simp only[h,if_false] <;> grind
 .cases hi with
  | none=>simp[sliceBounds,HT.bN]
  | some i=>
   simp only[sliceBounds,HT.bN,Option.getD_none,show (1:Int) > 0 by decide,if_true];by_cases h:i<0
   .simp only[h,if_true] <;> lia
   .simp only[h,if_false] <;> lia
def Ir (its:List Value)(lo hi:Option Int):slicePick its.toArray lo hi none=((its.drop (HT.bN its.length 0 lo)).take (HT.bN its.length its.length hi-HT.bN its.length 0 lo)).toArray:=by let⟨h1,d,g⟩:=JN lo hi its.toArray.size;unfold slicePick;rw[h1,d,g];simp only[sliceRange_one,pick_run,bz] <;> rfl
def afv (K:W.Frag):V->Option Int->Option Int->Hp->VK->Prop:=λx lo hi H Q=>∃a xs,x=.ref a/\aP K H a xs/\∀p,H p=none->Q (.ref p) (upd H p (.lst (ig xs lo hi)))
def E_:T9 X (afv X.K):=by intro ak s σ H x v vl B lo hi sl Q I j hs pl g h;let⟨a,xs,rfl,hx,q⟩:=h;cases j;let⟨its,r,d,hz⟩:=I.list hx;let O:=r.length;calc⟨"list",_,slot_list_getitem.lookup,d.isList.typeIs,?_⟩;calc wpAny_getItem_list_slice d.isList hs pl g .none v0 ?_ (by rw[bz] <;> simp_all);rw[Ir,<-O];calc⟨.ref s.heap.objs.size,_,I.laid (t':=s.toks) (o:=.lst (ig xs lo hi)) (λb ob q=>ae _ q) (af _) ?_,rQ,q _ (I.hok.fresh (af _))⟩;show⟨aS (Aa xs lo hi) hz,_,0,(r.drop (HT.bN xs.length 0 lo)).take (HT.bN xs.length xs.length hi-HT.bN xs.length 0 lo),ap _ rQ⟩
def qF:V->Bool
 | .non=>true
 | .bl _=>true
 | .int _=>true
 | .str _=>true
 | _=>false
noncomputable def sS:V->V->Bool
 | .non,.non=>true
 | .bl a,.bl b=>a==b
 | .bl a,.int b=>(if a then 1 else 0)==b
 | .int a,.bl b=>a==(if b then 1 else 0)
 | .int a,.int b=>a==b
 | .str a,.str b=>a==b
 | _,_=>false
def ac2 {A:Around}{s:Shared}{y x:V}{u v:Value}(j:bD y u)(d:bD x v)(q:qF y=true)(g:qF x=true):SeqAt.EqAt A s u v (sS y x):=by
 cases y with
 | non=>
  cases j;cases x with
  | non=>cases d;show SeqAt.EqAt.same _
  | bl b=>cases d;show SeqAt.EqAt.none_bool b
  | int b=>let⟨t,rfl⟩:=d;show SeqAt.EqAt.none_int b t
  | str b=>let⟨t,rfl⟩:=d;show SeqAt.EqAt.none_str b t
  | _=>show absurd (show false=true from g) b6
 | bl a=>
  cases j;cases x with
  | non=>cases d;show SeqAt.EqAt.bool_none a
  | bl b=>cases d;show SeqAt.EqAt.bool_bool a b
  | int b=>let⟨t,rfl⟩:=d;show SeqAt.EqAt.bool_int a b t
  | str b=>let⟨t,rfl⟩:=d;show SeqAt.EqAt.bool_str a b t
  | _=>show absurd (show false=true from g) b6
 | int a=>
  let⟨t',rfl⟩:=j;cases x with
  | non=>cases d;show SeqAt.EqAt.int_none a t'
  | bl b=>cases d;show SeqAt.EqAt.int_bool a t' b
  | int b=>let⟨t,rfl⟩:=d;show mf a t' b t
  | str b=>let⟨t,rfl⟩:=d;show SeqAt.EqAt.int_str a t' b t
  | _=>show absurd (show false=true from g) b6
 | str a=>
  let⟨t',rfl⟩:=j;cases x with
  | non=>cases d;show SeqAt.EqAt.str_none a t'
  | bl b=>cases d;show SeqAt.EqAt.str_bool a t' b
  | int b=>let⟨t,rfl⟩:=d;show SeqAt.EqAt.str_int a t' b t
  | str b=>let⟨t,rfl⟩:=d;show SeqAt.EqAt.str_str a t' b t
  | _=>show absurd (show false=true from g) b6
 | _=>show absurd (show false=true from q) b6
noncomputable def Cq (x:V)(u:Value):Bool:=match u with| .none=>sS .non x| .bool b=>sS (.bl b) x| .int i _=>sS (.int i) x| .str z _=>sS (.str z) x| _=>false
def T_ {x y:V}{u:Value}(r:bD y u)(f:qF y=true):Cq x u=sS y x:=by
 cases y with
 | non=>cases r;rfl
 | bl b=>cases r;rfl
 | int i=>let⟨t,rfl⟩:=r;rfl
 | str z=>let⟨t,rfl⟩:=r;rfl
 | _=>show absurd (show false=true from f) b6
theorem Fb {x:V}:∀{xs:List V} {us:List Value},Vals xs us->xs.all qF=true->us.any (Cq x)=xs.any λy=>sS y x
 | _,_,.nil,_=>rfl
 | y::xs,u::us,.cons r t,f=>by rw[List.all_cons,c9]at f;rw[lT,lT,T_ r f.1,Fb t f.2]
theorem Aq {A:Around}{s:Shared}{x:V}{v:Value}(g:bD x v)(j:qF x=true):∀{xs:List V} {us:List Value},Vals xs us->xs.all qF=true->∀u∈us,SeqAt.EqAt A s u v (Cq x u)
 | _,_,.nil,_=>λu d=>by cases d
 | y::xs,u::us,.cons r t,f=>λq d=>by
  rw[List.all_cons,c9]at f;rcases a_.mp d with rfl|d;.rw[T_ r f.1];show ac2 r g f.1 j
  .show Aq g j t f.2 q d
def inV (x:V)(xs:List V):Bool:=xs.any λy=>sS y x
def rIn (K:W.Frag)(g:Bool):R2:=λx y H Q=>∃p xs,y=.ref p/\(aP K H p xs\/aU K H p xs)/\qF x=true/\xs.all qF=true/\Q (.bl (if g then !inV x xs else inV x xs)) H
def Ua:dY X (compareOp .In) (rIn X.K false):=by
 intro ak s σ H x y v u Q I j B h;let⟨p,xs,rfl,d,g,fs,q⟩:=h;cases B;rcases d with d|d
 .let⟨its,r,pl,hz⟩:=I.list d;calc SeqAt.in_listAt (Cq x) pl.isList (λw hw=>Aq j g r fs w (by simpa using hw)) ⟨.bl _,H,I,rQ,?_⟩;rw[show its.toArray.any (Cq x)=its.any (Cq x) by simp,Fb r fs];show q
 .let⟨its,r,pl,hz⟩:=I.tuple d;calc SeqAt.in_tupleAt (Cq x) pl (λw hw=>Aq j g r fs w (by simpa using hw)) ⟨.bl _,H,I,rQ,?_⟩;rw[show its.toArray.any (Cq x)=its.any (Cq x) by simp,Fb r fs];show q
def JQ:dY X (compareOp .NotIn) (λx y H Q=>∃i j,x=.str i/\y=.str j/\Q (.bl (!(!(Builtin.Str.occurrences j i 0 j.length 1).isEmpty))) H):=by intro ak s σ H x y v u Q I d g h;let⟨i,j,rfl,rfl,q⟩:=h;let⟨t,rfl⟩:=d;let⟨t',rfl⟩:=g;show notIn_str ⟨.bl _,H,I,rQ,q⟩
def cu:fU X (.builtin "len") (λxs H Q=>∃p ys,xs=[.ref p]/\(aP X.K H p ys\/aU X.K H p ys)/\Q (.int ys.length) H):=by
 intro ak s σ H xs us Q I r h;let⟨p,ys,rfl,d,q⟩:=h;let⟨u,rfl,j⟩:=vals1 r;cases j;let hn:=qZ;rcases d with d|d
 .let⟨its,g,pl,hz⟩:=I.list d;let O:=g.length;show Calls.call_len_list pl.isList (by simp only[bz] <;> lia) ⟨.int ys.length,H,I.tok _,⟨s.toks+1,by rw[bz,O]⟩,q⟩
 .let⟨its,g,pl,hz⟩:=I.tuple d;let O:=g.length;show len_tuple pl (by simp only[bz] <;> lia) ⟨.int ys.length,H,I.tok _,⟨s.toks+1,by rw[bz,O]⟩,q⟩
def JR:fU X (.builtin "len") (λxs H Q=>∃z,xs=[.str z]/\z.length<=sizeLine/\Q (.int z.length) H):=by intro ak s σ H xs us Q I r h;let⟨z,rfl,hz,q⟩:=h;let⟨u,rfl,t,rfl⟩:=vals1 r;let hn:=qZ;show len_str vT ⟨.int z.length,H,I.tok _,⟨_,rQ⟩,q⟩
def dO:fU X (.type "tuple") (λxs H Q=>∃p ys,xs=[.ref p]/\((aP X.K H p ys/\∀l,H l=none->Q (.ref l) (upd H l (.tup ys)))\/(aU X.K H p ys/\Q (.ref p) H))):=by
 intro ak s σ H xs us Q I r h;let⟨p,ys,rfl,h⟩:=h;let⟨u,rfl,D⟩:=vals1 r;cases D;rcases h with⟨d,q⟩|⟨d,q⟩
 .let⟨its,g,pl,hz⟩:=I.list d;let O:=g.length;calc call_tuple_list pl.isList (λh' kp=>?_) (by simp only[bz] <;> lia);let j:aG X ak σ H {s with heap:=h' }:=I.kept (t':=s.toks) kp;let B:aG X ak σ (upd H h'.objs.size (.tup ys)) {s with heap:=h'.push {cls:=.type "tuple",data:=.seq its.toArray} }:=
   j.laid (t':=s.toks) (λb o e=>ae _ e) (af _) (show dh X.prog X.w _ _ _ (.tup ys) from ⟨hz,its,g,IsTup.new _ _⟩)
  show⟨.ref h'.objs.size,_,B,rQ,q _ (j.hok.fresh (af _))⟩
 .let⟨its,g,pl,hz⟩:=I.tuple d;show call_tuple_same pl ⟨.ref p,H,I,rQ,q⟩
def tyV (K:W.Frag)(T:String)(x:V)(H:Hp):Prop:=match x with
 | .str _=>T="str"
 | .int _=>T="int"
 | .ref p=>(T="list"/\∃xs,aP K H p xs)\/(T="tuple"/\∃o,K.lookup p=some o/\o.cls=.type "tuple"/\o.dict=none)\/
   (T="dict"/\((∃kvs,H p=some (.dK kvs))\/∃kvs,H p=some (.dT kvs)))\/(T="set"/\∃S n,H p=some (.set S n))
 | _=>False
def Ub {ak:AC}{σ:St}{H:Hp}{s:Shared}{T:String}{x:V}{v:Value}(I:aG X ak σ H s)(r:bD x v)(ty:tyV X.K T x H):s.TypeIs v T/\∀a,v=.ref a->∃ob,s.heap.get? a=some ob/\ob.dict=none:=by
 cases x with
 | str z=>let⟨t,rfl⟩:=r;cases(show T="str" from ty);show⟨typeIs_str s z t,λ_ e=>nomatch e⟩
 | int i=>let⟨t,rfl⟩:=r;cases(show T="int" from ty);show⟨typeIs_int s i t,λ_ e=>nomatch e⟩
 | ref p=>
  cases r;rcases ty with⟨rfl,xs,q⟩|⟨rfl,o,hk,d,hd⟩|⟨rfl,hk⟩|⟨rfl,S,n,hk⟩
  .let⟨its,_,pl,_⟩:=I.list q;calc⟨pl.isList.typeIs,λa e=>?_⟩;cases e;let⟨o,n,e,c,hd,_⟩:=pl;show⟨o,e,hd⟩
  .calc⟨⟨o,I.jg p o hk,d⟩,λa e=>?_⟩;cases e;show⟨o,I.jg _ o hk,hd⟩
  .let z:∃o,s.heap.get? p=some o/\o.ExactDict:=by
    rcases hk with⟨kvs,hk⟩|⟨kvs,hk⟩
    .let⟨_,_,_,_,o,_,_,e,ex,_⟩:=I.hok p _ hk;show⟨o,e,ex⟩
    .let⟨_,_,_,_,o,_,_,e,ex,_⟩:=I.hok p _ hk;show⟨o,e,ex⟩
   let⟨o,e,ex⟩:=z;calc⟨⟨o,e,ex.1⟩,λa e2=>?_⟩;cases e2;show⟨o,e,ex.2.1⟩
  .let⟨o,_,_,_,e,ex,_⟩:=I.hok p _ hk;calc⟨⟨o,e,ex.1⟩,λa e2=>?_⟩;cases e2;show⟨o,e,ex.2.1⟩
 | _=>show False.elim ty
def ac3 (K:W.Frag)(T:String)(r:V->List V->Hp->VK->Prop)(to:TE):TE:=λσ H Q=>to σ H λx H1=>tyV K T x H1/\r x [] H1 Q
def Ot (K:W.Frag)(T:String)(r:V->List V->Hp->VK->Prop)(to:TE)(t:TA):TE:=λσ H Q=>to σ H λx H1=>tyV K T x H1/\t σ H1 λxs d=>r x xs d Q
variable {o e:Expr}{es:List Expr}{to:TE}{t:TA}{name:Str}{apos cpos:Pos}{T id:String}{r:V->List V->Hp->VK->Prop}
def ac4 (G:PlainAttrs T)(slot:Slot T name id)(j:typeOf (.builtin id)=pure (.type "method_descriptor"))(hm:sO X id r)(D:PE X o to)(d:attributeBase o name X.env (eval o X.env)=eval o X.env:=by rfl)(g:(apos.endLine==cpos.line)=true:=by rfl):PE X (.Call (.Attribute o name apos) [] [] cpos) (ac3 X.K T r to):=by intro ak s σ H Q I h;calc wpAny_Call_method0_late d g (bA (D ak s σ H _ I h) λv s1 F=>?_);let⟨x,H1,q,r1,ty,q1⟩:=F;let⟨h1,B⟩:=Ub q r1 ty;show⟨T,id,G,slot,j,h1,B,mE rQ (PySem.evalArgs_none (hm ak s1 σ H1 x [] v [] Q q r1 .nil q1))⟩
def aeU (Y:PlainAttrs T)(slot:Slot T name id)(B:typeOf (.builtin id)=pure (.type "method_descriptor"))(hm:sO X id r)(M:PE X o to)(ha:PA X (e::es) t)(g:attributeBase o name X.env (eval o X.env)=eval o X.env:=by rfl)(q:((backTo cpos (starEach (e::es) X.env)).all (λx=>!x.1)&&(backToKw cpos (keywordEach [] X.env)).all (λx=>x.1.isSome)
   && decide ((e::es).length+([]:List Keyword).length+(if ([]:List Keyword).isEmpty then 0 else 1)<30))=true:=by rfl)
  (j:(apos.endLine==cpos.line)=true:=by rfl) (hs:starEach (e::es) X.env=(false,eval e X.env)::starEach es X.env:=by rfl) (d:(backTo cpos (starEach es X.env)).any (·.1)=false:=by rfl) :
  PE X (.Call (.Attribute o name apos) (e::es) [] cpos) (Ot X.K T r to t):=by
 intro ak s σ H Q I h;calc wpAny_Call_method_late g q j rQ (bA (M ak s σ H _ I h) λv s1 N=>?_);let⟨x,H1,D,r1,ty,q1⟩:=N;let⟨h1,G⟩:=Ub D r1 ty;calc⟨T,id,Y,slot,B,h1,G,?_⟩;let F:=ha cpos ak s1 σ H1 _ D q1;rw[hs]at F ⊢;calc mE (by show (false||(backTo cpos (starEach es X.env)).any (·.1))=false;rw[d] <;> rfl) (Calls.evalArgs_plain ?_);show bA F λus s2 ⟨vs,O,J,L,q2⟩=>hm ak s2 σ O x vs v us Q J r1 L q2
end
def MtM (X:Cx)(id:String)(r:V->List V->Hp->VK->Prop):Prop:=∀(ak:AC) (s:Shared) (σ:St) (H:Hp) (x:V) (xs:List V) (v:Value) (us:List Value) (Q:VK),aG X ak σ H s->bD x v->Vals xs us->r x xs H Q->
  wpAny (model X.prog X.w) X.A (call (.builtin id) (v::us)) (EP X ak σ Q) X.xe s
theorem Vals.one:∀{x:V} {us:List Value},Vals [x] us->∃u,us=[u]/\bD x u
 | _,_,.cons r .nil=>⟨_,rQ,r⟩
theorem Vals.zero:∀{us:List Value},Vals [] us->us=[]
 | _,.nil=>rfl
section
variable {X:Cx}{ak:AC}{σ:St}{H:Hp}{s:Shared}{l:Addr}{xs ys:List V}
def aG.ac5 {its its':List Value}{n:Nat}{f:Array Value->Array Value}{t':Nat}(I:aG X ak σ H s)(g:H l=some (.lst xs))(e:s.heap.get? l=some {cls:=.type "list",data:=.seq its.toArray n})(B:f its.toArray=its'.toArray)(hv:Vals ys its')(hz:ys.length<=sizeLine)(F:s.toks<=t':=by first|show af _|assumption|show cx _|lia):aG X ak σ (upd H l (.lst ys)) {s with heap:=s.heap.update l (Obj.mapSeq f),toks:=t' }:=by let q:=PySem.IsL.update e f;rw[B]at q;calc I.write (x:=l) (e:=l) (by rw[g];show trivial) (.inl rQ) (λD u j d=>(hV s.heap (Obj.mapSeq f) (ie j)).trans d) ⟨_,q⟩ ?_;show⟨hz,its',_,hv,q⟩
def aG.ac6 {its:List Value}{t':Nat}(I:aG X ak σ H s)(hv:Vals ys its)(hz:ys.length<=sizeLine)(d:s.toks<=t':=by first|show af _|assumption|show cx _|lia):aG X ak σ (upd H s.heap.objs.size (.lst ys)) {s with heap:=s.heap.push {cls:=.type "list",data:=.seq its.toArray},toks:=t' }:=I.laid (λ_ _ q=>ae _ q) (af _) ⟨hz,its,0,hv,ap _ rQ⟩
def aG.fresh (I:aG X ak σ H s):H s.heap.objs.size=none:=I.hok.fresh (af _)
def aG.JT (I:aG X ak σ H s)(d:H l=some (.lst xs)):xs.length<=sizeLine/\∃(its:List Value) (n:Nat),Vals xs its/\xs.length=its.length/\s.heap.get? l=some {cls:=.type "list",data:=.seq its.toArray n}:=by let⟨z,its,n,r,e⟩:=I.hok l _ d;show⟨z,its,n,r,r.length,e⟩
def Xi {n:Nat}(h:n<=sizeLine):Builtin.List.listTooLong n=false:=by unfold Builtin.List.listTooLong;show al vT
end
section
variable {X:Cx}
def aaE:V->List V->Hp->VK->Prop:=λx vs H Q=>∃l xs y,x=.ref l/\vs=[y]/\H l=some (.lst xs)/\xs.length<sizeLine/\Q .non (upd H l (.lst (xs++[y])))
def ju:MtM X "list.append" aaE:=by intro ak s σ H x vs v us Q I B g h;let⟨l,xs,y,rfl,rfl,d,hz,q⟩:=h;cases B;let⟨u,rfl,j⟩:=g.one;let⟨z,its,n,r,D,e⟩:=I.JT d;calc call_meets F.slot_list_append ⟨_,e,rQ⟩ F.entry_list_append (F.args_list_append_2 _ _) (PySem.list_append l its.toArray n u (by rw[bz];simp_all)) ⟨e,?_⟩;calc⟨.non,_,I.ac5 (its':=its++[u]) d e v0 (r.append (.cons j .nil)) ?_,rQ,q⟩;rw[ar,List.length_singleton];show hz
def zf:V->List V->Hp->VK->Prop:=λx vs H Q=>∃l b xs d,x=.ref l/\vs=[.ref b]/\H l=some (.lst xs)/\H b=some (.lst d)/\xs.length+d.length<=sizeLine/\Q .non (upd H l (.lst (xs++d)))
def sV:MtM X "list.extend" zf:=by
 intro ak s σ H x vs v us Q I M B h;let⟨l,b,xs,Y,rfl,rfl,j,D,hz,q⟩:=h;cases M;let⟨u,rfl,G⟩:=B.one;cases G;let⟨z,its,n,r,Z,e⟩:=I.JT j;let⟨O,d,L,J,N,e2⟩:=I.JT D;let hsz:its.toArray.size+d.toArray.size<=sizeLine:=by rw[bz,bz];simp_all
 let g:¬(!its.toArray.isEmpty&&Builtin.List.listTooLong (its.toArray.size+d.toArray.size))=true:=by rw[Xi hsz,kG];show b6
 refine call_meets F.slot_list_extend ⟨_,e,rQ⟩ F.entry_list_extend (F.args_list_extend_2 _ _)
  (AutoSeq1.list_extend_list_list_0 l its.toArray n b d.toArray L g (by rw[bz];simp_all) (gz hsz)) ⟨e,e2,?_⟩
 calc⟨.non,_,I.ac5 (its':=its++d) j e v0 (r.append J) ?_,rQ,q⟩;rw[ar];show hz
def afw:R2:=λx y H Q=>∃l b xs d,x=.ref l/\y=.ref b/\H l=some (.lst xs)/\H b=some (.lst d)/\xs.length+d.length<=sizeLine/\∀p,H p=none->Q (.ref p) (upd H p (.lst (xs++d)))
def ac7:dY X (binaryOp .Add) afw:=by intro ak s σ H x y v u Q I G D h;let⟨l,b,xs,M,rfl,rfl,g,B,hz,q⟩:=h;cases G;cases D;let⟨z,its,n,r,N,e⟩:=I.JT g;let⟨L,d,O,F,J,e2⟩:=I.JT B;calc PySem.P.add_list e e2 ?_ (by rw[bz,bz];lia);let j:its.toArray++d.toArray=(its++d).toArray:=v0;rw[j];show⟨.ref _,_,I.ac6 (t':=s.toks) (r.append F) (by rw[ar];lia),rQ,q _ I.fresh⟩
end
section
variable {κ:Type}[DecidableEq κ]
def eZ (kvs:List (κ×V))(k:κ):Option V:=(kvs.find? λd=>decide (d.1=k)).map (·.2)
noncomputable def putK (kvs:List (κ×V))(k:κ)(v:V):List (κ×V):=if (kvs.any λd=>decide (d.1=k))=true then kvs.map (λd=>if d.1=k then (d.1,v) else d) else kvs++[(k,v)]
def gK {p:κ×V}{r:List (κ×V)}{k:κ}(e:p.1=k):eZ (p::r) k=some p.2:=by simp[eZ,mh,e]
def gM {p:κ×V}{r:List (κ×V)}{k:κ}(e:¬p.1=k):eZ (p::r) k=eZ r k:=by simp[eZ,mh,e]
theorem oG (k:κ):∀kvs:List (κ×V),(kvs.any λd=>decide (d.1=k))=(eZ kvs k).isSome
 | []=>rfl
 | p::r=>by
  rw[lT];by_cases e:p.1=k;.simp only[gK e,aw e,Bool.true_or,Option.isSome_some]
  .rw[gM e,al e,Bool.false_or];show oG k r
theorem JV (k j:κ)(y:V):∀kvs:List (κ×V),eZ (kvs.map λd=>if d.1=k then (d.1,y) else d) j=(eZ kvs j).map λx=>if j=k then y else x
 | []=>rfl
 | p::r=>by
  let g:=JV k j y r;rw[bX];by_cases h:p.1=k
  .rw[if_pos h];by_cases e:p.1=j;.rw[gK (p:=(p.1,y)) e,gK e,sd,if_pos (e.symm.trans h)]
   .rw[gM (p:=(p.1,y)) e,gM e,g]
  .rw[if_neg h];by_cases e:p.1=j;.rw[gK (p:=p) e,gK e,sd,if_neg (λz=>h (e.trans z))]
   .rw[gM (p:=p) e,gM e,g]
theorem GZ (k j:κ)(y:V):∀kvs:List (κ×V),eZ kvs k=none->eZ (kvs++[(k,y)]) j=if j=k then some y else eZ kvs j
 | [],_=>by
  by_cases e:k=j;.rw[if_pos e.symm];show gK (p:=(k,y)) e
  .rw[if_neg (λz=>e z.symm)];show gM (p:=(k,y)) e
 | p::r,hn=>by
  rw[List.cons_append];let hk:¬p.1=k:=λz=>by rw[gK z]at hn;cases hn
  rw[gM hk]at hn;let d:=GZ k j y r hn;by_cases e:p.1=j;.rw[gK e,gK e,if_neg (λz=>hk (e.trans z))]
  .rw[gM e,gM e,d]
def Xj (kvs:List (κ×V))(k j:κ)(y:V):eZ (putK kvs k y) j=if j=k then some y else eZ kvs j:=by
 unfold putK;by_cases a:(kvs.any λd=>decide (d.1=k))=true
 .rw[if_pos a,JV];rw[oG]at a;by_cases e:j=k
  .let⟨x,hx⟩:=Option.isSome_iff_exists.mp a;rw[if_pos e,e,hx,sd,if_pos rfl]
  .rw[if_neg e];cases eZ kvs j with| none=>rfl| some x=>rw[sd,if_neg e]
 .rw[if_neg a];calc GZ k j y kvs ?_;rw[oG]at a;cases q:eZ kvs k with| none=>rfl| some x=>rw[q]at a;show(a rQ).elim
def Ab (kvs:List (κ×V))(k:κ)(v:V):(putK kvs k v).length<=kvs.length+1:=by
 unfold putK;split;.rw[ab];lia
 .rw[ar,bu,se];lia
def Xk {kvs:List (κ×V)}{k:κ}(v:V)(h:eZ kvs k=none):putK kvs k v=kvs++[(k,v)]:=by unfold putK;rw[oG,h];show if_neg v_
def lJ.xP {o:Option V}{u:Option Value}(r:lJ o u):o.isSome=u.isSome:=by
 cases o with
 | none=>cases u with| none=>rfl| some _=>show(show False from r).elim
 | some _=>cases u with| none=>show(show False from r).elim| some _=>rfl
def KV.val {kvs:List (κ×V)}{vs:List (κ×Value)}(r:KV kvs vs)(k:κ):lJ (eZ kvs k) (valueAt vs k):=by
 unfold KV at r
 induction r with
 | nil=>show True.intro
 | @cons p q ps qs h t ih=>
  let⟨h1,g⟩:=h;by_cases e:p.1=k
  .let d:q.1=k:=h1.symm.trans e;let b:valueAt (q::qs) k=some q.2:=by simp[valueAt,mh,d]
   rw[gK e,b];show g
  .let d:¬q.1=k:=λz=>e (h1.trans z)
   let b:valueAt (q::qs) k=valueAt qs k:=by simp[valueAt,mh,d]
   rw[gM e,b];show ih
def KV.any {kvs:List (κ×V)}{vs:List (κ×Value)}(r:KV kvs vs)(k:κ):(kvs.any λd=>decide (d.1=k))=vs.any λd=>decide (d.1=k):=by
 unfold KV at r
 induction r with| nil=>rfl| cons h t ih=>rw[lT,lT,ih,h.1]
def KV.repl {kvs:List (κ×V)}{vs:List (κ×Value)}(r:KV kvs vs)(k:κ){y:V}{u:Value}(j:bD y u):KV (kvs.map λd=>if d.1=k then (d.1,y) else d) (vs.map λd=>if d.1=k then (d.1,u) else d):=by
 unfold KV at r ⊢
 induction r with
 | nil=>show .nil
 | @cons p q ps qs h t ih=>
  rw[bX,bX];calc .cons ?_ ih;let⟨h1,g⟩:=h;by_cases e:p.1=k;.rw[if_pos e,if_pos (h1.symm.trans e)];show⟨h1,j⟩
  .rw[if_neg e,if_neg (λz=>e (h1.trans z))];show⟨h1,g⟩
def KV.put {kvs:List (κ×V)}{vs:List (κ×Value)}(r:KV kvs vs)(k:κ){y:V}{u:Value}(d:bD y u):KV (putK kvs k y) (stored vs k u):=by
 unfold putK stored;rw[r.any k];by_cases e:(vs.any λg=>decide (g.1=k))=true;.rw[if_pos e,if_pos e];show r.repl k d
 .rw[if_neg e,if_neg e];show Paired.snoc r ⟨rQ,d⟩
def KV.keys {kvs:List (κ×V)}{vs:List (κ×Value)}(r:KV kvs vs):kvs.map (·.1)=vs.map (·.1):=by
 unfold KV at r
 induction r with| nil=>rfl| cons h t ih=>rw[bX,bX,ih,h.1]
def KV.length {kvs:List (κ×V)}{vs:List (κ×Value)}(r:KV kvs vs):kvs.length=vs.length:=Paired.length r
end
def Jq {P:Program}{w:World}{k:Key}{u:Value}(r:bD (kV k) u):(cQ P w).is k u=true:=by
 cases k with
 | inl i=>let⟨t,e⟩:=(show ∃t,u=Value.int i t from r);subst e;show M_ P w i t
 | inr x=>let⟨t,e⟩:=(show ∃t,u=Value.str x t from r);subst e;show Nb P w x t
theorem G3 {P:Program}{w:World}:∀{ks:List Key} {us:List Value},Vals (ks.map kV) us->ItemsAre (cQ P w) ks us
 | [],_,r=>by rw[kM]at r;cases r;show .nil
 | k::ks,_,r=>by
  rw[bX]at r;cases r with| cons h t=>show .cons (Jq h) (G3 t)
abbrev KT (H:Hp):List (List Key×V)->List (List Key×Addr×Value)->Prop:=Paired λp q=>p.1=q.1/\H q.2.1=some (.tup (p.1.map kV))/\bD p.2 q.2.2
def KT.val {H:Hp}{kvs:List (List Key×V)}{xs:List (List Key×Addr×Value)}(r:KT H kvs xs)(k:List Key):lJ (eZ kvs k) ((atKey xs k).map (·.2)):=by
 induction r with
 | nil=>show True.intro
 | @cons p q ps qs h t ih=>
  let⟨h1,_,g⟩:=h;by_cases e:p.1=k
  .let d:q.1=k:=h1.symm.trans e;let b:atKey (q::qs) k=some q.2:=by simp[atKey,mh,d]
   rw[gK e,b];show g
  .let d:¬q.1=k:=λz=>e (h1.trans z)
   let b:atKey (q::qs) k=atKey qs k:=by simp[atKey,mh,d]
   rw[gM e,b];show ih
def KT.repl {H:Hp}{kvs:List (List Key×V)}{xs:List (List Key×Addr×Value)}(r:KT H kvs xs)(k:List Key){y:V}{u:Value}(B:bD y u):KT H (kvs.map λd=>if d.1=k then (d.1,y) else d) (xs.map (putAt k u)):=by
 induction r with
 | nil=>show .nil
 | @cons p q ps qs h t ih=>
  rw[bX,bX];calc .cons ?_ ih;let⟨h1,g,j⟩:=h;unfold putAt;by_cases e:p.1=k;.rw[if_pos e,if_pos (h1.symm.trans e)];show⟨h1,g,B⟩
  .rw[if_neg e,if_neg (λz=>e (h1.trans z))];show⟨h1,g,j⟩
def KT.put {H:Hp}{kvs:List (List Key×V)}{xs:List (List Key×Addr×Value)}(r:KT H kvs xs)(k:List Key){b:Addr}{y:V}{u:Value}(g:H b=some (.tup (k.map kV)))(d:bD y u):KT H (putK kvs k y) (storedH xs k b u):=by
 let e:(kvs.any λj=>decide (j.1=k))=(atKey xs k).isSome:=by rw[oG,(r.val k).xP,Option.isSome_map]
 unfold putK storedH;rw[e];by_cases q:(atKey xs k).isSome=true;.rw[if_pos q,if_pos q];show r.repl k d
 .rw[if_neg q,if_neg q];show Paired.snoc r ⟨rQ,g,d⟩
def KT.keeps {H H':Hp}{kvs:List (List Key×V)}{xs:List (List Key×Addr×Value)}(r:KT H kvs xs)(d:∀b ys,H b=some (.tup ys)->H' b=some (.tup ys)):KT H' kvs xs:=Paired.WX r λ_ _ z=>⟨z.1,d _ _ z.2.1,z.2.2⟩
section
variable {P:Program}{w:World}{H:Hp}{h:Heap}{a:Addr}
def Zu {u:HO}(ok:iB P w H h)(e:Rd H a u):dh P w H h a u:=e.ok ok
def Jr {kvs:List (Key×V)}(ok:iB P w H h)(e:Rd H a (.dK kvs)):kvs.length<=sizeLine/\(a==sysModules)=false/\∃vs,KV kvs vs/\h.DictOf (cQ P w) a vs:=show dh P w H h a (.dK kvs) from Zu ok e
def Rh {kvs:List (Key×V)}(ok:iB P w H h)(e:H a=some (.dK kvs)):kvs.length<=sizeLine/\(a==sysModules)=false/\∃vs,KV kvs vs/\h.DictOf (cQ P w) a vs:=Jr ok (.inl e)
def Cr {ks:List Key}(ok:iB P w H h)(e:H a=some (.tup (ks.map kV))):(tupleKind (cQ P w)).is h ks a:=by
 let⟨_,its,r,o,h1,d,n,g⟩:=(show dh P w H h a (.tup (ks.map kV)) from ok a _ e)
 show⟨o,its.toArray,n,h1,d,g,by simpa using G3 r⟩
def Js {kvs:List (List Key×V)}(ok:iB P w H h)(e:Rd H a (.dT kvs)):kvs.length<=sizeLine/\(a==sysModules)=false/\
  ∃xs,KT H kvs xs/\h.DictOfH (tupleKind (cQ P w)) a xs:=by
 let⟨z,y,xs,r,o,es,ep,h1,d,B,j,g⟩:=(show dh P w H h a (.dT kvs) from Zu ok e)
 calc⟨z,y,xs,r,o,es,ep,h1,d,B,j,λx hx=>?_,g⟩;let all:∀{l:List (List Key×V)} {m:List (List Key×Addr×Value)},KT H l m->∀x∈m,(tupleKind (cQ P w)).is h x.1 x.2.1:=by
  intro l m q
  induction q with
  | nil=>intro x hx;show nomatch hx
  | @cons p q ps qs hq t ih=>
   intro x hx;rcases a_.mp hx with e|hx
   .subst e;show Cr ok (by rw[<-hq.1];show hq.2.1)
   .show ih x hx
 show all r x hx
def aeW {kvs:List (List Key×V)}(ok:iB P w H h)(e:H a=some (.dT kvs)):kvs.length<=sizeLine/\(a==sysModules)=false/\
  ∃xs,KT H kvs xs/\h.DictOfH (tupleKind (cQ P w)) a xs:=Js ok (.inl e)
end
def rA (H:Hp)(a:Addr)(y:V)(r:Option V):Prop:=(∃kvs k,Rd H a (.dK kvs)/\y=kV k/\r=eZ kvs k)\/∃kvs k b,Rd H a (.dT kvs)/\y=.ref b/\H b=some (.tup (k.map kV))/\r=eZ kvs k
def t_ (H:Hp)(a:Addr)(y v:V)(H':Hp):Prop:=(∃kvs k,H a=some (.dK kvs)/\y=kV k/\kvs.length<sizeLine/\H'=upd H a (.dK (putK kvs k v)))\/
 ∃kvs k b,H a=some (.dT kvs)/\y=.ref b/\H b=some (.tup (k.map kV))/\kvs.length<sizeLine/\H'=upd H a (.dT (putK kvs k v))
theorem rA.k {H:Hp}{a:Addr}{kvs:List (Key×V)}{k:Key}(e:H a=some (.dK kvs)):rA H a (kV k) (eZ kvs k):=.inl ⟨kvs,k,.inl e,rQ,rQ⟩
def rA.t {H:Hp}{a b:Addr}{kvs:List (List Key×V)}{k:List Key}(e:H a=some (.dT kvs))(d:H b=some (.tup (k.map kV))):rA H a (.ref b) (eZ kvs k):=.inr ⟨kvs,k,b,.inl e,rQ,d,rQ⟩
theorem t_.k {H:Hp}{a:Addr}{kvs:List (Key×V)}{k:Key}{v:V}(e:H a=some (.dK kvs))(d:kvs.length<sizeLine):t_ H a (kV k) v (upd H a (.dK (putK kvs k v))):=.inl ⟨kvs,k,e,rQ,d,rQ⟩
def t_.t {H:Hp}{a b:Addr}{kvs:List (List Key×V)}{k:List Key}{v:V}(e:H a=some (.dT kvs))(d:H b=some (.tup (k.map kV)))(g:kvs.length<sizeLine):t_ H a (.ref b) v (upd H a (.dT (putK kvs k v))):=.inr ⟨kvs,k,b,e,rQ,d,g,rQ⟩
section
variable {X:Cx}{ak:AC}{σ:St}{H:Hp}{s:Shared}{a:Addr}{y v:V}{u r:Value}{o:Option V}{A:Around}{E:AB}
def aG.big (I:aG X ak σ H s):sysModules<s.heap.objs.size:=by let h:mainGlobals<s.heap.objs.size:=(I.mod.glob.keeps I.bk).lt;show jn v_ h
def Uc {Q:AB}(L:A.units+1<cLine)(I:aG X ak σ H s)(g:rA H a y (some v))(G:bD y u)(h:∀j s',aG X ak σ H s'->bD v j->Q j s'):wpAny (model X.prog X.w) A (getItem (.ref a) u) Q E s:=by
 rcases g with⟨kvs,k,e,B,l⟩|⟨kvs,k,b,e,B,J,l⟩
 .subst B;let⟨z,hd,vs,d,q⟩:=Jr I.hok e;let⟨j,hw,F⟩:=lJ.some_of (v:=v) (o:=valueAt vs k) (by rw[l];show d.val k);show wpAny_getItem_of (Jq G) q.mapOf hw (h j _ (I.tok _) F)
 .subst B;cases(show u=Value.ref b from G);let⟨z,hd,xs,d,q⟩:=Js I.hok e;let⟨j,hw,F⟩:=lJ.some_of (v:=v) (o:=(atKey xs k).map (·.2)) (by rw[l];show d.val k);let⟨p,hp,D⟩:=fz.mp hw;calc wpAny_getItem_heap (tupleKind_room_in1 L) (Cr I.hok J) q hp ?_;rw[D];show h j _ (I.tok _) F
def afx {Q:AB}(G:A.units+1<cLine)(I:aG X ak σ H s)(g:rA H a y o)(D:bD y u)(h:∀s',aG X ak σ H s'->Q (.bool o.isSome) s'):wpAny (model X.prog X.w) A (compareOp .In u (.ref a)) Q E s:=by
 rcases g with⟨kvs,k,e,B,l⟩|⟨kvs,k,b,e,B,F,l⟩
 .subst B;let⟨z,hd,vs,d,j⟩:=Jr I.hok e;calc wpAny_in_of (Jq D) hd j.mapOf ?_;rw[<-(d.val k).xP,<-l];show h _ (I.tok _)
 .subst B;cases(show u=Value.ref b from D);let⟨z,hd,xs,d,j⟩:=Js I.hok e;calc wpAny_in_heap (tupleKind_room_in1 G) (Cr I.hok F) hd j ?_;let q:=(d.val k).xP;rw[Option.isSome_map]at q;rw[<-q,<-l];show h _ (I.tok _)
def Ou {h':Heap}{t':Nat}{ob:HO}(I:aG X ak σ H s)(D:Tg (H a))(hs:Heap.SameBut a s.heap h')(j:∃q,h'.get? a=some q)(d:dh X.prog X.w (upd H a ob) h' a ob)(g:s.toks<=t':=by first|show af _|assumption|show cx _|lia)(B:Gy ob t':=by trivial):aG X ak σ (upd H a ob) {s with heap:=h',toks:=t' }:=I.write (x:=a) (e:=a) D (.inl rQ) (λb q F z=>(hs.2 b F).trans z) j d g B
def ac8 {P:Program}{w:World}{H':Hp}{h':Heap}{kvs:List (Key×V)}{vs:List (Key×Value)}(z:kvs.length<=sizeLine)(hd:(a==sysModules)=false)(d:KV kvs vs)(g:h'.DictOf (cQ P w) a vs):dh P w H' h' a (.dK kvs):=⟨z,hd,vs,d,g⟩
def Ud {H':Hp}{Q:Unit->Shared->Prop}(O:A.units+1<cLine)(I:aG X ak σ H s)(g:t_ H a y v H')(M:bD y u)(L:bD v r)(h:∀s',aG X ak σ H' s'->Q () s'):wpAny (model X.prog X.w) A (setItem (.ref a) u r) Q E s:=by
 rcases g with⟨kvs,k,e,F,l,G⟩|⟨kvs,k,b,e,F,J,l,G⟩
 .subst F G;let⟨z,hd,vs,d,B⟩:=Rh I.hok e;let hz:vs.length<=sizeLine:=by rw[<-d.length];show z
  let D:(putK kvs k v).length<=sizeLine:=by have:=Ab kvs k v;lia
  calc wpAny_setItem_pairs (hsz:=hz) (Jq M) B λh' Z hs=>h _ ?_;let he:∃q,h'.get? a=some q:=let ⟨q,_,_,j,_⟩:=Z;⟨q,j⟩
  show Ou I (by rw[e];show True.intro) hs he (ac8 D hd (d.put k L) Z)
 .subst F G;cases(show u=Value.ref b from M);let⟨z,hd,xs,d,B⟩:=aeW I.hok e;let hz:xs.length<=sizeLine:=by rw[<-Paired.length d];show z
  let D:(putK kvs k v).length<=sizeLine:=by have:=Ab kvs k v;lia
  calc wpAny_setItem_heap (hsz:=hz) (tupleKind_room_in1 O) (Cr I.hok J) B λh' Z hs=>h _ ?_;let⟨q,es,ep,j,Y,h3,h4,_,h5⟩:=Z;calc Ou I (by rw[e];show True.intro) hs ⟨q,j⟩ ⟨D,hd,_,(d.put k J L).keeps λc ys N=>?_,q,es,ep,j,Y,h3,h4,h5⟩;rw[aY (aeJ N e (λz=>nomatch z))];show N
end
def Xl (i:Expr):Prop:=∀d g,subscripted i false d g=operate [d,g] (getItem d g)
def aaF {prog:Program}{w:World}{A:Around}{E:AB}{s:Shared}{env:Env}{value d:Expr}{pos:Pos}{T id:String}{Q:AB}(G:typeLookup (.type T) "__getitem__"=pure (some (.builtin id)))(hs:Xl d)(h:wpAny (model prog w) A (eval value env) (λo F=>wpAny (model prog w) A (eval d env) (λi j=>j.TypeIs o T/\wpAny (model prog w) A (getItem o i) Q E j) E F) E s):wpAny (model prog w) A (eval (.Subscript value d pos) env) Q E s:=by
 calc Subscript_ (eW h (λo F J=>eW J (λi j q=>?_) λ_ _ x=>x) λ_ _ x=>x);let⟨B,q⟩:=q;unfold subscriptTail;calc aa ?_;rw[getitemInPython_of_ne B.not_modules];calc aa (ml B G ?_);let g:wpAny (model prog w) A (subscripted d false o i) (λr D=>wpAny (model prog w) A (letTemporaryGo value o r >>= λ_=>pure r) Q E D) E j:=by rw[hs o i];show wpAny_operating (eW q (λr D L=>aa (wpAny_letTemporaryGo (ag L))) λ_ _ x=>x)
 first| show ag (aa g)| show aa (ag (aa g))| show aa g
def Ng {X:Cx}{ak:AC}{σ:St}{H:Hp}{s:Shared}{a:Addr}{y:V}{o:Option V}(I:aG X ak σ H s)(g:rA H a y o):s.TypeIs (.ref a) "dict":=by
 rcases g with⟨kvs,k,e,_,_⟩|⟨kvs,k,b,e,_,_,_⟩
 .let⟨_,_,vs,_,d⟩:=Jr I.hok e;show d.typeIs
 .let⟨_,_,xs,_,d⟩:=Js I.hok e;show d.typeIs
def Zw (td ty:TE):TE:=λσ H Q=>td σ H λx H1=>ty σ H1 λy d=>∃a v,x=.ref a/\rA d a y (some v)/\Q v d
def ac9 (ty td:TE):TE:=λσ H Q=>ty σ H λy H1=>td σ H1 λx d=>∃a o,x=.ref a/\rA d a y o/\Q (.bl o.isSome) d
def Zx (td ty tv:TE):TS:=λD σ H=>tv σ H λv H1=>td σ H1 λx g=>ty σ g λy j=>∃a d,x=.ref a/\t_ j a y v d/\D.nx σ d
section
variable {X:Cx}{o i value:Expr}{pos pos':Pos}{td ty tv:TE}
def aaG (q:X.A.units+1<cLine)(F:PE X o td)(hi:PE X i ty)(hs:Xl i):PE X (.Subscript o i pos) (Zw td ty):=by intro ak s σ H Q I h;calc aaF PySem.F.slot_dict_getitem.lookup hs (bA (F ak s σ H _ I h) λu s1 d=>?_);let⟨x,H1,B,L,q1⟩:=d;calc bA (hi ak s1 σ H1 _ B q1) λN s2 d=>?_;let⟨y,M,j,D,a,v,ex,g,q2⟩:=d;subst ex;obtain rfl:u=Value.ref a:=L;show⟨Ng j g,Uc q j g D λO Y G J=>⟨v,M,G,J,q2⟩⟩
def ac_ (j:X.A.units+1<cLine)(hi:PE X i ty)(F:PE X o td):PC X .In i o (ac9 ty td):=by intro ak s σ H Q I h;calc bA (hi ak s σ H _ I h) λN s1 d=>?_;let⟨y,H1,q,B,q1⟩:=d;calc bA (F ak s1 σ H1 _ q q1) λu s2 d=>?_;let⟨x,M,D,J,a,L,ex,g,q2⟩:=d;subst ex;obtain rfl:u=Value.ref a:=J;show afx j D g B λO G=>⟨.bl L.isSome,M,G,rQ,q2⟩
def aaH (j:X.A.units+1<cLine)(J:PE X o td)(hi:PE X i ty)(hv:PE X value tv)(hs:swapsWith value (some (.Subscript o i pos')) pos.line X.env=pure false):PS X (.Assign [.Subscript o i pos'] value pos) (Zx td ty tv):=by intro ak s σ H D I h;calc wpAny_Assign_Subscript (bA (hv ak s σ H _ I h) λr s1 d=>?_) hs;let⟨v,H1,q,B,q1⟩:=d;calc bA (J ak s1 σ H1 _ q q1) λu s2 d=>?_;let⟨x,O,G,N,q2⟩:=d;calc bA (hi ak s2 σ O _ G q2) λiv s3 d=>?_;let⟨y,Z,L,F,a,M,ex,g,q3⟩:=d;subst ex;obtain rfl:u=Value.ref a:=N;show Ud j L g F B λs4 Y=>⟨σ,M,Y,q3⟩
end
def Xm {P:Program}{w:World}{H:Hp}(h:Heap)(d:sysModules<h.objs.size):dh P w H (h.push {cls:=.type "dict",data:=.dict #[]}) h.objs.size (.dK []):=⟨cn _,beq_eq_false_iff_ne.mpr (ie (bb d)),[],.nil,Heap.DictOf.new h⟩
def Xn {P:Program}{w:World}{H:Hp}(h:Heap)(d:sysModules<h.objs.size):dh P w H (h.push {cls:=.type "dict",data:=.dict #[]}) h.objs.size (.dT []):=⟨cn _,beq_eq_false_iff_ne.mpr (ie (bb d)),[],.nil,_,#[],0,ap _ rQ,⟨rQ,rQ,rQ⟩,rQ,rQ,nw⟩
def Ue:TE:=λ_ H Q=>∀p,H p=none->Q (.ref p) (upd H p (.dK []))
def Ug:TE:=λ_ H Q=>∀p,H p=none->Q (.ref p) (upd H p (.dT []))
section
variable {X:Cx}{pos:Pos}
def Xo:PE X (.Dict [] [] pos) Ue:=λak s σ H Q I h=>wpAny_Dict_empty ⟨.ref s.heap.objs.size,_,I.laid (a:=s.heap.objs.size) (o:=.dK []) (t':=s.toks) (λ_ _ q=>ae _ q) (af _) (Xm s.heap I.big),rQ,h _ (I.hok.fresh (af _))⟩
def Xp:PE X (.Dict [] [] pos) Ug:=λak s σ H Q I h=>wpAny_Dict_empty ⟨.ref s.heap.objs.size,_,I.laid (a:=s.heap.objs.size) (o:=.dT []) (t':=s.toks) (λ_ _ q=>ae _ q) (af _) (Xn s.heap I.big),rQ,h _ (I.hok.fresh (af _))⟩
end
end L2
namespace Att
open PySem PySem.W PySem.Calls PyProof.Rows
def Cu {P:Params}{h:Heap}:∀(ns:List Int) (vs:List Value),WellAll P h vs (ns.map WData.int)->IntsAre vs ns:=by
 intro ns
 induction ns with
 | nil=>intro vs w;rw[kM]at w;cases w;show .nil
 | cons n ns ih=>
  intro vs w;rw[bX]at w;cases w with| cons a b=>cases a;show .cons _ _ (ih _ b)
def Uh {l:OpenLaw}{n:Nat}(hn:l.most=some n){P:Params}{h:Heap}{args:List WData}{g:List Value}(j:l.row.toRowW.claim.pre args=true)(G:WellAll P h g args):∃a vs ns,g=[Value.ref a]/\args=[WData.list (ns.map WData.int)]/\h.get? a=some {cls:=.type "list",data:=.seq vs.toArray}/\IntsAre vs ns/\ns.length<=n:=by
 let F:WShape.hasAll [] args [.list .int]=true:=(pre_splitW j).1;let J:l.pre.holds [] {args:=args}=true:=(pre_splitW j).2;let⟨d,r,rfl,h1,L⟩:=hasAllW_cons F;obtain rfl:=hasAllW_nil L;let⟨xs,rfl,M⟩:=hasW_list h1;let⟨ns,rfl⟩:=items_int M;let O:ns.length<=n:=by
  unfold OpenLaw.pre at J;let D:(WTm.not (.lt (.lit (.int (n:Int))) (.len (.arg 0)))).holds [] {args:=[.list (ns.map .int)]}=true:=by let D:=(holds_andW J).1;rw[hn]at D;show D
  let B:=condW_of D (w_not (w_lt w_lit (w_len_list (w_arg rQ))));rw[ab]at B;calc Nat.le_of_not_lt λq=>?_;let N:(n:Int)<((ns.length:Nat):Int):=ph hG q
  first| (rw[aw N]at B;show absurd B v_)| (simp at B;lia)
 cases G with
 | cons w1 w2=>
  cases w2;cases w1 with| list ho hall=>show⟨_,_,ns,rQ,rQ,ho,Cu ns _ hall,O⟩
def Ui (l:OpenLaw)(args:List WData):l.row.toRowW.claim.post args (.bool true) args=true:=postW_of (r:=l.row.toRowW) (X:=(true==true))
  (show WShape.has [] (.bool true) .bool=true by first|rfl|decide|simp[WShape.has,WShape.arms,WShape.armsAll])
  (show (WTm.eq .res (.lit (.bool true))).value [] {args:=args,res:=some (.bool true),after:=args}=some (.bool (true==true)) from w_eq_bool (w_res rQ) w_lit) rfl
def Nh {l:OpenLaw}{n:Nat}{q:Program}{g:List Str}{XP:(Str->Option Value)->Heap->Prop}{YP:World->Heap->Prop}{d:DefRec}(hn:l.most=some n)(M:d.params.defaults=[])(call:∀(w:World) (s₀ j:Shared) (mg mb:Str->Option Value) (D:Addr) (o:Obj) (pm L doc:Value) (a:Addr) (vs:List Value) (ns:List Int),
   Ground q g [] XP w s₀ mg mb j.heap->YP w j.heap->
   j.heap.get? D=some o->o.data=.func (docDef d.name d.params d.body d.scope pm L doc)->j.heap.CodeRec L d.name->mg d.name=some (.ref D)->
   j.heap.get? a=some {cls:=.type "list",data:=.seq vs.toArray}->IntsAre vs ns->ns.length<=n->j.gens=#[]->
   codeAny (model l.prog w) callerA (.call (.ref D) ⟨[.ref a],[]⟩) (λr s'=>r=.ok (.ret (.bool true))/\OldK j.heap s'.heap/\s'.os=j.os/\AllBare s'.gens) j) :
  WalkO q g XP YP l.row.toRowW d [] (λf vs=>PySem.call f vs):=by
 intro w s₀ j mg mb G Y D o pm L doc dV kV ho hd O hD N hg args vals as F hlay hrd Z hlo;obtain rfl:dV=.none:=Dflts.none hD M;obtain rfl:kV=.none:=Dflts.noKw hD;let⟨a,vs,ns,rfl,rfl,J,B,bO⟩:=Uh hn F Z;calc enter_call (iA (call w s₀ j mg mb D o pm L doc a vs ns G Y ho (fd_plain hd) O N J B bO hg) λr s' hq=>?_);let⟨rfl,h2,h3,h4⟩:=hq;show⟨.inl ⟨.bool true,.bool true,[],rQ,λ_=>rfl,.bool true,Ui l _,λ_=>⟨List.Pairwise.nil,λ_ hm=>(nomatch hm)⟩⟩,h2,h3,h4⟩
end Att
namespace L2
open PySem PySem.Spec PyProof.Rows
theorem G4:∀{vs:List Value} {ns:List Int},IntsAre vs ns->Vals (ns.map V.int) vs
 | _,_,.nil=>.nil
 | _,_,.cons n t h=>.cons ⟨t,rQ⟩ (G4 h)
theorem Ov:∀{vs:List Value} {ns:List Int},IntsAre vs ns->∀x t,Value.str x t∉vs
 | _,_,.nil,_,_,z=>by simp at z
 | _,_,.cons n t h,x,u,z=>by
  rcases a_.mp z with z|z;.cases z
  .show Ov h x u z
def Uj {vs:List Value}{ns:List Int}{n:Nat}(h:IntsAre vs ns):qC {cls:=.type "list",data:=.seq vs.toArray} n:=λx t z=>absurd (by simpa using z) (Ov h x t)
def Only (H:Hp):Prop:=∀b,H b=none\/∃o xs,H b=some (.cH o (.lst xs))
def Xq {P:Program}{w:World}{K:W.Frag}{mg mb:Str->Option Value}{CX:pI}{k:Nat}{fa a:Addr}{fd:FuncData}{x:Str}{sp:Sp}{g:Shared}{vs:List Value}{ns:List Int}(KX:K.In g.heap)(G:g.heap.Ns mainGlobals mg)(j:g.heap.Ns builtinsNs mb)(hbb:∀x:Str,x≠"__name__"->mb x=bootBuiltins x)(N:g.heap.NoLimit)(hg:g.gens=#[])(ha:g.heap.get? a=some {cls:=.type "list",data:=.seq vs.toArray})(hi:IntsAre vs ns)(hl:ns.length<=sizeLine)(hr:cW k callerA)(F:∀base:Heap,K.In base->base.Ns mainGlobals mg->nG P w K mg base CX k fa fd [x] sp)(D:∀(s:Shared) (u:Value),BindsTo s fd ⟨[u],[]⟩ [(x,u)])(hsp:∀H:Hp,Only H->aP K H a (ns.map V.int)->sp [.ref a] H (λv _=>v=.bl true) λ_ _ _=>False)(hCX:∀H e s',CX [] H g (λ_ _ _=>False) e s'->False):codeAny (model P w) callerA (.call (.ref fa) ⟨[.ref a],[]⟩) (λr s'=>r=.ok (.ret (.bool true))/\OldK g.heap s'.heap/\s'.os=g.os/\AllBare s'.gens) g:=by
 let rv:=G4 hi;let J:=hi.length;let B:∀H:Hp,Only H->aP K H a (ns.map V.int)->iB P w H g.heap->(∀b,H b≠none->b=a)->(H a≠none->K.lookup a=none)->
   codeAny (model P w) callerA (.call (.ref fa) ⟨[.ref a],[]⟩) (λr s'=>r=.ok (.ret (.bool true))/\OldK g.heap s'.heap/\s'.os=g.os/\AllBare s'.gens) g:=by
  intro H hO hS hok hA hK;let Ow:∀{b:Addr} {o:Obj},g.heap.get? b=some o->H b=none->(vm g.heap H).get? b=some o:=λe n=>WY e n;let T6:∀{b:Addr} {o:Obj} {es:Array DictEntry} {ep:Nat},g.heap.get? b=some o->o.data=.dict es ep->H b=none:=λ{b o es ep} e d=>by
   cases q:H b with| none=>rfl| some u=>have L:b=a:=hA b (by rw[q];simp);subst L;rw[ha]at e;cases e;let d':Data.seq vs.toArray _=Data.dict es ep:=d;cases d'
  let Z:∀{b:Addr} {m:Str->Option Value},g.heap.Ns b m->(vm g.heap H).Ns b m:=λ{b m} ⟨o,es,ep,e,d,r⟩=>⟨o,es,ep,Ow e (T6 e d),d,r⟩
  let M:K.In (vm g.heap H):=λb o e=>Ow (KX b o e) (by
   cases q:H b with
   | none=>rfl
   | some u=>have L:b=a:=hA b (by rw[q];simp);subst L;rw[hK (by rw[q];simp)]at e;cases e)
  let hM:Mod K mg (vm g.heap H):=⟨M,Z G,⟨mb,Z j,hbb⟩,let ⟨mc,h1,h2⟩:=N;⟨mc,Z h1,h2⟩⟩
  let e0:∀n:Nat,vo P w K mg (vm g.heap H) callerA [] {g with toks:=n+1} H:=λn=>⟨rQ,hM,λb o e=>aaj e,kK (Ti _ _),trivial,λb j=>absurd (show b∈([]:List Addr) from j) v0,hok,.of_eq hg,iE _,λb o e=>by
   rcases hO b with z|⟨ob,xs,z⟩;.rw[z]at e;cases e
   .rw[z]at e;cases e;let L:b=a:=hA b (by rw[z];simp);subst L;let⟨e1,_⟩:=hok b _ z;rw[ha]at e1;cases e1;show Uj hi⟩
  calc iA ((F _ M (Z G)).run callerA [] g H ⟨[.ref a],[]⟩ [.ref a] [.ref a] _ _ hr e0 (D g (.ref a)) (.cons rQ .nil) (hsp H hO hS)) λr s' h=>?_;cases r with
  | error e=>show(hCX H e s' h).elim
  | ok fl=>
   cases fl with
   | next=>show False.elim h
   | brk=>show False.elim h
   | cont=>show False.elim h
   | ret u=>
    let⟨v,H',os,bare,un,O,r',q,_⟩:=h;let q':v=.bl true:=q;subst q';obtain rfl:u=Value.bool true:=r';calc⟨rQ,OldK.of_keep λb o e=>?_,os,bare⟩;cases q:H b with
    | none=>show un.keep b o e q (by intro z;show absurd (show b∈([]:List Addr) from z) v0) v0
    | some u=>
     rcases hO b with z|⟨ob,xs,z⟩;.rw[q]at z;cases z
     .let z2:=un.tZ b ob _ z;let⟨e1,_⟩:=hok b _ z;let⟨e2,_⟩:=O b _ z2;rw[e]at e1;cases e1;show e2
 cases hk:K.lookup a with
 | some o=>have e:=KX a o hk;rw[ha]at e;cases e;refine B (λ_=>none) (λ_=>.inl rQ) (.inr ⟨_,vs.toArray,_,hk,rQ,rQ,rQ,by rw[bz,J];show hl,by simpa using rv,λv z=>by let⟨i,_,rfl⟩:=aT.mp z;rfl⟩) (λb u z=>by let Y:(none:Option HO)=some u:=z;cases Y) (λb z=>absurd rQ z) λz=>absurd rQ z
 | none=>
  refine B (λb=>if b=a then some (.cH {cls:=.type "list",data:=.seq vs.toArray} (.lst (ns.map V.int))) else none) (λb=>?_) (.inl (.inr ⟨{cls:=.type "list",data:=.seq vs.toArray},if_pos rQ⟩)) (λb u z=>?_) (λb z=>?_) λ_=>hk
  .by_cases j:b=a;.show .inr ⟨_,_,if_pos j⟩
   .show .inl (if_neg j)
  .by_cases j:b=a
   .let Y:=(if_pos j).symm.trans z;cases Y;subst j;show⟨ha,by rw[ab];show hl,vs,_,rv,ha⟩
   .let Y:=(if_neg j).symm.trans z;cases Y
  .by_cases j:b=a;.show j
   .show absurd (if_neg j) z
abbrev KOf {K:W.Frag}{h:Heap}(_:K.In h):W.Frag:=K
def aaI {l:W.OpenLaw}{n k:Nat}{q:Program}{j:List Str}{XP:(Str->Option Value)->Heap->Prop}{Z:World->Heap->Prop}{d:DefRec}{K:Params->W.Frag}{CX:World->pI}{sp:World->Sp}{x:Str}(hn:l.most=some n)(N:n<=sizeLine)(L:d.params.defaults=[])(hr:cW k callerA)(hY:∀(w:World) (h:Heap),Z w h->(K w.params).In h)(F:∀(w:World) (mg:Str->Option Value) (D:Addr) (h:Heap),(K w.params).In h->h.Ns mainGlobals mg->mg d.name=some (.ref D)->
   ∃fd:FuncData,(∀(s:Shared) (u:Value),BindsTo s fd ⟨[u],[]⟩ [(x,u)])/\
    ∀base:Heap,(K w.params).In base->base.Ns mainGlobals mg->nG l.prog w (K w.params) mg base (CX w) k D fd [x] (sp w))
  (J:∀(w:World) (H:Hp) (a:Addr) (ns:List Int),ns.length<=n->Only H->aP (K w.params) H a (ns.map V.int)->sp w [.ref a] H (λv _=>v=.bl true) λ_ _ _=>False)
  (O:∀(w:World) (H:Hp) (s:Shared) (e:Value) (s':Shared),CX w [] H s (λ_ _ _=>False) e s'->False) :
  W.WalkO q j XP Z l.row.toRowW d [] (λf vs=>PySem.call f vs):=by
 calc Att.Nh hn L λw s₀ s₁ mg mb D o pm cd doc a vs ns G Y ho hd hcd M B g bO hg=>?_;let KX:=hY w _ Y;let⟨fd,hb,hF⟩:=F w mg D _ KX G.T.g M;show Xq KX G.T.g G.T.b G.T.builtins G.T.nolimit hg B g (aS bO N) hr hF hb (λH hO hS=>J w H a ns bO hO hS) λH e s'=>O w H s₁ e s'
def inClass (s:Stmt)(j:Nat):Stmt:=match s with| .ClassDef _ _ _ body _ _ _ _ _ _ _=>body.getD j (.Pass ⟨0,0,0,0⟩)| _=>.Pass ⟨0,0,0,0⟩
noncomputable def dW (s:Stmt):Arguments:=match s with| .FunctionDef _ a _ _ _ _ _ _ _ _=>a| _=>{posonlyargs:=[],args:=[],vararg:=none,kwonlyargs:=[],kw_defaults:=[],kwarg:=none,defaults:=[]}
def b_ (s:Stmt):List Stmt:=match s with| .FunctionDef _ _ b _ _ _ _ _ _ _=>b| _=>[]
noncomputable def aF (s:Stmt):Scope:=match s with| .FunctionDef _ _ _ _ _ _ sc _ _ _=>sc| _=>{kind:=.function,names:=[],isGenerator:=false,isCoroutine:=false}
abbrev fB:pI:=λ_ _ _ _ _ _=>False
abbrev E0:XK:=λ_ _ _=>False
def jA {X:Cx}:Passes fB X E0:=λ_ _ _ _ _ _ _ h=>h.elim
structure gw (K:W.Frag)(x qual:Str)(st:Stmt)(f:Addr)(fd:FuncData):Prop where
 ex:∃(oc:Value) (od:Option Addr) (kV doc pm:Value) (an:Option Addr) (bw ct:Value) (osl:Array (Option Value)),
  fd=W.fnOf x qual (dW st) (b_ st) (aF st) .none kV doc pm an bw ct/\K.lookup f=some ⟨oc,od,.func fd,osl⟩/\W.codeIn K bw qual=true
 kp:W.keepIn K (.ref f)=true
section
variable {P:Program}{w:World}{K:W.Frag}{mg:Str->Option Value}{base:Heap}
def gw.ok {x qual:Str}{st:Stmt}{f:Addr}{fd:FuncData}{N ps:List Str}{k:Nat}{sp:Sp}(F:gw K x qual st f fd)(S:aV N ps (aF st))(len:∀vs H Q E,sp vs H Q E->vs.length=ps.length)(d:∀(bw:Value) (A:Around) (outer:List Env) (s:Shared) (H:Hp) (vs:List V) (Q:VK) (E:XK),cW k (A.deeper (envOfC qual (aF st) s.heap.objs.size f bw))->sp vs H Q E->
   ∃t,oE (nH fB P w K mg base N qual (aF st) f bw A outer s H E).xG (b_ st) t/\t {nx:=λ_ H'=>Q .non H',rt:=Q} (start N vs) H):dU P w K mg base fB (k+1) f fd ps sp:=by
 let⟨oc,od,kV,doc,pm,an,bw,ct,osl,rfl,B,j⟩:=F.ex;calc aeR B j S len λA outer s H vs Q E D g=>?_;let⟨t,h,q⟩:=d bw A outer s H vs Q E D g;show⟨t,h.xG,q⟩
def gw.okL {x qual y:Str}{st:Stmt}{f:Addr}{fd:FuncData}{N:List Str}{k:Nat}{sp:Sp}(F:gw K x qual st f fd)(S:aV N [y] (aF st))(B:(aF st).names.lookup y=some .local)(len:∀vs H Q E,sp vs H Q E->vs.length=1)(d:∀(bw:Value) (A:Around) (outer:List Env) (s:Shared) (H:Hp) (vs:List V) (Q:VK) (E:XK),cW k (A.deeper (envOfC qual (aF st) s.heap.objs.size f bw))->sp vs H Q E->
   ∃t,oE (nH fB P w K mg base N qual (aF st) f bw A outer s H E).xG (b_ st) t/\t {nx:=λ_ H'=>Q .non H',rt:=Q} (start N vs) H):nG P w K mg base fB (k+1) f fd [y] sp:=by
 let⟨oc,od,kV,doc,pm,an,bw,ct,osl,rfl,D,j⟩:=F.ex;calc acX D j S B len λA outer s H vs Q E G g=>?_;let⟨t,h,q⟩:=d bw A outer s H vs Q E G g;show⟨t,h.xG,q⟩
def gw.binds {x qual:Str}{st:Stmt}{f:Addr}{fd:FuncData}{ps:List Str}(F:gw K x qual st f fd)(h:∀(kV doc pm:Value) (an:Option Addr) (bw ct:Value) (us:List Value),us.length=ps.length->bindArgs (W.fnOf x qual (dW st) (b_ st) (aF st) .none kV doc pm an bw ct) ⟨us,[]⟩=pure (ps.zip us)):cB K fd ps []:=by let⟨oc,od,kV,doc,pm,an,bw,ct,osl,rfl,g,d⟩:=F.ex;show .all (h kV doc pm an bw ct)
def jM {x qual:Str}{st:Stmt}{f:Addr}{oc:Value}{od an:Option Addr}{osl:Array (Option Value)}{kV doc pm bw ct:Value}(l:K.lookup f=some ⟨oc,od,.func (W.fnOf x qual (dW st) (b_ st) (aF st) .none kV doc pm an bw ct),osl⟩)(c:W.codeIn K bw qual=true)(k:W.keepIn K (.ref f)=true):gw K x qual st f (W.fnOf x qual (dW st) (b_ st) (aF st) .none kV doc pm an bw ct):=⟨⟨oc,od,kV,doc,pm,an,bw,ct,osl,rQ,l,c⟩,k⟩
end
def Cv {A:Around}{k:Nat}(d:cW k A):A.units+1<cLine:=jI (ly (by decide:1<=64) _) d.units
def aK {n:Nat}(h:n<=1000):n<sizeLine:=jI h v_
section
variable {X:Cx}
def pv (i:Nat){x:Str}{pos:Pos}(N:X.N[i]?=some x:=by rfl)(hv:Tj X.env.scope x:=by first|show Or.inl rfl|show Or.inr (Or.inl rQ)|show Or.inr (Or.inr rQ))(hd:(x==("__debug__":Str))=false:=by decide)(d:(x==("__classdict__":Str))=false:=by decide):PE X (.Name x pos) (dj i):=acg N hv hd d
end
def cT {A B:Prop}(h:B):if false=true then A else B:=by rw[if_neg b6];show h
def cF {A B:Prop}(h:A):if true=true then A else B:=by rw[if_pos rfl];show h
def vq {c A B:Prop} [Decidable c] (h1:c->A)(d:¬c->B):if c then A else B:=by
 by_cases h:c
 .rw[if_pos h];show h1 h
 .rw[if_neg h];show d h
def Ri {c A B:Prop} [Decidable c] (d:c)(h:B):if (!decide c)=true then A else B:=by rw[aw d];show cT h
def aA (H H':Hp):Prop:=∀b o,H b=some o->H' b=some o
def aA.refl (H:Hp):aA H H:=λ_ _ h=>h
def aA.trans {H H1 d:Hp}(a:aA H H1)(b:aA H1 d):aA H d:=λc o h=>b c o (a c o h)
def aA.free {H H':Hp}(e:aA H H'){l:Addr}(h:H' l=Option.none):H l=Option.none:=by
 cases q:H l with| none=>rfl| some o=>rw[e l o q]at h;cases h
def aA.seq {K:W.Frag}{H H':Hp}{a:Addr}{xs:List V}(e:aA H H')(h:aP K H a xs):aP K H' a xs:=by
 rcases h with(h|⟨o,h⟩)|h;.show .inl (.inl (e _ _ h))
 .show .inl (.inr ⟨o,e _ _ h⟩)
 .show .inr h
section
variable {κ:Type}[DecidableEq κ]
theorem Ox:∀{l:List κ} {k:κ},l.Nodup->¬k∈l->(l++[k]).Nodup
 | [],k,_,_=>by simp
 | a::r,k,h,hk=>by
  let⟨h1,d⟩:=fT.mp h;show (a::(r++[k])).Nodup;calc fT.mpr ⟨λm=>?_,Ox d λm=>hk (a_.mpr (Or.inr m))⟩;rcases a9.mp m with q|q;.show h1 q
  .show hk (a_.mpr (Or.inl (am.mp q).symm))
end
noncomputable def blk (X:Cx)(scope:Scope)(cl:List (Str×Addr))(C:Addr)(x:Str)(s₀:Shared)(H₀:Hp)(fp:List Addr):Cx:={X with N:=x::X.N,s₀:=s₀,H₀:=H₀,env:=compEnvC scope cl C X.env,outer:=X.stack,ex:=fp,fn:=λ_=>false,pn:=[],xe:=λ_ _=>False}
structure fD (X:Cx)(scope:Scope)(x:Str):Prop where
 kind:scope.kind=.function
 Cw:∀y∈scope.names,y.2≠.cell
 names:∀y∈scope.names,y.2=.local->scope.names.lookup y.1=some .local
 hx:scope.names.lookup x=some .local
 free:∀y∈scope.names,y.2=.free->X.env.kindOf y.1=some .cell\/X.env.kindOf y.1=some .free
 out:∀y∈X.N,scope.names.lookup y≠some .local
 nd:X.N.Nodup
noncomputable def Oz (sc:Scope)(N:List Str)(scope:Scope)(x:Str):Bool:=scope.kind == .function&&scope.names.all (λy=>y.2 != .cell)&&scope.names.all (λy=>y.2 != .local||scope.names.lookup y.1==some .local)&&scope.names.lookup x==some .local &&
 scope.names.all (λy=>y.2 != .free||sc.names.lookup y.1==some .cell||sc.names.lookup y.1==some .free)&&N.all (λy=>scope.names.lookup y != some .local)
def fD.of {X:Cx}{scope:Scope}{x:Str}(N:X.N.Nodup)(h:Oz X.env.scope X.N scope x=true):fD X scope x:=by
 unfold Oz at h;simp only[c9,i7,Bool.or_eq_true,bne_iff_ne,beq_iff_eq,ne_eq]at h;obtain⟨⟨⟨⟨⟨h1,q⟩,B⟩,g⟩,D⟩,j⟩:=h;calc⟨h1,λy d=>q y d,λy d e=>(B y d).resolve_left λz=>z e,g,λy d e=>?_,λy d=>j y d,N⟩;rcases D y d with(z|z)|z;.show absurd e z
 .show .inl z
 .show .inr z
theorem iT {α:Type}:∀{l:List (Str×α)} {x:Str} {a:α},l.lookup x=some a->(x,a)∈l
 | [],_,_,h=>by simp at h
 | (y,b)::r,x,a,h=>by
  rw[ib]at h;split at h
  .rename_i e;let d:x=y:=by simpa using e
   cases h;subst d;show ax
  .show ay _ (iT h)
theorem vA {env:Env}:∀(names:List (Str×NameKind)),(∀y∈names,y.2=.free->∃c,env.cells.lookup y.1=some c)->∀d:List (Str×Addr),(∀n c,d.lookup n=some c->env.cells.lookup n=some c)->
  ∃cl,(forIn names d (λ(p:Str×NameKind) (J:List (Str×Addr))=>if (p.2==NameKind.free)=true then (do let a <- cellOf env p.1;pure (ForInStep.yield ((p.1,a)::J))) else (pure (ForInStep.yield J):Sem _)):Sem (List (Str×Addr)))=pure cl/\
   (∀n c,cl.lookup n=some c->env.cells.lookup n=some c)/\(∀n,(∃c,d.lookup n=some c)->∃c,cl.lookup n=some c)/\∀n,(n,NameKind.free)∈names->∃c,cl.lookup n=some c
 | [],_,d,ha=>⟨d,v0,ha,λ_ h=>h,λ_ h=>by simp at h⟩
 | (n,k)::r,hf,d,ha=>by
  let L:∀y∈r,y.2=.free->∃c,env.cells.lookup y.1=some c:=λy M=>hf y (ay _ M);by_cases hk:k=.free
  .subst hk;let⟨c,G⟩:=hf (n,.free) ax rfl;let⟨cl,e,h1,j,F⟩:=vA r L ((n,c)::d) (λg B h=>by
    rw[ib]at h;split at h
    .rename_i q;let O:g=n:=by simpa using q
     cases h;subst O;show G
    .show ha g B h)
   refine⟨cl,?_,h1,λg h=>j g ?_,λg h=>?_⟩
   .rw[gT];simp only[beq_self_eq_true,if_true];let e2:cellOf env n=pure c:=by unfold cellOf;rw[G]
    rw[e2];simp only[pure_bind];show e
   .let⟨B,D⟩:=h;rw[ib];split;.show⟨c,rQ⟩
    .show⟨B,D⟩
   .rcases a_.mp h with q|q
    .calc j g ⟨c,?_⟩;cases q;rw[ib,beq_self_eq_true]
    .show F g q
  .let N:(k==NameKind.free)=false:=by simpa using hk
   let⟨cl,e,h1,j,F⟩:=vA r L d ha;refine⟨cl,?_,h1,j,λg h=>?_⟩
   .rw[gT];simp only[N,a6,if_false,pure_bind];show e
   .rcases a_.mp h with q|q;.cases q;show absurd rQ hk
    .show F g q
theorem gZ {env:Env}:∀{names:List (Str×NameKind)} {x:Str} {k:NameKind},
  (names.map λ(n,k)=>if (k==NameKind.free&&env.scope.kind == .function&&env.kindOf n==some .cell) then (n,NameKind.cell) else (n,k)).lookup x=some k->names.lookup x=some k\/(k=.cell/\names.lookup x=some .free)
 | [],_,_,h=>by simp at h
 | (n,j)::r,x,k,h=>by
  let g:=@gZ env r x k;let h':List.lookup x ((if (j==NameKind.free&&env.scope.kind == .function&&env.kindOf n==some .cell)=true then (n,NameKind.cell) else (n,j))::_)=some k:=h;by_cases d:(j==NameKind.free&&env.scope.kind == .function&&env.kindOf n==some .cell)=true
  .rw[if_pos d]at h';cases hx:x==n with
   | true=>
    simp only[ib,hx]at h' ⊢;cases h';have:j=.free:=by simp at d;show d.1.1
    show .inr ⟨rQ,by rw[this]⟩
   | false=>simp only[ib,hx]at h' ⊢;show g h'
  .rw[if_neg d]at h';cases hx:x==n with| true=>simp only[ib,hx]at h' ⊢;show .inl h'| false=>simp only[ib,hx]at h' ⊢;show g h'
def Rj {prog:Program}{w:World}{A:Around}{R:Result->Shared->Prop}{s:Shared}{g d iter:Expr}{ifs:List Expr}{scope:Scope}{pos:Pos}{it j:Value}{env:Env}(I:Nat->Shared->Prop)(q:∀n s,I n s->wpAny (model prog w) A (pyNext it) (λr D=>match r with
   | none=>R (.ok .next) D
   | some v=>wpAny (model prog w) A (letOwnedTupleGo d it v) (λ_ s₀=>wpAny (model prog w) A (assign d env v) (λ_ M=>
     wpAny (model prog w) A (forIn ifs true λc r=>if r=true then do let ok <- isTrue c env (eval c env);pure (ForInStep.yield ok) else pure (ForInStep.yield r)) (λok B=>
      if ok=true then wpAny (model prog w) A (eval g env) (λx G=>wpAny (model prog w) A (call (.builtin "list.append") [j,x]) (λ_ F=>∃m,m<n/\I m F) (λ_ _=>False) G) (λ_ _=>False) B
      else ∃m,m<n/\I m B) (λ_ _=>False) M) (λ_ _=>False) s₀) (λ_ _=>False) D) (λ_ _=>False) s)
  (n:Nat) (h:I n s) :
  codeAny (model prog w) A (.compLoop (.ListComp g [⟨d,iter,ifs,0⟩] scope pos) 0 it j env) R s:=by
 calc codeAny_loop rQ I (λn s N=>?_) n h;show wpAny _ A ((compTurn (.ListComp g [⟨d,iter,ifs,0⟩] scope pos) 0 it j env).onRaise (λx=>do noteFrame x env;theTreesLotGoes x)) _ _ s;calc wpAny_noted ?_;rw[compTurn_list];calc aa (qB (aa (eW (q n s N) (λr D J=>?_) λ_ _ h'=>h'.elim)));cases r with
 | none=>show ag J
 | some v=>
  calc aa (eW J (λ_ s₀ h₀=>?_) λ_ _ h'=>h'.elim);calc aa (eW h₀ (λ_ M Y=>aa (eW Y (λok B L=>?_) λ_ _ h'=>h'.elim)) λ_ _ h'=>h'.elim);cases ok with| false=>show ag ⟨rQ,L⟩| true=>show aa (aa (eW L (λx G O=>aa (eW O (λ_ F Z=>ag (ag ⟨rQ,Z⟩)) λ_ _ h'=>h'.elim)) λ_ _ h'=>h'.elim))
def JW (X:Cx)(ifs:List Expr)(t:TT):Prop:=∀(ak:AC) (s:Shared) (σ:St) (H:Hp) (Q:Bool->Hp->Prop),aG X ak σ H s->t σ H Q->
  wpAny (model X.prog X.w) X.A (forIn ifs true λc r=>if r=true then do let ok <- isTrue c X.env (eval c X.env);pure (ForInStep.yield ok) else pure (ForInStep.yield r)) (TP X ak σ Q) X.xe s
def iC:TT:=λ_ H Q=>Q true H
def aaJ {X:Cx}:JW X [] iC:=λ_ _ _ H _ I h=>wpAny_tests_nil ⟨H,I,h⟩
def aaK {X:Cx}{c:Expr}{t:TT}(h:PT X c t):JW X [c] t:=λak s σ H Q I q=>wpAny_tests_one (h ak s σ H Q I q)
def dw (n i:Nat)(P:Prop):Prop:=∃d,d<n-i/\d=n-(i+1)/\i+1<=n/\P
abbrev Av (n i:Nat)(D:Addr)(ys:List V)(P:List V->Hp->Prop)(y:V)(H3:Hp):Prop:=H3 D=some (.lst ys)/\ys.length<sizeLine/\dw n i (P (ys++[y]) (upd H3 D (.lst (ys++[y]))))
abbrev rB (J:It)(D:Addr)(H:Hp)(R:Hp->Prop)(B:V->Hp->VK->(Hp->Prop)->Prop):Prop:=∃W:Nat->Nat->List V->Hp->Prop,(∃m,W 0 m [] (upd H D (.lst [])))/\
 ∀i m ys H,W i m ys H->(J.stop i H/\R H)\/(J.go i H/\∀x H',J.zY i H x H'->B x H' (λy H3=>H3 D=some (.lst ys)/\ys.length<sizeLine/\∃m',m'<m/\W (i+1) m' (ys++[y]) (upd H3 D (.lst (ys++[y])))) λH2=>∃m',m'<m/\W (i+1) m' ys H2)
def Fd {J:It}{D:Addr}{H:Hp}{R:Hp->Prop}{B:V->Hp->VK->(Hp->Prop)->Prop}(n:Nat)(d:Nat->List V->Hp->Prop)(j:d 0 [] (upd H D (.lst [])))(F:∀i ys H,i<n->d i ys H->J.go i H/\∀x H',J.zY i H x H'->B x H' (Av n i D ys (d (i+1))) λG=>dw n i (d (i+1) ys G))(q:∀ys H,d n ys H->J.stop n H/\R H):rB J D H R B:=by
 calc⟨λi m ys H=>m=n-i/\i<=n/\d i ys H,⟨n,v0,cn _,j⟩,?_⟩;intro i m ys H z;let⟨rfl,hi,p⟩:=z;by_cases g:i<n;.show .inr (F i ys H g p)
 .let e:i=n:=vT;subst e;show .inl (q ys H p)
def zj {q:Hp->List V->Prop}{B:V->Hp->VK->(Hp->Prop)->Prop}{xs:List V}{D:Addr}{H:Hp}{R:Hp->Prop}(d:Nat->List V->Hp->Prop)(j:d 0 [] (upd H D (.lst [])))(g:∀i ys H,i<=xs.length->d i ys H->q H xs)(hs:∀i x ys H,xs[i]?=some x->d i ys H->B x H (Av xs.length i D ys (d (i+1))) λF=>dw xs.length i (d (i+1) ys F))(hd:∀ys H,d xs.length ys H->R H):rB (Zm q) D H R B:=Fd xs.length d j (λi ys H h p=>⟨⟨xs,xs[i],g i ys H (aI h) p,by simp[h]⟩,λx H' ⟨e,y⟩=>by subst e;show hs i x ys _ (y xs (g i ys _ (aI h) p)) p⟩) λys H p=>⟨⟨xs,g _ ys H (af _) p,af _⟩,hd ys H p⟩
abbrev JX (σ:St)(tt:TT)(te:TE)(x:V)(H:Hp)(k:VK)(l:Hp->Prop):Prop:=tt (some x::σ) H λb H2=>if b=true then te (some x::σ) H2 k else l H2
def Cy (wi:TI)(tt:TT)(te:TE):TE:=λσ H Q=>wi σ H λJ H1=>∀D,H1 D=none->rB J D H1 (Q (.ref D)) (JX σ tt te)
noncomputable def cU (X:Cx)(scope:Scope)(cl:List (Str×Addr))(C:Addr)(N:List Str)(s₀:Shared)(H₀:Hp)(fp:List Addr):Cx:={X with N:=N,s₀:=s₀,H₀:=H₀,env:=compEnvC scope cl C X.env,outer:=X.stack,ex:=fp,fn:=λ_=>false,pn:=[],xe:=λ_ _=>False}
structure gG (X:Cx)(scope:Scope)(ns N2:List Str)(f:St->St):Prop where
 kind:scope.kind=.function
 Cw:∀y∈scope.names,y.2≠.cell
 names:∀y∈scope.names,y.2=.local->scope.names.lookup y.1=some .local
 free:∀y∈scope.names,y.2=.free->X.env.kindOf y.1=some .cell\/X.env.kindOf y.1=some .free
 afy:∀σ:St,(f σ).length=σ.length
 afz:N2.length=X.N.length
 out:∀(σ:St) (i:Nat) (y:Str) (v:V),N2[i]?=some y->(f σ)[i]?=some (some v)->X.N[i]?=some y/\σ[i]?=some (some v)/\scope.names.lookup y≠some .local
def Ac (X:Cx)(tg:Expr)(k:Nat)(TP:V->Hp->(St->Prop)->Prop):Prop:=∀(ak:AC) (s:Shared) (pre rest:St) (H:Hp) (v:V) (u:Value) (Q:St->Prop),pre.length=k->aG X ak (pre++rest) H s->bD v u->TP v H Q->
  wpAny (model X.prog X.w) X.A (assign tg X.env u) (λ_ s'=>∃d,d.length=k/\aG X ak (d++rest) H s'/\Q d) (λ_ _=>False) s
def Cz (TP:V->Hp->(St->Prop)->Prop)(f:St->St)(σ:St)(tt:TT)(te:TE)(x:V)(H:Hp)(k:VK)(l:Hp->Prop):Prop:=TP x H λpre=>tt (pre++f σ) H λb d=>if b=true then te (pre++f σ) d k else l d
def xQ (f:St->St)(k:Nat)(wi:TI)(TP:V->Hp->(St->Prop)->Prop)(tt:TT)(te:TE):TE:=λσ H Q=>wi σ H λJ H1=>∀D,H1 D=none->rB J D H1 (Q (.ref D)) (Cz TP f σ tt te)
def xR {X:Cx}{Y iter tg:Expr}{ns N2:List Str}{f:St->St}{TP:V->Hp->(St->Prop)->Prop}{ifs:List Expr}{scope:Scope}{pos:Pos}{wi:TI}{tt:TT}{te:TE}(hc:X.calm=true)(ok:gG X scope ns N2 f)(hi:PI X tg iter wi)(hg:∀cl C s₀ H₀ fp,Ac (cU X scope cl C (ns++N2) s₀ H₀ fp) tg ns.length TP)(ht:∀cl C s₀ H₀ fp,JW (cU X scope cl C (ns++N2) s₀ H₀ fp) ifs tt)(he:∀cl C s₀ H₀ fp,PE (cU X scope cl C (ns++N2) s₀ H₀ fp) Y te)(hs:∀x,foldedSetIterable iter X.env x=pure x:=by intro _;rfl){use:Option (Value->Sem Unit)}{RR:AB}{p1:Pos}{ak:AC}{s:Shared}{σ:St}{H:Hp}{Q:V->Hp->Prop}(I:aG X ak σ H s)(h:xQ f ns.length wi TP tt te σ H Q)(fin:∀(D C:Addr) (N:Hp) (Z:Shared) (m:Str->Option Value),Z.heap.Ns C m->(∀h',Heap.SameBut C Z.heap h'->aG X ak σ N {Z with heap:=h' })->mQ X ak N C->Q (.ref D) N->compPost (model X.prog X.w) X.A X.xe use RR (.ref D) C (.ok .next) Z):wpAny (model X.prog X.w) X.A (comprehension (.ListComp Y [⟨tg,iter,ifs,0⟩] scope pos) scope X.env p1 (newList []) false (eval iter X.env) use) RR X.xe s:=by
 let⟨cl,hcl,j,_,hall⟩:=vA (env:=X.env) scope.names (λy hy e=>I.ok.has y.1 (ok.free y hy e)) [] (λ_ _ z=>by simp at z);let hclos:closureFor scope X.env=pure cl:=by unfold closureFor;simp only[bind_pure];show hcl
 calc wpAny_comprehension_free (use:=use) (E:=X.xe) (cl:=cl) rQ hs hclos ok.kind ok.names (bA (hi ak s σ H _ I h) λv s1 h1=>bA h1 λitv s2 O=>?_);let⟨it,fp,tn,J,H2,e,I2,T,st2,f2,R⟩:=O;subst e;obtain⟨W,⟨m0,w0⟩,turn⟩:=R s2.heap.objs.size I2.fresh;calc ej (wpAny_newFunctionEnv ok.Cw (by intro y hy;simp at hy) (λh₁ hns₁ hsb₁=>?_) ok.kind);dsimp only at hns₁ hsb₁ ⊢;let B:aG X ak σ (upd H2 s2.heap.objs.size (.lst [])) {s2 with heap:=s2.heap.push {cls:=.type "list",data:=.seq ([]:List Value).toArray} }:=I2.ac6 (t':=s2.toks) (ys:=[]) (its:=[]) .nil (cn _);generalize hH3:upd H2 s2.heap.objs.size (HO.lst [])=H3 at *
 generalize hs3:s2.heap.push {cls:=.type "list",data:=.seq ([]:List Value).toArray}=hp3 at *
 generalize hD:s2.heap.objs.size=D at *
 generalize hC:hp3.objs.size=C at *
 let hDC:D<C:=by rw[<-hC,<-hs3,dC,hD];show eC _
 let L:∀b o,hp3.get? b=some o->h₁.get? b=some o:=λb o e=>(hsb₁.2 b (by rw[<-hC];show bb (a7 e))).trans (ae _ e);let fpl:∀b∈fp,b<C:=λb g=>by let⟨o,e,_⟩:=T.obj _ _ st2 b g;rw[<-hC,<-hs3,dC];show eL (a7 e)
 let f3:∀b∈fp,mQ X ak H3 b:=λb g=>by let⟨o,e,_⟩:=T.obj _ _ st2 b g;calc⟨?_,(f2 b g).2⟩;rw[<-hH3,aY (by rw[<-hD];show bb (a7 e))];show(f2 b g).1
 let ada:∀b∈fp,b∉frs X.stack:=λb g z=>by
  let⟨_,g1,g2,_⟩:=f3 b g;rcases a_.mp (B.JC b z) with q|q;.show g1 q
  .show g2 q
 let YOk:(cU X scope cl C (ns++N2) {s2 with heap:=hp3} H3 fp).Ok:=by
  calc⟨I.ok.mod,?_,I.ok.glob,I.ok.blt,kK hC,?_,?_,?_,I.ok.hd,I.ok.frames,.inl rQ,?_,?_,?_,?_,?_,?_,?_⟩;.show ok.kind
  .show λa b c h1 O=>I.ok.inj a b c (j a c h1) (j b c O)
  .intro a ha;calc hall a ?_;rcases ha with z|z
   .rcases gZ (env:=X.env) z with q|⟨_,q⟩;.show absurd rQ (ok.Cw _ (iT q))
    .show iT q
   .rcases gZ (env:=X.env) z with q|⟨q,_⟩;.show iT q
    .cases q
  .intro a c hf;cases hf
  .intro b g;refine⟨bb (fpl b g),λa c h1=>(f3 b g).2.2.2.2.1 a c (j a c h1)⟩
  .show B.bs
  .show aS I.ok.B_ B.sz
  .intro b o e g;rcases(f3 b g).2.2.2.1 with z|z;.show I.ok.Jz b o e z
   .show absurd (bo (a7 e) (aS I.ok.B_ z)) (iX _)
  .show ada
  .show B.stack
  .show B.Oh
 let Y0:aG (cU X scope cl C (ns++N2) {s2 with heap:=hp3} H3 fp) [] (List.replicate ns.length none++f σ) H3 {s2 with heap:=h₁,toks:=s2.toks+([]:List (Str×Value)).length}:=by
  refine⟨YOk,rQ,B.bare,Un.kept L,⟨_,hns₁,?_⟩,?_,?_,?_,λp hp=>by simp[cU]at hp,B.hok.kept L,?_,B.gh⟩
  .intro i y v e1 e2 e3;by_cases jX:i<ns.length
   .rw[eM (by rw[eA];show jX),List.getElem?_replicate,if_pos jX]at e2;simp at e2
   .obtain⟨i,rfl⟩:∃k,i=ns.length+k:=⟨i-ns.length,by simp_all⟩
    let e1a:(ns++N2)[ns.length+i]?=some y:=e1;rw[dE vT,gy]at e1a;rw[dE (by rw[eA];lia),eA,gy]at e2;let⟨e1',e2',hout⟩:=ok.out σ i y v e1a e2;let F:(y,NameKind.free)∈scope.names:=by
     let key:∀k,(relabel scope X.env).names.lookup y=some k->k≠.local->k=.cell\/k=.free->(y,NameKind.free)∈scope.names:=λk q n hk=>by
      rcases gZ (env:=X.env) q with z|⟨_,z⟩
      .rcases hk with rfl|rfl;.show absurd rQ (ok.Cw _ (iT z))
       .show iT z
      .show iT z
     rcases e3 with z|z|z
     .rcases gZ (env:=X.env) z with q|⟨q,_⟩;.show absurd q hout
      .cases q
     .show key _ z v_ (.inl rQ)
     .show key _ z v_ (.inr rQ)
    let hk:=ok.free _ F rfl;let⟨m,hn,hl⟩:=B.loc;let⟨u,r,q⟩:=hl i y v e1' e2' (by rcases hk with z|z;show .inr (.inl z);show .inr (.inr z));refine⟨u,r,.inr ⟨?_,?_⟩⟩
    .rcases e3 with z|z|z
     .rcases gZ (env:=X.env) z with q|⟨q,_⟩;.show absurd q hout
      .cases q
     .show .inl z
     .show .inr z
    .rcases q with⟨z,_⟩|⟨_,c,hc',hcell⟩
     .rcases hk with q|q <;> (rw[z]at q;cases q)
     .let⟨c',hc2⟩:=hall y F;have:c'=c:=by have:=j y c' hc2;rw[hc']at this;show(be this).symm
      subst this;let⟨o,ho,hd⟩:=hcell;show⟨c',hc2,o,L _ _ ho,hd⟩
  .intro a c h1;let⟨v,o,ho,hd⟩:=B.cell a c (j a c h1);show⟨v,o,L _ _ ho,hd⟩
  .show H3 C=none;show B.hok.fresh (kK hC)
  .show λa c h1=>B.nA a c (j a c h1)
  .show (List.replicate ns.length none++f σ).length=(ns++N2).length;rw[ar,ar,eA,ok.afy,I.len,ok.afz]
 let back:∀(s':Shared) (v:St) (H':Hp) (h':Heap),aG (cU X scope cl C (ns++N2) {s2 with heap:=hp3} H3 fp) [] v H' s'->Heap.SameBut C s'.heap h'->(∀b∈fp,H' b=none)->aG X ak σ H' {s' with heap:=h' }:=by
  intro s' v H' h' I' sb fr;let GC:∀b o,hp3.get? b=some o->b≠C:=λb o e=>by rw[<-hC];show bb (a7 e)
  let U:Un (frs X.stack) fp H3 H' hp3 s'.heap:=I'.base;refine B.call' (ch:=fp) (H':=H') (s':={s' with heap:=h' }) I'.os ⟨λb o e n h1 O=>(sb.2 b (GC b o e)).trans (U.keep b o e n h1 O),λb o e n h1 O=>?_,U.free,λb o e O=>?_,U.tups,U.tZ,U.vh⟩ (λb ob e=>?_) I'.bare I'.gh λb g=>?_
  .let⟨sl,q⟩:=U.slot b o e n h1 O;show⟨sl,(sb.2 b (GC b o e)).trans q⟩
  .let⟨o',q⟩:=U.there b o e O;show⟨o',(sb.2 b (GC b o e)).trans q⟩
  .let fC:H' C=none:=I'.free;calc(I'.hok b ob e).stay (λc w' hc q=>(sb.2 c ?_).trans q) (λ_ q=>q) λ_ _ q=>q;rintro rfl;rcases hc with rfl|hc
   .rw[fC]at e;cases e
   .rw[fC]at hc;cases hc
  .let⟨_,g1,_,g3,g4,g5⟩:=f3 b g;show⟨g3,g1,g4,g5⟩
 let G:∀{H':Hp},(∀b∈fp,H' b=none)->∀b∈fp,mQ (cU X scope cl C (ns++N2) {s2 with heap:=hp3} H3 fp) [] H' b:=λhn b g=>⟨hn b g,bb (fpl b g),ada b g,.inl g,λa c h1=>(f3 b g).2.2.2.2.1 a c (j a c h1),λp hp=>by simp[cU]at hp⟩
 let st₁:tn 0 h₁:=T.keep _ _ _ st2 λb _ o e=>L b o (by rw[<-hs3];show ae _ e);let loop:codeAny (model X.prog X.w) X.A (.compLoop (.ListComp Y [⟨tg,iter,ifs,0⟩] scope pos) 0 (.ref it) (.ref D) (compEnvC scope cl C X.env)) (compPost (model X.prog X.w) X.A X.xe use RR (.ref D) C)
   {s2 with heap:=h₁,toks:=s2.toks+([]:List (Str×Value)).length}:=by
  calc Rj (λn s'=>∃i v ys H',v.length=ns.length/\aG (cU X scope cl C (ns++N2) {s2 with heap:=hp3} H3 fp) [] (v++f σ) H' s'/\tn i s'.heap/\(∀b∈fp,H' b=none)/\W i n ys H') ?_ m0 ⟨0,List.replicate ns.length none,[],H3,eA,Y0,st₁,λb g=>(f3 b g).1,w0⟩;intro n s4 z;let⟨i,v,ys,N,hv4,I4,dR,OD,w4⟩:=z;rcases turn i n ys N w4 with⟨stop,qn⟩|⟨go,step⟩
  .refine bA (T.done (cU X scope cl C (ns++N2) {s2 with heap:=hp3} H3 fp) rQ rQ rQ hc i [] s4 (v++f σ) N _ I4 (G OD) dR stop) λr Z ⟨hr,I5⟩=>?_
   subst hr;let⟨m,hn,_⟩:=id I5.loc;show fin D C N Z m hn (λh' sb=>back Z (v++f σ) N h' I5 sb OD) ⟨I5.free,(B.nC (H':=H3) (kK hC) (B.hok.fresh (kK hC))).2⟩ qn
  .calc bA (T.item (cU X scope cl C (ns++N2) {s2 with heap:=hp3} H3 fp) rQ rQ rQ hc i [] s4 (v++f σ) N _ I4 (G OD) dR go) λr Z M=>?_;let⟨u,hr,h5⟩:=M
   subst hr;calc bA h5 λ_ s6 M=>?_;let⟨y,H6,I6,r6,y6,Zz,fr6⟩:=M;let I6':=I6.pinned (G fr6) (T.obj _ _ Zz);calc bA (hg cl C {s2 with heap:=hp3} H3 fp _ s6 v (f σ) H6 y u _ hv4 I6' r6 (step y H6 y6)) λ_ s7 M=>?_;let⟨pre,hpre,I7',q7⟩:=M;calc bA (ht cl C {s2 with heap:=hp3} H3 fp _ s7 _ H6 _ I7' q7) λb s8 M=>?_;let⟨H8,I8,q8⟩:=M;let Uk:∀{σ':St} {H':Hp} {s':Shared},aG (cU X scope cl C (ns++N2) {s2 with heap:=hp3} H3 fp) ([]++xH fp s6.heap) σ' H' s'->tn (i+1) s'.heap/\∀b∈fp,H' b=none:=λ{σ' H' s'} I9=>by calc⟨T.keep _ _ _ Zz λb g o e=>(I9.pin (b,o) (cK _ (cK _ (nD g e)))).1,λb g=>?_⟩;let⟨o,e,d⟩:=T.obj _ _ Zz b g;show(I9.pin (b,o) (cK _ (cK _ (nD g e)))).2.1
   cases b with
   | false=>let⟨m',hm,w'⟩:=q8;let⟨k1,k2⟩:=Uk I8;show⟨m',hm,i+1,pre,ys,H8,hpre,I8.mR,k1,k2,w'⟩
   | true=>have q8':te (pre++f σ) H8 _:=q8;show wpAny _ _ (eval Y _) _ _ _;calc bA (he cl C {s2 with heap:=hp3} H3 fp _ s8 _ H8 _ I8 q8') λz s9 M=>?_;let⟨zv,H9,I9,r9,hD9,hz9,m',hm,w'⟩:=M;calc bA (ju (X:=cU X scope cl C (ns++N2) {s2 with heap:=hp3} H3 fp) _ s9 _ H9 (.ref D) [zv] (.ref D) [z] (λ_ H'=>H'=upd H9 D (.lst (ys++[zv]))) I9 rQ (.cons r9 .nil) ⟨D,ys,zv,rQ,rQ,hD9,hz9,rQ⟩) λ_ G5 M=>?_;let⟨_,H10,I10,_,e10⟩:=M;subst e10;let⟨k1,k2⟩:=Uk I10;show⟨m',hm,i+1,pre,ys++[zv],_,hpre,I10.mR,k1,k2,w'⟩
 show codeAny_compStart_list loop (T.self X.A 0 _ _ _ st₁ loop)
def oH {X:Cx}{scope:Scope}{cl:List (Str×Addr)}{C:Addr}{N:List Str}{s₀:Shared}{H₀:Hp}{fp:List Addr}{x:Str}{pos:Pos}(j:N.Nodup)(g:N[0]?=some x)(hx:scope.names.lookup x=some .local):Ac (cU X scope cl C N s₀ H₀ fp) (.Name x pos) 1 (λv _ Q=>Q [some v]):=by intro ak s pre rest H v u Q hp I r q;let⟨D,rfl⟩:=List.length_eq_one_iff.mp hp;calc bA (iD (X:=cU X scope cl C N s₀ H₀ fp) (i:=0) j g (.inl (lookup_relabel_local hx)) (.inr (lookup_relabel_local hx)) ak s _ H v u (λσ' H'=>H'=H/\σ'=some v::rest) I r ⟨rQ,rQ⟩) λ_ s' B=>?_;let⟨σ',H',d,e1,e2⟩:=B;subst e1 e2;show⟨[some v],rQ,d,q⟩
def aaL {X:Cx}{d iter:Expr}{x:Str}{g:Pos}{ifs:List Expr}{scope:Scope}{pos:Pos}{wi:TI}{tt:TT}{te:TE}(F:X.calm=true)(ok:fD X scope x)(hi:PI X (.Name x g) iter wi)(j:∀cl C s₀ H₀ fp,JW (blk X scope cl C x s₀ H₀ fp) ifs tt)(J:∀cl C s₀ H₀ fp,PE (blk X scope cl C x s₀ H₀ fp) d te)(hs:∀x,foldedSetIterable iter X.env x=pure x:=by intro _;rfl):PE X (.ListComp d [⟨.Name x g,iter,ifs,0⟩] scope pos) (Cy wi tt te):=λak s σ H Q I h=>by
 let e:∀cl C s₀ H₀ fp,cU X scope cl C ([x]++X.N) s₀ H₀ fp=blk X scope cl C x s₀ H₀ fp:=λ_ _ _ _ _=>rfl;let nd:([x]++X.N).Nodup:=fT.mpr ⟨λz=>ok.out x z ok.hx,ok.nd⟩;let G:gG X scope [x] X.N id:=⟨ok.kind,ok.Cw,ok.names,ok.free,λ_=>rfl,rQ,λσ i y v e1 e2=>⟨e1,e2,ok.out y (aE e1)⟩⟩
 rw[eval_ListComp];show xR F G hi (λcl C s₀ H₀ fp=>oH nd rQ ok.hx) (λcl C s₀ H₀ fp=>j cl C s₀ H₀ fp) (λcl C s₀ H₀ fp=>J cl C s₀ H₀ fp) hs I h λD C L M m hn bk _ q=>⟨m,hn,λh' B=>⟨.ref D,L,bk h' B,rQ,q⟩⟩
def dw.mk {n i:Nat}{P:Prop}(h:i<n)(p:P):dw n i P:=⟨_,Nat.sub_lt_sub_left h (eC _),rQ,h,p⟩
def pJ {K:W.Frag}{a D:Addr}{xs:List V}{te:TE}{σ:St}{H:Hp}{R:Hp->Prop}(d:Nat->List V->Hp->Prop)(j:d 0 [] (upd H D (.lst [])))(g:∀i ys H,i<=xs.length->d i ys H->aP K H a xs)(hs:∀i x ys H,xs[i]?=some x->d i ys H->te (some x::σ) H (Av xs.length i D ys (d (i+1))))(hd:∀ys H,d xs.length ys H->R H):rB (Itl K a) D H R (JX σ iC te):=zj d j g hs hd
def CG {lo:Int}{n:Nat}{D:Addr}{te:TE}{σ:St}{H:Hp}{R:Hp->Prop}(d:Nat->List V->Hp->Prop)(g:d 0 [] (upd H D (.lst [])))(hs:∀i ys H,i<n->d i ys H->te (some (.int (lo+i))::σ) H (Av n i D ys (d (i+1))))(hd:∀ys H,d n ys H->R H):rB (Tw lo n) D H R (JX σ iC te):=Fd n d g (λi ys H h p=>⟨h,λx H' y=>by let⟨rfl,rfl⟩:=y;show hs i ys _ h p⟩) λys H p=>⟨af _,hd ys H p⟩
def S (l:List Nat):Str:=⟨l.toArray⟩
def Rk (l:List Nat):(S l).cps.toList=l:=rfl
def jB (l:List Nat):(S l).length=l.length:=rfl
def zm {a b:List Nat}(h:S a=S b):a=b:=congrArg (λs:Str=>s.cps.toList) h
def adb (z:Str):S z.cps.toList=z:=by cases z;rfl
def aeX (a b:List Nat):S a++S b=S (a++b):=by
 show (⟨a.toArray++b.toArray⟩:Str)=⟨(a++b).toArray⟩
 simp
def ZC (a b:List Nat):decide (V.str (S a)=V.str (S b))=decide (a=b):=by
 by_cases e:a=b;.subst e;simp
 .rw[al e,al];intro z;injection z with z;show e (zm z)
section
variable {X:Cx}{a b c e o:Expr}{pos:Pos}
def aaM (l:List Nat){x:Str}{j pos}(h:x=S l):PE X (.Constant (.str x) j pos) (tC (.str (S l))):=by rw[h];show aci
def zp:R2:=λx y H Q=>∃i j,x=.str (S i)/\y=.str (S j)/\i.length+j.length<=sizeLine/\Q (.str (S (i++j))) H
def m8:dY X (binaryOp .Add) zp:=by intro ak s σ H x y v u Q I d g h;let⟨i,j,rfl,rfl,hz,q⟩:=h;show Q7 ak s σ H _ _ v u Q I d g ⟨S i,S j,rQ,rQ,hz,by rw[aeX];show q⟩
def aeY:R2:=λx y H Q=>∃l i c,x=.str (S l)/\y=.int i/\l.length<=sizeLine/\jL l i=some c/\Q (.str (S [c])) H
def Aw:GX X aeY:=by intro value d ak s σ H x y v u Q I B j h hs;let⟨l,i,c,rfl,rfl,hz,g,q⟩:=h;show ac0 value d ak s σ H _ _ v u Q I B j ⟨S l,i,c,rQ,rQ,hz,g,q⟩ hs
def aeZ:List V->Hp->VK->Prop:=λxs H Q=>∃l,xs=[.str (S l)]/\l.length<=sizeLine/\Q (.int l.length) H
def dM:fU X (.builtin "len") aeZ:=by intro ak s σ H xs us Q I r h;let⟨l,rfl,hz,q⟩:=h;show JR ak s σ H _ us Q I r ⟨S l,rQ,hz,q⟩
def afA:R2:=λx y H Q=>∃i j,x=.str (S i)/\y=.str (S j)/\Q (.bl (decide (i=j))) H
def rC:dY X (compareOp .Eq) afA:=by intro ak s σ H x y v u Q I d g h;let⟨i,j,rfl,rfl,q⟩:=h;show jW ak s σ H _ _ v u Q I d g ⟨rQ,by rw[ZC];show q⟩
def afB:R2:=λx y H Q=>∃i j,x=.str (S i)/\y=.str (S j)/\Q (.bl (!decide (i=j))) H
def CJ:dY X (compareOp .NotEq) afB:=by intro ak s σ H x y v u Q I d g h;let⟨i,j,rfl,rfl,q⟩:=h;show Jm ak s σ H _ _ v u Q I d g ⟨rQ,by rw[ZC];show q⟩
def afC:R2:=λx y H Q=>∃c l,x=.str (S [c])/\y=.str (S l)/\Q (.bl (decide (c∈l))) H
def JZ:dY X (compareOp .In) afC:=by
 intro ak s σ H x y v u Q I d g h;let⟨c,l,rfl,rfl,q⟩:=h;show TV ak s σ H _ _ v u Q I d g ⟨S [c],S l,rQ,rQ,by
  let e:=ue (S l) c;rw[Rk]at e;rw[show (S [c])=(⟨#[c]⟩:Str) from rQ,e];show q⟩
noncomputable def ji (l:List Nat)(lo hi:Option Int):List Nat:=(l.drop (HT.bN l.length 0 lo)).take (HT.bN l.length l.length hi-HT.bN l.length 0 lo)
def OJ (lo hi:Option Int)(n:Nat):Builtin.Str.strSliceIndices lo hi 1 n=(List.range (HT.bN n n hi-HT.bN n 0 lo)).map (λk=>HT.bN n 0 lo+k):=by
 let g:∀(v:Int) (d:Nat),max (0:Int) (min (if v<0 then v+(n:Int) else v) (n:Int))=((HT.bN n d (some v):Nat):Int):=λv d=>by rw[<-HT.Ey];split <;> grind
 let q:∀a b:Nat,sliceRange (a:Int) (b:Int) 1=(List.range (b-a)).map (λk=>a+k):=λa b=>by
  simp only[sliceRange,show ((1:Int) > 0)=True from by simp,if_true];by_cases B:(a:Int)<b
  .let e3:(((b:Int)-a+1-1)/1).toNat=b-a:=by first|simp|(simp;done)|(simp;lia)
   simp only[B,if_true,e3];calc e6 λk _=>?_;lia
  .have:b-a=0:=by simp_all
   simp[B,this]
 unfold Builtin.Str.strSliceIndices;simp only[show ((1:Int) > 0)=True from by simp,if_true];cases lo with
 | none=>
  cases hi with| none=>show q 0 n| some j=>dsimp only;rw[g j n];show q 0 _
 | some i=>
  cases hi with| none=>dsimp only;rw[g i 0];show q _ n| some j=>dsimp only;rw[g i 0,g j n];show q _ _
def Ul (l:List Nat)(lo hi:Option Int):Txt.slice (S l) lo hi=S (ji l lo hi):=by
 let q:HT.bN l.length l.length hi<=l.length:=HT.T8 _ _ (af _) _;let d:((Builtin.Str.strSliceIndices lo hi 1 (S l).length).filterMap ((S l).cps[·]?))=ji l lo hi:=by
  rw[OJ];let h:=StrLaws.picks l (HT.bN l.length l.length hi-HT.bN l.length 0 lo) (HT.bN l.length 0 lo);unfold ji;by_cases g:HT.bN l.length 0 lo<=HT.bN l.length l.length hi
  .let D:=h (by simp_all);rw[jB];simpa [S] using D
  .let e:HT.bN l.length l.length hi-HT.bN l.length 0 lo=0:=Nat.sub_eq_zero_of_le vT;rw[jB,e];simp
 unfold Txt.slice;split
 .rename_i g;let O:(Builtin.Str.strSliceIndices lo hi 1 (S l).length).length=l.length:=by
   simp at g;simpa [jB] using g
  let j:HT.bN l.length l.length hi-HT.bN l.length 0 lo=l.length:=by rw[OJ,jB]at O;simpa using O
  let B:HT.bN l.length 0 lo=0\/l.length=0:=vT;let e:ji l lo hi=l:=by
   unfold ji;rw[j];rcases B with z|z;.rw[z];simp
   .have:l=[]:=i6.mp z;subst this;simp
  rw[e]
 .rw[d];rfl
def J0:V->Option Int->Option Int->Hp->VK->Prop:=λx lo hi H Q=>∃l,x=.str (S l)/\l.length<=sizeLine/\Q (.str (S (ji l lo hi))) H
def part_of {v:Value}{o:Option Int}(p:IsPart v o):∃l:Option (Int×Tok),v=partValue l/\l.map (·.1)=o:=by
 cases p with| none=>show⟨none,rQ,rQ⟩| int i t=>show⟨some (i,t),rQ,rQ⟩
def uc:T9 X J0:=by intro ak s σ H x v vl G lo hi sl Q I B hs pl g h;let⟨l,rfl,hz,q⟩:=h;let⟨t,rfl⟩:=B;let⟨p1,rfl,rfl⟩:=part_of pl;let⟨p2,rfl,rfl⟩:=part_of g;calc⟨"str",_,F.slot_str_getitem.lookup,typeIs_str _ _ _,?_⟩;calc bR (wpAny_getItem_str_slice (l:=p1) (u:=p2) (st:=none) hs rQ ?_);let e:=Ul l (p1.map (·.1)) (p2.map (·.1));let d:(Txt.slice (S l) (p1.map (·.1)) (p2.map (·.1))).length<=sizeLine:=aS (Txt.slice_le _ _ _) hz;calc post_val_or_str ⟨d,λt' k D=>?_⟩;let j:(if ((Option.map (λx:Int×Tok=>x.1) none).getD 1==1&&(slicePicked (S l) p1 p2 none).length==(S l).length)=true then S l else ⟨((slicePicked (S l) p1 p2 none).filterMap ((S l).cps[·]?)).toArray⟩)=S (ji l (p1.map (·.1)) (p2.map (·.1))):=e;show⟨.str (S (ji l (p1.map (·.1)) (p2.map (·.1)))),H,I.tok _,⟨t',congrArg (λz=>Value.str z t') j⟩,q⟩
abbrev Ts (ls:AA):List V:=ls.map λl=>V.str (S l)
def ZD (K:W.Frag):List V->Hp->VK->Prop:=λxs H Q=>∃x n t b,xs=[x,.ty n]/\nF K H x t/\W.kitOne K t (.type n)=some b/\Q (.bl b) H
def jR:fU X (.builtin "isinstance") (ZD X.K):=by intro ak s σ H xs us Q I r h;let⟨x,n,t,b,rfl,ty,k,q⟩:=h;let⟨u,B,rfl,r1,d⟩:=vals2 r;cases d;show bR (T5 I r1 ty k λg j=>⟨.bl b,H,I.tok g,rQ,q⟩)
def O1 (ls:AA):Txt.join (S []) (ls.map S)=S ls.flatten:=by
 unfold Txt.join Builtin.Str.glued;let g:∀(ls:AA) (d:Array Nat),((ls.map S).foldl (λd p=>d++(S []).cps++p.cps) d).toList=d.toList++ls.flatten:=by
  intro ls
  induction ls with| nil=>intro d;simp| cons l r ih=>intro d;rw[bX,vw,ih];simp[S]
 unfold S;congr 1;apply kN.mp;cases ls with| nil=>rfl| cons l r=>have:=g r (S l).cps;let e:(List.map S (l::r)).drop 1=List.map S r:=rfl;show (((List.map S (l::r)).drop 1).foldl _ (S l).cps).toList=_;rw[e];show this.trans (by simp[S])
def rJoin (K:W.Frag):V->List V->Hp->VK->Prop:=λx vs H Q=>∃p ls,x=.str (S [])/\vs=[.ref p]/\aP K H p (Ts ls)/\ls.flatten.length<=1000/\Q (.str (S ls.flatten)) H
theorem zq:∀{ls:AA} {us:List Value},Vals (Ts ls) us->StrsAre us (ls.map S)
 | [],_,.nil=>.nil
 | l::r,_,.cons q t=>by let⟨t',rfl⟩:=q;show .cons (S l) t' (zq t)
def O4 (ls:AA):((ls.map S).map (·.length)).sum=ls.flatten.length:=by
 induction ls with| nil=>rfl| cons l r ih=>rw[bX,bX,List.sum_cons,ih,iS,ar,jB]
def qP:sO X "str.join" (rJoin X.K):=by
 intro ak s σ H x vs v us Q I j d h;let⟨p,ls,rfl,rfl,B,hz,q⟩:=h;let⟨t,rfl⟩:=j;let⟨u,rfl,g⟩:=vals1 d;cases g;let⟨its,r,pl,_⟩:=I.list B;calc bR (join_list pl.isList (ys:=ls.map S) (by simpa using zq r) ?_ λt' k D=>?_);.rw[O4];show _+_*0<=_;lia
 .show⟨.str (S ls.flatten),H,I.tok k,⟨t',congrArg (λz=>Value.str z t') (O1 ls)⟩,q⟩
end
structure aL (K:W.Frag)(mg:Str->Option Value)(name:Str)(st:Stmt)(ps:List Str):Prop where
 ex:∃f fd,gw K name name st f fd/\cB K fd ps []/\mg name=some (.ref f)
structure bF (P:Program)(w:World)(K:W.Frag)(mg:Str->Option Value)(base:Heap)(name:Str)(k:Nat)(ps:List Str)(sp:Sp):Prop where
 ex:∃f fd,dU P w K mg base fB k f fd ps sp/\cB K fd ps []/\mg name=some (.ref f)/\W.keepIn K (.ref f)=true
def aL.ok {P:Program}{w:World}{K:W.Frag}{mg:Str->Option Value}{base:Heap}{name:Str}{st:Stmt}{N ps:List Str}{k:Nat}{sp:Sp}(D:aL K mg name st ps)(S:aV N ps (aF st))(len:∀vs H Q E,sp vs H Q E->vs.length=ps.length)(d:∀(f:Addr) (bw:Value) (A:Around) (outer:List Env) (s:Shared) (H:Hp) (vs:List V) (Q:VK) (E:XK),cW k (A.deeper (envOfC name (aF st) s.heap.objs.size f bw))->sp vs H Q E->
   ∃t,oE (nH fB P w K mg base N name (aF st) f bw A outer s H E).xG (b_ st) t/\t {nx:=λ_ H'=>Q .non H',rt:=Q} (start N vs) H):bF P w K mg base name (k+1) ps sp:=by
 let⟨f,fd,F,b,g⟩:=D.ex;show⟨f,fd,F.ok S len (d f),b,g,F.kp⟩
section
variable {X:Cx}{x:Str}{p pos:Pos}{e:Expr}{es:List Expr}{t:TA}
def ade {k:Nat}{ps:List Str}{sp:Sp}(D:bF X.prog X.w X.K X.mg X.base x k ps sp)(B:cW k X.A)(q:Gl X x)(ha:PA X (e::es) t)(d:(x==("__debug__":Str))=false:=by decide)(hs:starEach (e::es) X.env=(false,eval e X.env)::starEach es X.env:=by rfl)(j:(backTo pos (starEach es X.env)).any (·.1)=false:=by rfl):PE X (.Call (.Name x p) (e::es) [] pos) (qD sp [] E0 t):=by let⟨f,fd,G,b,g,kp⟩:=D.ex;show aaw G B q g kp b .nil jA ha d hs j
end
theorem aA.upd {H:Hp}{p:Addr}{o:HO}(h:H p=none):aA H (upd H p o):=λb o' e=>by rw[aY (bI e h)];show e
def aA.bC {H H':Hp}{p:Addr}{o:HO}(s:aA H H')(h:H p=none):aA H (L2.upd H' p o):=λb o' e=>by rw[aY (bI e h)];show s b o' e
def noStar:Expr->Bool
 | .Starred ..=>false
 | _=>true
def O5 {e:Expr}{es:List Expr}{env:Env}(h:noStar e=true):starEach (e::es) env=(false,eval e env)::starEach es env:=by cases e <;> first|rfl|cases h
def Xr {K:W.Frag}{h:Heap}{mg:Str->Option Value}{name:Str}{st:Stmt}{ps:List Str}{f:Addr}{oc:Value}{od an:Option Addr}{osl:Array (Option Value)}{kV doc pm bw ct:Value}(X:K.In h)(G:h.Ns mainGlobals mg)(a:W.nsIn K mainGlobals name=some (some (.ref f)))(l:K.lookup f=some ⟨oc,od,.func (W.fnOf name name (dW st) (b_ st) (aF st) .none kV doc pm an bw ct),osl⟩)(c:W.codeIn K bw name=true)(k:W.keepIn K (.ref f)=true)(d:∀(kV doc pm:Value) (an:Option Addr) (bw ct:Value) (us:List Value),us.length=ps.length->bindArgs (W.fnOf name name (dW st) (b_ st) (aF st) .none kV doc pm an bw ct) ⟨us,[]⟩=pure (ps.zip us)):aL K mg name st ps:=⟨f,_,jM l c k,(jM l c k).binds d,nN X G a⟩
def adf {K:W.Frag}{h:Heap}{mg:Str->Option Value}{st:Stmt}{x:Str}{f g:Addr}{oc:Value}{od an:Option Addr}{osl:Array (Option Value)}{kV doc pm bw ct:Value}(X:K.In h)(G:h.Ns mainGlobals mg)(d:mg "law"=some (.ref g))(a:W.nsIn K mainGlobals "law"=some (some (.ref f)))(l:K.lookup f=some ⟨oc,od,.func (W.fnOf "law" "law" (dW st) (b_ st) (aF st) .none kV doc pm an bw ct),osl⟩)(c:W.codeIn K bw "law"=true)(k:W.keepIn K (.ref f)=true)(j:∀(kV doc pm:Value) (an:Option Addr) (bw ct v:Value),bindArgs (W.fnOf "law" "law" (dW st) (b_ st) (aF st) .none kV doc pm an bw ct) ⟨[v],[]⟩=pure [(x,v)]):∃fd:FuncData,gw K "law" "law" st g fd/\∀(s:Shared) (v:Value),BindsTo s fd ⟨[v],[]⟩ [(x,v)]:=by let e:=d.symm.trans (nN X G a);cases e;show⟨_,jM l c k,λs v=>.of_eq (j kV doc pm an bw ct v)⟩
def Jt (K:W.Frag):Sp:=λvs H Q _=>∃(a:Addr) (ns:List Int),vs=[.ref a]/\aP K H a (ns.map V.int)/\ns.length<=63/\∀H',Q (.bl true) H'
def aaN {x:Str}{l:W.OpenLaw}{q:Program}{g:List Str}{J:(Str->Option Value)->Heap->Prop}{Y:World->Heap->Prop}{d:DefRec}{K:Params->W.Frag}(hn:l.most=some 63)(j:d.params.defaults=[])(L:∀(w:World) (h:Heap),Y w h->(K w.params).In h)(F:∀(w:World) (mg:Str->Option Value) (B:Addr) (h:Heap),(K w.params).In h->h.Ns mainGlobals mg->mg d.name=some (.ref B)->
   ∃fd:FuncData,(∀(s:Shared) (u:Value),BindsTo s fd ⟨[u],[]⟩ [(x,u)])/\∀base:Heap,(K w.params).In base->base.Ns mainGlobals mg->nG l.prog w (K w.params) mg base fB 20 B fd [x] (Jt (K w.params))) :
  W.WalkO q g J Y l.row.toRowW d [] (λf vs=>PySem.call f vs):=
 L2.aaI (n:=63) (k:=20) (x:=x) (CX:=λ_=>fB) (sp:=λw=>Jt (K w.params)) hn v_ j ⟨rQ,v_,v_⟩ L F (λ_ _ a ns G _ D=>⟨a,ns,rQ,D,G,λ_=>rfl⟩) λ_ _ _ _ _ z=>z
namespace RV
end RV
section
variable {X:Cx}{e st:Expr}{te G6:TE}{pos p2:Pos}
theorem Um {α β:Type}{f:α->Option β}{g:α->β}:∀l:List α,(∀k∈l,f k=some (g k))->l.filterMap f=l.map g
 | [],_=>rfl
 | a::r,h=>by rw[g6,h a ax,bX,Um r λk hk=>h k (ay _ hk)]
def ZF (te G6:TE):TE:=λσ H Q=>te σ H λx H1=>G6 σ H1 λy d=>∃l,x=.str (S l)/\y=.int (-1)/\l.length<=sizeLine/\Q (.str (S l.reverse)) d
def aaO (O:PE X e te)(B:PE X st G6):PE X (.Subscript e (.Slice none none (some st) p2) pos) (ZF te G6):=by
 intro ak s σ H Q I h;calc Subscript_ (bA (O ak s σ H _ I h) λv s1 D=>?_);let⟨x,H1,G,r1,q1⟩:=D;calc wpAny_Slice ?_;rw[evalPart_none,evalPart_some];calc ag (ag (bA (B ak s1 σ H1 _ G q1) λY s2 D=>?_));let⟨y,F,L,M,l,ex,N,hz,q⟩:=D;subst ex N;let⟨t,rfl⟩:=r1;let⟨d,rfl⟩:=M;let I4:aG X ak σ F {s2 with heap:=s2.heap.push {cls:=.type "slice",data:=.fields #[.none,.none,.int (-1) d]} }:=L.kept (t':=s2.toks) λb ob z=>ae _ z;show wpAny (model X.prog X.w) X.A (subscriptTail e (.Slice none none (some st) p2) (.str (S l) t) (.ref s2.heap.objs.size)) (EP X ak σ Q) X.xe {s2 with heap:=s2.heap.push {cls:=.type "slice",data:=.fields #[.none,.none,.int (-1) d]} };calc tail_any (ops:=[.ref s2.heap.objs.size,.str (S l) t]) (typeIs_str _ _ _) PySem.F.slot_str_getitem.lookup ?_ (by with_unfolding_all rfl);calc wpAny_getItem_str_slice (l:=none) (u:=none) (st:=some (-1,d)) ⟨_,ap _ rQ,rQ,rQ⟩ rQ ?_;let ep:slicePicked (S l) none none (some (-1,d))=(List.range l.length).map λk=>l.length-1-k:=picked_rev l.length;let J:((slicePicked (S l) none none (some (-1,d))).filterMap ((S l).cps[·]?))=l.reverse:=by
  rw[ep];calc gE λj=>?_;let hm:((List.range l.length).map λk=>l.length-1-k).filterMap ((S l).cps[·]?)=(List.range l.length).map λk=>l.getD (l.length-1-k) 0:=by rw[List.filterMap_map];calc Um _ λk hk=>?_;let Z:=bv.mp hk;show (l.toArray)[l.length-1-k]?=some (l.getD (l.length-1-k) 0);simp[List.getD,show l.length-1-k<l.length from gp vT]
  rw[hm,ba];by_cases g:j<l.length
  .rw[g9 g,rL g];simp[List.getD,show l.length-1-j<l.length by lia]
  .rw[di (by simpa using g),di (by simpa using g)];rfl
 unfold sliceMade;rw[if_neg v0];rw[J];calc⟨?_,.str (S l.reverse),F,I4.tok _,⟨_,rQ⟩,q⟩;show l.reverse.toArray.size<=sizeLine;simpa using hz
end
structure QE (X:Cx)(e:Expr)(t:TE):Prop where
 out:PE X e t
structure QT (X:Cx)(e:Expr)(t:TT):Prop where
 out:PT X e t
structure QW (X:Cx)(e:Expr)(t:TT):Prop where
 out:PW X e t
structure QA (X:Cx)(es:List Expr)(t:TA):Prop where
 out:PA X es t
structure QS (X:Cx)(st:Stmt)(t:TS):Prop where
 out:PS X st t
structure sW (X:Cx)(st:List Stmt)(t:TS):Prop where
 out:oE X st t
structure QG (X:Cx)(e:Expr)(t:TG):Prop where
 out:PG X e t
structure Uo (X:Cx)(es:List Expr)(t:qW):Prop where
 out:JG X es t
structure QI (X:Cx)(tg iter:Expr)(wi:TI):Prop where
 out:PI X tg iter wi
structure QO (X:Cx)(e:Option Expr)(t:TO):Prop where
 out:PO X e t
structure QC (X:Cx)(op:CmpOp)(a b:Expr)(t:TE):Prop where
 out:PC X op a b t
structure Uq (X:Cx)(ifs:List Expr)(t:TT):Prop where
 out:JW X ifs t
def QW.qt {X:Cx}{e:Expr}{t:TT}(h:QW X e t):QT X e t:=⟨h.out.pt⟩
section
variable {X:Cx}{st:Stmt}{rest:List Stmt}{t u:TS}
variable {pos:Pos}
variable {e:Expr}{te:TE}
variable {tg:Expr}
variable {o value:Expr}{f:Str}{pos':Pos}{ta tv:TE}
def bZ  : sW X [] Zk:=⟨aan⟩
def aD (h1:QS X st t)(d:sW X rest u):sW X (st::rest) (acz t u):=⟨W3 h1.out d.out⟩
def aJ (h1:QS X st t):sW X [st] t:=⟨aao h1.out⟩
def dz {c:Expr}{a b:List Stmt}{tc:TT}(g:QT X c tc)(ha:sW X a t)(d:sW X b u):QS X (.If c a b pos) (acB tc t u):=⟨aeN g.out ha.out d.out⟩
def aW (d:QE X e te):QS X (.Return (some e) pos) (QL te):=⟨acA d.out⟩
def iG (d:QE X e te)(hs:swapsWith e none pos.line X.env=pure false:=by rfl):QS X (.Expr e pos) (Ca te):=⟨aap d.out hs⟩
def eV {iter:Expr}{d:List Stmt}{wi:TI}{g:TG}{tb:TS}{pos:Pos}(hp:PassesOwn (model X.prog X.w) X.A X.env X.xe)(B:X.calm=true)(hi:QI X tg iter wi)(q:QG X tg g)(j:sW X d tb)(hs:∀x,foldedSetIterable iter X.env x=pure x:=by intro _;rfl):QS X (.For tg iter d [] pos) (acI wi g tb):=⟨acJ hp B hi.out q.out j.out hs⟩
def Xu {c:Expr}{d:List Stmt}{tc:TT}{tb:TS}(hp:PassesOwn (model X.prog X.w) X.A X.env X.xe)(j:QT X c tc)(g:sW X d tb):QS X (.While c d [] pos) (Tv tc tb):=⟨W5 hp j.out g.out⟩
def aZ {i:Nat}{x:Str}{e:Expr}{te:TE}{pos':Pos}(N:X.N.Nodup)(hi:X.N[i]?=some x)(hx:Loc X.env.scope x)(g:QE X e te)(hs:swapsWith e (some (.Name x pos')) pos.line X.env=pure false:=by rfl)(d:X.fn x=true\/X.env.scope.names.lookup x=some .local:=by first|show .inl rfl|show .inr rfl|assumption):QS X (.Assign [.Name x pos'] e pos) (Eu te (jd i)):=⟨acF N hi hx g.out hs d⟩
def G7 {d:List Stmt}:sW X d Tr:=⟨Tt⟩
def CK (ha:QE X o ta)(hv:QE X value tv)(hs:swapsWith value (some (.Attribute o f pos')) pos.line X.env=pure false):QS X (.Assign [.Attribute o f pos'] value pos) (acO X.K ta tv f):=⟨acQ ha.out hv.out hs⟩
def Ur {tg e:Expr}{te:TE}{g:TG}(j:QE X e te)(d:QG X tg g)(hs:swapsWithSole [tg] e pos.line X.env=pure false:=by rfl)(hw:swappedStores [tg] e X.env=pure none:=by rfl)(h1:(assignEach [tg] X.env).map (·.2)=[assign tg X.env]:=by rfl):QS X (.Assign [tg] e pos) (Eu te g):=⟨acE j.out d.out hs hw h1⟩
def bV {i:Nat}{x:Str}(N:X.N.Nodup)(hi:X.N[i]?=some x)(hx:Loc X.env.scope x)(d:X.fn x=true\/X.env.scope.names.lookup x=some .local:=by first|show .inl rfl|show .inr rfl|assumption):QG X (.Name x pos) (jd i):=⟨iD N hi hx d⟩
def uE {es:List Expr}{k:Nat}{t:qW}{n:Nat}(g:X.calm=true)(h:Uo X es t)(hn:(assignEach es X.env).length=n:=by rfl)(d:(assignEach es X.env).findIdx? (·.1)=none:=by rfl):QG X (.Tuple es k pos) (QV X.K n t):=⟨JH g h.out hn d⟩
def oJ  : Uo X [] Et:=⟨uz⟩
def dX {e:Expr}{es:List Expr}{t:TG}{u:qW}(h1:QG X e t)(d:Uo X es u)(hs:(assignEach (e::es) X.env).map (·.2)=assign e X.env::(assignEach es X.env).map (·.2):=by rfl):Uo X (e::es) (lZ t u):=⟨g_ h1.out d.out hs⟩
end
section
variable {X:Cx}
def aB {i j pos}:QE X (.Constant (.int i) j pos) (tC (.int i)):=⟨ach⟩
def je {b j pos}:QE X (.Constant (.bool b) j pos) (tC (.bl b)):=⟨aeK⟩
end
section
variable {X:Cx}{a b c:Expr}{ta tb tc:TE}{pos:Pos}
variable {tA:TT}
variable {lM:TT}{rest:List Expr}
variable {e:Expr}{te:TE}{lo hi:Option Expr}{tl th:TO}{p2:Pos}
variable {es:List Expr}{t:TA}
variable {x:Str}{p:Pos}{id:String}{r:List V->Hp->VK->Prop}
variable {T:String}
def aN {op:Operator}{r:R2}(g:dY X (binaryOp op) r)(ha:QE X a ta)(d:QE X b tb):QE X (.BinOp a op b pos) (qu r ta tb):=⟨aeO g ha.out d.out⟩
def ae0 {op:UnaryOp}{r:V->Hp->VK->Prop}(d:Zq X (unaryOp op) r)(ha:QE X a ta):QE X (.UnaryOp op a pos) (tUn r ta):=⟨aeP d ha.out⟩
def gH {op:CmpOp}{r:R2}(g:dY X (compareOp op) r)(ha:QE X a ta)(d:QE X b tb)(hm:behindInMarks op b=false):QE X (.Compare a [op] [b] pos) (qu r ta tb):=⟨aar g ha.out d.out hm⟩
def bW {op:CmpOp}{r:R2}(g:dY X (compareOp op) r)(ha:QE X a ta)(d:QE X b tb)(hm:behindInMarks op b=false):QT X (.Compare a [op] [b] pos) (Jo (qu r ta tb)):=⟨aas g ha.out d.out hm⟩
def mU {op d:CmpOp}{r j:R2}(q:dY X (compareOp op) r)(g:dY X (compareOp d) j)(ha:QE X a ta)(B:QE X b tb)(D:QE X c tc)(hm:lastMarks [op,d] [b,c]=false:=by with_unfolding_all rfl):QE X (.Compare a [op,d] [b,c] pos) (xJ r j ta tb tc):=⟨W9 q g ha.out B.out D.out hm⟩
def J1 {op d:CmpOp}{r j:R2}(q:dY X (compareOp op) r)(g:dY X (compareOp d) j)(ha:QE X a ta)(B:QE X b tb)(D:QE X c tc)(hm:lastMarks [op,d] [b,c]=false:=by with_unfolding_all rfl):QT X (.Compare a [op,d] [b,c] pos) (Jo (xJ r j ta tb tc)):=⟨W_ q g ha.out B.out D.out hm⟩
def fY {e:Expr}{t:TE}(h:QE X e t)(g:∀d,isTrue e X.env d=(do let v <- d;standAt e.pos;holding [v] (truthy v)):=by intro _;rfl):QT X e (tB t):=⟨acn h.out g⟩
def jk (ha:QT X a tA):QT X (.UnaryOp .Not a pos) (acp tA):=⟨acs ha.out⟩
def adg (ha:QT X a tA)(d:QW X (.BoolOp .And (b::rest) pos) lM):QW X (.BoolOp .And (a::b::rest) pos) (aco tA lM):=⟨acr ha.out d.out⟩
def aaP (ha:QT X a tA):QW X (.BoolOp .And [a] pos) tA:=⟨aam ha.out⟩
def sX (ha:QT X a tA)(d:QW X (.BoolOp .Or (b::rest) pos) lM):QW X (.BoolOp .Or (a::b::rest) pos) (tOr tA lM):=⟨aeL ha.out d.out⟩
def pK (ha:QT X a tA):QW X (.BoolOp .Or [a] pos) tA:=⟨acq ha.out⟩
def pL (ha:QE X a ta)(d:QE X (.BoolOp .And (b::rest) pos) tb):QE X (.BoolOp .And (a::b::rest) pos) (Zi ta tb):=⟨acw ha.out d.out⟩
def Rm (ha:QE X a ta)(d:QE X (.BoolOp .Or (b::rest) pos) tb):QE X (.BoolOp .Or (a::b::rest) pos) (acu ta tb):=⟨aeM ha.out d.out⟩
def lQ {op}{t:TE}(h:QE X a t):QE X (.BoolOp op [a] pos) t:=⟨acv h.out⟩
def adh (ha:QE X a ta):QE X (.UnaryOp .Not a pos) (Zj ta):=⟨acy ha.out⟩
def rD {c:Expr}(d:QT X c tA)(ha:QE X a ta)(g:QE X b tb):QE X (.IfExp c a b pos) (tIf tA ta tb):=⟨W2 d.out ha.out g.out⟩
def bJ {r:R2}(g:GX X r)(ha:QE X a ta)(d:QE X b tb)(hs:EY b):QE X (.Subscript a b pos) (qu r ta tb):=⟨aeS g ha.out d.out hs⟩
def eO {r:V->Option Int->Option Int->Hp->VK->Prop}(j:T9 X r)(q:QE X e te)(d:QO X lo tl)(g:QO X hi th):QE X (.Subscript e (.Slice lo hi none p2) pos) (Oo r te tl th):=⟨Xh j q.out d.out g.out⟩
def iH  : QO X none qO:=⟨aaC⟩
def d8 (h:QE X e te):QO X (some e) (yX te):=⟨aaD h.out⟩
def fG (h:QA X es t):QE X (.List es pos) (acS t):=⟨acU h.out⟩
def dN {x1}(h:QA X es t):QE X (.Tuple es x1 pos) (Xc t):=⟨acT h.out⟩
def au  : QA X [] lK:=⟨acR⟩
def aj (ha:QE X e te)(d:QA X es t)(hs:starEach (e::es) X.env=(false,eval e X.env)::starEach es X.env:=by rfl):QA X (e::es) (fV te t):=⟨aav ha.out d.out hs⟩
def aX (q:fU X (.builtin id) r)(j:Gl X x)(hm:X.mg x=none)(hv:bootBuiltins x=some (.builtin id))(ha:QA X (e::es) t)(hn:x≠"__name__":=by decide)(d:(x==("__debug__":Str))=false:=by decide)(B:starEach (e::es) X.env=(false,eval e X.env)::starEach es X.env:=by rfl)(g:(backTo pos (starEach es X.env)).any (·.1)=false:=by rfl):QE X (.Call (.Name x p) (e::es) [] pos) (Zt r t):=⟨Xf q j hm hv ha.out hn d B g⟩
def cO (q:fU X (.type T) r)(j:Gl X x)(hm:X.mg x=none)(hv:bootBuiltins x=some (.type T))(ha:QA X (e::es) t)(hn:x≠"__name__":=by decide)(d:(x==("__debug__":Str))=false:=by decide)(B:starEach (e::es) X.env=(false,eval e X.env)::starEach es X.env:=by rfl)(g:(backTo pos (starEach es X.env)).any (·.1)=false:=by rfl):QE X (.Call (.Name x p) (e::es) [] pos) (Zt r t):=⟨T7 q j hm hv ha.out hn d B g⟩
end
section
variable {X:Cx}{o e:Expr}{es:List Expr}{to:TE}{t:TA}{name:Str}{apos cpos:Pos}{T id:String}{r:V->List V->Hp->VK->Prop}
variable {tg:Expr}
variable {f:Str}{pos:Pos}{ta:TE}
def eN (F:PlainAttrs T)(slot:Slot T name id)(B:typeOf (.builtin id)=pure (.type "method_descriptor"))(hm:sO X id r)(D:QE X o to)(ha:QA X (e::es) t)(g:attributeBase o name X.env (eval o X.env)=eval o X.env:=by rfl)(q:((backTo cpos (starEach (e::es) X.env)).all (λx=>!x.1)&&(backToKw cpos (keywordEach [] X.env)).all (λx=>x.1.isSome)
   && decide ((e::es).length+([]:List Keyword).length+(if ([]:List Keyword).isEmpty then 0 else 1)<30))=true:=by rfl) (j:(apos.endLine==cpos.line)=true:=by rfl) (hs:starEach (e::es) X.env=(false,eval e X.env)::starEach es X.env:=by rfl) (d:(backTo cpos (starEach es X.env)).any (·.1)=false:=by rfl):QE X (.Call (.Attribute o name apos) (e::es) [] cpos) (Ot X.K T r to t):=
 ⟨aeU F slot B hm D.out ha.out g q j hs d⟩
def xT (B:PlainAttrs T)(slot:Slot T name id)(j:typeOf (.builtin id)=pure (.type "method_descriptor"))(hm:sO X id r)(q:QE X o to)(d:attributeBase o name X.env (eval o X.env)=eval o X.env:=by rfl)(g:(apos.endLine==cpos.line)=true:=by rfl):QE X (.Call (.Attribute o name apos) [] [] cpos) (ac3 X.K T r to):=⟨ac4 B slot j hm q.out d g⟩
def qQ {x:Str}{v:V}{u:Value}{pos:Pos}(g:Gl X x)(hm:X.mg x=none)(hv:bootBuiltins x=some u)(r:bD v u)(hn:x≠"__name__":=by decide)(hd:(x==("__debug__":Str))=false:=by decide):QE X (.Name x pos) (tC v):=⟨aal g hm hv r hn hd⟩
def O6 {x:Str}{v:V}{u:Value}{pos:Pos}(g:Gl X x)(hm:X.mg x=some u)(r:bD v u)(hd:(x==("__debug__":Str))=false:=by decide):QE X (.Name x pos) (tC v):=⟨aak g hm r hd⟩
def d9 {l:Expr}{tl:TE}(d:QE X l tl):QI X tg l (Cg X.K tl):=⟨aaq d.out⟩
def iJ {l:Expr}{tl:TE}(d:QE X l tl):QI X tg l (acG X.K tl):=⟨acH d.out⟩
def jw {a:Expr}{ta:TA}{p pos:Pos}(g:Gl X "range")(hm:X.mg "range"=none)(ha:QA X [a] ta)(hs:starEach [a] X.env=[(false,eval a X.env)]:=by rfl):QI X tg (.Call (.Name "range" p) [a] [] pos) (Zn ta):=⟨TF g hm ha.out hs⟩
def d_ (g:QE X e ta)(d:attributeBase e f X.env (eval e X.env)=eval e X.env):QE X (.Attribute e f pos) (acN X.K ta f):=⟨acP g.out d⟩
end
section
variable {X:Cx}{CX:pI}{k:Nat}{f C:Addr}{fd:FuncData}{ps:List Str}{sp:Sp}{h_:List V}{ds:List Value}{E:XK}{m:Str}{pos apos:Pos}{e o:Expr}{es:List Expr}{ta:TE}{t:TA}
variable {x:Str}{p:Pos}
variable {i:Expr}{td ty:TE}
variable {value:Expr}{tv:TE}{pos':Pos}
variable {a b:Expr}
def oK {pl:Sem Bool}(D:QE X o ta)(c:Cls X.K C)(hm:Meth X.K C m f)(F:dU X.prog X.w X.K X.mg X.base CX k f fd ps sp)(B:cW k X.A)(j:cB X.K fd ps ds)(hd:Vals h_ ds)(hx:Passes CX X E)(ha:QA X (e::es) t)(d:starEach (e::es) X.env=(false,eval e X.env)::starEach es X.env:=by rfl)(g:(backTo pos (starEach es X.env)).any (·.1)=false:=by rfl)(q:eval (.Call (.Attribute o m apos) (e::es) [] pos) X.env=(do
   let ov <- eval o X.env
   standAt apos.atName
   let (f,first) <- holding [ov] (getMethod ov m pl)
   callWith pos f first (backTo pos (starEach (e::es) X.env)) (backToKw pos (keywordEach [] X.env))):=by rfl):QE X (.Call (.Attribute o m apos) (e::es) [] pos) (Ck C m sp h_ E ta t):=
 ⟨aax D.out c hm F B j hd hx ha.out d g q⟩
def Ax {pl:Sem Bool}(q:QE X o ta)(c:Cls X.K C)(hm:Meth X.K C m f)(F:dU X.prog X.w X.K X.mg X.base CX k f fd ps sp)(j:cW k X.A)(d:cB X.K fd ps ds)(hd:Vals h_ ds)(hx:Passes CX X E)(g:eval (.Call (.Attribute o m apos) [] [] pos) X.env=(do
   let ov <- eval o X.env
   standAt apos.atName
   let (f,first) <- holding [ov] (getMethod ov m pl)
   callWith pos f first (backTo pos (starEach [] X.env)) (backToKw pos (keywordEach [] X.env))):=by rfl):QE X (.Call (.Attribute o m apos) [] [] pos) (Ck C m sp h_ E ta lK):=
 ⟨Xd q.out c hm F j d hd hx g⟩
def zu (M:Mk X.K C f)(F:dU X.prog X.w X.K X.mg X.base CX k f fd ps sp)(B:cW (k+1) X.A)(q:Gl X x)(hm:X.mg x=some (.ref C))(j:cB X.K fd ps ds)(hd:Vals h_ ds)(hx:Passes CX X E)(ha:QA X (e::es) t)(d:(x==("__debug__":Str))=false:=by decide)(D:starEach (e::es) X.env=(false,eval e X.env)::starEach es X.env:=by rfl)(g:(backTo pos (starEach es X.env)).any (·.1)=false:=by rfl):QE X (.Call (.Name x p) (e::es) [] pos) (Zr C sp h_ E t):=⟨aay M F B q hm j hd hx ha.out d D g⟩
def J2  : QE X (.Dict [] [] pos) Ue:=⟨Xo⟩
def adi (d:X.A.units+1<cLine)(hi:QE X i ty)(g:QE X o td):QC X .In i o (ac9 ty td):=⟨ac_ d hi.out g.out⟩
def Fe (g:X.A.units+1<cLine)(d:QE X o td)(hi:QE X i ty)(hv:QE X value tv)(hs:swapsWith value (some (.Subscript o i pos')) pos.line X.env=pure false):QS X (.Assign [.Subscript o i pos'] value pos) (Zx td ty tv):=⟨aaH g d.out hi.out hv.out hs⟩
def adk {op:CmpOp}{t:TE}(h:QC X op a b t)(h1:behindInMarks op b=false:=by first|show W0 _ v_ v_|rfl):QE X (.Compare a [op] [b] pos) t:=⟨acj h.out h1⟩
def qv (i:Nat){x:Str}{pos:Pos}(N:X.N[i]?=some x:=by rfl)(hv:Tj X.env.scope x:=by first|show Or.inl rfl|show Or.inr (Or.inl rQ)|show Or.inr (Or.inr rQ))(hd:(x==("__debug__":Str))=false:=by decide)(d:(x==("__classdict__":Str))=false:=by decide):QE X (.Name x pos) (dj i):=⟨pv i N hv hd d⟩
def aH {X:Cx}{x:Str}{pos:Pos}:=@qv X 0 x pos
def bx {X:Cx}{x:Str}{pos:Pos}:=@qv X 1 x pos
def bH {X:Cx}{x:Str}{pos:Pos}:=@qv X 2 x pos
def cD {X:Cx}{x:Str}{pos:Pos}:=@qv X 3 x pos
def cJ {X:Cx}{x:Str}{pos:Pos}:=@qv X 4 x pos
def cC {X:Cx}{x:Str}{pos:Pos}:=@qv X 5 x pos
def dZ {X:Cx}{x:Str}{pos:Pos}:=@qv X 6 x pos
def jC {X:Cx}{x:Str}{pos:Pos}:=@qv X 7 x pos
def qG {X:Cx}{x:Str}{pos:Pos}:=@qv X 8 x pos
def cZ {X:Cx}:Uq X [] iC:=⟨aaJ⟩
def uF {X:Cx}{c:Expr}{t:TT}(h:QT X c t):Uq X [c] t:=⟨aaK h.out⟩
end
section
variable {X:Cx}
def bY (l:List Nat){x:Str}{j pos}(h:x=S l):QE X (.Constant (.str x) j pos) (tC (.str (S l))):=⟨aaM l h⟩
end
section
variable {X:Cx}{x:Str}{p pos:Pos}{e:Expr}{es:List Expr}{t:TA}
variable {st:Expr}{te G6:TE}{p2:Pos}
def bf {k:Nat}{ps:List Str}{sp:Sp}(D:bF X.prog X.w X.K X.mg X.base x k ps sp)(q:cW k X.A)(j:Gl X x)(ha:QA X (e::es) t)(d:(x==("__debug__":Str))=false:=by decide)(hs:starEach (e::es) X.env=(false,eval e X.env)::starEach es X.env:=by rfl)(g:(backTo pos (starEach es X.env)).any (·.1)=false:=by rfl):QE X (.Call (.Name x p) (e::es) [] pos) (qD sp [] E0 t):=⟨ade D q j ha.out d hs g⟩
def aaQ (g:QE X e te)(d:QE X st G6):QE X (.Subscript e (.Slice none none (some st) p2) pos) (ZF te G6):=⟨aaO g.out d.out⟩
end
def f9 {X:Cx}{d iter:Expr}{x:Str}{g:Pos}{ifs:List Expr}{scope:Scope}{pos:Pos}{wi:TI}{tt:TT}{te:TE}(q:X.calm=true)(ok:fD X scope x)(hi:QI X (.Name x g) iter wi)(j:∀cl C s₀ H₀ fp,Uq (blk X scope cl C x s₀ H₀ fp) ifs tt)(B:∀cl C s₀ H₀ fp,QE (blk X scope cl C x s₀ H₀ fp) d te)(hs:∀x,foldedSetIterable iter X.env x=pure x:=by intro _;rfl):QE X (.ListComp d [⟨.Name x g,iter,ifs,0⟩] scope pos) (Cy wi tt te):=⟨aaL q ok hi.out (λcl C s₀ H₀ fp=>(j cl C s₀ H₀ fp).out) (λcl C s₀ H₀ fp=>(B cl C s₀ H₀ fp).out) hs⟩
def rfg {as:List Addr}{n:Nat}{x:V}(h:(as.map V.ref)[n]?=some x):∃h:n<as.length,V.ref as[n]=x:=by
 let hn:n<as.length:=by have:=(ai.mp h).1;simpa using this
 rw[ba,ah hn]at h;show⟨hn,be h⟩
def aL.dD {P:Program}{w:World}{K:W.Frag}{mg:Str->Option Value}{base:Heap}{name:Str}{st:Stmt}{N ps:List Str}{k:Nat}{sp:Sp}(D:aL K mg name st ps)(S:aV N ps (aF st))(d:∀(f:Addr) (bw:Value) (A:Around) (outer:List Env) (s:Shared) (H:Hp) (vs:List V) (Q:VK) (E:XK),cW k (A.deeper (envOfC name (aF st) s.heap.objs.size f bw))->sp vs H Q E->
   ∃t,sW (nH fB P w K mg base N name (aF st) f bw A outer s H E).xG (b_ st) t/\t {nx:=λ_ H'=>Q .non H',rt:=Q} (start N vs) H) (len:∀vs H Q E,sp vs H Q E->vs.length=ps.length:=by intro _ _ _ _ h;repeat (first|(let⟨rfl,_⟩:=h;rfl)|let⟨_,h⟩:=h)):bF P w K mg base name (k+1) ps sp:=
 D.ok S len λf bw A outer s H vs Q E g h=>let ⟨t,a,b⟩:=d f bw A outer s H vs Q E g h;⟨t,a.out,b⟩
def gw.dD {P:Program}{w:World}{K:W.Frag}{mg:Str->Option Value}{base:Heap}{x qual:Str}{st:Stmt}{f:Addr}{fd:FuncData}{N ps:List Str}{k:Nat}{sp:Sp}(F:gw K x qual st f fd)(S:aV N ps (aF st))(d:∀(bw:Value) (A:Around) (outer:List Env) (s:Shared) (H:Hp) (vs:List V) (Q:VK) (E:XK),cW k (A.deeper (envOfC qual (aF st) s.heap.objs.size f bw))->sp vs H Q E->
   ∃t,sW (nH fB P w K mg base N qual (aF st) f bw A outer s H E).xG (b_ st) t/\t {nx:=λ_ H'=>Q .non H',rt:=Q} (start N vs) H) (len:∀vs H Q E,sp vs H Q E->vs.length=ps.length:=by intro _ _ _ _ h;repeat (first|(let⟨rfl,_⟩:=h;rfl)|let⟨_,h⟩:=h)):dU P w K mg base fB (k+1) f fd ps sp:=
 F.ok S len λbw A outer s H vs Q E g h=>let ⟨t,a,b⟩:=d bw A outer s H vs Q E g h;⟨t,a.out,b⟩
def gw.afD {P:Program}{w:World}{K:W.Frag}{mg:Str->Option Value}{base:Heap}{x qual y:Str}{st:Stmt}{f:Addr}{fd:FuncData}{N:List Str}{k:Nat}{sp:Sp}(F:gw K x qual st f fd)(S:aV N [y] (aF st))(g:(aF st).names.lookup y=some .local)(len:∀vs H Q E,sp vs H Q E->vs.length=1)(d:∀(bw:Value) (A:Around) (outer:List Env) (s:Shared) (H:Hp) (vs:List V) (Q:VK) (E:XK),cW k (A.deeper (envOfC qual (aF st) s.heap.objs.size f bw))->sp vs H Q E->
   ∃t,sW (nH fB P w K mg base N qual (aF st) f bw A outer s H E).xG (b_ st) t/\t {nx:=λ_ H'=>Q .non H',rt:=Q} (start N vs) H):nG P w K mg base fB (k+1) f fd [y] sp:=
 F.okL S g len λbw A outer s H vs Q E j h=>let ⟨t,a,b⟩:=d bw A outer s H vs Q E j h;⟨t,a.out,b⟩
section
variable {prog:Program}{w:World}{A:Around}{E:AB}{s:Shared}
def Rn {v:Value}{Q:AB}(G:wpAny (model prog w) A.in1 (collect v) (λvs s1=>∃ss,StrsAre vs ss/\vs.length<64/\
   ∀(h':Heap) (g:List Value) (d:List Str) (e:Nat),(∀b o,s1.heap.get? b=some o->h'.get? b=some o)->h'.get? s1.heap.objs.size=some (seqObj "list" g.toArray e)->StrsAre g d->d.Perm ss->sortedS d=true->
    Q (.ref s1.heap.objs.size) {s1 with heap:=h' }) E s):wpAny (model prog w) A (call (.builtin "sorted") [v]) Q E s:=by
 calc Calls.call_function_entry kind_sorted plain_sorted entry_sorted (args_sorted1 _) ?_;unfold Builtin.«sorted»;calc aa (m:=checkCount "sorted" 1 1 _) (ag ?_);calc aa (bA G λvs s1 ⟨ss,j,q,h⟩=>?_);calc aa (wpAny_newList ?_);let L:(s1.heap.push (seqObj "list" vs.toArray 0)).get? s1.heap.objs.size=some (seqObj "list" vs.toArray 0):=ap _ rfl;refine aa (eD (c_ slot_list_sort (s:={s1 with heap:=s1.heap.push (seqObj "list" vs.toArray 0)}) ⟨_,L,rQ⟩ entry_list_sort
  (list_sort_treeK (s:={s1 with heap:=s1.heap.push (seqObj "list" vs.toArray 0)}) strKind_oneLt L j.keysOf (λM N rest e=>keyKind_strs (by rw[<-e];show j)) q λst' hp hs=>⟨_,rQ,?_⟩) (args_list_sort _)))
 let⟨d,h1,D,J⟩:=sorted_out_str j hp hs;let⟨e,F⟩:=sortedHeap_at (vs:=vs) (out:=(arrOf st').map (·.2)) L;calc ag ⟨_,rQ,h _ ((arrOf st').map (·.2)).toList d e (λb o z=>?_) (by rw[sf];show F) h1 D J⟩;let B:b<s1.heap.objs.size:=a7 z;rw[sortedHeap_old (bb B) (by rw[dC];show eL B)];show ae _ z
theorem rE:∀{ss:List Str} {us:List Value},StrsAre us ss->Vals (ss.map V.str) us
 | _,_,.nil=>.nil
 | _,_,.cons x t r=>.cons ⟨t,rQ⟩ (rE r)
end
def Its (l:List Nat):It:=⟨λi _=>i<l.length,λi H x H'=>H'=H/\∃c,l[i]?=some c/\x=.str (S [c]),λi _=>l.length<=i⟩
def Xw {P:Program}{w:World}{K:W.Frag}{tg:Expr}{ty:String}(B:ty="str_ascii_iterator"\/ty="str_iterator")(l:List Nat)(t:Tok)(it:Addr):Turn P w K tg (Its l) [it] it (λi h=>i<=l.length/\h.IsStrIter it ty (S l) t i) where
 mem:=by simp
 obj:=λi h st b q=>by
  let e:b=it:=by simpa using q
  subst e;let⟨_,o,e,c,d⟩:=st;show⟨o,e,λv z=>by rw[d]at z;cases z⟩
 keep:=λi h h' st k=>⟨st.1,let ⟨o,ho,r⟩:=st.2;⟨o,k it v0 o ho,r⟩⟩
 item:=by
  intro X N hw O G i ak s σ H E I M st L;subst N hw O;let⟨f0,f1,f2,f3,f4,f5⟩:=M it v0;let F:i<(S l).cps.size:=L;let J:∀(v:Value) (h':Heap) (g:Nat),SignAt (S l) i v->h'.IsStrIter it ty (S l) t (i+1)->(∀b o,b∉[it]->s.heap.get? b=some o->h'.get? b=some o)->s.toks<=g->
    ∃u,some v=some u/\wpAny (model X.prog X.w) X.A (letOwnedTupleGo tg (.ref it) u) (λ_ s2=>∃x H',aG X ak σ H' s2/\bD x u/\(Its l).zY i H x H'/\(i+1<=l.length/\s2.heap.IsStrIter it ty (S l) t (i+1))/\∀b∈[it],H' b=none) E {s with heap:=h',toks:=g}:=by
   intro v h' g hv st' j D;let⟨c,u,Y,rfl⟩:=hv;let Z:aG X ak σ H {s with heap:=h',toks:=g}:=I.turned (λb o q e=>j b o (by simpa using q) e) f0 f1 f3 f4 f5;let⟨o,e,c2,d2⟩:=id st';refine⟨_,rQ,Cd (s:={s with heap:=h',toks:=g}) e c2 d2 (by rcases B with rfl|rfl <;> decide) ⟨.str (S [c]),H,Z,⟨u,rQ⟩,⟨rQ,c,by simpa [S] using Y,rQ⟩,⟨L,st'⟩,λb q=>(M b q).1⟩⟩
  rcases B with rfl|rfl;.show bR ((Walks.strAscii (prog:=X.prog) (w:=X.w) (I.ok.hd G) it (S l) t).item i s _ _ F st.2 λv h' g hv st' j D=>J v h' g hv st' j D)
  .show bR ((Walks.strWide (prog:=X.prog) (w:=X.w) (I.ok.hd G) it (S l) t).item i s _ _ F st.2 λv h' g hv st' j D=>J v h' g hv st' j D)
 done:=by
  intro X N hw O G i ak s σ H E I M st L;subst N hw O;let⟨f0,f1,f2,f3,f4,f5⟩:=M it v0;let hi:i=(S l).cps.size:=vx st.1 L;let st':=st.2;rw[hi]at st';rcases B with rfl|rfl;.show bR ((Walks.strAscii (prog:=X.prog) (w:=X.w) (I.ok.hd G) it (S l) t).done s _ _ st' λh' g j D=>⟨rQ,I.turned (λb o q e=>j b o (by simpa using q) e) f0 f1 f3 f4 f5⟩)
  .show bR ((Walks.strWide (prog:=X.prog) (w:=X.w) (I.ok.hd G) it (S l) t).done s _ _ st' λh' g j D=>⟨rQ,I.turned (λb o q e=>j b o (by simpa using q) e) f0 f1 f3 f4 f5⟩)
 self:=λA i s Q E st h=>by
  rcases B with rfl|rfl;.show wpAny_pyIter_striter_ascii st.2 h
  .show wpAny_pyIter_striter_wide st.2 h
def Us {a b c:List Nat}(h1:¬b<a)(j:¬c<b):¬c<a:=by let d:a<=b:=h1;let g:b<=c:=j;show List.le_trans d g
theorem G8:∀(r:List Str) (p:Str),risingS p r=true->(∀x∈r,¬x.cps.toList<p.cps.toList)/\(r.map λy=>y.cps.toList).Pairwise (λa b=>decide (b<a)=false)
 | [],_,_=>⟨λ_ h=>by simp at h,List.Pairwise.nil⟩
 | y::r,p,h=>by
  rw[risingS,c9]at h;let d:¬y.cps.toList<p.cps.toList:=by have:=h.1;simpa [ltCps_eq] using this
  let⟨h1,j⟩:=G8 r y h.2;refine⟨λx hx=>?_,?_⟩
  .rcases a_.mp hx with e|e;.rw[e];show d
   .show Us d (h1 x e)
  .rw[bX];calc List.Pairwise.cons (λb g=>?_) j;let⟨x,hx,rfl⟩:=aT.mp g;show al (h1 x hx)
def G9 (ss:List Str)(h:sortedS ss=true):(ss.map λy=>y.cps.toList).Pairwise (λa b=>decide (b<a)=false):=by
 cases ss with| nil=>show List.Pairwise.nil| cons x r=>let⟨h1,j⟩:=G8 r x h;rw[bX];calc List.Pairwise.cons (λb d=>?_) j;let⟨y,g,rfl⟩:=aT.mp d;show al (h1 y g)
section
variable {X:Cx}{tg:Expr}
def afE (tl:TE):TI:=λσ H R=>tl σ H λx H1=>∃l,x=.str (S l)/\R (Its l) H1
def xU {l:Expr}{tl:TE}(j:QE X l tl):QI X tg l (afE tl):=⟨by
 intro ak s σ H R I h;calc bA (j.out ak s σ H _ I h) λv s1 D=>?_;let⟨x,H1,d,r1,q1⟩:=D;let⟨l,e,q⟩:=q1;subst e;let⟨t,rfl⟩:=r1;calc ng ?_;let g:strIterType (S l)="str_ascii_iterator"\/strIterType (S l)="str_iterator":=by unfold strIterType;split <;> simp
 calc⟨s1.heap.objs.size,[s1.heap.objs.size],_,_,H1,rQ,d.kept (t':=s1.toks) λb o e=>ae _ e,Xw g l t _,⟨cn _,_,ap _ rQ,rQ,rQ⟩,λb B=>?_,q⟩;let e:b=s1.heap.objs.size:=by simpa using B
 subst e;show d.nC (af _) (d.hok.fresh (af _))⟩
def vB {l:List Nat}{D:Addr}{te:TE}{σ:St}{H:Hp}{R:Hp->Prop}(d:Nat->List V->Hp->Prop)(j:d 0 [] (upd H D (.lst [])))(hs:∀i c ys H,l[i]?=some c->d i ys H->te (some (.str (S [c]))::σ) H (Av l.length i D ys (d (i+1))))(hd:∀ys H,d l.length ys H->R H):rB (Its l) D H R (JX σ iC te):=Fd l.length d j (λi ys H h p=>⟨h,λx H' y=>by let⟨rfl,c,g,rfl⟩:=y;show hs i c ys _ g p⟩) λys H p=>⟨af _,hd ys H p⟩
def mV (L:X.calm=true):fU X (.builtin "all") (λxs H Q=>∃(p:Addr) (bs:List Bool),xs=[.ref p]/\aP X.K H p (bs.map V.bl)/\Q (.bl (bs.all id)) H):=by
 intro ak s σ H xs us Q I r h;let⟨p,bs,rfl,hq,q⟩:=h;let⟨u,rfl,j⟩:=vals1 r;cases j;let⟨its,B,pl,hz⟩:=I.list hq;let F:p≠s.heap.objs.size:=by let⟨o,N,_⟩:=pl.isList;show bb (a7 N)
 let Y:∀(i:Nat) (v:Value),its[i]?=some v->v=.bool (bs.getD i true):=λi v hv=>by
  let O:=B.length;let hi:i<bs.length:=by have:=(ai.mp hv).1;simp at O;simp_all
  let⟨u,G,j⟩:=B.get (i:=i) (x:=.bl bs[i]) (by simp[hi]);rw[hv]at G;cases G;cases j;simp[List.getD,hi]
 calc bR (call_all_walk (mP pl.isList ?_));refine⟨s.heap.objs.size,_,_,_,_,_,λi=>bs.getD i true,rQ,Walks.list (A:=X.A.in1) (I.ok.hd L) s.heap.objs.size p F its.toArray,⟨⟨_,ap _ rQ,rQ,rQ⟩,pl.isList.at λo e=>ae _ e⟩,?_,λh' Z M ht=>?_⟩
 .intro i v s' Q' E' hv D;let e:=Y i v (by simpa using hv);subst e;show ef D
 .let J:aG X ak σ H {s with heap:=h',toks:=Z}:=I.kept λb o e=>M b o (by
   intro hm;have:b=s.heap.objs.size:=by simpa using hm
   subst this;show absurd (a7 e) (iX _)) (ae _ e)
  calc⟨.bl (bs.all id),H,J,?_,q⟩;show Value.bool _=Value.bool _;let O:its.toArray.size=bs.length:=by have:=B.length;simp at this;simp[this]
  rw[O];congr 1;let d:∀bs:List Bool,(List.range bs.length).all (λi=>bs.getD i true)=bs.all id:=λbs=>by
   rw[me,i7,i7];constructor
   .intro h x hx;let⟨i,hi,rfl⟩:=cq.mp hx;have:=h i (bv.mpr hi);simpa [List.getD,hi] using this
   .intro h i hi;let g:=bv.mp hi;have:=h bs[i] (bg _);simpa [List.getD,g] using this
  show d bs
def Xx:R2:=λx y H Q=>∃i j,x=.str (S i)/\y=.str (S j)/\Q (.bl (!decide (j<i))) H
def uG:dY X (compareOp .LtE) Xx:=by intro ak s σ H x y v u Q I d g h;let⟨i,j,rfl,rfl,q⟩:=h;let⟨t,rfl⟩:=d;let⟨t',rfl⟩:=g;show vS ⟨.bl _,H,I,rQ,q⟩
abbrev gC (l:List Nat):Key:=Sum.inr (S l)
def J3 (hc:X.calm=true):fU X (.builtin "sorted") (λxs H Q=>∃(d:Addr) (kvs:List (Key×V)) (ws:AA),xs=[.ref d]/\H d=some (.dK kvs)/\kvs.map (·.1)=ws.map gC/\ws.length<64/\
  ∀(p:Addr) (F:AA),H p=none->F.Perm ws->F.Pairwise (λa b=>decide (b<a)=false)->Q (.ref p) (upd H p (.lst (Ts F)))):=by
 intro ak s σ H xs us Q I r h;let⟨d,kvs,ws,rfl,hd,hk,O,q⟩:=h;let⟨u,rfl,ru⟩:=vals1 r;cases ru;let⟨hz,lo,vs,L,dd⟩:=Rh I.hok hd;let⟨ep,Y⟩:=dd.dictAt;let hkv:=KV.keys L;let xV:vs.length=ws.length:=by let h1:=KV.length L;let h2:=congrArg List.length hk;simp at h2;lia
 calc bR (Rn (W.kdu_collect (A:=X.A.in1) (W.kdl_dict (knd:=cQ X.prog X.w) (kvs:=vs) (ep:=ep) lo) (I.ok.hd hc) Y (by rw[xV];show aI (aK vT)) λh' tk acc kk B=>?_));let hS:StrsAre acc.toList (ws.map S):=by
  let N:∀(l:List Value) (m:AA),l.length=m.length->(∀(j:Nat) v,l[j]?=some v->∃c,m[j]?=some c/\∃u,v=.str (S c) u)->StrsAre l (m.map S):=by
   intro l
   induction l with
   | nil=>intro m G _;cases m with|nil=>show .nil|cons c r=>simp at G
   | cons a r ih=>
    intro m G hv;cases m with
    | nil=>simp at G
    | cons c m=>
     let⟨c',e,u,rfl⟩:=hv 0 a rfl;let e':c=c':=by simpa using e
     subst e';show .cons _ u (ih m (by simpa using G) λj v M=>hv (j+1) v M)
  calc N _ _ (by rw[bn,B.1,xV]) λj v M=>?_;let⟨k,x,hx,hi⟩:=B.2 j v (by simpa using M);let D:(ws.map gC)[j]?=some k:=by rw[<-hk,hkv,ba,hx];rfl
  rw[ba]at D;cases hw:ws[j]? with
  | none=>rw[hw]at D;cases D
  | some c=>
   rw[hw]at D;let e:gC c=k:=by simpa using D
   subst e;calc⟨c,rQ,?_⟩;rcases cV (show jc (Sum.inr (S c)) v=true from hi) with⟨i,t,e1,_⟩|⟨y,t,e1,e2⟩;.cases e1
   .cases e1;show⟨t,e2⟩
 calc⟨_,hS,by rw[bn,B.1,xV];show O,λh2 J g e k2 he Z pm so ht=>?_⟩;let I1:aG X ak σ H {s with heap:=h',toks:=tk}:=I.kept kk;let es:g=(g.map λy=>y.cps.toList).map S:=by rw[dS];calc(kF _).symm.trans (e6 λy _=>?_);show(adb y).symm
 let uH:(g.map λy=>y.cps.toList).Perm ws:=by have:=pm.map λy:Str=>y.cps.toList;rw[dS]at this;let e:((λy:Str=>y.cps.toList) ∘ S)=id:=rfl;rw[e,kF]at this;show this
 let hv:Vals (Ts (g.map λy=>y.cps.toList)) J:=by have:=rE Z;rw[es]at this;simpa [Ts,Function.comp_def] using this
 let G:(Ts (g.map λy=>y.cps.toList)).length<=sizeLine:=by rw[ab,uH.length_eq];show aI (aK vT)
 refine⟨.ref h'.objs.size,_,I1.laid (o:=.lst _) (t':=tk) k2 (af _) ⟨G,J,e,hv,he⟩,rQ,q _ _ I1.fresh uH (G9 g so)⟩
def QI.or {iter:Expr}{w1 d:TI}(h1:QI X tg iter w1)(g:QI X tg iter d):QI X tg iter (λσ H R=>w1 σ H R\/d σ H R):=⟨λak s σ H R I h=>by
 rcases h with h|h;.show h1.out ak s σ H R I h
 .show g.out ak s σ H R I h⟩
end
def aP.keep {K:W.Frag}{H H':Hp}{a p:Addr}{xs:List V}(k:∀b o,H b=some o->b≠p->H' b=some o)(hp:∀o,H p=some o->(∀ys,o≠.lst ys)/\∀u ys,o≠.cH u (.lst ys))(h:aP K H a xs):aP K H' a xs:=by
 rcases h with(h|⟨o,h⟩)|h;.show .inl (.inl (k _ _ h λe=>(hp _ (e ▸ h)).1 _ rQ))
 .show .inl (.inr ⟨o,k _ _ h λe=>(hp _ (e ▸ h)).2 _ _ rQ⟩)
 .show .inr h
def aU.keep {K:W.Frag}{H H':Hp}{a p:Addr}{xs:List V}(k:∀b o,H b=some o->b≠p->H' b=some o)(hp:∀o,H p=some o->(∀ys,o≠.tup ys)/\∀u ys,o≠.cH u (.tup ys))(h:aU K H a xs):aU K H' a xs:=by
 rcases h with(h|⟨o,h⟩)|h;.show .inl (.inl (k _ _ h λe=>(hp _ (e ▸ h)).1 _ rQ))
 .show .inl (.inr ⟨o,k _ _ h λe=>(hp _ (e ▸ h)).2 _ _ rQ⟩)
 .show .inr h
section
variable {X:Cx}
def afF:V->List V->Hp->VK->Prop:=λx vs H Q=>∃l,x=.str (S l)/\vs=[]/\l.length<=1000/\(∀c∈l,c<128)/\Q (.str (S (l.map up1))) H
def Ut:sO X "str.upper" afF:=by
 intro ak s σ H x vs v us Q I B j h;let⟨l,rfl,rfl,hz,ha,q⟩:=h;let⟨t,rfl⟩:=B;let g:=j.zero;subst g;let d:Builtin.Str.tooLong (Txt.upper (S l)).length=false:=fit_upper (by rw[jB];lia);calc call_gives F.slot_str_upper (typeIs_str s _ t) F.entry_str_upper (F.args_str_upper_1 _) (gives_str_upper (S l) t d) ⟨fit_le d,?_⟩;let e:Txt.upper (S l)=S (l.map up1):=by rw[upper_ascii (x:=S l) ha];simp[S]
 show⟨.str (S (l.map up1)),H,I.tok _,⟨s.toks,congrArg (λz=>Value.str z s.toks) e⟩,q⟩
def afG:V->List V->Hp->VK->Prop:=λx vs H Q=>∃l,x=.str (S l)/\vs=[]/\l.length<=1000/\(∀c∈l,c<128)/\Q (.str (S (l.map lo1))) H
def J4:sO X "str.lower" afG:=by
 intro ak s σ H x vs v us Q I B j h;let⟨l,rfl,rfl,hz,ha,q⟩:=h;let⟨t,rfl⟩:=B;let g:=j.zero;subst g;let d:Builtin.Str.tooLong (Txt.lower (S l)).length=false:=fit_lower (by rw[jB];lia);calc call_gives F.slot_str_lower (typeIs_str s _ t) F.entry_str_lower (F.args_str_lower_1 _) (gives_str_lower (S l) t d) ⟨fit_le d,?_⟩;let e:Txt.lower (S l)=S (l.map lo1):=by rw[lower_ascii (x:=S l) ha];simp[S]
 show⟨.str (S (l.map lo1)),H,I.tok _,⟨s.toks,congrArg (λz=>Value.str z s.toks) e⟩,q⟩
end
def AL:List Nat:=(List.range 26).map (97 + ·)
def Ay {ds:List Int}{lo hi:Option Int}{v:V}(h:v∈ig (ds.map V.int) lo hi):∃d∈ds,v=.int d:=by unfold ig at h;let g:=iF (gv h);let⟨d,hd,e⟩:=aT.mp g;show⟨d,hd,e.symm⟩
def O7 {α:Type}{xs:List α}{n:Nat}(hn:xs.length=n)(h:0<n)(c:Int):∃v,jL xs (c%(n:Int))=some v/\v∈xs:=by
 let g:0<=c%(n:Int):=eB _ vT;let h1:c%(n:Int)<n:=de _ (ph hG h);obtain⟨k,hk⟩:∃k:Nat,c%(n:Int)=(k:Int):=⟨(c%(n:Int)).toNat,vT⟩
 rw[hk];let d:k<xs.length:=by simp_all
 show⟨xs[k],aO (by simp[d]),bg _⟩
inductive Dt where
 | non|int (i:Int)|str (l:List Nat)|tup (ds:List Dt)|lst (ds:List Dt)
mutual
def toP:Dt->PyData
 | .non=>.none
 | .int i=>.int i
 | .str l=>.str (S l)
 | .tup ds=>.tuple (dG ds)
 | .lst ds=>.list (dG ds)
def dG:List Dt->List PyData
 | []=>[]
 | d::ds=>toP d::dG ds
end
mutual
theorem CN:∀d e:Dt,PyData.eqv (toP d) (toP e)=true↔d=e
 | .non,.non=>by simp[toP,PyData.eqv]
 | .non,.int _=>by simp[toP,PyData.eqv]
 | .non,.str _=>by simp[toP,PyData.eqv]
 | .non,.tup _=>by simp[toP,PyData.eqv]
 | .non,.lst _=>by simp[toP,PyData.eqv]
 | .int _,.non=>by simp[toP,PyData.eqv]
 | .int _,.int _=>by simp[toP,PyData.eqv]
 | .int _,.str _=>by simp[toP,PyData.eqv]
 | .int _,.tup _=>by simp[toP,PyData.eqv]
 | .int _,.lst _=>by simp[toP,PyData.eqv]
 | .str _,.non=>by simp[toP,PyData.eqv]
 | .str _,.int _=>by simp[toP,PyData.eqv]
 | .str a,.str b=>by simp only[toP,PyData.eqv,beq_iff_eq,Dt.str.injEq];show⟨zm,λz=>by rw[z]⟩
 | .str _,.tup _=>by simp[toP,PyData.eqv]
 | .str _,.lst _=>by simp[toP,PyData.eqv]
 | .tup _,.non=>by simp[toP,PyData.eqv]
 | .tup _,.int _=>by simp[toP,PyData.eqv]
 | .tup _,.str _=>by simp[toP,PyData.eqv]
 | .tup ds,.tup es=>by simp only[toP,PyData.eqv,Dt.tup.injEq];show J5 ds es
 | .tup _,.lst _=>by simp[toP,PyData.eqv]
 | .lst _,.non=>by simp[toP,PyData.eqv]
 | .lst _,.int _=>by simp[toP,PyData.eqv]
 | .lst _,.str _=>by simp[toP,PyData.eqv]
 | .lst _,.tup _=>by simp[toP,PyData.eqv]
 | .lst ds,.lst es=>by simp only[toP,PyData.eqv,Dt.lst.injEq];show J5 ds es
theorem J5:∀ds es:List Dt,PyData.eqvAll (dG ds) (dG es)=true↔ds=es
 | [],[]=>by simp[dG,PyData.eqvAll]
 | [],_::_=>by simp[dG,PyData.eqvAll]
 | _::_,[]=>by simp[dG,PyData.eqvAll]
 | d::ds,e::es=>by simp only[dG,PyData.eqvAll,c9,List.cons.injEq];rw[CN d e,J5 ds es]
end
open Classical in
def O8 (d e:Dt):PyData.eqv (toP d) (toP e)=decide (d=e):=by
 by_cases h:d=e;.rw[aw h];show(CN d e).mpr h
 .rw[al h];cases z:PyData.eqv (toP d) (toP e) with| false=>rfl| true=>show absurd ((CN d e).mp z) h
mutual
inductive gD (K:W.Frag) (H:Hp):Nat->Dt->V->Prop
 | non {n}:gD K H n .non .non
 | int {n} (i:Int):gD K H n (.int i) (.int i)
 | str {n} (l:List Nat) (h:∀c∈l,c<128):gD K H n (.str l) (.str (S l))
 | tup {n a ds xs} (h:aU K H a xs) (hs:jD K H n ds xs):gD K H (n+1) (.tup ds) (.ref a)
 | lst {n a ds xs} (h:aP K H a xs) (hs:jD K H n ds xs):gD K H (n+1) (.lst ds) (.ref a)
inductive jD (K:W.Frag) (H:Hp):Nat->List Dt->List V->Prop
 | nil {n}:jD K H n [] []
 | cons {n d ds x xs} (h:gD K H n d x) (hs:jD K H n ds xs):jD K H n (d::ds) (x::xs)
end
def O9 {l:List Nat}(h:∀c∈l,c<128):PyData.strOk (S l)=true:=by unfold PyData.strOk;show l.toArray.all _=true;rw[Array.all_eq_true_iff_forall_mem];intro x hx;have:=h x (by simpa using hx);show aw vT
mutual
theorem gD.lay {K:W.Frag}{H:Hp}:∀{n:Nat} {d:Dt} {x:V},gD K H n d x->(toP d).canLay0=true/\(toP d).depth<=n
 | _,_,_,.non=>by simp[toP,PyData.canLay0,PyData.depth]
 | _,_,_,.int _=>by simp[toP,PyData.canLay0,PyData.depth]
 | _,_,_,.str l h=>by simp only[toP,PyData.canLay0,PyData.depth];show⟨O9 h,cn _⟩
 | _,_,_,.tup _ hs=>by simp only[toP,PyData.canLay0,PyData.depth];have:=hs.lay;show⟨this.1,gm this.2⟩
 | _,_,_,.lst _ hs=>by simp only[toP,PyData.canLay0,PyData.depth];have:=hs.lay;show⟨this.1,gm this.2⟩
theorem jD.lay {K:W.Frag}{H:Hp}:∀{n:Nat} {ds:List Dt} {xs:List V},jD K H n ds xs->PyData.canLayAll0 (dG ds)=true/\PyData.depthAll (dG ds)<=n
 | _,_,_,.nil=>by simp[dG,PyData.canLayAll0,PyData.depthAll]
 | _,_,_,.cons h hs=>by let a:=h.lay;let b:=hs.lay;simp only[dG,PyData.canLayAll0,PyData.depthAll,c9];show⟨⟨a.1,b.1⟩,Nat.max_le.mpr ⟨a.2,b.2⟩⟩
end
mutual
theorem gD.same {K:W.Frag}{H H':Hp}(g:aA H H')(st:∀a xs,aU K H a xs->aU K H' a xs):∀{n:Nat} {d:Dt} {x:V},gD K H n d x->gD K H' n d x
 | _,_,_,.non=>.non
 | _,_,_,.int i=>.int i
 | _,_,_,.str l h=>.str l h
 | _,_,_,.tup h hs=>.tup (st _ _ h) (hs.same g st)
 | _,_,_,.lst h hs=>.lst (g.seq h) (hs.same g st)
theorem jD.same {K:W.Frag}{H H':Hp}(d:aA H H')(st:∀a xs,aU K H a xs->aU K H' a xs):∀{n:Nat} {ds:List Dt} {xs:List V},jD K H n ds xs->jD K H' n ds xs
 | _,_,_,.nil=>.nil
 | _,_,_,.cons h hs=>.cons (h.same d st) (hs.same d st)
end
def aA.adl {K:W.Frag}{H H':Hp}{a:Addr}{xs:List V}(e:aA H H')(h:aU K H a xs):aU K H' a xs:=by
 rcases h with(h|⟨o,h⟩)|h;.show .inl (.inl (e _ _ h))
 .show .inl (.inr ⟨o,e _ _ h⟩)
 .show .inr h
def gD.mv {K:W.Frag}{H H':Hp}(g:aA H H'){n:Nat}{d:Dt}{x:V}(h:gD K H n d x):gD K H' n d x:=h.same g λ_ _=>g.adl
section
variable {X:Cx}
mutual
theorem gD.reads {ak:AC}{σ:St}{H:Hp}{s:Shared}(I:aG X ak σ H s):∀{n:Nat} {d:Dt} {x:V} {u:Value},gD X.K H n d x->bD x u->∃as,Reads s.heap u (toP d) as
 | _,_,_,u,.non,r=>by cases r;show⟨[],by rw[toP];show .none⟩
 | _,_,_,u,.int i,r=>by let⟨t,rfl⟩:=r;show⟨[],by rw[toP];show .int i t⟩
 | _,_,_,u,.str l h,r=>by let⟨t,rfl⟩:=r;show⟨[],by rw[toP];show .str _ t⟩
 | _,_,_,u,.tup h hs,r=>by cases r;let⟨its,g,pl,_⟩:=I.tuple h;let⟨as,B⟩:=hs.reads I g;let⟨o,q,j,n,hd⟩:=pl;show⟨as,by rw[toP];show .tuple q j hd (by simpa using B)⟩
 | _,_,_,u,.lst h hs,r=>by cases r;let⟨its,g,pl,_⟩:=I.list h;let⟨as,B⟩:=hs.reads I g;let⟨o,q,j,n,hd⟩:=pl.isList;show⟨_::as,by rw[toP];show .list q j hd (by simpa using B)⟩
theorem jD.reads {ak:AC}{σ:St}{H:Hp}{s:Shared}(I:aG X ak σ H s):∀{n:Nat} {ds:List Dt} {xs:List V} {us:List Value},jD X.K H n ds xs->Vals xs us->∃as,ReadsAll s.heap us (dG ds) as
 | _,_,_,us,.nil,r=>by cases r;show⟨[],by rw[dG];show .nil⟩
 | _,_,_,us,.cons h hs,r=>by
  cases r with| cons q t=>let⟨as,a⟩:=h.reads I q;let⟨bs,b⟩:=hs.reads I t;show⟨as++bs,by rw[dG];show .cons a b⟩
end
def gD.shaped {K:W.Frag}{H:Hp}{n:Nat}{d:Dt}{x:V}(h:gD K H n d x)(hn:n<=64):SeqAt.shaped (toP d)=true:=by unfold SeqAt.shaped;rw[h.lay.1,aw (aS h.lay.2 hn)];rfl
open Classical in
def afH (K:W.Frag)(g:Bool):R2:=λx y H Q=>∃n d e,n<=64/\gD K H n d x/\gD K H n e y/\Q (.bl (if g then !decide (d=e) else decide (d=e))) H
def J6 (j:X.A.units+64<cLine):dY X (compareOp .NotEq) (afH X.K true):=by intro ak s σ H x y v u Q I F B h;let⟨n,d,e,hn,hd,g,q⟩:=h;let⟨as,D⟩:=hd.reads I F;let⟨bs,G⟩:=g.reads I B;calc SeqAt.compareNe_shaped D G (hd.shaped hn) (g.shaped hn) j ⟨.bl _,H,I,rQ,?_⟩;rw[O8];show q
def adn (K:W.Frag):V->List V->Hp->VK->Prop:=λx vs H Q=>∃p ls,x=.str (S [])/\vs=[.ref p]/\aU K H p (Ts ls)/\ls.flatten.length<=1000/\Q (.str (S ls.flatten)) H
def Az:sO X "str.join" (adn X.K):=by
 intro ak s σ H x vs v us Q I j d h;let⟨p,ls,rfl,rfl,B,hz,q⟩:=h;let⟨t,rfl⟩:=j;let⟨u,rfl,g⟩:=vals1 d;cases g;let⟨its,r,pl,_⟩:=I.tuple B;calc bR (join_tuple pl (ys:=ls.map S) (by simpa using zq r) ?_ λt' k D=>?_);.rw[O4];show _+_*0<=_;lia
 .show⟨.str (S ls.flatten),H,I.tok k,⟨t',congrArg (λz=>Value.str z t') (O1 ls)⟩,q⟩
end
def vC {K:W.Frag}{a D:Addr}{xs:List V}{te:TE}{σ:St}{H:Hp}{R:Hp->Prop}(d:Nat->List V->Hp->Prop)(j:d 0 [] (upd H D (.lst [])))(g:∀i ys H,i<=xs.length->d i ys H->aU K H a xs)(hs:∀i x ys H,xs[i]?=some x->d i ys H->te (some x::σ) H (Av xs.length i D ys (d (i+1))))(hd:∀ys H,d xs.length ys H->R H):rB (Ce K a) D H R (JX σ iC te):=zj d j g hs hd
section
variable {X:Cx}{x:Str}{pos:Pos}
def lq {l:List Nat}(g:Gl X x)(hm:∃t,X.mg x=some (.str (S l) t))(hd:(x==("__debug__":Str))=false:=by decide):QE X (.Name x pos) (tC (.str (S l))):=let ⟨t,e⟩:=hm;O6 g e ⟨t,rQ⟩ hd
def Ro {i:Int}(g:Gl X x)(hm:∃t,X.mg x=some (.int i t))(hd:(x==("__debug__":Str))=false:=by decide):QE X (.Name x pos) (tC (.int i)):=let ⟨t,e⟩:=hm;O6 g e ⟨t,rQ⟩ hd
def ado {o i:Expr}{to ti:TE}{t:QM}(d:QE X o to)(hi:QE X i ti)(hs:W4 X t)(ha:∀v,assign (.Subscript o i pos) X.env v=(do
   let ov <- holding [v] (eval o X.env)
   let iv <- holding [v,ov] (eval i X.env)
   standAt pos
   holding [v,ov,iv] (setItem ov iv v)
   release [v,ov,iv] []):=by intro _;rfl):QG X (.Subscript o i pos) (acC to ti t):=⟨acD d.out hi.out hs ha⟩
end
def m9:bootBuiltins "all"=some (.builtin "all"):=by decide +kernel
def G_:bootBuiltins "any"=some (.builtin "any"):=by decide +kernel
def A_ {K:W.Frag}{h:Heap}{mg:Str->Option Value}{x:Str}{l:List Nat}{t:Tok}(X:K.In h)(G:h.Ns mainGlobals mg)(a:W.nsIn K mainGlobals x=some (some (.str (S l) t))):∃t,mg x=some (.str (S l) t):=⟨t,nN X G a⟩
def J7 {K:W.Frag}{h:Heap}{mg:Str->Option Value}{x:Str}{i:Int}{t:Tok}(X:K.In h)(G:h.Ns mainGlobals mg)(a:W.nsIn K mainGlobals x=some (some (.int i t))):∃t,mg x=some (.int i t):=⟨t,nN X G a⟩
section
variable {X:Cx}
def Xy (K:W.Frag)  (h:X.K=K:=by rfl):GX X (acY K):=by subst h;show fP
def qR (K:W.Frag)  (h:X.K=K:=by rfl):GX X (Rf K):=by subst h;show cR
def Iu (K:W.Frag)  (h:X.K=K:=by rfl):fU X (.builtin "len") (λxs H Q=>∃p ys,xs=[.ref p]/\(aP K H p ys\/aU K H p ys)/\Q (.int ys.length) H):=by subst h;show cu
def J8 (K:W.Frag)  (h:X.K=K:=by rfl):fU X (.builtin "isinstance") (ZD K):=by subst h;show jR
def Xz (K:W.Frag)  (h:X.K=K:=by rfl):sO X "str.join" (rJoin K):=by subst h;show qP
def adp  {o e:Expr}{es:List Expr}{to:TE}{t:TA}{name:Str}{apos cpos:Pos}{T id:String}{r:V->List V->Hp->VK->Prop}(K:W.Frag)(F:PlainAttrs T)(slot:Slot T name id)(B:typeOf (.builtin id)=pure (.type "method_descriptor"))(hm:sO X id r)(D:QE X o to)(ha:QA X (e::es) t)(g:attributeBase o name X.env (eval o X.env)=eval o X.env:=by rfl)(q:((backTo cpos (starEach (e::es) X.env)).all (λx=>!x.1)&&(backToKw cpos (keywordEach [] X.env)).all (λx=>x.1.isSome)
   && decide ((e::es).length+([]:List Keyword).length+(if ([]:List Keyword).isEmpty then 0 else 1)<30))=true:=by rfl) (j:(apos.endLine==cpos.line)=true:=by rfl) (hs:starEach (e::es) X.env=(false,eval e X.env)::starEach es X.env:=by rfl) (d:(backTo cpos (starEach es X.env)).any (·.1)=false:=by rfl) (h:X.K=K:=by rfl):QE X (.Call (.Attribute o name apos) (e::es) [] cpos) (Ot K T r to t):=by subst h;show eN F slot B hm D ha g q j hs d
end
def d7 (l:List Nat):List Nat:=l.takeWhile λc=>c != 46
def dJ (l:List Nat):List Nat:=(l.reverse.takeWhile λc=>c != 46).reverse
theorem Ba:∀{l:List Nat} {i:Nat},l[i]?=some 46->(∀k,k<i->l[k]?≠some 46)->d7 l=l.take i
 | [],i,h,_=>by simp at h
 | c::l,0,h,_=>by
  have:c=46:=by simpa using h
  subst this;simp[d7]
 | c::l,i+1,h,hk=>by let j:c≠46:=λe=>hk 0 vT (by simp[e]);let g:=Ba (l:=l) (i:=i) (by simpa using h) (λk d=>by have:=hk (k+1) (qV d);simpa using this);unfold d7 at g ⊢;rw[tP (by simpa using j),g,sQ]
def Hf {l:List Nat}(h:46∉l):d7 l=l:=by
 unfold d7
 induction l with| nil=>rfl| cons c r ih=>have d:c≠46:=λe=>h (by rw[e];show ax);rw[tP (by simpa using d),ih λz=>h (ay _ z)]
def Uu {l:List Nat}(h:46∉l):dJ l=l:=by have:=Hf (l:=l.reverse) (by simpa using h);unfold d7 at this;unfold dJ;rw[this,List.reverse_reverse]
def XC {l:List Nat}{i:Nat}(h:l[i]?=some 46)(hk:∀k,i<k->l[k]?≠some 46):dJ l=l.drop (i+1):=by
 let hi:i<l.length:=(ai.mp h).1;let e:d7 l.reverse=l.reverse.take (l.length-(i+1)):=by
  refine Ba ?_ λk d=>?_
  .rw[rL (ci vT vT),show l.length-1-(l.length-(i+1))=i by lia];show h
  .rw[rL (by simp[fc,gf]at *;lia)];show hk _ (by simp[fc,gf]at *;lia)
 unfold d7 at e;unfold dJ;rw[e,List.take_reverse,List.reverse_reverse,show l.length-(l.length-(i+1))=i+1 by rw[gr (by assumption)]]
def J9 (l:List Nat)(n:Nat):ji l none (some (n:Int))=l.take n:=by
 unfold ji;rw[HT.m7];show (l.drop 0).take (min n l.length-0)=_;rw[tm,Nat.sub_zero];by_cases h:n<=l.length;.rw[iL h]
 .rw[q0 vT,bE (af _),bE vT]
def vD (l:List Nat)(n:Nat):ji l (some (n:Int)) none=l.drop n:=by
 unfold ji;rw[HT.m7];show (l.drop (min n l.length)).take (l.length-min n l.length)=_;rw[bE (by rw[cz];lia)];by_cases h:n<=l.length;.rw[iL h]
 .rw[q0 vT,mI (af _),mI vT]
def Ju (l:List Nat)(i j:Nat):Builtin.Str.strSub (S l) i j=S ((l.take j).drop i):=by unfold Builtin.Str.strSub S;congr 1;apply kN.mp;simp[List.drop_take]
section
variable {X:Cx}
def Uv (l:List Nat):(Txt.partition (S l) (S [46])).1=S (d7 l):=by
 rcases partition_head (S l) (S [46]) with⟨e,h⟩|⟨i,e,h,hk⟩
 .rw[e,Hf λhm=>?_];let⟨i,hi⟩:=rS.mp hm;show h i ((ga (S l) 46 i).mpr hi)
 .rw[e,Ju,tm,Ba (l:=l) ((ga (S l) 46 i).mp h) λk d z=>hk k d ((ga (S l) 46 k).mpr z)]
def Rp (l:List Nat):(Txt.rpartition (S l) (S [46])).2.2=S (dJ l):=by
 unfold Txt.rpartition;rcases StrLaws.last_spec (S l) (S [46]) with⟨e,h⟩|⟨i,e,h,hk⟩
 .rw[e];show S l=_;rw[Uu λhm=>?_];let⟨i,hi⟩:=rS.mp hm;show h i ((ga (S l) 46 i).mpr hi)
 .rw[e];show Builtin.Str.strSub (S l) (i+1) l.length=_;rw[Ju,bE (af _),XC (l:=l) ((ga (S l) 46 i).mp h) λk d z=>hk k d ((ga (S l) 46 k).mpr z)]
def ae1:V->List V->Hp->VK->Prop:=λx vs H Q=>∃l,x=.str (S l)/\vs=[.str (S [46])]/\l.length<=1000/\∀(p:Addr) (b c:Str),H p=none->Q (.ref p) (upd H p (.tup [.str (S (d7 l)),.str b,.str c]))
def aaR:sO X "str.partition" ae1:=by
 intro ak s σ H x vs v us Q I B g h;let⟨l,rfl,rfl,hz,q⟩:=h;let⟨t,rfl⟩:=B;let⟨u,rfl,j⟩:=vals1 g;let⟨D,rfl⟩:=j;let hsz:(S l).length<=sizeLine:=aI (aK hz);calc call_meets F.slot_str_partition (typeIs_str _ _ _) F.entry_str_partition (F.args_str_partition_2 _ _) (meets_str_partition (S l) (S [46]) t D rQ hsz) ?_;let e:=Uv l;let d:=λb c=>q s.heap.objs.size b c (I.hok.fresh (af _));rw[<-e]at d;unfold Txt.partition at d
 revert d
 cases Builtin.Str.occurrences (S l) (S [46]) 0 (S l).length 1 with| nil=>intro d;calc⟨.ref s.heap.objs.size,_,I.laid (o:=.tup _) (t':=s.toks+1) (λb ob z=>ae _ z) (af _) ?_,rQ,d Str.empty Str.empty⟩;show⟨zsz 3,_,.cons ⟨_,rQ⟩ (.cons ⟨_,rQ⟩ (.cons ⟨_,rQ⟩ .nil)),⟨_,ap _ rQ,rQ,0,rQ⟩⟩| cons i r=>intro d;calc⟨.ref s.heap.objs.size,_,I.laid (o:=.tup _) (t':=s.toks+1+1) (λb ob z=>ae _ z) (af _) ?_,rQ,d (S [46]) (Builtin.Str.strSub (S l) (i+(S [46]).length) (S l).length)⟩;show⟨zsz 3,_,.cons ⟨_,rQ⟩ (.cons ⟨_,rQ⟩ (.cons ⟨_,rQ⟩ .nil)),⟨_,ap _ rQ,rQ,0,rQ⟩⟩
def adq:V->List V->Hp->VK->Prop:=λx vs H Q=>∃l,x=.str (S l)/\vs=[.str (S [46])]/\l.length<=1000/\∀(p:Addr) (a b:Str),H p=none->Q (.ref p) (upd H p (.tup [.str a,.str b,.str (S (dJ l))]))
def XD:sO X "str.rpartition" adq:=by
 intro ak s σ H x vs v us Q I B g h;let⟨l,rfl,rfl,hz,q⟩:=h;let⟨t,rfl⟩:=B;let⟨u,rfl,j⟩:=vals1 g;let⟨D,rfl⟩:=j;let hsz:(S l).length<=sizeLine:=aI (aK hz);calc call_meets F.slot_str_rpartition (typeIs_str _ _ _) F.entry_str_rpartition (F.args_str_rpartition_2 _ _) (meets_str_rpartition (S l) (S [46]) t D rQ hsz) ?_;let e:=Rp l;let d:=λb c=>q s.heap.objs.size b c (I.hok.fresh (af _));rw[<-e]at d;unfold Txt.rpartition at d
 revert d
 cases Builtin.Str.lastOccurrence (S l) (S [46]) 0 (S l).length with| none=>intro d;calc⟨.ref s.heap.objs.size,_,I.laid (o:=.tup _) (t':=s.toks+1) (λb ob z=>ae _ z) (af _) ?_,rQ,d Str.empty Str.empty⟩;show⟨zsz 3,_,.cons ⟨_,rQ⟩ (.cons ⟨_,rQ⟩ (.cons ⟨_,rQ⟩ .nil)),⟨_,ap _ rQ,rQ,0,rQ⟩⟩| some i=>intro d;calc⟨.ref s.heap.objs.size,_,I.laid (o:=.tup _) (t':=s.toks+1+1) (λb ob z=>ae _ z) (af _) ?_,rQ,d (Builtin.Str.strSub (S l) 0 i) (S [46])⟩;show⟨zsz 3,_,.cons ⟨_,rQ⟩ (.cons ⟨_,rQ⟩ (.cons ⟨_,rQ⟩ .nil)),⟨_,ap _ rQ,rQ,0,rQ⟩⟩
end
def XF {X:Cx}{d iter tg:Expr}{ns N2:List Str}{f:St->St}{TP:V->Hp->(St->Prop)->Prop}{ifs:List Expr}{scope:Scope}{pos:Pos}{wi:TI}{tt:TT}{te:TE}(B:X.calm=true)(ok:gG X scope ns N2 f)(hi:PI X tg iter wi)(G:∀cl C s₀ H₀ fp,Ac (cU X scope cl C (ns++N2) s₀ H₀ fp) tg ns.length TP)(g:∀cl C s₀ H₀ fp,JW (cU X scope cl C (ns++N2) s₀ H₀ fp) ifs tt)(F:∀cl C s₀ H₀ fp,PE (cU X scope cl C (ns++N2) s₀ H₀ fp) d te)(hs:∀x,foldedSetIterable iter X.env x=pure x:=by intro _;rfl):PE X (.ListComp d [⟨tg,iter,ifs,0⟩] scope pos) (xQ f ns.length wi TP tt te):=λak s σ H Q I h=>by rw[eval_ListComp];show xR B ok hi G g F hs I h λD C J L m hn bk _ q=>⟨m,hn,λh' j=>⟨.ref D,J,bk h' j,rQ,q⟩⟩
def fW (ks:List Nat):Nat->St->St
 | _,[]=>[]
 | i,v::r=>(if ks.contains i=true then none else v)::fW ks (i+1) r
theorem Hg (ks:List Nat):∀(i:Nat) (σ:St),(fW ks i σ).length=σ.length
 | _,[]=>rfl
 | i,_::r=>by rw[fW,bu,bu,Hg ks (i+1) r]
theorem Hh (ks:List Nat):∀(i:Nat) (σ:St) (j:Nat) (v:V),(fW ks i σ)[j]?=some (some v)->ks.contains (i+j)=false/\σ[j]?=some (some v)
 | _,[],j,v,h=>by simp[fW]at h
 | i,x::r,0,v,h=>by
  rw[fW]at h;cases e:ks.contains i with| true=>rw[e]at h;simp at h| false=>rw[e]at h;show⟨by first|rfl|show e,by simpa using h⟩
 | i,x::r,j+1,v,h=>by rw[fW,pM]at h;let⟨a,b⟩:=Hh ks (i+1) r j v h;show⟨by rw[show i+(j+1)=i+1+j by lia];show a,by rw[pM];show b⟩
noncomputable def adt (sc:Scope)(N:List Str)(scope:Scope)(N2:List Str)(ks:List Nat):Bool:=scope.kind == .function&&scope.names.all (λy=>y.2 != .cell)&&scope.names.all (λy=>y.2 != .local||scope.names.lookup y.1==some .local) &&
 scope.names.all (λy=>y.2 != .free||sc.names.lookup y.1==some .cell||sc.names.lookup y.1==some .free)&&N2.length==N.length &&
 (List.range N.length).all (λi=>ks.contains i||(N2[i]? == N[i]? && (N[i]?.map λy=>scope.names.lookup y != some .local)==some true))
def gG.of {X:Cx}{scope:Scope}{ns:List Str}(N2:List Str)(ks:List Nat)(h:adt X.env.scope X.N scope N2 ks=true):gG X scope ns N2 (fW ks 0):=by
 unfold adt at h;simp only[c9,i7,Bool.or_eq_true,bne_iff_ne,beq_iff_eq,ne_eq]at h;obtain⟨⟨⟨⟨⟨h1,B⟩,G⟩,D⟩,j⟩,F⟩:=h;refine⟨h1,λy d=>B y d,λy d e=>(G y d).resolve_left λz=>z e,λy d e=>?_,Hg ks 0,j,λσ i y v e1 e2=>?_⟩
 .rcases D y d with(z|z)|z;.show absurd e z
  .show .inl z
  .show .inr z
 .let⟨a,b⟩:=Hh ks 0 σ i v e2;rw[gt]at a;let hi:i<X.N.length:=by rw[<-j];show(ai.mp e1).1
  rcases F i (bv.mpr hi) with z|⟨q,g⟩;.rw[a]at z;cases z
  .rw[<-q,e1]at g;rw[q]at e1;show⟨e1,b,by simpa using g⟩
def aaS {X:Cx}{scope:Scope}{cl:List (Str×Addr)}{C:Addr}{N:List Str}{s₀:Shared}{H₀:Hp}{fp:List Addr}{x y:Str}{B D pos:Pos}{k:Nat}(K:W.Frag)(G:X.calm=true)(F:N.Nodup)(L:N[0]?=some x)(h1:N[1]?=some y)(hx:scope.names.lookup x=some .local)(j:scope.names.lookup y=some .local)(M:X.K=K:=by rfl):Ac (cU X scope cl C N s₀ H₀ fp) (.Tuple [.Name x B,.Name y D] k pos) 2 (λv H Q=>∃a p q,v=.ref a/\aU K H a [p,q]/\Q [some p,some q]):=by
 subst M;intro ak s pre rest H v u Q hp I r q;let⟨a,p,d,rfl,O,q⟩:=q;obtain⟨g,p1,rfl⟩:∃g p1,pre=[g,p1]:=by
  match pre,hp with| [g,p1],_=>show⟨g,p1,rQ⟩
 let P:PG (cU X scope cl C N s₀ H₀ fp) (.Tuple [.Name x B,.Name y D] k pos) (QV X.K 2 (lZ (jd 0) (lZ (jd 1) Et))):=JH (X:=cU X scope cl C N s₀ H₀ fp) G (g_ (iD (i:=0) F L (.inl (lookup_relabel_local hx)) (.inr (lookup_relabel_local hx))) (g_ (iD (i:=1) F h1 (.inl (lookup_relabel_local j)) (.inr (lookup_relabel_local j))) uz));refine bA (P ak s _ H (.ref a) u (λσ' H'=>H'=H/\σ'=some p::some d::rest) I r
  ⟨a,[p,d],rQ,O,rQ,p,[d],rQ,d,[],rQ,rQ,rQ,rQ⟩) λ_ s' ⟨σ',H',J,e1,e2⟩=>?_
 subst e1 e2;show⟨[some p,some d],rQ,J,q⟩
def Fg {X:Cx}{scope:Scope}{cl:List (Str×Addr)}{C:Addr}{N:List Str}{s₀:Shared}{H₀:Hp}{fp:List Addr}{x y z:Str}{F G J pos:Pos}{k:Nat}(K:W.Frag)(L:X.calm=true)(B:N.Nodup)(Y:N[0]?=some x)(h1:N[1]?=some y)(M:N[2]?=some z)(hx:scope.names.lookup x=some .local)(D:scope.names.lookup y=some .local)(hz:scope.names.lookup z=some .local)(Z:X.K=K:=by rfl):Ac (cU X scope cl C N s₀ H₀ fp) (.Tuple [.Name x F,.Name y G,.Name z J] k pos) 3 (λv H Q=>∃a p q r,v=.ref a/\aU K H a [p,q,r]/\Q [some p,some q,some r]):=by
 subst Z;intro ak s pre rest H v u Q hp I r q;let⟨a,p,g,d,rfl,hq,q⟩:=q;obtain⟨j,p1,p2,rfl⟩:∃j p1 p2,pre=[j,p1,p2]:=by
  match pre,hp with| [j,p1,p2],_=>show⟨j,p1,p2,rQ⟩
 let P:PG (cU X scope cl C N s₀ H₀ fp) (.Tuple [.Name x F,.Name y G,.Name z J] k pos) (QV X.K 3 (lZ (jd 0) (lZ (jd 1) (lZ (jd 2) Et)))):=JH (X:=cU X scope cl C N s₀ H₀ fp) L (g_ (iD (i:=0) B Y (.inl (lookup_relabel_local hx)) (.inr (lookup_relabel_local hx))) (g_ (iD (i:=1) B h1 (.inl (lookup_relabel_local D)) (.inr (lookup_relabel_local D))) (g_ (iD (i:=2) B M (.inl (lookup_relabel_local hz)) (.inr (lookup_relabel_local hz))) uz)));refine bA (P ak s _ H (.ref a) u (λσ' H'=>H'=H/\σ'=some p::some g::some d::rest) I r
  ⟨a,[p,g,d],rQ,hq,rQ,p,[g,d],rQ,g,[d],rQ,d,[],rQ,rQ,rQ,rQ⟩) λ_ s' ⟨σ',H',O,e1,e2⟩=>?_
 subst e1 e2;show⟨[some p,some g,some d],rQ,O,q⟩
def iU {X:Cx}{d iter tg:Expr}{ns N2:List Str}{f:St->St}{TP:V->Hp->(St->Prop)->Prop}{ifs:List Expr}{scope:Scope}{pos:Pos}{wi:TI}{tt:TT}{te:TE}(j:X.calm=true)(ok:gG X scope ns N2 f)(hi:QI X tg iter wi)(B:∀cl C s₀ H₀ fp,Ac (cU X scope cl C (ns++N2) s₀ H₀ fp) tg ns.length TP)(g:∀cl C s₀ H₀ fp,Uq (cU X scope cl C (ns++N2) s₀ H₀ fp) ifs tt)(q:∀cl C s₀ H₀ fp,QE (cU X scope cl C (ns++N2) s₀ H₀ fp) d te)(hs:∀x,foldedSetIterable iter X.env x=pure x:=by intro _;rfl):QE X (.ListComp d [⟨tg,iter,ifs,0⟩] scope pos) (xQ f ns.length wi TP tt te):=⟨XF j ok hi.out B (λcl C s₀ H₀ fp=>(g cl C s₀ H₀ fp).out) (λcl C s₀ H₀ fp=>(q cl C s₀ H₀ fp).out) hs⟩
def o8 (n i:Nat)(D:Addr)(TP:V->Hp->(St->Prop)->Prop)(f:St->St)(σ:St)(tt:TT)(te:TE)(x:V)(H:Hp)(ys:List V)(P:List V->Hp->Prop):Prop:=Cz TP f σ tt te x H (Av n i D ys P) λd=>dw n i (P ys d)
def Uw {K:W.Frag}{a:Addr}{xs:List V}{D:Addr}{f:St->St}{TP:V->Hp->(St->Prop)->Prop}{tt:TT}{te:TE}{σ:St}{H:Hp}{R:Hp->Prop}(d:Nat->List V->Hp->Prop)(J:d 0 [] (upd H D (.lst [])))(G:∀i ys H,i<=xs.length->d i ys H->aU K H a xs)(hs:∀i x ys H,xs[i]?=some x->d i ys H->o8 xs.length i D TP f σ tt te x H ys (d (i+1)))(hd:∀ys H,d xs.length ys H->R H):∃W:Nat->Nat->List V->Hp->Prop,(∃m,W 0 m [] (upd H D (.lst [])))/\
   ∀i m ys H,W i m ys H->((Ce K a).stop i H/\R H)\/((Ce K a).go i H/\∀x H',(Ce K a).zY i H x H'->TP x H' λpre=>tt (pre++f σ) H' λb F=>
    if b=true then te (pre++f σ) F λy B=>B D=some (.lst ys)/\ys.length<sizeLine/\∃g,g<m/\W (i+1) g (ys++[y]) (upd B D (.lst (ys++[y])))
    else ∃g,g<m/\W (i+1) g ys F):=by
 calc⟨λi m ys H=>m=xs.length-i/\i<=xs.length/\d i ys H,⟨xs.length,v0,cn _,J⟩,?_⟩;intro i m ys H z;let⟨rfl,hi,p⟩:=z;let q:=G i ys H hi p;by_cases j:i<xs.length
 .calc .inr ⟨⟨xs,xs[i],q,by simp[j]⟩,λx H' y=>?_⟩;let⟨e,y⟩:=y;subst e;show hs i x ys H' (y xs q) p
 .let e:i=xs.length:=vT;subst e;show .inl ⟨⟨xs,q,af _⟩,hd ys H p⟩
def Ad {K:W.Frag}{a:Addr}{f:St->St}{σ:St}{tt:TT}{te:TE}:=@zj (λH=>aP K H a) (Cz (λv _ Q=>Q [some v]) f σ tt te)
def vG {K:W.Frag}{a:Addr}{f:St->St}{σ:St}{tt:TT}{te:TE}:=@zj (λH=>aU K H a) (Cz (λv _ Q=>Q [some v]) f σ tt te)
def Rq {l:List Nat}{f:St->St}{tt:TT}{D:Addr}{te:TE}{σ:St}{H:Hp}{R:Hp->Prop}(d:Nat->List V->Hp->Prop)(j:d 0 [] (upd H D (.lst [])))(hs:∀i c ys H,l[i]?=some c->d i ys H->o8 l.length i D (λv _ Q=>Q [some v]) f σ tt te (.str (S [c])) H ys (d (i+1)))(hd:∀ys H,d l.length ys H->R H):rB (Its l) D H R (Cz (λv _ Q=>Q [some v]) f σ tt te):=Fd l.length d j (λi ys H h p=>⟨h,λx H' y=>by let⟨rfl,c,g,rfl⟩:=y;show hs i c ys _ g p⟩) λys H p=>⟨af _,hd ys H p⟩
noncomputable def ud {K KT:W.Frag}{a:Addr}{f:St->St}{σ:St}{tt:TT}{te:TE}:=@zj (λH=>aP K H a) (Cz (λv H Q=>∃a p q r,v=.ref a/\aU KT H a [p,q,r]/\Q [some p,some q,some r]) f σ tt te)
noncomputable def Rr {K KT:W.Frag}{a:Addr}{f:St->St}{σ:St}{tt:TT}{te:TE}:=@zj (λH=>aU K H a) (Cz (λv H Q=>∃a p q r,v=.ref a/\aU KT H a [p,q,r]/\Q [some p,some q,some r]) f σ tt te)
def ZG {n i:Nat}{D:Addr}{f:St->St}{σ:St}{te:TE}{x:V}{H:Hp}{ys:List V}{P:List V->Hp->Prop}(h:te ([some x]++f σ) H λy d=>d D=some (.lst ys)/\ys.length<sizeLine/\dw n i (P (ys++[y]) (upd d D (.lst (ys++[y]))))):o8 n i D (λv _ Q=>Q [some v]) f σ iC te x H ys P:=by show (if true=true then (te ([some x]++f σ) H λy d=>d D=some (.lst ys)/\ys.length<sizeLine/\dw n i (P (ys++[y]) (upd d D (.lst (ys++[y]))))) else dw n i (P ys H));rw[if_pos rfl];show h
def Rt {KT:W.Frag}{n i:Nat}{D a:Addr}{p q r:V}{f:St->St}{σ:St}{te:TE}{x:V}{H:Hp}{ys:List V}{P:List V->Hp->Prop}(hx:x=.ref a)(g:aU KT H a [p,q,r])(h:te ([some p,some q,some r]++f σ) H λy d=>d D=some (.lst ys)/\ys.length<sizeLine/\dw n i (P (ys++[y]) (upd d D (.lst (ys++[y]))))):o8 n i D (λv H Q=>∃a p q r,v=.ref a/\aU KT H a [p,q,r]/\Q [some p,some q,some r]) f σ iC te x H ys P:=by calc⟨a,p,q,r,hx,g,?_⟩;show (if true=true then (te ([some p,some q,some r]++f σ) H λy d=>d D=some (.lst ys)/\ys.length<sizeLine/\dw n i (P (ys++[y]) (upd d D (.lst (ys++[y]))))) else dw n i (P ys H));rw[if_pos rfl];show h
section
variable {X:Cx}
def adu (K:W.Frag):List V->Hp->VK->Prop:=λxs H Q=>∃(a:Addr) (ws:AA),xs=[.ref a]/\aP K H a (Ts ws)/\ws.length<64/\∀(p:Addr) (d:AA),H p=none->d.Perm ws->d.Pairwise (λa b=>decide (b<a)=false)->Q (.ref p) (upd H p (.lst (Ts d)))
def J_:fU X (.builtin "sorted") (adu X.K):=by
 intro ak s σ H xs us Q I r h;let⟨a,ws,rfl,B,F,q⟩:=h;let⟨u,rfl,D⟩:=vals1 r;cases D;let⟨its,g,pl,_⟩:=I.list B;let O:its.length=ws.length:=by have:=g.length;simpa using this.symm
 calc sorted_strs pl.isList (zq g) (by simp_all) λout d a1 a2 a3=>?_;let⟨e,J⟩:=sortedAll_at s.heap its out;let j:(d.map λy=>y.cps.toList).Perm ws:=by have:=a2.map λy:Str=>y.cps.toList;rw[dS]at this;let e:((λy:Str=>y.cps.toList) ∘ S)=id:=rfl;rw[e,kF]at this;show this
 let hv:Vals (Ts (d.map λy=>y.cps.toList)) out.toList:=by
  have:=rE a1;let es:(d.map V.str)=Ts (d.map λy=>y.cps.toList):=by rw[Ts,dS];show e6 λy _=>by simp[Function.comp_def,adb]
  rw[es]at this;show this
 let G:(Ts (d.map λy=>y.cps.toList)).length<=sizeLine:=by rw[ab,j.length_eq];show aI (aK vT)
 refine⟨.ref (s.heap.objs.size+1),_,I.laid (o:=.lst _) (t':=s.toks) (λb o z=>sortedAll_old z) (cx _) ⟨G,out.toList,e,hv,by rw[sf];show J⟩,rQ,q _ _ (I.hok.fresh (cx _)) j (G9 d a3)⟩
def afI (t:TS):TS:=λD σ H=>∃d:St->Hp->Prop,t {D with nx:=d} σ H/\∀σ' H',d σ' H'->D.nx σ' H'
def Ka {st:Stmt}{t:TS}(h:QS X st t):QS X st (afI t):=⟨λak s σ H D I ⟨B,a,b⟩=>by
 calc bA (h.out ak s σ H _ I a) λf s' q=>?_;cases f with
 | next=>let⟨σ7,j,d,g⟩:=q;show⟨σ7,j,d,b _ _ g⟩
 | cont=>show q
 | brk=>show q
 | ret v=>show q⟩
end
end L2
namespace L2
open PySem PySem.Spec PyProof.Rows PySem.W
def adv (H:Hp)(cf:Addr->Nat)(a:Addr):Prop:=∃(x y:Nat) (rest:List V),Rd H a (.tup (.int x :: .int y::rest))/\y<1000/\cf a=x*1000+y/\(rest=[]\/∃z,rest=[.str z])
section
variable {X:Cx}{pos:Pos}
def adw (K:W.Frag):List V->Hp->VK->Prop:=λxs H Q=>∃(L:Addr) (as:List Addr) (cf:Addr->Nat),xs=[.ref L]/\aP K H L (as.map V.ref)/\as.length<64/\(∀a∈as,adv H cf a)/\(as.map cf).Nodup/\
 ∀(p:Addr) (d:List Addr),H p=none->d.Perm as->(d.map cf).Pairwise (·<·)->Q (.ref p) (upd H p (.lst (d.map V.ref)))
theorem xW:∀{as:List Addr} {us:List Value},Vals (as.map V.ref) us->us=as.map Value.ref
 | [],_,.nil=>rfl
 | a::as,_,.cons r t=>by cases r;rw[bX,xW t]
theorem xX:∀(as:List Addr),Vals (as.map V.ref) (as.map Value.ref)
 | []=>.nil
 | a::as=>.cons rQ (xX as)
open Classical in
def XH (K:W.Frag)(g:Bool):R2:=λx y H Q=>∃n d es,n<=60/\gD K H n d x/\gD K H n (.tup es) y/\Q (.bl (if g then !decide (d∈es) else decide (d∈es))) H
open Classical in
theorem Fi (d:Dt):∀es:List Dt,((dG es).any λy=>PyData.eqv y (toP d))=decide (d∈es)
 | []=>by simp[dG]
 | e::es=>by
  rw[dG,lT,Fi d es,O8];by_cases z:e=d;.subst z;simp
  .let g:¬d=e:=λy=>z y.symm
   simp[z,g]
def Ux (G:X.A.units+64<cLine):dY X (compareOp .NotIn) (XH X.K true):=by intro ak s σ H x y v u Q I F B h;let⟨n,d,es,hn,hd,g,q⟩:=h;let⟨as,D⟩:=hd.reads I F;let⟨bs,j⟩:=g.reads I B;let l1:=hd.lay;let l2:=g.lay;rw[toP]at j;simp only[toP,PyData.canLay0,PyData.depth]at l2;calc SeqAt.notIn_tuple_reads j D l2.1 l1.1 (by have:=uA (PyData.depthAll (dG es)) (toP d).depth;lia) ⟨.bl _,H,I,rQ,?_⟩;rw[Fi];show q
def aaT {o i:Expr}{td ty:TE}(g:X.A.units+1<cLine)(d:QE X o td)(hi:QE X i ty)(hs:Xl i):QE X (.Subscript o i pos) (Zw td ty):=⟨aaG g d.out hi.out hs⟩
def XJ:QE X (.Dict [] [] pos) Ug:=⟨Xp⟩
def adx:List V->Hp->VK->Prop:=λxs H Q=>∃l:List Nat,xs=[.str (S l)]/\l.length<=1000/\∀p,H p=none->Q (.ref p) (upd H p (.lst (Ts (l.map λc=>[c]))))
theorem Hi:∀(l:List Nat) (us:List Value),us.length=l.length->(∀(i c:Nat),l[i]?=some c->∃t,us[i]?=some (.str (S [c]) t))->Vals (Ts (l.map λc=>[c])) us
 | [],[],_,_=>.nil
 | [],_::_,h,_=>by simp at h
 | _::_,[],h,_=>by simp at h
 | c::l,u::us,h,k=>by let⟨t,e⟩:=k 0 c rfl;let e:u=.str (S [c]) t:=be e;show .cons ⟨t,e⟩ (Hi l us (by simpa using h) λi d hd=>k (i+1) d hd)
def CP (j:X.calm=true):fU X (.type "list") adx:=by
 intro ak s σ H xs us Q I r h;let⟨l,rfl,F,q⟩:=h;let⟨u,rfl,D⟩:=vals1 r;let⟨t,rfl⟩:=D;let hz:l.length<=sizeLine:=aI (aK F);calc bR (call_list_str (I.ok.hd j) (S l) t (λh' G d B hk J g M=>?_) (by show l.toArray.size<=_;simpa using hz));let hsz:d.size=l.length:=by rw[g.1];show l.toArray.size=_;simp
 calc⟨.ref s.heap.objs.size,_,I.laid (o:=.lst (Ts (l.map λc=>[c]))) (t':=G) hk (af _) ⟨by rw[ab,ab];show hz,d.toList,B,?_,by simpa using J⟩,rQ,q _ (I.hok.fresh (af _))⟩;calc Hi l d.toList (by rw[bn];show hsz) λi c j=>?_;let hi:i<d.size:=by rw[hsz];show(ai.mp j).1
 let⟨c2,L,e1,e2⟩:=g.2 i d[i] (by simp[hi]);let e1:l.toArray[i]?=some c2:=e1;rw[List.getElem?_toArray,j]at e1;let e1:=be e1;show⟨L,by rw[ck,bS hi,e2,e1];rfl⟩
end
end L2
namespace L2
open PySem PySem.Spec PyProof.Rows
def aaU {X:Cx}{ix:Nat}{j:Str}{J d:Pos}{g iter tg:Expr}{ns N2:List Str}{f:St->St}{TP:V->Hp->(St->Prop)->Prop}{ifs:List Expr}{scope:Scope}{pos:Pos}{wi:TI}{tt:TT}{te:TE}(hN:X.N.Nodup)(L:X.N[ix]?=some j)(Ae:Loc X.env.scope j)(Y:X.calm=true)(ok:gG X scope ns N2 f)(hi:PI X tg iter wi)(hg:∀cl C s₀ H₀ fp,Ac (cU X scope cl C (ns++N2) s₀ H₀ fp) tg ns.length TP)(N:∀cl C s₀ H₀ fp,JW (cU X scope cl C (ns++N2) s₀ H₀ fp) ifs tt)(he:∀cl C s₀ H₀ fp,PE (cU X scope cl C (ns++N2) s₀ H₀ fp) g te)(hs:∀x,foldedSetIterable iter X.env x=pure x:=by intro _;rfl)(B:swapsWith (.ListComp g [⟨tg,iter,ifs,0⟩] scope pos) (some (.Name j J)) d.line X.env=pure true:=by rfl)(hf:X.fn j=true\/X.env.scope.names.lookup j=some .local:=by first|show .inl rfl|show .inr rfl|assumption):PS X (.Assign [.Name j J] (.ListComp g [⟨tg,iter,ifs,0⟩] scope pos) d) (Eu (xQ f ns.length wi TP tt te) (jd ix)):=λak s σ H Z I h=>by
 rw[exec_Assign_Name_used _ _ _ _ B];calc aa (qB (aa (aa ?_)));calc bA (Q:=λ_ s'=>∃σ' H',aG X ak σ' H' s'/\Z.nx σ' H') ?_ λ_ s' hq=>ag (ag hq);calc xR (use:=some (assign (.Name j J) X.env)) Y ok hi hg N he hs I h λD C H4 s5 m hn bk q qn=>?_;calc t7 (sI (bk s5.heap (Heap.SameBut.refl _ _)) hN L Ae (show bD (.ref D) (.ref D) from rQ) (λs6 M ⟨a,F,ha⟩ _=>?_) hf);let G:C≠a:=by
  rcases ha with z|z;.rw[z];show q.2.1
  .show λy=>q.2.2.2.2.1 _ _ z y.symm
 let⟨o,es,ep,e1,e2⟩:=hn;refine⟨m,⟨o,es,ep,(F.2 C G).trans e1,e2⟩,λh' O=>⟨_,H4,M.turned (t':=s6.toks) (λb o hb e=>(O.2 b hb).trans e) q.1 q.2.1 q.2.2.2.1 q.2.2.2.2.1 q.2.2.2.2.2,qn⟩⟩
def O_ {X:Cx}{ix:Nat}{q:Str}{F g:Pos}{j iter tg:Expr}{ns N2:List Str}{f:St->St}{TP:V->Hp->(St->Prop)->Prop}{ifs:List Expr}{scope:Scope}{pos:Pos}{wi:TI}{tt:TT}{te:TE}(N:X.N.Nodup)(D:X.N[ix]?=some q)(L:Loc X.env.scope q)(J:X.calm=true)(ok:gG X scope ns N2 f)(hi:QI X tg iter wi)(O:∀cl C s₀ H₀ fp,Ac (cU X scope cl C (ns++N2) s₀ H₀ fp) tg ns.length TP)(G:∀cl C s₀ H₀ fp,Uq (cU X scope cl C (ns++N2) s₀ H₀ fp) ifs tt)(M:∀cl C s₀ H₀ fp,QE (cU X scope cl C (ns++N2) s₀ H₀ fp) j te)(hs:∀x,foldedSetIterable iter X.env x=pure x:=by intro _;rfl)(B:swapsWith (.ListComp j [⟨tg,iter,ifs,0⟩] scope pos) (some (.Name q F)) g.line X.env=pure true:=by rfl)(Y:X.fn q=true\/X.env.scope.names.lookup q=some .local:=by first|show .inl rfl|show .inr rfl|assumption):QS X (.Assign [.Name q F] (.ListComp j [⟨tg,iter,ifs,0⟩] scope pos) g) (Eu (xQ f ns.length wi TP tt te) (jd ix)):=⟨aaU N D L J ok hi.out O (λa b c d e=>(G a b c d e).out) (λa b c d e=>(M a b c d e).out) hs B Y⟩
end L2
namespace L2
open PySem PySem.Spec PyProof.Rows PySem.W
section
variable {X:Cx}
theorem CQ:∀(m:AA) (l:List Value),l.length=m.length->(∀(j:Nat) (c:List Nat),m[j]?=some c->∃t,l[j]?=some (.str (S c) t))->Vals (Ts m) l
 | [],[],_,_=>.nil
 | [],_::_,h,_=>by simp at h
 | _::_,[],h,_=>by simp at h
 | c::m,a::l,h,k=>by
  let⟨t,e⟩:=k 0 c rfl;let d:a=.str (S c) t:=by simpa using e
  subst d;show .cons ⟨t,rQ⟩ (CQ m l (by simpa using h) λj c g=>k (j+1) c g)
def ady:List V->Hp->VK->Prop:=λxs H Q=>∃(d:Addr) (kvs:List (Key×V)) (ws:AA),xs=[.ref d]/\H d=some (.dK kvs)/\kvs.map (·.1)=ws.map gC/\ws.length<=900/\∀p:Addr,H p=none->Q (.ref p) (upd H p (.lst (Ts ws)))
def Ru (hc:X.calm=true):fU X (.type "list") ady:=by
 intro ak s σ H xs us Q I r h;let⟨d,kvs,ws,rfl,hd,hk,h64,q⟩:=h;let⟨u,rfl,ru⟩:=vals1 r;cases ru;let⟨hz,lo,vs,F,Z⟩:=Rh I.hok hd;let⟨ep,L⟩:=Z.dictAt;let J:=KV.keys F;let N:vs.length=ws.length:=by let h1:=KV.length F;let h2:=congrArg List.length hk;simp at h2;lia
 calc bR (kdl_call (kdl_dict (knd:=cQ X.prog X.w) (kvs:=vs) (ep:=ep) lo) (I.ok.hd hc) L (by rw[N];show aI (aK vT)) λh' tk B Y M hD g ht=>?_);let hv:Vals (Ts ws) B.toList:=by
  calc CQ ws _ (by rw[bn,g.1,N]) λj c O=>?_;let D:j<B.size:=by rw[g.1,N];show(ai.mp O).1
  let⟨k,x,hx,hi⟩:=g.2 j B[j] (by simp[D]);let G:(ws.map gC)[j]?=some k:=by rw[<-hk,J,ba,hx];rfl
  rw[ba,O]at G;let e:gC c=k:=by simpa using G
  subst e;rcases cV (show jc (Sum.inr (S c)) B[j]=true from hi) with⟨i,t,e1,_⟩|⟨y,t,e1,e2⟩;.cases e1
  .cases e1;show⟨t,by rw[ck,bS D,e2]⟩
 show⟨.ref s.heap.objs.size,_,I.laid (o:=.lst _) (t':=tk) M (af _) ⟨by rw[ab];show aI (aK vT),B.toList,Y,hv,by simpa using hD⟩,rQ,q _ (I.hok.fresh (af _))⟩
end
end L2
namespace L2
open PySem PySem.Spec PyProof.Rows PySem.W
open AutoSeq1 (wpAny_loadPart')
section
variable {prog:Program}{w:World}{A:Around}{E:AB}{s:Shared}
def XM {u a:Addr}{i:Nat}{g:Array Value}{x:Value}{Q:AB}(t:s.heap.IsTupleIter u a i)(p:s.heap.IsTuple a g)(hx:g[i]?=some x)(q:∀h',h'.IsTupleIter u a (i+1)->Heap.SameBut u s.heap h'->Q x {s with heap:=h' }):wpAny (model prog w) A (Builtin.SmallTypes.nextOf (.ref u)) Q E s:=by let⟨o,d,D,hd⟩:=id t;let⟨J,B,_,G,j⟩:=p;unfold Builtin.SmallTypes.nextOf;calc aa (dP (name:=Str.ofString "__next__") t.typeIs ko (c_ ko t.typeIs F.entry_tuple_iterator_next ?_ (F.args_tuple_iterator_next_1 _)));show wpAny _ _ (field (.ref u) 0 >>= _) _ _ s;calc aa (fw d hd (x:=.ref a) rQ ?_);show wpAny _ _ (if (Value.ref a==Value.none)=true then _ else _) _ _ s;rw[if_neg (show ¬((Value.ref a==Value.none)=true) from b6)];show wpAny _ _ (field (.ref u) 1 >>= _) _ _ s;calc aa (fw d hd (x:=.int i 0) rQ ?_);show wpAny _ _ (seqItems? (.ref a) >>= _) _ _ s;calc aa (fE B j ?_);simp only[cS,hx];calc aa (ik d hd v0 (ag ⟨x,rQ,ag (q _ ?_ (fA ..))⟩));show⟨_,fb _ d (ke (eI hd _)),(pV ..).trans D,by rw[eI hd];simp[rawInt]⟩
def Pa {u a:Addr}{i:Nat}{g:Array Value}{Q:AB}(D:A.handled=none)(t:s.heap.IsTupleIter u a i)(p:s.heap.IsTuple a g)(hx:g[i]?=none)(q:∀h' e,Heap.ExtBut u s.heap h'->(∃o,h'.get? e=some o/\o.cls=.type "StopIteration")->E (.ref e) {s with heap:=h' }):wpAny (model prog w) A (Builtin.SmallTypes.nextOf (.ref u)) Q E s:=by
 let⟨o,d,G,hd⟩:=id t;let⟨L,B,_,J,j⟩:=p;unfold Builtin.SmallTypes.nextOf;calc aa (dP (name:=Str.ofString "__next__") t.typeIs ko (c_ ko t.typeIs F.entry_tuple_iterator_next ?_ (F.args_tuple_iterator_next_1 _)));show wpAny _ _ (field (.ref u) 0 >>= _) _ _ s;calc aa (fw d hd (x:=.ref a) rQ ?_);show wpAny _ _ (if (Value.ref a==Value.none)=true then _ else _) _ _ s;rw[if_neg (show ¬((Value.ref a==Value.none)=true) from b6)];show wpAny _ _ (field (.ref u) 1 >>= _) _ _ s;calc aa (fw d hd (x:=.int i 0) rQ ?_);show wpAny _ _ (seqItems? (.ref a) >>= _) _ _ s;calc aa (fE B j ?_);simp only[cS,hx]
 first|refine aa (f7 (aa (ik d hd v0 ?_)))|refine aa (ik d hd v0 ?_)
 show wpAny _ _ (newExc (.type "StopIteration") [] >>= _) _ _ _;calc aa ?_;simp only[newExc,newTuple];calc aa (ej ?_ we);calc aa (m:=firstArgMember _ _) (mM (a:=Value.none) (by first|rfl|(simp only[firstArgMember];rfl)) ?_);calc ej ?_ we;simp only[raiseNew];refine aa (wpAny_handled ?_)
 first|rw[show A.in1.handled=none from D]|rw[D]
 calc aa (ag (wpAny_throw ?_));show q _ _ (((fA ..).extBut.push _).push _) ⟨_,ap _ rQ,rQ⟩
def adz (F:A.handled=none)(u a:Addr)(q:a≠u)(g:Array Value):Draws prog w A u [u,a] g.size (λi v=>g[i]?=some v) (λi h=>h.IsTupleIter u a i/\h.IsTuple a g) where
 live:=λ_ _ st=>let ⟨o,ho,_⟩:=st.1;⟨o,ho⟩
 frame:=λ_ _ _ st hk=>⟨st.1.at λo e=>hk u v0 o e,let ⟨o,ho,r⟩:=st.2;⟨o,hk a v0 o ho,r⟩⟩
 item:=λi s Q E hi st D=>by calc XM st.1 st.2 (x:=g[i]) (by simp[hi]) λh' d j=>?_;show D _ h' s.toks (by simp[hi]) ⟨d,let ⟨o,ho,r⟩:=st.2;⟨o,j.extBut a o q ho,r⟩⟩ j
 done:=λs Q E st B=>Pa F st.1 st.2 v0 B
def newT (a:Addr)(g:Array Value)(n:Nat)(q:Option Addr)(sl:Array (Option Value)):Meets (Builtin.«enumerate.__new__» ⟨[.type "enumerate",.ref a],[]⟩) (λ_ R s=>s.heap.get? a=some {cls:=.type "tuple",dict:=q,data:=.seq g n,slots:=sl}/\
   R (.ok (.ret (.ref (s.heap.push {cls:=.type "tuple_iterator",data:=.fields #[.ref a,.int 0 0]}).objs.size)))
    {s with heap:=(s.heap.push {cls:=.type "tuple_iterator",data:=.fields #[.ref a,.int 0 0]}).push {cls:=.type "enumerate",data:=.fields #[.none,.bool false,.ref s.heap.objs.size,rawInt 0,.none,.none]} }):=
 .of_wp λprog w A R s h=>by
  let⟨hp,g,d,D,os⟩:=s;let⟨j,h⟩:=h;let B:=sub_enumerate;let L:Heap.IsTuple (Shared.heap ⟨hp,g,d,D,os⟩) a _:=⟨_,j,rQ,n,rQ⟩
  wp_walk using sh j
  refine wpAny_stack_any λst=>ag ?_
  split
  .rename_i c _ _ _ _ _;cases(c==Value.type "enumerate")
   .wp_walk using sh j,md L
    show⟨_,rQ,h⟩
   .wp_walk using sh j,md L
    show⟨_,rQ,h⟩
  .wp_walk using sh j,md L
   show⟨_,rQ,h⟩
def ae2 {a:Addr}{g:Array Value}{Q:AB}(L:s.heap.IsTuple a g)(q:∀h',IsEnum h' (s.heap.objs.size+1) s.heap.objs.size 0 .none->h'.IsTupleIter s.heap.objs.size a 0->h'.objs.size=s.heap.objs.size+2->(∀b o,s.heap.get? b=some o->h'.get? b=some o)->Q (.ref (s.heap.objs.size+1)) {s with heap:=h' }):wpAny (model prog w) A (call (.type "enumerate") [.ref a]) Q E s:=by
 obtain⟨⟨c,j,G,sl⟩,D,d,n,hd⟩:=L;replace d:c=.type "tuple":=d;replace hd:G=.seq g n:=hd;subst d hd;calc callType_new oz v_ (F.typeCall_enumerate_1 _) (F.newCall_enumerate_1 _) (λobj=>F.args_object_init_2 obj _) F.entry_enumerate_new (newT a g n j sl) ⟨D,?_⟩;let hz:(s.heap.push {cls:=.type "tuple_iterator",data:=.fields #[.ref a,.int 0 0]}).objs.size=s.heap.objs.size+1:=dC ..;show _/\_;rw[hz];let B:IsEnum ((s.heap.push {cls:=.type "tuple_iterator",data:=.fields #[.ref a,.int 0 0]}).push {cls:=.type "enumerate",data:=.fields #[.none,.bool false,.ref s.heap.objs.size,rawInt 0,.none,.none]}) (s.heap.objs.size+1) s.heap.objs.size 0 .none:=by have:=ap (s.heap.push {cls:=.type "tuple_iterator",data:=.fields #[.ref a,.int 0 0]}) (o:={cls:=.type "enumerate",data:=.fields #[.none,.bool false,.ref s.heap.objs.size,rawInt 0,.none,.none]}) rfl;rw[hz]at this;show this
 show⟨⟨_,B,rQ⟩,q _ B ⟨_,ae _ (ap _ rQ),rQ,rQ⟩ (by rw[dC,hz]) λb o x=>ae _ (ae _ x)⟩
end
section
variable {X:Cx}{ak:AC}{σ:St}{H:Hp}{s:Shared}{h':Heap}
def aG.Fl {t':Nat}{fp:List Addr}(I:aG X ak σ H s)(k:∀b o,b∉fp->s.heap.get? b=some o->h'.get? b=some o)(g:∀b∈fp,mQ X ak H b)(B:s.toks<=t':=by first|show af _|assumption|show cx _|lia):aG X ak σ H {s with heap:=h',toks:=t' }:=by
 let j:∀b u,H b=some u->b∉fp:=λb u e z=>by rw[(g b z).1]at e;cases e
 refine I.step (g':=s.gens) (d':=s.drawn) (ch:=fp) (λb F=>?_) (λb o _ _ d e _=>k b o d e) (λb o _ _ d e _=>⟨o.slots,k b o d e⟩) (λ_ _ _ _ n=>n)
  (λb o d e=>⟨o,k b o d e⟩) (λ_ _ e=>e) (λ_ _ _ e=>e) (λb ps e=>⟨#[],by rw[e];simp⟩) (λm hm=>?_) (λb u e=>?_) I.bare (I.gh.up B)
 .let⟨f0,f1,f2,f3,f4,f5⟩:=g b F;show⟨f3,f1,f4,f5⟩
 .let⟨o,es,ep,D,r⟩:=hm;show⟨o,es,ep,k _ o (λz=>(g _ z).2.1 rQ) D,r⟩
 .refine(I.hok b u e).stay (λc v d q=>k c v ?_ q) (λ_ q=>q) λ_ _ q=>q
  rcases d with z|z;.rw[z];show j b u e
  .show j c _ z
def aG.pair {e it:Addr}{i j:Nat}{x:V}{u:Value}{h1 B:Heap}(I:aG X ak σ H s)(F:∀b∈[e,it],mQ X ak H b)(le:e<s.heap.objs.size)(Y:it<s.heap.objs.size)(N:bD x u)(M:h1.get? s.heap.objs.size=some {cls:=.type "tuple",data:=.seq #[.int i j,u]})(hk:∀b o,b≠e->b≠it->s.heap.get? b=some o->h1.get? b=some o)(hs:Heap.SameBut e h1 B)(Z:s.toks<=j+1:=by first|show af _|assumption|show cx _|lia):aG X ak σ (upd H s.heap.objs.size (.tup [.int i,x])) {s with heap:=B,toks:=j+1}/\∀b∈[e,it],upd H s.heap.objs.size (.tup [.int i,x]) b=none:=by
 let J:aG X ak σ (upd H s.heap.objs.size (.tup [.int i,x])) {s with heap:=s.heap.push {cls:=.type "tuple",data:=.seq #[.int i j,u]},toks:=j+1}:=I.laid (λb v e=>ae _ e) (af _) ⟨zsz 2,[.int i j,u],.cons ⟨j,rQ⟩ (.cons N .nil),⟨_,ap _ rQ,rQ,_,rQ⟩⟩
 let ne:∀b∈[e,it],b≠s.heap.objs.size:=λb d=>by
  rcases a_.mp d with z|z;.rw[z];show bb le
  .rw[am.mp z];show bb Y
 let fr:∀b∈[e,it],upd H s.heap.objs.size (.tup [.int i,x]) b=none:=λb d=>by rw[aY (ne b d)];show(F b d).1
 let L:=aG.Fl (s:={s with heap:=s.heap.push {cls:=.type "tuple",data:=.seq #[.int i j,u]},toks:=j+1}) (h':=B) (fp:=[e,it]) (t':=j+1) J (λb o d g=>?_) λb d=>?_
 .show⟨L,fr⟩
 .let q:b≠e:=λz=>d (by simp[z])
  let D:b≠it:=λz=>d (by simp[z]);rw[hs.2 b q];rcases Heap.get?_push_cases g with⟨O,G⟩|z
  .rw[O,G];show M
  .show hk b o q D z
 .let⟨f0,f1,f2,f3,f4,f5⟩:=F b d;show⟨fr b d,f1,f2,f3,f4,f5⟩
end
def XQ (K:W.Frag)(a:Addr):It:=⟨λi H=>∃xs x,aU K H a xs/\xs[i]?=some x,λi H v H'=>∃T y,H T=none/\v=.ref T/\(∀xs,aU K H a xs->xs[i]?=some y)/\H'=upd H T (.tup [.int i,y]),λi H=>∃xs,aU K H a xs/\xs.length<=i⟩
def Kc (l:List Nat):It:=⟨λi _=>i<l.length,λi H v H'=>∃T c,H T=none/\v=.ref T/\l[i]?=some c/\H'=upd H T (.tup [.int i,.str (S [c])]),λi _=>l.length<=i⟩
section
variable {prog:Program}{w:World}{A:Around}{E:AB}{s:Shared}
def Ni {it:Addr}{fp:List Addr}{n:Nat}{g:Nat->Value->Prop}{St:Nat->Heap->Prop}(D:Draws prog w A it fp n g St)(k:Nat):Draws prog w A it fp (k+n) (λj v=>∃i,j=k+i/\g i v) (λj h=>∃i,j=k+i/\St i h) where
 live:=λj h ⟨i,_,st⟩=>D.live i h st
 frame:=λj h h' ⟨i,e,st⟩ hk=>⟨i,e,D.frame i h h' st hk⟩
 item:=λj s Q E G ⟨i,e,st⟩ B=>by subst e;show D.item i s Q E (by simp_all) st λv h' F hp st' d=>B v h' F ⟨i,rQ,hp⟩ ⟨i+1,rQ,st'⟩ d
 done:=λs Q E ⟨i,e,st⟩ q=>by
  have:i=n:=by lia
  subst this;show D.done s Q E st q
end
def xY (l:List Nat)(k:Nat):It:=⟨λi _=>i<l.length,λi H v H'=>∃T c,H T=none/\v=.ref T/\l[i]?=some c/\H'=upd H T (.tup [.int ((k+i:Nat):Int),.str (S [c])]),λi _=>l.length<=i⟩
def CT {P:Program}{w:World}{K:W.Frag}{elts:List Expr}{x1}{pos:Pos}{ty:String}(B:ty="str_ascii_iterator"\/ty="str_iterator")(l:List Nat)(k:Nat)(t:Tok)(it e:Addr):Turn P w K (.Tuple elts x1 pos) (xY l k) [e,it] e (λi h=>e≠it/\i<=l.length/\(∃d,IsEnum h e it ((k+i:Nat):Int) d)/\h.IsStrIter it ty (S l) t i) where
 mem:=by simp
 obj:=λi h st b G=>by
  obtain⟨_,_,⟨d,j⟩,o,L,_,hd⟩:=st;rcases a_.mp G with z|z;.show⟨_,by rw[z];show j,λv y=>by cases y⟩
  .show⟨o,by rw[am.mp z];show L,λv y=>by rw[hd]at y;cases y⟩
 keep:=λi h h' st k=>by obtain⟨n,le,⟨d,j⟩,o,L,r⟩:=st;show⟨n,le,⟨d,k e v0 _ j⟩,o,k it v0 o L,r⟩
 item:=by
  intro X F hw hK hc i ak s σ H E I Y st N;subst F hw hK;obtain⟨ne,le,⟨d,j⟩,hs⟩:=st;let M:X.A.in1.handled=none:=by simp[I.ok.hd hc]
  let Z:k+i<k+(S l).cps.size:=Nat.add_lt_add_left N k;let q:∀(D:Draws X.prog X.w X.A.in1 it [it] (S l).cps.size (λi v=>∃c u,(S l).cps[i]?=some c/\v=.str ⟨#[c]⟩ u) (λi h=>h.IsStrIter it ty (S l) t i)),
    wpAny (model X.prog X.w) X.A (pyNext (.ref e)) (λr s1=>∃u,r=some u/\wpAny (model X.prog X.w) X.A (letOwnedTupleGo (.Tuple elts x1 pos) (.ref e) u) (λ_ s2=>∃x H',aG X ak σ H' s2/\bD x u/\(xY l k).zY i H x H'/\(e≠it/\i+1<=l.length/\(∃d,IsEnum s2.heap e it ((k+(i+1):Nat):Int) d)/\s2.heap.IsStrIter it ty (S l) t (i+1))/\∀b∈[e,it],H' b=none) E s1) E s:=by
   intro D;calc bR (wpAny_pyNext_enum_itemD (Ni D k) j ⟨i,rQ,hs⟩ Z ne (by simp[ne]) λx h' tk F L g hT hsz hk ht=>?_);let⟨i',ei,c,u,O,rfl⟩:=F;let⟨i'',ei2,g⟩:=g;obtain rfl:i'=i:=by lia
   obtain rfl:i''=i'+1:=by lia
   calc⟨_,rQ,wpAny_letOwnedTupleGo_enum L λh2 he2 J=>?_⟩;let⟨o,ho2,r2⟩:=g;let⟨oi,hoi,_⟩:=id hs;let⟨I3,fr⟩:=aG.pair (i:=k+i') (x:=.str (S [c])) I Y (a7 j) (a7 hoi) ⟨u,rQ⟩ hT hk J;refine⟨.ref s.heap.objs.size,_,I3,rQ,⟨s.heap.objs.size,c,I.hok.fresh (af _),rQ,by simpa [S] using O,rQ⟩,⟨ne,N,⟨_,by simpa [Int.add_assoc] using he2⟩,o,(J.2 it (ie ne)).trans ho2,r2⟩,fr⟩
  rcases B with rfl|rfl;.show q (Draws.strAscii M it (S l) t)
  .show q (Draws.strWide M it (S l) t)
 done:=by
  intro X F hw hK hc i ak s σ H E I Y st N;subst F hw hK;obtain⟨ne,le,⟨d,j⟩,hs⟩:=st;let M:X.A.in1.handled=none:=by simp[I.ok.hd hc]
  let hi:i=(S l).cps.size:=vx le N;let g:=hs;rw[hi]at g;let⟨f0,f1,f2,f3,f4,f5⟩:=Y it v0;rcases B with rfl|rfl
  .show wpAny_pyNext_enum_endD (Draws.strAscii M it (S l) t) j g λh' eb=>⟨rQ,I.turned (t':=s.toks) (λb o G e=>eb b o G e) f0 f1 f3 f4 f5⟩
  .show wpAny_pyNext_enum_endD (Draws.strWide M it (S l) t) j g λh' eb=>⟨rQ,I.turned (t':=s.toks) (λb o G e=>eb b o G e) f0 f1 f3 f4 f5⟩
 self:=λA i s Q E st h=>by obtain⟨_,_,⟨d,j⟩,_⟩:=st;show np j h
def Rv {P:Program}{w:World}{K:W.Frag}{elts:List Expr}{x1}{pos:Pos}{ty:String}(d:ty="str_ascii_iterator"\/ty="str_iterator")(l:List Nat)(t:Tok)(it e:Addr):Turn P w K (.Tuple elts x1 pos) (Kc l) [e,it] e (λi h=>e≠it/\i<=l.length/\(∃g,IsEnum h e it i g)/\h.IsStrIter it ty (S l) t i):=by
 let h:=CT (P:=P) (w:=w) (K:=K) (elts:=elts) (x1:=x1) (pos:=pos) d l 0 t it e;let e1:xY l 0=Kc l:=by unfold xY Kc;simp only[gt]
 simp only[gt]at h;rw[e1]at h;show h
def Rw {P:Program}{w:World}{K:W.Frag}{elts:List Expr}{x1}{pos:Pos}(a it e:Addr):Turn P w K (.Tuple elts x1 pos) (XQ K a) [e,it] e (λi h=>(e≠it/\a≠e/\a≠it)/\(∃d,IsEnum h e it i d)/\h.IsTupleIter it a i) where
 mem:=by simp
 obj:=λi h st b hb=>by
  obtain⟨_,⟨d,g⟩,o,B,_,hd⟩:=st;rcases a_.mp hb with z|z;.show⟨_,by rw[z];show g,λv y=>by cases y⟩
  .show⟨o,by rw[am.mp z];show B,λv y=>by rw[hd]at y;cases y⟩
 keep:=λi h h' st k=>by obtain⟨n,⟨d,g⟩,o,B,r⟩:=st;show⟨n,⟨d,k e v0 _ g⟩,o,k it v0 o B,r⟩
 item:=by
  intro X D hw hK hc i ak s σ H E I Y st hg;subst D hw hK;obtain⟨⟨ne,q,j⟩,⟨d,g⟩,hs⟩:=st;let⟨xs,x,L,hx⟩:=hg;let⟨its,rv,p,hz⟩:=I.tuple L;let⟨v,hv,ru⟩:=rv.get hx;let hh:X.A.in1.handled=none:=by simp[I.ok.hd hc]
  let Z:i<its.toArray.size:=by have:=(ai.mp hv).1;simpa using this
  let hpa:s.heap.IsTuple a its.toArray:=p;calc bR (wpAny_pyNext_enum_itemD (adz hh it a j its.toArray) g ⟨hs,hpa⟩ Z ne (by simp[ne,q.symm]) λy h' tk D B O J hsz hk ht=>?_);calc⟨_,rQ,wpAny_letOwnedTupleGo_enum B λh2 he2 G=>?_⟩;obtain⟨⟨o,ho2,r2⟩,_⟩:=O;let⟨oi,hoi,_⟩:=id hs;let ey:y=v:=by
   let h1:its[i]?=some y:=by simpa using D
   rw[hv]at h1;show(be h1).symm
  subst ey;let⟨I3,fr⟩:=aG.pair (x:=x) I Y (a7 g) (a7 hoi) ru J hk G;refine⟨.ref s.heap.objs.size,_,I3,rQ,⟨s.heap.objs.size,x,I.hok.fresh (af _),rQ,λys hy=>by rw[I.GD hy L];show hx,rQ⟩,⟨⟨ne,q,j⟩,⟨_,by simpa using he2⟩,o,(G.2 it (ie ne)).trans ho2,r2⟩,fr⟩
 done:=by
  intro X D hw hK hc i ak s σ H E I Y st hg;subst D hw hK;obtain⟨⟨ne,q,j⟩,⟨d,g⟩,hs⟩:=st;let⟨xs,L,hx⟩:=hg;let⟨its,rv,p,hz⟩:=I.tuple L;let hl:=rv.length;let hh:X.A.in1.handled=none:=by simp[I.ok.hd hc]
  let⟨f0,f1,f2,f3,f4,f5⟩:=Y it v0;let J:s.TypeIs (.ref e) "enumerate":=⟨_,g,rQ⟩
  unfold pyNext;calc aa (kq (dP (name:=Str.ofString "__next__") J F.slot_enumerate_next (c_ F.slot_enumerate_next J F.entry_enumerate_next ?_ (F.args_enumerate_next_1 _))));show wpAny _ _ (field (.ref e) 2 >>= _) _ _ _;calc aa (fw g rQ (x:=.ref it) rQ ?_);calc aa (Pa hh hs (show s.heap.IsTuple a its.toArray from p) (by simp;simp_all) λh' x N hx'=>?_);let⟨o,B,M⟩:=hx';calc aa (ic (T:="StopIteration") (b:=true) ⟨o,B,M⟩ isSubtype_stop ?_);show ag ⟨rQ,I.turned (t':=s.toks) (λb o hb e=>N b o hb e) f0 f1 f3 f4 f5⟩
 self:=λA i s Q E st h=>by obtain⟨_,⟨d,g⟩,_⟩:=st;show np g h
section
variable {X:Cx}{elts:List Expr}{x1:Nat}{tp:Pos}
def adA (ta:TA):TI:=λσ H R=>ta σ H λvs H1=>∃l,vs=[.str (S l)]/\R (Kc l) H1
def adB (K:W.Frag)(ta:TA):TI:=λσ H R=>ta σ H λvs H1=>∃a,vs=[.ref a]/\(∃xs,aU K H1 a xs)/\R (XQ K a) H1
def XR {a:Expr}{ta:TA}{p pos:Pos}(D:Gl X "enumerate")(hm:X.mg "enumerate"=none)(ha:QA X [a] ta)(hs:starEach [a] X.env=[(false,eval a X.env)]:=by rfl):QI X (.Tuple elts x1 tp) (.Call (.Name "enumerate" p) [a] [] pos) (adA ta):=⟨by
 intro ak s σ H R I h;calc Call_ (pG I D hm boot_enumerate (gS (bA (ha.out pos ak s σ H _ I h) λus s1 G=>?_) hs rQ));let⟨vs,H1,d,r1,q1⟩:=G;let⟨l,e,q⟩:=q1;subst e;cases r1 with
 | cons r rr=>
  cases rr;let⟨t,rfl⟩:=r;let g:strIterType (S l)="str_ascii_iterator"\/strIterType (S l)="str_iterator":=by unfold strIterType;split <;> simp
  calc call_enumerate_str λh' B j hsz hk=>np B ?_;calc⟨s1.heap.objs.size+1,[s1.heap.objs.size+1,s1.heap.objs.size],_,_,H1,rQ,d.kept (t':=s1.toks) hk,Rv g l t s1.heap.objs.size _,⟨uB _,cn _,⟨_,B⟩,j⟩,λb F=>?_,q⟩;rcases a_.mp F with z|z
  .rw[z];show d.nC (cx _) (d.hok.fresh (cx _))
  .rw[am.mp z];show d.nC (af _) (d.hok.fresh (af _))⟩
def XS {a:Expr}{ta:TA}{p pos:Pos}(G:Gl X "enumerate")(hm:X.mg "enumerate"=none)(ha:QA X [a] ta)(hs:starEach [a] X.env=[(false,eval a X.env)]:=by rfl):QI X (.Tuple elts x1 tp) (.Call (.Name "enumerate" p) [a] [] pos) (adB X.K ta):=⟨by
 intro ak s σ H R I h;calc Call_ (pG I G hm boot_enumerate (gS (bA (ha.out pos ak s σ H _ I h) λus s1 M=>?_) hs rQ));let⟨vs,H1,d,r1,q1⟩:=M;obtain⟨a,e,⟨xs,L⟩,q⟩:=q1;subst e;cases r1 with
 | cons r rr=>
  cases rr;cases r;let⟨its,N,D,hz⟩:=d.tuple L;let g:a<s1.heap.objs.size:=by
   let⟨o,F,_⟩:=(show s1.heap.IsTuple a its.toArray from D)
   show a7 F
  calc ae2 (show s1.heap.IsTuple a its.toArray from D) λh' B j hsz hk=>np B ?_;calc⟨s1.heap.objs.size+1,[s1.heap.objs.size+1,s1.heap.objs.size],_,_,H1,rQ,d.kept (t':=s1.toks) hk,Rw a s1.heap.objs.size _,⟨⟨uB _,bb (eL g),bb g⟩,⟨_,B⟩,j⟩,λb J=>?_,q⟩;rcases a_.mp J with z|z
  .rw[z];show d.nC (cx _) (d.hok.fresh (cx _))
  .rw[am.mp z];show d.nC (af _) (d.hok.fresh (af _))⟩
end
def Uy {K:W.Frag}{a:Addr}{xs:List V}{g:TG}{tb:TS}{D:Ends}{σ:St}{H:Hp}(d:Nat->St->Hp->Prop)(B:d 0 σ H)(j:∀i σ H,i<=xs.length->d i σ H->aU K H a xs)(hs:∀i x σ H T,xs[i]?=some x->d i σ H->H T=none->g (.ref T) σ (upd H T (.tup [.int i,x])) λσ2 G=>tb {D with nx:=d (i+1),ct:=d (i+1),bk:=D.nx} σ2 G)(hd:∀σ H,d xs.length σ H->D.nx σ H):Ew (XQ K a) g tb D σ H:=Q0 xs.length d B (λi σ H h p=>⟨⟨xs,xs[i],j i σ H (aI h) p,by simp[h]⟩,λx H' y=>by let⟨T,y,F,rfl,q,rfl⟩:=y;show hs i y σ _ T (q xs (j i σ H (aI h) p)) p F⟩) λσ H p=>⟨⟨xs,j _ σ H (af _) p,af _⟩,hd σ H p⟩
def Uz {l:List Nat}{f:St->St}{tt:TT}{KT:W.Frag}{D:Addr}{te:TE}{σ:St}{H:Hp}{R:Hp->Prop}(d:Nat->List V->Hp->Prop)(j:d 0 [] (upd H D (.lst [])))(hs:∀i c ys H T,l[i]?=some c->d i ys H->H T=none->o8 l.length i D (λv H Q=>∃a p q,v=.ref a/\aU KT H a [p,q]/\Q [some p,some q]) f σ tt te (.ref T) (upd H T (.tup [.int i,.str (S [c])])) ys (d (i+1)))(hd:∀ys H,d l.length ys H->R H):rB (Kc l) D H R (Cz (λv H Q=>∃a p q,v=.ref a/\aU KT H a [p,q]/\Q [some p,some q]) f σ tt te):=Fd l.length d j (λi ys H h p=>⟨h,λx H' y=>by let⟨T,c,B,rfl,g,rfl⟩:=y;show hs i c ys H T g p B⟩) λys H p=>⟨af _,hd ys H p⟩
section
variable {X:Cx}
def Kd (L:X.calm=true):fU X (.builtin "any") (λxs H Q=>∃(p:Addr) (bs:List Bool),xs=[.ref p]/\aP X.K H p (bs.map V.bl)/\Q (.bl (bs.any id)) H):=by
 intro ak s σ H xs us Q I r h;let⟨p,bs,rfl,hq,q⟩:=h;let⟨u,rfl,j⟩:=vals1 r;cases j;let⟨its,B,pl,hz⟩:=I.list hq;let F:p≠s.heap.objs.size:=by let⟨o,N,_⟩:=pl.isList;show bb (a7 N)
 let Y:∀(i:Nat) (v:Value),its[i]?=some v->v=.bool (bs.getD i false):=λi v hv=>by
  let O:=B.length;let hi:i<bs.length:=by have:=(ai.mp hv).1;simp at O;simp_all
  let⟨u,G,j⟩:=B.get (i:=i) (x:=.bl bs[i]) (by simp[hi]);rw[hv]at G;cases G;cases j;simp[List.getD,hi]
 calc bR (call_any_walk (mP pl.isList ?_));refine⟨s.heap.objs.size,_,_,_,_,_,λi=>bs.getD i false,rQ,Walks.list (A:=X.A.in1) (I.ok.hd L) s.heap.objs.size p F its.toArray,⟨⟨_,ap _ rQ,rQ,rQ⟩,pl.isList.at λo e=>ae _ e⟩,?_,λh' Z M ht=>?_⟩
 .intro i v s' Q' E' hv D;let e:=Y i v (by simpa using hv);subst e;show ef D
 .let J:aG X ak σ H {s with heap:=h',toks:=Z}:=I.kept λb o e=>M b o (by
   intro hm;have:b=s.heap.objs.size:=by simpa using hm
   subst this;show absurd (a7 e) (iX _)) (ae _ e)
  calc⟨.bl (bs.any id),H,J,?_,q⟩;show Value.bool _=Value.bool _;let O:its.toArray.size=bs.length:=by have:=B.length;simp at this;simp[this]
  rw[O];congr 1;let d:∀bs:List Bool,(List.range bs.length).any (λi=>bs.getD i false)=bs.any id:=λbs=>by
   rw[me,uC,uC];constructor
   .intro z;let⟨i,hi,h⟩:=z;let g:=bv.mp hi;show⟨bs[i],bg _,by simpa [List.getD,g] using h⟩
   .intro z;let⟨x,hx,h⟩:=z;let⟨i,hi,rfl⟩:=cq.mp hx;show⟨i,bv.mpr hi,by simpa [List.getD,hi] using h⟩
  show d bs
end
structure ZA (z ti to u v a b:Addr):Prop where
 q1:ti≠z
 q2:to≠z
 q3:u≠z
 q4:v≠z
 q5:ti≠to
 q6:ti≠u
 q7:ti≠v
 q8:to≠u
 q9:to≠v
 p1:u≠v
 p2:a≠z
 p3:a≠to
 p4:a≠u
 p5:a≠v
 p6:b≠z
 p7:b≠to
 p8:b≠u
 p9:b≠v
section
def UG:bootBuiltins "zip"=some (.type "zip"):=by decide +kernel
end
end L2
namespace HT
open PySem PySem.Spec PyProof.Rows
section
variable {prog:Program}{w:World}{A:Around}{E:AB}{s:Shared}
def zT {t sl:Addr}{d:Array Value}{vl q:Value}{lo hi:Option Int}{Q:AB}(g:IsTup s.heap t d)(hs:s.heap.IsSliceOf sl vl q .none)(pl:IsPart vl lo)(B:IsPart q hi)(hw:bN d.size 0 lo=0/\bN d.size d.size hi=d.size)(h:Q (.ref t) s):wpAny (model prog w) A (getItem (.ref t) (.ref sl)) Q E s:=by
 let⟨F,h1,D,G⟩:=id hs;let ty:s.TypeIs (.ref sl) "slice":=⟨F,h1,D⟩
 unfold getItem
 try with_reducible refine eD ?_
 first|refine aa (ag ?_)|skip
 calc aa (wpAny_sequenceKey g.typeIs v_ (aa (dP (name:=Str.ofString "__getitem__") g.typeIs f_ (c_ f_ g.typeIs entry_tuple_getitem ?_ (args_tuple_getitem _ _)))));show wpAny _ _ (Builtin.Tuple.tupleItemsOf (.ref t) >>= _) _ _ s;calc aa (tupleItemsOf_ g (aa (oy ty ?_)));rw[if_pos v_];calc aa (q_ hs pl B ?_);let j:((((bN d.size 0 lo:Nat):Int)==0&&(1:Int)==1&&(bN d.size d.size hi-bN d.size 0 lo)==d.size)=true):=by rw[hw.1,hw.2];simp
 show wpAny _ _ (if (((bN d.size 0 lo:Nat):Int)==0&&(1:Int)==1&&(bN d.size d.size hi-bN d.size 0 lo)==d.size)=true then _ else _) _ _ s;rw[if_pos j];calc aa ?_;unfold Builtin.Tuple.tupleIsExact;calc aa (oy g.typeIs (ag ?_));rw[if_pos v_];show aa (f7 (ag ⟨_,rQ,ag h⟩))
end
end HT
namespace L2
open PySem PySem.Spec PyProof.Rows PySem.W
section
variable {X:Cx}
variable {a:Addr}
def ae3 (K:W.Frag):R2:=λx y H Q=>∃a b xs ys,x=.ref a/\y=.ref b/\aU K H a xs/\aU K H b ys/\xs.length+ys.length<=sizeLine/\(xs=[]->H b=some (.tup ys))/\(ys=[]->xs≠[]->H a=some (.tup xs))/\
 ∀p H',aA H H'->H' p=some (.tup (xs++ys))->Q (.ref p) H'
def Pb:dY X (binaryOp .Add) (ae3 X.K):=by
 intro ak s σ H x y v u Q I rx Z h;let⟨a,b,xs,ys,rfl,rfl,ha,hb,hz,e1,e2,q⟩:=h;cases rx;cases Z;let⟨its,r1,p1,_⟩:=I.tuple ha;let⟨j,D,p2,_⟩:=I.tuple hb;by_cases hx:xs=[]
 .let hi:its=[]:=r1.Ez.mpr hx;obtain⟨⟨cls,Y,data,sl⟩,N,M,n,hd⟩:=id p1;obtain⟨⟨O,F,G,J⟩,g,d,n2,B⟩:=id p2;simp only at M hd d B;subst M hd d B;show concat_meets ⟨_,N,rQ⟩ ⟨_,g,rQ⟩ noFill_tuple_add seq_tuple_add qi pE (ox _ _)
   (tuple_addW0 a b its.toArray j.toArray n n2 Y F sl J (by simp[hi])) ⟨N,g,⟨.ref b,H,I,rQ,q b H (aA.refl _) (by rw[hx];show e1 hx)⟩⟩
 .refine HT.aaB p1 p2 (λz=>hx (r1.Ez.mp z)) (λz=>⟨.ref a,H,I,rQ,?_⟩) (λz=>?_) (by rw[<-r1.length,<-D.length];show hz)
  .let L:=D.Ez.mp z;show q a H (aA.refl _) (by rw[L,eJ];show e2 L hx)
  .calc⟨.ref s.heap.objs.size,_,I.laid (t':=s.toks) (o:=.tup (xs++ys)) (λb ob q=>ae _ q) (af _) ?_,rQ,q _ _ (aA.upd (I.hok.fresh (af _))) aq⟩;show⟨by rw[ar];show hz,_,r1.append D,IsTup.new _ _⟩
def afJ (K:W.Frag):V->Option Int->Option Int->Hp->VK->Prop:=λx lo hi H Q=>∃a xs,x=.ref a/\H a=some (.tup xs)/\∀p H',aA H H'->H' p=some (.tup (ig xs lo hi))->Q (.ref p) H'
def Pg:T9 X (afJ X.K):=by
 intro ak s σ H x v vl B lo hi sl Q I j hs pl g h;let⟨a,xs,rfl,hx,q⟩:=h;cases j;let⟨its,r,d,hz⟩:=I.tuple (aU.of hx);let O:its.toArray.size=xs.length:=by rw[bz];show r.length.symm
 calc⟨"tuple",_,f_.lookup,d.typeIs,?_⟩;by_cases hw:HT.bN xs.length 0 lo=0/\HT.bN xs.length xs.length hi=xs.length
 .calc HT.zT d hs pl g (by rw[O];show hw) ⟨.ref a,H,I,rQ,q a H (aA.refl _) ?_⟩;unfold ig;rw[hw.1,hw.2];simpa using hx
 .calc HT.zR d hs pl g (by rw[O];show hw) ?_ (by rw[O];show hz);rw[O];calc⟨.ref s.heap.objs.size,_,I.laid (t':=s.toks) (o:=.tup (ig xs lo hi)) (λb ob q=>ae _ q) (af _) ?_,rQ,q _ _ (aA.upd (I.hok.fresh (af _))) aq⟩;show⟨aS (Aa xs lo hi) hz,_,(r.drop (HT.bN xs.length 0 lo)).take (HT.bN xs.length xs.length hi-HT.bN xs.length 0 lo),IsTup.new _ _⟩
abbrev ZJ (h:Heap)(a:Addr):Heap:=h.push {cls:=.type "list_iterator",data:=.fields #[.ref a,.int 0 0]}
end
def SetT (w:World)(h:Heap)(a:Addr)(es:Array (Int×Value))(ep:Nat)(t:SetTable):Prop:=∃o,h.get? a=some o/\o.ExactSet/\o.data=.set es ep t/\t.fits es.size=true/\(w.params.followText "set-order"=true\/t.led=true)/\(t.plain=false\/es.size=0)
def SetT.mv {w:World}{h h':Heap}{a:Addr}{es:Array (Int×Value)}{ep:Nat}{t:SetTable}(m:SetT w h a es ep t)(k:∀o,h.get? a=some o->h'.get? a=some o):SetT w h' a es ep t:=let ⟨o,p,q⟩:=m;⟨o,k _ p,q⟩
def SetT.ty {w:World}{s:Shared}{a:Addr}{es:Array (Int×Value)}{ep:Nat}{t:SetTable}(m:SetT w s.heap a es ep t):s.TypeIs (.ref a) "set":=let ⟨o,p,q,_⟩:=m;⟨o,p,q.1⟩
def SetT.lt {w:World}{h:Heap}{a:Addr}{es:Array (Int×Value)}{ep:Nat}{t:SetTable}(m:SetT w h a es ep t):a<h.objs.size:=let ⟨o,p,_⟩:=m;a7 p
section
variable {prog:Program}{w:World}{A:Around}{E:AB}{s:Shared}{a:Addr}{es:Array (Int×Value)}{ep:Nat}{t:SetTable}
def CV {d:Array (Int×Value)}{t':SetTable}{Q:Unit->Shared->Prop}(m:SetT w s.heap a es ep t)(G:t'.fits d.size=true)(D:t'.led=t.led)(hp:t'.plain=false)(hz:d.size<scanBound)(q:∀h',Heap.SameBut a s.heap h'->SetT w h' a d (ep+1) t'->Q () {s with heap:=h' }):wpAny (model prog w) A (storeSet a d t') Q E s:=by let⟨o,j,g,hd,_,F,_⟩:=m;calc wpAny_storeSet_of j hd (q _ (fA s.heap a (Obj.putSet d t')) ?_) (fits_of_scanBound hz);let B:=fb (Obj.putSet d t') j (by rw[putSet_of d t' hd];rfl);rw[putSet_of d t' hd]at B;show⟨_,B,g,rQ,G,by rw[D];show F,.inl hp⟩
def Iw (a:Value){Q₁:AB}(h:Q₁ (.ref s.heap.objs.size) {s with heap:=s.heap.push {cls:=.type "set",dict:=none,data:=.set #[] 0 (.fresh 0 0 (!w.params.followText "set-order"))} }):codeAny (model prog w) A (.call (.builtin "set.__new__") ⟨[.type "set",a],[]⟩) (wants Q₁ E) s:=by
 calc codeAny_of_tree ?_;show wpAny _ A.in1 (do checkBuiltinCall "set.__new__" ⟨[.type "set",a],[]⟩;again (.builtin "set.__new__" ⟨[.type "set",a],[]⟩)) _ _ s;calc aa (mM (F.newCall_set_1 a) (ag ⟨plainId_quiet F.plain_set_new _,kg F.entry_set_new ?_⟩));rw[kD F.plain_set_new _];unfold Builtin.«set.__new__» Builtin.Frozenset.newClass;let j:=sub_set_self;let⟨hp,g,d,q,os⟩:=s;dsimp only
 wp_walk
 calc kP (ag ?_);dsimp only;simp only[newObj];calc aa (wpAny_alloc (ag ?_));show ag h
end
theorem vH {α:Type}:∀(l:List α) (i:Nat) (h:i<l.length),(l[i]::l.eraseIdx i).Perm l
 | a::l,0,h=>.refl _
 | a::l,i+1,h=>(List.Perm.swap a _ _).trans ((vH l i (by simpa using h)).cons a)
def sY {α:Type}(d:Nat->Nat)(xs:Array α):(pickOrder d xs).toList.Perm xs.toList:=by
 let g:∀(f k:Nat) (l:List α) (o:Array α),f=l.length->(pickOrder.go d f k l o).toList.Perm (o.toList++l):=by
  intro f
  induction f with
  | zero=>intro k l o e;cases l with|nil=>simp[pickOrder.go]|cons a r=>simp at e
  | succ f ih=>intro k l o e;let j:0<l.length:=vT;let hi:d k%l.length<l.length:=nE _ j;unfold pickOrder.go;rw[ah hi];dsimp only;calc(ih _ _ _ (by rw[List.length_eraseIdx,if_pos hi];lia)).trans ?_;rw[kz,bt];show im _ (by simpa using vH _ _ hi)
 have:=g xs.size 0 xs.toList #[] v0;simpa [pickOrder] using this
section
variable {prog:Program}{w:World}{A:Around}{E:AB}{s:Shared}
def Iz {g:Source}{n:Nat}{Q:Nat->Shared->Prop}(hn:n≠0)(h:∀i d,i<n->Q i {s with drawn:=d}):wpAny (model prog w) A (choose g n) Q E s:=λ_ _ _=>⟨hn,h _ _ (nE _ (Nat.pos_of_ne_zero hn))⟩
theorem Af {α:Type}:∀(n:Nat) (xs:List α) {s:Shared} {Q:List α->Shared->Prop},n=xs.length->(∀ys d,ys.Perm xs->Q ys {s with drawn:=d})->wpAny (model prog w) A (drawOrder n xs) Q E s
 | 0,xs,s,Q,e,h=>by have:xs=[]:=i6.mp e.symm;subst this;unfold drawOrder;show ag (h [] s.drawn .nil)
 | n+1,[],s,Q,e,h=>by simp at e
 | n+1,x::xs,s,Q,e,h=>by unfold drawOrder;calc aa (Iz v0 λi d hi=>?_);rw[ah hi];dsimp only;calc aa (Af n _ (by rw[List.length_eraseIdx,if_pos hi];simp_all) λys d' p=>ag ?_);calc h _ d' ?_;show((p.cons _).trans (vH _ _ hi))
end
end L2
namespace PySem.F
def bL:Slot "set_iterator" "__next__" "set_iterator.__next__":=
 .of (owner:="set_iterator") (n:="__next__") (by rw[typeLookup_type,builtinLookup_eq_fast];kernel_rfl) wc wc wc
  (by first|show .inl wc|show .inr wc) (by rw[isSubtype_type];kernel_rfl)
def lR:Slot "set_iterator" "__iter__" "set_iterator.__iter__":=
 .of (owner:="set_iterator") (n:="__iter__") (by rw[typeLookup_type,builtinLookup_eq_fast];kernel_rfl) wc wc wc
  (by first|show .inl wc|show .inr wc) (by rw[isSubtype_type];kernel_rfl)
def fX:entryFor table "set_iterator.__next__"=some Builtin.«set_iterator.__next__»:=entryFor_of_tree wb
def CW:entryFor table "set.__iter__"=some Builtin.«frozenset.__iter__»:=entryFor_alias (id':="frozenset.__iter__") wb rQ wc wb
def pN:Manifest.owners.lookup (String.ofList ['r','o','t','a','r','e','t','i','_','t','e','s'].reverse)=some Manifest.sig_set_iterator:=by kernel_rfl
def fH (a:Value):argsOk "set_iterator.__next__" ⟨[a],[]⟩:=by unfold argsOk;rw[signature?_of (id:="set_iterator.__next__") (n:=['_','_','t','x','e','n','_','_']) (o:=['r','o','t','a','r','e','t','i','_','t','e','s']) wb pN];kernel_rfl
def rF:entryFor table "set_iterator.__iter__"=some Builtin.«dict_keyiterator.__iter__»:=entryFor_alias (id':="dict_keyiterator.__iter__") wb rQ wc wb
def rG (a:Value):argsOk "set_iterator.__iter__" ⟨[a],[]⟩:=by unfold argsOk;rw[signature?_of (id:="set_iterator.__iter__") (n:=['_','_','r','e','t','i','_','_']) (o:=['r','o','t','a','r','e','t','i','_','t','e','s']) wb pN];kernel_rfl
end PySem.F
namespace L2
open PySem PySem.Spec PyProof.Rows PySem.W
def cX (h:Heap)(it:Addr)(first:Value)(i:Nat)(a:Addr)(n ep:Nat):Prop:=∃o,h.get? it=some o/\o.cls=.type "set_iterator"/\o.data=.fields #[first,.int i 0,.ref a,.int n 0,.int ep 0]
def cX.ty {s:Shared}{it a:Addr}{f:Value}{i n ep:Nat}(x:cX s.heap it f i a n ep):s.TypeIs (.ref it) "set_iterator":=let ⟨o,p,q,_⟩:=x;⟨o,p,q⟩
def cX.mv {h h':Heap}{it a:Addr}{f:Value}{i n ep:Nat}(x:cX h it f i a n ep)(k:∀o,h.get? it=some o->h'.get? it=some o):cX h' it f i a n ep:=let ⟨o,p,q⟩:=x;⟨o,k _ p,q⟩
section
variable {prog:Program}{w:World}{A:Around}{E:AB}{s:Shared}{a it:Addr}{es:Array (Int×Value)}{ep i:Nat}{t:SetTable}{first:Value}
def wU {slot k:Nat}{u:Tok}{v:Value}{Q:Option Value->Shared->Prop}(x:cX s.heap it (.int slot u) i a es.size ep)(m:SetT w s.heap a es ep t)(hn:∀(G:Around) (J:AB) (B:Option (Value×Nat)->Shared->Prop),B (some (v,k)) s->wpAny (model prog w) G (setNext a slot i ep) B J s)(q:∀h',cX h' it (.int k 0) (i+1) a es.size ep->Heap.SameBut it s.heap h'->Q (some v) {s with heap:=h' }):wpAny (model prog w) A (pyNext (.ref it)) Q E s:=by let T:=x.ty;let⟨y,g,O,d⟩:=id x;let⟨o,M,N,hd,D,_,_⟩:=m;unfold pyNext;calc aa (kq (dP (name:=Str.ofString "__next__") T F.bL (c_ F.bL T F.fX ?_ (F.fH _))));unfold Builtin.«set_iterator.__next__»;calc aa (ag ?_);calc aa (tq g d ?_);dsimp only;calc aa (lI M hd D ?_);rw[if_neg v0];calc aa ?_;simp only[cS];calc hn _ _ _ ?_;dsimp only;calc aa (ik g d v0 ?_);let j:=fb (Obj.mapFields (·.setIfInBounds 0 (rawInt (k:Int)))) g (ke (eI d _));calc aa (ik j (eI d _) v0 ?_);let L:=fb (Obj.mapFields (·.setIfInBounds 1 (rawInt ((i:Int)+1)))) j (ke (eI (eI d _) _));calc ag ⟨_,rQ,ag ?_⟩;calc q _ ⟨_,L,(pV ..).trans ((pV ..).trans O),?_⟩ ((fA ..).trans (fA ..));rw[eI (eI d _)];simp[rawInt]
def xZ {slot:Nat}{u:Tok}{Q:Option Value->Shared->Prop}(L:A.handled=none)(x:cX s.heap it (.int slot u) i a es.size ep)(m:SetT w s.heap a es ep t)(hn:∀(B:Around) (D:AB) (j:Option (Value×Nat)->Shared->Prop),j none s->wpAny (model prog w) B (setNext a slot i ep) j D s)(q:∀h',Heap.ExtBut it s.heap h'->Q none {s with heap:=h' }):wpAny (model prog w) A (pyNext (.ref it)) Q E s:=by let T:=x.ty;let⟨y,d,N,g⟩:=id x;let⟨o,G,J,hd,M,_,_⟩:=m;unfold pyNext;calc aa (kq (dP (name:=Str.ofString "__next__") T F.bL (c_ F.bL T F.fX ?_ (F.fH _))));unfold Builtin.«set_iterator.__next__»;calc aa (ag ?_);calc aa (tq d g ?_);dsimp only;calc aa (lI G hd M ?_);rw[if_neg v0];calc aa ?_;simp only[cS];calc hn _ _ _ ?_;dsimp only;calc aa (ik d g v0 ?_);calc aa ?_;simp only[PySem.newExc,newTuple];calc aa (ej ?_ we);calc aa (m:=firstArgMember _ _) (mM (a:=Value.none) (by first|rfl|(simp only[firstArgMember];rfl)) (ej ?_ we));simp only[raiseNew];calc aa (wpAny_handled ?_);rw[show A.in1.handled=none from L];calc aa (ag (wpAny_throw ?_));calc aa (m:=isInstance _ _) (ic (T:="StopIteration") (b:=true) ⟨_,ap _ rQ,rQ⟩ isSubtype_stop ?_);show ag (q _ (((fA ..).extBut.push _).push _))
def Fo {tp:Addr}{D:Obj}{ps:Array Value}{O j:Nat}{u:Tok}{hv:Int}{v:Value}{Q:Option Value->Shared->Prop}(x:cX s.heap it (.ref tp) i a es.size ep)(m:SetT w s.heap a es ep t)(h1:s.heap.get? tp=some D)(J:D.data=.seq ps O)(hp:ps[i]?=some (.int j u))(M:es[j]?=some (hv,v))(q:∀h',cX h' it (.ref tp) (i+1) a es.size ep->Heap.SameBut it s.heap h'->Q (some v) {s with heap:=h' }):wpAny (model prog w) A (pyNext (.ref it)) Q E s:=by let T:=x.ty;let⟨y,g,Y,d⟩:=id x;let⟨o,G,N,hd,B,_,_⟩:=m;unfold pyNext;calc aa (kq (dP (name:=Str.ofString "__next__") T F.bL (c_ F.bL T F.fX ?_ (F.fH _))));unfold Builtin.«set_iterator.__next__»;calc aa (ag ?_);calc aa (tq g d ?_);dsimp only;calc aa (lI G hd B ?_);rw[if_neg v0];calc aa (fE h1 J ?_);dsimp only;simp only[cS,hp];calc aa ?_;unfold setNextDrawn;calc aa (fi G hd B ?_);dsimp only;rw[if_neg v0];simp only[M];calc ag ?_;calc aa (ik g d v0 ?_);let L:=fb (Obj.mapFields (·.setIfInBounds 1 (rawInt ((i:Int)+1)))) g (ke (eI d _));calc ag ⟨_,rQ,ag ?_⟩;calc q _ ⟨_,L,(pV ..).trans Y,?_⟩ (fA ..);rw[eI d];simp[rawInt]
def IK {tp:Addr}{j:Obj}{ps:Array Value}{L:Nat}{Q:Option Value->Shared->Prop}(M:A.handled=none)(x:cX s.heap it (.ref tp) i a es.size ep)(m:SetT w s.heap a es ep t)(h1:s.heap.get? tp=some j)(B:j.data=.seq ps L)(hp:ps[i]?=none)(q:∀h',Heap.ExtBut it s.heap h'->Q none {s with heap:=h' }):wpAny (model prog w) A (pyNext (.ref it)) Q E s:=by let T:=x.ty;let⟨y,g,O,d⟩:=id x;let⟨o,G,J,hd,N,_,_⟩:=m;unfold pyNext;calc aa (kq (dP (name:=Str.ofString "__next__") T F.bL (c_ F.bL T F.fX ?_ (F.fH _))));unfold Builtin.«set_iterator.__next__»;calc aa (ag ?_);calc aa (tq g d ?_);dsimp only;calc aa (lI G hd N ?_);rw[if_neg v0];calc aa (fE h1 B ?_);dsimp only;simp only[cS,hp];calc aa (ik g d v0 ?_);let D:=fb (Obj.mapFields (·.setIfInBounds 0 (rawInt 0))) g (ke (eI d _));calc aa (ik D (eI d _) v0 ?_);calc aa ?_;simp only[PySem.newExc,newTuple];calc aa (ej ?_ we);calc aa (m:=firstArgMember _ _) (mM (a:=Value.none) (by first|rfl|(simp only[firstArgMember];rfl)) (ej ?_ we));simp only[raiseNew];calc aa (wpAny_handled ?_);rw[show A.in1.handled=none from M];calc aa (ag (wpAny_throw ?_));calc aa (m:=isInstance _ _) (ic (T:="StopIteration") (b:=true) ⟨_,ap _ rQ,rQ⟩ isSubtype_stop ?_);show ag (q _ ((((fA ..).trans (fA ..)).extBut.push _).push _))
def X3 {Q:AB}(m:SetT w s.heap a es ep t)(hz:es.size<=4000)(q1:(w.params.followText "set-order"=true\/(w.params.followText "set-order"=false/\es.size<=1))->Q (.ref s.heap.objs.size) {s with heap:=s.heap.push {cls:=.type "set_iterator",data:=.fields #[.int 0 0,.int 0 0,.ref a,.int es.size 0,.int ep 0]} })(q2:∀(ps:List Nat) (d:Drawn),ps.Perm (List.range es.size)->Q (.ref (s.heap.objs.size+1)) {s with heap:=(s.heap.push {cls:=.type "tuple",data:=.seq (ps.map λi:Nat=>Value.int i 0).toArray}).push {cls:=.type "set_iterator",data:=.fields #[.ref s.heap.objs.size,.int 0 0,.ref a,.int es.size 0,.int ep 0]},drawn:=d}):wpAny (model prog w) A (pyIter (.ref a)) Q E s:=by
 let T:=m.ty;let⟨o,g,q,hd,j,B,hp⟩:=m;calc wpAny_pyIter_slot T F.slot_set_iter (c_ F.slot_set_iter T F.CW ?_ (F.args_set_iter_1 _));unfold Builtin.«frozenset.__iter__» Builtin.Frozenset.slot0 Builtin.Frozenset.sizeOf;calc aa (aa (ag ?_));show wpAny _ _ (pure a) _ _ _;calc ag ?_;calc aa (aa (lI g hd j (ag ?_)));unfold setDrawn setsByText;calc aa (aa (fi g hd j ?_));dsimp only;calc aa (aa (kP (ag ?_)));calc ag ?_;split
 .rename_i h;let h:(!w.params.followText "set-order" && (!t.plain&&decide (es.size > 1)))=true:=h;calc aa (Af _ _ v0 λps d pm=>?_);calc aa (wpAny_newTuple ?_ (by rw[ab,pm.length_eq,dm];show aS hz v_));calc aa (wpAny_setEpoch_of (a:=a) (o:=o) (es:=es) (ep:=ep) (t:=t) (ae _ g) hd j ?_);calc aa (ej (ag ⟨_,rQ,"set_iterator",_,⟨_,ap _ rQ,rQ⟩,F.bL.lookup,?_⟩));have:=q2 ps d pm;simpa [rawInt,dC] using this
 .rename_i h;let h:¬(!w.params.followText "set-order" && (!t.plain&&decide (es.size > 1)))=true:=h;calc aa (ag ?_);calc aa (wpAny_setEpoch_of g hd j ?_);calc aa (ej (ag ⟨_,rQ,"set_iterator",_,⟨_,ap _ rQ,rQ⟩,F.bL.lookup,?_⟩));have:=q1 (by
   cases e:w.params.followText "set-order" with
   | true=>show .inl rfl
   | false=>
    calc .inr ⟨rQ,?_⟩;rcases hp with hp|hp;.simp[e,hp]at h;show h
    .lia)
  simpa [rawInt] using this
def X4 {Q:Bool->Shared->Prop}(j:s.TypeIs (.ref a) "set")(h:Q false s):wpAny (model prog w) A (Builtin.List.listLengthHint (.ref a)) Q E s:=by
 unfold Builtin.List.listLengthHint;calc aa (ml j PySem.F.slot_set_len.lookup ?_);generalize g:("set.__len__":String)=id0
 wp_delta
 rw[show splitId id0=some ("set","__len__") from by subst g;decide +kernel];subst g;calc aa (ic (T:="set") (b:=true) j (by rw[isSubtype_type];kernel_rfl) ?_);calc wpAny_ite_split (λd=>absurd d v_) (λ_=>?_);calc wpAny_ite_split (λ_=>?_) (λd=>absurd wc d);calc aa (oy j ?_);show ag h
def Bb {Q:AB}{n:Nat}(x:cX s.heap it first i a n ep)(q:Q (.ref it) s):wpAny (model prog w) A (pyIter (.ref it)) Q E s:=by calc wpAny_pyIter_slot x.ty F.lR (c_ F.lR x.ty F.rF ?_ (F.rG _));show wpAny _ _ (ret (.ref it)) _ _ s;show ag ⟨_,rQ,"set_iterator",_,x.ty,F.bL.lookup,q⟩
def Rx {tp:Addr}{ps:List Nat}(N:A.handled=none)(F:a≠it)(G:tp≠it)(hp:∀j∈ps,j<es.size)(L:ps.length=es.size):Walks prog w A it [it,tp,a] [it] es.size (λi v=>∃j e,ps[i]?=some j/\es[j]?=some e/\v=e.2)
   (λi h=>cX h it (.ref tp) i a es.size ep/\SetT w h a es ep t/\∃d,h.get? tp=some d/\d.data=.seq (ps.map λi:Nat=>Value.int i 0).toArray 0) where
 sub:=λb B=>by simp at B;simp[B]
 frame:=λ_ _ _ st hk=>⟨st.1.mv λo e=>hk it v0 o e,st.2.1.mv λo e=>hk a v0 o e,let ⟨d,h1,q⟩:=st.2.2;⟨d,hk tp v0 _ h1,q⟩⟩
 item:=λi s Q E hi st D=>by
  let⟨x,m,d,h1,q⟩:=st;let g:i<ps.length:=by simp_all
  let J:=hp _ (bg g);calc Fo x m h1 q (j:=ps[i]) (u:=0) (by simp[g]) (hv:=es[ps[i]].1) (v:=es[ps[i]].2) (by simp[J]) λh' M k=>?_;show D _ h' s.toks ⟨ps[i],es[ps[i]],by simp[g],by simp[J],rQ⟩ ⟨M,m.mv λo e=>k.extBut a o F e,d,k.extBut tp d G h1,q⟩ λb o B e=>k.extBut b o (λy=>B (by simp[y])) e
 done:=λs Q E st D=>by let⟨x,m,d,h1,q⟩:=st;show IK N x m h1 q (by simp[L]) λh' k=>D h' s.toks λb o B e=>k b o (λy=>B (by simp[y])) e
 self:=λi s Q E st D=>Bb st.1 D
def Hj {slot:Nat}{Q:Option (Value×Nat)->Shared->Prop}(m:SetT w s.heap a es ep t)(d:w.params.followText "set-order"=true)(h:Q (((pickOrder (w.params.setOrder a ep) es)[i]?).map λe=>(e.2,slot)) s):wpAny (model prog w) A (setNext a slot i ep) Q E s:=by let⟨o,g,q,hd,j,_,_⟩:=m;unfold setNext setsByText;calc aa (fi g hd j ?_);dsimp only;calc aa (aa (kP (ag ?_)));rw[if_pos (by show d)];rw[if_neg v0];unfold setWalk setsByText;calc aa ?_;calc aa (fi g hd j ?_);dsimp only;calc aa (aa (kP (ag ?_)));rw[if_pos (by show d)];calc aa (kP (ag ?_));show ag h
def CZ {slot:Nat}{Q:Option (Value×Nat)->Shared->Prop}(m:SetT w s.heap a es ep t)(g:w.params.followText "set-order"=false)(hz:es.size<=1)(h:Q (match es[SetTable.below t.place slot]?,t.place[SetTable.below t.place slot]? with|some (_,x),some j=>some (x,j+1)|_,_=>none) s):wpAny (model prog w) A (setNext a slot i ep) Q E s:=by
 let⟨o,q,B,hd,D,d,_⟩:=m;let d:t.led=true:=by rcases d with z|z;rw[g]at z;cases z;show z
 unfold setNext setsByText;calc aa (fi q hd D ?_);dsimp only;calc aa (aa (kP (ag ?_)));rw[if_neg (by show ¬w.params.followText "set-order"=true;rw[g];simp)];split
 .rename_i z;let z:(!t.plain&&decide (es.size > 1))=true:=z;simp at z;lia
 .calc aa ?_;show wpAny _ _ (if (!t.led && !es.isEmpty)=true then unsupported "set:maker-not-led" else pure ()) _ _ _;rw[if_neg (by rw[d];simp)];show ag (ag h)
def UJ (J:A.handled=none)(B:a≠it)(d:w.params.followText "set-order"=true):Walks prog w A it [it,a] [it] es.size (λi v=>∃e,(pickOrder (w.params.setOrder a ep) es)[i]?=some e/\v=e.2)
   (λi h=>cX h it (.int (0:Nat) 0) i a es.size ep/\SetT w h a es ep t) where
 sub:=λb d=>by simp at d;simp[d]
 frame:=λ_ _ _ st hk=>⟨st.1.mv λo e=>hk it v0 o e,st.2.mv λo e=>hk a v0 o e⟩
 item:=λi s Q E hi st j=>by
  let hsz:(pickOrder (w.params.setOrder a ep) es).size=es.size:=by have:=(sY (w.params.setOrder a ep) es).length_eq;simpa using this
  let g:i<(pickOrder (w.params.setOrder a ep) es).size:=by simp_all
  calc wU (slot:=0) (k:=0) (v:=(pickOrder (w.params.setOrder a ep) es)[i].2) st.1 st.2 (λD F L q=>Hj st.2 d (by rw[bS g];show q)) λh' G k=>?_;show j _ h' s.toks ⟨_,by rw[bS g],rQ⟩ ⟨G,st.2.mv λo e=>k.extBut a o B e⟩ λb o d e=>k.extBut b o (λy=>d (by simp[y])) e
 done:=λs Q E st j=>by
  let hsz:(pickOrder (w.params.setOrder a ep) es).size=es.size:=by have:=(sY (w.params.setOrder a ep) es).length_eq;simpa using this
  refine xZ J st.1 st.2 (λD F L q=>Hj st.2 d (by rw[mN (kK hsz)];show q)) λh' k=>j h' s.toks λb o d e=>k b o (λy=>d (by simp[y])) e
 self:=λi s Q E st j=>Bb st.1 j
def Ry {p:Array Nat}(h:p.size=1):SetTable.below p 0=0:=by unfold SetTable.below;rw[h];simp[SetTable.below.go]
def UL {p:Array Nat}(h:p.size=1):SetTable.below p (p.getD 0 0+1)=1:=by
 let⟨l⟩:=p
 match l,h with| [x],_=>simp[SetTable.below,SetTable.below.go]
def Rz (L:A.handled=none)(B:a≠it)(d:w.params.followText "set-order"=false)(hz:es.size<=1):Walks prog w A it [it,a] [it] es.size (λi v=>∃e,es[i]?=some e/\v=e.2) (λi h=>∃slot:Nat,cX h it (.int slot 0) i a es.size ep/\SetT w h a es ep t/\t.place.size=es.size/\slot=(if i=0 then 0 else t.place.getD 0 0+1)) where
 sub:=λb d=>by simp at d;simp[d]
 frame:=λ_ _ _ st hk=>let ⟨slot,x,m,r⟩:=st;⟨slot,x.mv λo e=>hk it v0 o e,m.mv λo e=>hk a v0 o e,r⟩
 item:=λi s Q E hi st j=>by
  let⟨slot,x,m,hp,hs⟩:=st;let D:i=0:=vT;subst D;rw[if_pos rfl]at hs;subst hs;let h1:es.size=1:=vT;let g:t.place.size=1:=vT;refine wU (slot:=0) (k:=t.place.getD 0 0+1) (v:=es[0].2) x m (λF G M q=>CZ m d hz ?_) λh' J k=>?_
  .rw[Ry g,bS hi,bS (by lia:0<t.place.size)];let e:t.place.getD 0 0=t.place[0]:=by simp[Array.getD,g]
   rw[e]at q;show q
  .show j _ h' s.toks ⟨es[0],by simp[h1],rQ⟩ ⟨_,J,m.mv λo e=>k.extBut a o B e,hp,rQ⟩ λb o d e=>k.extBut b o (λy=>d (by simp[y])) e
 done:=λs Q E st j=>by
  let⟨slot,x,m,hp,hs⟩:=st;calc xZ L x m (λF G M q=>CZ m d hz ?_) λh' k=>j h' s.toks λb o d e=>k b o (λy=>d (by simp[y])) e;rcases(show es.size=0\/es.size=1 by lia) with h0|h1
  .rw[mN vT];show q
  .rw[if_neg vT]at hs;subst hs;rw[UL vT,mN hz];show q
 self:=λi s Q E st j=>by let⟨slot,x,_⟩:=st;show Bb x j
end
def Bc {P:Nat->Value->Prop}{d:Array Value}{n:Nat}{l:List Value}(h:ItemsOf P d n)(D:l.length=n)(B:∀i v,P i v->l[i]?=some v):d.toList=l:=by
 apply gE;intro j;by_cases q:j<n
 .let g:j<d.size:=by rw[h.1];show q
  let e:d[j]?=some d[j]:=by simp[g]
  rw[B j _ (h.2 j _ e),ck,e]
 .rw[di (by rw[bn,h.1];show kQ q),di (by simp_all)]
section
variable {prog:Program}{w:World}{A:Around}{E:AB}{s:Shared}{a:Addr}{es:Array (Int×Value)}{ep i:Nat}{t:SetTable}
variable {X:Cx}
def Bd {R:Result->Shared->Prop}{rs:Bool}{I g:Addr}{fp:List Addr}{n:Nat}{P:Nat->Value->Prop}{St:Nat->Heap->Prop}(W:Walks prog w A.in1 I fp [I] n P St)(G:g∉fp)(res:Value)(c₀:Nat)(N:s.heap.get? g=some {cls:=.type "list",data:=.seq #[] c₀})(st:St 0 s.heap)(hn:n<=sizeLine)(hT:s.TypeIs (.ref a) "set")(hR:∀h' M d B,(∀b o,b≠g->b≠I->s.heap.get? b=some o->h'.get? b=some o)->h'.get? g=some {cls:=.type "list",dict:=none,data:=.seq d B,slots:=#[]}->ItemsOf P d n->R (.ok (.ret res)) {s with heap:=h',toks:=M}):wpAny (model prog w) A.in1 (do
   let room <- holding [Value.ref I] (Builtin.List.listLengthHint (.ref a))
   if room||rs then rule "list.extend.makes-room";Builtin.List.listTouch (.ref g)
   again (.builtin "list.extend.loop" ⟨[.ref g,.ref I,res],[]⟩))
   (λO s'=>match O with|.done f=>R (.ok f) s'|.again B=>B.quiet=true/\codeAny (model prog w) A B R s') (λe s'=>R (.error e) s') s:=by
 let D:∀(h:Heap) (c₁ M:Nat),St 0 h->(∀b o,b≠g->s.heap.get? b=some o->h.get? b=some o)->
   h.get? g=some {cls:=.type "list",data:=.seq #[] c₁}->codeAny (model prog w) A (.builtin "list.extend.loop" ⟨[.ref g,.ref I,res],[]⟩) R {s with heap:=h,toks:=M}:=by
  intro h c₁ M hst hk hS₁;calc codeAny_extend_loopS W.toS hn g G res n 0 _ #[] c₁ rQ (cn _) hst hS₁ (ItemsOf.nil _) λs' d B hm hS' F=>?_;rw[Moved.eq_with hm];calc hR s'.heap s'.toks d B (λb o q Z e=>hm.heap b o (λj=>?_) (hk b o q e)) hS' F;rcases a_.mp j with e'|j
  .show q e'
  .show Z (am.mp j)
 calc aa (eD (X4 hT ?_));calc wpAny_ite_split (λ_=>?_) (λ_=>ag ⟨plainId_quiet ut _,D _ c₀ _ st (λb o _ e=>e) N⟩);calc aa (f7 ?_);calc aa ?_;show wpAny _ _ (updateSeq g (·.push .none) >>= λ_=>updateSeq g (·.pop)) _ _ _;calc aa (wpAny_updateSeq N rQ ?_);let J:=fb (Obj.mapSeq (·.push Value.none)) N rfl;calc wpAny_updateSeq (hz:=by seq_fits) J rQ ?_;let Y:=fb (Obj.mapSeq (·.pop)) J rfl;refine ag ⟨plainId_quiet ut _,D _ _ _ ?_ (λb o q e=>?_) Y⟩
 .refine W.frame 0 _ _ st λb q o e=>?_
  let L:b≠g:=λh=>G (h ▸ q);show(hV _ _ (ie L)).trans ((hV _ _ (ie L)).trans e)
 .show(hV _ _ (ie q)).trans ((hV _ _ (ie q)).trans e)
def RB {R:Result->Shared->Prop}(hh:A.handled=none)(m:SetT w s.heap a es ep t)(hz:es.size<=4000)(J:Addr)(L:J≠a)(res:Value)(c₀:Nat)(hS:s.heap.get? J=some {cls:=.type "list",data:=.seq #[] c₀})(hR:∀h' Y d g F,(∀b o,b≠J->s.heap.get? b=some o->h'.get? b=some o)->h'.get? J=some {cls:=.type "list",dict:=none,data:=.seq g F,slots:=#[]}->g.toList.Perm (es.toList.map (·.2))->R (.ok (.ret res)) {s with heap:=h',toks:=Y,drawn:=d}):wpAny (model prog w) A.in1 (Builtin.List.listExtendWith (.ref J) (.ref a) res)
   (λfin s'=>match fin with|.done f=>R (.ok f) s'|.again F=>F.quiet=true/\codeAny (model prog w) A F R s') (λe s'=>R (.error e) s') s:=by
 let Hl:es.size<=sizeLine:=aS hz v_;let M:=m.lt;let B:=a7 hS;unfold Builtin.List.listExtendWith;calc aa (oy (T:="set") m.ty ?_);let h1:Builtin.List.listSameRef (.ref J) (.ref a)=false:=by simp[Builtin.List.listSameRef,L]
 let n1:(Value.type "set" == Value.type "list")=false:=by decide
 let n2:(Value.type "set" == Value.type "tuple")=false:=by decide
 simp only[h1,n1,n2,qE,a6,if_false];refine aa (X3 m hz (λc=>?_) (λps d pm=>?_))
 .let N:SetT w (s.heap.push {cls:=.type "set_iterator",data:=.fields #[.int 0 0,.int 0 0,.ref a,.int es.size 0,.int ep 0]}) a es ep t:=m.mv λo e=>ae _ e
  let hx:cX (s.heap.push {cls:=.type "set_iterator",data:=.fields #[.int 0 0,.int 0 0,.ref a,.int es.size 0,.int ep 0]}) s.heap.objs.size (.int (0:Nat) 0) 0 a es.size ep:=⟨_,ap _ rQ,rQ,rQ⟩
  let G:J∉[s.heap.objs.size,a]:=by simp only[a_,gu,or_false,not_or];show⟨bb B,L⟩
  rcases c with c|⟨c,c1⟩
  .refine Bd (a:=a) (UJ (t:=t) hh (bb M) c) G res c₀ (ae _ hS) ⟨hx,N⟩ Hl (SetT.ty (s:={s with heap:=_}) N) λh' Y g F k D q=>?_
   let hsz:=(sY (w.params.setOrder a ep) es).length_eq;calc hR h' Y s.drawn g F (λb o hb e=>k b o hb (bb (a7 e)) (ae _ e)) D ?_;rw[Bc (l:=(pickOrder (w.params.setOrder a ep) es).toList.map (·.2)) q (by simpa using hsz) (λi v hv=>by let⟨e,Z,rfl⟩:=hv;simp[Z])];show(sY _ _).map _
  .refine Bd (a:=a) (Rz (t:=t) hh (bb M) c c1) G res c₀ (ae _ hS) ⟨0,hx,N,?_,rQ⟩ Hl (SetT.ty (s:={s with heap:=_}) N) λh' Y g F k D q=>?_
   .let⟨o,_,_,_,hf,_⟩:=m;simp only[SetTable.fits,c9,beq_iff_eq]at hf;show hf.1
   .calc hR h' Y s.drawn g F (λb o hb e=>k b o hb (bb (a7 e)) (ae _ e)) D ?_;rw[Bc (l:=es.toList.map (·.2)) q v0 (λi v hv=>by let⟨e,Z,rfl⟩:=hv;simp[Z])]
 .generalize O:s.heap.push {cls:=.type "tuple",data:=.seq (ps.map λi:Nat=>Value.int i 0).toArray}=h1;let k1:∀b o,s.heap.get? b=some o->h1.get? b=some o:=λb o e=>by rw[<-O];show ae _ e
  let z1:h1.objs.size=s.heap.objs.size+1:=by rw[<-O];show dC ..
  let g1:h1.get? s.heap.objs.size=some {cls:=.type "tuple",data:=.seq (ps.map λi:Nat=>Value.int i 0).toArray}:=by rw[<-O];show ap _ rfl
  let N:SetT w (h1.push {cls:=.type "set_iterator",data:=.fields #[.ref s.heap.objs.size,.int 0 0,.ref a,.int es.size 0,.int ep 0]}) a es ep t:=m.mv λo e=>ae _ (k1 _ _ e);let hx:cX (h1.push {cls:=.type "set_iterator",data:=.fields #[.ref s.heap.objs.size,.int 0 0,.ref a,.int es.size 0,.int ep 0]}) (s.heap.objs.size+1) (.ref s.heap.objs.size) 0 a es.size ep:=⟨_,by rw[<-z1];show ap _ rQ,rQ,rQ⟩
  let hp:∀j∈ps,j<es.size:=λj hj=>bv.mp (pm.mem_iff.mp hj);let hl:ps.length=es.size:=by rw[pm.length_eq,dm]
  let G:J∉[s.heap.objs.size+1,s.heap.objs.size,a]:=by simp only[a_,gu,or_false,not_or];show⟨bb (eL B),bb B,L⟩
  calc Bd (a:=a) (s:={s with heap:=h1.push {cls:=.type "set_iterator",data:=.fields #[.ref s.heap.objs.size,.int 0 0,.ref a,.int es.size 0,.int ep 0]},drawn:=d}) (Rx (t:=t) (tp:=s.heap.objs.size) (ps:=ps) hh (bb (eL M)) (bb (eC _)) hp hl) G res c₀ (ae _ (k1 _ _ hS)) ⟨hx,N,_,ae _ g1,rQ⟩ Hl (SetT.ty (s:={s with heap:=_,drawn:=d}) N) λh' Y g F k D q=>?_;calc hR h' Y d g F (λb o hb e=>k b o hb (bb (eL (a7 e))) (ae _ (k1 _ _ e))) D ?_;rw[Bc (l:=ps.map λj=>(es.getD j (0,.none)).2) q (by simp[hl]) (λi v hv=>by let⟨j,e,hj,Z,rfl⟩:=hv;rw[ba,hj];simp[fe,Z])]
  calc(pm.map _).trans (vy ?_);apply gE;intro j;rw[ba,ba];by_cases h:j<es.size;.rw[g9 h];simp[h,fe]
  .rw[di (by simpa using h),di (by simpa using h)];rfl
def Nj {R:List Value->Shared->Prop}(O:A.handled=none)(m:SetT w s.heap a es ep t)(hz:es.size<=4000)(h:∀(h':Heap) (D:Nat) (d:Drawn) (G:List Value),(∀b o,s.heap.get? b=some o->h'.get? b=some o)->G.Perm (es.toList.map (·.2))->R G {s with heap:=h',toks:=D,drawn:=d}):wpAny (model prog w) A (collect (.ref a)) R E s:=by
 let M:=m.lt;unfold collect;calc aa (wpAny_runValue (kg entry_proto_collect' ?_));rw[kD PySem.F.plain_proto_collect _];show wpAny _ A.in1 (newList [] >>= λl=>again (.builtin "list.__iadd__" ⟨[l,.ref a],[]⟩)) _ _ s;calc aa (ej ?_);calc ag ⟨plainId_quiet PySem.F.plain_list_iadd _,kg entry_list_iadd' ?_⟩;rw[kD PySem.F.plain_list_iadd _];let N:(s.heap.push {cls:=.type "list",data:=.seq ([]:List Value).toArray}).get? s.heap.objs.size=some {cls:=.type "list",data:=.seq #[]}:=ap _ rfl;show wpAny _ A.in1 (Builtin.List.listExtendWith (.ref s.heap.objs.size) (.ref a) (.ref s.heap.objs.size)) _ _ _;let J:=RB (prog:=prog) (A:=A) (s:={s with heap:=s.heap.push {cls:=.type "list",data:=.seq ([]:List Value).toArray} })
  (R:=λ(q:Result) (s':Shared)=>∃(h':Heap) (D:Nat) (d:Drawn) (g:Array Value) (F:Nat),q=.ok (.ret (.ref s.heap.objs.size))/\s'={s with heap:=h',toks:=D,drawn:=d}/\
   (∀b o,s.heap.get? b=some o->h'.get? b=some o)/\h'.get? s.heap.objs.size=some {cls:=.type "list",dict:=none,data:=.seq g F,slots:=#[]}/\g.toList.Perm (es.toList.map (·.2)))
  O (m.mv λo e=>ae _ e) hz s.heap.objs.size (gg M) (.ref s.heap.objs.size) 0 N
  (λh' D d g F hk B j=>⟨h',D,d,g,F,rQ,rQ,λb o e=>hk b o (bb (a7 e)) (ae _ e),B,j⟩)
 refine eW J (λL s' x=>?_) λe s' x=>?_
 .cases L with
  | done f=>let⟨h',D,d,g,F,e,rfl,hk,B,j⟩:=x;cases e;show wpAny _ A (load s.heap.objs.size >>= _) _ _ _;calc aa (wpAny_load B ?_);show ag (h h' D d g.toList hk j)
  | again c₁=>calc⟨x.1,iA x.2 λq Y y=>?_⟩;let⟨h',D,d,g,F,rfl,rfl,hk,B,j⟩:=y;show wpAny _ A (load s.heap.objs.size >>= _) _ _ _;calc aa (wpAny_load B ?_);show ag (h h' D d g.toList hk j)
 .let⟨_,_,_,_,_,e,_⟩:=x;cases e
def aG.ae4 {ak:AC}{σ:St}{H:Hp}{s:Shared}(I:aG X ak σ H s)(d:Drawn):aG X ak σ H {s with drawn:=d}:=⟨I.ok,I.os,I.bare,I.base,I.loc,I.cell,I.free,I.nA,I.pin,I.hok,I.len,I.gh⟩
end
end L2
namespace L2
open PySem PySem.Spec PyProof.Rows PySem.SeqAt PySem.MeetsSeq PySem.MeetsSeq3 PySem.W
open AutoSeq1 (wpAny_loadPart')
open PySem.StrLaws Builtin Builtin.Str in
theorem Fp (s:Str)(c hi d:Nat):∀(k a:Nat) (st:Array Nat×Nat),st.snd<=a->st.fst.size+k<=d->
  (forIn (List.range' a k) st (occBody s (S [c]) hi d)).run.fst.size=st.fst.size+((List.range' a k).filter λi=>decide (i+1<=hi)&&subAt s (S [c]) i).length
 | 0,a,st,h1,h2=>rfl
 | k+1,a,st,h1,h2=>by
  rw[List.range'_succ,gT];let q:(S [c]).length=1:=rfl;unfold occBody;split
  .rename_i g;let D:((st.fst.push a,a+(S [c]).length).snd)<=a+1:=by show a+(S [c]).length<=a+1;rw[q];show af _
   have:=Fp s c hi d k (a+1) (st.fst.push a,a+(S [c]).length) D (by show (st.fst.push a).size+k<=d;rw[Array.size_push];lia);calc this.trans ?_;let j:(decide (a+1<=hi)&&subAt s (S [c]) a)=true:=by let B:=g.1.2;rw[q]at B;rw[g.2];simp;show B
   rw[uS,if_pos j,bu];show (st.fst.push a).size+_=_;rw[Array.size_push];lia
  .rename_i g;have:=Fp s c hi d k (a+1) (st.fst,st.snd) (gz h1) (by show st.fst.size+k<=d;show aI h2);calc this.trans ?_;let j:¬(decide (a+1<=hi)&&subAt s (S [c]) a)=true:=λz=>g (by
    simp only[c9,gI]at z;show⟨⟨⟨vT,h1⟩,by rw[q];show z.1⟩,z.2⟩)
   rw[uS,if_neg j]
open Builtin.Str in
def subAt_one (l:List Nat)(c i:Nat)(hi:i<l.length):subAt (S l) (S [c]) i=decide (l[i]=c):=by
 unfold subAt;let e:(S l).cps.extract i (i+(S [c]).length)=#[l[i]]:=by
  show l.toArray.extract i (i+1)=#[l[i]];apply Array.ext;.simp;lia
  .intro j h1 d;have:j=0:=by simp at d;show d
   subst this;simp
 rw[e];show (#[l[i]] == #[c])=_;by_cases h:l[i]=c;.subst h;simp
 .rw[al h];simpa using h
open Builtin.Str in
def UW (l:List Nat)(c:Nat):(occurrences (S l) (S [c]) 0 (S l).length ((S l).length+1)).length=l.count c:=by
 let hn:(S l).length=l.length:=by show l.toArray.size=l.length;simp
 rw[PySem.StrLaws.occ_eq,bn,hn];rw[Fp (S l) c l.length (l.length+1) (l.length+1-0) 0 (#[],0) (af _) v0];rw[<-List.range_eq_range',show l.length+1-0=l.length+1 from rQ,eQ,fq];let e1:([l.length].filter λi=>decide (i+1<=l.length)&&subAt (S l) (S [c]) i)=[]:=by simp;lia
 rw[e1,eJ];let d:∀k,k<=l.length->((List.range k).filter λi=>decide (i+1<=l.length)&&subAt (S l) (S [c]) i).length=(l.take k).count c:=by
  intro k
  induction k with
  | zero=>intro _;simp
  | succ k ih=>
   intro hk;rw[eQ,fq,ar,ih (aI hk),b8,ah hk,ui];let e2:(decide (k+1<=l.length)&&subAt (S l) (S [c]) k)=decide (l[k]=c):=by rw[subAt_one l c k vT];simp;lia
   rw[uS,e2];by_cases h:l[k]=c;.simp[h]
   .simp[h]
 have:=d l.length (af _);rw[dL]at this;simpa using this
section
variable {X:Cx}
def aaV:V->List V->Hp->VK->Prop:=λx vs H Q=>∃(l:List Nat) (c:Nat),x=.str (S l)/\vs=[.str (S [c])]/\Q (.int (l.count c:Nat)) H
def Ho:sO X "str.count" aaV:=by intro ak s σ H x vs v us Q I j d h;let⟨l,c,rfl,rfl,q⟩:=h;let⟨t,rfl⟩:=j;let⟨u,rfl,g⟩:=d.one;let⟨t',rfl⟩:=g;calc call_gives F.slot_str_count (typeIs_str s _ t) F.entry_str_count (F.args_str_count_2 _ _) (gives_str_count (S l) (S [c]) t t') ?_;show EP X ak σ Q _ _;rw[<-UW]at q;show⟨.int (Builtin.Str.occurrences (S l) (S [c]) 0 (S l).length ((S l).length+1)).length,H,I.tok _,⟨s.toks,rQ⟩,q⟩
end
end L2
namespace L2
open PySem PySem.Spec PyProof.Rows PySem.W
section
variable {X:Cx}
def aaW:R2:=λx y H Q=>∃c l,x=.str (S [c])/\y=.str (S l)/\Q (.bl (!decide (c∈l))) H
def U0:dY X (compareOp .NotIn) aaW:=by
 intro ak s σ H x y v u Q I d g h;let⟨c,l,rfl,rfl,q⟩:=h;show JQ ak s σ H _ _ v u Q I d g ⟨S [c],S l,rQ,rQ,by
  let e:=ue (S l) c;rw[Rk]at e;rw[show (S [c])=(⟨#[c]⟩:Str) from rQ,e];show q⟩
end
end L2
namespace L2
open PySem PySem.Spec PyProof.Rows
def jf (prog:Program)(w:World)(A:Around)(s:Shared)(κ:PyProof.Rows.KeyKind)(kn:SortKind):Prop:=∀(E:AB) (x y:Value) (a b:κ.α) (Q:Bool->Shared->Prop),κ.keyOf x=some a->κ.keyOf y=some b->Q (κ.blt a b) s->wpAny (model prog w) A (keyLt' kn x y) Q E s
section
variable {prog:Program}{w:World}{A:Around}{E:AB}{s:Shared}{κ:PyProof.Rows.KeyKind}{kn:SortKind}
variable {α:Type}{le:α->α->Prop}
def bh {α:Type}{c:Prop}{d:Decidable c}{a b:StateT SortSt Sem α}{Q:α->SortSt->Prop}{st:SortSt}(g:c)(h:wpS (model prog w) A E s a Q st):wpS (model prog w) A E s (@ite _ c d a b) Q st:=by rw[if_pos g];show h
def aR {α:Type}{c:Prop}{d:Decidable c}{a b:StateT SortSt Sem α}{Q:α->SortSt->Prop}{st:SortSt}(g:¬c)(h:wpS (model prog w) A E s b Q st):wpS (model prog w) A E s (@ite _ c d a b) Q st:=by rw[if_neg g];show h
def yc {st:SortSt}{x y:Keyed}{a b:κ.α}{Q:Option Bool->SortSt->Prop}(O:jf prog w A s κ kn)(hk:kindOf st=kn)(ha:κ.keyOf x.1=some a)(d:κ.keyOf y.1=some b)(h:Q (some (κ.blt a b)) st):wpS (model prog w) A E s (lt' x y) Q st:=by rw[lt'_eq];calc a8 (pi ?_);rw[hk];calc a8 (wpS_lift (kq (O _ x.1 y.1 a b _ ha d ⟨rQ,?_⟩)));show bd h
def cA {st:SortSt}{arr:Array Keyed}{i:Nat}(hi:i<arr.size){Q:Keyed->SortSt->Prop}(h:Q arr[i] st):wpS (model prog w) A E s (elem' arr i) Q st:=by rw[elem'_eq,bS hi];show bd h
noncomputable def jl (κ:PyProof.Rows.KeyKind)(left:Bool)(d:κ.α)(arr:Array Keyed)(i:Nat):Bool:=if left=true then κ.blt (KK κ arr i) d else !κ.blt d (KK κ arr i)
def rH {arr:Array Keyed}(d:KeysOf κ arr){i:Nat}(hi:i<arr.size):κ.keyOf arr[i].1=some (KK κ arr i):=by let⟨a,ha⟩:=d arr[i] v0;unfold KK;rw[bS hi];simp[ha]
def uI {left:Bool}{g:Keyed}{q:κ.α}{arr:Array Keyed}{i:Nat}{st:SortSt}{Q:Option Bool->SortSt->Prop}(O:jf prog w A s κ kn)(hk:kindOf st=kn)(d:κ.keyOf g.1=some q)(j:KeysOf κ arr)(hi:i<arr.size)(h:Q (some (jl κ left q arr i)) st):wpS (model prog w) A E s (do
   let p <- elem' arr i
   if left=true then lt' p g
   else do
    let r <- lt' g p
    pure (r.map λb=>!b)) Q st:=by
 calc a8 (cA hi ?_);unfold jl at h;cases left with| true=>show yc O hk (rH j hi) d h| false=>show a8 (yc O hk d (rH j hi) (bd h))
def lu {left:Bool}{key:Keyed}{O:κ.α}{arr:Array Keyed}{lo n d:Nat}{st:SortSt}{Q:Option Nat->SortSt->Prop}(hO:jf prog w A s κ kn)(hk:kindOf st=kn)(G:κ.keyOf key.1=some O)(L:KeysOf κ arr)(hn:d<n)(hsz:lo+n<=arr.size)(mono:∀i j,i<=j->j<n->jl κ left O arr (lo+j)=true->jl κ left O arr (lo+i)=true)(h:∀k,k<=n->(∀i,i<k->jl κ left O arr (lo+i)=true)->(∀i,k<=i->i<n->jl κ left O arr (lo+i)=false)->Q (some k) st):wpS (model prog w) A E s ((sortPriv% PySem.Builtin.gallop) left key arr lo n d) Q st:=by
 show wpS _ _ _ _ (_ >>= _) _ _;dsimp only;generalize hbp:(λi=>jl κ left O arr (lo+i))=bp;let N:∀i,jl κ left O arr (lo+i)=bp i:=λi=>by rw[<-hbp]
 let ZK:∀i j,i<=j->j<n->bp j=false\/bp i=true:=λi j h1 B=>by
  cases e:bp j with| false=>show .inl rfl| true=>show .inr (by rw[<-N];show mono i j h1 B (by rw[N];show e))
 let h':∀k,k<=n->(∀i,i<k->bp i=true)->(∀i,k<=i->i<n->bp i=false)->Q (some k) st:=λk h1 B g=>h k h1 (λi hi=>by rw[N];show B i hi) λi hi Y=>by rw[N];show g i hi Y
 let up:∀i j,i<=j->j<n->bp j=true->bp i=true:=λi j h1 B g=>by
  rcases ZK i j h1 B with z|z;.rw[z]at g;cases g
  .show z
 let dn:∀i j,i<=j->j<n->bp i=false->bp j=false:=λi j h1 B g=>by
  rcases ZK i j h1 B with z|z;.show z
  .rw[z]at g;cases g
 calc a8 (uI hO hk G L (i:=lo+d) vT ?_);rw[N];dsimp only;let fin:∀l0 Z,l0<=Z->Z<=n->(∀i,i<l0->bp i=true)->(∀i,Z<=i->i<n->bp i=false)->∀(f:Nat->(Option (Option Nat)×Nat×Nat)->StateT SortSt Sem (ForInStep (Option (Option Nat)×Nat×Nat))) (F:(Option (Option Nat)×Nat×Nat)->StateT SortSt Sem (Option Nat)),
   (∀x l u (Q':ForInStep (Option (Option Nat)×Nat×Nat)->SortSt->Prop),u<=n->(u<=l->Q' (.done (none,l,u)) st)->(l<u->Q' (.yield (if bp (l+(u-l)/2)=true then (none,l+(u-l)/2+1,u) else (none,l,l+(u-l)/2))) st)->wpS (model prog w) A E s (f x (none,l,u)) Q' st)->
   (∀l u,Q (some u) st->wpS (model prog w) A E s (F (none,l,u)) Q st)->
   wpS (model prog w) A E s (forIn [0:n] ((none:Option (Option Nat)),l0,Z) f >>= F) Q st:=by
  intro l0 Z hle hh t1 t2 f F hf hF;refine a8 (gL (eT (I:=λ(x:Nat) (c:Option (Option Nat)×Nat×Nat) (st':SortSt)=>∃l u,c=(none,l,u)/\st'=st/\l<=u/\u<=n/\(∀i,i<l->bp i=true)/\(∀i,u<=i->i<n->bp i=false)/\u-l<=n-x)
   (Q:=λ(c:Option (Option Nat)×Nat×Nat) (st':SortSt)=>∃l u,c=(none,l,u)/\st'=st/\u<=l/\u<=n/\(∀i,i<l->bp i=true)/\(∀i,u<=i->i<n->bp i=false)) ?_ ?_ ⟨l0,Z,rQ,rQ,hle,hh,t1,t2,iN vT⟩) ?_)
  .intro x c st' _ hx z;let⟨l,u,rfl,rfl,B,g,J,D,h6⟩:=z;calc hf x l u _ g (λz=>⟨l,u,rQ,rQ,z,g,J,D⟩) λz=>?_;cases e:bp (l+(u-l)/2) with| true=>rw[if_pos rfl];show⟨_,_,rQ,rQ,by grind,g,λi hi=>up i _ (dq hi) (by grind) e,D,d6 (ci vT vT)⟩| false=>rw[if_neg v0];show⟨_,_,rQ,rQ,vT,by grind,J,λi hi Y=>dn _ i hi Y e,d6 (ci vT vT)⟩
  .intro c st' z;let⟨l,u,M,h1,B,g,J,D,h6⟩:=z;show⟨l,u,M,h1,vT,g,J,D⟩
  .intro c st' z;let⟨l,u,rfl,rfl,B,g,J,D⟩:=z;show hF l u (h' _ g (λi hi=>J i (bo hi B)) D)
 cases e0:bp d with
 | true=>
  rw[if_pos rfl];refine a8 (gL (eT (I:=λ(x:Nat) (c:Option (Option Nat)×Nat×Nat) (st':SortSt)=>st'=st/\c.1=none/\c.2.1<n-d/\c.2.1<c.2.2/\x+1<=c.2.2/\bp (d+c.2.1)=true)
   (Q:=λ(c:Option (Option Nat)×Nat×Nat) (st':SortSt)=>st'=st/\c.1=none/\c.2.1<n-d/\c.2.1<c.2.2/\bp (d+c.2.1)=true/\(c.2.2>=n-d\/bp (d+c.2.2)=false)) ?_ ?_ ⟨rQ,rQ,by dsimp only;show Nat.sub_pos_of_lt hn,by dsimp only;lia,by dsimp only;lia,e0⟩) ?_)
  .intro x c st' _ hx z;let⟨rfl,h1,B,g,J,D⟩:=z;by_cases z:c.2.2>=n-d
   .rw[if_pos z];show bd ⟨rQ,rQ,B,g,D,.inl z⟩
   .rw[if_neg z];calc a8 (uI hO hk G L (i:=lo+(d+c.2.2)) vT ?_);rw[N];dsimp only;cases e:bp (d+c.2.2) with| true=>rw[if_neg v0];show bd ⟨rQ,rQ,by dsimp only;show rc z,by dsimp only;lia,by dsimp only;lia,e⟩| false=>rw[if_pos v0];show bd ⟨rQ,rQ,B,g,D,.inr e⟩
  .intro c st' z;let⟨M,h1,B,g,J,D⟩:=z;show⟨M,h1,B,g,D,.inl (iN vT)⟩
  .intro c st' z;let⟨rfl,h1,B,g,J,D⟩:=z;rw[h1];dsimp only;refine fin (d+c.2.1+1) (d+min c.2.2 (n-d)) vT vT (λi hi=>up i (d+c.2.1) (dq hi) vT J) (λi hi Y=>?_) _ _ ?_ ?_
   .rcases D with z|z;.lia
    .show dn (d+c.2.2) i vT Y z
   .intro x l u Q' hun q1 q2;dsimp only;by_cases z:l>=u
    .rw[if_pos z];show bd (q1 z)
    .rw[if_neg z];calc a8 (uI hO hk G L (i:=lo+(l+(u-l)/2)) (by grind) ?_);rw[N];dsimp only;let q2:=q2 (rc z);cases e:bp (l+(u-l)/2) with| true=>rw[e,if_pos rfl]at q2;rw[if_pos rfl];show bd q2| false=>rw[e,if_neg v0]at q2;rw[if_neg v0];show bd q2
   .show λl u q=>bd q
 | false=>
  rw[if_neg v0];refine a8 (gL (eT (I:=λ(x:Nat) (c:Option (Option Nat)×Nat×Nat) (st':SortSt)=>st'=st/\c.1=none/\c.2.1<=d/\c.2.1<c.2.2/\x+1<=c.2.2/\bp (d-c.2.1)=false)
   (Q:=λ(c:Option (Option Nat)×Nat×Nat) (st':SortSt)=>st'=st/\c.1=none/\c.2.1<=d/\c.2.1<c.2.2/\bp (d-c.2.1)=false/\(c.2.2>=d+1\/bp (d-c.2.2)=true)) ?_ ?_ ⟨rQ,rQ,by dsimp only;lia,by dsimp only;lia,by dsimp only;lia,e0⟩) ?_)
  .intro x c st' _ hx z;let⟨rfl,h1,B,g,J,D⟩:=z;by_cases z:c.2.2>=d+1
   .rw[if_pos z];show bd ⟨rQ,rQ,B,g,D,.inl z⟩
   .rw[if_neg z];calc a8 (uI hO hk G L (i:=lo+(d-c.2.2)) (by grind) ?_);rw[N];dsimp only;cases e:bp (d-c.2.2) with| true=>rw[if_pos rfl];show bd ⟨rQ,rQ,B,g,D,.inr e⟩| false=>rw[if_neg v0];show bd ⟨rQ,rQ,by dsimp only;show kQ z,by dsimp only;lia,by dsimp only;lia,e⟩
  .intro c st' z;let⟨M,h1,B,g,J,D⟩:=z;show⟨M,h1,B,g,D,.inl vT⟩
  .intro c st' z;let⟨rfl,h1,B,g,J,D⟩:=z;rw[h1];dsimp only;refine fin (d+1-min c.2.2 (d+1)) (d-c.2.1) (iN vT) (iN vT) (λi hi=>?_) (λi hi Y=>dn (d-c.2.1) i hi Y J) _ _ ?_ ?_
   .rcases D with z|z;.lia
    .show up i (d-c.2.2) (eP vT) (jI (uu _ _) hn) z
   .intro x l u Q' hun q1 q2;dsimp only;by_cases z:l>=u
    .rw[if_pos z];show bd (q1 z)
    .rw[if_neg z];calc a8 (uI hO hk G L (i:=lo+(l+(u-l)/2)) vT ?_);rw[N];dsimp only;let q2:=q2 vT;cases e:bp (l+(u-l)/2) with| true=>rw[e,if_pos rfl]at q2;rw[if_pos rfl];show bd q2| false=>rw[e,if_neg v0]at q2;rw[if_neg v0];show bd q2
   .show λl u q=>bd q
structure Mg (le:α->α->Prop)(a b out:List α)(i j:Nat):Prop where
 ia:i<=a.length
 jb:j<=b.length
 perm:out.Perm (a.take i++b.take j)
 up:out.Pairwise le
 Ke:∀x∈out,∀y∈a.drop i,le x y
 Kf:∀x∈out,∀y∈b.drop j,le x y
def vI (le:α->α->Prop)(a b r:List α):Prop:=r.Perm (a++b)/\r.Pairwise le
def Ph {out:List α}{x:α}(h:out.Pairwise le)(l:∀y∈out,le y x):(out++[x]).Pairwise le:=by rw[fv];calc⟨h,List.pairwise_singleton _ _,λy d z hz=>?_⟩;rw[am.mp hz];show l y d
def jm {a:List α}{i:Nat}(h:i<a.length):a.drop i=a[i]::a.drop (i+1):=(n0 h)
def Pj {a:List α}{i:Nat}(h:i<a.length):a.take (i+1)=a.take i++[a[i]]:=by rw[b8,ah h];rfl
def Pk {a:List α}(h:a.Pairwise le){i:Nat}(hi:i<a.length):∀y∈a.drop (i+1),le a[i] y:=λy g=>by let d:(a.drop i).Pairwise le:=h.sublist (gN i a);rw[jm hi]at d;show(io.mp d).1 y g
def Mg.sZ {a b out:List α}{i j:Nat}(m:Mg le a b out i j)(ha:a.Pairwise le)(hi:i<a.length)(h:∀y∈b.drop j,le a[i] y):Mg le a b (out++[a[i]]) (i+1) j:=by
 refine⟨hi,m.jb,?_,Ph m.up λy d=>m.Ke y d _ (by rw[jm hi];show ax),λx hx y d=>?_,λx hx y d=>?_⟩
 .rw[Pj hi];calc(m.perm.append_right _).trans ?_;rw[bt,bt];show im _ rV
 .rcases a9.mp hx with z|z;.show m.Ke x z y (by rw[jm hi];show ay _ d)
  .rw[am.mp z];show Pk ha hi y d
 .rcases a9.mp hx with z|z;.show m.Kf x z y d
  .rw[am.mp z];show h y d
def Mg.vJ {a b out:List α}{i j:Nat}(m:Mg le a b out i j)(q:b.Pairwise le)(g:j<b.length)(h:∀y∈a.drop i,le b[j] y):Mg le a b (out++[b[j]]) i (j+1):=by
 refine⟨m.ia,g,?_,Ph m.up λy d=>m.Kf y d _ (by rw[jm g];show ax),λx hx y d=>?_,λx hx y d=>?_⟩
 .rw[Pj g,<-bt];show m.perm.append_right _
 .rcases a9.mp hx with z|z;.show m.Ke x z y d
  .rw[am.mp z];show h y d
 .rcases a9.mp hx with z|z;.show m.Kf x z y (by rw[jm g];show ay _ d)
  .rw[am.mp z];show Pk q g y d
theorem Mg.yd {a b:List α}{j:Nat}(ha:a.Pairwise le):∀(k:Nat) {out:List α} {i:Nat},Mg le a b out i j->i+k<=a.length->(∀t (d:t<a.length),i<=t->t<i+k->∀y∈b.drop j,le a[t] y)->Mg le a b (out++(a.drop i).take k) (i+k) j
 | 0,out,i,m,_,_=>by simpa using m
 | k+1,out,i,m,hk,h=>by let hi:i<a.length:=vT;let m2:=Mg.yd ha k (m.sZ ha hi (h i hi (af _) vT)) vT λt d h1 g=>h t d (aI h1) vT;rw[jm hi,sQ];rw[bt,show i+1+k=i+(k+1) by lia]at m2;show m2
theorem Mg.yg {a b:List α}{i:Nat}(g:b.Pairwise le):∀(k:Nat) {out:List α} {j:Nat},Mg le a b out i j->j+k<=b.length->(∀t (q:t<b.length),j<=t->t<j+k->∀y∈a.drop i,le b[t] y)->Mg le a b (out++(b.drop j).take k) i (j+k)
 | 0,out,j,m,_,_=>by simpa using m
 | k+1,out,j,m,hk,h=>by let d:j<b.length:=vT;let m2:=Mg.yg g k (m.vJ g d (h j d (af _) vT)) vT λt q h1 B=>h t q vT vT;rw[jm d,sQ];rw[bt,show j+1+k=j+(k+1) by lia]at m2;show m2
def Mg.done {a b out:List α}{i j:Nat}(m:Mg le a b out i j)(ha:a.Pairwise le)(g:b.Pairwise le)(h:i=a.length\/j=b.length):vI le a b (out++a.drop i++b.drop j):=by
 refine⟨?_,?_⟩
 .let p:(out++(a.drop i++b.drop j)).Perm ((a.take i++b.take j)++(a.drop i++b.drop j)):=m.perm.append_right _;rw[bt];calc p.trans ?_;let e:a++b=(a.take i++a.drop i)++(b.take j++b.drop j):=by rw[cw,cw]
  rw[e,bt,bt];calc im _ ?_;rw[<-bt,<-bt];show List.Perm.append_right _ rV
 .rw[bt,fv];refine⟨m.up,?_,λx hx y d=>?_⟩
  .rcases h with z|z;.rw[z,u7,List.nil_append];show g.sublist (gN _ _)
   .rw[z,u7,eJ];show ha.sublist (gN _ _)
  .rcases a9.mp d with z|z;.show m.Ke x hx y z
   .show m.Kf x hx y z
def Mg.ZL {a b out:List α}{i j:Nat}(m:Mg le a b out i j)(ha:a.Pairwise le)(g:b.Pairwise le)(h:∀x∈b.drop j,∀y∈a.drop i,le x y):vI le a b (out++b.drop j++a.drop i):=by
 refine⟨?_,?_⟩
 .let p:(out++(b.drop j++a.drop i)).Perm ((a.take i++b.take j)++(b.drop j++a.drop i)):=m.perm.append_right _;rw[bt];calc p.trans ?_;let e:a++b=(a.take i++a.drop i)++(b.take j++b.drop j):=by rw[cw,cw]
  rw[e,bt,bt];calc im _ ?_;rw[<-bt];show rV
 .rw[bt,fv];refine⟨m.up,?_,λx hx y d=>?_⟩
  .rw[fv];show⟨g.sublist (gN _ _),ha.sublist (gN _ _),h⟩
  .rcases a9.mp d with z|z;.show m.Kf x hx y z
   .show m.Ke x hx y z
def Mg.zero {a b:List α}:Mg le a b [] 0 0:=⟨cn _,cn _,v0,.nil,λx h=>by simp at h,λx h=>by simp at h⟩
def kf (κ:PyProof.Rows.KeyKind)(p:Keyed):κ.α:=(κ.keyOf p.1).getD κ.dflt
def kL (κ:PyProof.Rows.KeyKind)(p q:Keyed):Prop:=κ.kle (kf κ p) (kf κ q)
def vK {arr:Array Keyed}{i:Nat}(h:i<arr.size):KK κ arr i=kf κ arr[i]:=by unfold KK kf;rw[bS h]
def lU {arr:Array Keyed}(d:KeysOf κ arr){i:Nat}(h:i<arr.size):κ.keyOf arr[i].1=some (kf κ arr[i]):=by rw[rH d h,vK h]
structure jx (st st':SortSt):Prop where
 kind:kindOf st'=kindOf st
 arr:arrOf st'=arrOf st
 pend:pendingOf st'=pendingOf st
 fail:failedOf st'=failedOf st
def jx.refl (st:SortSt):jx st st:=⟨rQ,rQ,rQ,rQ⟩
def mj {a:Array Keyed}(h:a.toList.Pairwise (kL κ)){i j:Nat}(d:i<=j)(g:j<a.size):κ.kle (kf κ a[i]) (kf κ a[j]):=by
 rcases Nat.eq_or_lt_of_le d with z|z;.subst z;show gd _
 .have:=(ip.mp h) i j (by simpa using (by show jn z g:i<a.size)) (by simpa using g) z;show(by simpa using this:kL κ a[i] a[j])
def uJ {a:Array Keyed}{i:Nat}{y:Keyed}(h:y∈a.toList.drop i):∃t,∃(d:t<a.size),i<=t/\a[t]=y:=by
 let⟨t,d,e⟩:=cq.mp h;let g:t<a.size-i:=by simpa using d
 show⟨i+t,by grind,vT,by rw[<-e];simp⟩
def mq {g:Nat}{st0 st:SortSt}{Q:Unit->SortSt->Prop}(d:jx st0 st)(h:∀st',jx st0 st'->Q () st'):wpS (model prog w) A E s ((sortPriv% PySem.Builtin.setMinGallop) g) Q st:=by show si (h _ ⟨d.kind,d.arr,d.pend,d.fail⟩)
def uK {β α:Type}{J:β->StateT SortSt Sem α}{C:β->Prop}{m:StateT SortSt Sem α}{R:α->SortSt->Prop}{st:SortSt}(h1:∀o,C o->wpS (model prog w) A E s (J o) R st)(d:(∀o,C o->wpS (model prog w) A E s (J o) R st)->wpS (model prog w) A E s m R st):wpS (model prog w) A E s m R st:=d h1
def zx {arr:Array Keyed}{d:κ.α}{x:Nat}(hx:x<arr.size):jl κ false d arr x=true↔κ.kle (kf κ arr[x]) d:=by unfold jl;rw[if_neg v0,vK hx];unfold KeyOrd.kle;simp
def Kg {arr:Array Keyed}{d:κ.α}{x:Nat}(hx:x<arr.size):jl κ false d arr x=false↔κ.klt d (kf κ arr[x]):=by unfold jl;rw[if_neg v0,vK hx];unfold KeyOrd.klt;simp
def zy {arr:Array Keyed}{d:κ.α}{x:Nat}(hx:x<arr.size):jl κ true d arr x=true↔κ.klt (kf κ arr[x]) d:=by unfold jl;rw[if_pos rQ,vK hx];rfl
def Kh {arr:Array Keyed}{d:κ.α}{x:Nat}(hx:x<arr.size):jl κ true d arr x=false↔κ.kle d (kf κ arr[x]):=by unfold jl;rw[if_pos rQ,vK hx];rfl
def U3 {arr:Array Keyed}{g:κ.α}(q:arr.toList.Pairwise (kL κ)){lo n:Nat}(hn:lo+n<=arr.size):∀i j,i<=j->j<n->jl κ false g arr (lo+j)=true->jl κ false g arr (lo+i)=true:=λi j d B h=>by rw[zx vT]at h ⊢;show cE (mj q (ly d _) vT) h
def U4 {arr:Array Keyed}{d:κ.α}(g:arr.toList.Pairwise (kL κ)){lo n:Nat}(hn:lo+n<=arr.size):∀i j,i<=j->j<n->jl κ true d arr (lo+j)=true->jl κ true d arr (lo+i)=true:=λi j q B h=>by rw[zy vT]at h ⊢;show KeyOrd.klt_of_kle_of_klt (mj g vT vT) h
def Nk {a b:Array Keyed}{st:SortSt}{Q:Array Keyed->SortSt->Prop}(hO:jf prog w A s κ kn)(hk:kindOf st=kn)(hka:KeysOf κ a)(hkb:KeysOf κ b)(ha:a.toList.Pairwise (kL κ))(hb:b.toList.Pairwise (kL κ))(a0:0<a.size)(b0:0<b.size)(hlo:κ.kle (kf κ b[0]) (kf κ a[0]))(hhi:∀j (D:j<b.size),κ.klt (kf κ b[j]) (kf κ a[a.size-1]))(h:∀r st',vI (kL κ) a.toList b.toList r.toList->jx st st'->Q r st'):wpS (model prog w) A E s ((sortPriv% PySem.Builtin.mergeLo) a b) Q st:=by
 let lA:∀{i},(a.extract i).toList=a.toList.drop i:=by intro i;simp;show bE v0
 let lB:∀{i},(b.extract i).toList=b.toList.drop i:=by intro i;simp;show bE v0
 let sA:a.toList.length=a.size:=v0;let sB:b.toList.length=b.size:=v0;let gA:∀i (hi:i<a.size),a.toList[i]'(by simpa using hi)=a[i]:=λi hi=>by simp
 let gB:∀i (hi:i<b.size),b.toList[i]'(by simpa using hi)=b[i]:=λi hi=>by simp
 let ae5:∀{i j},i+1=a.size->∀x∈b.toList.drop j,∀y∈a.toList.drop i,kL κ x y:=λ{i j} hi x hx y M=>by
  let⟨t,B,_,rfl⟩:=uJ hx;let⟨u,d,h1,rfl⟩:=uJ M;obtain rfl:u=a.size-1:=by first|lia|((try dsimp only);lia)
  show du (hhi t B)
 let mpA:∀{out:Array Keyed} {i j:Nat},Mg (kL κ) a.toList b.toList out.toList i j->(hi:i<a.size)->(∀u (d:u<b.size),j<=u->κ.kle (kf κ a[i]) (kf κ b[u]))->Mg (kL κ) a.toList b.toList (out.push a[i]).toList (i+1) j:=λ{out i j} m hi q=>by
  have:=m.sZ ha (by simpa using hi) λy M=>by let⟨u,d,h1,rfl⟩:=uJ M;rw[gA i hi];show q u d h1
  rw[gA i hi]at this;simpa using this
 let mpB:∀{out:Array Keyed} {i j:Nat},Mg (kL κ) a.toList b.toList out.toList i j->(D:j<b.size)->(∀u (d:u<a.size),i<=u->κ.kle (kf κ b[j]) (kf κ a[u]))->Mg (kL κ) a.toList b.toList (out.push b[j]).toList i (j+1):=λ{out i j} m D q=>by
  have:=m.vJ hb (by simpa using D) λy M=>by let⟨u,d,h1,rfl⟩:=uJ M;rw[gB j D];show q u d h1
  rw[gB j D]at this;simpa using this
 let mbA:∀{out:Array Keyed} {i j k:Nat},Mg (kL κ) a.toList b.toList out.toList i j->i+k<=a.size->(∀t (B:t<a.size),i<=t->t<i+k->∀u (d:u<b.size),j<=u->κ.kle (kf κ a[t]) (kf κ b[u]))->Mg (kL κ) a.toList b.toList (out++a.extract i (i+k)).toList (i+k) j:=λ{out i j k} m hk q=>by
  have:=Mg.yd ha k m (by simpa using hk) λt B h1 h2 y M=>by
   let⟨u,d,h3,rfl⟩:=uJ M;let N:t<a.size:=by simpa using B
   rw[gA t N];show q t N h1 h2 u d h3
  rw[e_];let e:(a.extract i (i+k)).toList=(a.toList.drop i).take k:=v0;rw[e];show this
 let mbB:∀{out:Array Keyed} {i j k:Nat},Mg (kL κ) a.toList b.toList out.toList i j->j+k<=b.size->(∀t (B:t<b.size),j<=t->t<j+k->∀u (d:u<a.size),i<=u->κ.kle (kf κ b[t]) (kf κ a[u]))->Mg (kL κ) a.toList b.toList (out++b.extract j (j+k)).toList i (j+k):=λ{out i j k} m hk q=>by
  have:=Mg.yg hb k m (by simpa using hk) λt B h1 h2 y M=>by
   let⟨u,d,h3,rfl⟩:=uJ M;let N:t<b.size:=by simpa using B
   rw[gB t N];show q t N h1 h2 u d h3
  rw[e_];let e:(b.extract j (j+k)).toList=(b.toList.drop j).take k:=v0;rw[e];show this
 let vL:∀{out:Array Keyed} {i j:Nat} {st':SortSt},jx st st'->Mg (kL κ) a.toList b.toList out.toList i j->(i=a.size\/j=b.size)->Q (out++a.extract i++b.extract j) st':=λ{out i j st'} e m z=>by calc h _ _ ?_ e;rw[e_,e_,lA,lB];show m.done ha hb (by rw[sA,sB];show z)
 let F:∀{out:Array Keyed} {i j:Nat} {st':SortSt},jx st st'->Mg (kL κ) a.toList b.toList out.toList i j->i+1=a.size->Q (out++b.extract j++a.extract i) st':=λ{out i j st'} e m z=>by calc h _ _ ?_ e;rw[e_,e_,lA,lB];show m.ZL ha hb (ae5 z)
 show wpS _ _ _ _ (_ >>= _) _ _;refine a8 (wpS_lift (f7 ⟨rQ,?_⟩))
 skip
 calc a8 (cA b0 ?_);let m0:Mg (kL κ) a.toList b.toList (#[b[0]]:Array Keyed).toList 0 1:=by have:=mpB (out:=#[]) (i:=0) (j:=0) Mg.zero b0 λu d _=>cE hlo (mj ha (cn _) d);simpa using this
 skip
 by_cases z1:1=b.size
 .calc bh (by simpa using z1) ?_;show bd (vL (jx.refl _) m0 (.inr z1))
 calc aR (by simpa using z1) ?_;by_cases z2:0+1=a.size
 .calc bh (by simpa using z2) ?_;show bd (F (jx.refl _) m0 z2)
 calc aR (by simpa using z2) ?_;refine a8 (pi ?_)
 skip
 refine a8 (gL (eT (I:=λ(x:Nat) (c:Option (Array Keyed)×Array Keyed×Nat×Nat×Nat) (st':SortSt)=>∃out i j g,c=(none,out,i,j,g)/\jx st st'/\Mg (kL κ) a.toList b.toList out.toList i j/\i+1<a.size/\j<b.size/\x+1<=i+j)
  (Q:=λ(c:Option (Array Keyed)×Array Keyed×Nat×Nat×Nat) (st':SortSt)=>∃r q,c=(some r,q)/\Q r st') ?_ ?_ ⟨_,_,_,_,rQ,jx.refl _,m0,wd,wd,wd⟩) ?_)
 .intro x c st1 _ hx z;let⟨out,i,j,g,rfl,e1,m1,hi,D,hc⟩:=z
  try conv=>arg 5;dsimp -zeta only
  refine a8 (gL (eT (I:=λ(y:Nat) (c:Option (Array Keyed)×Array Keyed×Nat×Nat×Nat×Nat) (st':SortSt)=>∃out i' L p q,c=(none,out,i',L,p,q)/\jx st st'/\Mg (kL κ) a.toList b.toList out.toList i' L/\i'+1<a.size/\L<b.size/\i+j+y<=i'+L)
   (Q:=λ(c:Option (Array Keyed)×Array Keyed×Nat×Nat×Nat×Nat) (st':SortSt)=>(∃r q,c=(some r,q)/\Q r st')\/∃out i' L p q,c=(none,out,i',L,p,q)/\jx st st'/\Mg (kL κ) a.toList b.toList out.toList i' L/\i'+1<a.size/\L<b.size/\i+j+1<=i'+L) ?_ ?_ ⟨_,_,_,_,_,rQ,e1,m1,hi,D,wd⟩) ?_)
  .intro y c st2 _ M z;let⟨out,i,j,p,q,rfl,e2,m2,hi,D,hc⟩:=z
   try conv=>arg 5;dsimp -zeta only
   calc a8 (cA D (a8 (cA (show i<a.size from aI hi) ?_)));refine a8 (yc hO (by rw[e2.kind];show hk) (lU hkb D) (lU hka wd) ?_)
   try conv=>arg 5;dsimp -zeta only
   cases e:κ.blt (kf κ b[j]) (kf κ a[i]) with
   | true=>
    calc bh rQ ?_;refine a8 (cA D ?_)
    try conv=>arg 5;dsimp -zeta only
    let m3:=mpB m2 D λu d h1=>cE (du e) (mj ha h1 d);by_cases z:j+1=b.size
    .calc bh (by simpa using z) ?_;show bd (.inl ⟨_,_,rQ,vL e2 m3 (.inr z)⟩)
    .calc aR (by simpa using z) ?_;by_cases z':q+1>=g
     .calc bh z' ?_;show bd (.inr ⟨_,_,_,_,_,rQ,e2,m3,hi,wd,wd⟩)
     .calc aR z' ?_;show bd ⟨_,_,_,_,_,rQ,e2,m3,hi,wd,wd⟩
   | false=>
    calc aR v0 ?_;refine a8 (cA (show i<a.size by first|lia|((try dsimp only);lia)) ?_)
    try conv=>arg 5;dsimp -zeta only
    let m3:=mpA m2 (show i<a.size by first|lia|((try dsimp only);lia)) λu d h1=>cE (show κ.kle _ _ from e) (mj hb h1 d);by_cases z:i+1+1=a.size
    .calc bh (by simpa using z) ?_;show bd (.inl ⟨_,_,rQ,F e2 m3 z⟩)
    .calc aR (by simpa using z) ?_;by_cases z':p+1>=g
     .calc bh z' ?_;show bd (.inr ⟨_,_,_,_,_,rQ,e2,m3,wd,D,wd⟩)
     .calc aR z' ?_;show bd ⟨_,_,_,_,_,rQ,e2,m3,wd,D,wd⟩
  .intro c st2 z;let⟨out,i',L,p,q,rfl,e2,m2,hi',hj',hc'⟩:=z;exfalso;lia
  .rintro c st2 (⟨r,q,rfl,hq⟩|⟨out,i',L,p,q,rfl,e2,m2,hi',hj',hc'⟩)
   .try conv=>arg 5;dsimp -zeta only
    show bd ⟨_,_,rQ,hq⟩
   .try conv=>arg 5;dsimp -zeta only
    refine a8 (wpS_lift (f7 ⟨rQ,?_⟩))
    try conv=>arg 5;dsimp -zeta only
    refine a8 (gL (eT (I:=λ(y:Nat) (c:Option (Array Keyed)×Array Keyed×Nat×Nat×Nat×Nat×Nat) (st':SortSt)=>∃out i2 O g p q,c=(none,out,i2,O,g,p,q)/\jx st st'/\Mg (kL κ) a.toList b.toList out.toList i2 O/\i2+1<a.size/\O<b.size/\i'+L+y<=i2+O)
     (Q:=λ(c:Option (Array Keyed)×Array Keyed×Nat×Nat×Nat×Nat×Nat) (st':SortSt)=>(∃r q,c=(some r,q)/\Q r st')\/∃out i2 O g p q,c=(none,out,i2,O,g,p,q)/\jx st st'/\Mg (kL κ) a.toList b.toList out.toList i2 O/\i2+1<a.size/\O<b.size/\i'+L<=i2+O) ?_ ?_ ⟨_,_,_,_,_,_,rQ,e2,m2,hi',hj',wd⟩) ?_)
    .intro y c st3 _ M z;let⟨out,i,j,g,p,q,rfl,e3,m3,hi,D,hc⟩:=z
     try conv=>arg 5;dsimp -zeta only
     extract_lets -underBinder +onlyGivenNames l1 l2 l3 l4 l5 l6 l7 l8 l9 l10 l11 jp1
     let q4:l4=i:=rfl;let q4b:l3.fst=i:=rfl;let q6:l6=j:=rfl;let q6b:l5.fst=j:=rfl;let q8:l8=g:=rfl;let q8b:l7.fst=g:=rfl;refine uK (J:=λg':Nat=>jp1 () g') (C:=λ_=>True) (λg' _=>?_) (λZ=>?_)
     rotate_left
     .by_cases z:g > 1
      .calc bh z ?_;show Z (g-1) trivial
      .calc aR z ?_;show Z g trivial
     try conv=>arg 5;dsimp -zeta only
     calc a8 (mq e3 λdR e4=>?_);calc a8 (cA D ?_);calc a8 (lu hO (by rw[e4.kind];show hk) (lU hkb D) hka (Nat.sub_pos_of_lt vT) (by grind) (U3 ha wd) λk hk1 hk2 hk3=>?_);let kA:∀t (B:t<a.size),i<=t->t<i+k->κ.kle (kf κ a[t]) (kf κ b[j]):=λt B h1 h2=>by have:=hk2 (t-i) (by grind);rw[show i+(t-i)=t from lL h1,zx B]at this;show this
     let kB:∀t (B:t<a.size),i+k<=t->κ.klt (kf κ b[j]) (kf κ a[t]):=λt B h1=>by have:=hk3 (t-i) (by show eP (by simp +arith [*])) wd;rw[show i+(t-i)=t by first|lia|((try dsimp only);lia),Kg B]at this;show this
     let G:i+k<a.size:=by
      rcases ee (i+k) a.size with z|z;.show z
      .let h1:=kA (a.size-1) (by grind) (eP vT) (by grind);show absurd (hhi j D) (rX h1)
     try conv=>arg 5;dsimp -zeta only
     extract_lets -underBinder +onlyGivenNames ac jp2
     refine uK (J:=λo:Array Keyed×Nat=>jp2 () o.1 o.2) (C:=λo=>Mg (kL κ) a.toList b.toList o.1.toList o.2 j/\o.2=i+k/\o.2+1<a.size) (λo ho=>?_) (λZ=>?_)
     .let⟨o1,o2⟩:=o;let⟨mo,eo,qw⟩:=ho;let eo:o2=i+k:=eo;subst eo;let mo:Mg (kL κ) a.toList b.toList o1.toList (i+k) j:=mo;let qw:i+k+1<a.size:=qw
      try conv=>arg 5;dsimp -zeta only
      refine a8 (cA D ?_)
      try conv=>arg 5;dsimp -zeta only
      let m5:=mpB mo D λu d h1=>du (kB u d h1);by_cases z:j+1=b.size
      .calc bh (by simpa using z) ?_;show bd (.inl ⟨_,_,rQ,vL e4 m5 (.inr z)⟩)
      calc aR (by simpa using z) ?_;calc a8 (cA G ?_);calc a8 (lu hO (by rw[e4.kind];show hk) (lU hka G) hkb (eP vT) (by grind) (U4 hb wd) λk2 h1 h2 h3=>?_);let lb:∀t (B:t<b.size),j+1<=t->t<j+1+k2->κ.klt (kf κ b[t]) (kf κ a[i+k]):=λt B q1 q2=>by have:=h2 (t-(j+1)) (by grind);rw[show j+1+(t-(j+1))=t from lL q1,zy B]at this;show this
      let la:∀t (B:t<b.size),j+1+k2<=t->κ.kle (kf κ a[i+k]) (kf κ b[t]):=λt B q1=>by have:=h3 (t-(j+1)) wd wd;rw[show j+1+(t-(j+1))=t by first|lia|((try dsimp only);lia),Kh B]at this;show this
      try conv=>arg 5;dsimp -zeta only
      extract_lets -underBinder +onlyGivenNames bc jp3
      refine uK (J:=λo:Array Keyed×Nat=>jp3 () o.1 o.2) (C:=λo=>Mg (kL κ) a.toList b.toList o.1.toList (i+k) o.2/\o.2=j+1+k2/\o.2<b.size) (λo ho=>?_) (λZ=>?_)
      .let⟨o1,o2⟩:=o;let⟨mo,eo,qw⟩:=ho;let eo:o2=j+1+k2:=eo;subst eo;let mo:Mg (kL κ) a.toList b.toList o1.toList (i+k) (j+1+k2):=mo;let qw:j+1+k2<b.size:=qw
       try conv=>arg 5;dsimp -zeta only
       refine a8 (cA G ?_)
       try conv=>arg 5;dsimp -zeta only
       let Y:=mpA mo G λu d h1=>la u d h1;by_cases z:i+k+1+1=a.size
       .calc bh (by simpa using z) ?_;show bd (.inl ⟨_,_,rQ,F e4 Y z⟩)
       calc aR (by simpa using z) ?_;by_cases z':(decide (k<7)&&decide (k2<7))=true
       .calc bh z' ?_;show bd (.inr ⟨_,_,_,_,_,_,rQ,e4,Y,wd,qw,wd⟩)
       .calc aR z' ?_;show bd ⟨_,_,_,_,_,_,rQ,e4,Y,wd,qw,wd⟩
      .by_cases z3:k2 > 0
       .refine bh z3 ?_
        try conv=>arg 5;dsimp -zeta only
        let Y:=mbB (k:=k2) m5 wd λt B q1 q2 u d q3=>du (oB (lb t B q1 q2) (mj ha q3 d));by_cases z4:j+1+k2=b.size
        .calc bh (by simpa using z4) ?_;show bd (.inl ⟨_,_,rQ,vL e4 Y (.inr z4)⟩)
        .calc aR (by simpa using z4) ?_;show Z (_,_) ⟨Y,rQ,by dsimp only;lia⟩
       .calc aR z3 ?_;obtain rfl:k2=0:=Nat.eq_zero_of_not_pos z3;show Z (_,_) ⟨m5,rQ,by dsimp only;lia⟩
     .by_cases z3:k > 0
      .refine bh z3 ?_
       try conv=>arg 5;dsimp -zeta only
       let Y:=mbA (k:=k) m3 (aI G) λt B q1 q2 u d q3=>cE (kA t B q1 q2) (mj hb q3 d);by_cases z4:i+k+1=a.size
       .calc bh (by simpa using z4) ?_;show bd (.inl ⟨_,_,rQ,F e4 Y z4⟩)
       .calc aR (by simpa using z4) ?_;calc aR (by simp;show bb G) ?_;show Z (_,_) ⟨Y,rQ,by dsimp only;lia⟩
      .calc aR z3 ?_;obtain rfl:k=0:=by first|lia|((try dsimp only);lia)
       show Z (_,_) ⟨m3,rQ,by dsimp only;lia⟩
    .intro c st3 z;let⟨out,i2,O,g,p,q,rfl,e3,m3,hi2,hj2,hc2⟩:=z;exfalso;lia
    .rintro c st3 (⟨r,q,rfl,hq⟩|⟨out,i2,O,g,p,q,rfl,e3,m3,hi2,hj2,hc2⟩)
     .try conv=>arg 5;dsimp -zeta only
      show bd ⟨_,_,rQ,hq⟩
     .try conv=>arg 5;dsimp -zeta only
      calc a8 (mq e3 λdR e4=>?_);show bd ⟨_,_,_,_,rQ,e4,m3,hi2,hj2,wd⟩
 .intro c st1 z;let⟨out,i,j,g,rfl,e1,m1,hi,D,hc⟩:=z;exfalso;lia
 .intro c st1 z;let⟨r,q,rfl,hq⟩:=z;show bd hq
structure gn (κ:PyProof.Rows.KeyKind)(a b out:Array Keyed)(n m:Nat):Prop where
 na:n<=a.size
 mb:m<=b.size
 mg:Mg (λx y=>kL κ y x) b.toList.reverse a.toList.reverse out.toList (b.size-m) (a.size-n)
def uL {a:Array Keyed}(h:a.toList.Pairwise (kL κ)):a.toList.reverse.Pairwise (λx y=>kL κ y x):=by rw[List.pairwise_reverse];show h
def rJ {a:Array Keyed}{n:Nat}(h:n<=a.size):a.toList.reverse.drop (a.size-n)=(a.toList.take n).reverse:=by rw[List.drop_reverse];congr 2;simp;show gr h
def C_ {a:Array Keyed}{n:Nat}(hn:n<=a.size){y:Keyed}(h:y∈a.toList.reverse.drop (a.size-n)):∃u,∃(j:u<a.size),u<n/\a[u]=y:=by
 rw[rJ hn,u8]at h;let⟨t,g,e⟩:=cq.mp h;let d:t<n:=by have:=g;simp at this;simp_all
 show⟨t,bo d hn,d,by rw[<-e];simp⟩
def U5 {a:Array Keyed}{n:Nat}(d:0<n)(hn:n<=a.size):∃h:a.size-n<a.toList.reverse.length,a.toList.reverse[a.size-n]=a[n-1]:=by calc⟨by simp;show ci vT vT,?_⟩;rw[List.getElem_reverse];simp only[Array.getElem_toList,bn];congr 1;lia
def gn.sZ {a b out:Array Keyed}{n m:Nat}(g:gn κ a b out n m)(ha:a.toList.Pairwise (kL κ))(D:0<n)(B:n-1<a.size)(h:∀u (d:u<b.size),u<m->κ.kle (kf κ b[u]) (kf κ a[n-1])):gn κ a b (out.push a[n-1]) (n-1) m:=by
 let⟨h1,e1⟩:=U5 D g.na;have:=g.mg.vJ (uL ha) h1 λy j=>by let⟨u,d,q,rfl⟩:=C_ g.mb j;rw[e1];show h u d q
 rw[e1]at this;let hn:=g.na;calc⟨aI B,g.mb,?_⟩;rw[show a.size-(n-1)=a.size-n+1 from f8 vT];simpa using this
def gn.vJ {a b out:Array Keyed}{n m:Nat}(g:gn κ a b out n m)(D:b.toList.Pairwise (kL κ))(B:0<m)(F:m-1<b.size)(h:∀u (d:u<a.size),u<n->κ.kle (kf κ a[u]) (kf κ b[m-1])):gn κ a b (out.push b[m-1]) n (m-1):=by
 let⟨h1,e1⟩:=U5 B g.mb;have:=g.mg.sZ (uL D) h1 λy j=>by let⟨u,d,q,rfl⟩:=C_ g.na j;rw[e1];show h u d q
 rw[e1]at this;let hm:=g.mb;calc⟨g.na,vT,?_⟩;rw[show b.size-(m-1)=b.size-m+1 by lia];simpa using this
theorem gn.yd {a b:Array Keyed}{m:Nat}(ha:a.toList.Pairwise (kL κ)):∀(k:Nat) {out:Array Keyed} {n:Nat},gn κ a b out n m->k<=n->(∀t (d:t<a.size),n-k<=t->t<n->∀u (B:u<b.size),u<m->κ.kle (kf κ b[u]) (kf κ a[t]))->gn κ a b (out++(a.extract (n-k) n).reverse) (n-k) m
 | 0,out,n,g,_,_=>by
  let e:(a.extract (n-0) n).reverse=#[]:=by simp;show n5 _ _
  rw[e];simpa using g
 | k+1,out,n,g,hk,h=>by
  let hn:=g.na;let q:=gn.yd ha k (g.sZ ha vT (ci vT vT) (h (n-1) vT (Nat.sub_le_sub_left vT _) (uv vT vT))) (uj hk) λt d h1 j=>h t d vT vT;let e:out++(a.extract (n-(k+1)) n).reverse=out.push a[n-1]++(a.extract (n-1-k) (n-1)).reverse:=by
   apply kN.mp;rw[e_,e_,kz,bt];congr 1;rw[nI,nI,show n-1-k=n-(k+1) by lia];let e2:a.extract (n-(k+1)) n=(a.extract (n-(k+1)) (n-1)).push a[n-1]:=by
    apply Array.ext;.simp;lia
    .intro i h1 j;simp at h1 j;rw[Array.getElem_push];split;.simp
     .rename_i z;simp at z;simp;congr 1
      (simp[fc,gf]at *;lia)
   rw[e2,kz,sT];rfl
  rw[e,show n-(k+1)=n-1-k by lia];show q
theorem gn.yg {a b:Array Keyed}{n:Nat}(d:b.toList.Pairwise (kL κ)):∀(k:Nat) {out:Array Keyed} {m:Nat},gn κ a b out n m->k<=m->(∀t (j:t<b.size),m-k<=t->t<m->∀u (D:u<a.size),u<n->κ.kle (kf κ a[u]) (kf κ b[t]))->gn κ a b (out++(b.extract (m-k) m).reverse) n (m-k)
 | 0,out,m,g,_,_=>by
  let e:(b.extract (m-0) m).reverse=#[]:=by simp;lia
  rw[e];simpa using g
 | k+1,out,m,g,hk,h=>by
  let hm:=g.mb;let B:=gn.yg d k (g.vJ d vT vT (h (m-1) vT vT vT)) vT λt j h1 q=>h t j vT vT;let e:out++(b.extract (m-(k+1)) m).reverse=out.push b[m-1]++(b.extract (m-1-k) (m-1)).reverse:=by
   apply kN.mp;rw[e_,e_,kz,bt];congr 1;rw[nI,nI,show m-1-k=m-(k+1) by lia];let e2:b.extract (m-(k+1)) m=(b.extract (m-(k+1)) (m-1)).push b[m-1]:=by
    apply Array.ext;.simp;lia
    .intro i h1 q;simp at h1 q;rw[Array.getElem_push];split;.simp
     .rename_i z;simp at z;simp;congr 1;lia
   rw[e2,kz,sT];rfl
  rw[e,show m-(k+1)=m-1-k by lia];show B
def Pn {a b r:Array Keyed}(h:vI (λx y=>kL κ y x) b.toList.reverse a.toList.reverse r.toList.reverse):vI (kL κ) a.toList b.toList r.toList:=by calc⟨?_,List.pairwise_reverse.mp h.2⟩;calc(List.reverse_perm r.toList).symm.trans (h.1.trans ?_);rw[<-sT];show List.reverse_perm _
def gn.done {a b out:Array Keyed}{n m:Nat}(g:gn κ a b out n m)(ha:a.toList.Pairwise (kL κ))(d:b.toList.Pairwise (kL κ))(h:n=0\/m=0):vI (kL κ) a.toList b.toList (a.extract 0 n++b.extract 0 m++out.reverse).toList:=by calc Pn ?_;have:=g.mg.done (uL d) (uL ha) (by simp;lia);rw[rJ g.na,rJ g.mb]at this;simpa using this
def gn.adC {a b out:Array Keyed}{n m:Nat}(g:gn κ a b out n m)(ha:a.toList.Pairwise (kL κ))(D:b.toList.Pairwise (kL κ))(h:∀u (d:u<b.size),u<m->∀t (j:t<a.size),t<n->κ.kle (kf κ b[u]) (kf κ a[t])):vI (kL κ) a.toList b.toList (b.extract 0 m++a.extract 0 n++out.reverse).toList:=by
 calc Pn ?_;have:=g.mg.ZL (uL D) (uL ha) λx hx y q=>by let⟨t,j,B,rfl⟩:=C_ g.na hx;let⟨u,d,h1,rfl⟩:=C_ g.mb q;show h u d h1 t j B
 rw[rJ g.na,rJ g.mb]at this;simpa using this
def gn.zero {a b:Array Keyed}:gn κ a b #[] a.size b.size:=⟨af _,af _,by rw[jS,jS];show Mg.zero⟩
def Nm {a b:Array Keyed}{st:SortSt}{Q:Array Keyed->SortSt->Prop}(hO:jf prog w A s κ kn)(hk:kindOf st=kn)(hka:KeysOf κ a)(hkb:KeysOf κ b)(ha:a.toList.Pairwise (kL κ))(hb:b.toList.Pairwise (kL κ))(a0:0<a.size)(b0:0<b.size)(hlo:κ.klt (kf κ b[0]) (kf κ a[0]))(hhi:∀j (hj:j<b.size),κ.kle (kf κ b[j]) (kf κ a[a.size-1]))(h:∀r st',vI (kL κ) a.toList b.toList r.toList->jx st st'->Q r st'):wpS (model prog w) A E s ((sortPriv% PySem.Builtin.mergeHi) a b) Q st:=by
 let Z:∀t (d:t<a.size),κ.klt (kf κ b[0]) (kf κ a[t]):=λt d=>oB hlo (mj ha (cn _) d);let vL:∀{out:Array Keyed} {n m:Nat} {st':SortSt},jx st st'->gn κ a b out n m->(n=0\/m=0)->Q (a.extract 0 n++b.extract 0 m++out.reverse) st':=λ{out n m st'} e g z=>h _ _ (g.done ha hb z) e;let B:∀{out:Array Keyed} {n m:Nat} {st':SortSt},jx st st'->gn κ a b out n m->m=1->Q (b.extract 0 m++a.extract 0 n++out.reverse) st':=λ{out n m st'} e g z=>h _ _ (g.adC ha hb λu O h1 t d h2=>by
  obtain rfl:u=0:=by first|lia|((try dsimp only);lia)
  show du (Z t d)) e
 show wpS _ _ _ _ (_ >>= _) _ _;refine a8 (wpS_lift (f7 ⟨rQ,?_⟩))
 skip
 try conv=>arg 5;dsimp -zeta only
 calc a8 (cA (show a.size-1<a.size by first|lia|((try dsimp only);lia)) ?_);let m0:gn κ a b (#[a[a.size-1]]:Array Keyed) (a.size-1) b.size:=by have:=gn.sZ (gn.zero (κ:=κ) (a:=a) (b:=b)) ha a0 wd λu O _=>hhi u O;simpa using this
 try conv=>arg 5;dsimp -zeta only
 by_cases z1:a.size-1=0
 .calc bh (by simpa using z1) ?_;show bd (vL (jx.refl _) m0 (.inl z1))
 calc aR (by simpa using z1) ?_;by_cases z2:b.size=1
 .calc bh (by simpa using z2) ?_;show bd (B (jx.refl _) m0 z2)
 calc aR (by simpa using z2) ?_;refine a8 (pi ?_)
 try conv=>arg 5;dsimp -zeta only
 refine a8 (gL (eT (I:=λ(x:Nat) (c:Option (Array Keyed)×Nat×Nat×Array Keyed×Nat) (st':SortSt)=>∃n m out g,c=(none,n,m,out,g)/\jx st st'/\gn κ a b out n m/\1<=n/\2<=m/\n+m+x+1<=a.size+b.size)
  (Q:=λ(c:Option (Array Keyed)×Nat×Nat×Array Keyed×Nat) (st':SortSt)=>∃r q,c=(some r,q)/\Q r st') ?_ ?_ ⟨_,_,_,_,rQ,jx.refl _,m0,wd,wd,wd⟩) ?_)
 .intro x c st1 _ hx z;let⟨n,m,out,g,rfl,e1,m1,hn,hm,hc⟩:=z
  try conv=>arg 5;dsimp -zeta only
  refine a8 (gL (eT (I:=λ(y:Nat) (c:Option (Array Keyed)×Nat×Nat×Array Keyed×Nat×Nat) (st':SortSt)=>∃F D out p q,c=(none,F,D,out,p,q)/\jx st st'/\gn κ a b out F D/\1<=F/\2<=D/\F+D+y<=n+m)
   (Q:=λ(c:Option (Array Keyed)×Nat×Nat×Array Keyed×Nat×Nat) (st':SortSt)=>(∃r q,c=(some r,q)/\Q r st')\/∃F D out p q,c=(none,F,D,out,p,q)/\jx st st'/\gn κ a b out F D/\1<=F/\2<=D/\F+D+1<=n+m) ?_ ?_ ⟨_,_,_,_,_,rQ,e1,m1,hn,hm,wd⟩) ?_)
  .intro y c st2 _ hy z;let⟨n,m,out,p,q,rfl,e2,m2,hn,hm,hc⟩:=z;let hna:=m2.na;let hmb:=m2.mb;let ln:n-1<a.size:=ci vT vT;let M:m-1<b.size:=ci vT vT
   try conv=>arg 5;dsimp -zeta only
   calc a8 (cA M (a8 (cA ln ?_)));refine a8 (yc hO (by rw[e2.kind];show hk) (lU hkb M) (lU hka ln) ?_)
   try conv=>arg 5;dsimp -zeta only
   cases e:κ.blt (kf κ b[m-1]) (kf κ a[n-1]) with
   | true=>
    refine bh rQ ?_
    try conv=>arg 5;dsimp -zeta only
    refine a8 (cA ln ?_)
    try conv=>arg 5;dsimp -zeta only
    let m3:=m2.sZ ha hn ln λu O h1=>cE (mj hb (show u<=m-1 from d6 h1) M) (du e);by_cases z:n-1=0
    .calc bh (by simpa using z) ?_;show bd (.inl ⟨_,_,rQ,vL e2 m3 (.inl z)⟩)
    .calc aR (by simpa using z) ?_;by_cases z':p+1>=g
     .calc bh z' ?_;show bd (.inr ⟨_,_,_,_,_,rQ,e2,m3,wd,hm,wd⟩)
     .calc aR z' ?_;show bd ⟨_,_,_,_,_,rQ,e2,m3,wd,hm,wd⟩
   | false=>
    refine aR v0 ?_
    try conv=>arg 5;dsimp -zeta only
    refine a8 (cA M ?_)
    try conv=>arg 5;dsimp -zeta only
    let m3:=m2.vJ hb (aI hm) M λu O h1=>cE (mj ha (show u<=n-1 from d6 h1) ln) (show κ.kle _ _ from e);by_cases z:m-1=1
    .calc bh (by simpa using z) ?_;show bd (.inl ⟨_,_,rQ,B e2 m3 z⟩)
    .calc aR (by simpa using z) ?_;by_cases z':q+1>=g
     .calc bh z' ?_;show bd (.inr ⟨_,_,_,_,_,rQ,e2,m3,hn,wd,wd⟩)
     .calc aR z' ?_;show bd ⟨_,_,_,_,_,rQ,e2,m3,hn,wd,wd⟩
  .intro c st2 z;let⟨F,D,out,p,q,rfl,e2,m2,hn',hm',hc'⟩:=z;exfalso;lia
  .rintro c st2 (⟨r,q,rfl,hq⟩|⟨F,D,out,p,q,rfl,e2,m2,hn',hm',hc'⟩)
   .try conv=>arg 5;dsimp -zeta only
    show bd ⟨_,_,rQ,hq⟩
   .try conv=>arg 5;dsimp -zeta only
    refine a8 (wpS_lift (f7 ⟨rQ,?_⟩))
    try conv=>arg 5;dsimp -zeta only
    refine a8 (gL (eT (I:=λ(y:Nat) (c:Option (Array Keyed)×Nat×Nat×Array Keyed×Nat×Nat×Nat) (st':SortSt)=>∃N m2 out g p q,c=(none,N,m2,out,g,p,q)/\jx st st'/\gn κ a b out N m2/\1<=N/\2<=m2/\N+m2+y<=F+D)
     (Q:=λ(c:Option (Array Keyed)×Nat×Nat×Array Keyed×Nat×Nat×Nat) (st':SortSt)=>(∃r q,c=(some r,q)/\Q r st')\/∃N m2 out g p q,c=(none,N,m2,out,g,p,q)/\jx st st'/\gn κ a b out N m2/\1<=N/\2<=m2/\N+m2<=F+D) ?_ ?_ ⟨_,_,_,_,_,_,rQ,e2,m2,hn',hm',wd⟩) ?_)
    .intro y c st3 _ hy z;let⟨n,m,out,g,p,q,rfl,e3,m3,hn,hm,hc⟩:=z;let hna:=m3.na;let hmb:=m3.mb;let ln:n-1<a.size:=by first|lia|((try dsimp only);lia)
     let M:m-1<b.size:=by first|lia|((try dsimp only);lia)
     try conv=>arg 5;dsimp -zeta only
     extract_lets -underBinder +onlyGivenNames l1 l2 l3 l4 l5 l6 l7 l8 l9 l10 l11 jp1
     let q4:l2=n:=rfl;let q4b:l1.fst=n:=rfl;let q6:l4=m:=rfl;let q6b:l3.fst=m:=rfl;let q8:l8=g:=rfl;let q8b:l7.fst=g:=rfl;refine uK (J:=λg':Nat=>jp1 () g') (C:=λ_=>True) (λg' _=>?_) (λhJ=>?_)
     rotate_left
     .by_cases z:g > 1
      .calc bh z ?_;show hJ (g-1) trivial
      .calc aR z ?_;show hJ g trivial
     try conv=>arg 5;dsimp -zeta only
     calc a8 (mq e3 λdR e4=>?_);calc a8 (cA M ?_);calc a8 (lu hO (by rw[e4.kind];show hk) (lU hkb M) hka (uv vT vT) (by simp[*]) (U3 ha wd) λk hk1 hk2 hk3=>?_);let kA:∀t (d:t<a.size),t<k->κ.kle (kf κ a[t]) (kf κ b[m-1]):=λt d h1=>by have:=hk2 t h1;rw[gt,zx d]at this;show this
     let kB:∀t (d:t<a.size),k<=t->t<n->κ.klt (kf κ b[m-1]) (kf κ a[t]):=λt d h1 h2=>by have:=hk3 t h1 h2;rw[gt,Kg d]at this;show this
     try conv=>arg 5;dsimp -zeta only
     extract_lets -underBinder +onlyGivenNames kx ac jp2
     let q10:kx=n-k:=rfl;let q11:ac=n-k:=rfl;refine uK (J:=λo:Nat×Array Keyed=>jp2 () o.1 o.2) (C:=λo=>gn κ a b o.2 o.1 m/\o.1=k/\1<=o.1) (λo ho=>?_) (λhJ=>?_)
     .let⟨G,o2⟩:=o;let⟨mo,eo,qw⟩:=ho;let eo:G=k:=eo;subst eo;let mo:gn κ a b o2 G m:=mo;let qw:1<=G:=qw;let lk:G-1<a.size:=ci vT vT
      try conv=>arg 5;dsimp -zeta only
      try conv=>arg 5;dsimp -zeta only
      refine a8 (cA M ?_)
      try conv=>arg 5;dsimp -zeta only
      let m5:=mo.vJ hb wd M λu O h1=>kA u O h1;by_cases z:m-1=1
      .calc bh (by simpa using z) ?_;show bd (.inl ⟨_,_,rQ,B e4 m5 z⟩)
      calc aR (by simpa using z) ?_;calc a8 (cA lk ?_);calc a8 (lu hO (by rw[e4.kind];show hk) (lU hka lk) hkb (by grind) wd (U4 hb wd) λk2 h1 h2 h3=>?_);let lb:∀t (d:t<b.size),t<k2->κ.klt (kf κ b[t]) (kf κ a[G-1]):=λt d q1=>by have:=h2 t q1;rw[gt,zy d]at this;show this
      let la:∀t (d:t<b.size),k2<=t->t<m-1->κ.kle (kf κ a[G-1]) (kf κ b[t]):=λt d q1 q2=>by have:=h3 t q1 q2;rw[gt,Kh d]at this;show this
      let k20:0<k2:=by
       rcases tI k2 with z|z
       .let h4:=la 0 b0 (kK z) (uj hm);show absurd (Z (G-1) lk) (rX h4)
       .show z
      try conv=>arg 5;dsimp -zeta only
      extract_lets -underBinder +onlyGivenNames ky bc jp3
      refine uK (J:=λo:Nat×Array Keyed=>jp3 () o.1 o.2) (C:=λo=>gn κ a b o.2 G o.1/\o.1=k2/\2<=o.1) (λo ho=>?_) (λhJ=>?_)
      .let⟨p1,p2⟩:=o;let⟨mo,eo,Y⟩:=ho;let eo:p1=k2:=eo;subst eo;let mo:gn κ a b p2 G p1:=mo;let Y:2<=p1:=Y
       try conv=>arg 5;dsimp -zeta only
       try conv=>arg 5;dsimp -zeta only
       refine a8 (cA lk ?_)
       try conv=>arg 5;dsimp -zeta only
       let L:=mo.sZ ha qw lk λu O h1=>du (lb u O h1);by_cases z:G-1=0
       .calc bh (by simpa using z) ?_;show bd (.inl ⟨_,_,rQ,vL e4 L (.inl z)⟩)
       calc aR (by simpa using z) ?_;by_cases z':(decide (n-G<7)&&decide (m-1-p1<7))=true
       .calc bh z' ?_;show bd (.inr ⟨_,_,_,_,_,_,rQ,e4,L,wd,Y,by grind⟩)
       .calc aR z' ?_;show bd ⟨_,_,_,_,_,_,rQ,e4,L,wd,Y,by grind⟩
      .by_cases z3:m-1-k2 > 0
       .refine bh z3 ?_
        try conv=>arg 5;dsimp -zeta only
        let L:=gn.yg hb (m-1-k2) m5 (uu _ _) λt d q1 q2 u O q3=>cE (mj ha (show u<=G-1 from d6 q3) lk) (la t d wd q2);rw[show m-1-(m-1-k2)=k2 from gr h1]at L;by_cases z4:k2=1
        .calc bh (by simpa using z4) ?_;show bd (.inl ⟨_,_,rQ,B e4 L z4⟩)
        .calc aR (by simpa using z4) ?_;calc aR (by simp;show gg k20) ?_;show hJ (_,_) ⟨L,rQ,by dsimp only;lia⟩
       .calc aR z3 ?_;obtain rfl:k2=m-1:=by grind
        show hJ (_,_) ⟨m5,rQ,by dsimp only;lia⟩
     .by_cases z3:n-k > 0
      .refine bh z3 ?_
       try conv=>arg 5;dsimp -zeta only
       let L:=gn.yd ha (n-k) m3 (uu _ _) λt d q1 q2 u O q3=>cE (mj hb (show u<=m-1 from d6 q3) M) (du (kB t d wd q2));rw[show n-(n-k)=k by first|lia|((try dsimp only);lia)]at L;by_cases z4:k=0
       .calc bh (by simpa using z4) ?_;show bd (.inl ⟨_,_,rQ,vL e4 L (.inl z4)⟩)
       .calc aR (by simpa using z4) ?_;show hJ (_,_) ⟨L,rQ,by dsimp only;lia⟩
      .calc aR z3 ?_;obtain rfl:k=n:=by first|lia|((try dsimp only);lia)
       show hJ (_,_) ⟨m3,rQ,by dsimp only;lia⟩
    .intro c st3 z;let⟨N,m2',out,g,p,q,rfl,e3,m3,hn2,hm2,hc2⟩:=z;exfalso;lia
    .rintro c st3 (⟨r,q,rfl,hq⟩|⟨N,m2',out,g,p,q,rfl,e3,m3,hn2,hm2,hc2⟩)
     .try conv=>arg 5;dsimp -zeta only
      show bd ⟨_,_,rQ,hq⟩
     .try conv=>arg 5;dsimp -zeta only
      calc a8 (mq e3 λdR e4=>?_);show bd ⟨_,_,_,_,rQ,e4,m3,hn2,hm2,wd⟩
 .intro c st1 z;let⟨n,m,out,g,rfl,e1,m1,hn,hm,hc⟩:=z;exfalso;lia
 .intro c st1 z;let⟨r,q,rfl,hq⟩:=z;show bd hq
def aaX {σ:Type}{M:Model}{x:σ}{Q:PUnit->σ->Prop}{st:σ}(h:Q ⟨⟩ x):wpS M A E s (set x:StateT σ Sem PUnit) Q st:=by unfold wpS;rw[StateT.run_set];show ag ⟨rQ,h⟩
theorem Kl:∀(m:List Keyed) (n:Nat) (o:Nat) (P X S:List Keyed) (arr:Array Keyed),arr.toList=P++(X++S)->X.length=m.length->P.length=o+n->((m.zipIdx n).foldl (λa (x:Keyed×Nat)=>a.setIfInBounds (o+x.2) x.1) arr).toList=P++(m++S)
 | [],n,o,P,X,S,arr,e,h,_=>by obtain rfl:X=[]:=i6.mp h;simpa using e
 | y::m,n,o,P,X,S,arr,e,h,hp=>by
  obtain⟨x,d,rfl⟩:∃x d,X=x::d:=by
   cases X with| nil=>simp at h| cons x d=>show⟨x,d,rQ⟩
  rw[ve,vw];let e2:(arr.setIfInBounds (o+n) y).toList=(P++[y])++(d++S):=by rw[tS,e,<-hp,List.set_append_right _ _ (af _),jS];simp
  have:=Kl m (n+1) o (P++[y]) d S (arr.setIfInBounds (o+n) y) e2 (by simpa using h) (by simp;lia);simpa using this
def seg_at {arr:Array Keyed}{P X S:List Keyed}(e:arr.toList=P++(X++S)){t:Nat}(d:t<X.length):∃h:P.length+t<arr.size,arr[P.length+t]=X[t]:=by
 let g:arr.size=P.length+(X.length+S.length):=by rw[<-bn,e];simp
 calc⟨vT,?_⟩;let h1:arr.toList[P.length+t]?=some X[t]:=by rw[e,dE vT,gy,eM d,ah d]
 rw[ck,bS vT]at h1;show be h1
def Dc {X:List Keyed}(h:X.Pairwise (kL κ)){i j:Nat}(d:i<=j)(g:j<X.length):κ.kle (kf κ X[i]) (kf κ X[j]):=by
 rcases Nat.eq_or_lt_of_le d with z|z;.subst z;show gd _
 .show(ip.mp h) i j (jn z g) g z
def Np {i sa na p1 sb nb p2:Nat}{st:SortSt}{Pl X Y Sl:List Keyed}{Q:Bool->SortSt->Prop}(hO:jf prog w A s κ kn)(hk:kindOf st=kn)(hf:failedOf st=none)(D:KeysOf κ (arrOf st))(h1:(pendingOf st)[i]?=some (sa,na,p1))(h2:(pendingOf st)[i+1]?=some (sb,nb,p2))(e:(arrOf st).toList=Pl++(X++(Y++Sl)))(lP:Pl.length=sa)(lX:X.length=na)(lY:Y.length=nb)(hsb:sb=sa+na)(x0:0<na)(y0:0<nb)(uX:X.Pairwise (kL κ))(uY:Y.Pairwise (kL κ))(h:∀st' Z,kindOf st'=kindOf st->failedOf st'=none->pendingOf st'=((pendingOf st).setIfInBounds i (sa,na+nb,p1)).eraseIdxIfInBounds (i+1)->(arrOf st').toList=Pl++(Z++Sl)->Z.Perm (X++Y)->Z.Pairwise (kL κ)->Q true st'):wpS (model prog w) A E s ((sortPriv% PySem.Builtin.mergeAt) i) Q st:=by
 subst hsb lP lX lY;let e':(arrOf st).toList=(Pl++X)++(Y++Sl):=by rw[e];simp
 let gX:∀{t},(g:t<X.length)->∃h:Pl.length+t<(arrOf st).size,(arrOf st)[Pl.length+t]=X[t]:=λg=>seg_at e g;let gY:∀{t},(g:t<Y.length)->∃h:Pl.length+X.length+t<(arrOf st).size,(arrOf st)[Pl.length+X.length+t]=Y[t]:=λg=>by have:=seg_at e' g;rw[ar]at this;show this
 let hsz:(arrOf st).size=Pl.length+(X.length+(Y.length+Sl.length)):=by rw[<-bn,e];simp
 let⟨L,ey0⟩:=gY y0;rw[sk]at L;let afK:(arrOf st)[Pl.length+X.length]=Y[0]:=ey0;show wpS _ _ _ _ (_ >>= _) _ _;calc a8 (pi ?_);rw[h1,h2]
 try conv=>arg 5;dsimp -zeta only
 calc a8 (aaX ?_);calc a8 (cA L ?_);refine a8 (lu hO hk (lU D L) D x0 (show Pl.length+X.length<=(arrOf st).size from aI L) ?_ λk hk1 hk2 hk3=>?_)
 .intro p q M hq hb;let⟨F,G⟩:=gX hq;let⟨g3,g4⟩:=gX (show p<X.length by lia);rw[zx F,G]at hb;rw[zx g3,g4];show cE (Dc uX M hq) hb
 rw[afK]at hk2 hk3;let kA:∀x∈X.take k,κ.kle (kf κ x) (kf κ Y[0]):=λx hx=>by
  let⟨t,g,rfl⟩:=cq.mp hx;let d:t<k:=by simp at g;simp_all
  let⟨F,G⟩:=gX (show t<X.length from bo d hk1);have:=hk2 t d;rw[zx F,G]at this;simpa using this
 let kB:∀x∈X.drop k,κ.klt (kf κ Y[0]) (kf κ x):=λx hx=>by
  let⟨t,g,rfl⟩:=cq.mp hx;let d:k+t<X.length:=by simp at g;lia
  let⟨F,G⟩:=gX d;have:=hk3 (k+t) vT d;rw[Kg F,G]at this;simpa using this
 let yl:∀y∈Y,κ.kle (kf κ Y[0]) (kf κ y):=λy J=>by let⟨t,g,rfl⟩:=cq.mp J;show Dc uY (cn _) g
 try conv=>arg 5;dsimp -zeta only
 by_cases z1:X.length-k=0
 .calc bh (by simpa using z1) ?_;calc bd (h _ (X++Y) rQ hf rQ (by rw[bt];show e) (List.Perm.refl _) ?_);rw[fv];calc⟨uX,uY,λx hx y J=>?_⟩;have:X.take k=X:=bE vT;show cE (kA x (by rw[this];show hx)) (yl y J)
 calc aR (by simpa using z1) ?_;let hkx:k<X.length:=vT;let el:Pl.length+k+(X.length-k)-1=Pl.length+(X.length-1):=f8 vT;let⟨hl0,hl1⟩:=gX (show X.length-1<X.length from uv x0 Nat.one_pos);let hel:Pl.length+k+(X.length-k)-1<(arrOf st).size:=by grind
 let ex:(arrOf st)[Pl.length+k+(X.length-k)-1]=X[X.length-1]:=by rw[<-hl1];congr 1
 let ae6:∀x∈X,κ.kle (kf κ x) (kf κ X[X.length-1]):=λx hx=>by let⟨t,g,rfl⟩:=cq.mp hx;show Dc uX (d6 g) vT
 let afL:X[X.length-1]∈X.drop k:=by calc cq.mpr ⟨X.length-1-k,by simp;show eP vT,?_⟩;rw[List.getElem_drop];congr 1;grind
 calc a8 (cA hel ?_);refine a8 (lu hO hk (lU D hel) D (show Y.length-1<Y.length from uv y0 Nat.one_pos) (show Pl.length+X.length+Y.length<=(arrOf st).size by lia) ?_ λk2 hy1 hy2 hy3=>?_)
 .intro p q M hq hb;let⟨F,G⟩:=gY hq;let⟨g3,g4⟩:=gY (show p<Y.length by lia);rw[zy F,G]at hb;rw[zy g3,g4];show KeyOrd.klt_of_kle_of_klt (Dc uY M hq) hb
 rw[ex]at hy2 hy3;let yA:∀y∈Y.take k2,κ.klt (kf κ y) (kf κ X[X.length-1]):=λy J=>by
  let⟨t,g,rfl⟩:=cq.mp J;let d:t<k2:=by simp at g;lia
  let⟨F,G⟩:=gY (show t<Y.length by lia);have:=hy2 t d;rw[zy F,G]at this;simpa using this
 let yB:∀y∈Y.drop k2,κ.kle (kf κ X[X.length-1]) (kf κ y):=λy J=>by
  let⟨t,g,rfl⟩:=cq.mp J;let d:k2+t<Y.length:=by simp at g;lia
  let⟨F,G⟩:=gY d;have:=hy3 (k2+t) vT d;rw[Kh F,G]at this;simpa using this
 try conv=>arg 5;dsimp -zeta only
 let k20:0<k2:=by
  rcases tI k2 with z|z
  .subst z;let h3:=yB Y[0] v0;show absurd (kB _ afL) (rX h3)
  .show z
 refine aR (by simp;lia) ?_
 try conv=>arg 5;dsimp -zeta only
 let N:((arrOf st).extract (Pl.length+k) (Pl.length+X.length)).toList=X.drop k:=by rw[sn,n9,e,List.drop_length_add_append,List.drop_append_of_le_length hk1];show List.take_left' (by simp;lia)
 let lb:((arrOf st).extract (Pl.length+X.length) (Pl.length+X.length+k2)).toList=Y.take k2:=by rw[sn,n9,e',show Pl.length+X.length=(Pl++X).length by simp,List.drop_left,gy,List.take_append_of_le_length hy1]
 generalize hga:(arrOf st).extract (Pl.length+k) (Pl.length+X.length)=a at N;generalize hgb:(arrOf st).extract (Pl.length+X.length) (Pl.length+X.length+k2)=b at lb
 extract_lets -underBinder +onlyGivenNames xx yy jp
 let hJ:∀r st',vI (kL κ) a.toList b.toList r.toList->kindOf st'=kindOf st->arrOf st'=arrOf st->failedOf st'=none->pendingOf st'=((pendingOf st).setIfInBounds i (Pl.length,X.length+Y.length,p1)).eraseIdxIfInBounds (i+1)->wpS (model prog w) A E s (jp r) Q st':=by
  intro r st' fr e1 e2 e3 e4;rw[N,lb]at fr
  try conv=>arg 5;dsimp -zeta only
  calc a8 (si (a8 (pi ?_)));let hZ:∀z∈r.toList,z∈X.drop k\/z∈Y.take k2:=λz hz=>a9.mp (fr.1.mem_iff.mp hz);let er:=Kl r.toList 0 (Pl.length+k) (Pl++X.take k) (X.drop k++Y.take k2) (Y.drop k2++Sl) (arrOf st) (by
   rw[e];rw[bt,bt,<-bt (Y.take k2),cw,<-bt (X.take k),cw]) fr.1.length_eq.symm (by simp;lia)
  refine cast (congrArg (λq=>wpS (model prog w) A E s (pure q) Q _) (show true=_ from ?_)) (bd (h _ (X.take k++(r.toList++Y.drop k2)) e1 e3 e4 ?_ ?_ ?_))
  .show true=(failedOf st').isNone;rw[e3];rfl
  .show (List.foldl _ (arrOf st') r.toList.zipIdx).toList=_;rw[e2];calc Eq.trans ?_ (er.trans v0);rfl
  .let p1:(r.toList++Y.drop k2).Perm ((X.drop k++Y.take k2)++Y.drop k2):=fr.1.append_right _;let p2:=im (X.take k) p1;let e5:X.take k++((X.drop k++Y.take k2)++Y.drop k2)=X++Y:=by rw[bt,cw,<-bt,cw]
   rw[<-e5];show p2
  .rw[fv];refine⟨uX.sublist (pT _ _),?_,λx hx z hz=>?_⟩
   .rw[fv];calc⟨fr.2,uY.sublist (gN _ _),λz hz y J=>?_⟩;rcases hZ z hz with q|q;.show cE (ae6 z (iF q)) (yB y J)
    .show cE (du (yA z q)) (yB y J)
   .let O:κ.kle (kf κ x) (kf κ Y[0]):=kA x hx;rcases a9.mp hz with q|q
    .rcases hZ z q with q|q;.show cE O (du (kB z q))
     .show cE O (yl z (gv q))
    .show cE O (yl z (iF q))
 let hka:KeysOf κ a:=λp hp=>by rw[N]at hp;show D p (by rw[e];simp[iF hp])
 let hkb:KeysOf κ b:=λp hp=>by rw[lb]at hp;show D p (by rw[e];simp[gv hp])
 let sa:a.size=X.length-k:=by rw[<-bn,N];simp
 let sb:b.size=k2:=by rw[<-bn,lb];simp;lia
 let gb0:∀j (B:j<b.size),b[j]∈Y.take k2:=λj B=>by rw[<-lb];simp
 let gl:∀(B:a.size-1<a.size),a[a.size-1]=X[X.length-1]:=λB=>by
  let h4:a.toList[a.size-1]?=some X[X.length-1]:=by rw[N,oC,sa,show k+(X.length-k-1)=X.length-1 by grind,ah vT]
  rw[ck,bS B]at h4;show be h4
 let afM:∀(B:0<b.size),b[0]=Y[0]:=λB=>by
  let h4:b.toList[0]?=some Y[0]:=by rw[lb,oq k20,ah y0]
  rw[ck,bS B]at h4;show be h4
 let ga0:∀(B:0<a.size),a[0]∈X.drop k:=λB=>by rw[<-N];simp
 let ua:a.toList.Pairwise (kL κ):=by rw[N];show uX.sublist (gN _ _)
 let ub:b.toList.Pairwise (kL κ):=by rw[lb];show uY.sublist (pT _ _)
 let a0:0<a.size:=vT;let b0:0<b.size:=vT;let hlo:κ.klt (kf κ b[0]) (kf κ a[0]):=by rw[afM b0];show kB _ (ga0 a0)
 let hhi:∀j (B:j<b.size),κ.klt (kf κ b[j]) (kf κ a[a.size-1]):=λj B=>by rw[gl vT];show yA _ (gb0 j B)
 by_cases z5:X.length-k<=k2
 .calc bh z5 ?_;show a8 (Nk hO hk hka hkb ua ub a0 b0 (du hlo) hhi λr st' fr q=>hJ r st' fr q.kind q.arr (q.fail.trans hf) q.pend)
 .calc aR z5 ?_;show a8 (Nm hO hk hka hkb ua ub a0 b0 hlo (λj B=>du (hhi j B)) λr st' fr q=>hJ r st' fr q.kind q.arr (q.fail.trans hf) q.pend)
structure SG (st0 st:SortSt)(lo hi:Nat):Prop where
 kind:kindOf st=kindOf st0
 fail:failedOf st=failedOf st0
 pend:pendingOf st=pendingOf st0
 perm:(arrOf st).Perm (arrOf st0)
 out:∀t:Nat,t<lo\/hi<=t->(arrOf st)[t]?=(arrOf st0)[t]?
def SG.refl {st:SortSt}{lo hi:Nat}:SG st st lo hi:=⟨rQ,rQ,rQ,Array.Perm.refl _,λ_ _=>rfl⟩
def SG.size {st0 st:SortSt}{lo hi:Nat}(g:SG st0 st lo hi):(arrOf st).size=(arrOf st0).size:=g.perm.size_eq
def SG.keys {st0 st:SortSt}{lo hi:Nat}(g:SG st0 st lo hi)(h:KeysOf κ (arrOf st0)):KeysOf κ (arrOf st):=λp hp=>h p ((tT.mp g.perm).mem_iff.mp hp)
def SG.arr {st0 st:SortSt}{lo hi:Nat}(g:SG st0 st lo hi){xs:Array Keyed}(hp:xs.Perm (arrOf st))(j:∀t:Nat,t<lo\/hi<=t->xs[t]?=(arrOf st)[t]?):SG st0 (setArr st xs) lo hi:=⟨g.kind,g.fail,g.pend,hp.trans g.perm,λt d=>(j t d).trans (g.out t d)⟩
def jY (κ:PyProof.Rows.KeyKind)(xs:Array Keyed)(lo n:Nat):Prop:=∀i j,i<=j->j<n->κ.kle (KK κ xs (lo+i)) (KK κ xs (lo+j))
def qT {st:SortSt}{i j:Nat}{Q:Option Bool->SortSt->Prop}(O:jf prog w A s κ kn)(hk:kindOf st=kn)(d:KeysOf κ (arrOf st))(hi:i<(arrOf st).size)(g:j<(arrOf st).size)(h:Q (some (κ.blt (KK κ (arrOf st) i) (KK κ (arrOf st) j))) st):wpS (model prog w) A E s ((sortPriv% PySem.Builtin.ltAt) i j) Q st:=
 by
 show wpS _ _ _ _ (ltAt' i j) Q st;rw[ltAt'_eq];calc a8 (pi ?_);show wpS _ _ _ _ (do let x <- elem' (arrOf st) i;let y <- elem' (arrOf st) j;lt' x y) Q st;show a8 (cA hi (a8 (cA g (yc O hk (rH d hi) (rH d g) h))))
def RD {lo n ok:Nat}{st:SortSt}{Q:Bool->SortSt->Prop}(hO:jf prog w A s κ kn)(hk:kindOf st=kn)(O:KeysOf κ (arrOf st))(hn:lo+n<=(arrOf st).size)(hok:ok<=n)(hs:jY κ (arrOf st) lo ok)(h:∀st',SG st st' lo (lo+n)->jY κ (arrOf st') lo n->Q true st'):wpS (model prog w) A E s ((sortPriv% PySem.Builtin.binarySort) lo n ok) Q st:=by
 show wpS _ _ _ _ (_ >>= _) _ _;refine a8 (gL (eT (I:=λ(k:Nat) (c:Option Bool×Unit) (st':SortSt)=>c=(none,())/\SG st st' lo (lo+n)/\jY κ (arrOf st') lo (min k n))
  (Q:=λ(c:Option Bool×Unit) (st':SortSt)=>c=(none,())/\SG st st' lo (lo+n)/\jY κ (arrOf st') lo n) ?_ ?_ ⟨rQ,SG.refl,?_⟩) ?_)
 .intro k c d hk1 N z;let⟨rfl,D,B⟩:=z;rw[iL (aI N)]at B;let z1:=D.size
  try conv=>arg 5;dsimp -zeta only
  refine a8 (gL (eT (I:=λ(x:Nat) (c:Option Bool×Nat×Nat) (st':SortSt)=>∃l r,c=(none,l,r)/\st'=d/\l<=r/\r<=k/\r-l<=k-x/\(∀i,i<l->κ.kle (KK κ (arrOf d) (lo+i)) (KK κ (arrOf d) (lo+k)))/\(∀i,r<=i->i<k->κ.klt (KK κ (arrOf d) (lo+k)) (KK κ (arrOf d) (lo+i))))
   (Q:=λ(c:Option Bool×Nat×Nat) (st':SortSt)=>∃l r,c=(none,l,r)/\st'=d/\l<=k/\(∀i,i<l->κ.kle (KK κ (arrOf d) (lo+i)) (KK κ (arrOf d) (lo+k)))/\(∀i,l<=i->i<k->κ.klt (KK κ (arrOf d) (lo+k)) (KK κ (arrOf d) (lo+i)))) ?_ ?_ ⟨0,k,rQ,rQ,vT,vT,vT,λi hi=>by lia,λi h1 L=>by lia⟩) ?_)
  .intro x c g _ hx z;let⟨l,r,rfl,rfl,h1,L,h3,G,F⟩:=z
   try conv=>arg 5;dsimp -zeta only
   by_cases z:l>=r
   .calc bh z ?_;show bd ⟨l,r,rQ,rQ,aS h1 L,G,λi q1 q2=>F i (aS z q1) q2⟩
   refine aR z ?_
   try conv=>arg 5;dsimp -zeta only
   refine a8 (qT hO (D.kind.trans hk) (D.keys O) vT vT ?_)
   try conv=>arg 5;dsimp -zeta only
   cases e:κ.blt (KK κ (arrOf g) (lo+k)) (KK κ (arrOf g) (lo+(l+r)/2)) with| true=>calc bh rQ ?_;show bd ⟨l,(l+r)/2,rQ,rQ,vT,vT,d6 (ci vT vT),G,λi q1 q2=>oB e (B _ _ q1 q2)⟩| false=>calc aR v0 ?_;show bd ⟨(l+r)/2+1,r,rQ,rQ,nK vT,L,d6 (ci vT vT),λi q1=>cE (B i ((l+r)/2) (dq q1) (nK vT)) (show κ.kle _ _ from e),F⟩
  .intro c g z;let⟨l,r,rfl,rfl,h1,L,h3,G,F⟩:=z;show⟨l,r,rQ,rQ,aS h1 L,G,λi q1 q2=>F i (by simp_all;lia) q2⟩
  .intro c g z;let⟨l,r,rfl,rfl,h1,G,F⟩:=z
   try conv=>arg 5;dsimp -zeta only
   let J:lo+k<(arrOf g).size:=vT;calc a8 ?_;show wpS _ _ _ _ (moveDown' (lo+k) (lo+l)) _ _;rw[moveDown'_eq];calc si (bd ⟨rQ,D.arr (bubble_perm _ _ _) λt ht=>?_,?_⟩);.rw[getElem?_bubble J _ (uu _ _),if_neg (by rw[gr vT];lia),if_neg (by rw[gr vT];lia)]
   .rw[iL N];intro i j q Y;show κ.kle (KK κ (bubble (arrOf g) (lo+k) (lo+k-(lo+l))) (lo+i)) (KK κ (bubble (arrOf g) (lo+k) (lo+k-(lo+l))) (lo+j));let Z:∀t,t<=k->KK κ (bubble (arrOf g) (lo+k) (lo+k-(lo+l))) (lo+t)=if t=l then KK κ (arrOf g) (lo+k) else if l<t then KK κ (arrOf g) (lo+(t-1)) else KK κ (arrOf g) (lo+t):=λt ht=>by
     rw[KK_bubble J vT];by_cases q1:t=l;.rw[if_pos (by rw[gr vT];lia),if_pos q1]
     .rw[if_neg (by rw[gr vT];lia),if_neg q1];by_cases q2:l<t;.rw[if_pos (by rw[gr vT];lia),if_pos q2,show lo+t-1=lo+(t-1) from f8 vT]
      .rw[if_neg (by rw[gr vT];lia),if_neg q2]
    rw[Z i vT,Z j (dq Y)];by_cases i1:i=l
    .rw[if_pos i1];by_cases M:j=l;.rw[if_pos M];show gd _
     .rw[if_neg M,if_pos vT];show du (F (j-1) (d6 vT) (ci vT vT))
    .rw[if_neg i1];by_cases i2:l<i
     .rw[if_pos i2,if_neg vT,if_pos (bo i2 q)];show B _ _ (sq q _) (ci vT vT)
     .rw[if_neg i2];by_cases M:j=l;.rw[if_pos M];show G i vT
      .rw[if_neg M];by_cases j2:l<j;.rw[if_pos j2];show B _ _ (eP vT) (ci vT vT)
       .rw[if_neg j2];show B _ _ q vT
 .intro c d z;let⟨rfl,D,B⟩:=z;refine⟨rQ,D,?_⟩
  rwa [show min (max (max ok 1) n) n=n by lia]at B
 .intro i j q Y;by_cases z:ok=0
  .obtain rfl:i=j:=by lia
   show gd _
  .show hs i j q vT
 .intro c d z;let⟨rfl,D,B⟩:=z;show bd (h _ D B)
def zA {i j:Nat}{st:SortSt}{Q:Unit->SortSt->Prop}(h:Q () (setArr st (mirror (arrOf st) i j ((j-i)/2)))):wpS (model prog w) A E s ((sortPriv% PySem.Builtin.reverseSlice) i j) Q st:=by show wpS _ _ _ _ (reverseSlice' i j) _ _;rw[reverseSlice'_eq];show si h
def SG.rev {st0 st:SortSt}{lo hi i j:Nat}(g:SG st0 st lo hi)(h1:lo<=i)(B:j<=hi)(d:j<=(arrOf st).size):SG st0 (setArr st (mirror (arrOf st) i j ((j-i)/2))) lo hi:=g.arr (mirror_perm _ _ _ _) λt q=>by rw[getElem?_mirror_all d,if_neg vT]
def X5 {xs:Array Keyed}{lo m:Nat}(h1:1<=m)(h:jY κ xs lo m)(q:κ.kle (KK κ xs (lo+(m-1))) (KK κ xs (lo+m))):jY κ xs lo (m+1):=λi j d g=>by
 rcases ee j m with z|z;.show h i j d z
 .obtain rfl:j=m:=by lia
  rcases ee i j with y|y;.show cE (h i (j-1) (d6 y) (uv (jI (cn _) y) Nat.one_pos)) q
  .obtain rfl:i=j:=by lia
   show gd _
def Km {lo n g:Nat}{st:SortSt}{f:Nat->(Option (Option Nat)×Nat)->StateT SortSt Sem (ForInStep (Option (Option Nat)×Nat))}(m1:1<=g)(J:g<=n)(G:jY κ (arrOf st) lo g)(F:∀x m (B:ForInStep (Option (Option Nat)×Nat)->SortSt->Prop),1<=m->m<n->(κ.blt (KK κ (arrOf st) (lo+m)) (KK κ (arrOf st) (lo+m-1))=true->B (.done (none,m)) st)->(κ.blt (KK κ (arrOf st) (lo+m)) (KK κ (arrOf st) (lo+m-1))=false->B (.yield (none,m+1)) st)->wpS (model prog w) A E s (f x (none,m)) B st):wpS (model prog w) A E s (forIn [g:n] ((none:Option (Option Nat)),g) f) (λc st'=>st'=st/\∃m,c=(none,m)/\1<=m/\m<=n/\jY κ (arrOf st) lo m/\(m=n\/κ.klt (KK κ (arrOf st) (lo+m)) (KK κ (arrOf st) (lo+m-1)))) st:=by
 refine eT (I:=λ(x:Nat) (c:Option (Option Nat)×Nat) (st':SortSt)=>st'=st/\c=(none,x)/\1<=x/\jY κ (arrOf st) lo x) ?_ ?_ ⟨rQ,rQ,m1,G⟩
 .intro x c q h1 D z;let⟨rfl,rfl,d,j⟩:=z;refine F x x _ d D (λe=>⟨rQ,x,rQ,d,aI D,j,.inr e⟩) λe=>⟨rQ,rQ,vT,X5 d j ?_⟩
  rw[show lo+(x-1)=lo+x-1 by lia];show e
 .intro c q z;let⟨rfl,rfl,d,j⟩:=z;rw[Nat.max_eq_right J]at d j ⊢;show⟨rQ,n,rQ,d,af _,j,.inl rQ⟩
def vM (κ:PyProof.Rows.KeyKind)(xs:Array Keyed)(lo n:Nat):Prop:=∀i j,i<=j->j<n->κ.kle (KK κ xs (lo+j)) (KK κ xs (lo+i))
def zB {xs:Array Keyed}{lo m:Nat}(h1:1<=m)(h:vM κ xs lo m)(q:κ.kle (KK κ xs (lo+m)) (KK κ xs (lo+m-1))):vM κ xs lo (m+1):=λi j d g=>by
 rcases ee j m with z|z;.show h i j d z
 .obtain rfl:j=m:=by lia
  rcases ee i j with y|y
  .have:=h i (j-1) vT vT;rw[show lo+(j-1)=lo+j-1 by lia]at this;show cE q this
  .obtain rfl:i=j:=by lia
   show gd _
def U6 {lo n:Nat}{st:SortSt}{Q:Option Nat->SortSt->Prop}(hO:jf prog w A s κ kn)(hk:kindOf st=kn)(G:KeysOf κ (arrOf st))(hn:lo+n<=(arrOf st).size)(n1:1<=n)(h:∀st' m,SG st st' lo (lo+n)->1<=m->m<=n->jY κ (arrOf st') lo m->Q (some m) st'):wpS (model prog w) A E s ((sortPriv% PySem.Builtin.countRun) lo n) Q st:=by
 let one:∀xs,jY κ xs lo 1:=λxs i j h1 M=>by
  obtain rfl:i=j:=by lia
  show gd _
 show wpS _ _ _ _ (_ >>= _) _ _
 try conv=>arg 5;dsimp -zeta only
 refine a8 (gL (Km (κ:=κ) (af 1) n1 (one _) ?_) ?_)
 .intro x m Q' h1 M q1 q2
  try conv=>arg 5;dsimp -zeta only
  refine a8 (qT hO hk G vT (gp vT) ?_)
  try conv=>arg 5;dsimp -zeta only
  cases e:κ.blt (KK κ (arrOf st) (lo+m)) (KK κ (arrOf st) (lo+m-1)) with| true=>calc bh rQ ?_;show bd (q1 e)| false=>calc aR v0 ?_;show bd (q2 e)
 intro c d z;let⟨rfl,m,rfl,h1,M,u1,h3⟩:=z
 try conv=>arg 5;dsimp -zeta only
 by_cases z:m=n
 .calc bh (by simpa using z) ?_;show bd (h _ _ SG.refl h1 M u1)
 calc aR (by simpa using z) ?_;let U7:κ.klt (KK κ (arrOf d) (lo+m)) (KK κ (arrOf d) (lo+m-1)):=h3.resolve_left z
 extract_lets -underBinder +onlyGivenNames jp
 let hJ:∀L,SG d L lo (lo+n)->vM κ (arrOf L) lo (m+1)->wpS (model prog w) A E s (jp ()) Q L:=by
  intro L g2 d2
  try conv=>arg 5;dsimp -zeta only
  refine a8 (wpS_lift (f7 ⟨rQ,?_⟩))
  try conv=>arg 5;dsimp -zeta only
  refine a8 (gL (eT (I:=λ(x:Nat) (c:Option (Option Nat)×Nat×Nat) (st':SortSt)=>∃q,c=(none,x,q)/\SG d st' lo (lo+n)/\vM κ (arrOf st') lo x/\q<x/\m+1<=x/\∀t,x-1-q<=t->t<x->KK κ (arrOf st') (lo+t)=KK κ (arrOf st') (lo+x-1))
   (Q:=λ(c:Option (Option Nat)×Nat×Nat) (st':SortSt)=>∃x q,c=(none,x,q)/\SG d st' lo (lo+n)/\vM κ (arrOf st') lo x/\q<x/\m+1<=x/\x<=n/\∀t,x-1-q<=t->t<x->KK κ (arrOf st') (lo+t)=KK κ (arrOf st') (lo+x-1)) ?_ ?_ ⟨0,rQ,g2,d2,vT,af _,λt q1 q2=>by rw[show lo+t=lo+(m+1)-1 by lia]⟩) ?_)
  .intro x c g hx1 hx2 z;let⟨q,rfl,D,J,Z,F,eq⟩:=z;let z3:=D.size
   try conv=>arg 5;dsimp -zeta only
   refine a8 (qT hO (D.kind.trans hk) (D.keys G) vT (gp vT) ?_)
   try conv=>arg 5;dsimp -zeta only
   skip
   cases e:κ.blt (KK κ (arrOf g) (lo+x)) (KK κ (arrOf g) (lo+x-1)) with
   | true=>
    refine bh rQ ?_
    skip
    let done:∀B,SG d B lo (lo+n)->(∀t,KK κ (arrOf B) t=KK κ (arrOf g) t)->∃q,((none:Option (Option Nat)),x+1,0)=(none,x+1,q)/\SG d B lo (lo+n)/\vM κ (arrOf B) lo (x+1)/\q<x+1/\m+1<=x+1/\∀t,x+1-1-q<=t->t<x+1->KK κ (arrOf B) (lo+t)=KK κ (arrOf B) (lo+(x+1)-1):=λB g4 k4=>by calc⟨0,rQ,g4,?_,vT,gz F,λt q1 q2=>by rw[show lo+t=lo+(x+1)-1 by lia]⟩;calc zB vT (λi j q1 q2=>by rw[k4,k4];show J i j q1 q2) ?_;rw[k4,k4];show du e
    by_cases Y:q > 0
    .calc bh Y ?_;calc a8 (zA ?_);calc bd (done _ (D.rev (eP vT) vT vT) λt=>?_);show KK_mirror_equal vT (λu q1 q2=>by have:=eq (u-lo) (by simp[fc,gf]at *;lia) vT;rw[show lo+(u-lo)=u by rw[fc]at *;lia]at this;show this) t
    .calc aR Y ?_;show bd (done _ D λt=>rfl)
   | false=>
    calc aR v0 ?_;refine a8 (qT hO (D.kind.trans hk) (D.keys G) (gp vT) vT ?_)
    try conv=>arg 5;dsimp -zeta only
    cases e2:κ.blt (KK κ (arrOf g) (lo+x-1)) (KK κ (arrOf g) (lo+x)) with
    | true=>calc bh rQ ?_;show bd ⟨x,q,rQ,D,J,Z,F,vT,eq⟩
    | false=>
     calc aR v0 ?_;let ek:KK κ (arrOf g) (lo+x-1)=KK κ (arrOf g) (lo+x):=κ.total _ _ e2 e;calc bd ⟨q+1,rQ,D,zB vT J (by rw[ek];show gd _),qV Z,vT,λt q1 q2=>?_⟩;rw[show lo+(x+1)-1=lo+x from rfl];rcases ee t x with y|y;.rw[eq t vT y,ek]
     .rw[show t=x by lia]
  .intro c g z;let⟨q,rfl,D,J,Z,F,eq⟩:=z;rw[Nat.max_eq_right vT]at J Z F eq ⊢;show⟨n,q,rQ,D,J,Z,F,af _,eq⟩
  .intro c g z;let⟨x,q,rfl,D,J,Z,F,N,eq⟩:=z;let z3:=D.size
   try conv=>arg 5;dsimp -zeta only
   extract_lets -underBinder +onlyGivenNames lr ls n1 nq
   let q1:n1=x:=rfl;let q2:nq=q:=rfl
   conv=>arg 5;dsimp -zeta only[lr]
   extract_lets -underBinder +onlyGivenNames jp2
   let ZM:∀B,SG d B lo (lo+n)->vM κ (arrOf B) lo x->wpS (model prog w) A E s (jp2 ()) Q B:=by
    intro B g4 d4;let Y:=g4.size
    try conv=>arg 5;dsimp -zeta only
    calc a8 (zA ?_);let g5:=g4.rev (i:=lo) (j:=lo+x) (af _) (ly N _) vT;let u5:jY κ (arrOf (setArr B (mirror (arrOf B) lo (lo+x) ((lo+x-lo)/2)))) lo x:=λi j q1 q2=>by show κ.kle (KK κ (mirror (arrOf B) lo (lo+x) ((lo+x-lo)/2)) (lo+i)) (KK κ (mirror (arrOf B) lo (lo+x) ((lo+x-lo)/2)) (lo+j));rw[KK_mirror vT,KK_mirror vT,if_pos vT,if_pos (by simp_all),show lo+(lo+x)-1-(lo+i)=lo+(x-1-i) from f8 vT,show lo+(lo+x)-1-(lo+j)=lo+(x-1-j) from f8 vT];show d4 _ _ (Nat.sub_le_sub_left q1 _) (gp vT)
    generalize setArr B (mirror (arrOf B) lo (lo+x) ((lo+x-lo)/2))=JK at g5 u5;let z5:=g5.size;refine a8 (gL (Km (κ:=κ) vT N u5 ?_) ?_)
    .intro y p Q' h1 M q1 q2
     try conv=>arg 5;dsimp -zeta only
     refine a8 (qT hO (g5.kind.trans hk) (g5.keys G) vT (gp vT) ?_)
     try conv=>arg 5;dsimp -zeta only
     cases e:κ.blt (KK κ (arrOf JK) (lo+p)) (KK κ (arrOf JK) (lo+p-1)) with| true=>calc bh rQ ?_;show bd (q1 e)| false=>calc aR v0 ?_;show bd (q2 e)
    .intro c Zz z;let⟨rfl,p,rfl,h1,M,u6,_⟩:=z;show bd (h _ _ g5 h1 M u6)
   by_cases Y:q > 0
   .calc bh Y ?_;calc a8 (zA ?_);calc ZM _ (D.rev (by simp_all;lia) (ly N _) vT) λi j q1 q2=>?_;let k4:∀t,KK κ (mirror (arrOf g) (lo+x-(q+1)) (lo+x) ((lo+x-(lo+x-(q+1)))/2)) t=KK κ (arrOf g) t:=KK_mirror_equal vT λu q1 q2=>by
     have:=eq (u-lo) vT vT;rw[show lo+(u-lo)=u by lia]at this;show this
    show κ.kle (KK κ (mirror (arrOf g) (lo+x-(q+1)) (lo+x) ((lo+x-(lo+x-(q+1)))/2)) (lo+j)) (KK κ (mirror (arrOf g) (lo+x-(q+1)) (lo+x) ((lo+x-(lo+x-(q+1)))/2)) (lo+i));rw[k4,k4];show J i j q1 q2
   .calc aR Y ?_;show ZM _ D J
 by_cases z2:m > 1
 .calc bh z2 ?_;refine a8 (qT hO hk G vT (gp vT) ?_)
  try conv=>arg 5;dsimp -zeta only
  cases e:κ.blt (KK κ (arrOf d) lo) (KK κ (arrOf d) (lo+m-1)) with
  | true=>calc bh rQ ?_;show bd (h _ _ SG.refl h1 M u1)
  | false=>
   calc aR v0 ?_;calc a8 (zA ?_);let O:∀t,t<m->KK κ (arrOf d) (lo+t)=KK κ (arrOf d) (lo+m-1):=λt ht=>by let a1:=u1 t (m-1) (d6 ht) vT;let a2:=u1 0 t vT ht;rw[show lo+(m-1)=lo+m-1 by lia]at a1;rw[sk]at a2;show KeyOrd.kle_antisymm a1 (cE (show κ.kle _ _ from e) a2)
   let k4:∀t,KK κ (mirror (arrOf d) lo (lo+m) ((lo+m-lo)/2)) t=KK κ (arrOf d) t:=KK_mirror_equal vT λu q1 q2=>by have:=O (u-lo) (ci vT vT);rw[show lo+(u-lo)=u from lL q1]at this;show this
   calc hJ _ (SG.refl.rev (af _) (ly M _) vT) ?_;refine zB h1 (λi j q1 q2=>?_) ?_
   .show κ.kle (KK κ (mirror (arrOf d) lo (lo+m) ((lo+m-lo)/2)) (lo+j)) (KK κ (mirror (arrOf d) lo (lo+m) ((lo+m-lo)/2)) (lo+i));rw[k4,k4,O i (jI q1 q2),O j q2];show gd _
   .show κ.kle (KK κ (mirror (arrOf d) lo (lo+m) ((lo+m-lo)/2)) (lo+m)) (KK κ (mirror (arrOf d) lo (lo+m) ((lo+m-lo)/2)) (lo+m-1));rw[k4,k4];show du U7
 .calc aR z2 ?_;obtain rfl:m=1:=by lia
  calc hJ _ SG.refl (zB h1 (λi j q1 q2=>?_) (du U7));obtain rfl:i=j:=by lia
  show gd _
def fJ:Nat->List (List Keyed)->List (Nat×Nat×Nat)->Prop
 | _,[],[]=>True
 | o,r::rs,p::ps=>p.1=o/\p.2.1=r.length/\fJ (o+r.length) rs ps
 | _,_,_=>False
theorem fJ.len:∀{rs:List (List Keyed)} {ps:List (Nat×Nat×Nat)} {o:Nat},fJ o rs ps->ps.length=rs.length
 | [],[],_,_=>rfl
 | r::rs,p::ps,o,h=>by rw[bu,bu,fJ.len h.2.2]
theorem fJ.app:∀{F G:List (List Keyed)} {f g:List (Nat×Nat×Nat)} {o:Nat},fJ o F f->fJ (o+F.flatten.length) G g->fJ o (F++G) (f++g)
 | [],G,[],g,o,_,h=>by simpa using h
 | r::F,G,p::f,g,o,h1,h2=>⟨h1.1,h1.2.1,fJ.app h1.2.2 (by rw[iS,ar]at h2;rw[l_];show h2)⟩
theorem fJ.split:∀{F G:List (List Keyed)} {ps:List (Nat×Nat×Nat)} {o:Nat},fJ o (F++G) ps->∃f g,ps=f++g/\f.length=F.length/\fJ o F f/\fJ (o+F.flatten.length) G g
 | [],G,ps,o,h=>⟨[],ps,rQ,rQ,trivial,by simpa using h⟩
 | r::F,G,p::ps,o,h=>by let⟨f,g,e,l,h1,d⟩:=fJ.split (F:=F) (G:=G) h.2.2;calc⟨p::f,g,by rw[e];rfl,by simp[l],⟨h.1,h.2.1,h1⟩,?_⟩;rw[iS,ar];rw[l_]at d;show d
structure fK (κ:PyProof.Rows.KeyKind)(kn:SortKind)(a0:List Keyed)(st:SortSt)(rs:List (List Keyed))(rest:List Keyed):Prop where
 kind:kindOf st=kn
 fail:failedOf st=none
 keys:KeysOf κ (arrOf st)
 perm:(arrOf st).toList.Perm a0
 arr:(arrOf st).toList=rs.flatten++rest
 pend:fJ 0 rs (pendingOf st).toList
 up:∀r∈rs,r.Pairwise (kL κ)
 ne:∀r∈rs,r≠[]
def keys_perm {a b:Array Keyed}(p:a.toList.Perm b.toList)(h:KeysOf κ b):KeysOf κ a:=λx hx=>h x (p.mem_iff.mp hx)
def wV {a0:List Keyed}{i:Nat}{st:SortSt}{F G:List (List Keyed)}{X Y rest:List Keyed}{Q:Bool->SortSt->Prop}(hO:jf prog w A s κ kn)(R:fK κ kn a0 st (F++X::Y::G) rest)(hi:F.length=i)(h:∀st' Z,fK κ kn a0 st' (F++Z::G) rest->Q true st'):wpS (model prog w) A E s ((sortPriv% PySem.Builtin.mergeAt) i) Q st:=by
 subst hi;let⟨f,g,ep,j,h1,M⟩:=R.pend.split;obtain⟨p,q,g',rfl⟩:∃p q g',g=p::q::g':=by
  match g,M with| p::q::g',_=>show⟨p,q,g',rQ⟩
 let⟨L,pb,O⟩:=p;let⟨N,d,qc⟩:=q;let⟨e1,e2,e3,e4,D⟩:=M;let e1:L=0+F.flatten.length:=e1;let e2:pb=X.length:=e2;let e3:N=0+F.flatten.length+X.length:=e3;let e4:d=Y.length:=e4;let D:fJ (0+F.flatten.length+X.length+Y.length) G g':=D;let nX:0<X.length:=s_.mpr (R.ne X v0);let nY:0<Y.length:=s_.mpr (R.ne Y v0);let B:(pendingOf st)[F.length]?=some (L,pb,O):=by rw[<-ck,ep,<-j];simp
 let at2:(pendingOf st)[F.length+1]?=some (N,d,qc):=by rw[<-ck,ep,<-j,dE vT];simp
 calc Np (Pl:=F.flatten) (X:=X) (Y:=Y) (Sl:=G.flatten++rest) hO R.kind R.fail R.keys B at2 (by rw[R.arr];simp) vT e2.symm e4.symm (by simp_all) (by simp_all) vT (R.up X v0) (R.up Y v0) λst' Z k1 k2 k3 k4 k5 k6=>?_;let pm:(arrOf st').toList.Perm (arrOf st).toList:=by rw[k4,R.arr];simp only[tf,iS,bt];calc im _ ?_;rw[<-bt X];show k5.append_right _
 refine h st' Z ⟨k1.trans R.kind,k2,keys_perm pm R.keys,pm.trans R.perm,by rw[k4];simp,?_,λr J=>?_,λr J=>?_⟩
 .let e5:(pendingOf st').toList=f++(L,pb+d,O)::g':=by
   rw[k3,Array.toList_eraseIdxIfInBounds,tS,ep,<-j];rw[List.set_append_right _ _ (af _),jS,List.eraseIdx_append_of_length_le vT];simp
  rw[e5];refine fJ.app h1 ⟨e1,?_,?_⟩
  .show pb+d=Z.length;rw[k5.length_eq,e2,e4,ar]
  .rw[k5.length_eq,ar,<-l_];show D
 .rcases a9.mp J with z|z;.show R.up r (by simp[z])
  .rcases a_.mp z with z|z;.rw[z];show k6
   .show R.up r (by simp[z])
 .rcases a9.mp J with z|z;.show R.ne r (by simp[z])
  .rcases a_.mp z with z|z
   .rw[z];intro y;have:=k5.length_eq;rw[y,ar]at this;simp at this;simp_all
   .show R.ne r (by simp[z])
def X6 {α:Type}{l:List α}(h:2<=l.length):∃F x y,l=F++[x,y]:=by
 calc⟨l.take (l.length-2),l[l.length-2],l[l.length-1],?_⟩;let e1:l.drop (l.length-2)=[l[l.length-2],l[l.length-1]]:=by rw[jm (show l.length-2<l.length by lia),jm (show l.length-2+1<l.length by simp_all +arith),List.drop_eq_nil_of_le (by simp_all +arith)];congr 2;congr 1;lia
 rw[<-e1,cw]
def rK {rs:List (List Keyed)}(h:∀r∈rs,r≠[]):rs.length<=rs.flatten.length:=by
 induction rs with| nil=>simp| cons r rs ih=>have h1:=s_.mpr (h r ax);let d:=ih λx hx=>h x (ay _ hx);rw[bu,iS,ar];lia
def Pq {β α:Type}{J:β->StateT SortSt Sem α}{C:β->SortSt->Prop}{m:StateT SortSt Sem α}{R:α->SortSt->Prop}{st:SortSt}(h1:∀o st',C o st'->wpS (model prog w) A E s (J o) R st')(d:(∀o st',C o st'->wpS (model prog w) A E s (J o) R st')->wpS (model prog w) A E s m R st):wpS (model prog w) A E s m R st:=d h1
theorem fJ.congr:∀{rs:List (List Keyed)} {ps d:List (Nat×Nat×Nat)} {o:Nat},fJ o rs ps->d.map (λp=>(p.1,p.2.1))=ps.map (λp=>(p.1,p.2.1))->fJ o rs d
 | [],[],[],_,_,_=>trivial
 | [],[],_::_,_,_,e=>by simp at e
 | r::rs,p::ps,[],_,_,e=>by simp at e
 | r::rs,p::ps,q::d,o,h,e=>by rw[bX,bX]at e;injection e with e1 e2;injection e1 with e3 e4;show⟨e3.trans h.1,e4.trans h.2.1,fJ.congr h.2.2 e2⟩
def fK.len {a0:List Keyed}{st:SortSt}{rs:List (List Keyed)}{rest:List Keyed}(R:fK κ kn a0 st rs rest):rs.flatten.length+rest.length=a0.length:=by rw[<-R.perm.length_eq,R.arr,ar]
def fK.size {a0:List Keyed}{st:SortSt}{rs:List (List Keyed)}{rest:List Keyed}(R:fK κ kn a0 st rs rest):(arrOf st).size=a0.length:=by rw[<-R.perm.length_eq,bn]
def fK.seg {a0:List Keyed}{st st':SortSt}{rs:List (List Keyed)}{rest:List Keyed}{n hi:Nat}(R:fK κ kn a0 st rs rest)(g:SG st st' rs.flatten.length hi)(u:jY κ (arrOf st') rs.flatten.length n)(hn:n<=rest.length):∃d G,d.length=n/\d.Pairwise (kL κ)/\fK κ kn a0 st' rs (d++G):=by
 let z:=R.size;let J:=g.size;let L:=R.len;let e1:(arrOf st').toList.take rs.flatten.length=rs.flatten:=by
  apply gE;intro t;rcases ee t rs.flatten.length with y|y;.rw[oq y,ck,g.out t (.inl y),<-ck,R.arr,eM y]
  .rw[di (by rw[bq];lia),di y]
 let pm:(arrOf st').toList.Perm (arrOf st).toList:=tT.mp g.perm;calc⟨((arrOf st').toList.drop rs.flatten.length).take n,((arrOf st').toList.drop rs.flatten.length).drop n,?_,?_,⟨g.kind.trans R.kind,g.fail.trans R.fail,keys_perm pm R.keys,pm.trans R.perm,?_,by rw[g.pend];show R.pend,R.up,R.ne⟩⟩;.rw[bq,cz,bn];lia
 .rw[ip];intro i j hi F q;let B:j<n:=by simp at F;lia
  let D:rs.flatten.length+j<(arrOf st').size:=by simp at F;lia
  have:=u i j (aI q) B;rw[vK (show rs.flatten.length+i<(arrOf st').size by lia),vK D]at this;show κ.kle _ _;simpa using this
 .rw[cw]
  conv=>lhs;rw[<-cw rs.flatten.length (arrOf st').toList]
  rw[e1]
def aaY {c:Prop} [Decidable c] {a b n:Nat}(h1:a+1<n)(d:b+1<n):(if c then a else b)+1<n:=by split <;> assumption
def Fq {a0:List Keyed}{i:Nat}{st:SortSt}{rs:List (List Keyed)}{rest:List Keyed}{Q:Bool->SortSt->Prop}(O:jf prog w A s κ kn)(R:fK κ kn a0 st rs rest)(hi:i+1<rs.length)(h:∀st' g,fK κ kn a0 st' g rest->g.length+1=rs.length->Q true st'):wpS (model prog w) A E s ((sortPriv% PySem.Builtin.mergeAt) i) Q st:=by
 let e:rs=rs.take i++rs[i]::rs[i+1]::rs.drop (i+2):=by rw[<-jm hi,<-jm (show i<rs.length by lia),cw]
 let j:=R;rw[e]at j;calc wV O j (by rw[bq];lia) λd Z q=>h d _ q ?_;rw[ar,bq,bu,cz];lia
def X7 {st:SortSt}{Q:Unit->SortSt->Prop}(hO:jf prog w A s κ kn)(hk:kindOf st=kn)(hf:failedOf st=none)(hp:pendingOf st=#[])(hks:KeysOf κ (arrOf st))(h:∀st',failedOf st'=none->(arrOf st').toList.Perm (arrOf st).toList->(arrOf st').toList.Pairwise (kL κ)->Q () st'):wpS (model prog w) A E s (sortPriv% PySem.Builtin.sortRuns) Q st:=by
 obtain⟨N,hN⟩:∃N,(arrOf st).size=N:=⟨_,rQ⟩
 let hl:(arrOf st).toList.length=N:=by rw[bn,hN]
 let R0:fK κ kn (arrOf st).toList st [] (arrOf st).toList:=⟨hk,hf,hks,List.Perm.refl _,v0,by rw[hp];trivial,λr h=>by simp at h,λr h=>by simp at h⟩
 generalize (arrOf st).toList=a0 at hl R0 h;show wpS _ _ _ _ (_ >>= _) _ _;refine a8 (pi ?_)
 try conv=>arg 5;dsimp -zeta only
 rw[hN];refine a8 (gL (eT (I:=λ(x:Nat) (c:Option Unit×Nat) (st':SortSt)=>∃rs rest,c=(none,rs.flatten.length)/\fK κ kn a0 st' rs rest/\(x<=rs.flatten.length\/rest=[]))
  (Q:=λ(c:Option Unit×Nat) (st':SortSt)=>∃rs l,c=(none,l)/\fK κ kn a0 st' rs []) ?_ ?_ ⟨[],a0,rQ,R0,.inl v0⟩) ?_)
 .intro x c L _ hx z;let⟨rs,rest,rfl,R,hpr⟩:=z;let ln:=R.len
  try conv=>arg 5;dsimp -zeta only
  by_cases z:rs.flatten.length>=N
  .calc bh z ?_;obtain rfl:rest=[]:=i6.mp vT;show bd ⟨rs,_,rQ,R⟩
  calc aR z ?_;let Ae:x<=rs.flatten.length:=by
   rcases hpr with y|y;.show y
   .rw[y,se]at ln;lia
  let zs:=R.size;refine a8 (U6 hO R.kind R.keys (show rs.flatten.length+(N-rs.flatten.length)<=(arrOf L).size by grind) (eP vT) λD m M m1 m2 u2=>?_)
  try conv=>arg 5;dsimp -zeta only
  extract_lets -underBinder +onlyGivenNames nn jp
  let qn:nn=m:=rfl;refine Pq (J:=λn:Nat=>jp () n) (C:=λn j=>SG L j rs.flatten.length (rs.flatten.length+(N-rs.flatten.length))/\jY κ (arrOf j) rs.flatten.length n/\1<=n/\n<=N-rs.flatten.length) (λn j hc=>?_) (λhJ=>?_)
  .let⟨O,u3,n1,n2⟩:=hc;let⟨sg,zE,ls,us,R3⟩:=R.seg O u3 vT
   try conv=>arg 5;dsimp -zeta only
   refine a8 (pi ?_)
   try conv=>arg 5;dsimp -zeta only
   extract_lets -underBinder +onlyGivenNames jp2
   refine Pq (J:=λ_:Unit=>jp2 ()) (C:=λ_ B=>∃d,fK κ kn a0 B d (sg++zE)/\d.flatten.length=rs.flatten.length) (λ_ B hc=>?_) (λhJ=>?_)
   .let⟨d,g,l4⟩:=hc
    try conv=>arg 5;dsimp -zeta only
    refine a8 (si (bd ⟨d++[sg],zE,?_,⟨g.kind,g.fail,g.keys,g.perm,?_,?_,λr hr=>?_,λr hr=>?_⟩,.inl ?_⟩))
    .rw[tf,ar];simp[ls,l4]
    .show (arrOf B).toList=_;rw[g.arr];simp
    .show fJ 0 (d++[sg]) ((pendingOf B).push (rs.flatten.length,n,0)).toList;rw[kz];show fJ.app g.pend ⟨by rw[l4];simp,ls.symm,trivial⟩
    .rcases a9.mp hr with y|y;.show g.up r y
     .rw[am.mp y];show us
    .rcases a9.mp hr with y|y;.show g.ne r y
     .rw[am.mp y];intro q;rw[q]at ls;simp at ls;lia
    .rw[tf,ar,iS,List.flatten_nil,eJ,l4,ls];grind
   .cases hb:(pendingOf j).back? with
    | none=>
     try conv=>arg 5;dsimp -zeta only
     show hJ () j ⟨rs,R3,rQ⟩
    | some v=>
     let⟨v1,v2,v3⟩:=v
     try conv=>arg 5;dsimp -zeta only
     refine a8 (gL (eT (I:=λ(y:Nat) (c:Option Unit×Unit) (st':SortSt)=>c=(none,())/\∃d,fK κ kn a0 st' d (sg++zE)/\d.flatten.length=rs.flatten.length)
      (Q:=λ(c:Option Unit×Unit) (st':SortSt)=>c=(none,())/\∃d,fK κ kn a0 st' d (sg++zE)/\d.flatten.length=rs.flatten.length) ?_ ?_ ⟨rQ,rs,R3,rQ⟩) ?_)
     .intro y c B _ hy z;let⟨rfl,d,g,l4⟩:=z;refine a8 (pi ?_)
      conv=>arg 5;dsimp only
      let lp:(pendingOf B).size=d.length:=by rw[<-bn];show g.pend.len
      by_cases z4:(pendingOf B).size > 1
      .rw[if_pos z4];let⟨F,X,Y,rfl⟩:=X6 (show 2<=d.length by lia);let lF:(pendingOf B).size=F.length+2:=by rw[lp];simp
       rw[bS (show (pendingOf B).size-2<(pendingOf B).size by simp_all)];generalize (pendingOf B)[(pendingOf B).size-2]=v;let⟨v4,v5,v6⟩:=v
       try conv=>arg 5;dsimp -zeta only
       by_cases z5:v6<=(sortPriv% PySem.Builtin.power) N (2*v1+v2) (2*v1+v2+v2+n) N
       .calc bh z5 ?_;show bd ⟨rQ,_,g,l4⟩
       .calc aR z5 ?_;calc a8 (wV hO (F:=F) (G:=[]) g (show F.length=(pendingOf B).size-2 by simp_all) λJK Z R5=>?_);calc aR v0 ?_;let l5:=R5.len;let l6:=g.len;show bd ⟨rQ,_,R5,vT⟩
      .rw[if_neg z4]
       try conv=>arg 5;dsimp -zeta only
       show bd ⟨rQ,_,g,l4⟩
     .rintro c B hc;show hc
     .intro c B z;let⟨rfl,d,g,l4⟩:=z
      try conv=>arg 5;dsimp -zeta only
      calc a8 (si ?_);calc hJ () _ ⟨d,⟨g.kind,g.fail,g.keys,g.perm,g.arr,?_,g.up,g.ne⟩,l4⟩;calc g.pend.congr ?_;apply gE;intro t;rw[ba,ba,ck,ck];show Option.map _ ((pendingOf B).modify _ _)[t]?=_;rw[Array.getElem?_modify];split
      .cases(pendingOf B)[t]? <;> rfl
      .rfl
  .by_cases z2:m<(sortPriv% PySem.Builtin.minRun) N N 0
   .calc bh z2 ?_;refine a8 (wpS_lift (f7 ⟨rQ,?_⟩))
    try conv=>arg 5;dsimp -zeta only
    let z2':=M.size;calc a8 (RD hO (M.kind.trans R.kind) (M.keys R.keys) (by grind) (by grind) u2 λj O u3=>?_);refine aR v0 ?_
    try conv=>arg 5;dsimp -zeta only
    refine hJ _ j ⟨⟨O.kind.trans M.kind,O.fail.trans M.fail,O.pend.trans M.pend,O.perm.trans M.perm,λt ht=>(O.out t (by grind)).trans (M.out t ht)⟩,u3,by calc aS (by assumption) ?_;lia,n5 _ _⟩
   .calc aR z2 ?_;show hJ m D ⟨M,u2,m1,m2⟩
 .intro c L z;let⟨rs,rest,rfl,R,hpr⟩:=z;let ln:=R.len;obtain rfl:rest=[]:=by
   rcases hpr with y|y;.show i6.mp vT
   .show y
  show⟨rs,_,rQ,R⟩
 .intro c L z;let⟨rs,l,rfl,R⟩:=z
  try conv=>arg 5;dsimp -zeta only
  let ln:=R.len;rw[se]at ln;let lr:=rK R.ne;refine a8 (gL (eT (I:=λ(x:Nat) (c:Option Unit×Unit) (st':SortSt)=>c=(none,())/\∃d,fK κ kn a0 st' d []/\(d.length+x<=N\/d.length<=1))
   (Q:=λ(c:Option Unit×Unit) (st':SortSt)=>c=(none,())/\∃d,fK κ kn a0 st' d []/\d.length<=1) ?_ ?_ ⟨rQ,rs,R,.inl (by simp_all)⟩) ?_)
  .intro x c D _ hx z;let⟨rfl,d,R2,h2⟩:=z
   try conv=>arg 5;dsimp -zeta only
   refine a8 (pi ?_)
   try conv=>arg 5;dsimp -zeta only
   let lp:(pendingOf D).size=d.length:=by rw[<-bn];show R2.pend.len
   by_cases z:(pendingOf D).size<=1
   .calc bh z ?_;show bd ⟨rQ,d,R2,vT⟩
   refine aR z ?_
   try conv=>arg 5;dsimp -zeta only
   let lp':(pendingOf D).size-2+1<d.length:=by simp_all +arith
   calc a8 (Fq hO R2 ?_ λj rs3 R3 l3=>?_);.show aaY (show (pendingOf D).size-2-1+1<d.length by lia) lp'
   .calc aR v0 ?_;show bd ⟨rQ,_,R3,vT⟩
  .intro c D z;let⟨rfl,d,R2,h2⟩:=z;show⟨rQ,d,R2,vT⟩
  .intro c D z;let⟨rfl,d,R2,h2⟩:=z;calc bd (h _ R2.fail R2.perm ?_);rw[R2.arr,eJ]
   match d,h2,R2.up with| [],_,_=>show List.Pairwise.nil| [r],_,u=>simpa using u r v0
end
end L2
namespace L2
open PySem PySem.Spec PyProof.Rows PySem.W
mutual
inductive oM (K:W.Frag) (H:Hp):Nat->PyData->V->Prop
 | non {n}:oM K H n .none .non
 | bl {n} (b:Bool):oM K H n (.bool b) (.bl b)
 | int {n} (i:Int):oM K H n (.int i) (.int i)
 | str {n} (l:List Nat) (h:∀c∈l,c<128):oM K H n (.str (S l)) (.str (S l))
 | tup {n a ds xs} (h:aU K H a xs) (hs:nJ K H n ds xs):oM K H (n+1) (.tuple ds) (.ref a)
inductive nJ (K:W.Frag) (H:Hp):Nat->List PyData->List V->Prop
 | nil {n}:nJ K H n [] []
 | cons {n d ds x xs} (h:oM K H n d x) (hs:nJ K H n ds xs):nJ K H n (d::ds) (x::xs)
end
mutual
theorem oM.lay {K:W.Frag}{H:Hp}:∀{n:Nat} {d:PyData} {x:V},oM K H n d x->d.canLay0=true/\d.depth<=n/\PyData.eqv d d=true
 | _,_,_,.non=>by simp[PyData.canLay0,PyData.depth,PyData.eqv]
 | _,_,_,.bl _=>by simp[PyData.canLay0,PyData.depth,PyData.eqv]
 | _,_,_,.int _=>by simp[PyData.canLay0,PyData.depth,PyData.eqv]
 | _,_,_,.str l h=>by simp only[PyData.canLay0,PyData.depth,PyData.eqv];show⟨O9 h,cn _,v0⟩
 | _,_,_,.tup _ hs=>by simp only[PyData.canLay0,PyData.depth,PyData.eqv];have:=hs.lay;show⟨this.1,gm this.2.1,this.2.2⟩
theorem nJ.lay {K:W.Frag}{H:Hp}:∀{n:Nat} {ds:List PyData} {xs:List V},nJ K H n ds xs->PyData.canLayAll0 ds=true/\PyData.depthAll ds<=n/\PyData.eqvAll ds ds=true
 | _,_,_,.nil=>by simp[PyData.canLayAll0,PyData.depthAll,PyData.eqvAll]
 | _,_,_,.cons h hs=>by let a:=h.lay;let b:=hs.lay;simp only[PyData.canLayAll0,PyData.depthAll,PyData.eqvAll,c9];show⟨⟨a.1,b.1⟩,Nat.max_le.mpr ⟨a.2.1,b.2.1⟩,a.2.2,b.2.2⟩
end
mutual
theorem oM.fQ {K:W.Frag}{H H':Hp}(st:∀a xs,aU K H a xs->aU K H' a xs):∀{n:Nat} {d:PyData} {x:V},oM K H n d x->oM K H' n d x
 | _,_,_,.non=>.non
 | _,_,_,.bl b=>.bl b
 | _,_,_,.int i=>.int i
 | _,_,_,.str l h=>.str l h
 | _,_,_,.tup h hs=>.tup (st _ _ h) (hs.fQ st)
theorem nJ.fQ {K:W.Frag}{H H':Hp}(st:∀a xs,aU K H a xs->aU K H' a xs):∀{n:Nat} {ds:List PyData} {xs:List V},nJ K H n ds xs->nJ K H' n ds xs
 | _,_,_,.nil=>.nil
 | _,_,_,.cons h hs=>.cons (h.fQ st) (hs.fQ st)
end
section
variable {X:Cx}
variable {prog:Program}{w:World}
mutual
theorem oM.reads {ak:AC}{σ:St}{H:Hp}{s:Shared}(I:aG X ak σ H s):∀{n:Nat} {d:PyData} {x:V} {u:Value},oM X.K H n d x->bD x u->∃as,Reads s.heap u d as
 | _,_,_,u,.non,r=>by cases r;show⟨[],.none⟩
 | _,_,_,u,.bl b,r=>by cases r;show⟨[],.bool b⟩
 | _,_,_,u,.int i,r=>by let⟨t,rfl⟩:=r;show⟨[],.int i t⟩
 | _,_,_,u,.str l h,r=>by let⟨t,rfl⟩:=r;show⟨[],.str _ t⟩
 | _,_,_,u,.tup h hs,r=>by cases r;let⟨its,g,pl,_⟩:=I.tuple h;let⟨as,B⟩:=hs.reads I g;let⟨o,q,j,n,hd⟩:=pl;show⟨as,.tuple q j hd (by simpa using B)⟩
theorem nJ.reads {ak:AC}{σ:St}{H:Hp}{s:Shared}(I:aG X ak σ H s):∀{n:Nat} {ds:List PyData} {xs:List V} {us:List Value},nJ X.K H n ds xs->Vals xs us->∃as,ReadsAll s.heap us ds as
 | _,_,_,us,.nil,r=>by cases r;show⟨[],.nil⟩
 | _,_,_,us,.cons h hs,r=>by
  cases r with| cons q t=>let⟨as,a⟩:=h.reads I q;let⟨bs,b⟩:=hs.reads I t;show⟨as++bs,.cons a b⟩
end
inductive uM (prog:Program) (w:World) (hp:Heap) (u:Nat):List Value->List Int->Nat->Prop
 | nil:uM prog w hp u [] [] 0
 | cons {v:Value} {x:Int} {d:Nat} {vs:List Value} {xs:List Int} {ds:Nat} (hv:∀(A:Around) (E:AB) (s:Shared) (Q:Int->Shared->Prop),A.units<=u->s.heap=hp->Q x {s with toks:=s.toks+d}->wpAny (model prog w) A (pyHash v) Q E s)
   (t:uM prog w hp u vs xs ds):uM prog w hp u (v::vs) (x::xs) (d+ds)
def X8 {A:Around}{E:AB}{s:Shared}{a:Addr}{o:Obj}{its:Array Value}{n j:Nat}{hs:List Int}{Q:Int->Shared->Prop}(L:A.units<cLine)(J:s.heap.get? a=some o)(M:o.cls=.type "tuple")(hd:o.data=.seq its n)(N:uM prog w s.heap (A.units+1) its.toList hs j)(q:Q (reduceHash (Builtin.Tuple.tupleHashOf hs)) {s with toks:=s.toks+(j+1)}):wpAny (model prog w) A (pyHash (.ref a)) Q E s:=by
 let D:s.TypeIs (.ref a) "tuple":=⟨o,J,M⟩
 unfold pyHash
 first|unfold pyHashByItsType|skip
 first|refine aa (wpAny_cRoomFor_or (Or.inr L) ?_)|skip
 calc aa (ml D nt.lookup ?_);rw[show (some (Value.builtin "tuple.__hash__")==some Value.none)=false from beq_builtin_none _];simp only[a6,if_false];calc aa (ml D nt.lookup ?_);calc aa (wpAny_callSpecialIfBoundUnlessNone?_slot D nt (c_ nt D F.entry_tuple_hash ?_ (F.args_tuple_hash_1 _)));show wpAny _ _ (Builtin.Tuple.tupleItemsOf (Value.ref a) >>= _) _ _ s;calc aa (mr J hd (aa ?_));rw[<-oI];refine kR _ (λrest (b:Array Int) s1=>∃(left:List Int) (g B:Nat),hs=b.toList++left/\uM prog w s.heap (A.units+1) rest left B/\g+B=j/\s1={s with toks:=s.toks+g}) _ ?_ ?_ _ _ ⟨hs,0,j,rQ,N,gt _,rQ⟩
 .intro x rest b s1 z;let⟨left,g,B,e1,G,e2,rfl⟩:=z;cases G with| @cons v h d vs xs ds hv t=>calc aa (hv _ _ _ _ (af _) rQ ?_);show ag ⟨xs,g+d,ds,by rw[e1];simp,t,vT,by simp[l_]⟩
 .intro b s1 z;let⟨left,g,B,e1,G,e2,rfl⟩:=z;cases G;let e1:hs=b.toList:=by simpa using e1
  let e2:g=j:=e2;subst e1 e2;calc wpAny_ret_mkInt ?_;show wpAny _ _ (pyHashByItsType.reduced (Builtin.Tuple.tupleHashOf b.toList)) Q E _;unfold pyHashByItsType.reduced;unfold reduceHash at q;split
  .rename_i z;rw[if_pos z]at q;show ag (by simpa [l_] using q)
  .rename_i z;rw[if_neg z]at q;show aa (f7 (ag (by simpa [l_] using q)))
inductive rM (prog:Program) (w:World) (hp:Heap) (u:Nat):List Value->List Value->Bool->Prop
 | nil:rM prog w hp u [] [] true
 | left {y:Value} {ys:List Value}:rM prog w hp u [] (y::ys) false
 | right {x:Value} {xs:List Value}:rM prog w hp u (x::xs) [] false
 | cons {x y:Value} {xs ys:List Value} {b c:Bool} (hv:∀(A:Around) (E:AB) (s:Shared) (Q:Bool->Shared->Prop),A.units<=u->s.heap=hp->Q b s->wpAny (model prog w) A (eqBool x y) Q E s)
   (t:b=true->rM prog w hp u xs ys c) (f:b=false->c=false):rM prog w hp u (x::xs) (y::ys) c
def aaZ {A:Around}{E:AB}{s:Shared}{a b:Addr}{J ob:Obj}{xs ys:Array Value}{na nb:Nat}{c:Bool}{R:Fin->Shared->Prop}(ha:s.heap.get? a=some J)(F:J.data=.seq xs na)(G:s.heap.get? b=some ob)(B:ob.cls=.type "tuple")(D:ob.data=.seq ys nb)(M:rM prog w s.heap A.units xs.toList ys.toList c)(q:R (.done (.ret (.bool c))) s):wpAny (model prog w) A (Builtin.«tuple.__eq__» ⟨[.ref a,.ref b],[]⟩) R E s:=by
 let j:s.TypeIs (.ref b) "tuple":=⟨ob,G,B⟩
 show wpAny _ _ (isInstance (Value.ref b) (.type "tuple") >>= _) _ _ s;calc aa (ic j tJ ?_);simp only[eR,a6,if_false];calc aa (mr ha F (aa (mr G D (aa ?_))));refine kR _ (λrest r s1=>r.1=none/\s1=s/\∃us vs,rest=List.zip us vs/\rM prog w s.heap A.units us vs c/\(us.length==vs.length)=(xs.size==ys.size)) _ ?_ ?_ _ _ ⟨rQ,rQ,_,_,rQ,M,v0⟩
 .rintro⟨u,v⟩ rest r s1 ⟨d,rfl,us,vs,hz,hi,g⟩;cases hi with
  | nil=>simp at hz
  | left=>simp at hz
  | right=>simp at hz
  | @cons x y xs1 ys1 b1 _ hv ht hf=>
   simp only[List.zip_cons_cons,List.cons.injEq,Prod.mk.injEq]at hz;obtain⟨⟨rfl,rfl⟩,rfl⟩:=hz;calc aa (hv _ _ _ _ (af _) rQ ?_);cases b1 with| true=>simp only[eR,a6,if_false];show ag ⟨rQ,rQ,xs1,ys1,rQ,ht rQ,by simpa using g⟩| false=>simp only[i8,if_true];rw[hf rfl]at q;show aa (ag (ag (ag q)))
 .rintro⟨r1,N⟩ s1 ⟨d,rfl,us,vs,hz,hi,g⟩;let d:r1=none:=d;subst d;let L:(xs.size==ys.size)=c:=by
   rw[<-g];cases hi with| nil=>rfl| left=>simp| right=>simp| cons=>simp at hz
  calc ag ?_;show R (.done (.ret (.bool (xs.size==ys.size)))) s1;rw[L];show q
def adE {A:Around}{E:AB}{s:Shared}{a b:Addr}{j ob:Obj}{xs ys:Array Value}{na nb:Nat}{c:Bool}{Q:Bool->Shared->Prop}(N:A.units<cLine)(ha:s.heap.get? a=some j)(D:j.cls=.type "tuple")(L:j.data=.seq xs na)(M:s.heap.get? b=some ob)(g:ob.cls=.type "tuple")(G:ob.data=.seq ys nb)(O:rM prog w s.heap (A.units+1) xs.toList ys.toList c)(J:a=b->c=true)(q:Q c s):wpAny (model prog w) A (eqBool (.ref a) (.ref b)) Q E s:=by
 let d:s.TypeIs (.ref a) "tuple":=⟨j,ha,D⟩
 let B:s.TypeIs (.ref b) "tuple":=⟨ob,M,g⟩
 unfold eqBool
 try with_reducible refine eD ?_
 by_cases z:(Value.ref a==Value.ref b)=true
 .rw[if_pos z];let e:a=b:=by have:=eq_of_beq z;injection this
  rw[J e]at q;show aa (f7 (ag q))
 .rw[if_neg z];show aa (wpAny_richCompare_same_room (op:=.Eq) d B F.slot_tuple_eq (c_ F.slot_tuple_eq d F.entry_tuple_eq (aaZ ha L M g G O ⟨_,rQ,(λe=>nomatch e),ef q⟩) (F.args_tuple_eq_2 _ _)) N)
def U8 {A:Around}{E:AB}{s:Shared}{a:Addr}{o:Obj}{its:Array Value}{n d:Nat}{Q:Bool->Shared->Prop}(B:s.heap.get? a=some o)(J:o.cls=.type "tuple")(hd:o.data=.seq its n)(M:∀v∈its.toList,∀(G:Bool->Shared->Prop) (L:AB),G true s->wpAny (model prog w) A (eqIsQuiet d v) G L s)(q:Q true s):wpAny (model prog w) A (eqIsQuiet (d+1) (.ref a)) Q E s:=by
 let D:s.TypeIs (.ref a) "tuple":=⟨o,B,J⟩
 unfold eqIsQuiet;calc aa (ml D F.slot_tuple_eq.lookup ?_);show wpAny _ _ (isInstance (Value.ref a) (.type "tuple") >>= _) _ _ s;calc aa (ic D tJ ?_);simp only[eR,a6,if_false];calc aa (fE B hd (aa ?_));show wpAny _ _ (forIn its _ _) _ _ s;rw[<-oI];refine kR _ (λrest r s1=>r.1=none/\s1=s/\∀v∈rest,v∈its.toList) _ ?_ ?_ _ _ ⟨rQ,rQ,λv hv=>hv⟩
 .intro v rest r s1 z;let⟨j,rfl,g⟩:=z;calc aa (M v (g v ax) _ _ ?_);simp only[eR,a6,if_false];show ag ⟨rQ,rQ,λx hx=>g x (ay _ hx)⟩
 .rintro⟨r1,N⟩ s1 ⟨j,rfl,_⟩;let j:r1=none:=j;subst j;show ag q
end
structure fu (prog:Program)(w:World)(κ:Type) [DecidableEq κ] where
 is:Heap->κ->Value->Prop
 hash:κ->Int
 draws:κ->Nat
 deep:Nat
 inj:∀{h:Heap} {v:Value} {x y:κ},is h x v->is h y v->x=y
 keeps:∀{h h':Heap} {k:κ} {v:Value} {d:Addr} {o:Obj} {es ep},is h k v->h.get? d=some o->o.data=.dict es ep->Heap.SameBut d h h'->is h' k v
 pyHash:∀{A:Around} {E:AB} {s:Shared} {k:κ} {v:Value} {Q:Int->Shared->Prop},A.units+deep<cLine+1->is s.heap k v->Q (hash k) {s with toks:=s.toks+draws k}->wpAny (model prog w) A (PySem.pyHash v) Q E s
 eqBool:∀{A:Around} {E:AB} {s:Shared} {x y:κ} {u v:Value} {Q:Bool->Shared->Prop},A.units+deep<cLine+1->is s.heap x u->is s.heap y v->Q (decide (x=y)) s->wpAny (model prog w) A (PySem.eqBool u v) Q E s
 quiet:∀{A:Around} {E:AB} {s:Shared} {k:κ} {v:Value} {Q:Bool->Shared->Prop} (n:Nat),deep<=n->is s.heap k v->Q true s->wpAny (model prog w) A (eqIsQuiet n v) Q E s
noncomputable def tu {prog:Program}{w:World}{κ:Type} [DecidableEq κ] (knd:KeyKind prog w κ):fu prog w κ where
 is:=λ_ k v=>knd.is k v=true
 hash:=knd.hash
 draws:=λ_=>1
 deep:=0
 inj:=λh1 d=>knd.inj _ _ _ h1 d
 keeps:=λh _ _ _=>h
 pyHash:=λ_ h q=>knd.pyHash h q
 eqBool:=λ_ h1 d q=>knd.eqBool h1 d q
 quiet:=λn _ h q=>by rw[PySem.eqIsQuiet_byValue n (knd.byValue _ _ h)];show ag q
section
variable {prog:Program}{w:World}{κ κ1 κ2:Type}[DecidableEq κ][DecidableEq κ1][DecidableEq κ2]
def U9 {h h':Heap}{a d:Addr}{o j:Obj}{its:Array Value}{n:Nat}{es:Array DictEntry}{ep:Nat}(h1:h.get? a=some j)(B:j.data=.seq its n)(q:h.get? d=some o)(hd:o.data=.dict es ep)(hs:Heap.SameBut d h h'):h'.get? a=some j:=by
 let g:a≠d:=by rintro rfl;rw[h1]at q;cases q;rw[B]at hd;cases hd
 show(hs.2 a g).trans h1
def jy (vk:fu prog w κ)(h:Heap):List κ->List Value->Prop
 | [],[]=>True
 | k::ks,v::vs=>vk.is h k v/\jy vk h ks vs
 | _,_=>False
theorem jy.inj {vk:fu prog w κ}{h:Heap}:∀{x y:List κ} {vs:List Value},jy vk h x vs->jy vk h y vs->x=y
 | [],[],[],_,_=>rfl
 | [],[],_::_,a,_=>a.elim
 | [],_::_,[],_,b=>b.elim
 | [],_::_,_::_,a,_=>a.elim
 | _::_,[],[],a,_=>a.elim
 | _::_,[],_::_,_,b=>b.elim
 | _::_,_::_,[],a,_=>a.elim
 | _::_,_::_,_::_,a,b=>by rw[vk.inj a.1 b.1,jy.inj a.2 b.2]
theorem jy.keeps {vk:fu prog w κ}{h h':Heap}{d:Addr}{o:Obj}{es:Array DictEntry}{ep:Nat}(g:h.get? d=some o)(hd:o.data=.dict es ep)(hs:Heap.SameBut d h h'):∀{x:List κ} {vs:List Value},jy vk h x vs->jy vk h' x vs
 | [],[],_=>trivial
 | _::_,_::_,a=>⟨vk.keeps a.1 g hd hs,jy.keeps g hd hs a.2⟩
theorem jy.hashes {vk:fu prog w κ}{h:Heap}{u:Nat}(d:u+vk.deep<cLine+1):∀{x:List κ} {vs:List Value},jy vk h x vs->uM prog w h u vs (x.map vk.hash) (x.map vk.draws).sum
 | [],[],_=>.nil
 | _::_,_::_,a=>by rw[bX,bX,List.sum_cons];show .cons (λj g s' B ha hs q=>vk.pyHash vT (by rw[hs];show a.1) q) (jy.hashes d a.2)
theorem jy.eqs {vk:fu prog w κ}{h:Heap}{u:Nat}(g:u+vk.deep<cLine+1):∀{x y:List κ} {us vs:List Value},jy vk h x us->jy vk h y vs->rM prog w h u us vs (decide (x=y))
 | [],[],[],[],_,_=>.nil
 | [],_::_,[],_::_,_,_=>by simpa using rM.left
 | _::_,[],_::_,[],_,_=>by simpa using rM.right
 | p::x,q::y,_::_,_::_,a,b=>by
  refine .cons (b:=decide (p=q)) (λB j s' D ha hs d=>vk.eqBool vT (by rw[hs];show a.1) (by rw[hs];show b.1) d) (λe=>?_) λe=>?_
  .have:=jy.eqs g a.2 b.2;let e:=nv e
   rwa [show decide (p::x=q::y)=decide (x=y) from by simp[e]]
  .let e:=oP e;simp[e]
theorem jy.mem {vk:fu prog w κ}{h:Heap}:∀{x:List κ} {vs:List Value} {v:Value},jy vk h x vs->v∈vs->∃k,vk.is h k v
 | [],[],_,_,hv=>by simp at hv
 | [],_::_,_,a,_=>a.elim
 | _::_,[],_,a,_=>a.elim
 | _::_,_::_,v,a,hv=>by
  rcases a_.mp hv with e|e;.show⟨_,by rw[e];show a.1⟩
  .show jy.mem a.2 e
noncomputable def tupK (vk:fu prog w κ):fu prog w (List κ) where
 is:=λh ks v=>∃(a:Addr) (o:Obj) (n:Nat) (its:Array Value),v=.ref a/\h.get? a=some o/\o.cls=.type "tuple"/\o.data=.seq its n/\jy vk h ks its.toList
 hash:=λks=>reduceHash (Builtin.Tuple.tupleHashOf (ks.map vk.hash))
 draws:=λks=>(ks.map vk.draws).sum+1
 deep:=vk.deep+1
 inj:=by rintro h v x y ⟨a,o,n,its,rfl,h1,_,B,D⟩ ⟨a',o',Y,its',e,g,_,j,F⟩;cases e;rw[h1]at g;cases g;rw[B]at j;injection j with e1 _;subst e1;show D.inj F
 keeps:=by intro h h' k v d o es ep z N hd hs;let⟨a,J,n,its,rfl,h1,G,B,D⟩:=z;show⟨a,J,n,its,rQ,U9 h1 B N hd hs,G,B,D.keeps N hd hs⟩
 pyHash:=by intro A E s k v Q O z q;let⟨a,J,n,its,rfl,h1,G,B,D⟩:=z;show X8 vT h1 G B (D.hashes vT) q
 eqBool:=by rintro A E s x y u v Q O ⟨a,J,n,its,rfl,h1,G,B,D⟩ ⟨a',Z,Y,its',rfl,g,M,j,F⟩ q;calc adE (c:=decide (x=y)) vT h1 G B g M j (D.eqs vT F) ?_ q;rintro rfl;rw[h1]at g;cases g;rw[B]at j;injection j with e1 _;subst e1;show aw (D.inj F)
 quiet:=by
  intro A E s k v Q n hn z q;let⟨a,J,n1,its,rfl,h1,G,B,D⟩:=z;obtain⟨m,rfl⟩:∃m,n=m+1:=⟨n-1,vT⟩
  calc U8 h1 G B (λv hv Q' E' q'=>?_) q;let⟨k',L⟩:=D.mem hv;show vk.quiet m (dq hn) L q'
end
def S5:Nat->Nat
 | 0=>0
 | d+1=>5*S5 d+1
theorem Dd:∀d,5^d=4*S5 d+1
 | 0=>rfl
 | d+1=>by rw[iO,Dd d,S5];lia
theorem Ko (a:Nat):∀b,S5 (a+b)=5^a*S5 b+S5 a
 | 0=>by rw[S5,Nat.mul_zero,gt];rfl
 | b+1=>by
  show 5*S5 (a+b)+1=5^a*(5*S5 b+1)+S5 a;let h:=Dd a;rw[Ko a b,vz,vz,vE,h];let e:5*((4*S5 a+1)*S5 b)=(4*S5 a+1)*(5*S5 b):=by rw[<-kr,fF 5 (4*S5 a+1),kr]
  lia
def adF (e:Nat):S5 (e+e)=S5 e*(4*S5 e+2):=by
 rw[Ko,Dd];have:(4*S5 e+1)*S5 e+S5 e=S5 e*(4*S5 e+1)+S5 e:=by rw[fF]
 rw[this,<-Nat.mul_succ]
theorem U_:∀d,S5 d%2=d%2
 | 0=>rfl
 | d+1=>by have:=U_ d;show (5*S5 d+1)%2=(d+1)%2;lia
def X_ {k x y:Nat}(h:2^(k+1) ∣ x*(4*y+2)):2^k ∣ x*(2*y+1):=by
 let⟨c,d⟩:=h;calc⟨c,?_⟩;let e:x*(4*y+2)=2*(x*(2*y+1)):=by rw[show 4*y+2=2*(2*y+1) by lia,<-kr,fF x 2,kr]
 rw[e,iO,fF (2^k) 2,kr]at d;show Nat.eq_of_mul_eq_mul_left v_ d
theorem Ft:∀{k x y:Nat},2^k ∣ x*(2*y+1)->2^k ∣ x
 | 0,x,_,_=>by rw[vi];show Nat.one_dvd x
 | k+1,x,y,h=>by
  let g:2 ∣ x*(2*y+1):=Nat.dvd_trans ⟨2^k,by rw[iO,fF]⟩ h;let hx:x%2=0:=by have:=Nat.mod_eq_zero_of_dvd g;rw[Nat.mul_mod]at this;let d:(2*y+1)%2=1:=v0;rw[d,vE,Nat.mod_mod]at this;show this
  obtain⟨z,rfl⟩:∃z,x=2*z:=⟨x/2,vT⟩
  rw[iO,fF (2^k) 2,kr]at h;have:=Nat.dvd_of_mul_dvd_mul_left v_ h;rw[iO,fF (2^k) 2];show Nat.mul_dvd_mul_left 2 (Ft this)
theorem Va:∀{k d:Nat},2^k ∣ S5 d->2^k ∣ d
 | 0,d,_=>by rw[vi];show Nat.one_dvd d
 | k+1,d,h=>by
  let g:2 ∣ S5 d:=Nat.dvd_trans ⟨2^k,by rw[iO,fF]⟩ h;let hd:d%2=0:=by rw[<-U_ d];show Nat.mod_eq_zero_of_dvd g
  obtain⟨e,rfl⟩:∃e,d=e+e:=⟨d/2,vT⟩
  rw[adF]at h;have:=Va (Ft (X_ h));rw[iO,fF (2^k) 2,show e+e=2*e by lia];show Nat.mul_dvd_mul_left 2 this
def qx (m:Nat):Nat->Nat->Nat
 | 0,x=>x
 | n+1,x=>qx m n ((x*5+1)%m)
theorem Pr (m:Nat):∀n x,qx m n x%m=(5^n*x+S5 n)%m
 | 0,x=>by rw[qx,vi,Nat.one_mul];rfl
 | n+1,x=>by
  rw[qx,Pr m n];let e1:5^(n+1)*x+S5 (n+1)=5^n*(x*5+1)+S5 n:=by rw[Ko n 1,vz,vE,iO,fF x 5,kr];show _+(5^n*1+S5 n)=_;lia
  rw[e1,Nat.add_mod,Nat.mul_mod,Nat.mod_mod,<-Nat.mul_mod,<-Nat.add_mod]
theorem Kp {m:Nat}(hm:0<m):∀n x,x<m->qx m n x<m
 | 0,_,h=>h
 | n+1,_,_=>Kp hm n _ (nE _ hm)
theorem Pu (m:Nat):∀a b x,qx m (a+b) x=qx m b (qx m a x)
 | 0,b,x=>by rw[gt];rfl
 | a+1,b,x=>by rw[Nat.succ_add];show Pu m a b _
def Yb {k d x:Nat}(hx:x<2^k)(h:qx (2^k) d x=x):2^k ∣ d:=by
 let hm:=Pr (2^k) d x;rw[h,Dd]at hm;let e:(4*S5 d+1)*x+S5 d=x+S5 d*(2*(2*x)+1):=by rw[Nat.add_mul,Nat.one_mul,vz,vE,fF 4 (S5 d),kr,show 2*(2*x)=4*x by lia];lia
 rw[e]at hm;let hd:2^k ∣ S5 d*(2*(2*x)+1):=by have:=Nat.sub_mod_eq_zero_of_mod_eq hm.symm;rw[gy]at this;show Nat.dvd_of_mod_eq_zero this
 show Va (Ft hd)
def aa0 {k x a b:Nat}(hx:x<2^k)(ha:a<2^k)(j:b<2^k)(h:qx (2^k) a x=qx (2^k) b x):a=b:=by
 let g:∀a b,a<=b->b<2^k->qx (2^k) a x=qx (2^k) b x->a=b:=by intro a b q j h;let⟨d,rfl⟩:=Nat.exists_eq_add_of_le q;rw[Pu]at h;let B:=Kp (Nat.two_pow_pos k) a x hx;have:=Yb B h.symm;let hd:d=0:=Nat.eq_zero_of_dvd_of_lt this (jI (Nat.le_add_left _ _) j);lia
 rcases Nat.le_total a b with z|z;.show g a b z j h
 .show(g b a z ha h.symm).symm
def adG {l:List Nat}{M:Nat}(nd:l.Nodup)(g:l.length=M)(hs:∀x∈l,x<M){y:Nat}(d:y<M):y∈l:=by
 apply ge;intro hn;have:=(fT.mpr ⟨hn,nd⟩).length_le_of_subset (l₂:=List.range M) λx hx=>by
  rcases a_.mp hx with e|e;.rw[e];show bv.mpr d
  .show bv.mpr (hs x e)
 rw[bu,dm]at this;lia
def aa1 {k x y:Nat}(hx:x<2^k)(d:y<2^k):∃n,n<2^k/\qx (2^k) n x=y:=by
 let nd:((List.range (2^k)).map λn=>qx (2^k) n x).Nodup:=fk.mpr (re.imp_of_mem λ{a b} ha hb hne z=>hne (aa0 hx (bv.mp ha) (bv.mp hb) z));have:=adG nd (by rw[ab,dm]) (λz hz=>by let⟨n,_,rfl⟩:=aT.mp hz;show Kp (Nat.two_pow_pos k) n x hx) d
 let⟨n,hn,e⟩:=aT.mp this;show⟨n,bv.mp hn,e⟩
def iK (mask:Nat):Nat->Nat×Nat->Nat×Nat
 | 0,p=>p
 | n+1,p=>iK mask n (SetTable.leap mask p.1 p.2)
theorem Hq (mask:Nat):∀a b p,iK mask (a+b) p=iK mask b (iK mask a p)
 | 0,b,p=>by rw[gt];rfl
 | a+1,b,p=>by rw[Nat.succ_add];show Hq mask a b _
theorem Df (mask:Nat):∀n p,(iK mask n p).2=p.2/32^n
 | 0,p=>by rw[iK,vi,Nat.div_one]
 | n+1,p=>by rw[iK,Df mask n];show p.2/32/32^n=p.2/32^(n+1);rw[Nat.div_div_eq_div_mul,iO,fF 32]
theorem Kq {mask:Nat}:∀n p,p.1<=mask->(iK mask n p).1<=mask
 | 0,_,h=>h
 | n+1,p,_=>Kq n _ (dq (nE _ (iE mask)))
theorem Dg (mask:Nat):∀n i,iK mask n (i,0)=(qx (mask+1) n i,0)
 | 0,i=>rfl
 | n+1,i=>by
  have:SetTable.leap mask i 0=((i*5+1)%(mask+1),0):=by unfold SetTable.leap;simp
  rw[iK,this,Dg mask n];rfl
def Hr {k mask i p y:Nat}(hm:mask+1=2^k)(hi:i<=mask)(hp:p<2^64)(g:y<=mask):∃n,n<=mask+13/\(iK mask n (i,p)).1=y:=by
 let d:(iK mask 13 (i,p)).2=0:=by rw[Df];show Nat.div_eq_of_lt (bo hp v_)
 let j:=Kq (mask:=mask) 13 (i,p) hi;let⟨n,hn,e⟩:=aa1 (k:=k) (x:=(iK mask 13 (i,p)).1) (y:=y) vT vT;calc⟨13+n,vT,?_⟩;rw[Hq,show iK mask 13 (i,p)=((iK mask 13 (i,p)).1,0) from qS rQ d,Dg,hm];show e
def stp (t:SetTable):Nat->SetTable.Probe->SetTable.Probe
 | 0,p=>p
 | s+1,p=>stp t s (t.advance p)
theorem uN (t:SetTable):∀a b p,stp t (a+b) p=stp t b (stp t a p)
 | 0,b,p=>by rw[gt];rfl
 | a+1,b,p=>by rw[Nat.succ_add];show uN t a b _
noncomputable def lG (t:SetTable)(q:Nat×Nat)(d:Option Nat):SetTable.Probe:={j:=q.1,more:=SetTable.runEnd t.mask q.1-q.1,i:=q.1,perturb:=q.2,dummy:=d}
def adH (mask i:Nat):SetTable.runEnd mask i-i<=9:=by unfold SetTable.runEnd;split <;> simp
theorem Fv (t:SetTable):∀(m:Nat) (p:SetTable.Probe),p.more=m->stp t (m+1) p=lG t (SetTable.leap t.mask p.i p.perturb) p.dummy
 | 0,p,h=>by show t.advance p=_;unfold SetTable.advance lG;rw[if_neg vT]
 | m+1,p,h=>by
  show stp t (m+1) (t.advance p)=_;let e:t.advance p={p with j:=p.j+1,more:=p.more-1}:=by unfold SetTable.advance;rw[if_pos vT]
  rw[e];show Fv t m _ (by show p.more-1=m;show f8 vT)
theorem Hs (t:SetTable)(d:Option Nat):∀(n:Nat) (q:Nat×Nat),∃s,s<=10*n/\stp t s (lG t q d)=lG t (iK t.mask n q) d
 | 0,q=>⟨0,af _,rQ⟩
 | n+1,q=>by let h1:=Fv t _ (lG t q d) rfl;let⟨s,hs,e⟩:=Hs t d n (SetTable.leap t.mask q.1 q.2);let g:(lG t q d).more<=9:=adH t.mask q.1;calc⟨(lG t q d).more+1+s,vT,?_⟩;rw[uN,h1];show e
def Vb (t:SetTable)(h:Int):t.probeStart h=lG t (SetTable.bits h%(t.mask+1),SetTable.bits h) none:=rfl
def Px (h:Int):SetTable.bits h<2^64:=by
 unfold SetTable.bits;let h1:=eB h (show (2^64:Int)≠0 by decide);let g:=de h (show (0:Int)<2^64 by decide);let j:=Int.toNat_of_nonneg h1;let d:(((2:Nat)^64:Nat):Int)=(2^64:Int):=by decide
 simp_all
def aa2 {t:SetTable}{k:Nat}(hm:t.mask+1=2^k)(h:Int){y:Nat}(d:y<=t.mask):∃s,s<=10*(t.mask+13)/\(stp t s (t.probeStart h)).j=y:=by let⟨n,hn,e⟩:=Hr (i:=SetTable.bits h%(t.mask+1)) (p:=SetTable.bits h) hm (dq (nE _ (iE _))) (Px h) d;let⟨s,hs,es⟩:=Hs t none n (SetTable.bits h%(t.mask+1),SetTable.bits h);calc⟨s,vT,?_⟩;rw[Vb,es];show e
def Hu (t:SetTable)(p:SetTable.Probe):(t.advance p).dummy=p.dummy:=by unfold SetTable.advance;split <;> rfl
theorem Py (t : SetTable)(hs : Nat -> Int)(h : Int)(hd : ∀j, t.slot j ≠ .dummy) : ∀(d : Nat) (p : SetTable.Probe), p.dummy = none -> (∃s, s<d /\ t.slot (stp t s p).j = .empty) ->
    ∃s, s<d /\ (∀s', s'<s -> ∃i, t.slot (stp t s' p).j = .live i /\ hs i ≠ h) /\
      ((t.slot (stp t s p).j = .empty /\ SetTable.probe.go t hs h d p = some (.empty (stp t s p).j none)) \/
       ∃i, t.slot (stp t s p).j = .live i /\ hs i = h /\ SetTable.probe.go t hs h d p = some (.candidate (stp t s p).j i (stp t (s+1) p)))
  | 0, _, _, ⟨_, h, _⟩ => absurd h (gV _)
  | d+1, p, hp, ⟨s, hs1, hs2⟩ => by
    cases e : t.slot p.j with
    | empty => show⟨0, iE _, λs' z => absurd z (gV _), .inl ⟨e, by unfold SetTable.probe.go; rw[e, hp]; rfl⟩⟩
    | dummy => show absurd e (hd _)
    | live i =>
      by_cases hh : hs i = h
      · refine⟨0, iE _, λs' z => absurd z (gV _), .inr ⟨i, e, hh, ?_⟩⟩
        unfold SetTable.probe.go;rw[e];simp only[hh, beq_self_eq_true, if_true];rfl
      · have hne : s ≠ 0 := by
          rintro rfl;have : t.slot p.j = .empty := hs2;rw[e]at this; cases this
        obtain⟨s1, rfl⟩ : ∃s1, s = s1+1 := ⟨s-1, by lia⟩
        obtain⟨r, B, g, q⟩ := Py t hs h hd d (t.advance p) (by rw[Hu]; show hp) ⟨s1, dq hs1, hs2⟩;have eg : SetTable.probe.go t hs h (d+1) p = SetTable.probe.go t hs h d (t.advance p) := by
          conv => lhs; unfold SetTable.probe.go
          rw[e];simp[hh]
        refine⟨r+1, qV B, λs' z => ?_, ?_⟩
        · cases s' with| zero => show⟨i, e, hh⟩| succ s' => show g s' vT
        · rw[eg]
          show q
def wW (xs:List Nat):Prop:=xs.Pairwise (λa b=>a<b)
def wW.at_ {xs:List Nat}(h:wW xs){i j a b:Nat}(d:i<j)(ha:xs[i]?=some a)(g:xs[j]?=some b):a<b:=by let⟨h1,e1⟩:=ai.mp ha;let⟨q,e2⟩:=ai.mp g;have:=ip.mp h i j h1 q d;rw[e1,e2]at this;show this
structure Blw (xs:List Nat)(j k:Nat):Prop where
 le:k<=xs.length
 lo:∀(i a:Nat),i<k->xs[i]?=some a->a<j
 hi:∀(i a:Nat),k<=i->xs[i]?=some a->j<=a
theorem Bf {xs:Array Nat}{j:Nat}(hs:wW xs.toList):∀(d lo hi:Nat),lo<=hi->hi<=xs.size->hi-lo<=d->(∀(i a:Nat),i<lo->xs.toList[i]?=some a->a<j)->(∀(i a:Nat),hi<=i->xs.toList[i]?=some a->j<=a)->Blw xs.toList j (SetTable.below.go xs j d lo hi)
 | 0,lo,hi,h1,h2,h3,h4,h5=>by
  have:lo=hi:=by rw[fc]at *;lia
  subst this;unfold SetTable.below.go;show⟨by simpa using h2,h4,h5⟩
 | d+1,lo,hi,h1,h2,h3,h4,h5=>by
  unfold SetTable.below.go;by_cases z:lo<hi
  .rw[if_pos z];let hm:(lo+hi)/2<xs.size:=nK vT;let q:xs.toList[(lo+hi)/2]?=some (xs.getD ((lo+hi)/2) j):=by
    rw[ck,bS hm,fe,bS hm];rfl
   by_cases c:xs.getD ((lo+hi)/2) j<j
   .simp only[c,if_true];calc Bf hs d _ _ (nK vT) h2 (by simp_all;lia) (λi a g ha=>?_) h5;rcases ee i ((lo+hi)/2) with y|y;.have:=hs.at_ y ha q;show jn this c
    .have:i=(lo+hi)/2:=by lia
     rw[this,q]at ha;cases ha;show c
   .simp only[c,if_false];calc Bf hs d _ _ vT (aI hm) (by simp_all;lia) h4 (λi a g ha=>?_);rcases ee ((lo+hi)/2) i with y|y;.have:=hs.at_ y q ha;lia
    .have:i=(lo+hi)/2:=vx y g;rw[this,q]at ha;cases ha;show kQ c
  .rw[if_neg z];have:lo=hi:=by lia
   subst this;show⟨by simpa using h2,h4,h5⟩
def Bg {xs:Array Nat}(hs:wW xs.toList)(j:Nat):Blw xs.toList j (SetTable.below xs j):=
 Bf hs xs.size 0 xs.size (cn _) (af _) vT (λi a h=>absurd h (gV _)) (λi a h ha=>by have:=(ai.mp ha).1;rw[bn]at this;lia)
def jz {t:SetTable}(hs:wW t.place.toList){j i:Nat}:t.slot j=.live i↔t.place.toList[i]?=some j:=by
 let B:=Bg hs j;constructor
 .intro h;unfold SetTable.slot at h;dsimp only at h;split at h
  .rename_i e;cases h;rw[ck];show eq_of_beq e
  .split at h <;> cases h
 .intro h;let hi:SetTable.below t.place j=i:=by
   rcases p_ (SetTable.below t.place j) i with z|z|z
   .let⟨d,_⟩:=ai.mp h;obtain⟨a,ha⟩:∃a,t.place.toList[SetTable.below t.place j]?=some a:=⟨_,ah (jn z d)⟩
    let h1:=B.hi _ a (af _) ha;let g:=hs.at_ z ha h;lia
   .show z
   .have:=B.lo i j z h;lia
  unfold SetTable.slot;dsimp only;rw[hi,<-ck,h];simp
def vN {t:SetTable}(hs:wW t.place.toList)(hd:t.dummies=#[]){j:Nat}:t.slot j=.empty↔j∉t.place.toList:=by
 constructor
 .intro h hm;let⟨i,hi⟩:=gx hm;rw[(jz hs).mpr hi]at h;cases h
 .intro h;cases e:t.slot j with
  | empty=>rfl
  | live i=>show absurd (aE ((jz hs).mp e)) h
  | dummy=>
   exfalso;unfold SetTable.slot at e;dsimp only at e;split at e;.cases e
   .split at e
    .rename_i z;unfold SetTable.has at z;rw[hd]at z;simp at z
    .cases e
def RG {t:SetTable}(hs:wW t.place.toList)(hd:t.dummies=#[])(j:Nat):t.slot j≠.dummy:=by
 intro e;by_cases h:j∈t.place.toList
 .let⟨i,hi⟩:=gx h;rw[(jz hs).mpr hi]at e;cases e
 .rw[(vN hs hd).mpr h]at e;cases e
def Yc {t t':SetTable}(h:t.mask=t'.mask)(p:SetTable.Probe):t.advance p=t'.advance p:=by unfold SetTable.advance;rw[h]
theorem Kr {t t':SetTable}(h:t.mask=t'.mask):∀s p,stp t s p=stp t' s p
 | 0,_=>rfl
 | s+1,p=>by rw[stp,stp,Yc h,Kr h s]
def RJ {t t':SetTable}(h:t.mask=t'.mask)(x:Int):t.probeStart x=t'.probeStart x:=by unfold SetTable.probeStart;rw[h]
def eX (t:SetTable)(h:Int)(s:Nat):Nat:=(stp t s (t.probeStart h)).j
def Dh {t t':SetTable}(e:t.mask=t'.mask)(h:Int)(s:Nat):eX t h s=eX t' h s:=by unfold eX;rw[RJ e,Kr e]
def Way (t:SetTable)(pl:List Nat)(h:Int)(j:Nat):Prop:=∃s,eX t h s=j/\∀s',s'<s->eX t h s'∈pl
structure jo (t:SetTable)(hs:List Int):Prop where
 wX:wW t.place.toList
 len:t.place.toList.length=hs.length
 Ks:t.dummies=#[]
 two:∃k,3<=k/\k<=13/\t.mask+1=2^k
 le:∀j∈t.place.toList,j<=t.mask
 few:hs.length<=t.mask
 way:∀(i j:Nat) (h:Int),hs[i]?=some h->t.place.toList[i]?=some j->Way t t.place.toList h j
def jN {α:Type}(xs:Array α)(p:Nat)(x:α):(SetTable.insertAt xs p x).toList=xs.toList.take p++x::xs.toList.drop p:=by unfold SetTable.insertAt;simp[sn,n9];show bE v0
def kh {α:Type}{l:List α}{p:Nat}{x:α}(hp:p<=l.length){i:Nat}{y:α}(h:(l.take p++x::l.drop p)[i]?=some y):(i<p/\l[i]?=some y)\/(i=p/\y=x)\/(p<i/\l[i-1]?=some y):=by
 let d:(l.take p).length=p:=by rw[bq];lia
 rcases p_ i p with z|z|z
 .rw[eM (by simp[*]),List.getElem?_take,if_pos z]at h;show .inl ⟨z,h⟩
 .rw[dE (by simp[*]),d,z,jS]at h;show .inr (.inl ⟨z,by simpa using h.symm⟩)
 .rw[dE vT,d,show i-p=(i-p-1)+1 by lia,pM,oC,show p+(i-p-1)=i-1 by lia]at h;show .inr (.inr ⟨z,h⟩)
def aa3 {xs:List Nat}{j p:Nat}(hs:wW xs)(B:Blw xs j p)(hn:j∉xs):wW (xs.take p++j::xs.drop p):=by
 unfold wW;rw[fv,io];refine⟨hs.sublist (pT p xs),⟨λa ha=>?_,hs.sublist (gN p xs)⟩,λa ha b d=>?_⟩
 .let⟨i,hi⟩:=gx ha;rw[oC]at hi;let h1:=B.hi _ a vT hi;let g:a≠j:=λz=>hn (by rw[<-z];show aE hi);lia
 .let⟨i,hi⟩:=gx ha;rw[List.getElem?_take]at hi;split at hi
  .rename_i z;let h1:=B.lo i a z hi;rcases a_.mp d with e|e;.simp_all
   .let⟨m,hm⟩:=gx e;rw[oC]at hm;have:=B.hi _ b vT hm;show bo h1 this
  .cases hi
def Way.mono {t t':SetTable}{pl d:List Nat}{h:Int}{j:Nat}(w:Way t pl h j)(e:t.mask=t'.mask)(hs:∀x∈pl,x∈d):Way t' d h j:=by let⟨s,h1,g⟩:=w;show⟨s,by rw[<-Dh e];show h1,λs' z=>by rw[<-Dh e];show hs _ (g s' z)⟩
def Vc (t:SetTable)(j:Nat):(t.put j).1.place=SetTable.insertAt t.place (SetTable.below t.place j) j:=rfl
def jo.put {t:SetTable}{hs:List Int}(I:jo t hs){j:Nat}{h:Int}(G:j<=t.mask)(hn:j∉t.place.toList)(w:Way t t.place.toList h j)(J:hs.length+1<=t.mask):jo (t.put j).1 (hs.take (SetTable.below t.place j)++h::hs.drop (SetTable.below t.place j)):=by
 let B:=Bg I.wX j;let D:(t.put j).1.place.toList=t.place.toList.take (SetTable.below t.place j)++j::t.place.toList.drop (SetTable.below t.place j):=by rw[Vc,jN]
 let mem:∀x∈t.place.toList,x∈(t.put j).1.place.toList:=λx hx=>by
  rw[D];rw[<-cw (SetTable.below t.place j) t.place.toList]at hx;rcases a9.mp hx with z|z;.show kC _ z
  .show cK _ (ay _ z)
 let q:=B.le;let O:=I.len;refine⟨by rw[D];show aa3 I.wX B hn,?_,?_,I.two,λx hx=>?_,?_,λi y g h1 F=>?_⟩
 .rw[D];simp only[ar,bq,bu,cz];simp_all
 .show (if SetTable.has t.dummies j=true then _ else t.dummies)=#[];rw[I.Ks];simp[SetTable.has]
 .rw[D]at hx;rcases a9.mp hx with z|z;.show I.le x (gv z)
  .rcases a_.mp z with z|z;.rw[z];show G
   .show I.le x (iF z)
 .simp only[ar,bq,bu,cz];show _<=t.mask;simp_all +arith
 .rw[D]at F;rcases kh (by simp_all) h1 with⟨a,b⟩|⟨a,b⟩|⟨a,b⟩
  .rcases kh q F with⟨c,d⟩|⟨c,d⟩|⟨c,d⟩;.show(I.way i y g b d).mono rQ mem
   .lia
   .lia
  .rcases kh q F with⟨c,d⟩|⟨c,d⟩|⟨c,d⟩;.lia
   .rw[b,d];show w.mono rQ mem
   .lia
  .rcases kh q F with⟨c,d⟩|⟨c,d⟩|⟨c,d⟩;.lia
   .lia
   .show(I.way (i-1) y g b d).mono rQ mem
section
variable {P:Program}{w:World}{κ:Type}[DecidableEq κ]
def jE (vk:fu P w κ):Prop:=∀{A:Around} {E:AB} {s:Shared} {k:κ} {v:Value} {Q:Bool->Shared->Prop} (n:Nat),vk.deep<=n->vk.is s.heap k v->Q false s->wpAny (model P w) A (ofAClassStatement n v) Q E s
structure Di (vk:fu P w κ)(h:Heap)(es:Array (Int×Value))(ks:List κ):Prop where
 len:ks.length=es.toList.length
 at_:∀(i:Nat) e k,es.toList[i]?=some e->ks[i]?=some k->vk.is h k e.2/\e.1=vk.hash k/\∃b,e.2=.ref b
 nd:ks.Nodup
def jo.fits {t:SetTable}{es:Array (Int×Value)}(I:jo t (es.toList.map (·.1))):t.fits es.size=true:=by let h1:=I.len;let d:=I.few;rw[ab,bn]at h1 d;rw[bn]at h1;unfold SetTable.fits SetTable.fill;rw[I.Ks];simp;simp_all
def jo.odd {t:SetTable}{hs:List Int}(I:jo t hs):t.gaveWay=false:=by
 let⟨k,d,_,e⟩:=I.two;obtain⟨m,rfl⟩:∃m,k=m+1:=⟨k-1,vT⟩
 rw[iO]at e;unfold SetTable.gaveWay;have:t.mask%2=1:=by lia
 rw[this];rfl
def jo.hole {t:SetTable}{hs:List Int}(I:jo t hs)(h:Int):∃s,s<=10*(t.mask+13)/\eX t h s∉t.place.toList:=by
 let h1:=I.len;let q:=I.few;have:∃y,y<=t.mask/\y∉t.place.toList:=by apply ge;intro hn;let g:∀y,y<=t.mask->y∈t.place.toList:=λy d=>ge λz=>hn ⟨y,d,z⟩;have:=(re (n:=t.mask+1)).length_le_of_subset (l₂:=t.place.toList) λy d=>g y (by have:=bv.mp d;show dq this);rw[dm]at this;lia
 let⟨y,d,hn⟩:=this;let⟨k,_,_,e⟩:=I.two;let⟨s,hs,j⟩:=aa2 e h d;show⟨s,hs,by unfold eX;rw[j];show hn⟩
def Ve (t:SetTable)(h:Int)(s:Nat):eX t h s<=t.mask:=by
 let d:∀s p,p.i<=t.mask->p.j+p.more<=t.mask->(stp t s p).j<=t.mask:=by
  intro s
  induction s with
  | zero=>intro p _ h;show p.j<=t.mask;lia
  | succ s ih=>
   intro p h1 j;show (stp t s (t.advance p)).j<=t.mask;unfold SetTable.advance;split;.show ih _ h1 (by show p.j+1+(p.more-1)<=t.mask;lia)
   .let g:(SetTable.leap t.mask p.i p.perturb).1<=t.mask:=dq (nE _ (iE _));calc ih _ g ?_;show (SetTable.leap t.mask p.i p.perturb).1+(SetTable.runEnd t.mask (SetTable.leap t.mask p.i p.perturb).1-(SetTable.leap t.mask p.i p.perturb).1)<=t.mask;unfold SetTable.runEnd;split <;> simp_all
 let g:SetTable.bits h%(t.mask+1)<=t.mask:=dq (nE _ (iE _));calc d s (t.probeStart h) g ?_;show SetTable.bits h%(t.mask+1)+(SetTable.runEnd t.mask (SetTable.bits h%(t.mask+1))-SetTable.bits h%(t.mask+1))<=t.mask;unfold SetTable.runEnd;split <;> simp_all
variable {vk:fu P w κ}{A:Around}{E:AB}{s:Shared}
def aa4 (M:vk.deep<=8)(D:jE vk){x:Value}{k:κ}(hx:vk.is s.heap k x){d:List Value}(B:∀y∈d,∃j,vk.is s.heap j y){Q:Bool->Shared->Prop}(h:Q false s):wpAny (model P w) A (searchCouldBeSeen x d) Q E s:=by
 unfold searchCouldBeSeen;calc aa ?_;refine kR _ (λrest r s'=>s'=s/\r=(none,())/\∀y∈rest,∃j,vk.is s.heap j y) _ ?_ ?_ _ _ ⟨rQ,rQ,B⟩
 .intro y rest r s' z;let⟨rfl,rfl,F⟩:=z;let⟨j,q⟩:=F y ax;let g:∀z∈rest,∃j,vk.is s'.heap j z:=λz hz=>F z (ay _ hz);dsimp only
  split
  all_goals
   split;.show ag ⟨rQ,rQ,g⟩
   .calc aa (vk.quiet 8 M hx ?_);simp only[eR,a6,if_false];calc aa (vk.quiet 8 M q ?_);simp only[eR,a6,if_false];calc aa (D 8 M hx ?_);simp only[a6,if_false];calc aa (D 8 M q ?_);simp only[a6,if_false];show ag ⟨rQ,rQ,g⟩
 .intro r s' z;let⟨rfl,rfl,_⟩:=z;show ag h
theorem Ag (iM:vk.deep<=8)(nc:jE vk)(hu:A.units+vk.deep<cLine+1){a:Addr}{x:Value}{k:κ}{o:Obj}{es:Array (Int×Value)}{ep:Nat}{t:SetTable}{ks:List κ}(ho:s.heap.get? a=some o)(hd:o.data=.set es ep t)(I:jo t (es.toList.map (·.1)))(K:Di vk s.heap es ks)(hx:vk.is s.heap k x){Q:SetFound->Shared->Prop}(h1:k∈ks->Q (.there none) s)(h2:k∉ks->∀j,j<=t.mask->j∉t.place.toList->Way t t.place.toList (vk.hash k) j->Q (.free j false) s){L:Nat}(he:eX t (vk.hash k) L∉t.place.toList)(hel:L<=10*(t.mask+13)):∀(q r:Nat) (D:Option SetTable.Probe),L-r<q->D.getD (t.probeStart (vk.hash k))=stp t r (t.probeStart (vk.hash k))->(∀r',r'<r->eX t (vk.hash k) r'∈t.place.toList/\∀i:Nat,t.place.toList[i]?=some (eX t (vk.hash k) r')->ks[i]?≠some k)->
   wpAny (model P w) A (setSearchFrom a x (vk.hash k) true q D) Q E s
 | 0,_,_,h,_,_=>absurd h (gV _)
 | q+1,r,D,hf,Dj,hpre=>by
  let hre:r<=L:=by
   rcases ee L r with z|z;.show absurd (hpre L z).1 he
   .show z
  unfold setSearchFrom;calc aa (fi ho hd I.fits ?_);dsimp only;rw[I.odd];simp only[a6,if_false];rw[Dj];let hdm:(stp t r (t.probeStart (vk.hash k))).dummy=none:=by
   have:∀n p,(stp t n p).dummy=p.dummy:=by
    intro n
    induction n with| zero=>intro p;rfl| succ n ih=>intro p;rw[stp,ih,Hu]
   rw[this];rfl
  let hw:∀n,(stp t n (stp t r (t.probeStart (vk.hash k)))).j=eX t (vk.hash k) (r+n):=λn=>by unfold eX;rw[uN]
  let⟨n,hn,hall,Y⟩:=Py t (λi=>(es[i]?.map (·.1)).getD 0) (vk.hash k) (RG I.wX I.Ks) (10*SetTable.turns t.mask) _ hdm ⟨L-r,by unfold SetTable.turns;show gp vT,by rw[hw,show r+(L-r)=L from lL hre];show(vN I.wX I.Ks).mpr he⟩;let xV:∀m,m<n->∃i:Nat,t.place.toList[i]?=some (eX t (vk.hash k) (r+m))/\(es[i]?.map (λe:Int×Value=>e.1)).getD 0≠vk.hash k:=λm hm=>by let⟨i,e1,e2⟩:=hall m hm;rw[hw]at e1;show⟨i,(jz I.wX).mp e1,e2⟩
  let nO:t.place.toList.length=ks.length:=by rw[I.len,ab,K.len]
  let Z:∀m,m<r+n->∀i:Nat,t.place.toList[i]?=some (eX t (vk.hash k) m)->ks[i]?≠some k:=λm hm i hi hk=>by
   rcases ee m r with z|z;.show(hpre m z).2 i hi hk
   .let⟨i',e1,e2⟩:=xV (m-r) (ci vT vT);rw[show r+(m-r)=m from lL z]at e1;let hii:i=i':=by
     let a1:=(jz I.wX).mpr hi;rw[(jz I.wX).mpr e1]at a1;cases a1;rfl
    subst hii;obtain⟨e,hes⟩:∃e,es.toList[i]?=some e:=⟨_,ah (by rw[<-K.len,<-nO];show(ai.mp hi).1)⟩
    have:=(K.at_ i e k hes hk).2.1;rw[<-ck,hes]at e2;show e2 this
  let jX:∀m,m<r+n->eX t (vk.hash k) m∈t.place.toList:=λm hm=>by
   rcases ee m r with z|z;.show(hpre m z).1
   .let⟨i',e1,_⟩:=xV (m-r) vT;rw[show r+(m-r)=m by lia]at e1;show aE e1
  rw[hw]at Y;rcases Y with⟨F,G⟩|⟨i,F,hhash,G⟩
  .let J:=(vN I.wX I.Ks).mp F;split
   .rename_i met B;let d:SetTable.probe.go t (λi=>(es[i]?.map (·.1)).getD 0) (vk.hash k) (10*SetTable.turns t.mask) (stp t r (t.probeStart (vk.hash k)))=some met:=B;rw[G]at d;cases d;dsimp only;calc ag (h2 (λhk=>?_) _ (Ve t _ _) J ⟨r+n,rQ,jX⟩);let⟨i0,hi0⟩:=gx hk;let M:=(ai.mp hi0).1;obtain⟨j0,hj0⟩:∃j,t.place.toList[i0]?=some j:=⟨_,ah (by simp[*])⟩
    obtain⟨e,hes⟩:∃e,es.toList[i0]?=some e:=⟨_,ah (by rw[<-K.len];show M)⟩
    let hh:=(K.at_ i0 e k hes hi0).2.1;let⟨s0,w1,w2⟩:=I.way i0 j0 (vk.hash k) (by rw[ba,hes,<-hh];rfl) hj0;rcases p_ s0 (r+n) with z|z|z;.show Z s0 z i0 (by rw[w1];show hj0) hi0
    .rw[z]at w1;show J (by rw[w1];show aE hj0)
    .show J (w2 _ z)
   .rename_i B;let d:SetTable.probe.go t (λi=>(es[i]?.map (·.1)).getD 0) (vk.hash k) (10*SetTable.turns t.mask) (stp t r (t.probeStart (vk.hash k)))=none:=by
     cases hq:SetTable.probe.go t (λi=>(es[i]?.map (·.1)).getD 0) (vk.hash k) (10*SetTable.turns t.mask) (stp t r (t.probeStart (vk.hash k))) with| none=>rfl| some m=>show absurd hq (B m)
    rw[G]at d;cases d
  .let N:=(jz I.wX).mp F;let M:=(ai.mp N).1;obtain⟨e,hes⟩:∃e,es.toList[i]?=some e:=⟨_,ah (by rw[<-K.len,<-nO];show M)⟩
   obtain⟨O,hk'⟩:∃O,ks[i]?=some O:=⟨_,ah (by rw[<-nO];show M)⟩
   let⟨hy,hh,b,hb⟩:=K.at_ i e O hes hk';let RK:es[i]?=some e:=by rw[<-ck];show hes
   split
   .rename_i met B;let d:SetTable.probe.go t (λi=>(es[i]?.map (·.1)).getD 0) (vk.hash k) (10*SetTable.turns t.mask) (stp t r (t.probeStart (vk.hash k)))=some met:=B;rw[G]at d;cases d;dsimp only;let hsm:t.sameMemory t.moves t.mask=some true:=by unfold SetTable.sameMemory;simp
    let hr0:r≠L:=by
     rintro rfl;rcases tI n with z|z
     .rw[z,sk]at N;show he (aE N)
     .let⟨i',e1,_⟩:=xV 0 z;show he (aE e1)
    let tail:∀g:¬O=k,wpAny (model P w) A (setSearchFrom a x (vk.hash k) true q (some (stp t (n+1) (stp t r (t.probeStart (vk.hash k)))))) Q E s:=λg=>
     Ag iM nc hu ho hd I K hx h1 h2 he hel q (r+n+1) _ (by grind) (by rw[vj,<-uN,l_]) λr' hr'=>by
      rcases ee r' (r+n) with z|z;.show⟨jX r' z,Z r' z⟩
      .have:r'=r+n:=by lia
       subst this;calc⟨aE N,λi2 hi2=>?_⟩;let hii:i=i2:=by let a1:=(jz I.wX).mpr hi2;rw[F]at a1;cases a1;rfl
       rw[<-hii,hk'];show λz=>g (be z)
    let hst:∀y∈List.map (λx=>x.snd) (Array.filter (λx=>x.fst==vk.hash k) es).toList,∃O,vk.is s.heap O y:=λy hy=>by
     let⟨e',he',rfl⟩:=aT.mp hy;let hm:e'∈es.toList:=by have:=r8.mp he';rw[Array.mem_filter]at this;show r8.mpr this.1
     let⟨i3,hi3⟩:=gx hm;obtain⟨k3,hk3⟩:∃k3,ks[i3]?=some k3:=⟨_,ah (by rw[K.len];show(ai.mp hi3).1)⟩
     show⟨k3,(K.at_ i3 e' k3 hi3 hk3).1⟩
    let⟨eh,ev⟩:=e;let hb:ev=.ref b:=hb;subst hb;cases hl:t.led
    .simp only[i8,if_true];calc aa (aa4 iM nc hx hst ?_);simp only[a6,if_false];rw[RK];dsimp only;calc aa (eD (vk.eqBool hu hy hx ?_));calc aa (fi ho hd I.fits ?_);dsimp only;by_cases g:O=k
     .rw[aw g];show ag (h1 (g ▸ aE hk'))
     .rw[al g];simp only[kG,a6,if_false];rw[hsm];simp only[if_true];rw[F];dsimp only;rw[RK];dsimp only;calc aa (wpAny_isSame_ref_self ?_);show aa (ag (tail g))
    .simp only[eR,a6,if_false];rw[RK];dsimp only;calc aa (eD (vk.eqBool hu hy hx ?_));calc aa (fi ho hd I.fits ?_);dsimp only;by_cases g:O=k
     .rw[aw g];show ag (h1 (g ▸ aE hk'))
     .rw[al g];simp only[kG,a6,if_false];rw[hsm];simp only[if_true];rw[F];dsimp only;rw[RK];dsimp only;calc aa (wpAny_isSame_ref_self ?_);show aa (ag (tail g))
   .rename_i B;let d:SetTable.probe.go t (λi=>(es[i]?.map (·.1)).getD 0) (vk.hash k) (10*SetTable.turns t.mask) (stp t r (t.probeStart (vk.hash k)))=none:=by
     cases hq:SetTable.probe.go t (λi=>(es[i]?.map (·.1)).getD 0) (vk.hash k) (10*SetTable.turns t.mask) (stp t r (t.probeStart (vk.hash k))) with| none=>rfl| some m=>show absurd hq (B m)
    rw[G]at d;cases d
end
def tM (mask:Nat):SetTable:={mask:=mask,place:=#[],dummies:=#[],finger:=0,led:=false,moves:=0,plain:=false}
def Taken (ow:Array (Option Nat))(j:Nat):Prop:=(ow.getD j (some 0)).isNone=false
def adI (t:SetTable)(d:Option Nat):∀(q:Nat×Nat) (m:Nat),m<=SetTable.runEnd t.mask q.1-q.1->(stp t m (lG t q d)).j=q.1+m:=by
 intro q m hm;let g:∀(m:Nat) (p:SetTable.Probe),m<=p.more->(stp t m p).j=p.j+m:=by
  intro m
  induction m with
  | zero=>intro p _;rfl
  | succ m ih=>
   intro p h;show (stp t m (t.advance p)).j=_;let e:t.advance p={p with j:=p.j+1,more:=p.more-1}:=by unfold SetTable.advance;rw[if_pos vT]
   rw[e,ih _ (by show m<=p.more-1;show uj h)];show p.j+1+m=p.j+(m+1)
   lia
 show g m (lG t q d) hm
theorem Hv (mask:Nat)(ow:Array (Option Nat)):∀(d:Nat) (q:Nat×Nat),(∃n,n<d/\¬Taken ow (iK mask n q).1)->
  ∃s,SetTable.layClean.free mask ow d q.1 q.2=some (stp (tM mask) s (lG (tM mask) q none)).j/\¬Taken ow (stp (tM mask) s (lG (tM mask) q none)).j/\∀s',s'<s->Taken ow (stp (tM mask) s' (lG (tM mask) q none)).j
 | 0,_,⟨_,h,_⟩=>absurd h (gV _)
 | d+1,q,⟨n,hn,hfree⟩=>by
  let J:=adI (tM mask) none q;cases e:(List.range (SetTable.runEnd mask q.1+1-q.1)).find? λk=>(ow.getD (q.1+k) (some 0)).isNone with
  | some k=>
   let h1:=List.find?_some e;let L:=bv.mp (List.mem_of_find?_eq_some e);let hk:k<=SetTable.runEnd mask q.1-q.1:=eP vT;refine⟨k,?_,?_,λs' F=>?_⟩
   .unfold SetTable.layClean.free;rw[e,J k hk]
   .rw[J k hk];unfold Taken;rw[h1];decide
   .rw[J s' (aS (aI F) hk)];let⟨as,bs,O,g⟩:=(List.find?_eq_some_iff_append.mp e).2;let hm:s'∈as:=by
     have:(List.range (SetTable.runEnd mask q.1+1-q.1))[s']?=some s':=g9 (jn F L);let D:(List.range (SetTable.runEnd mask q.1+1-q.1))[as.length]?=some k:=by rw[O,dE (af _),jS];rfl
     let N:as.length<SetTable.runEnd mask q.1+1-q.1:=by have:=(ai.mp D).1;rwa [dm]at this
     rw[g9 N]at D;let Y:as.length=k:=be D;rw[O,eM (by simp_all)]at this;show aE this
    have:=g s' hm;unfold Taken;simpa using this
  | none=>
   let g:=List.find?_eq_none.mp e;let htk:∀m,m<=SetTable.runEnd mask q.1-q.1->q.1<=SetTable.runEnd mask q.1->Taken ow (q.1+m):=λm hm B=>by have:=g m (bv.mpr (Nat.lt_sub_of_add_lt vT));unfold Taken;show qf.mpr this
   let B:q.1<=SetTable.runEnd mask q.1:=by unfold SetTable.runEnd;split <;> lia
   let Z:n≠0:=by rintro rfl;show hfree (htk 0 (cn _) B)
   obtain⟨M,rfl⟩:∃M,n=M+1:=⟨n-1,vT⟩
   let⟨s,h1,L,h3⟩:=Hv mask ow d (SetTable.leap mask q.1 q.2) ⟨M,dq hn,hfree⟩;let G:=Fv (tM mask) _ (lG (tM mask) q none) rfl;let j:∀m,stp (tM mask) ((lG (tM mask) q none).more+1+m) (lG (tM mask) q none)=stp (tM mask) m (lG (tM mask) (SetTable.leap mask q.1 q.2) none):=λm=>by rw[uN,G];rfl
   refine⟨(lG (tM mask) q none).more+1+s,?_,?_,λs' F=>?_⟩
   .rw[j,<-h1]
    conv=>lhs;unfold SetTable.layClean.free
    rw[e]
   .rw[j];show L
   .rcases ee s' ((lG (tM mask) q none).more+1) with z|z
    .let hm:s'<=SetTable.runEnd mask q.1-q.1:=dq z;rw[J s' hm];show htk s' hm B
    .obtain⟨m,rfl⟩:∃m,s'=(lG (tM mask) q none).more+1+m:=⟨s'-((lG (tM mask) q none).more+1),by simp_all⟩
     rw[j];show h3 m (by simp_all)
structure Own (mask:Nat)(hs:List Int)(ow:Array (Option Nat))(pos:Nat->Nat):Prop where
 size:ow.size=mask+1
 le:∀i,i<hs.length->pos i<=mask
 at_:∀i,i<hs.length->ow[pos i]?=some (some i)
 only:∀j i:Nat,ow[j]?=some (some i)->i<hs.length/\j=pos i
 way:∀(i:Nat) h,hs[i]?=some h->∃s,eX (tM mask) h s=pos i/\∀s',s'<s->∃i',i'<hs.length/\eX (tM mask) h s'=pos i'
def yh {ow:Array (Option Nat)}{j:Nat}(d:j<ow.size):Taken ow j↔∃i,ow[j]?=some (some i):=by
 unfold Taken;rw[fe,bS d,vj];cases ow[j] with| none=>simp| some i=>simp
def Own.step {mask k:Nat}{hs:List Int}{ow:Array (Option Nat)}{pos:Nat->Nat}(O:Own mask hs ow pos)(hm:mask+1=2^k)(hf:hs.length<=mask)(h:Int):∃j,SetTable.layClean.free mask ow (SetTable.turns mask) (SetTable.bits h%(mask+1)) (SetTable.bits h)=some j/\Own mask (hs++[h]) (ow.setIfInBounds j (some hs.length)) λi=>if i=hs.length then j else pos i:=by
 let hinj:∀a b,a<hs.length->b<hs.length->pos a=pos b->a=b:=λa b ha hb e=>by let h1:=O.at_ a ha;rw[e,O.at_ b hb]at h1;show(be (be h1)).symm
 obtain⟨y,G,hny⟩:∃y,y<=mask/\∀i,i<hs.length->pos i≠y:=by apply ge;intro hn;let J:∀y,y<=mask->y∈(List.range hs.length).map pos:=λy G=>ge λz=>hn ⟨y,G,λi hi e=>z (aT.mpr ⟨i,bv.mpr hi,e⟩)⟩;have:=(re (n:=mask+1)).length_le_of_subset (l₂:=(List.range hs.length).map pos) λy G=>J y (by have:=bv.mp G;show dq this);rw[dm,ab,dm]at this;lia
 let N:SetTable.bits h%(mask+1)<=mask:=dq (nE _ (iE _));let⟨n,hn,en⟩:=Hr hm N (Px h) G;let hsz:=O.size;let⟨s,e1,e2,e3⟩:=Hv mask ow (SetTable.turns mask) (SetTable.bits h%(mask+1),SetTable.bits h) ⟨n,by unfold SetTable.turns;lia,λz=>by rw[en,yh vT]at z;let⟨i,hi⟩:=z;let⟨h1,M⟩:=O.only y i hi;show hny i h1 M.symm⟩
 let yj:∀m,(stp (tM mask) m (lG (tM mask) (SetTable.bits h%(mask+1),SetTable.bits h) none)).j=eX (tM mask) h m:=λm=>rfl;rw[yj]at e1 e2;calc⟨_,e1,?_⟩;let Z:eX (tM mask) h s<=mask:=by apply ge;intro z;apply e2;unfold Taken;rw[fe,mN vT];rfl
 let B:∀i,i<hs.length->pos i≠eX (tM mask) h s:=λi hi e=>e2 ((yh vT).mpr ⟨i,by rw[<-e];show O.at_ i hi⟩);generalize hj:eX (tM mask) h s=j at *
 let q:∀m:Nat,(ow.setIfInBounds j (some hs.length))[m]?=if j=m then some (some hs.length) else ow[m]?:=λm=>by
  rw[Array.getElem?_setIfInBounds];split
  .rename_i z;simp;lia
  .rfl
 refine⟨by rw[Array.size_setIfInBounds];show hsz,λi hi=>?_,λi hi=>?_,λm i d=>?_,λi g D=>?_⟩
 .split;.show Z
  .show O.le i (by rw[ar]at hi;simp at hi;lia)
 .rw[ar]at hi;simp at hi;rw[q];by_cases z:i=hs.length;.rw[if_pos z,if_pos rQ,z]
  .rw[if_neg z,if_neg λy=>B i vT y.symm];show O.at_ i vT
 .rw[q]at d;rw[ar];simp only[bu,se];split at d
  .rename_i z;have:hs.length=i:=by simpa using d
   subst this;show⟨eC _,by rw[if_pos rQ,z]⟩
  .let⟨h1,M⟩:=O.only m i d;show⟨eL h1,by rw[if_neg (bb h1)];show M⟩
 .rcases ee i hs.length with z|z
  .rw[eM z]at D;let⟨s2,w1,w2⟩:=O.way i g D;calc⟨s2,by rw[if_neg vT];show w1,λs' F=>?_⟩;let⟨i',a1,a2⟩:=w2 s' F;show⟨i',by rw[ar];simp;show eL a1,by rw[if_neg vT];show a2⟩
  .let hi0:i=hs.length:=by
    have:=(ai.mp D).1;rw[ar]at this;simp at this;lia
   subst hi0;rw[dE (af _),jS]at D;let D:h=g:=by simpa using D
   subst D;calc⟨s,by rw[if_pos rfl];show hj,λs' F=>?_⟩;let ht:=e3 s' F;rw[yj]at ht;let Y:eX (tM mask) h s'<ow.size:=by
    have:eX (tM mask) h s'<=mask:=Ve (tM mask) h s'
    (simp[Nat.sub_sub];lia)
   let⟨i',L⟩:=(yh Y).mp ht;let⟨a1,a2⟩:=O.only _ i' L;show⟨i',by rw[ar];simp;lia,by rw[if_neg vT];show a2⟩
noncomputable def RL (mask:Nat)(d:Option (Array (Option Nat)×Nat))(h:Int):Option (Array (Option Nat)×Nat):=do
 let (owner,k) <- d
 let j <- SetTable.layClean.free mask owner (SetTable.turns mask) (SetTable.bits h%(mask+1)) (SetTable.bits h)
 pure (owner.setIfInBounds j (some k),k+1)
theorem Ku {mask k:Nat}(hm:mask+1=2^k):∀(hs pre:List Int) (ow:Array (Option Nat)) (pos:Nat->Nat),Own mask pre ow pos->pre.length+hs.length<=mask->
  ∃Z pos',hs.foldl (RL mask) (some (ow,pre.length))=some (Z,(pre++hs).length)/\Own mask (pre++hs) Z pos'
 | [],pre,ow,pos,O,_=>⟨ow,pos,v0,by rw[eJ];show O⟩
 | h::hs,pre,ow,pos,O,hl=>by
  rw[bu]at hl;let⟨j,e,g⟩:=O.step hm vT h;let es:RL mask (some (ow,pre.length)) h=some (ow.setIfInBounds j (some pre.length),(pre++[h]).length):=by unfold RL;simp[e]
  let⟨Z,pos',e2,d⟩:=Ku hm hs (pre++[h]) _ _ g (by rw[ar];simp;lia);calc⟨Z,pos',?_,?_⟩;.rw[vw,es,e2];simp
  .rw[bt]at d;show d
def aa5 (mask:Nat):Own mask [] (Array.replicate (mask+1) none) λ_=>0:=by calc⟨v0,λi h=>by simp at h,λi h=>by simp at h,λj i h=>?_,λi h e=>by simp at e⟩;rw[Array.getElem?_replicate]at h;split at h <;> simp at h
def Nq {mask k:Nat}(hm:mask+1=2^k)(hs:Array Int)(d:hs.size<=mask):∃ow pos,SetTable.layClean mask hs=some ow/\Own mask hs.toList ow pos:=by
 let⟨ow,pos,e,O⟩:=Ku hm hs.toList [] _ _ (aa5 mask) (by simpa using d);calc⟨ow,pos,?_,by simpa using O⟩;have:SetTable.layClean mask hs=(hs.toList.foldl (RL mask) (some (Array.replicate (mask+1) none,0))).map (·.1):=by rw[Array.foldl_toList];rfl
 rw[this,show (0:Nat)=([]:List Int).length from rQ,e];rfl
def jZ (mask:Nat)(ow:Array (Option Nat)):List (Nat×Nat):=(List.range (mask+1)).filterMap λj=>(ow.getD j none).map (j,·)
def mW {mask:Nat}{hs:List Int}{ow:Array (Option Nat)}{pos:Nat->Nat}(O:Own mask hs ow pos){j i:Nat}:(j,i)∈jZ mask ow↔i<hs.length/\j=pos i:=by
 unfold jZ;rw[om];constructor
 .intro z;let⟨g,d,e⟩:=z;let q:g<ow.size:=by rw[O.size];show bv.mp d
  rw[fe,bS q,vj]at e;cases hx:ow[g] with
  | none=>rw[hx]at e;cases e
  | some x=>rw[hx]at e;let e:(g,x)=(j,i):=be e;cases e;show O.only j i (by rw[bS q,hx])
 .rintro⟨hi,rfl⟩;calc⟨pos i,bv.mpr (Nat.lt_succ_of_le (O.le i hi)),?_⟩;rw[fe,O.at_ i hi];rfl
def Kv (mask:Nat)(ow:Array (Option Nat)):wW ((jZ mask ow).map (·.1)):=by
 let g:∀l:List Nat,l.Pairwise (λa b=>a<b)->((l.filterMap λj=>(ow.getD j none).map (j,·)).map (·.1)).Sublist l:=by
  intro l _
  induction l with
  | nil=>show .slnil
  | cons j l d=>
   rename_i q;let d:=d (io.mp q).2;rw[g6];cases ow.getD j none with| none=>show d.cons _| some x=>show d.cons_cons _
 show List.pairwise_lt_range.sublist (g _ List.pairwise_lt_range)
def Vf {mask:Nat}{hs:List Int}{ow:Array (Option Nat)}{pos:Nat->Nat}(O:Own mask hs ow pos):((jZ mask ow).map (·.2)).Perm (List.range hs.length):=by
 let d:((jZ mask ow).map (·.1)).Nodup:=(Kv mask ow).imp λh=>bb h;let D:((jZ mask ow).map (·.2)).Nodup:=by calc fk.mpr ((fk.mp d).imp_of_mem λ{a b} ha hb hne e=>hne ?_);let⟨_,h1⟩:=(mW O (j:=a.1) (i:=a.2)).mp ha;let⟨_,g⟩:=(mW O (j:=b.1) (i:=b.2)).mp hb;rw[h1,g,e]
 calc(List.perm_ext_iff_of_nodup D re).mpr λi=>?_;rw[aT,bv];constructor
 .rintro⟨⟨j,i'⟩,hm,rfl⟩;show((mW O).mp hm).1
 .intro hi;show⟨(pos i,i),(mW O).mpr ⟨hi,rQ⟩,rQ⟩
def aa6 {mask k:Nat}(hm:mask+1=2^k)(M:3<=k)(D:k<=13)(hs:Array Int)(G:hs.size<=mask)(finger moves:Nat)(led plain:Bool):∃t g,SetTable.laid mask finger moves led plain hs=some (t,g)/\t.mask=mask/\t.led=led/\t.plain=plain/\g.toList.Perm (List.range hs.size)/\jo t (g.toList.map λi=>hs.toList.getD i 0):=by
 let⟨ow,pos,e,O⟩:=Nq hm hs G;let hsz:hs.toList.length=hs.size:=bn;let d:=Vf O;rw[hsz]at d;refine⟨{mask:=mask,place:=((jZ mask ow).map (·.1)).toArray,dummies:=#[],finger:=finger,led:=led,moves:=moves,plain:=plain},((jZ mask ow).map (·.2)).toArray,?_,rQ,rQ,rQ,by simpa using d,?_⟩
 .unfold SetTable.laid;rw[e];rfl
 .let L:(jZ mask ow).length=hs.size:=by have:=d.length_eq;rwa [ab,dm]at this
  refine⟨by simpa using Kv mask ow,v0,rQ,⟨k,M,D,hm⟩,λj B=>?_,by simpa [L] using G,λi j h e1 e2=>?_⟩
  .let B:j∈(jZ mask ow).map (·.1):=by simpa using B
   obtain⟨⟨J,i⟩,q,rfl⟩:=aT.mp B;let⟨a1,a2⟩:=(mW O).mp q;show J<=mask;rw[a2];show O.le i a1
  .let e2:((jZ mask ow).map (·.1))[i]?=some j:=by simpa using e2
   let e1:(((jZ mask ow).map (·.2)).map λi=>hs.toList.getD i 0)[i]?=some h:=by simpa using e1
   rw[ba]at e2;rw[ba,ba]at e1;cases hx:(jZ mask ow)[i]? with
   | none=>rw[hx]at e2;cases e2
   | some x=>
    rw[hx]at e1 e2;let e2:x.1=j:=be e2;let e1:hs.toList.getD x.2 0=h:=be e1;let⟨a1,a2⟩:=(mW O (j:=x.1) (i:=x.2)).mp (aE hx);let⟨s,w1,N⟩:=O.way x.2 h (by rw[<-e1,av,ah a1];rfl);refine Way.mono (t:=tM mask) (pl:=(jZ mask ow).map (·.1)) ⟨s,w1.trans (a2.symm.trans e2),λs' F=>?_⟩ rQ λx hx=>by simpa using hx
    let⟨i',b1,b2⟩:=N s' F;rw[b2];show aT.mpr ⟨_,(mW O).mpr ⟨b1,rQ⟩,rQ⟩
section
variable {P:Program}{w:World}{κ:Type}[DecidableEq κ]
def uO (vk:fu P w κ):Prop:=∀{h h':Heap} {k:κ} {v:Value} {d:Addr} {o:Obj},vk.is h k v->h.get? d=some o->(∀its n,o.data≠.seq its n)->Heap.SameBut d h h'->vk.is h' k v
def Kw (vk:fu P w κ):Prop:=∀{A:Around} {E:AB} {s:Shared} {k:κ} {v:Value} {Q:Bool->Shared->Prop},vk.is s.heap k v->Q false s->wpAny (model P w) A (hashByValue 8 v) Q E s
variable {vk:fu P w κ}{A:Around}{E:AB}{s:Shared}
def jo.aa7 {t:SetTable}{hs:List Int}(I:jo t hs):t.mask<=8191:=by let⟨k,_,h,e⟩:=I.two;have:2^k<=2^13:=Nat.pow_le_pow_right v_ h;lia
def Vg (M:vk.deep<=8)(q:jE vk)(g:A.units+vk.deep<cLine+1){a:Addr}{x:Value}{k:κ}{o:Obj}{es:Array (Int×Value)}{ep:Nat}{t:SetTable}{ks:List κ}(F:s.heap.get? a=some o)(hd:o.data=.set es ep t)(I:jo t (es.toList.map (·.1)))(K:Di vk s.heap es ks)(hx:vk.is s.heap k x){Q:SetFound->Shared->Prop}(h1:k∈ks->Q (.there none) s)(B:k∉ks->∀j,j<=t.mask->j∉t.place.toList->Way t t.place.toList (vk.hash k) j->Q (.free j false) s):wpAny (model P w) A (setSearch a x (vk.hash k) true) Q E s:=by let⟨G,d,D⟩:=I.hole (vk.hash k);have:=I.aa7;show Ag M q g F hd I K hx h1 B D d 100000 0 none vT rQ λJ h=>absurd h (gV _)
def Di.put {h h':Heap}{es:Array (Int×Value)}{ks:List κ}(K:Di vk h es ks)(kp:∀k v,vk.is h k v->vk.is h' k v){k:κ}{b:Addr}(hx:vk.is h k (.ref b))(hn:k∉ks){p:Nat}(hp:p<=es.toList.length):Di vk h' (SetTable.insertAt es p (vk.hash k,.ref b)) (ks.take p++k::ks.drop p):=by
 let F:=K.len;refine⟨?_,λi e D h1 j=>?_,?_⟩
 .rw[jN];simp only[ar,bq,bu,cz];simp_all
 .rw[jN]at h1;rcases kh hp h1 with⟨a1,b1⟩|⟨a1,b1⟩|⟨a1,b1⟩
  .rcases kh (by simp_all) j with⟨c1,d⟩|⟨c1,d⟩|⟨c1,d⟩
   .let⟨q,g,B⟩:=K.at_ i e D b1 d;show⟨kp _ _ q,g,B⟩
   .lia
   .lia
  .rcases kh vT j with⟨c1,d⟩|⟨c1,d⟩|⟨c1,d⟩;.lia
   .subst b1 d;show⟨kp _ _ hx,rQ,b,rQ⟩
   .lia
  .rcases kh vT j with⟨c1,d⟩|⟨c1,d⟩|⟨c1,d⟩;.lia
   .lia
   .let⟨q,g,B⟩:=K.at_ (i-1) e D b1 d;show⟨kp _ _ q,g,B⟩
 .have:(ks.take p++k::ks.drop p).Perm (k::ks):=by
   calc List.perm_middle.trans (.cons _ ?_);rw[cw]
  show this.nodup_iff.mpr (fT.mpr ⟨hn,K.nd⟩)
def Yd (es:Array (Int×Value))(p:Nat)(h:Int)(x:Value):(SetTable.insertAt es p (h,x)).toList.map (·.1)=(es.toList.map (·.1)).take p++h::(es.toList.map (·.1)).drop p:=by rw[jN,b9,bX,List.map_take,List.map_drop]
def jo.flag {t t':SetTable}{hs:List Int}(I:jo t hs)(h1:t'.mask=t.mask)(d:t'.place=t.place)(g:t'.dummies=t.dummies):jo t' hs:=by calc⟨by rw[d];show I.wX,by rw[d];show I.len,by rw[g];show I.Ks,by rw[h1];show I.two,by rw[h1,d];show I.le,by rw[h1];show I.few,λi j h e1 e2=>?_⟩;rw[d]at e2 ⊢;show(I.way i j h e1 e2).mono h1.symm λx hx=>hx
def ZR (m:Nat):Prop:=m=7\/m=31\/m=127\/m=511\/m=2047\/m=8191
def aa8 {m:Nat}(h:ZR m):∃k,3<=k/\k<=13/\m+1=2^k:=by
 rcases h with rfl|rfl|rfl|rfl|rfl|rfl;.show⟨3,v_,v_,rQ⟩
 .show⟨5,v_,v_,rQ⟩
 .show⟨7,v_,v_,rQ⟩
 .show⟨9,v_,v_,rQ⟩
 .show⟨11,v_,v_,rQ⟩
 .show⟨13,v_,v_,rQ⟩
def Ye {m n:Nat}(h:ZR m)(h1:5*n<3*m)(d:3*m<=5*(n+1))(hn:n+1<=4000):ZR (SetTable.sizeAbove (SetTable.grown (n+1))-1)/\n+1<=SetTable.sizeAbove (SetTable.grown (n+1))-1/\5*(n+1)<3*(SetTable.sizeAbove (SetTable.grown (n+1))-1)/\SetTable.sizeAbove (SetTable.grown (n+1))<=sizeLine:=by
 rcases h with rfl|rfl|rfl|rfl|rfl|rfl
 .obtain rfl:n=4:=by lia
  show⟨.inr (.inl v_),v_,v_,v_⟩
 .obtain rfl:n=18:=by lia
  show⟨.inr (.inr (.inl v_)),v_,v_,v_⟩
 .obtain rfl:n=76:=by lia
  show⟨.inr (.inr (.inr (.inl v_))),v_,v_,v_⟩
 .obtain rfl:n=306:=by lia
  show⟨.inr (.inr (.inr (.inr (.inl v_)))),v_,v_,v_⟩
 .obtain rfl:n=1228:=by lia
  show⟨.inr (.inr (.inr (.inr (.inr v_)))),v_,v_,v_⟩
 .lia
theorem yp {α:Type}(xs:List α):∀(l:List Nat),(∀i∈l,i<xs.length)->∀m:Nat,(l.filterMap λi=>xs[i]?)[m]?=(l[m]?).bind λi=>xs[i]?
 | [],_,m=>by simp
 | i::l,h,m=>by
  let hi:=h i ax;rw[g6,ah hi];cases m with| zero=>simp[hi]| succ m=>simpa using yp xs l (λj d=>h j (ay _ d)) m
def Yg {α:Type}(xs:List α):(List.range xs.length).filterMap (λi=>xs[i]?)=xs:=by
 apply gE;intro m;rw[yp xs _ λi hi=>bv.mp hi];by_cases h:m<xs.length;.rw[g9 h];rfl
 .rw[di (by simpa using h),di (kQ h)];rfl
theorem Dl {α:Type}(xs:List α):∀(l:List Nat),(∀i∈l,i<xs.length)->(l.filterMap λi=>xs[i]?).length=l.length
 | [],_=>rfl
 | i::l,h=>by rw[g6,ah (h i ax),bu,bu,Dl xs l λj d=>h j (ay _ d)]
def Di.perm {h h':Heap}{es:Array (Int×Value)}{ks:List κ}(K:Di vk h es ks)(kp:∀k v,vk.is h k v->vk.is h' k v){d:Array Nat}(hp:d.toList.Perm (List.range es.size)):∃j,j.Perm ks/\Di vk h' (d.filterMap (es[·]?)) j/\(d.filterMap (es[·]?)).size=es.size/\(d.filterMap (es[·]?)).toList.map (·.1)=d.toList.map λi=>(es.toList.map (·.1)).getD i 0:=by
 let G:=K.len;let hsz:es.toList.length=es.size:=bn;let g:∀i∈d.toList,i<es.toList.length:=λi hi=>by rw[hsz];show bv.mp (hp.mem_iff.mp hi)
 let q:∀i∈d.toList,i<ks.length:=λi hi=>by rw[G];show g i hi
 let B:(d.filterMap (es[·]?)).toList=d.toList.filterMap λi=>es.toList[i]?:=by rw[Array.toList_filterMap];congr 1;funext i;rw[ck]
 let F:(d.toList.filterMap λi=>ks[i]?).Perm ks:=by have:=hp.filterMap λi=>ks[i]?;rw[<-hsz,<-G,Yg]at this;show this
 let D:d.toList.length=es.size:=by rw[hp.length_eq,dm]
 calc⟨d.toList.filterMap λi=>ks[i]?,F,⟨?_,λi e k e1 e2=>?_,F.nodup_iff.mpr K.nd⟩,?_,?_⟩;.rw[B,Dl _ _ g,Dl _ _ q]
 .rw[B,yp _ _ g]at e1;rw[yp _ _ q]at e2;cases hi:d.toList[i]? with
  | none=>rw[hi]at e1;cases e1
  | some m=>rw[hi]at e1 e2;let⟨L,J,M⟩:=K.at_ m e k e1 e2;show⟨kp _ _ L,J,M⟩
 .rw[<-bn,B,Dl _ _ g,D]
 .rw[B];apply gE;intro i;rw[ba,yp _ _ g,ba];cases hi:d.toList[i]? with| none=>rfl| some m=>have hm:=g m (aE hi);show ((es.toList[m]?).map (·.1))=some ((es.toList.map (·.1)).getD m 0);rw[av,ba,ah hm];rfl
end
section
variable {P:Program}{w:World}{κ:Type}[DecidableEq κ]{vk:fu P w κ}{A:Around}{E:AB}{s:Shared}
def pX (vk:fu P w κ)(h:Heap)(a:Addr)(ks:List κ):Prop:=∃es ep t,SetT w h a es ep t/\jo t (es.toList.map (·.1))/\Di vk h es ks/\ZR t.mask/\5*es.size<3*t.mask
def Yh {t:SetTable}{hs:List Int}(I:jo t hs):t.tooFull=decide (3*t.mask<=5*hs.length):=by let h1:=I.len;rw[bn]at h1;unfold SetTable.tooFull SetTable.fill;rw[I.Ks,h1];simp[fF]
def Yi (iM:vk.deep<=8)(nc:jE vk)(kps:uO vk)(hbv:Kw vk)(hu:A.units+vk.deep<cLine+1){a b:Addr}{k:κ}{ks:List κ}(m:pX vk s.heap a ks)(hx:vk.is s.heap k (.ref b))(hz:ks.length+1<=4000){Q:Bool->Shared->Prop}(q1:k∈ks->Q false s)(q2:k∉ks->∀h' F,Heap.SameBut a s.heap h'->pX vk h' a F->F.Perm (k::ks)->Q true {s with heap:=h' }):wpAny (model P w) A (setAddHashed a (.ref b) (vk.hash k)) Q E s:=by
 obtain⟨es,ep,t,⟨o,ho,hex,hd,hf,hb,hpl⟩,I,K,S6,H5⟩:=m;let hsz:es.toList.length=es.size:=bn;let kl:=K.len;let hds:∀its n,o.data≠.seq its n:=λits n z=>by rw[hd]at z;cases z
 unfold setAddHashed setAddHashedIn;calc eD (aa (fi ho hd hf ?_));dsimp only;let hbs:byScan (.ref b) es=false:=by unfold byScan Value.scannable;rfl
 rw[hbs];simp only[a6,if_false];calc aa (Vg iM nc hu ho hd I K hx (λhk=>ag (q1 hk)) λhk j hj hn hw=>?_);dsimp only;calc aa (fi ho hd hf ?_);dsimp only;let B:=Bg I.wX j;let bO:=I.len;rw[ab]at bO;let few:=I.few;rw[ab]at few;let hp:SetTable.below t.place j<=es.toList.length:=by have:=B.le;simp_all
 let mle:7<=t.mask:=by rcases S6 with e|e|e|e|e|e <;> simp_all
 let I1:=I.put hj hn hw (by rw[ab,hsz];lia);let hn1:es.size+1<=4000:=vT;let G:(SetTable.insertAt es (SetTable.below t.place j) (vk.hash k,Value.ref b)).size=es.size+1:=by rw[<-bn,jN];simp only[ar,bq,bu,cz];grind
 let q:∀d:SetTable,d.mask=t.mask->d.place=(t.put j).1.place->d.dummies=(t.put j).1.dummies->d.led=t.led->d.plain=false->
   wpAny (model P w) A (storeSet a (SetTable.insertAt es (SetTable.below t.place j) (vk.hash k,Value.ref b)) d >>= λ_=>if (!false&&d.tooFull)=true then (setRelay a (SetTable.grown (es.size+1)) >>= λ_=>pure true) else pure true) Q E s:=by
  intro d c1 c2 c3 c4 c5;let I2:jo d ((SetTable.insertAt es (SetTable.below t.place j) (vk.hash k,Value.ref b)).toList.map (·.1)):=by rw[Yd];show I1.flag c1 c2 c3
  calc aa (CV (w:=w) ⟨o,ho,hex,hd,hf,hb,hpl⟩ I2.fits c4 c5 (by rw[G];show es.size+1<4096;lia) λh1 N m1=>?_);let Kz:∀k v,vk.is s.heap k v->vk.is h1 k v:=λk v z=>kps z ho hds N;let K2:=K.put Kz hx hk hp;let pm:(ks.take (SetTable.below t.place j)++k::ks.drop (SetTable.below t.place j)).Perm (k::ks):=by calc List.perm_middle.trans (.cons _ ?_);rw[cw]
  let ZS:=Yh I2;rw[ab,bn,G,c1]at ZS;rw[ZS];by_cases g:3*t.mask<=5*(es.size+1)
  .rw[aw g];simp only[i8,Bool.and_self,if_true];let⟨g1,g2,g3,g4⟩:=Ye S6 H5 g hn1;let⟨o1,J,afN,L,hf1,hb1,afO⟩:=m1;let⟨kk,k3,k13,ek⟩:=aa8 g1;let Y:((SetTable.insertAt es (SetTable.below t.place j) (vk.hash k,Value.ref b)).map (·.1)).size=es.size+1:=by rw[Array.size_map,G]
   let⟨t3,D,el,f1,f2,f3,fp,I3⟩:=aa6 ek k3 k13 ((SetTable.insertAt es (SetTable.below t.place j) (vk.hash k,Value.ref b)).map (·.1)) (by rw[Y];show g2) d.finger (d.movedTo (SetTable.sizeAbove (SetTable.grown (es.size+1))-1)) d.led d.plain;let erl:d.relaid ((SetTable.insertAt es (SetTable.below t.place j) (vk.hash k,Value.ref b)).map (·.1)) (SetTable.grown (es.size+1))=some (t3,D):=el;calc aa ?_;unfold setRelay;calc aa (fi (s:={s with heap:=h1}) J L hf1 ?_);dsimp only;rw[if_neg (Nat.not_lt.mpr g4),erl];rw[Y,<-G]at fp;let⟨_,_,_,M,hh3⟩:=K2.perm (λk v z=>z) fp;rw[rg,<-hh3]at I3;calc aa ?_;show wpAny _ _ (if ((D.filterMap λi=>(SetTable.insertAt es (SetTable.below t.place j) (vk.hash k,Value.ref b))[i]?).size != (SetTable.insertAt es (SetTable.below t.place j) (vk.hash k,Value.ref b)).size)=true then _ else _) _ _ _;rw[M];simp only[bne_self_eq_false,a6,if_false];calc ag ?_;dsimp only;calc CV (w:=w) (s:={s with heap:=h1}) ⟨o1,J,afN,L,hf1,hb1,afO⟩ I3.fits f2 (f3.trans c5) (by rw[M,G];show es.size+1<4096;lia) λh2 Z m2=>?_;let afP:∀its n,o1.data≠.seq its n:=λits n z=>by rw[L]at z;cases z
   let⟨F,pk,K3,_,_⟩:=K2.perm (h':=h2) (λk v z=>kps z J afP Z) fp;show ag (q2 hk h2 F (N.trans Z) ⟨_,_,t3,m2,I3,K3,by rw[f1];show g1,by rw[M,G,f1];show g3⟩ (pk.trans pm))
  .rw[al g];simp only[i8,kG,a6,if_false];show ag (q2 hk h1 _ N ⟨_,_,d,m1,I2,K2,by rw[c1];show S6,by rw[G,c1];show rc g⟩ pm)
 let afQ:(t.put j).snd=SetTable.below t.place j:=rfl;rw[afQ];cases O:(t.put j).1.plain with
 | true=>simp only[if_true];calc aa (hbv hx ?_);simp only[a6,if_false];show q _ rQ rQ rQ rQ rfl
 | false=>
  simp only[a6,if_false]
  first| show q _ rQ rQ rQ rQ O| show aa (ag (q _ rQ rQ rQ rQ O))
end
section
variable {P:Program}{w:World}{κ κ1 κ2:Type}[DecidableEq κ][DecidableEq κ1][DecidableEq κ2]
def aa9 {A:Around}{E:AB}{s:Shared}{a:Addr}{o:Obj}{its:Array Value}{n d:Nat}{Q:Bool->Shared->Prop}(B:s.heap.get? a=some o)(F:o.cls=.type "tuple")(hd:o.data=.seq its n)(J:∀v∈its.toList,∀(D:Bool->Shared->Prop) (G:AB),D false s->wpAny (model P w) A (ofAClassStatement d v) D G s)(q:Q false s):wpAny (model P w) A (ofAClassStatement (d+1) (.ref a)) Q E s:=by
 let L:s.TypeIs (.ref a) "tuple":=⟨o,B,F⟩
 unfold ofAClassStatement;calc aa (oy L ?_);simp only[beq_self_eq_true,if_true];calc aa (ag ?_);simp only[eR,a6,if_false];calc aa (fE B hd (aa ?_));show wpAny _ _ (forIn its _ _) _ _ s;rw[<-oI];refine kR _ (λrest r s1=>r.1=none/\s1=s/\∀v∈rest,v∈its.toList) _ ?_ ?_ _ _ ⟨rQ,rQ,λv hv=>hv⟩
 .intro v rest r s1 z;let⟨j,rfl,g⟩:=z;calc aa (J v (g v ax) _ _ ?_);simp only[a6,if_false];show ag ⟨rQ,rQ,λx hx=>g x (ay _ hx)⟩
 .rintro⟨r1,M⟩ s1 ⟨j,rfl,_⟩;let j:r1=none:=j;subst j;show ag q
def aa_:jE (tu (cQ P w)):=by
 intro A E s k v Q n _ h q;rcases cV (show jc k v=true from h) with⟨i,t,rfl,rfl⟩|⟨x,t,rfl,rfl⟩
 .cases n <;> show ag q
 .cases n <;> show ag q
def Vh {vk:fu P w κ}(g:jE vk):jE (tupK vk):=by
 intro A E s k v Q n hn z q;let⟨a,J,M,its,rfl,h1,j,B,D⟩:=z;let hn:vk.deep+1<=n:=hn;obtain⟨m,rfl⟩:∃m,n=m+1:=⟨n-1,vT⟩
 calc aa9 h1 j B (λv hv N L F=>?_) q;let⟨G,d⟩:=D.mem hv;show g m (dq hn) d F
def Vi {h h':Heap}{a d:Addr}{o j:Obj}{its:Array Value}{n:Nat}(h1:h.get? a=some j)(B:j.data=.seq its n)(q:h.get? d=some o)(hd:∀its n,o.data≠.seq its n)(hs:Heap.SameBut d h h'):h'.get? a=some j:=by
 let g:a≠d:=by rintro rfl;rw[h1]at q;cases q;show hd _ _ B
 show(hs.2 a g).trans h1
def abb:uO (tu (cQ P w)):=λh _ _ _=>h
theorem KC {vk:fu P w κ}(j:uO vk){h h':Heap}{d:Addr}{o:Obj}(g:h.get? d=some o)(hd:∀its n,o.data≠.seq its n)(hs:Heap.SameBut d h h'):∀{x:List κ} {vs:List Value},jy vk h x vs->jy vk h' x vs
 | [],[],_=>trivial
 | [],_::_,a=>a.elim
 | _::_,[],a=>a.elim
 | _::_,_::_,a=>⟨j a.1 g hd hs,KC j g hd hs a.2⟩
def Vj {vk:fu P w κ}(D:uO vk):uO (tupK vk):=by intro h h' k v d o z j hd hs;let⟨a,q,n,its,rfl,h1,B,g,F⟩:=z;show⟨a,q,n,its,rQ,Vi h1 g j hd hs,B,g,KC D j hd hs F⟩
noncomputable def RM (vk:fu P w κ)(p:κ->Prop):fu P w κ where
 is:=λh k v=>vk.is h k v/\p k
 hash:=vk.hash
 draws:=vk.draws
 deep:=vk.deep
 inj:=λh1 g=>vk.inj h1.1 g.1
 keeps:=λh j hd hs=>⟨vk.keeps h.1 j hd hs,h.2⟩
 pyHash:=λd h q=>vk.pyHash d h.1 q
 eqBool:=λd h1 g q=>vk.eqBool d h1.1 g.1 q
 quiet:=λn hn h q=>vk.quiet n hn h.1 q
def adJ {vk:fu P w κ}{p:κ->Prop}(d:jE vk):jE (RM vk p):=λn hn h q=>d n hn h.1 q
def adK {vk:fu P w κ}{p:κ->Prop}(g:uO vk):uO (RM vk p):=λh d hd hs=>⟨g h.1 d hd hs,h.2⟩
end
abbrev KD:=List (List Key)
def ae7 (k:KD):Prop:=k≠[]/\∀t∈k,∃(i j:Int) (x:Str),t=[Sum.inl i,Sum.inl j,Sum.inr x]
def Fw (P:Program)(w:World):fu P w KD:=RM (tupK (tupK (tu (cQ P w)))) ae7
section
variable {P:Program}{w:World}
def adL:jE (Fw P w):=adJ (Vh (Vh aa_))
def adM:uO (Fw P w):=adK (Vj (Vj abb))
def Pz {A:Around}{E:AB}{s:Shared}{a:Addr}{o:Obj}{its:Array Value}{n d:Nat}{Q:Bool->Shared->Prop}(F:s.heap.get? a=some o)(G:o.cls=.type "tuple")(hd:o.data=.seq its n){pre:List Value}{v:Value}{post:List Value}(J:its.toList=pre++v::post)(g:∀x∈pre,∀(B:Bool->Shared->Prop) (D:AB),B true s->wpAny (model P w) A (hashByValue d x) B D s)(hv:∀(B:Bool->Shared->Prop) (D:AB),B false s->wpAny (model P w) A (hashByValue d v) B D s)(q:Q false s):wpAny (model P w) A (hashByValue (d+1) (.ref a)) Q E s:=by
 let L:s.TypeIs (.ref a) "tuple":=⟨o,F,G⟩
 unfold hashByValue;calc aa (ml L nt.lookup ?_);dsimp only;calc aa (fE F hd (aa ?_));show wpAny _ _ (forIn its _ _) _ _ s;rw[<-oI,J];refine kR _ (λrest r s1=>r.1=none/\s1=s/\∃p2,rest=p2++v::post/\∀x∈p2,x∈pre) _ ?_ ?_ _ _ ⟨rQ,rQ,pre,rQ,λx hx=>hx⟩
 .intro x rest r s1 z;let⟨M,rfl,p2,e,j⟩:=z;cases p2 with
  | nil=>have e:x::rest=v::post:=e;cases e;calc aa (hv _ _ ?_);simp only[i8,if_true];show ag (ag q)
  | cons y p2=>have e:x::rest=y::(p2++v::post):=e;cases e;calc aa (g _ (j _ ax) _ _ ?_);simp only[eR,a6,if_false];show ag ⟨rQ,rQ,p2,rQ,λz hz=>j z (ay _ hz)⟩
 .intro r s1 z;let⟨_,rfl,p2,e,_⟩:=z;cases p2 <;> cases e
def abd:Kw (Fw P w):=by
 rintro A E s k v Q ⟨⟨a,o,n,its,rfl,h1,hc,h2,L⟩,O,J⟩ q;cases k with
 | nil=>show absurd rQ O
 | cons t k=>
  let⟨i,j,x,rfl⟩:=J t ax;cases hi:its.toList with
  | nil=>rw[hi]at L;show L.elim
  | cons v vs=>
   rw[hi]at L;obtain⟨⟨a2,o2,n2,B,rfl,g1,gc,g2,g⟩,_⟩:=L;let g:jy (tu (cQ P w)) s.heap [Sum.inl i,Sum.inl j,Sum.inr x] B.toList:=g;obtain⟨D,F,G,e2,y1,y2,y3⟩:∃D F G,B.toList=[D,F,G]/\jc (Sum.inl i) D=true/\jc (Sum.inl j) F=true/\jc (Sum.inr x) G=true:=by
    cases e2:B.toList with
    | nil=>rw[e2]at g;show g.elim
    | cons D r1=>
     rw[e2]at g;cases r1 with
     | nil=>show g.2.elim
     | cons F r2=>
      cases r2 with
      | nil=>show g.2.2.elim
      | cons G r3=>
       cases r3 with| nil=>show⟨D,F,G,rQ,g.1,g.2.1,g.2.2.1⟩| cons u4 r4=>show g.2.2.2.elim
   let N:∀(z:Int) (u:Value),jc (Sum.inl z) u=true->∃t,u=.int z t:=λz u h=>by
    rcases cV h with⟨i',t,e,rfl⟩|⟨x',t,e,rfl⟩;.cases e;show⟨t,rQ⟩
    .cases e
   let M:∀(z:Str) (u:Value),jc (Sum.inr z) u=true->∃t,u=.str z t:=λz u h=>by
    rcases cV h with⟨i',t,e,rfl⟩|⟨x',t,e,rfl⟩;.cases e
    .cases e;show⟨t,rQ⟩
   let⟨Y,rfl⟩:=N i D y1;let⟨Z,rfl⟩:=N j F y2;let⟨t3,rfl⟩:=M x G y3;calc Pz (d:=7) h1 hc h2 (pre:=[]) (v:=.ref a2) (post:=vs) hi (λz hz=>by simp at hz) (λQ' E' q'=>?_) q;calc Pz (d:=6) g1 gc g2 (pre:=[.int i Y,.int j Z]) (v:=.str x t3) (post:=[]) e2 (λz hz Q2 E2 q2=>?_) (λQ2 E2 q2=>ag q2) q';let hz:z=.int i Y\/z=.int j Z:=by simpa using hz
   rcases hz with rfl|rfl;.show ag q2
   .show ag q2
end
def gF (h h':Heap):Prop:=∀b o its n,h.get? b=some o->o.data=.seq its n->h'.get? b=some o
section
variable {P:Program}{w:World}{κ:Type}[DecidableEq κ]
def uP (vk:fu P w κ):Prop:=∀{h h':Heap} {k:κ} {v:Value},vk.is h k v->gF h h'->vk.is h' k v
def abe:uP (tu (cQ P w)):=λh _=>h
theorem KH {vk:fu P w κ}(d:uP vk){h h':Heap}(hs:gF h h'):∀{x:List κ} {vs:List Value},jy vk h x vs->jy vk h' x vs
 | [],[],_=>trivial
 | [],_::_,a=>a.elim
 | _::_,[],a=>a.elim
 | _::_,_::_,a=>⟨d a.1 hs,KH d hs a.2⟩
def Vk {vk:fu P w κ}(j:uP vk):uP (tupK vk):=by intro h h' k v z hs;let⟨a,g,n,its,rfl,h1,q,d,B⟩:=z;show⟨a,g,n,its,rQ,hs _ _ _ _ h1 d,q,d,KH j hs B⟩
def adO {vk:fu P w κ}{p:κ->Prop}(d:uP vk):uP (RM vk p):=λh hs=>⟨d h.1 hs,h.2⟩
def adP:uP (Fw P w):=adO (Vk (Vk abe))
def pX.mv {vk:fu P w κ}(F:uP vk){h h':Heap}{a:Addr}{ks:List κ}(m:pX vk h a ks)(k:∀o,h.get? a=some o->h'.get? a=some o)(hs:gF h h'):pX vk h' a ks:=by let⟨es,ep,t,m1,I,K,D,q⟩:=m;show⟨es,ep,t,m1.mv k,I,⟨K.len,λi e k h1 g=>by let⟨j,d,B⟩:=K.at_ i e k h1 g;show⟨F j hs,d,B⟩,K.nd⟩,D,q⟩
def RN (vk:fu P w κ){h:Heap}{a:Addr}(e:h.get? a=some {cls:=.type "set",dict:=none,data:=.set #[] 0 (.fresh 0 0 (!w.params.followText "set-order"))}):pX vk h a []:=by refine⟨#[],0,_,⟨_,e,⟨rQ,rQ,rQ⟩,rQ,rQ,by cases q:w.params.followText "set-order" <;> simp[SetTable.fresh,q],.inr rQ⟩,⟨List.Pairwise.nil,rQ,rQ,⟨3,v_,v_,rQ⟩,λj d=>by simp[SetTable.fresh]at d,cn _,λi j h e1=>by simp at e1⟩,⟨rQ,λi e k h1=>by simp at h1,nw⟩,.inl rQ,(by decide:5*0<3*7)⟩
end
section
variable {prog:Program}{w:World}{κ:Type}[DecidableEq κ]{vk:fu prog w κ}{A:Around}{I:Addr}{fp wr:List Addr}{n:Nat}{P:Nat->Value->Prop}{St:Nat->Heap->Prop}{R:Result->Shared->Prop}
def Vl (iM:vk.deep<=8)(nc:jE vk)(kt:uP vk)(kps:uO vk)(hbv:Kw vk)(hu:A.in1.units+vk.deep<cLine+1)(W:Walks prog w A.in1 I fp wr n P St)(d:Addr)(M:d∉fp)(val:Nat->κ)(h0:Heap)(hval:∀i v,P i v->∃b,v=.ref b/\vk.is h0 (val i) v)(Z:∀(i:Nat) (h:Heap) b o its m,St i h->b∈wr->h.get? b=some o->o.data≠.seq its m)(g:n<=3999):∀(k i:Nat) (s:Shared),n-i=k->i<=n->St i s.heap->gF h0 s.heap->(∃ks,ks.length<=i/\(∀x,x∈ks↔x∈(List.range i).map val)/\pX vk s.heap d ks)->
   (∀h' L ks,(∀b o,b∉d::wr->s.heap.get? b=some o->h'.get? b=some o)->ks.length<=n->(∀x,x∈ks↔x∈(List.range n).map val)->pX vk h' d ks->R (.ok (.ret .none)) {s with heap:=h',toks:=L})->
   codeAny (model prog w) A (.builtin "set.update.loop" ⟨[.ref d,.ref I],[]⟩) R s:=by
 let N:d∉wr:=λh=>M (W.sub _ h);let sub:∀b,b∉d::wr->b∉wr:=λb g h=>g (ay _ h);intro k
 induction k with
 | zero=>
  intro i s hk hi j hrs hS hR;let jX:i=n:=by grind
  subst jX;calc kg F.entry_set_update_loop ?_;rw[kD lS _];show wpAny _ A.in1 (pyNext (.ref I) >>= _) _ _ s;calc aa (W.done s _ _ j λh' L hm=>?_);show wpAny _ A.in1 (ret Value.none) _ _ _;let⟨ks,l1,l2,l3⟩:=hS;let O:gF s.heap h':=λb o its m e1 e2=>by
   by_cases z:b∈wr;.show absurd e2 (Z _ s.heap b o its m j z e1)
   .show hm b o z e1
  show ag (hR h' L ks (λb o g e=>hm b o (sub b g) e) l1 l2 (l3.mv kt (λo e=>hm d o N e) O))
 | succ k ih=>
  intro i s hk hi j hrs hS hR;let G:i<n:=Nat.lt_of_sub_eq_succ hk;calc kg F.entry_set_update_loop ?_;rw[kD lS _];show wpAny _ A.in1 (pyNext (.ref I) >>= _) _ _ s;calc aa (W.item i s _ _ G j λv h1 L hP q hm=>?_);let⟨b0,rfl,hv0⟩:=hval i v hP;let⟨ks,l1,l2,l3⟩:=hS;let Y:gF s.heap h1:=λb o its m e1 e2=>by
   by_cases z:b∈wr;.show absurd e2 (Z _ s.heap b o its m j z e1)
   .show hm b o z e1
  let B:gF h0 h1:=λb o its m e1 e2=>Y b o its m (hrs b o its m e1 e2) e2;let m1:=l3.mv kt (λo e=>hm d o N e) Y;let hv1:=kt hv0 B;show wpAny _ A.in1 (holding [Value.ref b0] (setAdd d (.ref b0)) >>= _) _ _ _;calc aa (eD ?_);unfold setAdd;calc eD ?_;calc aa (vk.pyHash (s:={s with heap:=h1,toks:=L}) hu hv1 ?_);refine Yi (s:={s with heap:=h1,toks:=L+vk.draws (val i)}) iM nc kps hbv hu m1 hv1 vT (λjX=>?_) λhni h2 ks2 sb m2 pm=>?_
  .refine ag ⟨plainId_quiet lS _,ih (i+1) _ (f8 vT) G q B ⟨ks,gz l1,λx=>?_,m1⟩ λh3 D J Vm l4 l5 m3=>?_⟩
   .rw[eQ,b9,a9,<-l2];show⟨.inl,λz=>z.elim id λy=>by rw[show x=val i by simpa using y];show jX⟩
   .show hR h3 D J (λb o g e=>Vm b o g (hm b o (sub b g) e)) l4 l5 m3
  .let st2:gF h1 h2:=λb o its m e1 e2=>by
    by_cases z:b=d
    .obtain⟨_,_,_,⟨o2,y1,_,y2,_⟩,_⟩:=m1;rw[z,y1]at e1;cases e1;rw[y2]at e2;cases e2
    .rw[sb.2 b z];show e1
   let ZP:gF h0 h2:=λb o its m e1 e2=>st2 b o its m (B b o its m e1 e2) e2;refine ag ⟨plainId_quiet lS _,ih (i+1) _ vT G (W.frame _ h1 _ q λb g o e=>?_) ZP ⟨ks2,by rw[pm.length_eq,bu];show gm l1,λx=>?_,m2⟩ λh3 D J Vm l4 l5 m3=>?_⟩
   .show h2.get? b=some o;rw[sb.2 b (λh:b=d=>M (by rw[<-h];show g))];show e
   .rw[pm.mem_iff,a_,l2,eQ,b9,a9,bX,kM,am];show Or.comm
   .calc hR h3 D J (λb o g e=>Vm b o g ?_) l4 l5 m3;show h2.get? b=some o;rw[sb.2 b (λh:b=d=>g (by rw[h];show ax))];show hm b o (sub b g) e
end
section
variable {prog:Program}{w:World}{κ:Type}[DecidableEq κ]{vk:fu prog w κ}{A:Around}{E:AB}{s:Shared}
def Vn (iM:vk.deep<=8)(nc:jE vk)(kt:uP vk)(Y:uO vk)(hbv:Kw vk)(hu:A.units+8+vk.deep<cLine){g l:Addr}{d:Array Value}{val:Nat->κ}{Q:Unit->Shared->Prop}(hh:A.handled=none)(M:s.heap.IsList l d)(hS:pX vk s.heap g [])(Z:g≠l)(N:g<s.heap.objs.size)(G:∀i v,d[i]?=some v->∃b,v=Value.ref b/\vk.is s.heap (val i) v)(hb:d.size<=3999)(q:∀h' tk ks,(∀b o,b≠g->s.heap.get? b=some o->h'.get? b=some o)->ks.length<=d.size->(∀x,x∈ks↔x∈(List.range d.size).map val)->pX vk h' g ks->Q () {s with heap:=h',toks:=tk}):wpAny (model prog w) A (Builtin.Frozenset.updateFrom "set.__init__" g (.ref l)) Q E s:=by
 let⟨ol,hol,D,nl,B⟩:=id M;let⟨ocls,odict,odata,J⟩:=ol;simp only at D B;subst D;subst B;let hsls:=F.sub_list_set;let hslf:=F.sub_list_frozenset;let hnd:(Value.type "list" == Value.type "dict")=false:=by decide
 unfold Builtin.Frozenset.updateFrom;generalize hPI:pyIter=PI
 wp_walk
 subst hPI;calc mP M ?_;calc aa (wpAny_runValue ?_);let L:l<s.heap.objs.size:=a7 hol;let j:l≠s.heap.objs.size:=bb L;let Dj:∀ob:Obj,gF s.heap (s.heap.push ob):=λob b o its m e _=>ae _ e;refine Vl iM nc kt Y hbv ?_ (Walks.list (by simp[hh]) _ l j d) g (by simp only[a_,gu,or_false,not_or];show⟨bb N,Z⟩) val s.heap G ?_ hb (d.size-0) 0 _ rQ (cn _)
  ⟨⟨_,ap _ rQ,rQ,rQ⟩,M.push _⟩ (Dj _) ⟨[],cn _,λx=>by simp,hS.mv kt (λo e=>ae _ e) (Dj _)⟩ λh' tk ks k l1 l2 m=>?_
 .show A.units+1+vk.deep<cLine+1;lia
 .rintro i h b o its m ⟨⟨o2,y1,_,y2⟩,_⟩ O e z;rw[am.mp O,y1]at e;cases e;rw[y2]at z;cases z
 .calc ag ?_;calc q h' tk ks (λb o hb e=>k b o ?_ (ae _ e)) l1 l2 m;simp only[a_,gu,or_false,not_or];show⟨hb,bb (a7 e)⟩
end
section
variable {prog:Program}{w:World}{A:Around}{E:AB}{s:Shared}
def Vo {d:Value}{Φ:Heap->Prop}{Q:AB}(hh:A.handled=none)(Y:∀(q:Around) (Z:AB) (O:Unit->Shared->Prop) (h1:Heap),q.handled=none->q.units<=A.units+6->h1.objs.size=s.heap.objs.size+1->h1.get? s.heap.objs.size=some {cls:=.type "set",dict:=none,data:=.set #[] 0 (.fresh 0 0 (!w.params.followText "set-order"))}->(∀b o,s.heap.get? b=some o->h1.get? b=some o)->
   (∀h' g,(∀b o,s.heap.get? b=some o->h'.get? b=some o)->Φ h'->O () {s with heap:=h',toks:=g})->
   wpAny (model prog w) q (Builtin.Frozenset.updateFrom "set.__init__" s.heap.objs.size d) O Z {s with heap:=h1})
  (h:∀h' g,(∀b o,s.heap.get? b=some o->h'.get? b=some o)->Φ h'->Q (.ref s.heap.objs.size) {s with heap:=h',toks:=g}) :
  wpAny (model prog w) A (call (.type "set") [d]) Q E s:=by
 let⟨c,tl,J⟩:=kS.mro;let B:=kS.made;let L:=kS.sub;calc ul (codeAny_of_tree ?_);show wpAny _ _ (callAny (.type "set") _) _ _ _;calc ag ⟨Code.quiet_builtin _ wc,kg F.entry_type_call ?_⟩;rw[Around.under_plain (weight_type_call_type "set" [d] []) rfl];let h1:=kS.notType;let h2:=kS.canCreate;let hct:=F.typeCall_set_1 d
 repeat (any_goals (first|assumption|wp_step))
 calc iA (Iw d (E:=E) (Q₁:=λobj M=>obj=.ref s.heap.objs.size/\M={s with heap:=s.heap.push {cls:=.type "set",dict:=none,data:=.set #[] 0 (.fresh 0 0 (!w.params.followText "set-order"))} }) ⟨rQ,rQ⟩) λr M D=>?_;cases r with
 | error e=>show D
 | ok fl=>
  cases fl with
  | ret obj=>
   let⟨rfl,rfl⟩:=D;let G:(s.heap.push {cls:=.type "set",dict:=none,data:=.set #[] 0 (.fresh 0 0 (!w.params.followText "set-order"))}).get? s.heap.objs.size=some {cls:=.type "set",dict:=none,data:=.set #[] 0 (.fresh 0 0 (!w.params.followText "set-order"))}:=ap _ rfl;let hT:Shared.TypeIs {s with heap:=s.heap.push {cls:=.type "set",dict:=none,data:=.set #[] 0 (.fresh 0 0 (!w.params.followText "set-order"))} } (.ref s.heap.objs.size) "set":=⟨_,G,rQ⟩
   let hli:=kS.init.lookup;let hbi:=kS.init.bind (.ref s.heap.objs.size)
   repeat (any_goals (first|assumption|wp_step))
   refine iA (sr (R:=wants (λr N=>r=.none/\∃h' g,N={s with heap:=h',toks:=g}/\(∀b o,s.heap.get? b=some o->h'.get? b=some o)/\Φ h') E) kS.init.plain F.entry_set_init (check_set_init_1 hT ?_)) λr₂ N j=>?_
   .unfold Builtin.«set.__init__» noKeywords;generalize hU:Builtin.Frozenset.updateFrom=U
    wp_walk
    subst hU;calc Y _ _ _ _ (by simp[hh]) (show A.units+1+1<=A.units+6 by lia) (dC ..) G (λb o e=>ae _ e) λh' g k m=>?_;calc ag ?_;show⟨rQ,h',g,rQ,k,m⟩
   .cases r₂ with
    | error e=>show j
    | ok fl₂=>
     cases fl₂ with
     | ret r=>
      let⟨rfl,h',g,rfl,k,m⟩:=j
      repeat (any_goals (first|assumption|wp_step))
      show h _ _ k m
     | _=>show j.elim
  | _=>show D.elim
end
section
variable {prog:Program}{w:World}{κ:Type}[DecidableEq κ]{vk:fu prog w κ}{A:Around}{E:AB}{s:Shared}
def Vp (N:vk.deep<=8)(M:jE vk)(L:uP vk)(F:uO vk)(G:Kw vk)(hu:A.units+14+vk.deep<cLine){l:Addr}{d:Array Value}{val:Nat->κ}{Q:AB}(hh:A.handled=none)(J:s.heap.IsList l d)(j:∀i v,d[i]?=some v->∃b,v=Value.ref b/\vk.is s.heap (val i) v)(Z:d.size<=3999)(q:∀h' g ks,(∀b o,s.heap.get? b=some o->h'.get? b=some o)->ks.length<=d.size->(∀x,x∈ks↔x∈(List.range d.size).map val)->pX vk h' s.heap.objs.size ks->Q (.ref s.heap.objs.size) {s with heap:=h',toks:=g}):wpAny (model prog w) A (call (.type "set") [.ref l]) Q E s:=by
 let D:l<s.heap.objs.size:=by let⟨o,O,_⟩:=J;show a7 O
 calc Vo (Φ:=λh'=>∃ks:List κ,ks.length<=d.size/\(∀x,x∈ks↔x∈(List.range d.size).map val)/\pX vk h' s.heap.objs.size ks) hh (λA' E' Q' h1 B Y s1 e1 k1 q1=>?_) λh' g k ⟨ks,l1,l2,m⟩=>q h' g ks k l1 l2 m;let rs:gF s.heap h1:=λb o its n e _=>k1 b o e;refine Vn (val:=val) (s:={s with heap:=h1}) N M L F G vT B (J.at λo e=>k1 _ o e) (RN vk e1) (gg D) (by show s.heap.objs.size<h1.objs.size;simp_all) (λi v hv=>?_) Z λh' g ks k l1 l2 m=>?_
 .let⟨b,e,hi⟩:=j i v hv;show⟨b,e,L hi rs⟩
 .show q1 h' g (λb o e=>k b o (bb (a7 e)) (k1 b o e)) ⟨ks,l1,l2,m⟩
end
@[reducible] def nP (cf:Addr->List Nat) (as:List Addr):PyProof.Rows.KeyKind:={PyProof.Rows.strKind with keyOf:=λv=>match v with|.ref a=>if a∈as then some (cf a) else none|_=>none}
def vO {cf:Addr->List Nat}{as:List Addr}{v:Value}{k:List Nat}(h:(nP cf as).keyOf v=some k):∃a,v=.ref a/\a∈as/\k=cf a:=by
 cases v <;> first|(cases h;done)|skip;rename_i a;by_cases m:a∈as
 .have:(nP cf as).keyOf (.ref a)=some (cf a):=if_pos m;rw[this]at h;show⟨a,rQ,m,(be h).symm⟩
 .have:(nP cf as).keyOf (.ref a)=none:=if_neg m;rw[this]at h;cases h
theorem vP:∀vs:List Value,vs.zip vs=vs.map λv=>(v,v)
 | []=>rfl
 | v::vs=>congrArg ((v,v) :: ·) (vP vs)
def Fx {cf:Addr->List Nat}{as:List Addr}{a:Addr}(m:a∈as):(nP cf as).keyOf (.ref a)=some (cf a):=if_pos m
section
variable {prog:Program}{w:World}{A:Around}{E:AB}{s:Shared}
def KJ {κ:PyProof.Rows.KeyKind}{kn:SortKind}{a:Addr}{vs:List Value}{n:Nat}{P:PySem.Fin->Shared->Prop}(L:s.heap.get? a=some (seqObj "list" vs.toArray n))(hz:vs.length<=4000)(Y:KeysOf κ (pairsOf vs))(hk:2<=vs.length->∀(h':Heap) (Q:SortKind->Shared->Prop),(∀b o,s.heap.get? b=some o->b≠a->h'.get? b=some o)->Q kn {s with heap:=h' }->wpAny (model prog w) A (keyKind' vs.toArray) Q E {s with heap:=h' })(O:∀(h':Heap),(∀b o,s.heap.get? b=some o->b≠a->h'.get? b=some o)->jf prog w A {s with heap:=h' } κ kn)(h:∀(h':Heap) (out:List Value),out.Perm vs->out.Pairwise (λx y=>κ.kle ((κ.keyOf x).getD κ.dflt) ((κ.keyOf y).getD κ.dflt))->(∀b o,s.heap.get? b=some o->b≠a->h'.get? b=some o)->(∃e,h'.get? a=some (seqObj "list" out.toArray e))->P (.done (.ret .none)) {s with heap:=h' }):wpAny (model prog w) A (Builtin.«list.sort» ⟨[.ref a],[]⟩) P E s:=by
 rw[list_sort_plain];let ha:a<s.heap.objs.size:=a7 L;let B:vs.length<=sizeLine:=aS hz v_;calc aa (listItems_at L rQ ?_);calc aa (listUpdate_at L rQ ?_ (by rw[bz];show B) (cn _));obtain⟨e1,G⟩:∃e1,(s.heap.update a (Obj.mapSeq λ_=>#[])).get? a=some (seqObj "list" #[] e1):=⟨_,get?_update_seq L (λ_=>#[])⟩
 calc aa (seqEpoch_at G rQ ?_);calc aa (wpAny_newTuple ?_ (by show vs.length<=_;show B));calc aa (wpAny_newList ?_ (cn _));calc eD ?_;let d:(((s.heap.update a (Obj.mapSeq λ_=>#[])).push (seqObj "tuple" vs.toArray 0)).push (seqObj "list" #[] 0)).get? a=some (seqObj "list" #[] e1):=by rw[uk _ _ _ (by rw[size_push',Heap.size_update];show bb (eL ha)),uk _ _ _ (by rw[Heap.size_update];show bb ha)];show G
 let J:∀b o,s.heap.get? b=some o->b≠a->(((s.heap.update a (Obj.mapSeq λ_=>(#[]:Array Value))).push (seqObj "tuple" vs.toArray 0)).push (seqObj "list" #[] 0)).get? b=some o:=λb o e M=>by calc ae _ (ae _ ?_);rw[tj _ _ _ _ M];show e
 show wpAny (model prog w) A _ P E {s with heap:=((s.heap.update a (Obj.mapSeq λ_=>#[])).push (seqObj "tuple" vs.toArray 0)).push (seqObj "list" #[] 0)};dsimp only;generalize ((s.heap.update a (Obj.mapSeq λ_=>(#[]:Array Value))).push (seqObj "tuple" vs.toArray 0)).push (seqObj "list" #[] 0)=Dm at d J ⊢;let F:∀(out:Array Value),out.toList.Perm vs->out.toList.Pairwise (λx y=>κ.kle ((κ.keyOf x).getD κ.dflt) ((κ.keyOf y).getD κ.dflt))->P (.done (.ret .none)) {s with heap:=Dm.update a (Obj.mapSeq λ_=>out)}:=λout Z sp=>by
  calc h _ out.toList Z sp (λb o e M=>?_) ?_;.rw[tj _ _ _ _ M];show J b o e M
  .rw[sf];show⟨_,get?_update_seq d λ_=>out⟩
 by_cases g:vs.toArray.size<2
 .let D:vs.length<2:=by rw[bz]at g;show g
  rw[if_pos g,if_pos g];calc aa (ag ?_);rw[StateT.run_pure];calc aa (ag ?_);dsimp only;let N:(arrOf (SortSt.mk' general' (vs.toArray.zip vs.toArray) #[] 7 none)).map (·.2)=vs.toArray:=by let e0:(arrOf (SortSt.mk' general' (vs.toArray.zip vs.toArray) #[] 7 none))=vs.toArray.zip vs.toArray:=rfl;rw[e0];apply kN.mp;rw[rg,vn,vP,dS];show kF _
  calc aa (seqEpoch_at d rQ ?_);calc aa (listUpdate_at d rQ ?_ (cn _) (by rw[N,bz];show gz B));simp only[bne_self_eq_false,a6,if_false];calc ag (F _ (by rw[N]) ?_);rw[N];show vs.Pairwise _;show(show ∀(R:Value->Value->Prop) (u:List Value),u.length<2->u.Pairwise R from λR u h=>by
   cases u with
   | nil=>show .nil
   | cons v r=>
    cases r with
    | nil=>show List.pairwise_singleton _ _
    | cons w r=>show absurd h (Nat.not_lt.mpr (Nat.le_add_left 2 r.length))) _ vs D
 .let D:2<=vs.length:=by rw[bz]at g;show kQ g
  rw[if_neg g,if_neg g];calc aa (hk D Dm _ J ?_);refine aa (eW (X7 (κ:=κ) (kn:=kn) (O Dm J) (st:=SortSt.mk' kn (vs.toArray.zip vs.toArray) #[] 7 none)
   (Q:=λ_ st'=>failedOf st'=none/\(arrOf st').toList.Perm (pairsOf vs).toList/\(arrOf st').toList.Pairwise (kL κ)) rQ rQ rQ Y λst' a1 a2 a3=>⟨a1,a2,a3⟩) ?_ λ_ _ e=>e)
  rintro⟨⟨⟩,st'⟩ s' ⟨rfl,hf,hp,hs⟩;dsimp only;let pv:(pairsOf vs).toList=vs.map λv=>(v,v):=by show (vs.toArray.zip vs.toArray).toList=_;rw[vn];show vP vs
  rw[pv]at hp;let hm:∀p∈(arrOf st').toList,p.1=p.2:=λp j=>by let⟨v,_,rfl⟩:=aT.mp (hp.mem_iff.mp j);rfl
  let pm:((arrOf st').map (·.2)).toList.Perm vs:=by rw[rg];have:=hp.map (·.2);rw[dS]at this;show this.trans (vy (kF _))
  let sm:((arrOf st').map (·.2)).toList.Pairwise (λx y=>κ.kle ((κ.keyOf x).getD κ.dflt) ((κ.keyOf y).getD κ.dflt)):=by rw[rg,fk];calc kU (λ{p q} j hqm hpq=>?_) hs;rw[<-hm p j,<-hm q hqm];show hpq
  refine aa (seqEpoch_at d rQ (aa (listUpdate_at d rQ ?_ (cn _) (gz ?_))))
  .rw[hf];simp only[bne_self_eq_false,a6,if_false];show ag (F _ pm sm)
  .have:=pm.length_eq;rw[bn]at this;simp[*]
def Hw {v:Value}{Q:AB}(F:wpAny (model prog w) A.in1 (collect v) (λvs s1=>∃(κ:PyProof.Rows.KeyKind) (kn:SortKind),vs.length<=4000/\KeysOf κ (pairsOf vs)/\
   (2<=vs.length->∀(h':Heap) (Q:SortKind->Shared->Prop) (E:AB),(∀b o,s1.heap.get? b=some o->h'.get? b=some o)->Q kn {s1 with heap:=h' }->wpAny (model prog w) A.in1.in1 (keyKind' vs.toArray) Q E {s1 with heap:=h' })/\
   (∀(h':Heap),(∀b o,s1.heap.get? b=some o->h'.get? b=some o)->jf prog w A.in1.in1 {s1 with heap:=h' } κ kn)/\
   ∀(h':Heap) (out:List Value) (e:Nat),(∀b o,s1.heap.get? b=some o->h'.get? b=some o)->out.Perm vs->out.Pairwise (λx y=>κ.kle ((κ.keyOf x).getD κ.dflt) ((κ.keyOf y).getD κ.dflt))->h'.get? s1.heap.objs.size=some (seqObj "list" out.toArray e)->
    Q (.ref s1.heap.objs.size) {s1 with heap:=h' }) E s):wpAny (model prog w) A (call (.builtin "sorted") [v]) Q E s:=by
 calc Calls.call_function_entry kind_sorted plain_sorted entry_sorted (args_sorted1 _) ?_;unfold Builtin.«sorted»;calc aa (m:=checkCount "sorted" 1 1 _) (ag ?_);calc aa (bA F λvs s1 ⟨κ,kn,hz,B,hk,g,h⟩=>?_);calc aa (wpAny_newList ?_ (aS hz v_));let L:(s1.heap.push (seqObj "list" vs.toArray 0)).get? s1.heap.objs.size=some (seqObj "list" vs.toArray 0):=ap _ rfl;let keep:∀b o,s1.heap.get? b=some o->(s1.heap.push (seqObj "list" vs.toArray 0)).get? b=some o:=λb o e=>ae _ e;let nb:∀b o,s1.heap.get? b=some o->b≠s1.heap.objs.size:=λb o q=>bb (a7 q);refine aa (eD (c_ slot_list_sort (s:={s1 with heap:=s1.heap.push (seqObj "list" vs.toArray 0)}) ⟨_,L,rQ⟩ entry_list_sort
  (KJ (s:={s1 with heap:=s1.heap.push (seqObj "list" vs.toArray 0)}) L hz B (λj h' G kp=>hk j h' G _ λb o e=>kp b o (keep b o e) (nb b o e)) (λh' kp=>g h' λb o e=>kp b o (keep b o e) (nb b o e)) λh' out D sp kp d=>⟨_,rQ,?_⟩) (args_list_sort _)))
 let⟨e,d⟩:=d;show ag ⟨_,rQ,h h' out e (λb o z=>kp b o (keep b o z) (nb b o z)) D sp d⟩
end
abbrev T3:=Nat×Nat×Nat
def kj (t:T3):Dt:=.tup [.int t.1,.int t.2.1,.str [t.2.2]]
def yq (t:T3):Nat:=t.1*1000000+t.2.1*1000+t.2.2
def uf (ts:List T3):Dt:=.tup (ts.map kj)
def iV (ts:List T3):List Nat:=ts.map yq
def nQ (t:T3):Prop:=t.2.1<1000/\t.2.2<128
def abf {t u:T3}(h:kj t=kj u):t=u:=by unfold kj at h;injection h with h;injection h with h1 h2;injection h2 with h2 h3;injection h3 with h3 _;injection h1 with h1;injection h2 with h2;injection h3 with h3;injection h3 with h3 _;show qS (ku h1) (qS (ku h2) h3)
def PB {t u:T3}(j:nQ t)(g:nQ u)(h:yq t=yq u):t=u:=by let⟨a,b,c⟩:=t;let⟨d,e,f⟩:=u;let⟨h1,B⟩:=j;let⟨D,q⟩:=g;simp only[yq]at h h1 B D q;let e1:a=d:=vT;subst e1;let e2:b=e:=vT;subst e2;let e3:c=f:=vT;subst e3;rfl
theorem KN:∀{ts us:List T3},(∀t∈ts,nQ t)->(∀u∈us,nQ u)->iV ts=iV us->ts=us
 | [],[],_,_,_=>rfl
 | [],_::_,_,_,h=>by cases h
 | _::_,[],_,_,h=>by cases h
 | t::ts,u::us,h1,h2,h=>by injection h with a b;rw[PB (h1 _ ax) (h2 _ ax) a,KN (λx hx=>h1 x (ay _ hx)) (λx hx=>h2 x (ay _ hx)) b]
section
variable {prog:Program}{w:World}{A:Around}{E:AB}{s:Shared}
def Jw {h:Heap}{v:Value}{t:T3}{as:List Addr}(r:Reads h v (toP (kj t)) as):∃(a:Addr) (o:Obj) (n:Nat) (q B g:Tok),v=.ref a/\h.get? a=some o/\o.cls=.type "tuple"/\o.data=.seq [Value.int t.1 q,Value.int t.2.1 B,Value.str (S [t.2.2]) g].toArray n:=by
 unfold kj at r;simp only[toP,dG]at r;cases r with
 | @tuple a o vs n xs as ho hc hd ra=>
  cases d:vs.toList with
  | nil=>rw[d]at ra;cases ra
  | cons v1 r1=>
   rw[d]at ra;cases ra with
   | cons q1 ra=>
    cases q1 with
    | int i q=>
     cases ra with
     | cons q2 ra=>
      cases q2 with
      | int j B=>
       cases ra with
       | cons q3 ra=>
        cases q3 with| str x g=>cases ra;calc⟨a,o,n,q,B,g,rQ,ho,hc,?_⟩;rw[hd];congr 1;rw[<-d]
def ae8 {p q:Value}{t u:T3}{as bs:List Addr}{Q:AB}(hp:Reads s.heap p (toP (kj t)) as)(hq:Reads s.heap q (toP (kj u)) bs)(ht:nQ t)(hu:nQ u)(L:t≠u)(N:A.units<cLine)(h:Q (.bool (decide (yq t<yq u))) s):wpAny (model prog w) A (compareOp .Lt p q) Q E s:=by
 let⟨a,oa,na,t1,t2,M,rfl,ha,ca,da⟩:=Jw hp;let⟨b,ob,nb,Z,u2,O,rfl,hb,cb,db⟩:=Jw hq;let⟨x1,D,g⟩:=t;let⟨G,B,d⟩:=u;let⟨k1,k2⟩:=ht;let⟨k3,k4⟩:=hu;simp only[yq]at h k1 k2 k3 k4 da db;let Y:s.TypeIs (.ref a) "tuple":=⟨oa,ha,ca⟩
 let Tb:s.TypeIs (.ref b) "tuple":=⟨ob,hb,cb⟩
 show wpAny _ _ (richCompare .Lt (.ref a) (.ref b)) Q E s;calc wpAny_richCompare_same_room (op:=.Lt) (T:="tuple") Y Tb F.slot_tuple_lt (c_ F.slot_tuple_lt Y F.entry_tuple_lt ?_ (F.args_tuple_lt_2 _ _)) N;show wpAny _ _ (isInstance (.ref b) (.type "tuple") >>= _) _ _ s;calc aa (ic Tb isSubtype_tuple_tuple ?_);simp only[eR,a6,if_false];calc aa (mr ha da (aa (mr hb db (aa ?_))));rw[show ([Value.int (x1:Int) t1,Value.int (D:Int) t2,Value.str (S [g]) M]:List Value).toArray.toList.zip ([Value.int (G:Int) Z,Value.int (B:Int) u2,Value.str (S [d]) O]:List Value).toArray.toList=[(Value.int (x1:Int) t1,Value.int (G:Int) Z),(Value.int (D:Int) t2,Value.int (B:Int) u2),(Value.str (S [g]) M,Value.str (S [d]) O)] from rfl];let j:∀c:Bool,c=decide (x1*1000000+D*1000+g<G*1000000+B*1000+d)->Q (.bool c) s:=λc e=>by rw[e];show h
 rw[gT];calc aa ?_;dsimp only;calc aa (mf _ _ _ _ prog w _ _ ?_);by_cases ex:x1=G
 .subst ex;simp only[beq_self_eq_true,eR,a6,if_false];calc ag ?_;dsimp only;rw[gT];calc aa ?_;dsimp only;calc aa (mf _ _ _ _ prog w _ _ ?_);by_cases ey:D=B
  .subst ey;simp only[beq_self_eq_true,eR,a6,if_false];calc ag ?_;dsimp only;rw[gT];calc aa ?_;dsimp only;let ez:g≠d:=λe=>L (by rw[e]);calc aa ((eqGives_str (S [g]) (S [d]) M O).at _ _ prog w _ _ ?_);let J:(S [g]==S [d])=false:=by
    apply beq_eq_false_iff_ne.mpr;intro e;show ez (by have:=zm e;injection this)
   simp only[J,i8,if_true];calc aa (f7 (aa (lt_str ?_)));calc aa (ag (ag (ag (ag ⟨_,rQ,v0,?_⟩))));calc j _ ?_;have:(S [g]).cps.toList<(S [d]).cps.toList↔g<d:=by show [g]<[d]↔_;simp[ff]
   by_cases z:g<d;.rw[aw (this.mpr z),aw (Nat.add_lt_add_left z _)]
   .rw[al (λy=>z (this.mp y)),al (by simp[*])]
  .let J:((D:Int)==(B:Int))=false:=by
    apply beq_eq_false_iff_ne.mpr;intro z;show ey vT
   simp only[J,i8,if_true];calc aa (f7 (aa (lt_int ?_)));calc aa (ag (ag (ag (ag ⟨_,rQ,v0,?_⟩))));calc j _ ?_;by_cases z:D<B;.rw[aw (ph hG z),aw vT]
   .rw[al (by simp[*]),al vT]
 .let J:((x1:Int)==(G:Int))=false:=by
   apply beq_eq_false_iff_ne.mpr;intro z;show ex vT
  simp only[J,i8,if_true];calc aa (f7 (aa (lt_int ?_)));calc aa (ag (ag (ag (ag ⟨_,rQ,v0,?_⟩))));calc j _ ?_;by_cases z:x1<G;.rw[aw vT,aw vT]
  .rw[al vT,al vT]
def Vq (t:T3)(h:nQ t):(toP (kj t)).canLay0=true/\(toP (kj t)).depth<=1:=by
 let h1:gD (default:W.Frag) (λ_=>none) 0 (.str [t.2.2]) (.str (S [t.2.2])):=.str _ λc d=>by rw[am.mp d];show h.2
 let g:=h1.lay;constructor
 .unfold kj;simp only[toP,dG,PyData.canLay0,PyData.canLayAll0];have:=g.1;simp only[toP]at this;simp[PyData.canLay0]at this ⊢;show this
 .unfold kj;simp[toP,dG,PyData.depth,PyData.depthAll]
theorem PJ {d:Bool}{Q:Bool->Shared->Prop}(B:A.units+2<cLine):∀(xs ys:List Value) (ts us:List T3) (i:Nat) {as bs:List Addr},ReadsAll s.heap xs (dG (ts.map kj)) as->ReadsAll s.heap ys (dG (us.map kj)) bs->(∀t∈ts,nQ t)->(∀u∈us,nQ u)->d=decide (xs.length<ys.length)->Q (decide (iV ts<iV us)) s->KatLex prog w A false d Q (xs.zip ys) i s
 | xs,ys,[],us,i,as,bs,rx,ry,_,_,hf,q=>by
  simp only[kM,dG]at rx;cases rx;calc kat_nil ?_;rw[hf];cases us with
  | nil=>simp only[kM,dG]at ry;cases ry;simpa [iV] using q
  | cons u us=>simp only[bX,dG]at ry;cases ry;simpa [iV] using q
 | xs,ys,t::ts,[],i,as,bs,rx,ry,_,_,hf,q=>by simp only[kM,dG]at ry;cases ry;rw[List.zip_nil_right];calc kat_nil ?_;rw[hf];simpa [iV] using q
 | xs,ys,t::ts,u::us,i,as,bs,rx,ry,h1,h2,hf,q=>by
  simp only[bX,dG]at rx ry;cases rx with
  | @cons v vs _ _ _ _ r1 r2=>
   cases ry with
   | @cons v' vs' _ _ _ _ r3 r4=>
    let j:=h1 t ax;let g:=h2 u ax;let l1:=Vq t j;let l2:=Vq u g;rw[List.zip_cons_cons];calc kat_cons (SeqAt.eqAt_reads _ _ A s _ _ _ _ r1 r3 l1.1 l2.1 (by have:=n5 (toP (kj t)).depth (toP (kj u)).depth;show aI B) prog w _ _ ?_);by_cases e:t=u
    .subst e;rw[(CN _ _).mpr rfl];calc kat_yes (PJ B vs vs' ts us (i+1) r2 r4 (λx hx=>h1 x (ay _ hx)) (λx hx=>h2 x (ay _ hx)) (by rw[hf];simp) ?_);have:decide (iV ts<iV us)=decide (iV (t::ts)<iV (t::us)):=rh.mpr (by simp[iV,ff]);rw[this];show q
    .let D:PyData.eqv (toP (kj t)) (toP (kj u))=false:=by
      cases z:PyData.eqv (toP (kj t)) (toP (kj u)) with| false=>rfl| true=>show absurd (abf ((CN _ _).mp z)) e
     rw[D];calc kat_no (kat_one _ _ (ae8 r1 r3 j g e vT ?_));show Q _ s;have:decide (yq t<yq u)=decide (iV (t::ts)<iV (u::us)):=rh.mpr (by
      let ne:yq t≠yq u:=λz=>e (PB j g z);simp[iV,ff,ne])
     rw[this];show q
def o9 {h:Heap}{v:Value}{ts:List T3}{as:List Addr}(r:Reads h v (toP (uf ts)) as):∃(a:Addr) (o:Obj) (vs:Array Value) (n:Nat) (bs:List Addr),v=.ref a/\h.get? a=some o/\o.cls=.type "tuple"/\o.data=.seq vs n/\ReadsAll h vs.toList (dG (ts.map kj)) bs:=by
 unfold uf at r;simp only[toP]at r;cases r with| @tuple a o vs n xs as ho hc hd ra=>show⟨a,o,vs,n,as,rQ,ho,hc,hd,ra⟩
def lV (h:Heap)(d:Addr->List T3)(as:List Addr):Prop:=∀a∈as,(∃rs,Reads h (.ref a) (toP (uf (d a))) rs)/\d a≠[]/\∀t∈d a,nQ t
def abg {D:Addr->List T3}{as:List Addr}(h:lV s.heap D as)(F:A.units+2<cLine):jf prog w A s (nP (λa=>iV (D a)) as) (tuples' false):=by intro E x y a b Q ka M q;let⟨p,rfl,G,rfl⟩:=vO ka;let⟨O,rfl,Z,rfl⟩:=vO M;obtain⟨⟨rs,r⟩,_,ok⟩:=h p G;obtain⟨⟨rs',r'⟩,_,j⟩:=h O Z;let⟨_,o,vs,n,bs,e1,J,hc,hd,L⟩:=o9 r;let⟨_,o',vs',n',Y,e2,d,N,B,g⟩:=o9 r';cases e1;cases e2;show kat_lt J hd d B (PJ F _ _ _ _ 0 L g ok j v0 q)
def Yj {J:Addr->List T3}{as:List Addr}(h:lV s.heap J as)(O:0<as.length){Q:SortKind->Shared->Prop}(q:Q (tuples' false) s):wpAny (model prog w) A (keyKind' (as.map Value.ref).toArray) Q E s:=by
 let M:∀(bs:List Addr),(∀b∈bs,b∈as)->∃fs,KatTups s.heap (bs.map Value.ref) fs/\fs.length=bs.length/\∀v∈fs,∃(c:Addr) (o:Obj),v=.ref c/\s.heap.get? c=some o/\o.cls=.type "tuple":=by
  intro bs
  induction bs with
  | nil=>show λ_=>⟨[],trivial,rQ,λv hv=>by simp at hv⟩
  | cons b bs ih=>
   intro L;let⟨fs,k1,k2,k3⟩:=ih λx hx=>L x (ay _ hx);obtain⟨⟨rs,r⟩,ne,ok⟩:=h b (L b ax);let⟨_,o,vs,n,cs,e1,F,B,hd,g⟩:=o9 r;cases e1;cases j:J b with
   | nil=>show absurd j ne
   | cons t ts=>
    rw[j]at g;simp only[bX,dG]at g;cases d:vs.toList with
    | nil=>rw[d]at g;cases g
    | cons v1 vr=>
     rw[d]at g;cases g with
     | cons q1 _=>
      let⟨c,oc,N,Y,t2,Z,rfl,D,G,_⟩:=Jw q1;calc⟨.ref c::fs,KatTups.cons F B hd (by rw[<-ck,d];rfl) k1,by simp[k2],λv hv=>?_⟩;rcases a_.mp hv with z|z;.show⟨c,oc,z,D,G⟩
      .show k3 v z
 let⟨fs,k1,k2,k3⟩:=M as λ_ h=>h;calc kat_kind (T:=.type "tuple") k1 vT (λv hv=>?_) v_ q;let⟨c,o,rfl,F,B⟩:=k3 v hv;rw[<-B];show(Looks.ld F).andThen .now
end
def lV.keeps {h h':Heap}{d:Addr->List T3}{as:List Addr}(l:lV h d as)(hk:∀b o,h.get? b=some o->h'.get? b=some o):lV h' d as:=λa ha=>let ⟨⟨rs,r⟩,x⟩:=l a ha;⟨⟨rs,PyProof.Rows.Reads.keeps hk r⟩,x⟩
def lV.sub {h:Heap}{d:Addr->List T3}{as bs:List Addr}(l:lV h d as)(g:∀b∈bs,b∈as):lV h d bs:=λa ha=>l a (g a ha)
def Dp (v:Value):Addr:=match v with|.ref a=>a|_=>0
def yr {as:List Addr}{out:List Value}(p:out.Perm (as.map Value.ref)):∃d:List Addr,out=d.map Value.ref/\d.Perm as:=by
 refine⟨out.map Dp,?_,?_⟩
 .rw[dS];calc(kF _).symm.trans (e6 λv hv=>?_);let⟨a,_,rfl⟩:=aT.mp (p.mem_iff.mp hv);rfl
 .have:=p.map Dp;rw[dS]at this;show this.trans (vy (kF _))
def Hx {cf:Addr->List Nat}{as:List Addr}{vs:List Value}(h:∀v∈vs,∃a∈as,v=.ref a):KeysOf (nP cf as) (pairsOf vs):=λp hp=>by
 let hp:p∈vs.map λv=>(v,v):=by
  have:(pairsOf vs).toList=vs.map λv=>(v,v):=by show (vs.toArray.zip vs.toArray).toList=_;rw[vn];show vP vs
  rw[<-this];show hp
 let⟨v,hv,rfl⟩:=aT.mp hp;let⟨a,ha,rfl⟩:=h v hv;show⟨cf a,Fx ha⟩
def PL {cf:Addr->List Nat}{as d:List Addr}(hs:∀a∈d,a∈as)(h:(d.map Value.ref).Pairwise (λx y=>(nP cf as).kle (((nP cf as).keyOf x).getD (nP cf as).dflt) (((nP cf as).keyOf y).getD (nP cf as).dflt))):d.Pairwise (λa b=>decide (cf b<cf a)=false):=by rw[fk]at h;calc kU (λ{a b} ha hb hab=>?_) h;rw[Fx (hs a ha),Fx (hs b hb)]at hab;show hab
def vQ (K:W.Frag)(H:Hp)(a:Addr)(ts:List T3):Prop:=gD K H 2 (uf ts) (.ref a)/\ts≠[]/\∀t∈ts,nQ t
def vQ.mv {K:W.Frag}{H H':Hp}{a:Addr}{ts:List T3}(h:vQ K H a ts)(s:aA H H'):vQ K H' a ts:=⟨h.1.mv s,h.2⟩
def KQ (d:List (List T3)):Prop:=d.Pairwise (λx y=>decide (iV y<iV x)=false)
section
variable {X:Cx}{ak:AC}{σ:St}{H:Hp}{s:Shared}
def PN (I:aG X ak σ H s){d:Addr->List T3}{as:List Addr}(h:∀a∈as,vQ X.K H a (d a)):lV s.heap d as:=λa ha=>⟨(h a ha).1.reads I rQ,(h a ha).2⟩
def Nr {ak:AC}{s:Shared}{σ:St}{H:Hp}{Q:V->Hp->Prop}{L:Addr}{as:List Addr}{cf:Addr->List Nat}{kn:SortKind}(I:aG X ak σ H s)(M:aP X.K H L (as.map V.ref))(hz:as.length<=4000)(hk:∀h':Heap,(∀b o,s.heap.get? b=some o->h'.get? b=some o)->2<=as.length->∀(Q:SortKind->Shared->Prop) (E:AB),Q kn {s with heap:=h' }->wpAny (model X.prog X.w) X.A.in1.in1 (keyKind' (as.map Value.ref).toArray) Q E {s with heap:=h' })(Y:∀h':Heap,(∀b o,s.heap.get? b=some o->h'.get? b=some o)->jf X.prog X.w X.A.in1.in1 {s with heap:=h' } (nP cf as) kn)(q:∀(p:Addr) (d:List Addr),H p=none->d.Perm as->d.Pairwise (λa b=>decide (cf b<cf a)=false)->Q (.ref p) (upd H p (.lst (d.map V.ref)))):wpAny (model X.prog X.w) X.A (call (.builtin "sorted") [.ref L]) (EP X ak σ Q) X.xe s:=by
 let⟨its,N,pl,_⟩:=I.list M;let Z:=xW N;subst Z;let O:(as.map Value.ref).length=as.length:=ab _;let G:as.length<=sizeLine:=aS hz v_;calc Hw (collect_list pl.isList ?_ (by rw[O];show G));let hsz:((s.heap.push (seqObj "list" #[] 0)).update s.heap.objs.size (Obj.mapSeq (· ++ (as.map Value.ref).toArray))).objs.size=s.heap.objs.size+1:=by rw[Heap.size_update,size_push']
 let keep:∀b o,s.heap.get? b=some o->((s.heap.push (seqObj "list" #[] 0)).update s.heap.objs.size (Obj.mapSeq (· ++ (as.map Value.ref).toArray))).get? b=some o:=λb o z=>by let g:b<s.heap.objs.size:=a7 z;rw[tj _ _ _ _ (bb g),uk _ _ _ (bb g)];show z
 refine⟨nP cf as,kn,by rw[O];show hz,Hx λv hv=>by let⟨a,ha,rfl⟩:=aT.mp hv;show⟨a,ha,rQ⟩,λJ h' Q' E' kp q'=>?_,λh' kp=>?_,λh' out e kp pm up he=>?_⟩
 .rw[O]at J;show hk h' (λb o z=>kp b o (keep b o z)) J _ _ q'
 .show Y h' λb o z=>kp b o (keep b o z)
 .let⟨d,rfl,D⟩:=yr pm;let F:(d.map V.ref).length<=sizeLine:=by rw[ab,D.length_eq];show G
  let j:=PL (λa ha=>D.mem_iff.mp ha) up;let B:h'.get? (s.heap.objs.size+1)=some (seqObj "list" (d.map Value.ref).toArray e):=by rw[<-hsz];show he
  calc⟨.ref (s.heap.objs.size+1),_,I.laid (o:=.lst (d.map V.ref)) (t':=s.toks) (λb o z=>kp b o (keep b o z)) (cx _) ⟨F,d.map Value.ref,e,xX _,B⟩,?_,q _ d (I.hok.fresh (cx _)) D j⟩;show Value.ref _=_;rw[hsz]
def IV:fU X (.builtin "sorted") (adw X.K):=by
 intro ak s σ H xs us Q I r h;let⟨L,as,cf,rfl,hS,h64,M,hnd,q⟩:=h;let⟨u,rfl,ru⟩:=vals1 r;cases ru;let tup:∀a∈as,∃(x y:Nat) (F J:Tok) (o:Obj) (n:Nat) (rest:List Value),s.heap.get? a=some o/\o.cls=.type "tuple"/\o.data=.seq (Value.int x F::Value.int y J::rest).toArray n/\y<1000/\cf a=x*1000+y/\(rest=[]\/∃z Y,rest=[Value.str z Y]):=λa hm=>by
  let⟨x,y,rest,e,hy,hcf,O⟩:=M _ hm;let⟨_,tv,rtv,o,ho,hc,n,hd⟩:=e.ok I.hok;cases rtv with
  | cons r1 rr=>
   cases rr with
   | cons r2 rr=>
    let⟨F,rfl⟩:=r1;let⟨J,rfl⟩:=r2;calc⟨x,y,F,J,o,n,_,ho,hc,hd,hy,hcf,?_⟩;rcases O with rfl|⟨z,rfl⟩;.cases rr;show .inl rfl
    .cases rr with| cons r3 rr=>cases rr;let⟨Y,rfl⟩:=r3;show .inr ⟨z,Y,rQ⟩
 let inj:∀a b,a∈as->b∈as->cf a=cf b->a=b:=λa b ha hb e=>by
  let⟨i,hi,rfl⟩:=cq.mp ha;let⟨j,hj,rfl⟩:=cq.mp hb;let Z:=ip.mp hnd;rcases p_ i j with z|z|z;.show absurd e (by have:=Z i j (by simpa using hi) (by simpa using hj) z;simpa using this)
  .subst z;rfl
  .show absurd e.symm (by have:=Z j i (by simpa using hj) (by simpa using hi) z;simpa using this)
 refine Nr (cf:=λa=>[cf a]) (kn:=tuples' true) I hS vT ?_ ?_ ?_
 .intro h' kp h2 Q' E' hQ;let kt:∀(bs:List Addr),(∀b∈bs,b∈as)->∃fs,KatTups h' (bs.map Value.ref) fs/\fs.length=bs.length/\∀v∈fs,∃(x:Int) (t:Tok),v=.int x t:=by
   intro bs
   induction bs with
   | nil=>show λ_=>⟨[],trivial,rQ,λv hv=>by simp at hv⟩
   | cons b bs ih=>
    intro hb;let⟨fs,k1,k2,k3⟩:=ih λx hx=>hb x (ay _ hx);let⟨x,y,F,J,o,n,rest,ho,hc,hd,_⟩:=tup b (hb b ax);show⟨.int x F::fs,KatTups.cons (kp _ _ ho) hc hd rQ k1,by simp[k2],λv hv=>by
     rcases a_.mp hv with z|z;.show⟨_,_,z⟩
     .show k3 v z⟩
  let⟨fs,k1,k2,k3⟩:=kt as λ_ h=>h;show kat_kind (s:={s with heap:=h' }) (T:=.type "int") k1 vT (λv hv=>by let⟨x,t,rfl⟩:=k3 v hv;show Looks.of_pure rQ) v_ hQ
 .intro h' kp E x y a b C ka kb hC;let⟨p,rfl,mp,rfl⟩:=vO ka;let⟨p',rfl,ZV,rfl⟩:=vO kb;let⟨x1,B,F,J,o1,n1,r1,ho1,hc1,hd1,hy1,adQ,hr1⟩:=tup p mp;let⟨d,g,Y,t4,o2,n2,r2,N,hc2,D,hy2,adR,hr2⟩:=tup p' ZV;let G:C (decide (x1*1000+B<d*1000+g)) {s with heap:=h' }:=by
   let e:decide (x1*1000+B<d*1000+g)=decide ([cf p]<[cf p']):=rh.mpr (by rw[adQ,adR,ff];simp);rw[e];show hC
  calc kat_lt (s:={s with heap:=h' }) (kp _ _ ho1) hd1 (kp _ _ N) D ?_;rw[show (Value.int (x1:Int) F::Value.int (B:Int) J::r1).toArray.toList.zip (Value.int (d:Int) Y::Value.int (g:Int) t4::r2).toArray.toList=(Value.int (x1:Int) F,Value.int (d:Int) Y)::(Value.int (B:Int) J,Value.int (g:Int) t4)::r1.zip r2 from rfl];calc kat_cons (mf _ _ _ _ X.prog X.w _ _ ?_);refine kat_go (λe=>kat_yes ?_) (λe=>kat_no ?_)
  .let ex:x1=d:=by have:((x1:Int)==(d:Int))=true:=e;have:=eq_of_beq this;lia
   calc kat_cons (mf _ _ _ _ X.prog X.w _ _ ?_);refine kat_go (λe=>kat_yes ?_) (λe=>kat_no ?_)
   .let ey:B=g:=by have:((B:Int)==(g:Int))=true:=e;have:=eq_of_beq this;lia
    let eij:p=p':=inj p p' mp ZV (by rw[adQ,adR,ex,ey]);subst eij;let eo:o1=o2:=by rw[ho1]at N;show be N
    subst eo;rw[hd1]at D;let er:r1=r2:=by injection D with D _;have:=congrArg Array.toList D;simp at this;show this.2.2
    subst er;let fl:decide ((Value.int (x1:Int) F::Value.int (B:Int) J::r1).toArray.size<(Value.int (d:Int) Y::Value.int (g:Int) t4::r1).toArray.size)=decide (x1*1000+B<d*1000+g):=by rw[ex,ey];simp
    rcases hr1 with rfl|⟨z,t5,rfl⟩;.show kat_nil (by rw[fl];show G)
    .calc kat_cons (SeqAt.EqAt.same _ X.prog X.w _ _ ?_);show kat_yes (kat_nil (by rw[fl];show G))
   .let ey:B≠g:=λz=>by have:((B:Int)==(g:Int))=false:=e;simp[z]at this
    calc kat_one _ _ (lt_int ?_);show C (decide ((B:Int)<(g:Int))) _;rw[show decide ((B:Int)<(g:Int))=decide (x1*1000+B<d*1000+g) by rw[ex];simp];show G
  .let ex:x1≠d:=λz=>by have:((x1:Int)==(d:Int))=false:=e;simp[z]at this
   show wpAny _ _ (oneLt' true _ _) _ _ _;calc oneLt_int ?_;rw[show decide ((x1:Int)<(d:Int))=decide (x1*1000+B<d*1000+g) by
    by_cases z:x1<d;.rw[aw (ph hG z),aw vT]
    .rw[al (by simp[*]),al vT]]
   show G
 .intro p as' hp pm up;calc q p as' hp pm ?_;let hnd':=(pm.map cf).nodup_iff.mpr hnd;rw[fk];calc(up.and (fk.mp hnd')).imp λ{a b} h=>?_;let h1:=oP h.1;rw[ff]at h1;let h2:=h.2;have:¬cf b<cf a:=λz=>h1 (.inl z);show Nat.lt_of_le_of_ne (Iff.mp Nat.not_lt this) h2
def oN (w:World)(a:Addr)(bs:List Addr):Heap->Prop:=λh=>∃es ep t,SetT w h a es ep t/\es.toList.map (·.2)=bs.map Value.ref
def oN.ext {P:Program}{w:World}{H:Hp}{h:Heap}{a:Addr}{bs:List Addr}(m:oN w a bs h):dh P w H h a (.ext (oN w a bs)):=by
 refine⟨m,?_,λh1 g m1 k=>?_⟩
 .obtain⟨es,ep,t,⟨o,d,_⟩,_⟩:=m;show⟨o,d⟩
 .let⟨es,ep,t,m2,e⟩:=m1;show⟨es,ep,t,m2.mv k,e⟩
def Nt (w:World)(K:W.Frag):List V->Hp->VK->Prop:=λxs H Q=>∃(p:Addr) (bs:List Addr) (j:Addr->List T3),xs=[.ref p]/\H p=some (.ext (oN w p bs))/\bs.length<=4000/\(∀a∈bs,vQ K H a (j a))/\
 ∀(g:Addr) (d:List Addr),H g=none->d.Perm bs->KQ (d.map j)->Q (.ref g) (upd H g (.lst (d.map V.ref)))
def zU (hc:X.calm=true)(hu:X.A.units+64<cLine):fU X (.builtin "sorted") (Nt X.w X.K):=by
 intro ak s σ H xs us Q I r h;let⟨p,bs,N,rfl,hd,hn,hl,q⟩:=h;let⟨u,rfl,ru⟩:=vals1 r;cases ru;obtain⟨⟨es,ep,t,m,em⟩,_,_⟩:=(show dh X.prog X.w H s.heap p (.ext (oN X.w p bs)) from I.hok _ _ hd)
 let la:=PN I hl;let hes:es.size=bs.length:=by have:=congrArg List.length em;rw[ab,ab,bn]at this;show this
 let Hl:bs.length<=sizeLine:=aS hn v_;calc bR (Hw (Nj (A:=X.A.in1) (I.ok.hd hc) m vT λh1 G d acc Y pm=>?_));rw[em]at pm;let⟨as,rfl,J⟩:=yr pm;let Z:(as.map Value.ref).length=as.length:=ab _;let B:=J.length_eq;let j:lV h1 N as:=(la.sub λb hb=>J.mem_iff.mp hb).keeps Y;refine⟨nP (λa=>iV (N a)) as,tuples' false,by rw[Z,B];show hn,Hx λv hv=>by let⟨a,ha,rfl⟩:=aT.mp hv;show⟨a,ha,rQ⟩,λO h' Q' E' kp q'=>?_,λh' kp=>?_,λh' out e kp pm up he ht=>?_⟩
 .rw[Z]at O;show Yj (j.keeps kp) (aI O) q'
 .show abg (j.keeps kp) (show X.A.units+1+1+2<cLine by lia)
 .let⟨g,rfl,F⟩:=yr pm;let L:(g.map V.ref).length<=sizeLine:=by rw[ab,F.length_eq,B];show Hl
  let D:=PL (λa ha=>F.mem_iff.mp ha) up;let M:aG X ak σ H {s with heap:=h1,toks:=G,drawn:=d}:=(I.kept (t':=G) Y).ae4 d;calc⟨.ref h1.objs.size,_,M.laid (o:=.lst (g.map V.ref)) (t':=G) kp (af _) ⟨L,g.map Value.ref,e,xX _,he⟩,rQ,q _ g M.fresh (F.trans J) ?_⟩;unfold KQ;rw[fk];show D
end
section
variable {P:Program}{w:World}{κ:Type}[DecidableEq κ]
noncomputable def Vr (vk:fu P w κ)(p:κ->Value->Prop):fu P w κ where
 is:=λh k v=>vk.is h k v/\p k v
 hash:=vk.hash
 draws:=vk.draws
 deep:=vk.deep
 inj:=λh1 g=>vk.inj h1.1 g.1
 keeps:=λh j hd hs=>⟨vk.keeps h.1 j hd hs,h.2⟩
 pyHash:=λd h q=>vk.pyHash d h.1 q
 eqBool:=λd h1 g q=>vk.eqBool d h1.1 g.1 q
 quiet:=λn hn h q=>vk.quiet n hn h.1 q
def ae9 {vk:fu P w κ}{p:κ->Value->Prop}(d:jE vk):jE (Vr vk p):=λn hn h q=>d n hn h.1 q
def ae_ {vk:fu P w κ}{p:κ->Value->Prop}(g:uO vk):uO (Vr vk p):=λh d hd hs=>⟨g h.1 d hd hs,h.2⟩
def afa {vk:fu P w κ}{p:κ->Value->Prop}(d:uP vk):uP (Vr vk p):=λh hs=>⟨d h.1 hs,h.2⟩
def afb {vk:fu P w κ}{p:κ->Value->Prop}(d:Kw vk):Kw (Vr vk p):=λh q=>d h.1 q
end
def pY (ts:List T3):KD:=ts.map λt=>[Sum.inl (t.1:Int),Sum.inl (t.2.1:Int),Sum.inr (S [t.2.2])]
theorem KR:∀{ts us:List T3},pY ts=pY us->ts=us
 | [],[],_=>rfl
 | [],_::_,h=>by cases h
 | _::_,[],h=>by cases h
 | t::ts,u::us,h=>by injection h with a b;injection a with a1 a2;injection a2 with a2 a3;injection a3 with a3 _;injection a1 with a1;injection a2 with a2;injection a3 with a3;let a3:=zm a3;injection a3 with a3 _;rw[KR b,show t=u from qS (ku a1) (qS (ku a2) a3)]
section
variable {P:Program}{w:World}
variable {X:Cx}
def PX {h:Heap}{i:Int}{t:Tok}:(tu (cQ P w)).is h (Sum.inl i) (Value.int i t):=by let e:jc (Sum.inl i) (Value.int i t)=true:=Gw i t;show e
def abh {h:Heap}{x:Str}{t:Tok}:(tu (cQ P w)).is h (Sum.inr x) (Value.str x t):=by let e:jc (Sum.inr x) (Value.str x t)=true:=Gx x t;show e
theorem P0 {h:Heap}:∀{ts:List T3} {vs:List Value} {as:List Addr},ReadsAll h vs (dG (ts.map kj)) as->jy (tupK (tu (cQ P w))) h (pY ts) vs
 | [],vs,as,r=>by simp only[kM,dG]at r;cases r;trivial
 | t::ts,vs,as,r=>by
  simp only[bX,dG]at r;cases r with| cons r1 r2=>let⟨a,o,n,q,B,j,rfl,d,g,hd⟩:=Jw r1;show⟨⟨a,o,n,_,rQ,d,g,hd,PX,PX,abh,trivial⟩,P0 r2⟩
def adS {h:Heap}{v:Value}{ts:List T3}{as:List Addr}(r:Reads h v (toP (uf ts)) as)(d:ts≠[]):(Fw P w).is h (pY ts) v:=by let⟨a,o,vs,n,bs,rfl,q,j,hd,B⟩:=o9 r;calc⟨⟨a,o,n,vs,rQ,q,j,hd,P0 B⟩,λz=>d (List.map_eq_nil_iff.mp z),λt g=>?_⟩;let⟨u,_,rfl⟩:=aT.mp g;show⟨_,_,_,rQ⟩
def abj (w:World)(K:W.Frag):List V->Hp->VK->Prop:=λxs H Q=>∃(L:Addr) (as:List Addr) (d:Addr->List T3),xs=[.ref L]/\aP K H L (as.map V.ref)/\as.length<=3999/\(∀a∈as,vQ K H a (d a))/\
 ∀(p:Addr) (bs:List Addr),H p=none->(∀b∈bs,b∈as)->(bs.map d).Nodup->(∀a∈as,d a∈bs.map d)->Q (.ref p) (upd H p (.ext (oN w p bs)))
def Nu (hc:X.calm=true)(hu:X.A.units+64<cLine):fU X (.type "set") (abj X.w X.K):=by
 intro ak s σ H xs us Q I r h;let⟨L,as,d,rfl,Z,hz,hl,q⟩:=h;let⟨u,rfl,ru⟩:=vals1 r;cases ru;let⟨its,rv,pl,_⟩:=I.list Z;let Yk:=xW rv;subst Yk;let la:=PN I hl;let hsz:(as.map Value.ref).toArray.size=as.length:=v0;refine bR (Vp (vk:=Vr (Fw X.prog X.w) λk v=>∃b∈as,v=.ref b/\k=pY (d b)) (val:=λi=>pY (d (as.getD i 0))) (show (2:Nat)<=8 by decide) (ae9 adL) (afa adP) (ae_ adM) (afb abd) (show X.A.units+14+2<cLine by lia) (I.ok.hd hc) pl.isList (λi v hv=>?_) (by rw[hsz];show hz) λh' tk ks kk hkl N m ht=>?_)
 .let hi:i<as.length:=by
   have:=(Array.getElem?_eq_some_iff.mp hv).1;simp_all
  let Y:v=.ref as[i]:=by
   have:(as.map Value.ref)[i]?=some v:=by simpa using hv
   rw[ba,ah hi]at this;show(be this).symm
  let eg:as.getD i 0=as[i]:=by simp[hi]
  obtain⟨⟨rs,rd⟩,ne,_⟩:=la as[i] (bg hi);calc⟨as[i],Y,?_⟩;rw[eg,Y];show⟨adS rd ne,as[i],bg hi,rQ,rQ⟩
 .let⟨es,ep,t,m,ti,B,_,_⟩:=m;let hv:∀(i:Nat) e k,es.toList[i]?=some e->ks[i]?=some k->∃b∈as,e.2=.ref b/\k=pY (d b):=λi e k h1 O=>((B.at_ i e k h1 O).1).2;let D:es.toList.map (·.2)=((es.toList.map (·.2)).map Dp).map Value.ref:=by
   rw[dS];calc(kF _).symm.trans (e6 λv Vs=>?_);let⟨e,he,rfl⟩:=aT.mp Vs;let⟨i,hi,rfl⟩:=cq.mp he;let⟨b,_,e2,_⟩:=hv i _ (ks[i]'(by rw[B.len];show hi)) (ah hi) (ah _);rw[e2];rfl
  let j:ks=((es.toList.map (·.2)).map Dp).map λb=>pY (d b):=by
   apply rj;.simp[B.len]
   .intro i h1 O;let hi:i<es.toList.length:=by rw[<-B.len];show h1
    let⟨b,_,e2,e3⟩:=hv i _ _ (ah hi) (ah h1);rw[e3];simp only[rl];rw[e2];rfl
  generalize (es.toList.map (·.2)).map Dp=bs at D j;let J:∀b∈bs,b∈as:=λb F=>by
   let⟨i,hi,rfl⟩:=cq.mp F;let g:i<es.toList.length:=by have:=congrArg List.length D;rw[ab,ab]at this;simp[*]
   let⟨b',G,e2,_⟩:=hv i _ (ks[i]'(by rw[B.len];show g)) (ah g) (ah _);have:(es.toList.map (·.2))[i]?=some (.ref bs[i]):=by rw[D];simp[hi]
   rw[ba,ah g]at this;have:es.toList[i].2=.ref bs[i]:=be this;rw[e2]at this;cases this;show G
  let nd:(bs.map d).Nodup:=by
   have:=B.nd;rw[j]at this;let e:(bs.map λb=>pY (d b))=(bs.map d).map pY:=by rw[dS];rfl
   rw[e]at this;show List.Pairwise.of_map pY (λa b M z=>M (by rw[z])) this
  calc⟨.ref s.heap.objs.size,_,I.laid (o:=.ext (oN X.w s.heap.objs.size bs)) (t':=tk) kk (af _) (oN.ext ⟨es,ep,t,m,D⟩),rQ,q _ bs I.fresh J nd λa ha=>?_⟩;let⟨i,hi,rfl⟩:=cq.mp ha;have:pY (d as[i])∈ks:=(N _).mpr (aT.mpr ⟨i,by rw[hsz];show bv.mpr hi,by simp[hi]⟩);rw[j]at this;let⟨b,F,e⟩:=aT.mp this;rw[<-KR e];show aT.mpr ⟨b,F,rQ⟩
end
end L2
namespace L2
open PySem PySem.Spec PyProof.Rows PySem.Builtin PySem.Builtin.Str
def uQ (x y z:Str)(t u v c:Tok)(B:((occurrences x y 0 x.length 1).isEmpty||(y.length==0&&z.length==0))=false->
   (u==0||v==0)=false/\(u==v)=false/\(y==z)=false/\tooLong (x.length+(occurrences x y 0 x.length 1).length*z.length)=false) :
  Gives («str.replace» ⟨[.str x t,.str y u,.str z v,.int 1 c],[]⟩) (if ((occurrences x y 0 x.length 1).isEmpty||(y.length==0&&z.length==0))=true then .val (.str x t) else .str (glued z (partsBetween x (occurrences x y 0 x.length 1) y.length))):=by
 show Gives (if ((occurrences x y 0 x.length 1).isEmpty||(y.length==0&&z.length==0))=true then (rule "str.replace.nothing" >>= λ_=>ret (.str x t)) else
     (isSame (.str y u) (.str z v) >>= λsame=>if same=true then (rule "str.replace.old-is-new" >>= λ_=>ret (.str x t)) else if tooLong (x.length+(occurrences x y 0 x.length 1).length*z.length)=true then unsupported "str.replace:memory" else retStr (glued z (partsBetween x (occurrences x y 0 x.length 1) y.length)))) _
 cases D:((occurrences x y 0 x.length 1).isEmpty||(y.length==0&&z.length==0))
 .let⟨q,g,d,j⟩:=B D;rw[isSame_str_other y z u v q g d,j];show .of_eq rfl
 .show .rule (.of_eq rQ)
end L2
namespace L2
open PySem PySem.Spec PyProof.Rows
def Good (u:Value)(n:Nat):Prop:=∃x t,u=.str x t/\0<t/\t<n
def GP (X:Cx)(ak:AC)(σ:St)(Q:VK)(u:Value)(s':Shared):Prop:=∃v H',aG X ak σ H' s'/\bD v u/\Good u s'.toks/\Q v H'
structure GE (X:Cx)(e:Expr)(t:TE):Prop where
 out:∀(ak:AC) (s:Shared) (σ:St) (H:Hp) (Q:VK),aG X ak σ H s->t σ H Q->wpAny (model X.prog X.w) X.A (eval e X.env) (GP X ak σ Q) X.xe s
section
variable {X:Cx}
def ZW {a:Expr}{ta:TE}{i:Int}{j:_}{p pos:Pos}(ha:QE X a ta)(hs:EY (.Constant (.int i) j p)):GE X (.Subscript a (.Constant (.int i) j p) pos) (qu acZ ta (tC (.int i))):=by
 calc⟨λak s σ H Q I h=>?_⟩;calc Subscript_ (bA (ha.out ak s σ H _ I h) λv s1 ⟨x,H1,d,r1,q1⟩=>tw ?_);let⟨z,i',c,rfl,B,hz,G,q⟩:=q1;cases B;let⟨t,rfl⟩:=r1;let⟨N,h1,g,M,L,J⟩:=yZ G;let D:z.cps.toList.length=z.length:=by simp[Str.length]
 rw[D]at h1 L J;let hn:=qZ;let F:=d.tok (s1.toks+1);show tail_any (typeIs_str _ z t) slot_str_getitem.lookup (getItem_str (c:=c) (by
  let e1:decide (i < -(2^63:Int))=false:=al vT;let e2:decide (i>=2^63)=false:=al vT;rw[e1,e2,qE]) (by rw[h1];simpa using g) ⟨.str ⟨#[c]⟩,H1,F.tok _,⟨_,rQ⟩,⟨_,_,rQ,iE _,eC _⟩,q⟩) (hs _ _)
def tUp (K:W.Frag)(to:TE):TE:=λσ H Q=>to σ H λx H1=>∃c:Nat,x=.str (S [c])/\c<128/\Q (.str (S [up1 c])) H1
def afc {o:Expr}{to:TE}{apos cpos:Pos}(N:GE X o to)(j:attributeBase o "upper" X.env (eval o X.env)=eval o X.env:=by rfl)(B:(apos.endLine==cpos.line)=true:=by rfl):GE X (.Call (.Attribute o "upper" apos) [] [] cpos) (tUp X.K to):=by
 calc⟨λak s σ H Q I h=>?_⟩;calc wpAny_Call_method0_late j B (bA (N.out ak s σ H _ I h) λv s1 O=>?_);let⟨x,H1,D,r1,M,c,e,G,q⟩:=O;subst e;let⟨t,rfl⟩:=r1;let⟨_,t',Y,L,J⟩:=M;refine⟨"str","str.upper",bP,qk,qo,typeIs_str s1 _ t,λ_ e=>(nomatch e),mE rQ (PySem.evalArgs_none ?_)⟩
 .let g:Builtin.Str.tooLong (Txt.upper (S [c])).length=false:=fit_upper (by rw[jB];show aS (show 1<=1000 by decide) v_);calc call_gives F.slot_str_upper (typeIs_str s1 _ t) F.entry_str_upper (F.args_str_upper_1 _) (gives_str_upper (S [c]) t g) ⟨fit_le g,?_⟩;let e:Txt.upper (S [c])=S ([c].map up1):=by rw[upper_ascii (x:=S [c]) (λd hd=>by rw[am.mp hd];show G)];simp[S]
  show⟨.str (S [up1 c]),H1,D.tok _,⟨s1.toks,congrArg (λz=>Value.str z s1.toks) e⟩,⟨_,s1.toks,rQ,jn L J,eC _⟩,q⟩
end
theorem KY:∀{l:List Nat} {c i:Nat},l[i]?=some c->(∀k,k<i->l[k]?≠some c)->l.take i++l.drop (i+1)=l.erase c
 | [],_,_,h,_=>by simp at h
 | d::l,c,0,h,_=>by
  have:d=c:=by simpa using h
  subst this;simp
 | d::l,c,i+1,h,hk=>by let hd:d≠c:=λe=>hk 0 vT (by simp[e]);let j:=KY (l:=l) (c:=c) (i:=i) (by simpa using h) (λk g=>by have:=hk (k+1) (qV g);simpa using this);rw[List.erase_cons_tail (by simpa using hd),<-j];simp
open Builtin.Str in
def KZ (l:List Nat)(c:Nat)(h:c∈l):∃i,occurrences (S l) (S [c]) 0 (S l).length 1=[i]/\glued (S []) (partsBetween (S l) [i] (S [c]).length)=S (l.erase c):=by
 let hn:(S l).length=l.length:=jB l;rcases StrLaws.occ_head (S l) (S [c]) 1 (af 1) with⟨g,hk⟩|⟨i,r,g,hi,hk⟩
 .let⟨i,hi⟩:=rS.mp h;show absurd ((ga (S l) c i).mpr hi) (hk i)
 .let j:=StrLaws.occ_length_le (S l) (S [c]) 0 (S l).length 1;rw[g]at j;have:r=[]:=sL (by rw[bu]at j;lia);subst this;let e1:l[i]?=some c:=(ga (S l) c i).mp hi;let e2:∀k,k<i->l[k]?≠some c:=λk d z=>hk k d ((ga (S l) c k).mpr z);calc⟨i,g,?_⟩;let q:i<l.length:=(ai.mp e1).1;let e3:partsBetween (S l) [i] (S [c]).length=[strSub (S l) 0 i,strSub (S l) (i+(S [c]).length) (S l).length]:=rfl;rw[e3,Ju,Ju,hn,show (S [c]).length=1 from rQ,tm,dL,<-KY e1 e2];show (⟨(S (l.take i)).cps++(S []).cps++(S (l.drop (i+1))).cps⟩:Str)=_;unfold S;congr 1;apply kN.mp;simp
def bK (c:Nat):Nat:=if 65<=c/\c<=90 then 63 else c
def adT (a b:Nat):(!decide ([b]<[a]))=decide (a<=b):=by
 by_cases h:a<=b;.rw[aw h,al (by simp[ff];show h)];rfl
 .rw[al h,aw (by simp[ff];show rc h)];rfl
structure Dq (P:Program)(w:World)(K:W.Frag)(mg:Str->Option Value)(base:Heap)(f:Addr)(fd:FuncData):Prop where
 run:∀(A:Around) (outer:List Env) (s:Shared) (H:Hp) (args:Args) (c:Nat) (t:Tok),cW 1 A->vo P w K mg base A outer s H->BindsTo s fd args ([("sign":Str)].zip [Value.str (S [c]) t])->0<t->t<s.toks->
  codeAny (model P w) A (.call (.ref f) args) (λr s'=>∃u,r=.ok (.ret u)/\CE outer P w H s (λv H'=>v=.str (S [bK c])/\H'=H) u s'/\Good u s'.toks) s
def abk {P:Program}{w:World}{K:W.Frag}{mg:Str->Option Value}{base:Heap}{f:Addr}{fd:FuncData}{st:Stmt}{x1 x2 x3:Str}{j1 j3 j5:_}{p1 p2 p3 p4 p5 p6 p7 p8:Pos}(F:gw K "tile_of" "tile_of" st f fd)(N:aV ["sign"] ["sign"] (aF st))(j:(aF st).names.lookup ("sign":Str)=some .local)(hb:b_ st=[.Return (some (.IfExp (.Compare (.Constant (.str x1) j1 p1) [.LtE,.LtE] [.Name "sign" p2,.Constant (.str x3) j3 p3] p4) (.Constant (.str x2) j5 p5) (.Name "sign" p6) p7)) p8])(h1:x1=S [65])(h2:x2=S [63])(h3:x3=S [90]):Dq P w K mg base f fd:=by
 subst h1 h2 h3;let⟨oc,od,kV,doc,pm,an,bw,ct,osl,rfl,lk,Z⟩:=F.ex;calc⟨λA outer s H args c t hr L hbd t0 t1=>?_⟩;let KX:K.In s.heap:=L.mod.wR.keeps λb o e=>(L.bs b o e).1;let Y:s.heap.NoLimit:=L.mod.nolimit.keeps λb o e=>(L.bs b o e).1;let G:∀y∈[("sign":Str)].zip [Value.str (S [c]) t],(aF st).names.lookup y.1=some .local\/((aF st).names.lookup y.1=some .cell/\((cellsFrom (s.heap.objs.size+1) (aF st).names []).lookup y.1).isSome=true):=λ⟨n,v⟩ hy=>by let hn:n="sign":=am.mp (r_ hy).1;subst hn;show .inl j
 calc rq hr.depth (KX _ _ lk) rQ N.co N.gen rQ (tz KX Z) (hbd _ _ _ _ ?_);calc bR (wpAny_newFunctionEnv_cells N.kind G λenv he s1 x ht=>?_);subst he;calc⟨Y.keeps x.toInCall.keep,codeAny_func ?_⟩;let I:aG (nH fB P w K mg base ["sign"] "tile_of" (aF st) f bw A outer s H E0) [] (start ["sign"] [.str (S [c])]) H s1:=xO N hr.hd L rQ (.cons ⟨t,rQ⟩ .nil) x ht
 let hm:bindL (envOfC "tile_of" (aF st) s.heap.objs.size f bw).kindOf ([("sign":Str)].zip [Value.str (S [c]) t]) (λ_=>none) "sign"=some (Value.str (S [c]) t):=xM (i:=0) (P:=["sign"]) (vs:=[Value.str (S [c]) t]) v_ rQ rQ j
 let O:s1.heap.Ns s.heap.objs.size (bindL (envOfC "tile_of" (aF st) s.heap.objs.size f bw).kindOf ([("sign":Str)].zip [Value.str (S [c]) t]) (λ_=>none)):=x.toInCall.ns;show wpAny _ _ (execs (b_ st) _) _ _ s1;rw[hb];let M:t<s1.toks:=bo t1 ht;let nm:∀(tk:Nat) (p:Pos) (Q:AB) (E:AB),Q (.str (S [c]) t) {s1 with toks:=tk}->
   wpAny (model P w) (A.deeper (envOfC "tile_of" (aF st) s.heap.objs.size f bw)) (eval (.Name "sign" p) (envOfC "tile_of" (aF st) s.heap.objs.size f bw)) Q E {s1 with toks:=tk}:=λtk p Q E q=>
  o6 (r0 N.kind j O hm q) v_
 let D:∀(g:Nat) (y:Tok) (d:Nat),d=bK c->0<y->y<g->s1.toks<=g->∃u,(Except.ok (Flow.ret (.str (S [d]) y)):Result)=.ok (.ret u)/\CE outer P w H s (λv H'=>v=.str (S [bK c])/\H'=H) u {s1 with toks:=g }/\Good u g:=λg y d hd a2 a3 a4=>by let J:=I.tok g;subst hd;show⟨_,rQ,⟨.str (S [bK c]),H,J.os,J.bare,J.base,J.hok,⟨y,rQ⟩,⟨rQ,rQ⟩,J.gh⟩,_,y,rQ,a2,a3⟩
 calc kH (wpAny_Return_some (wpAny_IfExp (isTrue_chain (ii (test_link (nm _ _ _ _ (vS (ef ?_))))))));let B:∀a:Nat,(S [a]).cps.toList=[a]:=λa=>rfl;rw[B,B,adT];by_cases c1:65<=c
 .rw[aw c1];calc ite_tt (test_last (ii (vS (ef ?_))));rw[B,B,adT];by_cases c2:c<=90
  .rw[aw c2];calc ite_tt (ii ?_);show D (s1.toks+1+1+1) (s1.toks+1+1) 63 (if_pos ⟨c1,c2⟩).symm (iE _) (eC _) vT
  .rw[al c2];show ite_ff (nm _ _ _ _ (D (s1.toks+1+1) t c (if_neg λz=>c2 z.2).symm t0 (bo M (Nat.le_add_right s1.toks 2)) vT))
 .rw[al c1];show ite_ff (ite_ff (nm _ _ _ _ (D (s1.toks+1) t c (if_neg λz=>c1 z.1).symm t0 (bo M (cx _)) vT)))
section
variable {X:Cx}{ak:AC}{σ:St}{H:Hp}{s:Shared}
variable {prog:Program}{w:World}{A:Around}{E:AB}
def RP (X:Cx)(s:Shared)(x:Str)(u:Value):Prop:=∃m,s.heap.Ns X.env.locals m/\Look X.env s.heap m x u
def rN {E:AB}{x:Str}{u:Value}{pos:Pos}{Q:AB}(I:aG X ak σ H s)(h:RP X s x u)(q:Q u s)(hd:(x==("__debug__":Str))=false:=by decide)(g:(x==("__classdict__":Str))=false:=by decide):wpAny (model X.prog X.w) X.A (eval (.Name x pos) X.env) Q E s:=by
 let⟨m,hn,l⟩:=h;rcases l with⟨hk,hm⟩|⟨hk,c,j,d⟩;.show o6 (r0 I.ok.kind hk hn hm q) hd
 .rcases hk with hk|hk;.show o6 (wpAny_loadName_cell I.ok.kind hk j d q) hd
  .show o6 (wpAny_loadName_free I.ok.kind hk j d q g) hd
def ug (ir is it il : Nat)(tb : TS)(c : Nat) : TS := λD σ H => ∃l : List Nat, (((σ.set is (some (.str (S [c])))).set it (some (.str (S [bK c])))))[ir]? = some (some (.str (S l))) /\ l.length <= 1000 /\
  (if bK c ∈ l then tb {nx := D.nx, rt := D.rt} (((σ.set is (some (.str (S [c])))).set it (some (.str (S [bK c])))).set il (some (.str (S (l.erase (bK c)))))) H
   else D.nx ((σ.set is (some (.str (S [c])))).set it (some (.str (S [bK c])))) H)
def afS (ir is it il:Nat)(j q:TE)(tb:TS):TS:=λD σ H=>j σ H λx1 H1=>q σ H1 λg d=>∃c1 c2:Nat,x1=.str (S [c1])/\g=.str (S [c2])/\
 ug ir is it il tb c1 {nx:=ug ir is it il tb c2 D,rt:=D.rt} σ d
structure RQ (X:Cx)(ir is it il:Nat)(f:Addr)(fd:FuncData):Prop where
 nd:X.N.Nodup
 r:X.N[ir]?=some "rack"
 s:X.N[is]?=some "sign"
 t:X.N[it]?=some "tile"
 l:X.N[il]?=some "left"
 vr:Tj X.env.scope "rack"
 vs:Loc X.env.scope "sign"
 vt:Loc X.env.scope "tile"
 vl:Loc X.env.scope "left"
 fs:X.fn "sign"=true
 ft:X.fn "tile"=true
 fl:X.fn "left"=true
 T:Dq X.prog X.w X.K X.mg X.base f fd
 b:cB X.K fd ["sign"] []
 m:X.mg "tile_of"=some (.ref f)
 k:W.keepIn X.K (.ref f)=true
 g:Gl X "tile_of"
 rm:cW 1 X.A
abbrev Fy (x0 : Str)(j0 j1 : Nat)(Hy Hz pk2 HB HD P_ Qa Qc HF HJ uh vR vU vV um yt Fz : Pos)(rest : List Stmt) : List Stmt :=[.Assign [.Name "tile" Hy] (.Call (.Name "tile_of" Hz) [.Name "sign" pk2] [] HB) HD,
   .If (.Compare (.Name "tile" P_) [.In] [.Name "rack" Qa] Qc) (.Assign [.Name "left" HF] (.Call (.Attribute (.Name "rack" HJ) "replace" uh) [.Name "tile" vR, .Constant (.str x0) j0 vU, .Constant (.int 1) j1 vV] [] um) yt::rest) [] Fz]
def Vt {ir is it il:Nat}{f:Addr}{fd:FuncData}{c:Nat}{t:Tok}{p1:Pos}(Y:RQ X ir is it il f fd)(I:aG X ak σ H s):wpAny (model X.prog X.w) X.A (assign (.Name "sign" p1) X.env (.str (S [c]) t)) (λ_ s2=>aG X ak (σ.set is (some (.str (S [c])))) H s2/\RP X s2 "sign" (.str (S [c]) t)/\s.toks<=s2.toks) X.xe s:=bR (t7 (sI I Y.nd Y.s Y.vs (v:=.str (S [c])) ⟨t,rQ⟩ (λs' g _ ex d=>⟨g,ex,d⟩) (.inl Y.fs)))
def Yl {ir is it il:Nat}{f:Addr}{fd:FuncData}{c:Nat}{t:Tok}{Z:Str}{j0 N:Nat}{Hy Hz G HB HD P_ Qa Qc HF HJ uh vR vU O um yt Fz:Pos}{rest:List Stmt}{tb:TS}{D:Ends}(Y:RQ X ir is it il f fd)(hx0:Z=S [])(hl1:(uh.endLine==um.line)=true)(hs1:swapsWith (.Call (.Name "tile_of" Hz) [.Name "sign" G] [] HB) (some (.Name "tile" Hy)) HD.line X.env=pure false)(hs2:swapsWith (.Call (.Attribute (.Name "rack" HJ) "replace" uh) [.Name "tile" vR,.Constant (.str Z) j0 vU,.Constant (.int 1) N O] [] um) (some (.Name "left" HF)) yt.line X.env=pure false)(g:sW X rest tb)(I:aG X ak (σ.set is (some (.str (S [c])))) H s)(ex:RP X s "sign" (.str (S [c]) t))(t0:0<t)(t1:t<s.toks)(q:ug ir is it il tb c D σ H):wpAny (model X.prog X.w) X.A (execs (Fy Z j0 N Hy Hz G HB HD P_ Qa Qc HF HJ uh vR vU O um yt Fz rest) X.env) (SP X ak {nx:=D.nx,rt:=D.rt}) X.xe s:=by
 subst hx0;let⟨l,hl,hz,q⟩:=q;calc kH (t9 (ja (yV I Y.g Y.m ?_ v_)) hs1);calc on (h₀:=X.base) I.ok.mod.wR Y.k (f6 (rN I ex (mS ⟨I.jg,?_⟩))) rQ rfl;calc ul (iA (Y.T.run X.A X.stack s H ⟨[.str (S [c]) t],[]⟩ c t Y.rm I.env0 (Y.b s [.str (S [c]) t] I.jg rQ) t0 t1) λr s1 hr=>?_);let⟨u,rfl,ce,y,L,hy,g0,g1⟩:=hr;let⟨v,H1,I1,rv,ev,eH⟩:=I.after ce;subst ev eH hy;let⟨y2,ey⟩:=rv;injection ey with ey1 ey2;subst ey1 ey2;calc bR (sI I1 Y.nd Y.t Y.vt (v:=.str (S [bK c])) ⟨L,rQ⟩ (λs2 d _ B ht=>?_) (.inl Y.ft));let g2:L<s2.toks:=bo g1 ht;let⟨m,hn,hlm⟩:=id d.loc;obtain⟨ur,⟨M,er⟩,lr⟩:=hlm ir "rack" _ Y.r hl Y.vr;subst er;let j:RP X s2 "rack" (.str (S l) M):=⟨m,hn,lr⟩
 calc kH (wpAny_If (wpAny_isTrue_Compare1 (rN d B (rN d j (in_str (ef ?_)))) (by with_unfolding_all rfl)));let ein:(!(Builtin.Str.occurrences (S l) (S [bK c]) 0 (S l).length 1).isEmpty)=decide (bK c∈l):=by let e:=ue (S l) (bK c);rw[Rk]at e;rw[show (S [bK c])=(⟨#[bK c]⟩:Str) from rQ,e]
 rw[ein];by_cases J:bK c∈l
 .rw[if_pos J]at q;rw[aw J];calc ite_tt (kH (t9 (wpAny_Call_method_late rQ rQ hl1 rQ (rN d j ?_)) hs2));calc⟨"str","str.replace",bP,PySem.F.slot_str_replace,PySem.F.type_str_replace,typeIs_str s2 _ M,λ_ e=>(nomatch e),?_⟩;calc mE rQ (Calls.evalArgs_plain ?_);show wpAny _ _ (spliced ((false,eval (.Name "tile" vR) X.env)::(false,eval (.Constant (.str (S [])) j0 vU) X.env)::(false,eval (.Constant (.int 1) N O) X.env)::[])) _ _ _;calc f6 (rN d B (f6 (ii (f6 (tw (mS ?_))))));let⟨i,ho,hgl⟩:=KZ l (bK c) J;refine call_gives F.slot_str_replace (typeIs_str _ _ M) F.entry_str_replace (F.args_str_replace_4 _ _ _ _) (uQ (S l) (S [bK c]) (S []) M L s2.toks _ λ_=>⟨?_,?_,?_,?_⟩) ?_
  .have:L≠0:=gg g0;have:s2.toks≠0:=gg (jn g0 g2);simp[*]
  .have:L≠s2.toks:=bb g2;simpa using this
  .rfl
  .rw[ho];unfold Builtin.Str.tooLong;rw[jB,show (S []).length=0 from rQ,Nat.mul_zero,sk];show al (by have:=aK (n:=l.length) hz;lia)
  rw[ho];let e0:(([i]:List Nat).isEmpty||((S [bK c]).length==0&&(S []).length==0))=false:=rfl;rw[if_neg (by rw[e0];decide),hgl];calc⟨?_,?_⟩;.rw[jB];show aS nL (aI (aK vT))
  .let I3:=d.tok (s2.toks+1+1+1);calc Am I3 Y.nd Y.l Y.vl (v:=.str (S (l.erase (bK c)))) ⟨_,rQ⟩ (λs3 I4=>?_) (.inl Y.fl);calc bA (g.out ak s3 _ _ {nx:=D.nx,rt:=D.rt} I4 q) λfl s4 z=>?_;cases fl with| next=>show iq z| ret v=>show z| brk=>show z| cont=>show z
 .rw[if_neg J]at q;rw[al J];show ite_ff (iq (iq ⟨_,_,d,q⟩))
def adU {ir is it il:Nat}{f:Addr}{fd:FuncData}{x0:Str}{j0 j1:Nat}{Hy Hz G HB HD P_ Qa Qc HF HJ uh vR vU vV um yt Fz:Pos}{rest:List Stmt}{tb:TS}{e1 e2:Expr}{t1 t2:TE}{p1 p2 pos:Pos}{kt:_}(Y:RQ X ir is it il f fd)(hx0:x0=S [])(hp:PassesOwn (model X.prog X.w) X.A X.env X.xe)(hcm:X.calm=true)(g1:GE X e1 t1)(g2:GE X e2 t2)(hl1:(uh.endLine==um.line)=true)(hs1:swapsWith (.Call (.Name "tile_of" Hz) [.Name "sign" G] [] HB) (some (.Name "tile" Hy)) HD.line X.env=pure false)(hs2:swapsWith (.Call (.Attribute (.Name "rack" HJ) "replace" uh) [.Name "tile" vR,.Constant (.str x0) j0 vU,.Constant (.int 1) j1 vV] [] um) (some (.Name "left" HF)) yt.line X.env=pure false)(hst:starEach [e1,e2] X.env=[(false,eval e1 X.env),(false,eval e2 X.env)])(hs:∀x,foldedSetIterable (.Tuple [e1,e2] kt p2) X.env x=pure x)(O:sW X rest tb):QS X (.For (.Name "sign" p1) (.Tuple [e1,e2] kt p2) (Fy x0 j0 j1 Hy Hz G HB HD P_ Qa Qc HF HJ uh vR vU vV um yt Fz rest) [] pos) (afS ir is it il t1 t2 tb):=by
 calc⟨λak s σ H D I h=>?_⟩;calc wpAny_For (sP ?_) hs;rw[hst];show wpAny _ _ (spliced ((false,eval e1 X.env)::(false,eval e2 X.env)::[])) _ _ s;calc f6 (bA (g1.out ak s σ H _ I h) λu1 s1 ⟨v1,H1,I1,r1,gd1,q1⟩=>f6 (bR (eW (g2.out ak s1 σ H1 _ I1 q1) (λu2 s2 ⟨v2,H2,I2,r2,gd2,q2⟩ ht=>mS ⟨show 2<=sizeLine by decide,?_⟩) λ_ _ z _=>z)));let⟨c1,c2,ev1,ev2,q⟩:=q2;subst ev1 ev2;let⟨d,rfl⟩:=r1;let⟨g,rfl⟩:=r2;let⟨_,_,eg,a0,a1⟩:=gd1;injection eg with eg1 eg2;subst eg1 eg2;let⟨_,_,eg,b0,b1⟩:=gd2;injection eg with eg1 eg2;subst eg1 eg2;let a2:d<s2.toks:=bo a1 ht;let Z:aG X ak σ H2 {s2 with heap:=s2.heap.push {cls:=.type "tuple",data:=.seq [Value.str (S [c1]) d,Value.str (S [c2]) g].toArray} }:=I2.kept (t':=s2.toks) λb o e=>ae _ e;let qw:(s2.heap.push {cls:=.type "tuple",data:=.seq [Value.str (S [c1]) d,Value.str (S [c2]) g].toArray}).get? s2.heap.objs.size=some {cls:=.type "tuple",data:=.seq [Value.str (S [c1]) d,Value.str (S [c2]) g].toArray}:=ap _ rfl;let N:mQ X ak H2 s2.heap.objs.size:=I2.nC (af _) (I2.hok.fresh (af _));let hT:∀h:Heap,h.get? s2.heap.objs.size=some {cls:=.type "tuple",data:=.seq [Value.str (S [c1]) d,Value.str (S [c2]) g].toArray}->h.IsTuple s2.heap.objs.size [Value.str (S [c1]) d,Value.str (S [c2]) g].toArray:=λh e=>⟨_,e,rQ,_,rQ⟩
 calc md (hT _ qw) ?_;generalize hob:({cls:=.type "tuple",data:=.seq [Value.str (S [c1]) d,Value.str (S [c2]) g].toArray}:Obj)=HN at Z qw hT ⊢;generalize ha:s2.heap.objs.size=a at Z qw N hT ⊢;generalize hs3:({s2 with heap:=s2.heap.push HN}:Shared)=s3 at Z ⊢;let ht3:s3.toks=s2.toks:=by rw[<-hs3]
 let Ym:s3.heap.get? a=some HN:=by rw[<-hs3];show qw
 let fit:mQ X ak H2 s3.heap.objs.size:=Z.nC (af _) (Z.hok.fresh (af _));let nia:s3.heap.objs.size≠a:=λz=>by rw[<-z]at Ym;show absurd (a7 Ym) (iX _)
 refine(let S3:Nat->St->Hp->Prop:=λn σ' H'=>match n with| 0=>D.nx σ' H'| 1=>ug ir is it il tb c2 D σ' H'| _=>ug ir is it il tb c1 {nx:=ug ir is it il tb c2 D,rt:=D.rt} σ' H';?_)
 refine(let fp:List Addr:=[s3.heap.objs.size,a];?_)
 let F:∀{H':Hp},(∀b∈fp,H' b=none)->∀b∈fp,mQ X ak H' b:=λhn b j=>⟨hn b j,by
  rcases a_.mp j with z|z;.rw[z];show fit.2
  .rw[am.mp z];show N.2⟩
 refine codeAny_forLoop_any (λn s'=>n<=2/\∃σ' H',aG X ak σ' H' s'/\s'.heap.IsTupleIter s3.heap.objs.size a (2-n)/\s'.heap.get? a=some HN/\(∀b∈fp,H' b=none)/\s2.toks<=s'.toks/\S3 n σ' H') ?_ 2
  ⟨af _,σ,H2,Z.kept (t':=s3.toks) λb o e=>ae _ e,⟨_,ap _ rQ,rQ,rQ⟩,ae _ Ym,λb j=>by
   rcases a_.mp j with z|z;.rw[z];show fit.1
   .rw[am.mp z];show N.1,by show s2.toks<=s3.toks;lia,q⟩
 intro n s4 z;let⟨hn,σ4,H4,I4,dR,L,OD,tk4,q4⟩:=z;let hf:=F OD s3.heap.objs.size (by simp[fp]);let⟨f0,f1,f2,f3,f4,f5⟩:=hf;let one:∀(k:Nat) (c:Nat) (M:Tok) (D':Ends),n=k+1->[Value.str (S [c1]) d,Value.str (S [c2]) g].toArray[2-n]?=some (Value.str (S [c]) M)->0<M->M<s2.toks->D'.rt=D.rt->(∀σ' H',D'.nx σ' H'->S3 k σ' H')->ug ir is it il tb c D' σ4 H4->
   wpAny (model X.prog X.w) X.A (pyNext (.ref s3.heap.objs.size)) (λr s₁=>match r with
   | none=>wpAny (model X.prog X.w) X.A (execs [] X.env) (λf B=>SP X ak D f B) (notedBy (model X.prog X.w) X.A X.env λe s'=>cameBackBy (model X.prog X.w) X.A X.env X.xe e s') s₁
   | some v=>wpAny (model X.prog X.w) X.A (letOwnedTupleGo (.Name "sign" p1) (.ref s3.heap.objs.size) v) (λ_ s₁'=>
     wpAny (model X.prog X.w) X.A (assign (.Name "sign" p1) X.env v) (λ_ s₂=>wpAny (model X.prog X.w) X.A (execs (Fy x0 j0 j1 Hy Hz G HB HD P_ Qa Qc HF HJ uh vR vU vV um yt Fz rest) X.env) (λf B=>match f with
      | .next|.cont=>∃m,m<n/\(m<=2/\∃σ' H',aG X ak σ' H' B/\B.heap.IsTupleIter s3.heap.objs.size a (2-m)/\B.heap.get? a=some HN/\(∀b∈fp,H' b=none)/\s2.toks<=B.toks/\S3 m σ' H')
      | .brk=>SP X ak D .next B
      | .ret v=>SP X ak D (.ret v) B) (notedBy (model X.prog X.w) X.A X.env λe s'=>cameBackBy (model X.prog X.w) X.A X.env X.xe e s') s₂) (notedBy (model X.prog X.w) X.A X.env λe s'=>cameBackBy (model X.prog X.w) X.A X.env X.xe e s') s₁') (notedBy (model X.prog X.w) X.A X.env λe s'=>cameBackBy (model X.prog X.w) X.A X.env X.xe e s') s₁) (notedBy (model X.prog X.w) X.A X.env λe s'=>cameBackBy (model X.prog X.w) X.A X.env X.xe e s') s4:=by
  intro k c M D' hk hit k0 k1 hrt hnx hq;calc fm hp (bR (wpAny_pyNext_tuple_item dR (hT _ L) (x:=Value.str (S [c]) M) hit λh' st' sb Qd=>?_));let I5:aG X ak σ4 H4 {s4 with heap:=h' }:=I4.turned (t':=s4.toks) (λb o j e=>(sb.2 b j).trans e) f0 f1 f3 f4 f5;let⟨o5,e5,c5,d5⟩:=id st';let J:h'.get? a=some HN:=(sb.2 a (ie nia)).trans L;calc fm hp (Cd (s:={s4 with heap:=h' }) e5 c5 d5 v_ ?_);let I5':=I5.pinned (F OD) (λb j=>by
   rcases a_.mp j with z|z;.rw[z];show⟨o5,e5,λv z=>by rw[d5]at z;cases z⟩
   .rw[am.mp z];show⟨HN,J,λv z=>by rw[<-hob]at z;cases z⟩)
  calc fm hp (bA (Vt Y I5' (t:=M) (c:=c) (p1:=p1)) λ_ s6 zz=>?_);let⟨I6,ex6,t6⟩:=zz;calc fm hp (bR (eW (Yl Y hx0 hl1 hs1 hs2 O I6 ex6 k0 (show M<s6.toks from bo (bo k1 tk4) t6) hq) (λf s7 q7 ht7=>?_) λ_ _ z _=>z));cases f with
  | next=>
   let⟨σ7,H7,I7,n7⟩:=q7;let pn:∀b o,b∈fp->h'.get? b=some o->s7.heap.get? b=some o/\H7 b=none:=λb o j e=>by have:=I7.pin (b,o) (cK _ (cK _ (nD j e)));show⟨this.1,this.2.1⟩
   let mi:s3.heap.objs.size∈fp:=ax;let ma:a∈fp:=ay _ (am.mpr rQ);refine⟨k,by simp_all,vT,σ7,H7,I7.mR,?_,(pn a HN ma J).1,λb j=>?_,aS tk4 (aS t6 ht7),hnx _ _ n7⟩
   .let e2:2-k=2-n+1:=f8 vT;rw[e2];show st'.at λo e=>(pn _ o mi e).1
   .rcases a_.mp j with z|z;.rw[z];show(pn _ o5 mi e5).2
    .rw[am.mp z];show(pn a HN ma J).2
  | cont=>let⟨_,_,_,z⟩:=q7;show z.elim
  | brk=>let⟨_,_,_,z⟩:=q7;show z.elim
  | ret v=>let⟨x7,σ7,H7,I7,r7,q7⟩:=q7;show⟨x7,σ7,H7,I7.mR,r7,hrt ▸ q7⟩
 rcases(show n=0\/n=1\/n=2 by lia) with e|e|e
 .subst e;calc fm hp (wpAny_pyNext_tuple_end (I4.ok.hd hcm) dR (hT _ L) v0 λh' eb=>?_);show iq ⟨σ4,H4,I4.turned (t':=s4.toks) (λb o j e=>eb b o j e) f0 f1 f3 f4 f5,q4⟩
 .subst e;show one 0 c2 g D rQ v0 b0 b1 rQ (λ_ _ z=>z) q4
 .subst e;show one 1 c1 d {nx:=ug ir is it il tb c2 D,rt:=D.rt} rQ v0 a0 a2 rQ (λ_ _ z=>z) q4
open Classical in
def adV (G:X.A.units+64<cLine):dY X (compareOp .In) (XH X.K false):=by intro ak s σ H x y v u Q I F B h;let⟨n,d,es,hn,hd,g,q⟩:=h;let⟨as,D⟩:=hd.reads I F;let⟨bs,j⟩:=g.reads I B;let l1:=hd.lay;let l2:=g.lay;rw[toP]at j;simp only[toP,PyData.canLay0,PyData.depth]at l2;calc SeqAt.in_tuple_reads j D l2.1 l1.1 (by have:=uA (PyData.depthAll (dG es)) (toP d).depth;lia) ⟨.bl _,H,I,rQ,?_⟩;rw[Fi];show q
def abl {X:Cx}(K:W.Frag)(d:X.A.units+64<cLine)(h:X.K=K:=by rfl):dY X (compareOp .In) (XH K false):=by subst h;show adV d
def IW (x k:Value):checkTypeCall "enumerate" ⟨[x],[(Str.ofString "start",k)]⟩=pure ():=by kernel_rfl
def K1 (x k:Value):checkBuiltinCall "enumerate.__new__" ⟨[.type "enumerate",x],[(Str.ofString "start",k)]⟩=pure ():=by kernel_rfl
def I_ (o x k:Value):argsOk "object.__init__" ⟨[o,x],[(Str.ofString "start",k)]⟩:=by first|show .of_eq wb|show wb|trivial
def afd (x:Str)(t:Tok)(k:Nat)(q:Tok)(hk:k<1000):Meets (Builtin.«enumerate.__new__» ⟨[.type "enumerate",.str x t],[(Str.ofString "start",.int (k:Int) q)]⟩) (λ_ R s=>
   R (.ok (.ret (.ref (s.heap.push {cls:=.type (strIterType x),data:=.fields #[.str x t,.int 0 0]}).objs.size)))
    {s with heap:=(s.heap.push {cls:=.type (strIterType x),data:=.fields #[.str x t,.int 0 0]}).push {cls:=.type "enumerate",data:=.fields #[.none,.bool false,.ref s.heap.objs.size,rawInt k,.none,.none]} }):=
 .of_wp λprog w A R s h=>by
  let⟨hp,g,d,D,os⟩:=s;let B:=sub_enumerate;let j:Builtin.SmallTypes.fitsIndex (k:Int)=true:=by unfold Builtin.SmallTypes.fitsIndex;simp only[c9,gI];lia
  let e1:Builtin.SmallTypes.indexObject "enumerate.__new__" (Value.int (k:Int) q)=pure (Value.int (k:Int) q):=by kernel_rfl
  let e2:asInt? (Value.int (k:Int) q)=pure (some (k:Int)):=by kernel_rfl
  wp_walk
  refine wpAny_stack_any λst=>ag ?_
  split
  .rename_i c _ _ _ _ _;cases(c==Value.type "enumerate")
   .dsimp only;simp only[a6,if_false,if_true];calc aa ?_;refine mM (a:=(Value.str x t,some (Value.int (k:Int) q))) ?e ?_
    (case e=>kernel_rfl)
    simp only[e1,pure_bind,e2,j,eR,a6,if_false]
    wp_walk using ng
    show⟨_,rQ,h⟩
   .dsimp only;simp only[a6,if_false,if_true];calc aa ?_;refine mM (a:=(Value.str x t,some (Value.int (k:Int) q))) ?e ?_
    (case e=>kernel_rfl)
    simp only[e1,pure_bind,e2,j,eR,a6,if_false]
    wp_walk using ng
    show⟨_,rQ,h⟩
  .dsimp only;simp only[a6,if_false,if_true];calc aa ?_;refine mM (a:=(Value.str x t,some (Value.int (k:Int) q))) ?e ?_
   (case e=>kernel_rfl)
   simp only[e1,pure_bind,e2,j,eR,a6,if_false]
   wp_walk using ng
   show⟨_,rQ,h⟩
def FJ {T d:String}{self a:Value}{g:List (Str×Value)}(B:typeLookup (.type T) "__init__"=pure (some (.builtin "object.__init__")))(hm:Bind.madeBy (.type T)=pure (some d))(j:(some d != some "object.__new__")=true):Meets (Builtin.«object.__init__» ⟨[self,a],g⟩) (λ_ R s=>s.TypeIs self T/\R (.ok (.ret .none)) s):=by
 calc Meets.of_wp λprog w A R s hs=>?_;let⟨D,q⟩:=hs
 repeat (any_goals (first|assumption|wp_step))
 show⟨_,rQ,q⟩
def Nv {T j d:String}{Bn Bi:Builtin}{args:List Value}{B:List (Str×Value)}{S:PySem.Spec}{Q Q₁:AB}(ft:TypeCalled T j d)(hct:checkTypeCall T ⟨args,B⟩=pure ())(M:checkBuiltinCall j ⟨.type T::args,B⟩=pure ())(N:entryFor table j=some Bn)(q:entryFor table d=some Bi)(g:Meets (Bn ⟨.type T::args,B⟩) S)(h:S A.in1 (wants Q₁ E) s)(D:∀obj J,Q₁ obj J->J.TypeIs obj T/\argsOk d ⟨obj::args,B⟩/\∃Y,Meets (Bi ⟨obj::args,B⟩) Y/\Y A.in1 (wants (λr s₂=>r=.none/\Q obj s₂) E) J):wpAny (model prog w) A (call (.type T) args B) Q E s:=by
 let⟨c,tl,hmro⟩:=ft.mro;let L:=ft.made;let hsub:=ft.sub;calc ul (codeAny_of_tree ?_);show wpAny _ _ (callAny (.type T) _) _ _ _;calc ag ⟨Code.quiet_builtin _ wc,kg F.entry_type_call ?_⟩;rw[Around.under_plain (weight_type_call_type T args B) (units_type_call_type T args B)];let h1:=ft.notType;let h2:=ft.canCreate
 repeat (any_goals (first|assumption|wp_step))
 calc iA (sr ft.plain N (mM M (g prog w A.in1 _ s h))) λr J Z=>?_;cases r with
 | error e=>show Z
 | ok fl=>
  cases fl with
  | ret obj=>
   let⟨hT,hok,Y,gi,O⟩:=D _ _ Z;let hli:=ft.init.lookup;let hbi:=ft.init.bind obj
   repeat (any_goals (first|assumption|wp_step))
   calc iA (sr ft.init.plain q (ft.init.check _ _ _ _ _ _ _ _ hT hok (gi prog w A.in1 _ J O))) λr₂ s₂ G=>?_;cases r₂ with
   | error e=>show G
   | ok fl₂=>
    cases fl₂ with
    | ret r=>
     let⟨rfl,hq⟩:=G
     repeat (any_goals (first|assumption|wp_step))
    | _=>show G.elim
  | _=>show Z.elim
def Nx {x:Str}{t j:Tok}{k:Nat}(hk:k<1000){Q:AB}(h:∀h',IsEnum h' (s.heap.objs.size+1) s.heap.objs.size k .none->h'.IsStrIter s.heap.objs.size (strIterType x) x t 0->h'.objs.size=s.heap.objs.size+2->
   (∀b o,s.heap.get? b=some o->h'.get? b=some o)->Q (.ref (s.heap.objs.size+1)) {s with heap:=h' }) :
  wpAny (model prog w) A (call (.type "enumerate") [.str x t] [(Str.ofString "start",.int (k:Int) j)]) Q E s:=by
 refine Nv (Q₁:=λobj g=>g.TypeIs obj "enumerate"/\Q obj g) oz (IW _ _) (K1 _ _) F.entry_enumerate_new F.entry_object_init (afd x t k j hk) ?_
  λobj _ q=>⟨q.1,I_ obj _ _,_,FJ oz.init.lookup oz.made v_,q.1,rQ,q.2⟩
 let hz:(s.heap.push {cls:=.type (strIterType x),data:=.fields #[.str x t,.int 0 0]}).objs.size=s.heap.objs.size+1:=dC ..;show _/\_;rw[hz];let d:IsEnum ((s.heap.push {cls:=.type (strIterType x),data:=.fields #[.str x t,.int 0 0]}).push
   {cls:=.type "enumerate",data:=.fields #[.none,.bool false,.ref s.heap.objs.size,rawInt k,.none,.none]}) (s.heap.objs.size+1) s.heap.objs.size k .none:=by
  have:=ap (s.heap.push {cls:=.type (strIterType x),data:=.fields #[.str x t,.int 0 0]})
   (o:={cls:=.type "enumerate",data:=.fields #[.none,.bool false,.ref s.heap.objs.size,rawInt k,.none,.none]}) rfl
  rw[hz]at this;show this
 refine⟨⟨_,d,rQ⟩,h _ d ⟨_,ae _ (ap _ rQ),rQ,rQ⟩ (by rw[dC,hz]) λb o y=>ae _ (ae _ y)⟩
def K4 {M:Model}{A:Around}{E:AB}{s:Shared}{env:Env}{pos:Pos}{T:String}{e:Expr}{rest:List Expr}{kws:List Keyword}{Q:AB}(h:wpAny M A (spliced (backTo pos (starEach (e::rest) env))) (λvs j=>wpAny M A (evalAll ((backToKw pos (keywordEach kws env)).map (·.2)))
   (λkvs B=>wpAny M A (call (.type T) vs (((backToKw pos (keywordEach kws env)).filterMap (·.1)).zip kvs)) Q E B) E j) E s)
  (D:backTo pos (starEach (e::rest) env)=(false,eval e env)::backTo pos (starEach rest env):=by rfl)
  (d:(backTo pos (starEach (e::rest) env)).any (·.1)=false:=by rfl)
  (g:(backToKw pos (keywordEach kws env)).all (·.1.isSome)=true:=by rfl)
  (q:(backToKw pos (keywordEach kws env)).any (·.1.isNone)=false:=by rfl) :
  wpAny M A (callWith pos (.type T) [] (backTo pos (starEach (e::rest) env)) (backToKw pos (keywordEach kws env))) Q E s:=by
 unfold callWith;rw[D]at h d ⊢;calc aa (eD (eW (evalArgs_kwB (f:=.type T) (Q:=λa j=>wpAny M A (call (.type T) ([]++a.pos) a.kw) Q E j) g h) (λa j F=>aa (qB ?_)) λ_ _ x=>x));simp only[d,q,qE];calc aa (ag ?_);show aa (eW F (λr B G=>aa (eD (wpAny_point (ag G)))) λ_ _ x=>x)
end
def adW (ta d:TE):TI:=λσ H R=>ta σ H λx H1=>d σ H1 λy g=>∃(l:List Nat) (k:Nat),[x]=[V.str (S l)]/\[y]=[V.int (k:Int)]/\k<1000/\R (xY l k) g
section
variable {X:Cx}{elts:List Expr}{x1:Nat}{tp:Pos}
def Yn {a e:Expr}{ta M:TE}{p pos kpos:Pos}(hg:Gl X "enumerate")(hm:X.mg "enumerate"=none)(ha:QE X a ta)(hk:QE X e M)(hs:starEach [a] X.env=(false,eval a X.env)::starEach [] X.env:=by rfl)(G:backTo pos (starEach [a] X.env)=(false,eval a X.env)::backTo pos (starEach [] X.env):=by rfl)(N:(backTo pos (starEach [a] X.env)).any (·.1)=false:=by rfl)(d:(backToKw pos (keywordEach [⟨some (Str.ofString "start"),e,kpos⟩] X.env)).all (·.1.isSome)=true:=by rfl)(F:(backToKw pos (keywordEach [⟨some (Str.ofString "start"),e,kpos⟩] X.env)).any (·.1.isNone)=false:=by rfl)(D:(backToKw pos (keywordEach [⟨some (Str.ofString "start"),e,kpos⟩] X.env)).filterMap (·.1)=[Str.ofString "start"]:=by rfl):QI X (.Tuple elts x1 tp) (.Call (.Name "enumerate" p) [a] [⟨some (Str.ofString "start"),e,kpos⟩] pos) (adW ta M):=⟨by
 intro ak s σ H R I h;calc ja (pG I hg hm boot_enumerate ?_ v_ v_);let pa:=(aj ha au hs).out;let pk:=aaz (nm:=some (Str.ofString "start")) (kpos:=kpos) hk.out acV;calc K4 (bA (pa pos ak s σ H (λvs H1=>M σ H1 λy j=>∃(l:List Nat) (k:Nat),vs=[V.str (S l)]/\[y]=[V.int (k:Int)]/\k<1000/\R (xY l k) j) I ?_) λus s1 ⟨vs,H1,I1,r1,q1⟩=>?_) G N d F;.show h
 .refine bA (pk pos ak s1 σ H1 (λO j=>∃(l:List Nat) (k:Nat),vs=[V.str (S l)]/\O=[V.int (k:Int)]/\k<1000/\R (xY l k) j) I1 ?_) λws s2 ⟨O,j,g,Z,q2⟩=>?_
  .show q1
  .let⟨l,k,rfl,rfl,L,q⟩:=q2;let⟨u,rfl,t,rfl⟩:=vals1 r1;let⟨u2,rfl,t2,rfl⟩:=vals1 Z;rw[D];let J:strIterType (S l)="str_ascii_iterator"\/strIterType (S l)="str_iterator":=by unfold strIterType;split <;> simp
   calc Nx L λh' Y B hsz hk=>np Y ?_;calc⟨s2.heap.objs.size+1,[s2.heap.objs.size+1,s2.heap.objs.size],_,_,j,rQ,g.kept (t':=s2.toks) hk,CT J l k t s2.heap.objs.size _,⟨uB _,cn _,⟨_,Y⟩,B⟩,λb hb=>?_,q⟩;rcases a_.mp hb with z|z
   .rw[z];show g.nC (cx _) (g.hok.fresh (cx _))
   .rw[am.mp z];show g.nC (af _) (g.hok.fresh (af _))⟩
end
def Vu {l:List Nat}{k:Nat}{g:TG}{tb:TS}{D:Ends}{σ:St}{H:Hp}(d:Nat->St->Hp->Prop)(q:d 0 σ H)(hs:∀i c σ H T,l[i]?=some c->d i σ H->H T=none->g (.ref T) σ (upd H T (.tup [.int ((k+i:Nat):Int),.str (S [c])])) λσ2 F=>tb {D with nx:=d (i+1),ct:=d (i+1),bk:=D.nx} σ2 F)(hd:∀σ H,d l.length σ H->D.nx σ H):Ew (xY l k) g tb D σ H:=Q0 l.length d q (λi σ H h p=>⟨h,λx H' y=>by let⟨T,c,B,rfl,j,rfl⟩:=y;show hs i c σ _ T j p B⟩) λσ H p=>⟨af _,hd σ H p⟩
def m_ (o:Obj)(x:Str)(t:Nat):Prop:=∃us n,o.data=.seq us n/\Value.str x t∈us
def FN (H:Hp)(x:Str)(t:Nat):Prop:=∃b o u,H b=some (.cH o u)/\m_ o x t
def qC.tok {o:Obj}{n:Nat}{x:Str}{t:Nat}(h:qC o n)(k:m_ o x t):0<t/\t<n:=by let⟨us,m,e,z⟩:=k;unfold qC at h;rw[e]at h;show h x t z
def FN.good {X:Cx}{ak:AC}{σ:St}{H:Hp}{s:Shared}{x:Str}{t:Nat}(k:FN H x t)(I:aG X ak σ H s):0<t/\t<s.toks:=by let⟨b,o,u,h,k⟩:=k;show qC.tok (I.gh.2 b _ h) k
section
variable {X:Cx}{pos:Pos}
def tWk (t:TE):TE:=λσ H Q=>t σ H λv H1=>Q (zX v) H1
def ZX {e:Expr}{t:TE}(h:QE X e t):QE X e (tWk t):=⟨λak s σ H Q I q=>bA (h.out ak s σ H _ I q) λv s1 ⟨x,H1,d,r1,q1⟩=>⟨zX x,H1,d,r1.weak,q1⟩⟩
def adX (t:TA):TE:=λσ H Q=>t σ H λvs H1=>∃i j x k,vs=[.int i,.int j,.sx x k]/\FN H1 x k/\∀g o,H1 g=none->Q (.ref g) (upd H1 g (.cH o (.tup [.int i,.int j,.str x])))
def K5 {es:List Expr}{t:TA}{x1}(h:QA X es t):QE X (.Tuple es x1 pos) (adX t):=⟨by
 intro ak s σ H Q I F;calc sP (bA (h.out pos ak s σ H _ I F) λus s1 G=>?_);let⟨xs,H1,d,r,i,j,x,k,e,D,q⟩:=G;subst e;have⟨g1,g2⟩:=D.good d;cases r with
 | cons r1 r=>
  cases r with
  | cons r2 r=>
   cases r with
   | cons r3 r=>
    cases r;let⟨g,rfl⟩:=r1;let⟨B,rfl⟩:=r2;cases r3;calc⟨zsz 3,?_⟩;let J:H1 s1.heap.objs.size=none:=d.hok.fresh (af _);refine⟨.ref s1.heap.objs.size,_,d.laid (o:=.cH {cls:=.type "tuple",data:=.seq [Value.int i g,.int j B,.str x k].toArray} (.tup [.int i,.int j,.str x])) (t':=s1.toks) (λb u e=>ae _ e) (af _)
     ⟨ap _ rQ,zsz 3,[.int i g,.int j B,.str x k],.cons ⟨_,rQ⟩ (.cons ⟨_,rQ⟩ (.cons ⟨_,rQ⟩ .nil)),⟨_,ap _ rQ,rQ,_,rQ⟩⟩ (af _) ?_,rQ,q _ _ J⟩
    intro y z hz;simp at hz;let⟨rfl,rfl⟩:=hz;show⟨g1,g2⟩⟩
def afe (l:List Nat)(ta:TE):TE:=λσ H Q=>ta σ H λv H1=>∃x k,v=.sx x k/\FN H1 x k/\∀g o k2,H1 g=none->m_ o x k->m_ o (S l) k2->Q (.ref g) (upd H1 g (.cH o (.lst [.sx x k,.sx (S l) k2])))
def abm (l:List Nat){a:Expr}{ta:TE}{y:Str}{j}{p:Pos}(g:y=S l)(h:QE X a ta)(hs:noStar a=true:=by rfl):QE X (.List [a,.Constant (.str y) j p] pos) (afe l ta):=⟨by
 subst g;intro ak s σ H Q I D;calc wpAny_List_spliced ?_;rw[O5 hs,O5 rfl];calc f6 (bA (h.out ak s σ H _ I D) λu s1 ⟨v,H1,d,r,x,k,e,B,q⟩=>?_);subst e;cases r;have⟨g1,g2⟩:=B.good d;calc f6 (x:=eval (.Constant (.str (S l)) j p) X.env) (ii (mS ⟨zsz 2,?_⟩));let F:H1 s1.heap.objs.size=none:=d.hok.fresh (af _);refine⟨.ref s1.heap.objs.size,_,d.laid (o:=.cH {cls:=.type "list",data:=.seq [Value.str x k,.str (S l) s1.toks].toArray} (.lst [.sx x k,.sx (S l) s1.toks])) (t':=s1.toks+1) (λb u e=>ae _ e) (af _)
  ⟨ap _ rQ,zsz 2,[.str x k,.str (S l) s1.toks],_,.cons rQ (.cons rQ .nil),ap _ rQ⟩ (cx _) ?_,rQ,q _ _ _ F ⟨_,_,rQ,v0⟩ ⟨_,_,rQ,v0⟩⟩
 intro z w hz;simp at hz;rcases hz with⟨rfl,rfl⟩|⟨rfl,rfl⟩;.show⟨g1,eL g2⟩
 .show⟨d.gh.1,eC _⟩⟩
def afg (l:List Nat):TE:=λ_ H Q=>∀k,0<k->(∀x t,FN H x t->0<t/\t<k)->Q (.sx (S l) k) H
def abn (l:List Nat){y:Str}{j}(d:y=S l):QE X (.Constant (.str y) j pos) (afg l):=⟨λak s σ H Q I h=>by subst d;show ii ⟨.sx (S l) s.toks,H,I.tok _,rQ,h _ I.gh.1 λx t k=>k.good I⟩⟩
def Yo:sO X "str.replace" (λx vs H Q=>∃(l:List Nat) (c k k2:Nat),x=.str (S l)/\vs=[.sx (S [c]) k,.sx (S []) k2,.int 1]/\c∈l/\l.length<=1000/\0<k/\k<k2/\Q (.str (S (l.erase c))) H):=by
 intro ak s σ H x vs v us Q I L d h;let⟨l,c,k,k2,rfl,rfl,G,J,k0,j,q⟩:=h;let⟨D,rfl⟩:=L;cases d with
 | cons r1 d=>
  cases d with
  | cons r2 d=>
   cases d with
   | cons r3 d=>
    cases d;cases r1;cases r2;let⟨N,rfl⟩:=r3;let⟨i,B,g⟩:=KZ l c G;refine call_gives F.slot_str_replace (typeIs_str _ _ D) F.entry_str_replace (F.args_str_replace_4 _ _ _ _) (uQ (S l) (S [c]) (S []) D k k2 _ λ_=>⟨?_,?_,?_,?_⟩) ?_
    .have:k≠0:=gg k0;have:k2≠0:=gg (jn k0 j);simp[*]
    .have:k≠k2:=bb j;simpa using this
    .rfl
    .rw[B];unfold Builtin.Str.tooLong;rw[jB,show (S []).length=0 from rQ,Nat.mul_zero,sk];show al (by have:=aK (n:=l.length) vT;lia)
    rw[B];let M:(([i]:List Nat).isEmpty||((S [c]).length==0&&(S []).length==0))=false:=rfl;rw[if_neg (by rw[M];decide),g];show⟨by rw[jB];show aI (aK (aS (nL) J)),.str (S (l.erase c)),H,I.tok _,⟨_,rQ⟩,q⟩
def Qe {h:Heap}{a:Addr}{o:Obj}{its:List Value}(e:h.get? a=some o)(p:IsTup h a its.toArray):∃n,o.data=.seq its.toArray n:=by let⟨o',g,_,n,d⟩:=p;rw[e]at g;cases g;show⟨n,d⟩
def K6 (t:qW):TG:=λv σ H Q=>∃a o p q x,v=.ref a/\H a=some (.cH o (.tup [p,q,.str x]))/\∀k,m_ o x k->t [p,q,.sx x k] σ H Q
def K7 {es:List Expr}{k:Nat}{t:qW}(F:X.calm=true)(h:JG X es t)(hn:(assignEach es X.env).length=3:=by rfl)(g:(assignEach es X.env).findIdx? (·.1)=none:=by rfl):PG X (.Tuple es k pos) (K6 t):=by
 intro ak s σ H v u Q I r hw;let⟨a,o,p,q,x,rfl,ha,hw⟩:=hw;cases r;let⟨e,z,its,d,j⟩:=(show dh X.prog X.w H s.heap a (.cH o (.tup [p,q,.str x])) from I.hok a _ ha)
 let⟨n,hd⟩:=Qe e j;cases d with
 | cons r1 d=>
  cases d with
  | cons r2 d=>
   cases d with| cons r3 d=>cases d;let⟨B,rfl⟩:=r3;calc assign_Tuple_tuple (I.ok.hd F) j (by simp[hn]) g λh' hx=>?_;let D:aG X ak σ H {s with heap:=h' }:=I.kept (t':=s.toks) λb o e=>hx b o (bb (a7 e)) e;show h ak _ σ H [p,q,.sx x B] _ Q D (.cons r1 (.cons r2 (.cons rQ .nil))) (hw B ⟨_,_,hd,v0⟩)
def Yp {es:List Expr}{k:Nat}{t:qW}(g:X.calm=true)(h:Uo X es t)(hn:(assignEach es X.env).length=3:=by rfl)(d:(assignEach es X.env).findIdx? (·.1)=none:=by rfl):QG X (.Tuple es k pos) (K6 t):=⟨K7 g h.out hn d⟩
def Vv (t:qW):TG:=λv σ H Q=>∃a o p x,v=.ref a/\H a=some (.cH o (.tup [p,.str x]))/\∀k,m_ o x k->t [p,.sx x k] σ H Q
def Yq {es:List Expr}{k:Nat}{t:qW}(D:X.calm=true)(h:JG X es t)(hn:(assignEach es X.env).length=2:=by rfl)(g:(assignEach es X.env).findIdx? (·.1)=none:=by rfl):PG X (.Tuple es k pos) (Vv t):=by
 intro ak s σ H v u Q I r hw;let⟨a,o,p,x,rfl,ha,hw⟩:=hw;cases r;let⟨e,z,its,d,j⟩:=(show dh X.prog X.w H s.heap a (.cH o (.tup [p,.str x])) from I.hok a _ ha)
 let⟨n,hd⟩:=Qe e j;cases d with
 | cons r1 d=>
  cases d with| cons r3 d=>cases d;let⟨q,rfl⟩:=r3;calc assign_Tuple_tuple (I.ok.hd D) j (by simp[hn]) g λh' hx=>?_;let B:aG X ak σ H {s with heap:=h' }:=I.kept (t':=s.toks) λb o e=>hx b o (bb (a7 e)) e;show h ak _ σ H [p,.sx x q] _ Q B (.cons r1 (.cons rQ .nil)) (hw q ⟨_,_,hd,v0⟩)
end
def Yr {X:Cx}{scope:Scope}{cl:List (Str×Addr)}{C:Addr}{N:List Str}{s₀:Shared}{H₀:Hp}{fp:List Addr}{x y:Str}{j B pos:Pos}{k:Nat}(F:X.calm=true)(D:N.Nodup)(J:N[0]?=some x)(h1:N[1]?=some y)(hx:scope.names.lookup x=some .local)(g:scope.names.lookup y=some .local):Ac (cU X scope cl C N s₀ H₀ fp) (.Tuple [.Name x j,.Name y B] k pos) 2 (λv H Q=>∃a o p z,v=.ref a/\H a=some (.cH o (.tup [p,.str z]))/\∀k,m_ o z k->Q [some p,some (.sx z k)]):=by
 intro ak s pre rest H v u Q hp I r q;let⟨a,o,p,z,rfl,L,q⟩:=q;obtain⟨d,p1,rfl⟩:∃d p1,pre=[d,p1]:=by
  match pre,hp with| [d,p1],_=>show⟨d,p1,rQ⟩
 let P:PG (cU X scope cl C N s₀ H₀ fp) (.Tuple [.Name x j,.Name y B] k pos) (Vv (lZ (jd 0) (lZ (jd 1) Et))):=Yq (X:=cU X scope cl C N s₀ H₀ fp) F (g_ (iD (i:=0) D J (.inl (lookup_relabel_local hx)) (.inr (lookup_relabel_local hx))) (g_ (iD (i:=1) D h1 (.inl (lookup_relabel_local g)) (.inr (lookup_relabel_local g))) uz));refine bA (P ak s _ H (.ref a) u (λσ' H'=>H'=H/\∃k,m_ o z k/\σ'=some p::some (.sx z k)::rest) I r
  ⟨a,o,p,z,rQ,L,λk hk=>⟨p,[.sx z k],rQ,.sx z k,[],rQ,rQ,rQ,k,hk,rQ⟩⟩) λ_ s' ⟨σ',H',G,e1,k,hk,e2⟩=>?_
 subst e1 e2;show⟨[some p,some (.sx z k)],rQ,G,q k hk⟩
def Ys {X:Cx}{scope:Scope}{cl:List (Str×Addr)}{C:Addr}{N:List Str}{s₀:Shared}{H₀:Hp}{fp:List Addr}{x y z:Str}{D F G pos:Pos}{k:Nat}(J:X.calm=true)(j:N.Nodup)(O:N[0]?=some x)(h1:N[1]?=some y)(L:N[2]?=some z)(hx:scope.names.lookup x=some .local)(B:scope.names.lookup y=some .local)(hz:scope.names.lookup z=some .local):Ac (cU X scope cl C N s₀ H₀ fp) (.Tuple [.Name x D,.Name y F,.Name z G] k pos) 3 (λv H Q=>∃a o p d z,v=.ref a/\H a=some (.cH o (.tup [p,d,.str z]))/\∀k,m_ o z k->Q [some p,some d,some (.sx z k)]):=by
 intro ak s pre rest H v u Q hp I r q;let⟨a,o,p,d,w,rfl,Y,q⟩:=q;obtain⟨g,p1,p2,rfl⟩:∃g p1 p2,pre=[g,p1,p2]:=by
  match pre,hp with| [g,p1,p2],_=>show⟨g,p1,p2,rQ⟩
 let P:PG (cU X scope cl C N s₀ H₀ fp) (.Tuple [.Name x D,.Name y F,.Name z G] k pos) (K6 (lZ (jd 0) (lZ (jd 1) (lZ (jd 2) Et)))):=K7 (X:=cU X scope cl C N s₀ H₀ fp) J (g_ (iD (i:=0) j O (.inl (lookup_relabel_local hx)) (.inr (lookup_relabel_local hx))) (g_ (iD (i:=1) j h1 (.inl (lookup_relabel_local B)) (.inr (lookup_relabel_local B))) (g_ (iD (i:=2) j L (.inl (lookup_relabel_local hz)) (.inr (lookup_relabel_local hz))) uz)));refine bA (P ak s _ H (.ref a) u (λσ' H'=>H'=H/\∃k,m_ o w k/\σ'=some p::some d::some (.sx w k)::rest) I r
  ⟨a,o,p,d,w,rQ,Y,λk hk=>⟨p,[d,.sx w k],rQ,d,[.sx w k],rQ,.sx w k,[],rQ,rQ,rQ,k,hk,rQ⟩⟩) λ_ s' ⟨σ',H',M,e1,k,hk,e2⟩=>?_
 subst e1 e2;show⟨[some p,some d,some (.sx w k)],rQ,M,q k hk⟩
def adY {n i:Nat}{D a:Addr}{o:Obj}{p q:V}{z:Str}{f:St->St}{σ:St}{te:TE}{x:V}{H:Hp}{ys:List V}{P:List V->Hp->Prop}(hx:x=.ref a)(j:H a=some (.cH o (.tup [p,q,.str z])))(h:∀k,m_ o z k->te ([some p,some q,some (.sx z k)]++f σ) H λy d=>d D=some (.lst ys)/\ys.length<sizeLine/\dw n i (P (ys++[y]) (upd d D (.lst (ys++[y]))))):o8 n i D (λv H Q=>∃a o p g z,v=.ref a/\H a=some (.cH o (.tup [p,g,.str z]))/\∀k,m_ o z k->Q [some p,some g,some (.sx z k)]) f σ iC te x H ys P:=by calc⟨a,o,p,q,z,hx,j,λk hk=>?_⟩;show (if true=true then (te ([some p,some q,some (.sx z k)]++f σ) H λy d=>d D=some (.lst ys)/\ys.length<sizeLine/\dw n i (P (ys++[y]) (upd d D (.lst (ys++[y]))))) else dw n i (P ys H));rw[if_pos rfl];show h k hk
def adZ {n i:Nat}{D a:Addr}{o:Obj}{p:V}{z:Str}{f:St->St}{σ:St}{te:TE}{x:V}{H:Hp}{ys:List V}{P:List V->Hp->Prop}(hx:x=.ref a)(g:H a=some (.cH o (.tup [p,.str z])))(h:∀k,m_ o z k->te ([some p,some (.sx z k)]++f σ) H λy d=>d D=some (.lst ys)/\ys.length<sizeLine/\dw n i (P (ys++[y]) (upd d D (.lst (ys++[y]))))):o8 n i D (λv H Q=>∃a o p z,v=.ref a/\H a=some (.cH o (.tup [p,.str z]))/\∀k,m_ o z k->Q [some p,some (.sx z k)]) f σ iC te x H ys P:=by calc⟨a,o,p,z,hx,g,λk hk=>?_⟩;show (if true=true then (te ([some p,some (.sx z k)]++f σ) H λy d=>d D=some (.lst ys)/\ys.length<sizeLine/\dw n i (P (ys++[y]) (upd d D (.lst (ys++[y]))))) else dw n i (P ys H));rw[if_pos rfl];show h k hk
def RT {K:W.Frag}{a:Addr}{xs:List V}{D:Addr}{f:St->St}{tt:TT}{te:TE}{σ:St}{H:Hp}{R:Hp->Prop}(g:Nat->List V->Hp->Prop)(G:g 0 [] (upd H D (.lst [])))(F:∀i ys H,i<=xs.length->g i ys H->aU K H a xs)(hs:∀i x ys H,xs[i]?=some x->g i ys H->o8 xs.length i D (λv H Q=>∃a o p d z,v=.ref a/\H a=some (.cH o (.tup [p,d,.str z]))/\∀k,m_ o z k->Q [some p,some d,some (.sx z k)]) f σ tt te x H ys (g (i+1)))(hd:∀ys H,g xs.length ys H->R H):∃W:Nat->Nat->List V->Hp->Prop,(∃m,W 0 m [] (upd H D (.lst [])))/\
   ∀i m ys H,W i m ys H->((Ce K a).stop i H/\R H)\/((Ce K a).go i H/\∀x H',(Ce K a).zY i H x H'->∃a o p d z,x=.ref a/\H' a=some (.cH o (.tup [p,d,.str z]))/\∀k,m_ o z k->(tt ([some p,some d,some (.sx z k)]++f σ) H' λb B=>
    if b=true then te ([some p,some d,some (.sx z k)]++f σ) B λy q=>q D=some (.lst ys)/\ys.length<sizeLine/\∃j,j<m/\W (i+1) j (ys++[y]) (upd q D (.lst (ys++[y])))
    else ∃j,j<m/\W (i+1) j ys B)):=Uw (TP:=λv H Q=>∃a o p d z,v=.ref a/\H a=some (.cH o (.tup [p,d,.str z]))/\∀k,m_ o z k->Q [some p,some d,some (.sx z k)]) g G F hs hd
end L2
namespace L2
open PySem PySem.Spec PyProof.Rows PySem.W
section
variable {prog:Program}{w:World}{A:Around}{E:AB}{s:Shared}{z ti to u v a:Addr}{i:Nat}{f:Array Value}{x m n:Value}
def Vw {c:Nat}{SV:Nat->Heap->Prop}(fr:∀i h h',SV i h->(∀o,h.get? v=some o->h'.get? v=some o)->SV i h')(DI:∀(s':Shared) (Q':AB) (E':AB),SV i s'.heap->(∀h',SV (i+1) h'->Heap.SameBut v s'.heap h'->Q' (.str ⟨#[c]⟩ s'.toks) {s' with heap:=h',toks:=s'.toks+1})->wpAny (model prog w) A (Builtin.SmallTypes.nextOf (.ref v)) Q' E' s'){Q:AB}(D:ZA z ti to u v a a)(hz:IsZip s.heap z ti to .none)(hi:IsPair s.heap ti (.ref u) (.ref v))(ho:IsPair s.heap to m n)(hu:s.heap.IsListIter u a i)(hv:SV i s.heap)(ha:s.heap.IsList a f)(hx:f[i]?=some x)(q:∀h',IsZip h' z ti to (rawInt s.heap.objs.size)->IsPair h' to x (.str ⟨#[c]⟩ s.toks)->h'.IsListIter u a (i+1)->SV (i+1) h'->IsPair h' s.heap.objs.size x (.str ⟨#[c]⟩ s.toks)->
   (∀c o,c≠z->c≠to->c≠u->c≠v->s.heap.get? c=some o->h'.get? c=some o)->Q (.ref s.heap.objs.size) {s with heap:=h',toks:=s.toks+1}) :
  wpAny (model prog w) A (Builtin.«zip.__next__» ⟨[.ref z],[]⟩) (λF s'=>∃r,F=.done (.ret r)/\Q r s') E s:=by
 show wpAny _ _ (field (.ref z) 2 >>= _) _ _ _;calc aa (fw hz rQ (x:=.bool false) rQ ?_);show wpAny _ _ (field (.ref z) 3 >>= _) _ _ _;calc aa (fw hz rQ (x:=.ref ti) rQ (aa (fE hi rQ ?_)));show wpAny _ _ (Builtin.SmallTypes.ownedTupleIsFree (.ref z) >>= _) _ _ _;calc aa ?_;unfold Builtin.SmallTypes.ownedTupleIsFree;calc aa (fw hz rQ (x:=.none) rQ (ag ?_));simp only[if_true];calc aa (f7 (aa (fw hz rQ (x:=.ref to) rQ (aa (mw hz v0 λg1 L k1=>?_)))));replace L:IsZip g1 z ti to .ellipsis:=L;calc aa ?_;simp only[ve,List.zipIdx_nil,gT,vF];calc aa (aa (wpAny_onRaise ?_));show wpAny _ _ (Builtin.SmallTypes.nextOf (.ref u) >>= _) _ _ _;calc aa (wpAny_nextOf_list_item (hu.at λo e=>k1.extBut _ o D.q3 e) (Heap.IsList.at ha λo e=>k1.extBut _ o D.p2 e) hx λg2 u2 k2=>ag ?_);let Y:IsPair g2 to m n:=k2.extBut _ _ D.q8 (k1.extBut _ _ D.q2 ho);calc aa (fE Y rQ (aa (wpAny_updateSeq_pair Y λg3 J k3=>?_)));replace J:IsPair g3 to x n:=J;calc aa (wpAny_letGo (ag ?_));calc aa (aa (wpAny_onRaise ?_));show wpAny _ _ (Builtin.SmallTypes.nextOf (.ref v) >>= _) _ _ _;calc aa (DI _ _ _ (fr _ _ _ hv λo e=>k3.extBut _ o D.q9.symm (k2.extBut _ o D.p1.symm (k1.extBut _ o D.q4 e))) λg4 v4 k4=>ag ?_);let o4:IsPair g4 to x n:=k4.extBut _ _ D.q9 J;calc aa (fE o4 rQ (aa (wpAny_updateSeq_pair o4 λg d k5=>?_)));replace d:IsPair g to x (.str ⟨#[c]⟩ s.toks):=d;calc aa (wpAny_letGo (ag (ag ?_)));calc aa (fE d rQ (aa (wpAny_newTuple ?_)));let sz:g.objs.size=s.heap.objs.size:=by rw[k5.1,k4.1,k3.1,k2.1,k1.1]
 let Z:IsZip g z ti to .ellipsis:=k5.extBut _ _ D.q2.symm (k4.extBut _ _ D.q4.symm (k3.extBut _ _ D.q2.symm (k2.extBut _ _ D.q3.symm L)));let kk:∀c o,c≠z->c≠to->c≠u->c≠v->s.heap.get? c=some o->g.get? c=some o:=λc o c1 c2 c3 c4 e=>k5.extBut _ _ c2 (k4.extBut _ _ c4 (k3.extBut _ _ c2 (k2.extBut _ _ c3 (k1.extBut _ _ c1 e))));let u5:g.IsListIter u a (i+1):=u2.at λo e=>k5.extBut _ o D.q8.symm (k4.extBut _ o D.p1 (k3.extBut _ o D.q8.symm e));let v5:SV (i+1) g:=fr _ _ _ v4 λo e=>k5.extBut _ o D.q9.symm e;let M:z<g.objs.size:=a7 Z;show wpAny _ _ (Builtin.SmallTypes.ownedTupleHandOut (.ref z) (.ref g.objs.size) >>= _) _ _ _;calc aa ?_;unfold Builtin.SmallTypes.ownedTupleHandOut;let z6:IsZip (g.push {cls:=.type "tuple",data:=.seq #[x,.str ⟨#[c]⟩ s.toks]}) z ti to .ellipsis:=ae _ Z;refine aa (mw z6 v0 λg7 G k7=>?_)
 replace G:IsZip g7 z ti to (rawInt g.objs.size):=G;refine mw G v0 λB j N=>?_
 replace j:IsZip B z ti to (rawInt g.objs.size):=j;let up:∀c o,c≠z->g.get? c=some o->B.get? c=some o:=λc o c1 e=>N.extBut _ _ c1 (k7.extBut _ _ c1 (ae _ e));let O:IsPair B g.objs.size x (.str ⟨#[c]⟩ s.toks):=N.extBut _ _ (gg M) (k7.extBut _ _ (gg M) (ap _ rQ));rw[sz]at j O;calc ag ⟨_,rQ,?_⟩;show Q (.ref g.objs.size) _;rw[sz];show q B j (up _ _ D.q2 d) (u5.at λo e=>up _ o D.q3 e) (fr _ _ _ v5 λo e=>up _ o D.q4 e) O λc o c1 c2 c3 c4 e=>up c o c1 (kk c o c1 c2 c3 c4 e)
def Yt {Q:Fin->Shared->Prop}(N:A.handled=none)(D:ZA z ti to u v a a)(hz:IsZip s.heap z ti to .none)(hi:IsPair s.heap ti (.ref u) (.ref v))(j:s.heap.IsListIter u a i)(ha:s.heap.IsList a f)(hx:f[i]?=none)(q:∀h' e,(∀c o,c≠z->c≠to->c≠u->c≠v->s.heap.get? c=some o->h'.get? c=some o)->(∃o,h'.get? e=some o/\o.cls=.type "StopIteration")->E (.ref e) {s with heap:=h' }):wpAny (model prog w) A (Builtin.«zip.__next__» ⟨[.ref z],[]⟩) Q E s:=by
 show wpAny _ _ (field (.ref z) 2 >>= _) _ _ _;calc aa (fw hz rQ (x:=.bool false) rQ ?_);show wpAny _ _ (field (.ref z) 3 >>= _) _ _ _;calc aa (fw hz rQ (x:=.ref ti) rQ (aa (fE hi rQ ?_)));show wpAny _ _ (Builtin.SmallTypes.ownedTupleIsFree (.ref z) >>= _) _ _ _;calc aa ?_;unfold Builtin.SmallTypes.ownedTupleIsFree;calc aa (fw hz rQ (x:=.none) rQ (ag ?_));simp only[if_true];calc aa (f7 (aa (fw hz rQ (x:=.ref to) rQ (aa (mw hz v0 λL d k1=>?_)))));replace d:IsZip L z ti to .ellipsis:=d;calc aa ?_;simp only[ve,List.zipIdx_nil,gT,vF];calc aa (aa (wpAny_onRaise ?_));show wpAny _ _ (Builtin.SmallTypes.nextOf (.ref u) >>= _) _ _ _;calc aa (wpAny_nextOf_list_end N (j.at λo e=>k1.extBut _ o D.q3 e) (Heap.IsList.at ha λo e=>k1.extBut _ o D.p2 e) hx λG e k2 J=>?_);let⟨B,e1,e2⟩:=J;let g:IsZip G z ti to .ellipsis:=k2 _ _ D.q3.symm d;let M:e≠z:=λt=>by subst t;rw[g]at e1;cases e1;simp at e2
 show mw g v0 λF _ k3=>q F e (λc o c1 _ c3 _ t=>k3.extBut _ _ c1 (k2 _ _ c3 (k1.extBut _ _ c1 t))) ⟨B,k3.extBut _ _ M e1,e2⟩
abbrev Z0 (h:Heap)(a:Addr)(x:Str)(t:Tok):Heap:=(ZJ h a).push {cls:=.type (strIterType x),data:=.fields #[.str x t,.int 0 0]}
abbrev Z1 (h:Heap)(a:Addr)(x:Str)(t:Tok):Heap:=(Z0 h a x t).push {cls:=.type "tuple",data:=.seq #[.ref h.objs.size,.ref (ZJ h a).objs.size]}
abbrev Z2 (h:Heap)(a:Addr)(x:Str)(t:Tok):Heap:=(Z1 h a x t).push {cls:=.type "tuple",data:=.seq #[.none,.none]}
abbrev Qf (h:Heap)(a:Addr)(x:Str)(t:Tok):Heap:=(Z2 h a x t).push {cls:=.type "zip",data:=.fields #[.none,.bool false,.bool false,.ref (Z0 h a x t).objs.size,.ref (Z1 h a x t).objs.size]}
def abo (a:Addr)(x:Str)(t:Tok)(f:Array Value):Meets (Builtin.«zip.__new__» ⟨[.type "zip",.ref a,.str x t],[]⟩) (λ_ R s=>s.heap.IsList a f/\R (.ok (.ret (.ref (Z2 s.heap a x t).objs.size))) {s with heap:=Qf s.heap a x t}):=
 .of_wp λprog w A R s h=>by
  let⟨hp,B,d,q,os⟩:=s;let⟨h1,h⟩:=h;let g:=sub_zip;let j:Heap.IsList (Shared.heap ⟨hp,B,d,q,os⟩) a f:=h1
  wp_walk using mP j,ng
  show⟨_,rQ,h⟩
def afT {x:Str}{t:Tok}{Q:AB}(ha:s.heap.IsList a f)(q:∀h',IsZip h' (s.heap.objs.size+4) (s.heap.objs.size+2) (s.heap.objs.size+3) .none->IsPair h' (s.heap.objs.size+2) (.ref s.heap.objs.size) (.ref (s.heap.objs.size+1))->IsPair h' (s.heap.objs.size+3) .none .none->
   h'.IsListIter s.heap.objs.size a 0->h'.IsStrIter (s.heap.objs.size+1) (strIterType x) x t 0->(∀c o,s.heap.get? c=some o->h'.get? c=some o)->Q (.ref (s.heap.objs.size+4)) {s with heap:=h' }) :
  wpAny (model prog w) A (call (.type "zip") [.ref a,.str x t]) Q E s:=by
 calc callType_new F.called_zip v_ (F.typeCall_zip_2 _ _) (F.newCall_zip_2 _ _) (λobj=>F.args_object_init_3 obj _ _) F.entry_zip_new (abo a x t f) ⟨ha,?_⟩;let j:(ZJ s.heap a).objs.size=s.heap.objs.size+1:=dC ..;let d:(Z0 s.heap a x t).objs.size=s.heap.objs.size+2:=by rw[dC,j]
 let g:(Z1 s.heap a x t).objs.size=s.heap.objs.size+3:=by rw[dC,d]
 let B:(Z2 s.heap a x t).objs.size=s.heap.objs.size+4:=by rw[dC,g]
 let e5:(Qf s.heap a x t).get? (Z2 s.heap a x t).objs.size=some _:=ap _ rfl;let e4:(Qf s.heap a x t).get? (Z1 s.heap a x t).objs.size=some _:=ae _ (ap _ rQ);let e3:(Qf s.heap a x t).get? (Z0 s.heap a x t).objs.size=some _:=ae _ (ae _ (ap _ rQ));let e2:(Qf s.heap a x t).get? (ZJ s.heap a).objs.size=some _:=ae _ (ae _ (ae _ (ap _ rQ)));let e1:(Qf s.heap a x t).get? s.heap.objs.size=some _:=ae _ (ae _ (ae _ (ae _ (ap _ rQ))));show _/\_;rw[d,g,B]at e5;rw[j,d]at e3;rw[g]at e4;rw[j]at e2;rw[B];show⟨⟨_,e5,rQ⟩,q _ e5 e3 e4 ⟨_,e1,rQ,rQ⟩ ⟨_,e2,rQ,rQ⟩ λc o t=>ae _ (ae _ (ae _ (ae _ (ae _ t))))⟩
end
def aG.afh {X:Cx}{ak:AC}{σ:St}{H:Hp}{s:Shared}{fp:List Addr}{b:Addr}{x:Str}{j:Heap}(I:aG X ak σ H s)(q:∀b∈fp,mQ X ak H b)(lt:∀b∈fp,b<s.heap.objs.size)(F:j.get? s.heap.objs.size=some {cls:=.type "tuple",data:=.seq #[.ref b,.str x s.toks]})(hk:∀b o,b∉fp->s.heap.get? b=some o->j.get? b=some o):∃o,aG X ak σ (upd H s.heap.objs.size (.cH o (.tup [.ref b,.str x]))) {s with heap:=j,toks:=s.toks+1}/\∀c∈fp,upd H s.heap.objs.size (.cH o (.tup [.ref b,.str x])) c=none:=by
 let D:aG X ak σ (upd H s.heap.objs.size (.cH {cls:=.type "tuple",data:=.seq #[.ref b,.str x s.toks]} (.tup [.ref b,.str x]))) {s with heap:=s.heap.push {cls:=.type "tuple",data:=.seq #[.ref b,.str x s.toks]},toks:=s.toks+1}:=
  I.laid (λb v e=>ae _ e) (af _) ⟨ap _ rQ,zsz 2,[.ref b,.str x s.toks],.cons rQ (.cons ⟨_,rQ⟩ .nil),⟨_,ap _ rQ,rQ,_,rQ⟩⟩ (cx _) (by
   intro y z hz;simp at hz;let⟨rfl,rfl⟩:=hz;show⟨I.gh.1,eC _⟩)
 let fr:∀c∈fp,upd H s.heap.objs.size (.cH {cls:=.type "tuple",data:=.seq #[.ref b,.str x s.toks]} (.tup [.ref b,.str x])) c=none:=λc d=>by rw[aY (bb (lt c d))];show(q c d).1
 refine⟨_,aG.Fl (s:={s with heap:=s.heap.push {cls:=.type "tuple",data:=.seq #[.ref b,.str x s.toks]},toks:=s.toks+1}) (h':=j) (fp:=fp) (t':=s.toks+1) D (λc o d g=>?_) (λc d=>?_),fr⟩
 .rcases Heap.get?_push_cases g with⟨G,B⟩|z;.rw[G,B];show F
  .show hk c o d z
 .let⟨f0,f1,f2,f3,f4,f5⟩:=q c d;show⟨fr c d,f1,f2,f3,f4,f5⟩
def RW (K:W.Frag)(a:Addr)(l:List Nat):It:=⟨λi H=>∃xs b,aP K H a xs/\xs[i]?=some (.ref b)/\i<l.length,λi H t H'=>∃T b c o,H T=none/\t=.ref T/\(∀xs,aP K H a xs->xs[i]?=some (.ref b))/\l[i]?=some c/\H'=upd H T (.cH o (.tup [.ref b,.str (S [c])])),λi H=>∃xs,aP K H a xs/\xs.length<=i⟩
def Vx {P:Program}{w:World}{K:W.Frag}{elts:List Expr}{x1:Nat}{pos:Pos}{z ti to u v a:Addr}{ty:String}(hty:ty="str_ascii_iterator"\/ty="str_iterator")(l:List Nat)(t:Tok)(D:ZA z ti to u v a a):Turn P w K (.Tuple elts x1 pos) (RW K a l) [z,ti,to,u,v] z (λi h=>IsZip h z ti to .none/\IsPair h ti (.ref u) (.ref v)/\(∃m n,IsPair h to m n)/\h.IsListIter u a i/\h.IsStrIter v ty (S l) t i) where
 mem:=by simp
 obj:=λi h st c d=>by
  obtain⟨h1,j,⟨m,n,J⟩,⟨o4,B,_,d4⟩,⟨o5,G,_,d5⟩⟩:=st;simp only[a_,gu,or_false]at d;rcases d with e|e|e|e|e <;> subst e
  .show⟨_,h1,λv y=>by cases y⟩
  .show⟨_,j,λv y=>by cases y⟩
  .show⟨_,J,λv y=>by cases y⟩
  .show⟨o4,B,λv y=>by rw[d4]at y;cases y⟩
  .show⟨o5,G,λv y=>by rw[d5]at y;cases y⟩
 keep:=λi h h' st k=>by obtain⟨h1,j,⟨m,n,J⟩,B,o,G,r⟩:=st;show⟨k z v0 _ h1,k ti v0 _ j,⟨m,n,k to v0 _ J⟩,B.at λo e=>k u v0 o e,o,k v v0 o G,r⟩
 item:=by
  intro X hP hw hK d i ak s σ H E I hf st hg;subst hP hw hK;obtain⟨h1,j,⟨m,n,J⟩,B,G⟩:=st;let⟨xs,b,g,hx,Y⟩:=hg;let⟨fs,rf,pf,_⟩:=I.list g;let⟨p,ep,rp⟩:=rf.get hx;obtain rfl:p=.ref b:=rp;let N:(S l).cps[i]?=some l[i]:=by simp[S,Y]
  let lt:∀c∈[z,ti,to,u,v],c<s.heap.objs.size:=λc d=>by
   simp only[a_,gu,or_false]at d;rcases d with e|e|e|e|e <;> subst e
   .show a7 h1
   .show a7 j
   .show a7 J
   .let⟨o,e,_⟩:=B;show a7 e
   .let⟨o,e,_⟩:=G;show a7 e
  let O:s.TypeIs (.ref z) "zip":=⟨_,h1,rQ⟩
  let hh:X.A.in1.handled=none:=by simp[I.ok.hd d]
  let M:(∀(s':Shared) (Z:AB) (E':AB),s'.heap.IsStrIter v ty (S l) t i->(∀h',h'.IsStrIter v ty (S l) t (i+1)->Heap.SameBut v s'.heap h'->Z (.str ⟨#[l[i]]⟩ s'.toks) {s' with heap:=h',toks:=s'.toks+1})->wpAny (model X.prog X.w) X.A.in1 (Builtin.SmallTypes.nextOf (.ref v)) Z E' s')->
    wpAny (model X.prog X.w) X.A (pyNext (.ref z)) (λr s1=>∃u1,r=some u1/\wpAny (model X.prog X.w) X.A (letOwnedTupleGo (.Tuple elts x1 pos) (.ref z) u1) (λ_ s2=>∃x H',aG X ak σ H' s2/\bD x u1/\(RW X.K a l).zY i H x H'/\(IsZip s2.heap z ti to .none/\IsPair s2.heap ti (.ref u) (.ref v)/\(∃m n,IsPair s2.heap to m n)/\s2.heap.IsListIter u a (i+1)/\s2.heap.IsStrIter v ty (S l) t (i+1))/\∀b∈[z,ti,to,u,v],H' b=none) E s1) E s:=by
   intro DI;unfold pyNext;calc aa (kq (dP (name:=Str.ofString "__next__") O sv (c_ sv O F.entry_zip_next ?_ (F.args_zip_next_1 _))));calc Vw (SV:=λi h=>h.IsStrIter v ty (S l) t i) (λi h h' st k=>let ⟨o,ho,r⟩:=st;⟨o,k o ho,r⟩) DI D h1 j J B G (show s.heap.IsList a fs.toArray from pf.isList) (x:=.ref b) (by simpa using ep) λh' k1 k2 k3 k4 k5 k6=>ag ?_;calc⟨_,rQ,wpAny_letOwnedTupleGo_zip k1 λh2' e2 L=>?_⟩;let up:∀c o,c∉[z,ti,to,u,v]->s.heap.get? c=some o->h2'.get? c=some o:=λc o d e=>by simp only[a_,gu,or_false,not_or]at d;show L.extBut _ _ d.1 (k6 c o d.1 d.2.2.1 d.2.2.2.1 d.2.2.2.2 e)
   let nz:s.heap.objs.size≠z:=gg (lt z v0);let⟨ob,I3,fr⟩:=aG.afh (x:=S [l[i]]) (b:=b) I hf lt (L.extBut _ _ nz k5) up;let⟨o5,k4,r5⟩:=k4;show⟨.ref s.heap.objs.size,_,I3,rQ,⟨s.heap.objs.size,b,l[i],ob,I.hok.fresh (af _),rQ,λzs hz=>by rw[I.JF hz g];show hx,by simp[Y],rQ⟩,
    ⟨e2,L.extBut _ _ D.q1 (k6 _ _ D.q1 D.q5 D.q6 D.q7 j),⟨_,_,L.extBut _ _ D.q2 k2⟩,k3.at λo e=>L.extBut _ o D.q3 e,o5,L.extBut _ _ D.q4 k4,r5⟩,fr⟩
  rcases hty with rfl|rfl;.show M λs' Z E' st q=>wpAny_nextOf_ascii_item st N q
  .show M λs' Z E' st q=>wpAny_nextOf_wide_item st N q
 done:=by
  intro X hP hw hK d i ak s σ H E I hf st hg;subst hP hw hK;obtain⟨h1,j,⟨m,n,J⟩,B,G⟩:=st;let⟨xs,g,hl⟩:=hg;let⟨fs,rf,pf,_⟩:=I.list g;let bO:=rf.length;let hh:X.A.in1.handled=none:=by simp[I.ok.hd d]
  let O:s.TypeIs (.ref z) "zip":=⟨_,h1,rQ⟩
  unfold pyNext;calc aa (kq (dP (name:=Str.ofString "__next__") O sv (c_ sv O F.entry_zip_next ?_ (F.args_zip_next_1 _))));calc Yt hh D h1 j B (show s.heap.IsList a fs.toArray from pf.isList) (by simp;simp_all) λh' e k zz=>?_;let⟨o,e1,e2⟩:=zz;calc aa (ic (T:="StopIteration") (b:=true) ⟨o,e1,e2⟩ isSubtype_stop ?_);calc ag ⟨rQ,aG.Fl (fp:=[z,ti,to,u,v]) (t':=s.toks) I (λc o d e=>?_) hf⟩;simp only[a_,gu,or_false,not_or]at d;show k c o d.1 d.2.2.1 d.2.2.2.1 d.2.2.2.2 e
 self:=λA i s Q E st h=>wpAny_pyIter_zip st.1 h
section
variable {X:Cx}{elts:List Expr}{x1:Nat}{tp:Pos}
def afi (K:W.Frag)(ta:TA):TI:=λσ H R=>ta σ H λvs H1=>∃a l,vs=[.ref a,.str (S l)]/\(∃xs,aP K H1 a xs)/\R (RW K a l) H1
def abp {a b:Expr}{ta:TA}{p pos:Pos}(Z:Gl X "zip")(hm:X.mg "zip"=none)(ha:QA X [a,b] ta)(hs:starEach [a,b] X.env=[(false,eval a X.env),(false,eval b X.env)]:=by rfl)(g:starEach [b] X.env=[(false,eval b X.env)]:=by rfl):QI X (.Tuple elts x1 tp) (.Call (.Name "zip" p) [a,b] [] pos) (afi X.K ta):=⟨by
 intro ak s σ H R I h;calc Call_ (pG I Z hm UG (gS (bA (ha.out pos ak s σ H _ I h) λus s1 zz=>?_) (by rw[hs,g]) (by rw[g];rfl)));let⟨vs,H1,B,r1,q1⟩:=zz;obtain⟨a,l,e,⟨xs,F⟩,q⟩:=q1;subst e;cases r1 with
 | cons r rr=>
  cases rr with
  | cons r' rr=>
   cases rr;cases r;let⟨t,rfl⟩:=r';let⟨fs,rf,M,_⟩:=B.list F;let J:a<s1.heap.objs.size:=by
    let⟨o,Y,_⟩:=(show s1.heap.IsList a fs.toArray from M.isList)
    show a7 Y
   let G:strIterType (S l)="str_ascii_iterator"\/strIterType (S l)="str_iterator":=by unfold strIterType;split <;> simp
   calc afT (show s1.heap.IsList a fs.toArray from M.isList) λh' k1 k2 k3 k4 k5 O=>wpAny_pyIter_zip k1 ?_;let D:ZA (s1.heap.objs.size+4) (s1.heap.objs.size+2) (s1.heap.objs.size+3) s1.heap.objs.size (s1.heap.objs.size+1) a a:=by
    let d:∀N a b:Nat,a<N->b<N->ZA (N+4) (N+2) (N+3) N (N+1) a b:=λN a b J lb=>by constructor <;> (show (_:Nat)≠_) <;> lia
    show d _ _ _ J J
   calc⟨s1.heap.objs.size+4,[s1.heap.objs.size+4,s1.heap.objs.size+2,s1.heap.objs.size+3,s1.heap.objs.size,s1.heap.objs.size+1],_,_,H1,rQ,B.kept (t':=s1.toks) O,Vx G l t D,⟨k1,k2,⟨_,_,k3⟩,k4,k5⟩,λc L=>?_,q⟩;let j:s1.heap.objs.size<=c:=by
    simp only[a_,gu,or_false]at L;let d:∀N c:Nat,(c=N+4\/c=N+2\/c=N+3\/c=N\/c=N+1)->N<=c:=λN c h=>by lia
    show d _ _ L
   show B.nC j (B.hok.fresh j)⟩
end
def ad0 {K:W.Frag}{a:Addr}{xs:List V}{l:List Nat}{f:St->St}{tt:TT}(O:xs.length=l.length)(g:∀i (h:i<xs.length),∃b,xs[i]=.ref b){D:Addr}{te:TE}{σ:St}{H:Hp}{R:Hp->Prop}(d:Nat->List V->Hp->Prop)(B:d 0 [] (upd H D (.lst [])))(j:∀i ys H,i<=xs.length->d i ys H->aP K H a xs)(hs:∀i b c ys H T o,xs[i]?=some (.ref b)->l[i]?=some c->d i ys H->H T=none->o8 xs.length i D (λv H Q=>∃a o p z,v=.ref a/\H a=some (.cH o (.tup [p,.str z]))/\∀k,m_ o z k->Q [some p,some (.sx z k)]) f σ tt te (.ref T) (upd H T (.cH o (.tup [.ref b,.str (S [c])]))) ys (d (i+1)))(hd:∀ys H,d xs.length ys H->R H):rB (RW K a l) D H R (Cz (λv H Q=>∃a o p z,v=.ref a/\H a=some (.cH o (.tup [p,.str z]))/\∀k,m_ o z k->Q [some p,some (.sx z k)]) f σ tt te):=Fd xs.length d B (λi ys H h p=>⟨⟨xs,(g i h).choose,j i ys H (aI h) p,(ah h).trans (congrArg some (g i h).choose_spec),O ▸ h⟩,λx H' y=>by let⟨T,b,c,o,F,rfl,hx,q,rfl⟩:=y;show hs i b c ys H T o (hx xs (j i ys H (aI h) p)) q p F⟩) λys H p=>⟨⟨xs,j _ ys H (af _) p,af _⟩,hd ys H p⟩
end L2
namespace L2
open PySem
theorem eS {n:Nat}{P:List Value->Prop}(h:∀a us,us.length=n->P (a::us)):∀us,us.length=n+1->P us
 | a::us,e=>h a us (Nat.succ.inj e)
@[elab_as_elim] theorem e1 {P:List Value->Prop} (h:∀a,P [a]) (us:List Value) (d:us.length=1):P us:=eS (λa us e=>(by rw[sL e];show h a)) us d
@[elab_as_elim] theorem e2 {P:List Value->Prop} (h:∀a b,P [a,b]) (us:List Value) (d:us.length=2):P us:=eS (λa us e=>e1 (P:=λr=>P (a::r)) (h a) us e) us d
@[elab_as_elim] theorem e3 {P:List Value->Prop} (h:∀a b c,P [a,b,c]) (us:List Value) (d:us.length=3):P us:=eS (λa us e=>e2 (P:=λr=>P (a::r)) (h a) us e) us d
@[elab_as_elim] theorem e4 {P:List Value->Prop} (h:∀a b c d,P [a,b,c,d]) (us:List Value) (g:us.length=4):P us:=eS (λa us e=>e3 (P:=λr=>P (a::r)) (h a) us e) us g
@[elab_as_elim] theorem e5 {P:List Value->Prop} (h:∀a b c d e,P [a,b,c,d,e]) (us:List Value) (g:us.length=5):P us:=eS (λa us e=>e4 (P:=λr=>P (a::r)) (h a) us e) us g
end L2
namespace My
open PySem L2
def top (i:Nat):Stmt:=PySem.Challenge.pw_letterrack_k46_other_racks.main.body.getD i (.Pass ⟨0,0,0,0⟩)
noncomputable abbrev qH:Stmt:=top 6
def Ny:aV ["thing"] ["thing"] (aF qH):={}
noncomputable abbrev tD:Stmt:=top 7
def RX:aV ["thing"] ["thing"] (aF tD):={}
noncomputable abbrev o_:Stmt:=top 8
def K8:aV ["sign"] ["sign"] (aF o_):={}
noncomputable abbrev tE:Stmt:=top 9
def RZ:aV ["sign"] ["sign"] (aF tE):={}
noncomputable abbrev j4:Stmt:=top 10
def Bh:aV ["laying"] ["laying"] (aF j4):={}
noncomputable abbrev qI:Stmt:=top 15
def pB:aV ["thing","width"] ["thing"] (aF qI):={}
noncomputable abbrev qJ:Stmt:=top 16
def Ah:aV ["thing"] ["thing"] (aF qJ):={}
noncomputable abbrev pC:Stmt:=top 17
def yu:aV ["thing"] ["thing"] (aF pC):={}
noncomputable abbrev nR:Stmt:=top 18
def Ja:aV ["rows","row","column"] ["rows","row","column"] (aF nR):={}
noncomputable abbrev mz:Stmt:=top 19
def FP:aV ["rows","thing"] ["rows","thing"] (aF mz):={}
noncomputable abbrev qK:Stmt:=top 20
def Nz:aV ["rows","marks","begin"] ["rows","marks","begin"] (aF qK):={}
noncomputable abbrev mC:Stmt:=top 21
def uR:aV ["rows","column"] ["rows","column"] (aF mC):={}
noncomputable abbrev mD:Stmt:=top 22
def uT:aV ["rows"] ["rows"] (aF mD):={}
noncomputable abbrev iu:Stmt:=inClass (top 23) 0
def Jb:aV ["self","rows","marks","begin"] ["self","rows","marks","begin"] (aF iu):={}
noncomputable abbrev jF:Stmt:=inClass (top 23) 1
def NK:aV ["self","row","column"] ["self","row","column"] (aF jF):={}
noncomputable abbrev fL:Stmt:=inClass (top 23) 2
def rO:aV ["self"] ["self"] (aF fL):={}
noncomputable abbrev iW:Stmt:=inClass (top 23) 3
def jq:aV ["self","row","column","way","line","place","ahead","signs","first"] ["self","row","column","way"] (aF iW):={}
noncomputable abbrev gb:Stmt:=inClass (top 23) 4
def tG:aV ["self","begin"] ["self"] (aF gb):={}
noncomputable abbrev iw:Stmt:=inClass (top 23) 5
def iI:aV ["self","laying","lines","row","column","sign"] ["self","laying"] (aF iw):={}
noncomputable abbrev qL:Stmt:=top 26
def NP:aV ["laying"] ["laying"] (aF qL):={}
noncomputable abbrev iQ:Stmt:=top 27
def jV:aV ["board","row","column","around"] ["board","row","column"] (aF iQ):={}
noncomputable abbrev j6:Stmt:=top 30
def iy:aV ["board","book","row","column","way","run","place","ahead","behind"] ["board","book","row","column","way"] (aF j6):={}
noncomputable abbrev nT:Stmt:=top 31
def mF:aV ["board","cells","row","signs"] ["board"] (aF nT):={}
noncomputable abbrev zF:Stmt:=top 32
def Yu:aV ["board"] ["board"] (aF zF):={}
noncomputable abbrev vW:Stmt:=top 34
def tH:aV ["board","word","cells","row"] ["board","word"] (aF vW):={}
noncomputable abbrev jG:Stmt:=top 35
def gQ:aV ["board","row","column","word","triples","place","letter","sign"] ["board","row","column","word"] (aF jG):={}
noncomputable abbrev lC:Stmt:=top 36
def j7:aV ["board","book","fitting","row","column"] ["board","book"] (aF lC):={}
noncomputable abbrev mG:Stmt:=top 37
def uU:aV ["triples","fitting","joining"] ["triples","fitting","joining"] (aF mG):={}
noncomputable abbrev jr:Stmt:=top 38
def mH:aV ["letters","rack","texts","sign","tile","left"] ["letters","rack"] (aF jr):={}
noncomputable abbrev nU:Stmt:=top 39
def mJ:aV ["triples","rack","cells","layings","signs"] ["triples","rack"] (aF nU):={}
noncomputable abbrev jH:Stmt:=top 40
def dB:aV ["board","book","rack","fitting","joining","layings","word","row","column","triples"] ["board","book","rack"] (aF jH):={}
noncomputable abbrev mK:Stmt:=top 41
def oO:aV ["board","book","rack","across","down"] ["board","book","rack"] (aF mK):={}
noncomputable abbrev tK:Stmt:=top 43
def Ds:aV ["text"] ["text"] (aF tK):={}
noncomputable abbrev nW:Stmt:=top 44
def Jc:aV ["text"] ["text"] (aF nW):={}
noncomputable abbrev iY:Stmt:=inClass (top 45) 0
def yw:aV ["self","words","word"] ["self","words"] (aF iY):={}
noncomputable abbrev iz:Stmt:=inClass (top 45) 1
def Jd:aV ["self"] ["self"] (aF iz):={}
noncomputable abbrev jJ:Stmt:=inClass (top 45) 2
def NQ:aV ["self","text"] ["self","text"] (aF jJ):={}
noncomputable abbrev tL:Stmt:=top 47
def R6:aV ["_law_script","_law_k"] ["_law_script","_law_k"] (aF tL):={}
noncomputable abbrev Du:Stmt:=top 48
def abq:aV ["_law_x"] ["_law_x"] (aF Du):={}
noncomputable abbrev zG:Stmt:=top 49
def Yv:aV ["_law_x"] ["_law_x"] (aF zG):={}
noncomputable abbrev vX:Stmt:=top 50
def HS:aV ["_law_script","_law_k","_law_cell"] ["_law_script","_law_k"] (aF vX):={}
noncomputable abbrev vY:Stmt:=top 51
def HW:aV ["_law_script","_law_k","_law_base","_law_many","_law_left","_law_found","_law_x","_law_j"] ["_law_script","_law_k","_law_base","_law_many"] (aF vY):={}
noncomputable abbrev tQ:Stmt:=top 52
def lD:aV ["_law_script","_law_k","_law_letters_here","_law_row","_law_found","_law_digit"] ["_law_script","_law_k"] (aF tQ):={}
noncomputable abbrev zH:Stmt:=top 53
def oR:aV ["_law_letters_here","_law_script","_law_start","_law_many","_law_found","_law_k","_law_row","_law_size_here"] ["_law_letters_here","_law_script","_law_start","_law_many"] (aF zH):={}
noncomputable abbrev Dv:Stmt:=top 54
def abr:aV ["_law_x"] ["_law_x"] (aF Dv):={}
noncomputable abbrev zJ:Stmt:=top 55
def gO:aV ["_law_letters_here","_law_script","_law_start","_law_x","_law_high","_law_wide","_law_rows","_law_marks","_law_k","_law_row","_law_digit","_law_sign"] ["_law_letters_here","_law_script","_law_start","_law_x"] (aF zJ):={}
noncomputable abbrev Dw:Stmt:=top 56
def ni:aV ["_law_letters_here","_law_script","_law_k","_law_most","_law_row","_law_many","_law_rack_here","_law_digit","_law_tile"] ["_law_letters_here","_law_script","_law_k","_law_most"] (aF Dw):={}
noncomputable abbrev Dy:Stmt:=top 57
def oU:aV ["_law_laying","_law_rack_here","_law_left","_law_row","_law_column","_law_sign","_law_tile"] ["_law_laying","_law_rack_here"] (aF Dy):={}
noncomputable abbrev tR:Stmt:=top 58
def vZ:aV ["_law_laying","_law_letter","_law_found","_law_k"] ["_law_laying","_law_letter"] (aF tR):={}
noncomputable abbrev Jx:Stmt:=top 59
def jt:aV ["_law_script","_law_some","_law_x","_law_words_here","_law_board_here","_law_rack_here","_law_book","_law_found","_law_k","_law_less","_law_laying","_law_other_here","_law_changed"] ["_law_script"] (aF Jx):={}
section
variable {P:Program}{w:World}{K:W.Frag}{mg:Str->Option Value}{base:Heap}
def Dz (c:Nat):Bool:=decide (97<=c)&&decide (c<=122)
def HX (c:Nat):Bool:=decide (65<=c)&&decide (c<=90)
def HY (l:List Nat):Bool:=match l with|[c]=>Dz c||HX c|_=>false
def U7 (a b:Nat):([a]<[b])↔a<b:=by simp[ff]
def R7 (a b:Nat):(!decide ([a]<[b]))=decide (b<=a):=by
 by_cases h:a<b;.rw[aw ((U7 a b).mpr h),al vT];rfl
 .rw[al (λz=>h ((U7 a b).mp z)),aw (kQ h)];rfl
def afj (K:W.Frag)(H:Hp)(x:V):Prop:=∃t,nF K H x t/\W.kitOne K t (.type "str")=some false
def Vy (K:W.Frag):Sp:=λvs H Q _=>(∃x,vs=[x]/\afj K H x/\Q (.bl false) H)\/(∃l,vs=[.str (S l)]/\l.length<=1000/\Q (.bl (HY l)) H)
def R8 (D:aL K mg "is_sign" tD ["thing"])(O:mg "len"=none)(j:mg "str"=none)(G:mg "isinstance"=none):bF P w K mg base "is_sign" 1 ["thing"] (Vy K):=by
 refine D.dD RX (λf bw A outer s H vs Q E L h=>?_) (λvs H Q E h=>?_)
 .refine⟨_,aD (dz (QW.qt (sX (jk (fY (aX jR wa G fI (aj aH (aj (qQ (v:=.ty "str") wa j PyProof.Rows.boot_str rQ) au)))))
     (pK (bW Jm (aX dM wa O b7 (aj aH au)) aB (bQ _))))) (aJ (aW je)) bZ)
   (aJ (aW (Rm (mU uG uG (bY [97] wc) aH (bY [122] wc))
    (lQ (mU uG uG (bY [65] wc) aH (bY [90] wc)))))),?_⟩
  rcases h with⟨x,rfl,⟨t,ty,hk⟩,q⟩|⟨l,rfl,J,q⟩;.show⟨_,rQ,_,_,_,false,rQ,ty,hk,_,rQ,cF (cF q)⟩
  .let hz:l.length<=sizeLine:=aI (aK J);calc⟨_,rQ,_,_,_,true,rQ,.str _,wb,_,rQ,cT ⟨_,rQ,l,rQ,hz,rQ,_,rQ,?_⟩⟩;by_cases h1:l.length=1
   .let⟨c,rfl⟩:=List.length_eq_one_iff.mp h1;calc Ri rQ ?_;calc⟨_,rQ,[97],[c],rQ,rQ,decide (97<=c),by rw[R7],?_⟩;let F:Q (.bl (Dz c||HX c)) H:=q;let g:(HX c=(Dz c||HX c))->xJ Xx Xx (tC (.str (S [65]))) (dj 0) (tC (.str (S [90]))) [some (.str (S [c]))] H Q:=λe=>by
     calc⟨_,rQ,[65],[c],rQ,rQ,decide (65<=c),by rw[R7],?_⟩;rw[<-e]at F;by_cases d:65<=c
     .rw[aw d];calc cF ⟨[c],[90],rQ,rQ,?_⟩;rw[R7];simpa [HX,d] using F
     .rw[al d];calc cT ?_;simpa [HX,d] using F
    by_cases d:97<=c
    .rw[aw d];calc cF ⟨[c],[122],rQ,rQ,_,rQ,?_⟩;rw[R7];by_cases B:c<=122
     .rw[aw B];calc cF ?_;simpa [Dz,d,B] using F
     .rw[al B];show cT (g (by simp[Dz,d,B]))
    .rw[al d];show cT ⟨_,rQ,cT (g (by simp[Dz,d]))⟩
   .let e:(!decide (V.int (l.length:Int)=V.int 1))=true:=by
     rw[al];rfl;intro z;injection z with z;lia
    rw[e];let e2:HY l=false:=by
     match l,h1 with| [],_=>rfl| [c],h=>show absurd rQ h| _::_::_,_=>rfl
    rw[e2]at q;show cF q
 .rcases h with⟨x,rfl,_⟩|⟨x,rfl,_⟩ <;> rfl
def ad1 (a b:V)(c:Int):∃v,jL [a,b] (c%2)=some v/\(v=a\/v=b):=by
 rcases Int.emod_two_eq c with h|h;.show⟨a,by rw[h];show aO (j:=0) rQ,.inl rQ⟩
 .show⟨b,by rw[h];show aO (j:=1) rQ,.inr rQ⟩
def K9 (K:W.Frag):Sp:=λvs H Q _=>∃(a:Addr) (ns:List Int) (k:Nat),vs=[.ref a,.int k]/\aP K H a (ns.map V.int)/\∀v:Int,Q (.int v) H
def zK:Sp:=λvs H Q _=>∃x:Int,vs=[.int x]/\0<=x/\x<1099511627776/\∀y:Int,0<=y->y<2147483647->Q (.int y) H
def R9 (K:W.Frag):Sp:=λvs H Q _=>∃(a:Addr) (ns:List Int) (k:Nat),vs=[.ref a,.int k]/\aP K H a (ns.map V.int)/\k<=1000/\∀v:Int,Q (.int v) H
def DG (K:W.Frag):Sp:=λvs H Q _=>∃(a:Addr) (ns:List Int) (k:Nat) (b:Int) (m:Nat),vs=[.ref a,.int k,.int b,.int m]/\aP K H a (ns.map V.int)/\k<=1000/\0<b/\b<1000000/\m<=100/\
 ∀(p:Addr) (ds:List Int) (H':Hp),aA H H'->H p=none->H' p=some (.lst (ds.map V.int))->ds.length=m->(∀d∈ds,0<=d/\d<b)->Q (.ref p) H'
def isLet (c:Nat):Prop:=97<=c/\c<=122
structure R_ (ls:List Nat):Prop where
 lo:2<=ls.length
 hi:ls.length<=26
 az:∀c∈ls,isLet c
structure kE (w:List Nat):Prop where
 lo:2<=w.length
 hi:w.length<=9
 az:∀c∈w,isLet c
def Sd (D:aL K mg "_law_cell_at" tL ["_law_script","_law_k"])(O:mg "len"=none):bF P w K mg base "_law_cell_at" 1 ["_law_script","_law_k"] (K9 K):=by
 calc D.dD R6 (λf bw A outer s H vs Q E j h=>?_);let⟨a,ns,k,rfl,d,q⟩:=h;calc⟨_,aD (dz (bW Ci bx (aX cu wa O b7 (aj aH au)) (bQ _)) (aJ (aW (bJ fP aH bx (λ_ _=>rfl)))) bZ) (aJ (aW aB)),?_⟩;calc⟨_,rQ,_,rQ,a,_,rQ,.inl d,_,_,rQ,rQ,_,rQ,?_⟩;refine vq (λg=>?_) (λ_=>?_)
 .let hk:k<ns.length:=by
   have:=nv g;rw[ab]at this;simp_all
  show⟨_,rQ,_,rQ,a,_,_,.int ns[k],rQ,rQ,d,aO (by simp[hk]),q _⟩
 .show q _
def abt (D:aL K mg "_law_next" Du ["_law_x"]):bF P w K mg base "_law_next" 1 ["_law_x"] zK:=by calc D.dD abq (λf bw A outer s H vs Q E g h=>?_);let⟨x,rfl,d,h1,q⟩:=h;calc⟨_,aJ (aW (aN cI (aN cM (aN cM (aN qY aH aH) (aN qY aB aH)) aB) aB)),?_⟩;calc⟨_,rQ,_,rQ,_,_,rQ,rQ,.inl ⟨vT,vT⟩,_,rQ,_,_,rQ,rQ,.inl ⟨v_,v_⟩,_,_,rQ,rQ,_,_,rQ,rQ,_,_,rQ,rQ,(by show (0:Int)<2147483647;decide),?_⟩;show q _ (eB _ v_) (de _ v_)
def Yw (D:aL K mg "_law_other" zG ["_law_x"]):bF P w K mg base "_law_other" 1 ["_law_x"] zK:=by calc D.dD Yv (λf bw A outer s H vs Q E g h=>?_);let⟨x,rfl,d,h1,q⟩:=h;calc⟨_,aJ (aW (aN cI (aN cM (aN cM (aN qY aH aH) (aN qY aB aH)) aB) aB)),?_⟩;calc⟨_,rQ,_,rQ,_,_,rQ,rQ,.inl ⟨vT,vT⟩,_,rQ,_,_,rQ,rQ,.inl ⟨v_,v_⟩,_,_,rQ,rQ,_,_,rQ,rQ,_,_,rQ,rQ,(by show (0:Int)<2147483629;decide),?_⟩;show q _ (eB _ v_) (vv (de _ v_) v_)
def Vz (D:aL K mg "_law_number" vX ["_law_script","_law_k"])(F:bF P w K mg base "_law_cell_at" 1 ["_law_script","_law_k"] (K9 K))(B:bF P w K mg base "_law_next" 1 ["_law_x"] zK)(j:bF P w K mg base "_law_other" 1 ["_law_x"] zK):bF P w K mg base "_law_number" 2 ["_law_script","_law_k"] (R9 K):=by
 calc D.dD HS (λf bw A outer s H vs Q E d h=>?_);let⟨a,ns,k,rfl,g,hk,q⟩:=h;refine⟨_,aD (aZ (i:=2) HS.nd rQ (Or.inl rQ) (bf F d rQ (aj aH (aj bx au))))
  (aD (dz (bW jW (aN cI bH aB) aB (bQ _)) (aJ (aW (aN fZ bH aB))) bZ)
  (aJ (aW (bf j d rQ (aj (bf B d rQ (aj (aN cI (aN cM bH (aN qY (aN qY aB bx) bx)) aB) au)) au))))),?_⟩
 calc⟨_,rQ,_,rQ,a,ns,k,rQ,g,λv=>?_⟩;calc⟨_,rQ,_,_,rQ,rQ,(by show (0:Int)<2;decide),rQ,_,rQ,?_⟩;calc vq (λ_=>?_) (λ_=>?_);.show⟨_,rQ,_,_,rQ,rQ,⟨v_,v_⟩,q _⟩
 .calc⟨_,rQ,_,rQ,_,_,rQ,rQ,.inl ⟨v_,v_⟩,_,rQ,_,_,rQ,rQ,.inr ⟨kX _,vT⟩,_,_,rQ,rQ,_,_,rQ,rQ,(by show (0:Int)<2147483647;decide),?_⟩;calc⟨_,rQ,eB _ v_,vv (de _ v_) v_,λy h1 G=>?_⟩;show⟨y,rQ,h1,vT,λz _ _=>q z⟩
def VB (D:aL K mg "_law_digits" vY ["_law_script","_law_k","_law_base","_law_many"])(M:mg "range"=none)(D1:bF P w K mg base "_law_cell_at" 1 ["_law_script","_law_k"] (K9 K))(D2:bF P w K mg base "_law_next" 1 ["_law_x"] zK)(D3:bF P w K mg base "_law_other" 1 ["_law_x"] zK)(D4:bF P w K mg base "_law_number" 2 ["_law_script","_law_k"] (R9 K)):bF P w K mg base "_law_digits" 3 ["_law_script","_law_k","_law_base","_law_many"] (DG K):=by
 calc D.dD HW (λf bw A outer s H vs Q E hr h=>?_);let⟨a,ns,k,b,m,rfl,hS,hk,j,hb1,hm,q⟩:=h;let B:cW 1 _:=hr.mono v_;let nd:=HW.nd;refine⟨_,aD (aZ (i:=4) nd rQ (Or.inl rQ) (bf D4 hr rQ (aj aH (aj bx au))))
  (aD (aZ (i:=5) nd rQ (Or.inl rQ) (fG au))
  (aD (aZ (i:=6) nd rQ (Or.inl rQ) (aN cI cJ aB))
  (aD (eV cy rQ (jw rQ M (aj cD au)) (bV (i:=7) nd rQ (Or.inl rQ))
   (aD (aZ (i:=6) nd rQ (Or.inl rQ) (bf D3 B rQ (aj (bf D2 B rQ (aj (aN cM dZ jC) au)) au)))
   (aD (iG (eN dQ fN fR ju cC
    (aj (aN cI (bJ fP (fG (aj cJ (aj dZ au))) (aN cI (bf D1 B rQ (aj aH (aj bx au))) aB) (λ_ _=>rfl)) bH) au)))
   (aJ (aZ (i:=4) nd rQ (Or.inl rQ) (aN fZ cJ bH))))))
  (aJ (aW cC))))),?_⟩
 calc⟨_,rQ,_,rQ,a,ns,k,rQ,hS,hk,λv=>?_⟩;calc⟨zsz 0,λp hp=>?_⟩;calc⟨_,rQ,_,_,rQ,rQ,(by show (0:Int)<2147483647;decide),?_⟩;refine⟨_,rQ,_,rQ,kX _,vT,mZ (n:=m) (lo:=0) (λi σ F=>∃(G x:Int) (Z:Option V) (ds:List Int),σ=[some (.ref a),some (.int k),some (.int b),some (.int m),some (.int G),some (.ref p),some (.int x),Z]/\aA H F/\
  F p=some (.lst (ds.map V.int))/\ds.length=i/\(∀d∈ds,0<=d/\d<b)/\0<=x/\x<2147483647)
  ⟨v,_,none,[],rQ,aA.upd hp,aq,rQ,λd hd=>by simp at hd,eB _ v_,de _ v_⟩ ?_ ?_⟩
 .intro i σ F hi z;let⟨G,x,Z,ds,rfl,L,g,J,hd,Y,N⟩:=z;calc⟨_,rQ,_,rQ,_,_,rQ,rQ,?_⟩;calc⟨_,rQ,vT,vT,λy h1 h2=>?_⟩;calc⟨y,rQ,h1,vT,λz h3 h4=>?_⟩;calc⟨_,rQ,.inl ⟨rQ,_,aP.of g⟩,?_⟩;calc⟨_,rQ,_,rQ,zsz 2,λt ht=>?_⟩;let s3:∀o,aA H (upd F t o):=λo=>L.bC (L.free ht);calc⟨_,rQ,_,rQ,a,ns,k,rQ,(s3 _).seq hS,λcv=>?_⟩;let⟨u,hu,O⟩:=ad1 (.int G) (.int z) cv;obtain⟨c,rfl⟩:∃c,u=.int c:=by rcases O with e|e <;> show⟨_,e⟩
  calc⟨_,_,rQ,rQ,(by show (0:Int)<2;decide),t,_,_,_,rQ,rQ,aP.of aq,hu,_,rQ,_,_,rQ,rQ,j,?_⟩;let Z4:p≠t:=bI g ht;calc⟨p,_,_,rQ,rQ,(by rw[aY Z4];show g),(by rw[ab,J];show aK vT),?_⟩;calc⟨_,rQ,_,rQ,_,_,rQ,rQ,⟨j,vT⟩,?_⟩;calc⟨G/b,z,_,ds++[c%b],rQ,(s3 _).bC hp,?_,by simp[J],?_,h3,h4⟩;.rw[aq];simp
  .intro d hd';rcases a9.mp hd' with e|e;.show hd d e
   .rw[am.mp e];show⟨eB _ vT,de _ j⟩
 .intro σ F z;let⟨G,x,Z,ds,rfl,L,g,J,hd,Y,N⟩:=z;show⟨_,rQ,q p ds F L hp g J hd⟩
def Z5 (d:Int):jL AL (d%26)=some (97+(d%26).toNat):=by let j:0<=d%26:=eB _ v_;let h1:d%26<26:=de _ v_;let e:d%26=(((d%26).toNat:Nat):Int):=vT;rw[e];calc aO ?_;let g:((d%26).toNat:Int).toNat<26:=vT;simp only[AL,ba,cS];rw[g9 vT];rfl
theorem K_:∀(F:List Nat) (L:List Nat),L.Nodup->F.length<L.length->∃x∈L,x∉F
 | [],L,_,h=>by
  cases L with| nil=>simp at h| cons x r=>show⟨x,ax,v0⟩
 | c::F,L,nd,h=>by
  let d:F.length<(L.erase c).length:=by rw[List.length_erase];simp only[bu]at h;split <;> lia
  let⟨x,h1,j⟩:=K_ F (L.erase c) (nd.erase c) d;let⟨q,g⟩:=nd.mem_erase_iff.mp h1;show⟨x,g,λz=>by rcases a_.mp z with e|e;show q e;show j e⟩
def Yx (F:List Nat)(h:F.length<26)(d:Int):∃j:Nat,(97+((d+j)%26).toNat)∉F:=by let⟨x,h1,B⟩:=K_ F ((List.range 26).map (97 + ·)) v_ (by simpa using h);let⟨c,q,rfl⟩:=aT.mp h1;let g:c<26:=bv.mp q;calc⟨((c-d)%26).toNat,?_⟩;let e:((d+(((c-d)%26).toNat:Nat))%26).toNat=c:=vT;rw[e];show B
def FQ {ds:List Int}{a b:Nat}(h1:a<=b)(d:b<=ds.length):(ig (ds.map V.int) (some (a:Int)) (some (b:Int))).length=b-a:=by unfold ig;rw[HT.m7,HT.m7,bq,cz,ab];grind
def mL (l:List Nat):(l.map λc=>[c]).flatten=l:=by
 induction l with| nil=>rfl| cons c r ih=>rw[bX,iS,ih];rfl
def afk:∀c∈AL,isLet c:=λc d=>by let⟨k,hk,rfl⟩:=aT.mp d;have:=bv.mp hk;show⟨vT,vT⟩
def tU (c:Nat):Prop:=HY [c]=true
def tU.lt {c:Nat}(h:tU c):c<128:=by unfold tU HY Dz HX at h;simp at h;lia
def VD {c:Nat}(h:isLet c):tU c:=by simp[tU,HY,Dz,h.1,h.2]
def VF {c:Nat}(h:isLet c):tU (c-32):=by let h1:=h.1;let d:=h.2;simp[tU,HY,Dz,HX];lia
abbrev ones (cs:List Nat):List (List Nat):=cs.map λc=>[c]
structure Blk (r w:Nat)(ls:AA):Prop where
 len:ls.length=r
 j8:∀l∈ls,l.length=w
def MK:List Nat:=[46,50,51,52,98,99,100]
def Ai (c:Nat):Prop:=c=46\/tU c
def Z6 (c:Nat):Prop:=c∈MK
structure DK (r w:Nat)(ao aM:AA)(i j:Nat):Prop where
 r1:1<=r
 r9:r<=9
 w1:1<=w
 w9:w<=9
 br:Blk r w ao
 bm:Blk r w aM
 cr:∀l∈ao,∀c∈l,Ai c
 cm:∀l∈aM,∀c∈l,Z6 c
 bi:i<r
 bj:j<w
def jT (ls:AA)(l:List Nat):Ts ls++[V.str (S l)]=Ts (ls++[l]):=by simp[Ts]
def pP (d:List Nat)(c:Nat):ones d++[[c]]=ones (d++[c]):=by simp[ones]
def abu (c:Nat)(fs:List Nat):inV (.str (S [c])) (Ts (ones fs))=decide (c∈fs):=by
 unfold inV
 induction fs with
 | nil=>rfl
 | cons a r ih=>
  show (sS (.str (S [a])) (.str (S [c]))||(Ts (ones r)).any λy=>sS y (.str (S [c])))=_;rw[ih];by_cases h:a=c
  .subst h;have:sS (.str (S [a])) (.str (S [a]))=true:=by simp[sS]
   rw[this];simp
  .let h':¬c=a:=λz=>h z.symm
   let d:¬S [a]=S [c]:=λz=>h (by have:=zm z;injection this);have:sS (.str (S [a])) (.str (S [c]))=false:=by simp[sS,d]
   rw[this];simp[h']
def VG (fs:List Nat):(Ts (ones fs)).all qF=true:=by rw[i7];intro v hv;let⟨l,_,rfl⟩:=aT.mp hv;rfl
def VH (K:W.Frag):Sp:=λvs H Q _=>∃(a:Addr) (ns:List Int) (k:Nat),vs=[.ref a,.int k]/\aP K H a (ns.map V.int)/\k<=1000/\
 ∀(p:Addr) (ls:List Nat) (H':Hp),aA H H'->H' p=some (.lst (Ts (ones ls)))->R_ ls->Q (.ref p) H'
def Sg (D:aL K mg "_law_letters" tQ ["_law_script","_law_k"])(kI:mg "list"=none)(kJ:bF P w K mg base "_law_digits" 3 ["_law_script","_law_k","_law_base","_law_many"] (DG K)):bF P w K mg base "_law_letters" 4 ["_law_script","_law_k"] (VH K):=by
 calc D.dD lD (λf bw A outer s H vs Q E hr h=>?_);let⟨a,ns,k,rfl,hS,hk,q⟩:=h;calc⟨_,(aD (aZ (i:=2) lD.nd rQ (Or.inl rQ) (bY AL wc)) (aD (aZ (i:=3) lD.nd rQ (Or.inl rQ) (bf kJ hr.mono rQ (aj aH (aj bx (aj aB (aj aB au)))))) (aD (dz (bW jW (aN cI (bJ fP cD aB (λ_ _=>rfl)) aB) aB (bQ _)) (aJ (aW (cO (CP rQ) wa kI qq (aj bH au)))) bZ) (aD (aZ (i:=4) lD.nd rQ (Or.inl rQ) (fG au)) (aD (eV cy rQ (d9 (eO E_ cD (d8 aB) (d8 (aN cM aB (aN cI (aN fZ (bJ fP cD aB (λ_ _=>rfl)) aB) aB))))) (bV (i:=5) lD.nd rQ (Or.inl rQ)) (aD (Xu cy (bW Ua (bJ Aw bH (aN cI cC aB) (λ_ _=>rfl)) cJ rQ) (aJ (aZ (i:=5) lD.nd rQ (Or.inl rQ) (aN cM cC aB)))) (aJ (iG (eN dQ fN fR ju cJ (aj (bJ Aw bH (aN cI cC aB) (λ_ _=>rfl)) au)))))) (aJ (aW cJ))))))),?_⟩;let L:AL.length<=sizeLine:=by decide
 calc⟨_,rQ,_,rQ,a,ns,k,208,5,rQ,hS,hk,v_,v_,v_,λp ds H1 O hp N hl hd=>?_⟩;let h0:=hd ds[0] (bg _);let Y:jL (ds.map V.int) 0=some (.int ds[0]):=aO (j:=0) (by simp[hl]);calc⟨_,rQ,p,_,0,_,rQ,rQ,aP.of N,Y,_,_,rQ,rQ,(by show (0:Int)<8;decide),rQ,_,rQ,?_⟩;calc vq (λ_=>?_) (λ_=>?_);.show⟨_,rQ,AL,rQ,v_,λp2 g=>q p2 AL _ (O.bC (O.free g)) aq ⟨v_,v_,afk⟩⟩
 .calc⟨zsz 0,λF hF=>?_⟩;let g:upd H1 F (.lst []) p=some (.lst (ds.map V.int)):=aA.upd hF _ _ N;let Z:aA H (upd H1 F (.lst [])):=O.bC (O.free hF);calc⟨_,rQ,_,rQ,_,rQ,p,_,0,_,rQ,rQ,aP.of g,Y,_,_,rQ,rQ,⟨v_,v_⟩,_,_,rQ,rQ,(by show (0:Int)<3;decide),_,_,rQ,rQ,_,rQ,p,_,rQ,aP.of g,λt ht=>?_⟩;obtain⟨r,hr1,hr2⟩:∃r:Nat,(3:Int)+ds[0]/8%3=((3+r:Nat):Int)/\r<3:=⟨(ds[0]/8%3).toNat,by simp_all;lia,by grind⟩
  rw[hr1];let Ae:(ig (ds.map V.int) (some (1:Nat)) (some ((3+r:Nat):Int))).length=2+r:=by rw[FQ vT (by grind)];lia
  generalize J:ig (ds.map V.int) (some 1) (some ((3+r:Nat):Int))=xs;let Yy:xs.length=2+r:=by rw[<-J];show Ae
  let VJ:∀v∈xs,∃d:Int,v=.int d:=λv hv=>by rw[<-J]at hv;let⟨d,_,e⟩:=Ay hv;show⟨d,e⟩
  let nFt:F≠t:=λz=>by rw[<-z,aq]at ht;cases ht
  refine⟨t,rQ,⟨_,aP.of aq⟩,j_ (K:=K) (a:=t) (xs:=xs) (λi σ B=>∃(dv:Option V) (fs:List Nat),σ=[some (.ref a),some (.int k),some (.str (S AL)),some (.ref p),some (.ref F),dv]/\aA H B/\B t=some (.lst xs)/\B F=some (.lst (Ts (ones fs)))/\fs.length=i/\∀c∈fs,isLet c)
   ⟨none,[],rQ,Z.bC (Z.free ht),aq,by rw[aY nFt,aq];rfl,rQ,λc hc=>by simp at hc⟩ (λi σ B _ ⟨_,_,_,_,h2,_⟩=>aP.of h2) ?_ ?_⟩
  .intro i y σ B hi z;let⟨dv,fs,rfl,DN,h2,M,hfl,G⟩:=z;let hil:i<xs.length:=(ai.mp hi).1;let⟨d,rfl⟩:=VJ y (aE hi);let⟨j0,hj0⟩:=Yx fs (by grind) d;calc⟨λm σ' H'=>H'=B/\∃(e:Int),σ'=[some (.ref a),some (.int k),some (.str (S AL)),some (.ref p),some (.ref F),some (.int e)]/\∃j:Nat,j<=m/\(97+((e+j)%26).toNat)∉fs,⟨j0,rQ,d,rQ,j0,af _,hj0⟩,?_⟩;intro m σ' H' z;let⟨rfl,e,rfl,j,hjm,hj⟩:=z;calc⟨_,rQ,_,rQ,_,_,rQ,rQ,(by show (0:Int)<26;decide),AL,_,_,rQ,rQ,L,Z5 e,_,rQ,F,_,rQ,.inl (aP.of M),rQ,VG fs,_,rQ,?_⟩;simp only[a6,if_false];rw[abu];refine vq (λhc=>?_) (λhc=>?_)
   .let jX:(97+(e%26).toNat)∈fs:=nv hc;let hj1:j≠0:=λz=>by subst z;simp at hj;show hj jX
    refine⟨λσ2 H3=>H3=H'/\σ2=[some (.ref a),some (.int k),some (.str (S AL)),some (.ref p),some (.ref F),some (.int (e+1))],?_,?_⟩
    .rintro σ2 H3 ⟨rfl,rfl⟩;calc⟨m-1,ci vT vT,rQ,e+1,rQ,j-1,sq hjm _,?_⟩;have:(e+1+((j-1:Nat):Int))=e+(j:Int):=by lia
     rw[this];show hj
    .show⟨_,rQ,_,_,rQ,rQ,rQ,rQ⟩
   .let afV:t≠F:=nFt.symm;calc⟨_,rQ,.inl ⟨rQ,_,aP.of M⟩,_,rQ,_,rQ,_,_,rQ,rQ,(by show (0:Int)<26;decide),AL,_,_,rQ,rQ,L,Z5 e,F,_,_,rQ,rQ,M,by rw[ab,ab];show aK (by grind),?_⟩;calc⟨_,fs++[97+(e%26).toNat],rQ,DN.bC (O.free hF),by rw[aY afV];show h2,by rw[aq,jT,pP],by simp[hfl],λc hc'=>?_⟩;rcases a9.mp hc' with z|z;.show G c z
    .rw[am.mp z];let h1:e%26<26:=de _ v_;show⟨vT,by grind⟩
  .intro σ B z;let⟨dv,fs,rfl,DN,h2,M,hfl,G⟩:=z;show⟨_,rQ,q F fs B DN M ⟨by simp[*],by grind,G⟩⟩
def VL:Sp:=λvs H Q _=>∃c:Int,vs=[.int c]/\∀(p:Addr) (r k:Nat) (H':Hp),aA H H'->H p=none->H' p=some (.tup [.int r,.int k])->1<=r->r<=9->1<=k->k<=9->Q (.ref p) H'
def abv (D:aL K mg "_law_size" Dv ["_law_x"]):bF P w K mg base "_law_size" 1 ["_law_x"] VL:=by
 calc D.dD abr (λf bw A outer s H vs Q E F h=>?_);let⟨c,rfl,q⟩:=h;calc⟨_,(aD (dz (bW jW (aN cI aH aB) aB (bQ _)) (aJ (aW (dN (aj (aN cM aB (aN cI (aN fZ aH aB) aB)) (aj (aN cM aB (aN cI (aN fZ aH aB) aB)) au))))) bZ) (aJ (aW (dN (aj (aN cM aB (aN cI (aN fZ aH aB) aB)) (aj (aN cM aB (aN cI (aN fZ aH aB) aB)) au)))))),?_⟩;let d:∀(a b:Int),0<=a->a<9->0<=b->b<9->∀p,H p=none->Q (.ref p) (upd H p (.tup [.int (1+a),.int (1+b)])):=λa b h1 g B j p hp=>q p (1+a).toNat (1+b).toNat _ (aA.upd hp) hp (by rw[aq,show ((1+a).toNat:Int)=1+a by lia,show ((1+b).toNat:Int)=1+b by lia]) vT vT vT vT
 calc⟨_,rQ,_,_,rQ,rQ,(by show (0:Int)<8;decide),rQ,_,rQ,?_⟩;refine vq (λ_=>?_) (λ_=>?_)
 .calc⟨_,rQ,_,_,rQ,rQ,⟨v_,v_⟩,_,_,rQ,rQ,(by show (0:Int)<9;decide),_,_,rQ,rQ,_,rQ,_,_,rQ,rQ,⟨v_,v_⟩,_,_,rQ,rQ,(by show (0:Int)<9;decide),_,_,rQ,rQ,zsz 2,λp hp=>?_⟩;show d _ _ (eB _ v_) (de _ v_) (eB _ v_) (de _ v_) p hp
 .calc⟨_,rQ,_,_,rQ,rQ,⟨v_,v_⟩,_,_,rQ,rQ,(by show (0:Int)<4;decide),_,_,rQ,rQ,_,rQ,_,_,rQ,rQ,⟨v_,v_⟩,_,_,rQ,rQ,(by show (0:Int)<5;decide),_,_,rQ,rQ,zsz 2,λp hp=>?_⟩;show d _ _ (eB _ v_) (vv (de _ v_) v_) (eB _ v_) (vv (de _ v_) v_) p hp
def La:Sp:=λvs H Q _=>∃l:List Nat,vs=[.str (S l)]/\kE l/\∀H',aA H H'->Q (.bl true) H'
def ad3 {c:Nat}(h:isLet c):decide ([c]<[97])=false/\decide ([122]<[c])=false:=by
 let d:∀a b:Nat,([a]<[b])↔a<b:=λa b=>by simp[ff]
 constructor;.rw[al];rw[d];have:=h.1;lia
 .rw[al];rw[d];have:=h.2;lia
def Sh (D:aL K mg "is_word" tK ["text"])(O:mg "len"=none)(g:mg "all"=none):bF P w K mg base "is_word" 1 ["text"] La:=by
 calc D.dD Ds (λf bw A outer s H vs Q E M h=>?_);let⟨l,rfl,hw,q⟩:=h;let h1:=hw.lo;let J:=hw.hi;let hz:l.length<=sizeLine:=aI (aK vT);refine⟨_,aJ (aW (pL (mU o7 o7 aB (aX dM wa O b7 (aj aH au)) aB)
  (lQ (aX (mV rQ) wa g wc (aj (f9 rQ (fD.of Ds.nd wb) (xU aH) (λ_ _ _ _ _=>cZ)
   (λ_ _ _ _ _=>mU uG uG (bY [97] wc) aH (bY [122] wc))) au))))),?_⟩
 calc⟨_,rQ,l,rQ,hz,_,_,rQ,rQ,true,(by simp;lia),?_⟩;calc cF ⟨_,_,rQ,rQ,true,(by simp;lia),?_⟩;calc cF ?_;refine⟨_,rQ,l,rQ,λL G=>vB (λi ys j=>ys=(List.replicate i true).map V.bl/\j L=some (.lst ys)/\aA H j) ⟨rQ,aq,aA.upd G⟩ ?_ ?_⟩
 .intro i c ys j hi z;let⟨rfl,d,F⟩:=z;let B:i<l.length:=(ai.mp hi).1;let⟨a1,a2⟩:=ad3 (hw.az c (aE hi));calc⟨_,rQ,[97],[c],rQ,rQ,true,by rw[a1];rfl,cF ⟨[c],[122],rQ,rQ,d,?_,dw.mk B ⟨?_,aq,F.bC G⟩⟩⟩;.rw[ab,eA];show aK vT
  .rw[a2,List.replicate_succ',b9];rfl
 .intro ys j z;let⟨rfl,d,F⟩:=z;calc⟨L,List.replicate l.length true,rQ,aP.of d,?_⟩;let e:(List.replicate l.length true).all id=true:=v0;rw[e];show q j F
def Qg:Sp:=λvs H Q _=>∃l:List Nat,vs=[.str (S l)]/\kE l/\∀H',aA H H'->Q .non H'
def Je (D:aL K mg "check_word" nW ["text"])(g:bF P w K mg base "is_word" 1 ["text"] La):bF P w K mg base "check_word" 2 ["text"] Qg:=by calc D.dD Jc (λf bw A outer s H vs Q E d h=>?_);let⟨l,rfl,hw,q⟩:=h;calc⟨_,aJ (dz (jk (fY (bf g d rQ (aj aH au)))) G7 bZ),?_⟩;calc⟨_,rQ,l,rQ,hw,λH1 s1=>⟨true,rQ,?_⟩⟩;show cT (q H1 s1)
structure oV (K:W.Frag)(C:Addr):Prop where
 cl:Cls K C
 nh:lN K C "held"
def kO (ws:AA):List (Key×V):=ws.map λl=>(gC l,V.bl true)
def Lb (ws:AA):(kO ws).map (·.1)=ws.map gC:=by unfold kO;rw[dS];rfl
def Yz {a b:List Nat}(h:gC a=gC b):a=b:=zm (Sum.inr.inj h)
def FT (ws:AA)(l:List Nat):eZ (kO ws) (gC l)=if l∈ws then some (.bl true) else none:=by
 induction ws with
 | nil=>simp[kO,eZ]
 | cons a r ih=>
  by_cases e:a=l
  .subst e;have:eZ (kO (a::r)) (gC a)=some (.bl true):=gK (p:=(gC a,V.bl true)) rfl;rw[this];simp
  .have:eZ (kO (a::r)) (gC l)=eZ (kO r) (gC l):=gM (p:=(gC a,V.bl true)) λz=>e (Yz z)
   rw[this,ih];let d:¬l=a:=λz=>e z.symm;simp[d]
def abw {ws:AA}{l:List Nat}(h:l∈ws):putK (kO ws) (gC l) (.bl true)=kO ws:=by
 let d:((kO ws).any λj=>decide (j.1=gC l))=true:=by rw[oG,FT,if_pos h];rfl
 unfold putK;rw[if_pos d];calc(e6 λj g=>?_).trans (kF _);let⟨a,_,rfl⟩:=aT.mp g;by_cases e:gC a=gC l;.simp[e]
 .simp[e]
def abx {ws:AA}{l:List Nat}(h:l∉ws):putK (kO ws) (gC l) (.bl true)=kO (ws++[l]):=by rw[Xk _ (by rw[FT,if_neg h])];simp[kO]
structure lW (C:Addr)(H:Hp)(p d:Addr)(ws:AA):Prop where
 ob:∃dx,H p=some (.ins C dx [("held",.ref d)])
 dc:H d=some (.dK (kO ws))
 nd:ws.Nodup
 az:∀l∈ws,kE l
def rP (ws:AA)(l:List Nat):List (List Nat):=if l∈ws then ws else ws++[l]
def Bj (ws:AA)(l:List Nat):putK (kO ws) (gC l) (.bl true)=kO (rP ws l):=by
 unfold rP;split;.rename_i h;show abw h
 .rename_i h;show abx h
def FW {ws:AA}{l:List Nat}(h:ws.Nodup):(rP ws l).Nodup:=by
 unfold rP;split;.show h
 .rename_i d;show Ox h d
def Bk {ws:AA}{l x:List Nat}:x∈rP ws l↔x∈ws\/x=l:=by
 unfold rP;split;.rename_i h;show⟨.inl,λz=>z.elim id λe=>e ▸ h⟩
 .simp
def Bl (ws:AA)(l:List Nat):(rP ws l).length<=ws.length+1:=by
 unfold rP;split;.lia
 .simp
def afl (K:W.Frag)(H:Hp)(a:Addr)(ls:AA):Prop:=aP K H a (Ts ls)\/aU K H a (Ts ls)
def VN (K:W.Frag)(C:Addr):Sp:=λvs H Q _=>∃(p dx a:Addr) (ls:AA),vs=[.ref p,.ref a]/\H p=some (.ins C dx [])/\afl K H a ls/\(∀l∈ls,kE l)/\ls.length<=200/\
 ∀(d:Addr) (ws:AA) (H':Hp),H d=none->lW C H' p d ws->(∀x,x∈ws↔x∈ls)->ws.length<=ls.length->(∀b o,H b=some o->b≠p->H' b=some o)->Q .non H'
def aby {f C:Addr}{fd:FuncData}(F:gw K "__init__" "Book.__init__" iY f fd)(T:oV K C)(D1:bF P w K mg base "check_word" 2 ["text"] Qg):dU P w K mg base fB 3 f fd ["self","words"] (VN K C):=by
 calc F.dD yw (λbw A outer s H vs Q E hr h=>?_);let⟨p,dx,a,ls,rfl,hp,M,hW,hn,k⟩:=h;let hu:=Cv hr;let nd:=yw.nd;refine⟨_,aD (CK aH J2 rQ) (aJ (eV cy rQ ((d9 bx).or (iJ bx)) (bV (i:=2) nd rQ (Or.inl rQ))
  (aD (iG (bf D1 hr rQ (aj bH au))) (aJ (Fe hu (d_ aH rQ) bH je rQ))))),?_⟩
 intro d hd;let Z7:p≠d:=bI hp hd;calc⟨_,rQ,p,C,dx,[],rQ,(by rw[aY Z7];show hp),T.cl,T.nh,(by show 0<1000;decide),?_⟩;let Y:upd (upd H d (HO.dK [])) p (HO.ins C dx (jh "held" (V.ref d) [])) p=some (.ins C dx [("held",.ref d)]):=aq;let O:upd (upd H d (HO.dK [])) p (HO.ins C dx (jh "held" (V.ref d) [])) d=some (.dK (kO [])):=by rw[aY Z7.symm,aq];rfl
 let Z:∀b o,H b=some o->b≠p->upd (upd H d (HO.dK [])) p (HO.ins C dx (jh "held" (V.ref d) [])) b=some o:=λb o e hb=>by rw[aY hb,aY (bI e hd)];show e
 generalize upd (upd H d (HO.dK [])) p (HO.ins C dx (jh "held" (V.ref d) []))=H1 at Y O Z ⊢;let npl:∀o,H p=some o->(∀ys,o≠.lst ys)/\∀u ys,o≠.cH u (.lst ys):=λo e=>by rw[hp]at e;cases e;show⟨λ_ z=>(nomatch z),λ_ _ z=>(nomatch z)⟩
 let Z4:∀o,H p=some o->(∀ys,o≠.tup ys)/\∀u ys,o≠.cH u (.tup ys):=λo e=>by rw[hp]at e;cases e;show⟨λ_ z=>(nomatch z),λ_ _ z=>(nomatch z)⟩
 rcases M with M|M
 .refine .inl ⟨_,rQ,a,rQ,⟨_,M.keep Z npl⟩,j_ (K:=K) (a:=a) (xs:=Ts ls) (λi σ B=>∃(N:Option V) (ws:AA),σ=[some (.ref p),some (.ref a),N]/\B p=some (.ins C dx [("held",.ref d)])/\B d=some (.dK (kO ws))/\ws.Nodup/\
   (∀x,x∈ws↔x∈ls.take i)/\ws.length<=i/\∀b o,H b=some o->b≠p->B b=some o) ⟨none,[],rQ,Y,O,nw,λx=>by simp,af _,Z⟩ (λi σ B _ ⟨_,_,_,_,_,_,_,_,kp⟩=>M.keep kp npl) ?_ ?_⟩
  .intro i y σ B hi z;let⟨N,ws,rfl,g,q,j,hm,G,kp⟩:=z;rw[ba]at hi;let⟨l,D,e⟩:=fz.mp hi;subst e;let hil:i<ls.length:=(ai.mp D).1;calc⟨_,rQ,l,rQ,hW l (aE D),λH3 J=>?_⟩;let L:=J _ _ q;calc⟨_,rQ,p,C,dx,_,_,rQ,J _ _ g,T.cl,T.nh,rQ,_,rQ,d,_,rQ,t_.k (k:=gC l) L (by rw[kO,ab];show aK vT),?_⟩;calc⟨_,rP ws l,rQ,by rw[aY Z7];show J _ _ g,by rw[aq,Bj],FW j,λx=>?_,aS (Bl _ _) (gm G),λb o e hb=>?_⟩;.rw[Bk,hm,b8,D];simp
   .rw[aY (bI e hd)];show J _ _ (kp b o e hb)
  .intro σ B z;let⟨N,ws,rfl,g,q,j,hm,G,kp⟩:=z;rw[ab]at hm G;rw[dL]at hm;show k d ws B hd ⟨⟨dx,g⟩,q,j,λl G=>hW l ((hm l).mp G)⟩ hm G kp
 .refine .inr ⟨_,rQ,a,rQ,⟨_,M.keep Z Z4⟩,uD (K:=K) (a:=a) (xs:=Ts ls) (λi σ B=>∃(N:Option V) (ws:AA),σ=[some (.ref p),some (.ref a),N]/\B p=some (.ins C dx [("held",.ref d)])/\B d=some (.dK (kO ws))/\ws.Nodup/\
   (∀x,x∈ws↔x∈ls.take i)/\ws.length<=i/\∀b o,H b=some o->b≠p->B b=some o) ⟨none,[],rQ,Y,O,nw,λx=>by simp,af _,Z⟩ (λi σ B _ ⟨_,_,_,_,_,_,_,_,kp⟩=>M.keep kp Z4) ?_ ?_⟩
  .intro i y σ B hi z;let⟨N,ws,rfl,g,q,j,hm,G,kp⟩:=z;rw[ba]at hi;let⟨l,D,e⟩:=fz.mp hi;subst e;let hil:i<ls.length:=(ai.mp D).1;calc⟨_,rQ,l,rQ,hW l (aE D),λH3 J=>?_⟩;let L:=J _ _ q;calc⟨_,rQ,p,C,dx,_,_,rQ,J _ _ g,T.cl,T.nh,rQ,_,rQ,d,_,rQ,t_.k (k:=gC l) L (by rw[kO,ab];show aK vT),?_⟩;calc⟨_,rP ws l,rQ,by rw[aY Z7];show J _ _ g,by rw[aq,Bj],FW j,λx=>?_,aS (Bl _ _) vT,λb o e hb=>?_⟩;.rw[Bk,hm,b8,D];simp
   .rw[aY (bI e hd)];show J _ _ (kp b o e hb)
  .intro σ B z;let⟨N,ws,rfl,g,q,j,hm,G,kp⟩:=z;rw[ab]at hm G;rw[dL]at hm;show k d ws B hd ⟨⟨dx,g⟩,q,j,λl G=>hW l ((hm l).mp G)⟩ hm G kp
def Ss (C:Addr):Sp:=λvs H Q _=>∃(p d:Addr) (ws:AA) (l:List Nat),vs=[.ref p,.str (S l)]/\lW C H p d ws/\Q (.bl (decide (l∈ws))) H
def ad4 {f C:Addr}{fd:FuncData}(F:gw K "has" "Book.has" jJ f fd)(T:oV K C):dU P w K mg base fB 1 f fd ["self","text"] (Ss C):=by
 calc F.dD NQ (λbw A outer s H vs Q E j h=>?_);let⟨p,d,ws,l,rfl,B,q⟩:=h;let g:=Cv j;obtain⟨⟨dx,hp⟩,hd,_,_⟩:=id B;calc⟨_,aJ (aW (adk (adi g bx (d_ aH rQ)))),?_⟩;calc⟨_,rQ,_,rQ,p,C,dx,_,_,rQ,hp,T.cl,T.nh,rQ,d,_,rQ,rA.k (k:=gC l) hd,?_⟩;rw[FT];by_cases h:l∈ws;.rw[if_pos h];simpa [h] using q
 .rw[if_neg h];simpa [h] using q
def ad5 (ws:AA):Prop:=ws.Pairwise (λa b=>decide (b<a)=false)
def Qh (C:Addr):Sp:=λvs H Q _=>∃(p d:Addr) (ws:AA),vs=[.ref p]/\lW C H p d ws/\ws.length<64/\
 ∀(t:Addr) (us:AA) (H':Hp),aA H H'->H t=none->H' t=some (.tup (Ts us))->us.Perm ws->ad5 us->Q (.ref t) H'
def YB {f C:Addr}{fd:FuncData}(F:gw K "words" "Book.words" iz f fd)(T:oV K C)(D:mg "sorted"=none)(g:mg "tuple"=none):dU P w K mg base fB 1 f fd ["self"] (Qh C):=by calc F.dD Jd (λbw A outer s H vs Q E J h=>?_);let⟨p,d,ws,rfl,B,j,q⟩:=h;obtain⟨⟨dx,hp⟩,hd,_,_⟩:=id B;calc⟨_,aJ (aW (cO dO wa g df (aj (aX (J3 rQ) wa D lh (aj (d_ aH rQ) au)) au))),?_⟩;calc⟨_,rQ,p,C,dx,_,_,rQ,hp,T.cl,T.nh,rQ,d,_,ws,rQ,hd,Lb ws,j,λt us G pm rs=>?_⟩;calc⟨t,_,rQ,.inl ⟨aP.of aq,λv hv=>?_⟩⟩;let s1:aA H (upd H t (.lst (Ts us))):=aA.upd G;show q v us _ (s1.bC (s1.free hv)) (s1.free hv) aq pm rs
def ad6 {a b:List Nat}(h1:¬a<b)(d:a≠b):b<a:=by
 by_cases h:b<a;.show h
 .show absurd (List.le_antisymm (List.not_lt.mp h) (List.not_lt.mp h1)) d
def lW.same {C p d:Addr}{H H':Hp}{ws:AA}(B:lW C H p d ws)(s:aA H H'):lW C H' p d ws:=⟨let ⟨dx,e⟩:=B.ob;⟨dx,s _ _ e⟩,s _ _ B.dc,B.nd,B.az⟩
def Ld (K:W.Frag):Sp:=λvs H Q _=>∃(p a:Addr) (ls:List Nat) (ns:List Int) (st m:Nat),vs=[.ref p,.ref a,.int st,.int m]/\H p=some (.lst (Ts (ones ls)))/\R_ ls/\aP K H a (ns.map V.int)/\st+m<=1000/\m<=60/\
 ∀(t:Addr) (ws:AA) (H':Hp),aA H H'->H' t=some (.lst (Ts ws))->ws.Nodup->(∀l∈ws,kE l)->ad5 ws->ws.length<=m->Q (.ref t) H'
def NT (D:aL K mg "_law_words" zH ["_law_letters_here","_law_script","_law_start","_law_many"])(bB:mg "len"=none)(dg:mg "range"=none)(gP:mg "sorted"=none)(kI:mg "list"=none)(kJ:bF P w K mg base "_law_digits" 3 ["_law_script","_law_k","_law_base","_law_many"] (DG K)):bF P w K mg base "_law_words" 4 ["_law_letters_here","_law_script","_law_start","_law_many"] (Ld K):=by
 calc D.dD oR (λf bw A outer s H vs Q E hr h=>?_);let⟨p,a,ls,ns,st,m,rfl,hp,hA,hS,hst,hm,q⟩:=h;let hu:=Cv hr;let hlo:(Ts (ones ls)).length=ls.length:=by rw[ab,ab]
 calc⟨_,(aD (aZ (i:=4) oR.nd rQ (Or.inl rQ) J2) (aD (eV cy rQ (jw wa dg (aj cD au)) (bV (i:=5) oR.nd rQ (Or.inl rQ)) (aD (aZ (i:=6) oR.nd rQ (Or.inl rQ) (bf kJ hr.mono rQ (aj bx (aj (aN cM bH cC) (aj aB (aj aB au)))))) (aD (aZ (i:=7) oR.nd rQ (Or.inl rQ) (bJ fP (fG (aj aB (aj aB (aj aB (aj aB (aj aB (aj aB (aj aB (aj (aN cM aB (aN cI (aN fZ (bJ fP dZ aB (λ_ _=>rfl)) aB) aB)) au))))))))) (aN cI (bJ fP dZ aB (λ_ _=>rfl)) aB) (λ_ _=>rfl))) (aJ (Fe hu cJ (eN bP fg fh qP (bY [] wc) (aj (f9 rQ (fD.of oR.nd wb) (d9 (eO E_ dZ (d8 aB) (d8 (aN cM aB jC)))) (λ_ _ _ _ _=>cZ) (λ_ _ _ _ _=>(bJ (Xy K) bx (aN cI (aN fZ aH aB) (aX (Iu K) wa bB b7 (aj bx au))) (λ_ _=>rfl)))) au)) je rQ))))) (aJ (aW (aX J_ wa gP lh (aj (cO (Ru rQ) wa kI qq (aj cJ au)) au)))))),?_⟩;intro d hd;calc⟨_,rQ,_,rQ,kX _,vT,?_⟩;rw[cS];refine mZ (lo:=0) (n:=m) (λi σ H2=>∃(v5 v6 v7:Option V) (ws:AA),σ=[some (.ref p),some (.ref a),some (.int st),some (.int m),some (.ref d),v5,v6,v7]/\aA H H2/\H2 d=some (.dK (kO ws))/\ws.Nodup/\(∀l∈ws,kE l)/\ws.length<=i)
  ⟨none,none,none,[],rQ,aA.upd hd,aq,nw,λl h=>by simp at h,af _⟩ ?_ ?_
 .intro i σ H2 hi z;let⟨v5,v6,v7,ws,rfl,sm,F,Dk,J,G⟩:=z;let e0:(st:Int)+(0+(i:Int))=((st+i:Nat):Int):=vT;calc⟨_,rQ,_,rQ,_,rQ,_,_,rQ,rQ,a,ns,st+i,520,10,by show [V.ref a,V.int ((st:Int)+(0+(i:Int))),V.int 520,V.int 10]=_;rw[e0];rfl,sm.seq hS,vT,v_,v_,v_,λpr ds H3 s3 afW M hl hdd=>?_⟩;let at0:jL (ds.map V.int) 0=some (.int ds[0]):=aO (j:=0) (by simp[hl]);let h0:=hdd ds[0] (bg _);calc⟨_,rQ,pr,_,0,_,rQ,rQ,aP.of M,at0,_,_,rQ,rQ,⟨v_,v_⟩,_,_,rQ,rQ,(by show (0:Int)<8;decide),_,_,rQ,rQ,zsz 8,λt ht=>?_⟩;obtain⟨z,hz1,hz2,hz3⟩:∃z:Nat,jL [V.int 2,V.int 2,V.int 3,V.int 3,V.int 3,V.int 4,V.int 4,V.int (2+ds[0]/8%8)] (ds[0]%8)=some (.int z)/\2<=z/\z<=9:=by
   let hm:ds[0]%8=0\/ds[0]%8=1\/ds[0]%8=2\/ds[0]%8=3\/ds[0]%8=4\/ds[0]%8=5\/ds[0]%8=6\/ds[0]%8=7:=vT;rcases hm with e|e|e|e|e|e|e|e <;> rw[e]
   .show⟨2,aO (j:=0) rQ,v_,v_⟩
   .show⟨2,aO (j:=1) rQ,v_,v_⟩
   .show⟨3,aO (j:=2) rQ,v_,v_⟩
   .show⟨3,aO (j:=3) rQ,v_,v_⟩
   .show⟨3,aO (j:=4) rQ,v_,v_⟩
   .show⟨4,aO (j:=5) rQ,v_,v_⟩
   .show⟨4,aO (j:=6) rQ,v_,v_⟩
   .calc⟨(2+ds[0]/8%8).toNat,?_,by grind,by grind⟩;let e2:(2+ds[0]/8%8)=(((2+ds[0]/8%8).toNat:Nat):Int):=by grind
    rw[<-e2];show aO (j:=7) rfl
  let hT:upd H3 t (.lst [V.int 2,V.int 2,V.int 3,V.int 3,V.int 3,V.int 4,V.int 4,V.int (2+ds[0]/8%8)]) t=some _:=aq;let s1:aA H3 (upd H3 t (.lst [V.int 2,V.int 2,V.int 3,V.int 3,V.int 3,V.int 4,V.int 4,V.int (2+ds[0]/8%8)])):=aA.upd ht;generalize upd H3 t (.lst [V.int 2,V.int 2,V.int 3,V.int 3,V.int 3,V.int 4,V.int 4,V.int (2+ds[0]/8%8)])=H4 at hT s1 ⊢;calc⟨_,rQ,pr,_,0,_,rQ,rQ,aP.of (s1 _ _ M),at0,_,_,rQ,rQ,(by show (0:Int)<8;decide),t,_,_,_,rQ,rQ,aP.of hT,hz1,?_⟩;let H_:aA H H4:=(sm.trans s3).trans s1;calc⟨_,rQ,rQ,_,rQ,_,rQ,_,rQ,_,_,rQ,rQ,_,rQ,pr,_,rQ,aP.of (s1 _ _ M),λu hu'=>?_⟩;let e1:(1:Int)+(z:Int)=((1+z:Nat):Int):=rfl;rw[e1];let Ae:(ig (ds.map V.int) (some (1:Nat)) (some ((1+z:Nat):Int))).length=z:=by rw[FQ vT vT];lia
  generalize hxs:ig (ds.map V.int) (some 1) (some ((1+z:Nat):Int))=xs;let Yy:xs.length=z:=by rw[<-hxs];show Ae
  let VJ:∀v∈xs,∃d:Int,v=.int d:=λv hv=>by rw[<-hxs]at hv;let⟨d,hd,e⟩:=Ay hv;show⟨d,e⟩
  let sU:∀o,aA H4 (upd H4 u o):=λo=>aA.upd hu';refine⟨u,rQ,⟨_,aP.of aq⟩,λL O=>pJ (K:=K) (a:=u) (xs:=xs) (λi ys Y=>∃g:List Nat,ys=Ts (g.map λc=>[c])/\g.length=i/\(∀c∈g,c∈ls)/\Y L=some (.lst ys)/\Y u=some (.lst xs)/\aA H4 Y)
   ⟨[],rQ,rQ,λc hc=>by simp at hc,aq,by rw[aY (bI aq O)];show aq,(sU _).bC ((sU _).free O)⟩ (λi ys Y _ ⟨_,_,_,_,_,h2,_⟩=>aP.of h2) ?_ ?_⟩
  .intro i y ys Y hi z;let⟨g,rfl,hcl,N,B,Z,DN⟩:=z;let hil:i<xs.length:=(ai.mp hi).1;let⟨d,rfl⟩:=VJ y (aE hi);let hlp:(0:Int)<(ls.length:Int):=by have:=hA.lo;lia
   obtain⟨j,hj1,hj2⟩:∃j:Nat,d/20%(ls.length:Int)=(j:Int)/\j<ls.length:=by let h1:0<=d/20%(ls.length:Int):=eB _ vT;let h2:d/20%(ls.length:Int)<ls.length:=de _ hlp;show⟨(d/20%(ls.length:Int)).toNat,vT,by simp_all⟩
   let VP:=DN _ _ (H_ _ _ hp);calc⟨_,rQ,_,rQ,_,_,rQ,rQ,⟨v_,v_⟩,_,rQ,p,_,rQ,.inl (aP.of VP),_,_,rQ,rQ,by rw[hlo];show hlp,p,_,_,.str (S [ls[j]]),rQ,rQ,aP.of VP,?_,B,?_,?_⟩;.rw[hlo,hj1];show aO (by simp[Ts,ones,hj2])
   .show (Ts (g.map λc=>[c])).length<sizeLine;rw[ab,ab];show aK vT
   .refine dw.mk hil ⟨g++[ls[j]],by simp[Ts],by simp[hcl],λc hc=>?_,aq,?_,λb o e=>?_⟩
    .rcases a9.mp hc with e|e;.show N c e
     .rw[am.mp e];show bg _
    .rw[aY (bI aq O)];show Z
    .rw[aY (bI ((sU _) b o e) O)];show DN b o e
  .intro ys Y z;let⟨g,rfl,hcl,N,B,Z,DN⟩:=z;calc⟨L,g.map λc=>[c],rQ,rQ,aP.of B,by rw[mL];lia,?_⟩;rw[mL];let hd5:=DN _ _ (s1 _ _ (s3 _ _ F));let hW:kE g:=⟨by simp[*],vT,λc hc=>hA.az c (N c hc)⟩
   calc⟨d,_,rQ,t_.k (k:=gC g) hd5 (by rw[kO,ab];show aK vT),?_⟩;calc⟨_,_,_,rP ws g,rQ,(H_.trans DN).bC hd,by rw[aq,Bj],FW Dk,λl hl=>?_,aS (Bl _ _) (gm G)⟩;rcases Bk.mp hl with e|e;.show J l e
   .rw[e];show hW
 .intro σ H2 z;let⟨v5,v6,v7,ws,rfl,sm,F,Dk,J,G⟩:=z;calc⟨_,rQ,d,_,ws,rQ,F,Lb ws,vT,λL O=>?_⟩;let s3:aA H (upd H2 L (.lst (Ts ws))):=sm.bC (sm.free O);calc⟨L,ws,rQ,aP.of aq,vT,λL2 ws' B pm pw=>?_⟩;show q L2 ws' _ (s3.bC (s3.free B)) aq (pm.nodup_iff.mpr Dk) (λl hl=>J l (pm.mem_iff.mp hl)) pw (by rw[pm.length_eq];show G)
def Qi:Sp:=λvs H Q _=>∃i:Int,vs=[.int i]/\Q (.bl true) H
def NZ (D:aL K mg "is_whole" qH ["thing"])(d:mg "int"=none)(g:mg "bool"=none)(L:mg "isinstance"=none):bF P w K mg base "is_whole" 1 ["thing"] Qi:=by calc D.dD Ny (λf bw A outer s H vs Q E j h=>?_);let⟨i,rfl,q⟩:=h;calc⟨_,(aJ (aW (pL (aX jR wa L fI (aj aH (aj (qQ (v:=.ty "int") wa d ki rQ) au))) (lQ (adh (aX jR wa L fI (aj aH (aj (qQ (v:=.ty "bool") wa g PyProof.Rows.boot_bool rQ) au)))))))),?_⟩;show⟨_,rQ,_,_,_,true,rQ,.int _,wb,true,rQ,cF ⟨_,rQ,_,_,_,false,rQ,.int _,wb,false,rQ,q⟩⟩
def qM {ls:AA}{i:Nat}{l:List Nat}(h:ls[i]?=some l):(Ts ls)[i]?=some (.str (S l)):=by simp[Ts,h]
def pQ {ls:AA}{i:Nat}{x:V}(h:(Ts ls)[i]?=some x):∃l,ls[i]?=some l/\x=.str (S l):=by rw[ba]at h;let⟨l,h1,d⟩:=fz.mp h;show⟨l,h1,d.symm⟩
def zL (n:Nat):((List.replicate n true).all id)=true:=by simp
def wg (n:Nat):(List.replicate n true).map V.bl++[V.bl true]=(List.replicate (n+1) true).map V.bl:=by rw[List.replicate_succ',b9];rfl
def FZ:Sp:=λvs H Q _=>∃(p:Addr) (ls:AA) (r w:Nat),vs=[.ref p]/\H p=some (.tup (Ts ls))/\Blk r w ls/\1<=r/\r<=9/\1<=w/\w<=9/\∀H',aA H H'->Q (.bl true) H'
def N5 (D:aL K mg "is_block" qI ["thing"])(O:mg "len"=none)(bM:mg "tuple"=none)(zM:mg "str"=none)(gU:mg "all"=none)(cL:mg "isinstance"=none)(uV:∃t,mg "MOST"=some (.int 9 t)):bF P w K mg base "is_block" 1 ["thing"] FZ:=by
 calc D.dD pB (λf bw A outer s H vs Q E hr h=>?_);let⟨p,ls,r,w,rfl,hp,N,r1,r9,w1,w9,q⟩:=h;let nO:(Ts ls).length=r:=by rw[ab,N.len]
 let h0:0<ls.length:=by rw[N.len];show r1
 calc⟨_,(aD (dz (QW.qt (sX (jk (fY (aX jR wa cL fI (aj aH (aj (qQ (v:=.ty "tuple") wa bM df rQ) au))))) (pK (jk (J1 o7 o7 aB (aX cu wa O b7 (aj aH au)) (Ro wa uV)))))) (aJ (aW je)) bZ) (aD (dz (jk (fY (aX (mV rQ) wa gU m9 (aj (f9 rQ (fD.of pB.nd wb) (iJ aH) (λ_ _ _ _ _=>cZ) (λ_ _ _ _ _=>(aX (J8 K) wa cL fI (aj aH (aj (qQ (v:=.ty "str") wa zM PyProof.Rows.boot_str rQ) au))))) au)))) (aJ (aW je)) bZ) (aD (aZ (i:=1) pB.nd rQ (Or.inr rQ) (aX dM wa O b7 (aj (bJ cR aH aB (λ_ _=>rfl)) au))) (aJ (aW (pL (mU o7 o7 aB bx (Ro wa uV)) (lQ (aX (mV rQ) wa gU m9 (aj (f9 rQ (fD.of pB.nd wb) (iJ aH) (λ_ _ _ _ _=>cZ) (λ_ _ _ _ _=>(gH jW (aX dM wa O b7 (aj aH au)) bH (bQ _)))) au))))))))),?_⟩;calc⟨_,rQ,_,_,_,true,rQ,.tup hp,wb,_,rQ,cT ?_⟩;calc⟨_,rQ,p,_,rQ,.inr (aU.of hp),_,_,rQ,rQ,true,by rw[nO];simp;lia,cF ⟨_,_,rQ,rQ,true,by rw[nO];simp;lia,cT ?_⟩⟩;refine⟨_,rQ,p,rQ,⟨_,aU.of hp⟩,λL hL=>vC (xs:=Ts ls) (λi ys J=>ys=(List.replicate i true).map V.bl/\J L=some (.lst ys)/\aA H J) ⟨rQ,aq,aA.upd hL⟩ (λi ys J _ h=>aU.of (h.2.2 _ _ hp)) ?_ ?_⟩
 .intro i x ys J hi z;let⟨rfl,F,G⟩:=z;let⟨l,hl,rfl⟩:=pQ hi;let g:i<(Ts ls).length:=(ai.mp hi).1;refine⟨_,rQ,_,_,_,true,rQ,.str _,wb,F,by rw[ab,eA];show aK vT,dw.mk g ⟨wg i,aq,G.bC hL⟩⟩
 .intro ys J z;let⟨rfl,F,G⟩:=z;calc⟨L,_,rQ,aP.of F,?_⟩;rw[zL];calc⟨_,rQ,cT ?_⟩;let B:ls[0].length=w:=N.j8 _ (bg _);let hz:ls[0].length<=sizeLine:=aI (aK vT);calc⟨_,rQ,p,_,_,.str (S ls[0]),rQ,rQ,aU.of (G _ _ hp),aO (j:=0) (qM (by simp[h0])),_,rQ,hz,?_⟩;calc⟨_,rQ,_,_,rQ,rQ,true,by rw[B];simp;lia,cF ⟨_,_,rQ,rQ,true,by rw[B];simp;lia,cF ?_⟩⟩;refine⟨_,rQ,p,rQ,⟨_,aU.of (G _ _ hp)⟩,λL2 Z=>vC (xs:=Ts ls) (λi ys M=>ys=(List.replicate i true).map V.bl/\M L2=some (.lst ys)/\aA H M) ⟨rQ,aq,G.bC (G.free Z)⟩ (λi ys J _ h=>aU.of (h.2.2 _ _ hp)) ?_ ?_⟩
  .intro i x ys M hi z;let⟨rfl,Y,d⟩:=z;let⟨l,hl,rfl⟩:=pQ hi;let g:i<(Ts ls).length:=(ai.mp hi).1;let VR:l.length=w:=N.j8 _ (aE hl);calc⟨_,rQ,_,rQ,aI (aK vT),_,rQ,rQ,Y,by rw[ab,eA];show aK vT,dw.mk g ⟨?_,aq,d.bC (G.free Z)⟩⟩;rw[VR,B,aw rfl];show wg i
  .intro ys M z;let⟨rfl,Y,d⟩:=z;calc⟨L2,_,rQ,aP.of Y,?_⟩;rw[zL];show q M d
def rK {r w:Nat}{ls:AA}(h:Blk r w ls):ls.flatten.length=r*w:=by
 rw[List.length_flatten];have:ls.map List.length=List.replicate r w:=by rw[<-h.len,List.eq_replicate_iff];show⟨v0,λb d=>by let⟨l,g,rfl⟩:=aT.mp d;show h.j8 l g⟩
 rw[this,List.sum_replicate_nat]
def V0:Sp:=λvs H Q _=>∃(p:Addr) (ls:AA) (r w:Nat),vs=[.ref p]/\H p=some (.tup (Ts ls))/\Blk r w ls/\1<=r/\r<=9/\1<=w/\w<=9/\(∀l∈ls,∀c∈l,Ai c)/\∀H',aA H H'->Q (.bl true) H'
def N6 (D:aL K mg "are_rows" qJ ["thing"])(gU:mg "all"=none)(Y:∃t,mg "FREE"=some (.str (S [46]) t))(wj:bF P w K mg base "is_block" 1 ["thing"] FZ)(Z:bF P w K mg base "is_sign" 1 ["thing"] (Vy K)):bF P w K mg base "are_rows" 2 ["thing"] V0:=by
 calc D.dD Ah (λf bw A outer s H vs Q E O h=>?_);let⟨p,ls,r,w,rfl,hp,M,r1,r9,w1,w9,hc,q⟩:=h;let hrw:r*w<=81:=i9 r9 w9;let hfl:=rK M;calc⟨_,(aJ (aW (pL (bf wj O.mono rQ (aj aH au)) (lQ (aX (mV rQ) wa gU m9 (aj (f9 rQ (fD.of Ah.nd wb) (xU (eN bP fg fh Az (bY [] wc) (aj aH au))) (λ_ _ _ _ _=>cZ) (λ_ _ _ _ _=>(Rm (gH rC aH (lq wa Y) (bQ _)) (lQ (bf Z O.mono rQ (aj aH au)))))) au)))))),?_⟩;calc⟨_,rQ,p,ls,r,w,rQ,hp,M,r1,r9,w1,w9,λH1 s1=>⟨true,rQ,cF ?_⟩⟩;calc⟨rQ,_,rQ,p,ls,rQ,rQ,aU.of (s1 _ _ hp),vT,_,rQ,λL J=>?_⟩;refine vB (λi ys d=>ys=(List.replicate i true).map V.bl/\d L=some (.lst ys)/\aA H d) ⟨rQ,aq,s1.bC (s1.free J)⟩ ?_ ?_
 .intro i c ys d hi z;let⟨rfl,j,G⟩:=z;let B:i<ls.flatten.length:=(ai.mp hi).1;let⟨l,hl,F⟩:=rn.mp (aE hi);let g:d L=some (.lst ((List.replicate i true).map V.bl))/\((List.replicate i true).map V.bl).length<sizeLine/\dw ls.flatten.length i ((List.replicate i true).map V.bl++[V.bl true]=(List.replicate (i+1) true).map V.bl/\upd d L (.lst ((List.replicate i true).map V.bl++[V.bl true])) L=some (.lst ((List.replicate i true).map V.bl++[V.bl true]))/\aA H (upd d L (.lst ((List.replicate i true).map V.bl++[V.bl true])))):=
   ⟨j,by rw[ab,eA];show aK vT,dw.mk B ⟨wg i,aq,G.bC (s1.free J)⟩⟩
  calc⟨_,rQ,[c],[46],rQ,rQ,_,rQ,?_⟩;rcases hc l hl c F with e|e
  .subst e;rw[aw rfl];show cF g
  .by_cases N:[c]=[46]
   .rw[aw N];show cF g
   .rw[al N];calc cT ⟨_,rQ,.inr ⟨[c],rQ,by show 1<=1000;decide,?_⟩⟩;rw[show HY [c]=true from e];show g
 .intro ys d z;let⟨rfl,j,G⟩:=z;calc⟨L,_,rQ,aP.of j,?_⟩;rw[zL];show q d G
def Qk:Sp:=λvs H Q _=>∃(p:Addr) (ls:AA) (r w:Nat),vs=[.ref p]/\H p=some (.tup (Ts ls))/\Blk r w ls/\1<=r/\r<=9/\1<=w/\w<=9/\(∀l∈ls,∀c∈l,Z6 c)/\∀H',aA H H'->Q (.bl true) H'
def Le (D:aL K mg "are_marks" pC ["thing"])(O:mg "all"=none)(Z:∃t,mg "MARKS"=some (.str (S MK) t))(Y:bF P w K mg base "is_block" 1 ["thing"] FZ):bF P w K mg base "are_marks" 2 ["thing"] Qk:=by
 calc D.dD yu (λf bw A outer s H vs Q E hr h=>?_);let⟨p,ls,r,w,rfl,hp,J,r1,r9,w1,w9,M,q⟩:=h;let hrw:r*w<=81:=i9 r9 w9;let hfl:=rK J;calc⟨_,(aJ (aW (pL (bf Y hr.mono rQ (aj aH au)) (lQ (aX (mV rQ) wa O m9 (aj (f9 rQ (fD.of yu.nd wb) (xU (eN bP fg fh Az (bY [] wc) (aj aH au))) (λ_ _ _ _ _=>cZ) (λ_ _ _ _ _=>(gH JZ aH (lq wa Z) rQ))) au)))))),?_⟩;calc⟨_,rQ,p,ls,r,w,rQ,hp,J,r1,r9,w1,w9,λH1 s1=>⟨true,rQ,cF ?_⟩⟩;calc⟨rQ,_,rQ,p,ls,rQ,rQ,aU.of (s1 _ _ hp),vT,_,rQ,λL G=>?_⟩;refine vB (λi ys g=>ys=(List.replicate i true).map V.bl/\g L=some (.lst ys)/\aA H g) ⟨rQ,aq,s1.bC (s1.free G)⟩ ?_ ?_
 .intro i c ys g hi z;let⟨rfl,d,F⟩:=z;let j:i<ls.flatten.length:=(ai.mp hi).1;let⟨l,N,B⟩:=rn.mp (aE hi);calc⟨_,rQ,c,MK,rQ,rQ,d,by rw[ab,eA];show aK vT,dw.mk j ⟨?_,aq,F.bC (s1.free G)⟩⟩;rw[aw (show c∈MK from M l N c B)];show wg i
 .intro ys g z;let⟨rfl,d,F⟩:=z;calc⟨L,_,rQ,aP.of d,?_⟩;rw[zL];show q g F
def Bm (K:W.Frag):Sp:=λvs H Q _=>∃(p:Addr) (ls:AA) (r w:Nat) (i j:Int),vs=[.ref p,.int i,.int j]/\aU K H p (Ts ls)/\Blk r w ls/\1<=r/\r<=9/\w<=9/\Q (.bl (decide (0<=i/\i<r/\0<=j/\j<w))) H
def Jf (D:aL K mg "is_cell_of" nR ["rows","row","column"])(G:mg "len"=none)(J:bF P w K mg base "is_whole" 1 ["thing"] Qi):bF P w K mg base "is_cell_of" 2 ["rows","row","column"] (Bm K):=by
 calc D.dD Ja (λf bw A outer s H vs Q E L h=>?_);let⟨p,ls,r,w,i,j,rfl,hp,F,r1,r9,w9,q⟩:=h;let O:(Ts ls).length=r:=by rw[ab,F.len]
 let M:0<ls.length:=by rw[F.len];lia
 let B:ls[0].length=w:=F.j8 _ (bg _);calc⟨_,(aD (dz (QW.qt (sX (jk (fY (bf J L.mono rQ (aj bx au)))) (pK (jk (fY (bf J L.mono rQ (aj bH au))))))) (aJ (aW je)) bZ) (aJ (aW (pL (mU o7 Ci aB bx (aX cu wa G b7 (aj aH au))) (lQ (mU o7 Ci aB bH (aX dM wa G b7 (aj (bJ cR aH aB (λ_ _=>rfl)) au)))))))),?_⟩;calc⟨_,rQ,i,rQ,_,rQ,cT ⟨_,rQ,j,rQ,_,rQ,cT ?_⟩⟩;calc⟨_,rQ,_,_,rQ,rQ,_,rQ,?_⟩;by_cases h1:0<=i
 .rw[aw h1];calc cF ⟨_,rQ,p,_,rQ,.inr hp,_,_,rQ,rQ,_,rQ,?_⟩;rw[O];by_cases d:i<(r:Int)
  .rw[aw d];calc cF ⟨_,rQ,_,_,rQ,rQ,_,rQ,?_⟩;by_cases g:0<=j
   .rw[aw g];calc cF ⟨_,rQ,p,_,_,.str (S ls[0]),rQ,rQ,hp,aO (j:=0) (qM (by simp[M])),_,rQ,aI (aK vT),_,_,rQ,rQ,?_⟩;rw[B];simpa [h1,d,g] using q
   .rw[al g];calc cT ?_;simpa [h1,d,g] using q
  .rw[al d];calc cT ?_;simpa [h1,d] using q
 .rw[al h1];calc cT ⟨_,rQ,cT ?_⟩;simpa [h1] using q
def Ql (K:W.Frag):Sp:=λvs H Q _=>∃(p b:Addr) (ls:AA) (r w:Nat) (i j:Nat),vs=[.ref p,.ref b]/\H p=some (.tup (Ts ls))/\H b=some (.tup [.int i,.int j])/\Blk r w ls/\1<=r/\r<=9/\w<=9/\i<r/\j<w/\Q (.bl true) H
def Ga (D:aL K mg "is_begin_of" mz ["rows","thing"])(B:mg "len"=none)(M:mg "tuple"=none)(L:mg "isinstance"=none)(F:bF P w K mg base "is_cell_of" 2 ["rows","row","column"] (Bm K)):bF P w K mg base "is_begin_of" 3 ["rows","thing"] (Ql K):=by calc D.dD FP (λf bw A outer s H vs Q E G h=>?_);let⟨p,b,ls,r,w,i,j,rfl,hp,d,g,r1,r9,w9,hi,J,q⟩:=h;calc⟨_,(aJ (aW (pL (aX jR wa L fI (aj bx (aj (qQ (v:=.ty "tuple") wa M df rQ) au))) (pL (gH jW (aX cu wa B b7 (aj bx au)) aB (bQ _)) (lQ (bf F G.mono rQ (aj aH (aj (bJ cR bx aB (λ_ _=>rfl)) (aj (bJ cR bx aB (λ_ _=>rfl)) au))))))))),?_⟩;calc⟨_,rQ,_,_,_,true,rQ,.tup d,wb,true,rQ,cF ?_⟩;calc⟨_,rQ,b,_,rQ,.inr (aU.of d),rQ,true,rQ,cF ?_⟩;calc⟨_,rQ,_,rQ,b,_,_,.int i,rQ,rQ,aU.of d,aO (j:=0) rQ,_,rQ,b,_,_,.int j,rQ,rQ,aU.of d,aO (j:=1) rQ,?_⟩;calc⟨p,ls,r,w,i,j,rQ,aU.of hp,g,r1,r9,w9,?_⟩;rw[aw ⟨vT,ph hG hi,vT,vT⟩];show q
def Qm:Sp:=λvs H Q _=>∃(pr pm pb:Addr) (r w:Nat) (ao aM:AA) (i j:Nat),vs=[.ref pr,.ref pm,.ref pb]/\H pr=some (.tup (Ts ao))/\H pm=some (.tup (Ts aM))/\H pb=some (.tup [.int i,.int j])/\DK r w ao aM i j/\∀H',aA H H'->Q (.bl true) H'
def N7 (D:aL K mg "is_board" qK ["rows","marks","begin"])(F:mg "len"=none)(Y:bF P w K mg base "are_rows" 2 ["thing"] V0)(N:bF P w K mg base "are_marks" 2 ["thing"] Qk)(M:bF P w K mg base "is_begin_of" 3 ["rows","thing"] (Ql K)):bF P w K mg base "is_board" 4 ["rows","marks","begin"] Qm:=by
 calc D.dD Nz (λf bw A outer s H vs Q E L h=>?_);let⟨pr,pm,pb,r,w,ao,aM,i,j,rfl,g,hm,hb,B,q⟩:=h;let l1:(Ts ao).length=r:=by rw[ab,B.br.len]
 let l2:(Ts aM).length=r:=by rw[ab,B.bm.len]
 let O:0<ao.length:=by rw[B.br.len];show B.r1
 let G:0<aM.length:=by rw[B.bm.len];show B.r1
 let Z:ao[0].length=w:=B.br.j8 _ (bg _);let J:aM[0].length=w:=B.bm.j8 _ (bg _);let w9:=B.w9;calc⟨_,(aD (dz (QW.qt (sX (jk (fY (bf Y L.mono rQ (aj aH au)))) (pK (jk (fY (bf N L.mono rQ (aj bx au))))))) (aJ (aW je)) bZ) (aD (dz (QW.qt (sX (bW Jm (aX cu wa F b7 (aj bx au)) (aX cu wa F b7 (aj aH au)) (bQ _)) (pK (bW Jm (aX dM wa F b7 (aj (bJ cR bx aB (λ_ _=>rfl)) au)) (aX dM wa F b7 (aj (bJ cR aH aB (λ_ _=>rfl)) au)) (bQ _))))) (aJ (aW je)) bZ) (aJ (aW (bf M L.mono rQ (aj aH (aj bH au))))))),?_⟩;calc⟨_,rQ,pr,ao,r,w,rQ,g,B.br,B.r1,B.r9,B.w1,B.w9,B.cr,λH1 s1=>⟨_,rQ,cT ?_⟩⟩;calc⟨_,rQ,pm,aM,r,w,rQ,s1 _ _ hm,B.bm,B.r1,B.r9,B.w1,B.w9,B.cm,λH2 s2=>⟨_,rQ,cT ?_⟩⟩;let d:=s1.trans s2;calc⟨_,rQ,pm,_,rQ,.inr (aU.of (d _ _ hm)),_,rQ,pr,_,rQ,.inr (aU.of (d _ _ g)),rQ,_,rQ,?_⟩;calc Ri (by rw[l1,l2]) ?_;calc⟨_,rQ,pm,_,_,.str (S aM[0]),rQ,rQ,aU.of (d _ _ hm),aO (j:=0) (qM (by simp[G])),_,rQ,aI (aK vT),_,rQ,pr,_,_,.str (S ao[0]),rQ,rQ,aU.of (d _ _ g),aO (j:=0) (qM (by simp[O])),_,rQ,aI (aK vT),rQ,_,rQ,?_⟩;calc Ri (by rw[Z,J]) ?_;calc⟨_,rQ,_,rQ,pr,pb,ao,r,w,i,j,rQ,d _ _ g,d _ _ hb,B.br,B.r1,B.r9,B.w9,B.bi,B.bj,?_⟩;show q H2 d
structure eU (K:W.Frag)(C:Addr):Prop where
 cl:Cls K C
 nr:lN K C "rows"
 nm:lN K C "marks"
 nb:lN K C "begin"
structure dH (C:Addr)(H:Hp)(p:Addr)(r w:Nat)(ao aM:AA)(i j:Nat):Prop where
 ex:∃dx pr pm pb,H p=some (.ins C dx [("rows",.ref pr),("marks",.ref pm),("begin",.ref pb)])/\H pr=some (.tup (Ts ao))/\H pm=some (.tup (Ts aM))/\H pb=some (.tup [.int i,.int j])
 ok:DK r w ao aM i j
def dH.mv {C:Addr}{H H':Hp}{p:Addr}{r w:Nat}{ao aM:AA}{i j:Nat}(B:dH C H p r w ao aM i j)(s:aA H H'):dH C H' p r w ao aM i j:=by obtain⟨⟨dx,pr,pm,pb,a,b,c,d⟩,o⟩:=B;show⟨⟨dx,pr,pm,pb,s _ _ a,s _ _ b,s _ _ c,s _ _ d⟩,o⟩
def zN (C:Addr):Sp:=λvs H Q _=>∃(p dx pr pm pb:Addr) (r w:Nat) (ao aM:AA) (i j:Nat),vs=[.ref p,.ref pr,.ref pm,.ref pb]/\H p=some (.ins C dx [])/\H pr=some (.tup (Ts ao))/\H pm=some (.tup (Ts aM))/\H pb=some (.tup [.int i,.int j])/\DK r w ao aM i j/\
 ∀H',(∀b o,H b=some o->b≠p->H' b=some o)->H' p=some (.ins C dx [("rows",.ref pr),("marks",.ref pm),("begin",.ref pb)])->Q .non H'
def Jh {f C:Addr}{fd:FuncData}(F:gw K "__init__" "Board.__init__" iu f fd)(T:eU K C)(D:bF P w K mg base "is_board" 4 ["rows","marks","begin"] Qm):dU P w K mg base fB 5 f fd ["self","rows","marks","begin"] (zN C):=by
 calc F.dD Jb (λbw A outer s H vs Q E J h=>?_);let⟨p,dx,pr,pm,pb,r,w,ao,aM,i,j,rfl,hp,g,hm,G,B,q⟩:=h;calc⟨_,(aD (dz (jk (fY (bf D J.mono rQ (aj bx (aj bH (aj cD au)))))) G7 bZ) (aD (CK aH bx rQ) (aD (CK aH bH rQ) (aJ (CK aH cD rQ))))),?_⟩;calc⟨_,rQ,_,rQ,_,rQ,pr,pm,pb,r,w,ao,aM,i,j,rQ,g,hm,G,B,λH1 s1=>⟨_,rQ,cT ?_⟩⟩;calc⟨_,rQ,_,rQ,p,C,dx,_,rQ,s1 _ _ hp,T.cl,T.nr,by show 0<1000;decide,?_⟩;calc⟨_,rQ,_,rQ,p,C,dx,_,rQ,aq,T.cl,T.nm,by show 1<1000;decide,?_⟩;calc⟨_,rQ,_,rQ,p,C,dx,_,rQ,aq,T.cl,T.nb,by show 2<1000;decide,?_⟩;calc q _ (λb o e d=>?_) ?_;.rw[aY d,aY d,aY d];show s1 _ _ e
 .show aq
def atC (ao:AA)(r w:Nat)(i j:Int):Nat:=if 0<=i/\i<r/\0<=j/\j<w then (ao.getD i.toNat []).getD j.toNat 0 else 46
def YC (C:Addr):Sp:=λvs H Q _=>∃(p:Addr) (r w:Nat) (ao aM:AA) (bi bj:Nat) (i j:Int),vs=[.ref p,.int i,.int j]/\dH C H p r w ao aM bi bj/\Q (.str (S [atC ao r w i j])) H
def afm {f C:Addr}{fd:FuncData}(F:gw K "at" "Board.at" jF f fd)(T:eU K C)(Y:∃t,mg "FREE"=some (.str (S [46]) t))(G:bF P w K mg base "is_cell_of" 2 ["rows","row","column"] (Bm K)):dU P w K mg base fB 3 f fd ["self","row","column"] (YC C):=by
 calc F.dD NK (λbw A outer s H vs Q E J h=>?_);let⟨p,r,w,ao,aM,bi,bj,i,j,rfl,B,q⟩:=h;obtain⟨⟨dx,pr,pm,pb,hp,g,hm,L⟩,O⟩:=B;let w9:=O.w9;calc⟨_,(aJ (aW (rD (fY (bf G J.mono rQ (aj (d_ aH rQ) (aj bx (aj bH au))))) (bJ Aw (bJ cR (d_ aH rQ) bx (λ_ _=>rfl)) bH (λ_ _=>rfl)) (lq wa Y)))),?_⟩;calc⟨_,rQ,p,C,dx,_,_,rQ,hp,T.cl,T.nr,rQ,_,rQ,_,rQ,pr,ao,r,w,i,j,rQ,aU.of g,O.br,O.r1,O.r9,O.w9,_,rQ,?_⟩;by_cases h:0<=i/\i<r/\0<=j/\j<w
 .rw[aw h];let e:atC ao r w i j=(ao.getD i.toNat []).getD j.toNat 0:=if_pos h;rw[e]at q;obtain⟨i,rfl⟩:∃k:Nat,i=k:=⟨i.toNat,vT⟩
  obtain⟨j,rfl⟩:∃k:Nat,j=k:=⟨j.toNat,vT⟩
  rw[cS,cS]at q;let hi:i<ao.length:=by rw[O.br.len];simp_all
  let d:ao[i]?=some (ao.getD i []):=by rw[av,ah hi];rfl
  let hw:(ao.getD i []).length=w:=O.br.j8 _ (aE d);let D:(ao.getD i [])[j]?=some ((ao.getD i []).getD j 0):=by rw[av (l:=ao.getD i []),ah (by simp_all)];rfl
  refine cF ⟨_,rQ,p,C,dx,_,_,rQ,hp,T.cl,T.nr,rQ,_,rQ,pr,_,_,_,rQ,rQ,aU.of g,aO (qM d),_,rQ,_,_,_,rQ,rQ,aI (aK vT),aO D,q⟩
 .rw[al h];let e:atC ao r w i j=46:=if_neg h;rw[e]at q;show cT q
def isFree (ao:AA):Bool:=ao.flatten.all λc=>decide ([c]=[46])
def V2 (C:Addr):Sp:=λvs H Q _=>∃(p:Addr) (r w:Nat) (ao aM:AA) (bi bj:Nat),vs=[.ref p]/\dH C H p r w ao aM bi bj/\∀H',aA H H'->Q (.bl (isFree ao)) H'
def Sx {f C:Addr}{fd:FuncData}(F:gw K "is_free" "Board.is_free" fL f fd)(T:eU K C)(M:mg "all"=none)(Y:∃t,mg "FREE"=some (.str (S [46]) t)):dU P w K mg base fB 1 f fd ["self"] (V2 C):=by
 calc F.dD rO (λbw A outer s H vs Q E hr h=>?_);let⟨p,r,w,ao,aM,bi,bj,rfl,B,q⟩:=h;obtain⟨⟨dx,pr,pm,pb,hp,j,hm,hb⟩,O⟩:=B;let Z:r*w<=81:=i9 O.r9 O.w9;let N:=rK O.br;calc⟨_,(aJ (aW (aX (mV rQ) wa M m9 (aj (f9 rQ (fD.of rO.nd wb) (xU (eN bP fg fh Az (bY [] wc) (aj (d_ aH rQ) au))) (λ_ _ _ _ _=>cZ) (λ_ _ _ _ _=>(gH rC aH (lq wa Y) (bQ _)))) au)))),?_⟩;calc⟨rQ,_,rQ,p,C,dx,_,_,rQ,hp,T.cl,T.nr,rQ,pr,ao,rQ,rQ,aU.of j,vT,_,rQ,λL J=>?_⟩;refine vB (λi ys g=>ys=((ao.flatten.take i).map λc=>decide ([c]=[46])).map V.bl/\g L=some (.lst ys)/\aA H g) ⟨rQ,aq,aA.upd J⟩ ?_ ?_
 .intro i c ys g hi z;let⟨rfl,d,G⟩:=z;let D:i<ao.flatten.length:=(ai.mp hi).1;calc⟨_,rQ,[c],[46],rQ,rQ,d,?_,dw.mk D ⟨?_,aq,G.bC J⟩⟩;.rw[ab,ab,bq];show aK vT
  .rw[b8,hi];simp
 .intro ys g z;let⟨rfl,d,G⟩:=z;rw[dL]at d;calc⟨L,_,rQ,aP.of d,?_⟩;let e:((ao.flatten.map λc=>decide ([c]=[46])).all id)=isFree ao:=by
   unfold isFree;rw[List.all_map];rfl
  rw[e];show q g G
def j9 (ao:AA)(j:Nat):List Nat:=ao.map λl=>l.getD j 0
def lineOf (ao:AA)(i j:Nat)(way:Int):List Nat:=if way=0 then ao.getD i [] else j9 ao j
def placeOf (i j:Nat)(way:Int):Nat:=if way=0 then j else i
def Sy:Sp:=λvs H Q _=>∃(p:Addr) (ao:AA) (r w j:Nat),vs=[.ref p,.int j]/\H p=some (.tup (Ts ao))/\Blk r w ao/\r<=9/\w<=9/\j<w/\∀H',aA H H'->Q (.str (S (j9 ao j))) H'
def Gb (D:aL K mg "column_text" mC ["rows","column"]):bF P w K mg base "column_text" 1 ["rows","column"] Sy:=by
 calc D.dD uR (λf bw A outer s H vs Q E Z h=>?_);let⟨p,ao,r,w,j,rfl,hp,B,r9,w9,N,q⟩:=h;calc⟨_,(aJ (aW (eN bP fg fh qP (bY [] wc) (aj (f9 rQ (fD.of uR.nd wb) (iJ aH) (λ_ _ _ _ _=>cZ) (λ_ _ _ _ _=>(bJ Aw aH bH (λ_ _=>rfl)))) au)))),?_⟩;let O:(Ts ao).length=r:=by rw[ab,B.len]
 refine⟨rQ,_,rQ,p,rQ,⟨_,aU.of hp⟩,λL J=>vC (xs:=Ts ao) (λi ys g=>ys=Ts (ones ((ao.take i).map λl=>l.getD j 0))/\g L=some (.lst ys)/\aA H g) ⟨rQ,aq,aA.upd J⟩ (λi ys g _ h=>aU.of (h.2.2 _ _ hp)) ?_ ?_⟩
 .intro i x ys g hi z;let⟨rfl,d,G⟩:=z;let⟨l,M,rfl⟩:=pQ hi;let F:i<(Ts ao).length:=(ai.mp hi).1;let Y:l.length=w:=B.j8 _ (aE M);calc⟨_,rQ,_,rQ,l,_,l.getD j 0,rQ,rQ,aI (aK vT),?_,d,?_,dw.mk F ⟨?_,aq,G.bC J⟩⟩;.show aO (by rw[av,ah (by simp_all)];rfl)
  .rw[ab,ab,ab,bq];show aK (by grind)
  .rw[jT,pP,b8,M];simp
 .intro ys g z;let⟨rfl,d,G⟩:=z;rw[O,<-B.len,dL]at d;calc⟨L,_,rQ,rQ,aP.of d,?_,?_⟩;.rw[mL,ab,B.len];lia
  .rw[mL];show q g G
def wk {r w:Nat}{ao:AA}(d:Blk r w ao){i j:Nat}(hi:i<r){way:Int}:(lineOf ao i j way).length=if way=0 then w else r:=by
 unfold lineOf;by_cases h:way=0
 .rw[if_pos h,if_pos h,av,ah (by rw[d.len];show hi)];show d.j8 _ (bg _)
 .rw[if_neg h,if_neg h];unfold j9;rw[ab,d.len]
def yD (l:List Nat):(dJ l).length<=l.length:=by unfold dJ;rw[List.length_reverse];show aS (ny _).length_le (by rw[List.length_reverse];show af _)
def yE (l:List Nat):(d7 l).length<=l.length:=(ny _).length_le
noncomputable def Lf (i j:Nat)(way:Int)(l:List Nat):List V:=if way=0 then [.int i,.int ((j:Int)-(dJ (l.take j)).length),.str (S (dJ (l.take j)++d7 (l.drop j)))] else [.int ((i:Int)-(dJ (l.take i)).length),.int j,.str (S (dJ (l.take i)++d7 (l.drop i)))]
def Z8 (C:Addr):Sp:=λvs H Q _=>∃(p:Addr) (r w:Nat) (ao aM:AA) (bi bj i j:Nat) (way:Int),vs=[.ref p,.int i,.int j,.int way]/\dH C H p r w ao aM bi bj/\i<r/\j<w/\(way=0\/way=1)/\
 ∀(t:Addr) (H':Hp),aA H H'->H t=none->H' t=some (.tup (Lf i j way (lineOf ao i j way)))->Q (.ref t) H'
def ad7 {f C:Addr}{fd:FuncData}(F:gw K "run" "Board.run" iW f fd)(T:eU K C)(bB:mg "len"=none)(cY:∃t,mg "FREE"=some (.str (S [46]) t))(pZ:bF P w K mg base "column_text" 1 ["rows","column"] Sy):dU P w K mg base fB 2 f fd ["self","row","column","way"] (Z8 C):=by
 calc F.dD jq (λbw A outer s H vs Q E hr h=>?_);let⟨p,r,w,ao,aM,bi,bj,i,j,way,rfl,B,hi,hj,yj,q⟩:=h;obtain⟨⟨dx,pr,pm,pb,hp,L,hm,hb⟩,O⟩:=B;let r9:=O.r9;let w9:=O.w9;calc⟨_,(aD (aZ (i:=4) jq.nd rQ (Or.inl rQ) (rD (bW jW cD aB (bQ _)) (bJ cR (d_ aH rQ) bx (λ_ _=>rfl)) (bf pZ hr.mono rQ (aj (d_ aH rQ) (aj bH au))))) (aD (aZ (i:=5) jq.nd rQ (Or.inl rQ) (rD (bW jW cD aB (bQ _)) bH bx)) (aD (aZ (i:=6) jq.nd rQ (Or.inl rQ) (bJ cR (eN bP PySem.F.slot_str_rpartition PySem.F.type_str_rpartition XD (eO uc cJ iH (d8 cC)) (aj (lq wa cY) au)) aB (λ_ _=>rfl))) (aD (aZ (i:=7) jq.nd rQ (Or.inl rQ) (aN m8 dZ (bJ cR (eN bP PySem.F.slot_str_partition PySem.F.type_str_partition aaR (eO uc cJ (d8 cC) iH) (aj (lq wa cY) au)) aB (λ_ _=>rfl)))) (aD (aZ (i:=8) jq.nd rQ (Or.inl rQ) (aN qX cC (aX dM wa bB b7 (aj dZ au)))) (aJ (aW (rD (bW jW cD aB (bQ _)) (dN (aj bx (aj qG (aj jC au)))) (dN (aj qG (aj bH (aj jC au)))))))))))),?_⟩;let d:ao[i]?=some (ao.getD i []):=by rw[av,ah (by rw[O.br.len];show hi)];rfl
 rcases yj with rfl|rfl
 .let g:(lineOf ao i j 0).length=w:=wk O.br hi;let N:ao.getD i []=lineOf ao i j 0:=rfl;rw[N]at d;let hz:∀l:List Nat,l.length<=100->l.length<=sizeLine:=λl h=>aI (aK vT);calc⟨_,rQ,rQ,_,rQ,cF ?_⟩;calc⟨_,rQ,p,C,dx,_,_,rQ,hp,T.cl,T.nr,rQ,_,rQ,pr,_,_,_,rQ,rQ,aU.of L,aO (qM d),?_⟩;generalize M:lineOf ao i j 0=l at g d ⊢;calc⟨_,rQ,rQ,_,rQ,cF ⟨_,rQ,?_⟩⟩;calc⟨_,rQ,_,rQ,_,rQ,l,rQ,hz _ vT,rQ,?_⟩;rw[J9];calc⟨_,rQ,rQ,by rw[bq];grind,λp1 a1 b1 D=>?_⟩;calc⟨p1,_,_,_,rQ,rQ,aU.of aq,aO (j:=2) rQ,?_⟩;let s1:aA H (upd H p1 (.tup [.str a1,.str b1,.str (S (dJ (l.take j)))])):=aA.upd D;generalize upd H p1 (.tup [.str a1,.str b1,.str (S (dJ (l.take j)))])=H1 at s1 ⊢;let Y:=yD (l.take j);let Z:=yE (l.drop j);rw[bq]at Y;rw[cz]at Z;calc⟨_,rQ,_,rQ,_,rQ,_,rQ,l,rQ,hz _ vT,rQ,?_⟩;rw[vD];calc⟨_,rQ,rQ,by rw[cz];show aS (uu _ _) vT,λp2 b2 c2 G=>?_⟩;calc⟨p2,_,_,_,rQ,rQ,aU.of aq,aO (j:=0) rQ,_,_,rQ,rQ,aI (aK (by grind)),?_⟩;let s2:=s1.bC (o:=HO.tup [.str (S (d7 (l.drop j))),.str b2,.str c2]) (s1.free G);generalize upd H1 p2 (HO.tup [.str (S (d7 (l.drop j))),.str b2,.str c2])=H2 at s2 ⊢;calc⟨_,rQ,_,rQ,_,rQ,hz _ vT,_,_,rQ,rQ,?_⟩;calc⟨_,rQ,rQ,_,rQ,cF ?_⟩;calc⟨_,rQ,_,rQ,_,rQ,zsz 3,λt J=>?_⟩;show q t _ (s2.bC (s2.free J)) (s2.free J) (by rw[aq,M];rfl)
 .let g:(lineOf ao i j 1).length=r:=wk O.br hi;let N:j9 ao j=lineOf ao i j 1:=rfl;let hz:∀l:List Nat,l.length<=100->l.length<=sizeLine:=λl h=>aI (aK vT);calc⟨_,rQ,rQ,_,rQ,cT ?_⟩;calc⟨_,rQ,p,C,dx,_,_,rQ,hp,T.cl,T.nr,rQ,_,rQ,pr,ao,r,w,j,rQ,L,O.br,r9,w9,hj,λH0 s0=>?_⟩;rw[N];generalize M:lineOf ao i j 1=l at g ⊢;calc⟨_,rQ,rQ,_,rQ,cT ⟨_,rQ,?_⟩⟩;calc⟨_,rQ,_,rQ,_,rQ,l,rQ,hz _ vT,rQ,?_⟩;rw[J9];calc⟨_,rQ,rQ,by rw[bq];lia,λp1 a1 b1 D=>?_⟩;calc⟨p1,_,_,_,rQ,rQ,aU.of aq,aO (j:=2) rQ,?_⟩;let s1:aA H (upd H0 p1 (.tup [.str a1,.str b1,.str (S (dJ (l.take i)))])):=s0.bC (s0.free D);generalize upd H0 p1 (.tup [.str a1,.str b1,.str (S (dJ (l.take i)))])=H1 at s1 ⊢;let Y:=yD (l.take i);let Z:=yE (l.drop i);rw[bq]at Y;rw[cz]at Z;calc⟨_,rQ,_,rQ,_,rQ,_,rQ,l,rQ,hz _ vT,rQ,?_⟩;rw[vD];calc⟨_,rQ,rQ,by rw[cz];lia,λp2 b2 c2 G=>?_⟩;calc⟨p2,_,_,_,rQ,rQ,aU.of aq,aO (j:=0) rQ,_,_,rQ,rQ,aI (aK vT),?_⟩;let s2:=s1.bC (o:=HO.tup [.str (S (d7 (l.drop i))),.str b2,.str c2]) (s1.free G);generalize upd H1 p2 (HO.tup [.str (S (d7 (l.drop i))),.str b2,.str c2])=H2 at s2 ⊢;calc⟨_,rQ,_,rQ,_,rQ,hz _ vT,_,_,rQ,rQ,?_⟩;calc⟨_,rQ,rQ,_,rQ,cT ?_⟩;calc⟨_,rQ,_,rQ,_,rQ,zsz 3,λt J=>?_⟩;show q t _ (s2.bC (s2.free J)) (s2.free J) (by rw[aq,M];rfl)
abbrev aQ:=Nat×Nat×Nat
def rk (t:aQ):Nat:=t.1*1000+t.2.1
def sw (t:aQ):aQ:=(t.2.1,t.1,t.2.2)
def yF (t:aQ):Prop:=t.1<9/\t.2.1<9/\t.2.2<128
def DQ (H:Hp)(a:Addr)(t:aQ):Prop:=H a=some (.tup [.int t.1,.int t.2.1,.str (S [t.2.2])])
noncomputable def tO (H:Hp)(a:Addr):aQ:=match H a with| some (.tup [.int x,.int y,.str z])=>(x.toNat,y.toNat,z.cps.toList.headD 0)| _=>(0,0,0)
def SJ {H:Hp}{a:Addr}{t:aQ}(h:DQ H a t):tO H a=t:=by unfold tO;rw[show H a=_ from h];rfl
structure gW (H:Hp)(as:List Addr)(ts:List aQ):Prop where
 at_:∀a∈as,DQ H a (tO H a)
 eq:as.map (tO H)=ts
def gW.fQ {H H':Hp}{as:List Addr}{ts:List aQ}(k:∀a xs,H a=some (.tup xs)->H' a=some (.tup xs))(h:gW H as ts):gW H' as ts:=by let e:∀a∈as,tO H' a=tO H a:=λa ha=>SJ (k a _ (h.at_ a ha));show⟨λa ha=>by rw[e a ha];show k a _ (h.at_ a ha),by rw[<-h.eq];show e6 e⟩
def gW.mv {H H':Hp}{as:List Addr}{ts:List aQ}(k:aA H H')(h:gW H as ts):gW H' as ts:=h.fQ λa xs e=>k a _ e
def iZ {H:Hp}{M:Addr}{ys d:List V}(g:H M=some (.lst ys)):∀a xs,H a=some (.tup xs)->upd H M (.lst d) a=some (.tup xs):=λa xs e=>by
 let ne:a≠M:=λz=>by rw[z,g]at e;cases e
 rw[aY ne];show e
def gW.snoc {H:Hp}{as:List Addr}{ts:List aQ}{a:Addr}{t:aQ}(h:gW H as ts)(ha:DQ H a t):gW H (as++[a]) (ts++[t]):=by
 calc⟨λb d=>?_,by rw[b9,h.eq,mx,SJ ha]⟩;rcases a9.mp d with z|z;.show h.at_ b z
 .rw[am.mp z,SJ ha];show ha
def gW.nil {H:Hp}:gW H [] []:=⟨λa h=>by simp at h,rQ⟩
def gW.len {H:Hp}{as:List Addr}{ts:List aQ}(h:gW H as ts):as.length=ts.length:=by rw[<-h.eq,ab]
def gW.get {H:Hp}{as:List Addr}{ts:List aQ}(h:gW H as ts){i:Nat}(hi:i<as.length):∃t,ts[i]?=some t/\DQ H as[i] t:=⟨tO H as[i],by rw[<-h.eq];simp[hi],h.at_ _ (bg _)⟩
def bU (ao:AA)(w:Nat):List (List Nat):=(List.range w).map (j9 ao)
def Bo {r w:Nat}{ao:AA}(h:Blk r w ao):Blk w r (bU ao w):=
 ⟨by unfold bU;rw[ab,dm],λl d=>by let⟨j,_,rfl⟩:=aT.mp d;unfold j9;rw[ab,h.len]⟩
def wu {r w:Nat}{ao:AA}(h:Blk r w ao){g:Nat->Prop}(hp:∀l∈ao,∀c∈l,g c):∀l∈bU ao w,∀c∈l,g c:=λl D c F=>by let⟨j,B,rfl⟩:=aT.mp D;let B:=bv.mp B;let⟨q,d,rfl⟩:=aT.mp F;let hw:=h.j8 q d;rw[av,ah (by simp_all)];show hp q d _ (bg _)
def V3 {r w:Nat}{ao:AA}(h:Blk r w ao):bU (bU ao w) r=ao:=by
 apply rj;.unfold bU;rw[ab,dm,h.len]
 .intro i h1 g;let hw:=h.j8 ao[i] (bg _);rw[show (bU (bU ao w) r)[i]=j9 (bU ao w) i by simp[bU]];unfold j9 bU;rw[dS];apply rj;.rw[ab,dm,hw]
  .intro j q d;rw[rl,List.getElem_range];show (ao.map λl=>l.getD j 0).getD i 0=ao[i][j];rw[av,ah (by rw[ab];show g),rl];show (ao[i]).getD j 0=_;rw[av,ah d];rfl
def Lg {r w:Nat}{ao aM:AA}{bi bj:Nat}(B:DK r w ao aM bi bj):DK w r (bU ao w) (bU aM w) bj bi:=⟨B.w1,B.w9,B.r1,B.r9,Bo B.br,Bo B.bm,wu B.br B.cr,wu B.bm B.cm,B.bj,B.bi⟩
def setAt (R:AA)(i j z:Nat):List (List Nat):=R.set i ((R.getD i []).set j z)
def eY (R:AA)(ts:List aQ):List (List Nat):=ts.foldl (λR t=>setAt R t.1 t.2.1 t.2.2) R
def Qn {r w:Nat}{R:AA}(h:Blk r w R){i j z:Nat}(hi:i<r):Blk r w (setAt R i j z):=by
 calc⟨by unfold setAt;rw[nV,h.len],λl d=>?_⟩;rcases oj d with y|y;.show h.j8 l y
 .rw[y,nV,av,ah (by rw[h.len];show hi)];show h.j8 _ (bg _)
def abA {r w:Nat}{R:AA}(h:Blk r w R){i j z:Nat}(hi:i<r){g:Nat->Prop}(hp:∀l∈R,∀c∈l,g c)(hz:g z):∀l∈setAt R i j z,∀c∈l,g c:=λl q c d=>by
 rcases oj q with y|y;.show hp l y c d
 .rw[y]at d;rcases oj d with u|u
  .rw[av,ah (by rw[h.len];show hi)]at u;show hp _ (bg _) c u
  .rw[u];show hz
def inB (r w:Nat)(t:aQ):Prop:=t.1<r/\t.2.1<w/\tU t.2.2
theorem Bp {r w:Nat}:∀{ts:List aQ} {R:AA},Blk r w R->(∀t∈ts,inB r w t)->Blk r w (eY R ts)
 | [],_,h,_=>h
 | t::ts,_,h,k=>Bp (ts:=ts) (Qn h (k t ax).1) λx hx=>k x (ay _ hx)
theorem Lh {r w:Nat}:∀{ts:List aQ} {R:AA},Blk r w R->(∀t∈ts,inB r w t)->(∀l∈R,∀c∈l,Ai c)->∀l∈eY R ts,∀c∈l,Ai c
 | [],_,_,_,g=>g
 | t::ts,_,h,k,g=>Lh (ts:=ts) (Qn h (k t ax).1) (λx hx=>k x (ay _ hx)) (abA h (k t ax).1 g (.inr (k t ax).2.2))
def YD {r w:Nat}{ao aM:AA}{bi bj:Nat}(B:DK r w ao aM bi bj){ts:List aQ}(k:∀t∈ts,inB r w t):DK r w (eY ao ts) aM bi bj:=⟨B.r1,B.r9,B.w1,B.w9,Bp B.br k,B.bm,Lh B.br k B.cr,B.cm,B.bi,B.bj⟩
def V4 (R:AA)(ts:List aQ)(t:aQ):eY R (ts++[t])=setAt (eY R ts) t.1 t.2.1 t.2.2:=by unfold eY;rw[List.foldl_append];rfl
structure gj (H0 H:Hp)(ps:List Addr)(R:AA):Prop where
 len:ps.length=R.length
 nd:ps.Nodup
 fr:∀p∈ps,H0 p=none
 at_:∀(i:Nat) (h:i<ps.length),H ps[i]=some (.lst (Ts (ones (R.getD i []))))
def gj.mv {H0 H H':Hp}{ps:List Addr}{R:AA}(h:gj H0 H ps R)(k:∀p∈ps,H' p=H p):gj H0 H' ps R:=⟨h.len,h.nd,h.fr,λi hi=>by rw[k _ (bg _)];show h.at_ i hi⟩
def gj.mvS {H0 H H':Hp}{ps:List Addr}{R:AA}(h:gj H0 H ps R)(k:aA H H'):gj H0 H' ps R:=⟨h.len,h.nd,h.fr,λi hi=>k _ _ (h.at_ i hi)⟩
def gj.snoc {H0 H:Hp}{ps:List Addr}{R:AA}(h:gj H0 H ps R){p:Addr}{l:List Nat}(hn:p∉ps)(d:H0 p=none)(hp:H p=some (.lst (Ts (ones l)))):gj H0 H (ps++[p]) (R++[l]):=by
 refine⟨by simp[h.len],?_,λx hx=>?_,λi hi=>?_⟩
 .rw[List.nodup_append];calc⟨h.nd,v0,λa ha b g=>?_⟩;rw[am.mp g];show λz=>hn (z ▸ ha)
 .rcases a9.mp hx with z|z;.show h.fr x z
  .rw[am.mp z];show d
 .by_cases c:i<ps.length;.rw[List.getElem_append_left c,h.at_ i c,av,av,eM (by rw[<-h.len];show c)]
  .let e:i=ps.length:=by simp at hi;lia
   subst e;rw[List.getElem_append_right (af _)];simp only[jS,List.getElem_singleton];rw[hp,av,dE (by rw[h.len];show af _),h.len];simp
def gj.set {H0 H:Hp}{ps:List Addr}{R:AA}(h:gj H0 H ps R){i j z:Nat}(hi:i<ps.length):gj H0 (upd H ps[i] (.lst ((Ts (ones (R.getD i []))).set j (.str (S [z]))))) ps (setAt R i j z):=by
 let e:(Ts (ones (R.getD i []))).set j (.str (S [z]))=Ts (ones ((R.getD i []).set j z)):=by show List.set (((R.getD i []).map λc=>[c]).map λl=>V.str (S l)) j (V.str (S [z]))=((List.set (R.getD i []) j z).map λc=>[c]).map λl=>V.str (S l);rw[sC,sC]
 rw[e];calc⟨by unfold setAt;rw[nV];show h.len,h.nd,h.fr,λk hk=>?_⟩;by_cases c:k=i
 .subst c;rw[aq];unfold setAt;rw[av (l:=R.set _ _),mB (by rw[<-h.len];show hi)];rfl
 .rw[aY (λz=>c ((List.getElem_inj h.nd).mp z)),h.at_ k hk];unfold setAt;rw[av (l:=R.set _ _),nB (λz=>c z.symm),<-av]
def ad8:Sp:=λvs H Q _=>∃(p:Addr) (ao:AA) (r w:Nat),vs=[.ref p]/\H p=some (.tup (Ts ao))/\Blk r w ao/\1<=r/\r<=9/\w<=9/\∀(d:Addr) (H':Hp),aA H H'->H' d=some (.tup (Ts (bU ao w)))->Q (.ref d) H'
def Gd (D:aL K mg "turned_rows" mD ["rows"])(L:mg "len"=none)(J:mg "range"=none)(bM:mg "tuple"=none)(Z:bF P w K mg base "column_text" 1 ["rows","column"] Sy):bF P w K mg base "turned_rows" 2 ["rows"] ad8:=by
 calc D.dD uT (λf bw A outer s H vs Q E hr h=>?_);let⟨p,ao,r,w,rfl,hp,B,r1,r9,w9,q⟩:=h;calc⟨_,(aJ (aW (cO dO wa bM df (aj (f9 rQ (fD.of uT.nd wb) (jw wa J (aj (aX dM wa L b7 (aj (bJ cR aH aB (λ_ _=>rfl)) au)) au)) (λ_ _ _ _ _=>cZ) (λ_ _ _ _ _=>(bf Z hr.mono rQ (aj bx (aj aH au))))) au)))),?_⟩;let O:0<ao.length:=by rw[B.len];show r1
 let w0:ao[0].length=w:=B.j8 _ (bg _);calc⟨_,rQ,p,_,_,.str (S ao[0]),rQ,rQ,aU.of hp,aO (j:=0) (qM (by simp[O])),_,rQ,aI (aK vT),_,rQ,kX _,vT,?_⟩;intro M F;rw[cS,w0];refine CG (lo:=0) (n:=w) (λi ys g=>ys=Ts ((List.range i).map (j9 ao))/\g M=some (.lst ys)/\aA H g) ⟨rQ,aq,aA.upd F⟩ ?_ ?_
 .intro i ys g hi z;let⟨rfl,Y,d⟩:=z;calc⟨_,rQ,_,rQ,p,ao,r,w,i,by rw[sD];rfl,d _ _ hp,B,r9,w9,hi,λH3 G=>⟨G _ _ Y,?_,dw.mk hi ⟨?_,aq,(d.trans G).bC F⟩⟩⟩;.rw[ab,ab,dm];show aK vT
  .rw[jT,eQ,b9];rfl
 .intro ys g z;let⟨rfl,Y,d⟩:=z;calc⟨M,_,rQ,.inl ⟨aP.of Y,λl N=>?_⟩⟩;show q l _ (d.bC (d.free N)) aq
def Li (C:Addr):Sp:=λvs H Q _=>∃(p:Addr) (r w:Nat) (ao aM:AA) (bi bj:Nat),vs=[.ref p]/\dH C H p r w ao aM bi bj/\∀(d:Addr) (H':Hp),aA H H'->dH C H' d w r (bU ao w) (bU aM w) bj bi->Q (.ref d) H'
def V5 {f C f0:Addr}{fd lH:FuncData}(F:gw K "turned" "Board.turned" gb f fd)(T:eU K C)(rR:mg "Board"=some (.ref C))(uZ:Mk K C f0)(u9:dU P w K mg base fB 5 f0 lH ["self","rows","marks","begin"] (zN C))(u_:cB K lH ["self","rows","marks","begin"] [])(wZ:bF P w K mg base "turned_rows" 2 ["rows"] ad8):dU P w K mg base fB 8 f fd ["self"] (Li C):=by
 calc F.dD tG (λbw A outer s H vs Q E hr h=>?_);let⟨p,r,w,ao,aM,bi,bj,rfl,BA,q⟩:=h;obtain⟨⟨dx,pr,pm,pb,hx,O,N,d⟩,B⟩:=BA;calc⟨_,(aD (aZ (i:=1) tG.nd rQ (Or.inl rQ) (dN (aj (bJ cR (d_ aH rQ) aB (λ_ _=>rfl)) (aj (bJ cR (d_ aH rQ) aB (λ_ _=>rfl)) au)))) (aJ (aW (zu uZ u9 hr.mono rQ rR u_ .nil jA (aj (bf wZ hr.mono rQ (aj (d_ aH rQ) au)) (aj (bf wZ hr.mono rQ (aj (d_ aH rQ) au)) (aj bx au))))))),?_⟩;calc⟨_,rQ,p,C,dx,_,_,rQ,hx,T.cl,T.nb,rQ,pb,_,_,.int bj,rQ,rQ,aU.of d,aO (j:=1) rQ,?_⟩;calc⟨_,rQ,p,C,dx,_,_,rQ,hx,T.cl,T.nb,rQ,pb,_,_,.int bi,rQ,rQ,aU.of d,aO (j:=0) rQ,zsz 2,λb hb=>?_⟩;let s1:aA H (upd H b (.tup [.int bj,.int bi])):=aA.upd hb;calc⟨_,rQ,p,C,dx,_,_,rQ,s1 _ _ hx,T.cl,T.nr,rQ,pr,ao,r,w,rQ,s1 _ _ O,B.br,B.r1,B.r9,B.w9,λp1 H1 t1 h1=>?_⟩;let s2:=s1.trans t1;calc⟨_,rQ,p,C,dx,_,_,rQ,s2 _ _ hx,T.cl,T.nm,rQ,pm,aM,r,w,rQ,s2 _ _ N,B.bm,B.r1,B.r9,B.w9,λp2 L M h2=>?_⟩;let s3:=s2.trans M;calc⟨_,rQ,λx D nx Y nex=>?_⟩;let J:aA L (upd (upd L D (HO.own x)) x (HO.ins C D [])):=λb o e=>by rw[aY (bI e nx),aY (bI e Y)];show e
 let g:L b=some (.tup [.int bj,.int bi]):=M _ _ (t1 _ _ aq);calc⟨x,D,p1,p2,b,w,r,bU ao w,bU aM w,bj,bi,rQ,aq,J _ _ (M _ _ h1),J _ _ h2,J _ _ g,Lg B,λH3 kp Z=>⟨rQ,?_⟩⟩;let G:aA L H3:=λb o e=>kp b o (J b o e) (bI e nx);show q x H3 (s3.trans G) ⟨⟨D,p1,p2,b,Z,G _ _ (M _ _ h1),G _ _ h2,G _ _ g⟩,Lg B⟩
def V6 (C:Addr):Sp:=λvs H Q _=>∃(p t:Addr) (as:List Addr) (ts:List aQ) (r w:Nat) (ao aM:AA) (bi bj:Nat),vs=[.ref p,.ref t]/\dH C H p r w ao aM bi bj/\H t=some (.tup (as.map V.ref))/\gW H as ts/\(∀t∈ts,inB r w t)/\
 ∀(d:Addr) (H':Hp),aA H H'->dH C H' d r w (eY ao ts) aM bi bj->Q (.ref d) H'
def abB {f C f0:Addr}{fd lH:FuncData}(F:gw K "laid" "Board.laid" iw f fd)(T:eU K C)(kI:mg "list"=none)(bM:mg "tuple"=none)(rR:mg "Board"=some (.ref C))(uZ:Mk K C f0)(u9:dU P w K mg base fB 5 f0 lH ["self","rows","marks","begin"] (zN C))(u_:cB K lH ["self","rows","marks","begin"] []):dU P w K mg base fB 8 f fd ["self","laying"] (V6 C):=by
 calc F.dD iI (λbw A outer s H vs Q E hr h=>?_);let⟨p,t,as,ts,r,w,ao,aM,bi,bj,rfl,BA,ht,hL,jX,q⟩:=h;obtain⟨⟨dx,pr,pm,pb,hx,hpr,hpm,hpb⟩,B⟩:=BA;let r9:=B.r9;let w9:=B.w9;let J:=B.br;calc⟨_,(aD (O_ (ix:=2) (ns:=["row"]) iI.nd rQ (Or.inl rQ) rQ (gG.of ["self","laying","lines",".3","column","sign"] [3] wb) (iJ (d_ aH rQ)) (λ_ _ _ _ _=>(oH (show (["row","self","laying","lines",".3","column","sign"]:List Str).Nodup by decide +kernel) rQ wa)) (λ_ _ _ _ _=>cZ) (λ_ _ _ _ _=>(cO (CP rQ) wa kI qq (aj aH au)))) (aD (eV cy rQ (iJ bx) (uE rQ (dX (bV (i:=3) iI.nd rQ (Or.inl rQ)) (dX (bV (i:=4) iI.nd rQ (Or.inl rQ)) (dX (bV (i:=5) iI.nd rQ (Or.inl rQ)) oJ)))) (aJ (Ur cC (ado (bJ fP bH cD (λ_ _=>rfl)) cJ set_list)))) (aJ (aW (zu uZ u9 hr.mono rQ rR u_ .nil jA (aj (cO dO wa bM df (aj (f9 rQ (fD.of iI.nd wb) (d9 bH) (λ_ _ _ _ _=>cZ) (λ_ _ _ _ _=>(adp K bP fg fh (Xz K) (bY [] wc) (aj aH au)))) au)) (aj (d_ aH rQ) (aj (d_ aH rQ) au)))))))),?_⟩;refine⟨_,rQ,p,C,dx,_,_,rQ,hx,T.cl,T.nr,rQ,pr,rQ,⟨_,aU.of hpr⟩,λM hM=>vG (f:=fW [3] 0) (tt:=iC) (xs:=Ts ao) (λi ys H2=>∃ps:List Addr,ys=ps.map V.ref/\H2 M=some (.lst ys)/\aA H H2/\gj H H2 ps (ao.take i)/\M∉ps)
  ⟨[],rQ,aq,aA.upd hM,⟨v0,nw,λp h=>by simp at h,λi h=>by simp at h⟩,v0⟩ (λi ys H2 _ h=>by let⟨_,_,_,D,_⟩:=h;show aU.of (D _ _ hpr)) ?_ ?_⟩
 .intro i x ys H2 hi z;let⟨ps,rfl,wY,D,w5,nM⟩:=z;let⟨l,hl,rfl⟩:=pQ hi;let hil:i<(Ts ao).length:=(ai.mp hi).1;let VR:l.length=w:=J.j8 _ (aE hl);let nO:(Ts ao).length=r:=by rw[ab,J.len]
  let hpl:ps.length<=9:=by rw[w5.len,bq,J.len];lia
  calc ZG ⟨_,rQ,l,rQ,vT,λc hc=>?_⟩;let Y:M≠c:=λz=>by rw[<-z,wY]at hc;cases hc
  let ncp:c∉ps:=λz=>by let⟨k,hk,e⟩:=cq.mp z;have:=w5.at_ k hk;rw[e,hc]at this;cases this
  refine⟨by rw[aY Y];show wY,by rw[ab];show aK vT,dw.mk hil ⟨ps++[c],v0,aq,(D.bC (D.free hc)).bC hM,?_,?_⟩⟩
  .rw[show ao.take (i+1)=ao.take i++[l] by rw[b8,hl];rfl];calc gj.mv ((w5.mvS (aA.upd hc)).snoc ncp (D.free hc) aq) λy hy=>aY λz=>?_;rcases a9.mp hy with u|u
   .show nM (z ▸ u)
   .show Y (z.symm.trans (am.mp u))
  .intro z;rcases a9.mp z with u|u;.show nM u
   .show Y (am.mp u)
 .intro ys H2 z;let⟨ps,rfl,wY,D,w5,nM⟩:=z;rw[bE (by rw[ab];show af _)]at w5;refine⟨_,rQ,t,rQ,⟨_,aU.of (D _ _ ht)⟩,uD (K:=K) (a:=t) (xs:=as.map V.ref) (λi σ Z=>∃v3 v4 v5:Option V,σ=[some (.ref p),some (.ref t),some (.ref M),v3,v4,v5]/\aA H Z/\Z M=some (.lst (ps.map V.ref))/\gj H Z ps (eY ao (ts.take i)))
   ⟨none,none,none,rQ,D,wY,w5⟩ (λi σ Z _ h=>by let⟨_,_,_,_,D,_⟩:=h;show aU.of (D _ _ ht)) ?_ ?_⟩
  .intro i x σ Z d z;let⟨v3,v4,v5,rfl,g,V7,j⟩:=z;rw[ba]at d;let hi:i<as.length:=by
    rcases ee i as.length with z|z;.show z
    .rw[di z]at d;cases d
   rw[ah hi]at d;let d:V.ref as[i]=x:=be d;subst d;let⟨u,eu,hU⟩:=hL.get hi;let hum:=aE eu;let⟨u1,u2,u3⟩:=jX u hum;let hb3:Blk r w (eY ao (ts.take i)):=Bp J λy hy=>jX y (gv hy);let hpl:ps.length=r:=by rw[j.len,hb3.len]
   let hps:u.1<ps.length:=by simp_all
   calc⟨as[i],_,rQ,aU.of (g _ _ hU),rQ,_,_,rQ,_,_,rQ,_,_,rQ,rQ,?_⟩;refine⟨_,rQ,_,rQ,_,rQ,M,_,_,.ref ps[u.1],rQ,rQ,aP.of V7,aO (by simp[hps]),_,rQ,ps[u.1],_,_,u.2.1,rQ,rQ,j.at_ u.1 hps,?_,?_⟩
   .have:((eY ao (ts.take i)).getD u.1 []).length=w:=by
     rw[av,ah (by rw[hb3.len];show u1)];show hb3.j8 _ (bg _)
    unfold GR;rw[ab,ab,this,if_pos vT,if_pos (ph hG u2)];congr 1
   .refine⟨_,_,_,rQ,g.bC (j.fr _ (bg _)),?_,?_⟩
    .let ne:M≠ps[u.1]:=λz=>nM (by rw[z];show bg _)
     rw[aY ne];show V7
    .rw[show eY ao (ts.take (i+1))=setAt (eY ao (ts.take i)) u.1 u.2.1 u.2.2 by rw[b8,eu];show V4 _ _ _];show j.set hps
  .intro σ Z z;let⟨v3,v4,v5,rfl,g,V7,j⟩:=z;rw[bE (by rw[ab,hL.len];show af _)]at j;let B':=YD B jX;let hpl:ps.length=r:=by rw[j.len,B'.br.len]
   refine⟨_,rQ,M,rQ,⟨_,aP.of V7⟩,λN hN=>pJ (xs:=ps.map V.ref) (λi ys L=>ys=Ts ((eY ao ts).take i)/\L N=some (.lst ys)/\aA Z L) ⟨rQ,aq,aA.upd hN⟩ (λi ys L _ h=>aP.of (h.2.2 _ _ V7)) ?_ ?_⟩
   .intro i x ys L hi z;let⟨rfl,Z9,Lj⟩:=z;rw[ba]at hi;let G:i<ps.length:=by
     rcases ee i ps.length with z|z;.show z
     .rw[di z]at hi;cases hi
    rw[ah G]at hi;let hi:V.ref ps[i]=x:=be hi;subst hi;let hri:i<(eY ao ts).length:=by rw[<-j.len];show G
    let hg:(eY ao ts).getD i []=(eY ao ts)[i]:=by rw[av,ah hri];rfl
    let hw:(eY ao ts)[i].length=w:=B'.br.j8 _ (bg _);let hat:=j.at_ i G;rw[hg]at hat;calc⟨rQ,_,rQ,ps[i],ones (eY ao ts)[i],rQ,rQ,aP.of (Lj _ _ hat),by rw[mL,hw];lia,Z9,?_,dw.mk (by rw[ab];show G) ⟨?_,aq,Lj.bC hN⟩⟩;.rw[ab,bq];show aK (by grind)
    .rw[mL,jT,b8,ah hri];rfl
   .intro ys L z;let⟨rfl,Z9,Lj⟩:=z;rw[bE (by rw[ab,j.len];show af _)]at Z9;calc⟨N,_,rQ,.inl ⟨aP.of Z9,λl hl=>?_⟩⟩;let O:=(g.trans Lj).bC (o:=.tup (Ts (eY ao ts))) ((g.trans Lj).free hl);calc⟨_,rQ,p,C,dx,_,_,rQ,O _ _ hx,T.cl,T.nm,rQ,_,rQ,p,C,dx,_,_,rQ,O _ _ hx,T.cl,T.nb,rQ,λx dy nx ndx nex=>?_⟩;let s6:aA (upd L l (.tup (Ts (eY ao ts)))) (upd (upd (upd L l (.tup (Ts (eY ao ts)))) dy (HO.own x)) x (HO.ins C dy [])):=λb o e=>by rw[aY (bI e nx),aY (bI e ndx)];show e
    calc⟨x,dy,l,pm,pb,r,w,eY ao ts,aM,bi,bj,rQ,aq,s6 _ _ aq,s6 _ _ (O _ _ hpm),s6 _ _ (O _ _ hpb),B',λH5 kp hx5=>⟨rQ,?_⟩⟩;let s7:aA (upd L l (.tup (Ts (eY ao ts)))) H5:=λb o e=>kp b o (s6 b o e) (bI e nx);show q x H5 (O.trans s7) ⟨⟨dy,l,pm,pb,hx5,s7 _ _ aq,s7 _ _ (O _ _ hpm),s7 _ _ (O _ _ hpb)⟩,B'⟩
noncomputable def pR (l:List Nat)(k c:Nat):List Nat:=(dJ (l.take k)).map PyProof.Rows.lo1++c::(d7 (l.drop (k+1))).map PyProof.Rows.lo1
def abC {r w:Nat}{ao:AA}(cr:∀l∈ao,∀c∈l,Ai c){i j:Nat}{way:Int}(B:Blk r w ao)(D:j<w):∀c∈lineOf ao i j way,Ai c:=λc d=>by
 unfold lineOf at d;split at d
 .rw[av]at d;cases e:ao[i]? with| none=>rw[e]at d;simp at d| some l=>rw[e]at d;show cr l (aE e) c d
 .let⟨l,q,rfl⟩:=aT.mp d;let g:j<l.length:=by rw[B.j8 l q];show D
  rw[av,ah g];show cr l q _ (bg _)
def SM {c:Nat}(h:Ai c):c<128:=by
 rcases h with e|e;.rw[e];decide
 .show e.lt
def Z_ (b:Bool)(c:Nat):Nat:=if b=true then 46 else c
def Qo (b:Bool)(c:Nat):jL [V.str (S [c]),V.str (S [46])] (if b=true then 1 else 0)=some (.str (S [Z_ b c])):=by
 cases b;.show aO (j:=0) rfl
 .show aO (j:=1) rfl
def Qp {b:Bool}{c:Nat}(h:tU c):Ai (Z_ b c):=by
 cases b;.show .inr h
 .show .inl rfl
def Lk (K:W.Frag)(C:Addr):Sp:=λvs H Q _=>∃(p a:Addr) (ls:List Nat) (ns:List Int) (st:Nat) (x:Int),vs=[.ref p,.ref a,.int st,.int x]/\H p=some (.lst (Ts (ones ls)))/\R_ ls/\aP K H a (ns.map V.int)/\st<=900/\
 ∀(b:Addr) (r w:Nat) (ao aM:AA) (bi bj:Nat) (H':Hp),aA H H'->dH C H' b r w ao aM bi bj->Q (.ref b) H'
def V8:List Nat:=[46,46,46,46,46,46,46,50,51,52,98,99,100]
def Ln {C f0:Addr}{lH:FuncData}(D:aL K mg "_law_board" zJ ["_law_letters_here","_law_script","_law_start","_law_x"])(bB:mg "len"=none)(dg:mg "range"=none)(bM:mg "tuple"=none)(iR:mg "int"=none)(rR:mg "Board"=some (.ref C))(uZ:Mk K C f0)(u9:dU P w K mg base fB 5 f0 lH ["self","rows","marks","begin"] (zN C))(u_:cB K lH ["self","rows","marks","begin"] [])(ad9:bF P w K mg base "_law_size" 1 ["_law_x"] VL)(kJ:bF P w K mg base "_law_digits" 3 ["_law_script","_law_k","_law_base","_law_many"] (DG K)):bF P w K mg base "_law_board" 8 ["_law_letters_here","_law_script","_law_start","_law_x"] (Lk K C):=by
 calc D.dD gO (λf bw A outer s H vs Q E hr h=>?_);let⟨p,a,ls,ns,st,x,rfl,hp,hA,hS,hst,q⟩:=h;let hlo:(Ts (ones ls)).length=ls.length:=by rw[ab,ab]
 let hl1:=hA.lo;calc⟨_,(aD (Ur (bf ad9 hr.mono rQ (aj cD au)) (uE rQ (dX (bV (i:=4) gO.nd rQ (Or.inl rQ)) (dX (bV (i:=5) gO.nd rQ (Or.inl rQ)) oJ)))) (aD (aZ (i:=6) gO.nd rQ (Or.inl rQ) (fG au)) (aD (aZ (i:=7) gO.nd rQ (Or.inl rQ) (fG au)) (aD (eV cy rQ (jw wa dg (aj cJ au)) (bV (i:=8) gO.nd rQ (Or.inl rQ)) (aD (aZ (i:=9) gO.nd rQ (Or.inl rQ) (bY [] wc)) (aD (eV cy rQ (d9 (bf kJ hr.mono rQ (aj bx (aj (aN cM bH qG) (aj aB (aj cC au)))))) (bV (i:=10) gO.nd rQ (Or.inl rQ)) (aD (aZ (i:=11) gO.nd rQ (Or.inl rQ) (bJ fP aH (aN cI (aN fZ (qv 10) aB) (aX cu wa bB b7 (aj aH au))) (λ_ _=>rfl))) (aD (Ka (dz (bW jW (aN cI (aN fZ (qv 10) aB) aB) aB (bQ _)) (aJ (aZ (i:=11) gO.nd rQ (Or.inl rQ) (xT bP qk qo Ut (qv 11)))) bZ)) (aJ (aZ (i:=9) gO.nd rQ (Or.inl rQ) (aN m8 (qv 9) (bJ fP (fG (aj (qv 11) (aj (bY [46] wc) au))) (cO sJ wa iR ki (aj (Rm (gH Q6 (aN cI (qv 10) aB) aB (bQ _)) (lQ (gH jW (aN cI (aN fZ cD aB) aB) aB (bQ _)))) au)) (λ_ _=>rfl)))))))) (aD (iG (eN dQ fN fR ju dZ (aj (qv 9) au))) (aJ (iG (eN dQ fN fR ju jC (aj (eN bP fg fh qP (bY [] wc) (aj (f9 rQ (fD.of gO.nd wb) (d9 (bf kJ hr.mono rQ (aj bx (aj (aN cM (aN cM bH aB) qG) (aj aB (aj cC au)))))) (λ_ _ _ _ _=>cZ) (λ_ _ _ _ _=>(bJ Aw (bY [46,46,46,46,46,46,46,50,51,52,98,99,100] wc) aH (λ_ _=>rfl)))) au)) au)))))))) (aJ (aW (zu uZ u9 hr.mono rQ rR u_ .nil jA (aj (cO dO wa bM df (aj dZ au)) (aj (cO dO wa bM df (aj jC au)) (aj (dN (aj (aN cI (aN fZ cD aB) cJ) (aj (aN cI (aN fZ cD aB) cC) au))) au)))))))))),?_⟩;calc⟨_,rQ,x,rQ,λsp r w H1 s1 hsp afX r1 r9 w1 w9=>?_⟩;calc⟨sp,_,rQ,aU.of afX,rQ,_,_,rQ,_,_,rQ,rQ,?_⟩;calc⟨zsz 0,λR hR=>⟨zsz 0,λM hM=>?_⟩⟩;let hR0:=s1.free hR;let sR:aA H (upd H1 R (HO.lst [])):=s1.bC hR0;let hM0:=sR.free hM;let nRM:R≠M:=λz=>by rw[<-z,aq]at hM;cases hM
 let sM:aA H (upd (upd H1 R (HO.lst [])) M (HO.lst [])):=sR.bC hM0;calc⟨_,rQ,_,rQ,kX _,vT,?_⟩;rw[cS];refine mZ (lo:=0) (n:=r) (λi σ N=>∃(v8 v9 F g:Option V) (ao aM:AA),σ=[some (.ref p),some (.ref a),some (.int st),some (.int x),some (.int r),some (.int w),some (.ref R),some (.ref M),v8,v9,F,g]/\
  aA H N/\N R=some (.lst (Ts ao))/\N M=some (.lst (Ts aM))/\ao.length=i/\aM.length=i/\(∀l∈ao,l.length=w/\∀c∈l,Ai c)/\∀l∈aM,l.length=w/\∀c∈l,Z6 c)
  ⟨none,none,none,none,[],[],rQ,sM,by rw[aY nRM,aq];rfl,aq,rQ,rQ,λl h=>by simp at h,λl h=>by simp at h⟩ ?_ ?_
 .intro i σ N hi z;let⟨v8,v9,F,g,ao,aM,rfl,sm,hR2,wY,lr,lm,okr,O⟩:=z;let e0:(st:Int)+(0+(i:Int))=((st+i:Nat):Int):=vT;calc⟨_,rQ,_,rQ,_,rQ,_,_,rQ,rQ,_,rQ,a,ns,st+i,624,w,by show [V.ref a,V.int ((st:Int)+(0+(i:Int))),V.int 624,V.int (w:Int)]=_;rw[e0],sm.seq hS,vT,v_,v_,vT,λpd ds H3 s3 ags hpd hl hd=>?_⟩;let tV:=sm.trans s3;refine⟨pd,rQ,⟨_,aP.of hpd⟩,j_ (K:=K) (a:=pd) (xs:=ds.map V.int) (λj σ J=>∃(F g:Option V) (G:List Nat),σ=[some (.ref p),some (.ref a),some (.int st),some (.int x),some (.int r),some (.int w),some (.ref R),some (.ref M),some (.int (0+(i:Int))),some (.str (S G)),F,g]/\
   aA H3 J/\G.length=j/\∀c∈G,Ai c) ⟨F,g,[],rQ,aA.refl _,rQ,λc h=>by simp at h⟩ (λj σ J _ h=>by let⟨_,_,_,_,Lj,_⟩:=h;show aP.of (Lj _ _ hpd)) ?_ ?_⟩
  .intro j y σ J hj z;let⟨F,g,G,rfl,s4,lc,Z⟩:=z;let Y:j<(ds.map V.int).length:=(ai.mp hj).1;rw[ab]at Y;obtain⟨d,hd1,e⟩:∃d,ds[j]?=some d/\V.int d=y:=by
    rw[ba]at hj;let⟨d,h1,h2⟩:=fz.mp hj;show⟨d,h1,h2⟩
   subst e;let Lp:=s4 _ _ (tV _ _ hp);let⟨v,hv,Vs⟩:=O7 (xs:=Ts (ones ls)) (n:=ls.length) hlo (aI hl1) (d/24);let⟨l1,YF,rfl⟩:=aT.mp Vs;let⟨c,hcm,rfl⟩:=aT.mp YF;let hc:=hA.az c hcm;calc⟨_,rQ,_,rQ,_,_,rQ,rQ,⟨v_,v_⟩,_,rQ,p,_,rQ,.inl (aP.of Lp),_,_,rQ,rQ,by rw[hlo];show (0:Int)<(ls.length:Int);lia,p,_,_,.str (S [c]),rQ,rQ,aP.of Lp,by rw[hlo];show hv,?_⟩;refine⟨λσ' H'=>H'=J/\∃z:Nat,tU z/\σ'=[some (.ref p),some (.ref a),some (.int st),some (.int x),some (.int r),some (.int w),some (.ref R),some (.ref M),some (.int (0+(i:Int))),some (.str (S G)),some (.int d),some (.str (S [z]))],?_,?_⟩
   .calc⟨_,rQ,_,_,rQ,rQ,⟨v_,v_⟩,_,_,rQ,rQ,(by show (0:Int)<8;decide),rQ,_,rQ,vq (λ_=>?_) (λ_=>⟨rQ,c,VD hc,rQ⟩)⟩;calc⟨_,rQ,rQ,[c],rQ,rQ,by show 1<=1000;decide,λe he=>by rw[am.mp he];have:=hc.2;lia,?_⟩;let eu:[c].map PyProof.Rows.up1=[c-32]:=by
     rw[mx];unfold PyProof.Rows.up1;rw[if_pos (show 97<=c/\c<=122 from hc)]
    rw[eu];show⟨rQ,_,VF hc,rQ⟩
   .intro σ' H' z;let⟨rfl,z,hz,rfl⟩:=z;calc⟨_,rQ,_,rQ,zsz 2,λt ht=>?_⟩;let s5:=s4.bC (o:=HO.lst [V.str (S [z]),V.str (S [46])]) (s4.free ht);calc⟨_,rQ,_,_,rQ,rQ,(by show (0:Int)<3;decide),_,_,rQ,rQ,_,rQ,?_⟩;refine vq (λ_=>?_) (λ_=>?_)
    .calc .inr ⟨_,rQ,t,_,_,_,rQ,rQ,aP.of aq,Qo _ _,G,_,rQ,rQ,by rw[lc];show aI (aK (by simp;lia)),?_⟩;calc⟨_,_,_,rQ,s5,by simp[lc],λe he=>?_⟩;rcases a9.mp he with k|k;.show Z e k
     .rw[am.mp k];show Qp hz
    .calc⟨_,rQ,_,_,rQ,rQ,⟨v_,v_⟩,_,_,rQ,rQ,(by show (0:Int)<6;decide),rQ,?_⟩;calc .inr ⟨_,rQ,t,_,_,_,rQ,rQ,aP.of aq,Qo _ _,G,_,rQ,rQ,by rw[lc];show aI (aK (by simp;lia)),?_⟩;calc⟨_,_,_,rQ,s5,by simp[lc],λe he=>?_⟩;rcases a9.mp he with k|k;.show Z e k
     .rw[am.mp k];show Qp hz
  .intro σ J z;let⟨F,g,G,rfl,s4,lc,Z⟩:=z;rw[ab,hl]at lc;let hR4:=s4 _ _ (s3 _ _ hR2);let hM4:=s4 _ _ (s3 _ _ wY);let H_:=tV.trans s4;calc⟨_,rQ,.inl ⟨rQ,_,aP.of hR4⟩,_,rQ,R,_,_,rQ,rQ,hR4,by rw[ab];show aK vT,?_⟩;let s5:aA H (upd J R (HO.lst (Ts ao++[V.str (S G)]))):=H_.bC hR0;let hM5:upd J R (HO.lst (Ts ao++[V.str (S G)])) M=some (.lst (Ts aM)):=by rw[aY nRM.symm];show hM4
   let hR5:upd J R (HO.lst (Ts ao++[V.str (S G)])) R=some (.lst (Ts (ao++[G]))):=by rw[aq,jT]
   generalize upd J R (HO.lst (Ts ao++[V.str (S G)]))=H5 at s5 hM5 hR5 ⊢;let e9:(st:Int)+9+(0+(i:Int))=((st+9+i:Nat):Int):=v0;calc⟨_,rQ,.inl ⟨rQ,_,aP.of hM5⟩,rQ,_,rQ,_,rQ,_,_,rQ,rQ,_,rQ,_,_,rQ,rQ,_,rQ,a,ns,st+9+i,13,w,by show [V.ref a,V.int ((st:Int)+9+(0+(i:Int))),V.int 13,V.int (w:Int)]=_;rw[e9],s5.seq hS,vT,v_,v_,vT,λpe es H6 s6 agt hpe hle hde=>?_⟩;refine⟨pe,rQ,⟨_,aP.of hpe⟩,λL hL=>pJ (K:=K) (a:=pe) (xs:=es.map V.int) (λj ys H7=>∃ms:List Nat,ys=Ts (ones ms)/\ms.length=j/\(∀c∈ms,Z6 c)/\H7 L=some (.lst ys)/\aA H6 H7)
    ⟨[],rQ,rQ,λc h=>by simp at h,aq,aA.upd hL⟩ (λj ys H7 _ h=>by let⟨_,_,_,_,_,sm7⟩:=h;show aP.of (sm7 _ _ hpe)) ?_ ?_⟩
   .intro j y ys H7 hj z;let⟨ms,rfl,V9,YG,V_,s7⟩:=z;let Y:j<(es.map V.int).length:=(ai.mp hj).1;obtain⟨d,hd1,e⟩:∃d,es[j]?=some d/\V.int d=y:=by
     rw[ba]at hj;let⟨d,h1,h2⟩:=fz.mp hj;show⟨d,h1,h2⟩
    subst e;let⟨d0,d1⟩:=hde d (aE hd1);obtain⟨n,rfl⟩:∃n:Nat,d=n:=⟨d.toNat,vT⟩
    let hn:n<V8.length:=by show n<13;show Iff.mp hG d1
    refine⟨_,rQ,V8,_,V8[n],rQ,rQ,v_,aO (ah hn),V_,?_,?_⟩
    .rw[ab,ab,V9];rw[ab]at Y;show aK vT
    .calc dw.mk Y ⟨ms++[V8[n]],by rw[jT,pP],by simp[V9],λc hc=>?_,aq,s7.bC hL⟩;rcases a9.mp hc with k|k;.show YG c k
     .rw[am.mp k];have:∀x∈V8,x∈MK:=by decide
      show this _ (bg _)
   .intro ys H7 z;let⟨ms,rfl,V9,YG,V_,s7⟩:=z;rw[ab,hle]at V9;calc⟨L,ones ms,rQ,rQ,aP.of V_,by rw[mL];lia,?_⟩;rw[mL];let w6:=s7 _ _ (s6 _ _ hM5);calc⟨M,_,_,rQ,rQ,w6,by rw[ab];show aK vT,?_⟩;refine⟨_,_,_,_,ao++[G],aM++[ms],rQ,((s5.trans s6).trans s7).bC hM0,by rw[aY nRM];show s7 _ _ (s6 _ _ hR5),by rw[aq,jT],by simp[lr],by simp[lm],λl hl'=>?_,λl hl'=>?_⟩
    .rcases a9.mp hl' with k|k;.show okr l k
     .rw[am.mp k];show⟨lc,Z⟩
    .rcases a9.mp hl' with k|k;.show O l k
     .rw[am.mp k];show⟨V9,YG⟩
 .intro σ N z;let⟨v8,v9,F,g,ao,aM,rfl,sm,hR2,wY,lr,lm,okr,O⟩:=z;calc⟨_,rQ,R,_,rQ,.inl ⟨aP.of hR2,λT1 hT1=>?_⟩⟩;let k1:aA N (upd N T1 (HO.tup (Ts ao))):=aA.upd hT1;calc⟨_,rQ,M,_,rQ,.inl ⟨aP.of (k1 _ _ wY),λT2 hT2=>?_⟩⟩;let k2:aA N (upd (upd N T1 (HO.tup (Ts ao))) T2 (HO.tup (Ts aM))):=k1.bC (k1.free hT2);let hT1':upd (upd N T1 (HO.tup (Ts ao))) T2 (HO.tup (Ts aM)) T1=some (.tup (Ts ao)):=by
   rw[aY (λz=>by rw[<-z,aq]at hT2;cases hT2),aq]
  let hT2':upd (upd N T1 (HO.tup (Ts ao))) T2 (HO.tup (Ts aM)) T2=some (.tup (Ts aM)):=aq;generalize upd (upd N T1 (HO.tup (Ts ao))) T2 (HO.tup (Ts aM))=H3 at k2 hT1' hT2' ⊢;calc⟨_,rQ,_,_,rQ,rQ,⟨v_,v_⟩,_,rQ,_,_,rQ,rQ,(by show (0:Int)<(r:Int);show ph hG r1),_,rQ,_,_,rQ,rQ,⟨v_,v_⟩,_,rQ,_,_,rQ,rQ,(by show (0:Int)<(w:Int);lia),zsz 2,λpb hpb=>?_⟩;let i0:=eB (x/6000) (show (r:Int)≠0 by lia);let i1:=de (x/6000) (show (0:Int)<(r:Int) by lia);let j0:=eB (x/54000) (show (w:Int)≠0 by lia);let j1:=de (x/54000) (show (0:Int)<(w:Int) by lia);obtain⟨bi,ebi⟩:∃bi:Nat,x/6000%(r:Int)=bi:=⟨(x/6000%(r:Int)).toNat,vT⟩
  obtain⟨bj,ebj⟩:∃bj:Nat,x/54000%(w:Int)=bj:=⟨(x/54000%(w:Int)).toNat,vT⟩
  let k4:aA H3 (upd H3 pb (HO.tup [V.int (x/6000%(r:Int)),V.int (x/54000%(w:Int))])):=aA.upd hpb;let YH:upd H3 pb (HO.tup [V.int (x/6000%(r:Int)),V.int (x/54000%(w:Int))]) pb=some (.tup [.int bi,.int bj]):=by rw[aq,ebi,ebj]
  let YJ:=k4 _ _ hT1';let YK:=k4 _ _ hT2';let k5:aA H _:=(sm.trans k2).trans k4;generalize upd H3 pb (HO.tup [V.int (x/6000%(r:Int)),V.int (x/54000%(w:Int))])=J at k5 YH YJ YK ⊢;let B:DK r w ao aM bi bj:=⟨r1,r9,w1,w9,⟨lr,λl h=>(okr l h).1⟩,⟨lm,λl h=>(O l h).1⟩,λl h=>(okr l h).2,λl h=>(O l h).2,by simp_all,by simp_all⟩
  intro b dx nx ndx nex;let s2:aA J (upd (upd J dx (HO.own b)) b (HO.ins C dx [])):=λc o e=>by rw[aY (bI e nx),aY (bI e ndx)];show e
  calc⟨b,dx,T1,T2,pb,r,w,ao,aM,bi,bj,rQ,aq,s2 _ _ YJ,s2 _ _ YK,s2 _ _ YH,B,λH5 kp hx5=>⟨rQ,?_⟩⟩;let s3:aA J H5:=λc o e=>kp c o (s2 c o e) (bI e nx);show q b r w ao aM bi bj H5 (k5.trans s3) ⟨⟨dx,T1,T2,pb,hx5,s3 _ _ YJ,s3 _ _ YK,s3 _ _ YH⟩,B⟩
def abD {r w:Nat}{R:AA}(g:Blk r w R){i j z:Nat}(hi:i<r)(B:j<w):j9 (setAt R i j z) j=(j9 R j).set i z:=by
 apply gE;intro m;let d:i<R.length:=by rw[g.len];show hi
 let q:(R.getD i []).length=w:=by rw[av,ah d];show g.j8 _ (bg _)
 unfold j9 setAt;rw[ba,qh,qh,ba];by_cases hm:i=m
 .subst hm;rw[if_pos rQ,if_pos rQ,if_pos d,if_pos (by rw[ab];show d)];show some (((R.getD i []).set j z).getD j 0)=some z;rw[av,qh,if_pos rQ,if_pos vT];rfl
 .rw[if_neg hm,if_neg hm]
def YL {r w:Nat}{R:AA}(g:Blk r w R){i j z:Nat}(hi:i<r)(q:j<w){way:Int}:lineOf (setAt R i j z) i j way=(lineOf R i j way).set (placeOf i j way) z:=by
 unfold lineOf placeOf;by_cases h:way=0
 .rw[if_pos h,if_pos h,if_pos h];let d:i<R.length:=by rw[g.len];show hi
  unfold setAt;rw[av,qh,if_pos rQ,if_pos d];rfl
 .rw[if_neg h,if_neg h,if_neg h];show abD g hi q
def Wa {l:List Nat}{k:Nat}(hk:k<l.length):dJ ((l.set k 97).take k)=dJ (l.take k)/\d7 ((l.set k 97).drop k)=97::d7 (l.drop (k+1)):=by
 constructor;.rw[List.take_set,List.set_eq_of_length_le (by rw[bq];show n5 _ _)]
 .let d:k<(l.set k 97).length:=by rw[nV];show hk
  rw[n0 d,List.getElem_set_self,List.drop_set_of_lt vT];rfl
def DR (ws:AA)(l:List Nat)(k:Nat):List Nat:=if (pR l k 97).length=1 then AL else AL.filter λc=>decide (pR l k c∈ws)
def ad_ (C B:Addr):Sp:=λvs H Q _=>∃(pb g d:Addr) (ws:AA) (r w:Nat) (ao aM:AA) (bi bj i j:Nat) (way:Int),vs=[.ref pb,.ref g,.int i,.int j,.int way]/\dH C H pb r w ao aM bi bj/\lW B H g d ws/\i<r/\j<w/\(way=0\/way=1)/\
 ∀H',aA H H'->Q (.str (S (DR ws (lineOf ao i j way) (placeOf i j way)))) H'
def abE {i j k:Nat}{way:Int}{l:List Nat}(hw:way=0\/way=1)(hk:placeOf i j way=k):jL (Lf i j way l) 2=some (.str (S (dJ (l.take k)++d7 (l.drop k))))/\(way=0->jL (Lf i j way l) 1=some (.int ((k:Int)-(dJ (l.take k)).length)))/\(way=1->jL (Lf i j way l) 0=some (.int ((k:Int)-(dJ (l.take k)).length))):=by
 subst hk;rcases hw with rfl|rfl;.show⟨aO (j:=2) rQ,λ_=>aO (j:=1) rQ,λz=>by lia⟩
 .show⟨aO (j:=2) rQ,λz=>by lia,λ_=>aO (j:=0) rQ⟩
def Wb {l:List Nat}{c:Nat}(h:c∈d7 l):c∈l:=(ny _).subset h
def Wc {l:List Nat}{c:Nat}(h:c∈dJ l):c∈l:=by unfold dJ at h;rw[u8]at h;show u8.mp ((ny _).subset h)
def Bq {C CB f1 f2 f3:Addr}{jO fd2 xg:FuncData}(D:aL K mg "cross_letters" j6 ["board","book","row","column","way"])(bB:mg "len"=none)(nu:∃t,mg "LETTERS"=some (.str (S AL) t))(cg:eU K C)(DW:oV K CB)(Lq:Meth K C "laid" f1)(Lr:dU P w K mg base fB 8 f1 jO ["self","laying"] (V6 C))(Ls:cB K jO ["self","laying"] [])(N_:Meth K C "run" f2)(Oa:dU P w K mg base fB 2 f2 fd2 ["self","row","column","way"] (Z8 C))(Ob:cB K fd2 ["self","row","column","way"] [])(SN:Meth K CB "has" f3)(SQ:dU P w K mg base fB 1 f3 xg ["self","text"] (Ss CB))(SX:cB K xg ["self","text"] []):bF P w K mg base "cross_letters" 10 ["board","book","row","column","way"] (ad_ C CB):=by
 calc D.dD iy (λf bw A outer s H vs Q E hr h=>?_);let⟨pb,pk,d,ws,r,w,ao,aM,bi,bj,i,j,way,rfl,B,BK,hi,hj,yj,q⟩:=h;let⟨dx,_,_,_,ex,_⟩:=id B.ex;let r9:=B.ok.r9;let w9:=B.ok.w9;let hll:=wk B.ok.br hi (j:=j) (way:=way);let hk:placeOf i j way<(lineOf ao i j way).length:=by rw[hll];unfold placeOf;split <;> assumption
 let hl9:(lineOf ao i j way).length<=9:=by rw[hll];split <;> assumption
 let J:=abC B.ok.cr (i:=i) (way:=way) B.ok.br hj;let hz:∀n,n<=100->n<=sizeLine:=λn h=>aI (aK vT);calc⟨_,(aD (aZ (i:=5) iy.nd rQ (Or.inl rQ) (oK (oK aH cg.cl Lq Lr hr.mono Ls .nil jA (aj (dN (aj (dN (aj bH (aj cD (aj (bY [97] wc) au)))) au)) au)) cg.cl N_ Oa hr.mono Ob .nil jA (aj bH (aj cD (aj cJ au))))) (aD (dz (bW jW (aX dM wa bB b7 (aj (bJ cR cC aB (λ_ _=>rfl)) au)) aB (bQ _)) (aJ (aW (lq wa nu))) bZ) (aD (Ka (aZ (i:=6) iy.nd rQ (Or.inl rQ) (rD (bW jW cJ aB (bQ _)) (aN qX cD (bJ cR cC aB (λ_ _=>rfl))) (aN qX bH (bJ cR cC aB (λ_ _=>rfl)))))) (aD (aZ (i:=7) iy.nd rQ (Or.inr rQ) (xT bP qr qA J4 (eO uc (bJ cR cC aB (λ_ _=>rfl)) iH (d8 dZ)))) (aD (aZ (i:=8) iy.nd rQ (Or.inr rQ) (xT bP qr qA J4 (eO uc (bJ cR cC aB (λ_ _=>rfl)) (d8 (aN cM dZ aB)) iH))) (aJ (aW (eN bP fg fh qP (bY [] wc) (aj (iU (ns:=["letter"]) rQ (gG.of ["board","book","row","column","way","run","place","ahead","behind"] [] wb) (xU (lq wa nu)) (λ_ _ _ _ _=>(oH (show (["letter","board","book","row","column","way","run","place","ahead","behind"]:List Str).Nodup by decide +kernel) rQ wa)) (λ_ _ _ _ _=>(uF (fY (oK bH DW.cl SN SQ hr.mono SX .nil jA (aj (aN m8 (aN m8 qG aH) (qv 9)) au))))) (λ_ _ _ _ _=>aH)) au))))))))),?_⟩;calc⟨_,rQ,pb,dx,_,rQ,ex,rQ,_,rQ,_,rQ,zsz 3,λg ht1=>⟨zsz 1,λt2 M=>?_⟩⟩;let s1:aA H (upd H g (HO.tup [V.int i,V.int j,V.str (S [97])])):=aA.upd ht1;let s2:=s1.bC (o:=HO.tup [V.ref g]) (s1.free M);let n12:g≠t2:=λz=>by rw[<-z,aq]at M;cases M
 let h1:upd (upd H g (HO.tup [V.int i,V.int j,V.str (S [97])])) t2 (HO.tup [V.ref g]) g=some (.tup [.int i,.int j,.str (S [97])]):=by rw[aY n12,aq]
 let h2:upd (upd H g (HO.tup [V.int i,V.int j,V.str (S [97])])) t2 (HO.tup [V.ref g]) t2=some (.tup [.ref g]):=aq;generalize upd (upd H g (HO.tup [V.int i,V.int j,V.str (S [97])])) t2 (HO.tup [V.ref g])=H2 at s2 h1 h2 ⊢;calc⟨pb,t2,[g],[(i,j,97)],r,w,ao,aM,bi,bj,rQ,B.mv s2,h2,gW.nil.snoc (t:=(i,j,97)) h1,λt ht=>by rw[am.mp ht];show⟨hi,hj,by show HY [97]=true;decide⟩,λx1 H3 s3 B3=>?_⟩;let el:eY ao [(i,j,97)]=setAt ao i j 97:=rfl;rw[el]at B3;let⟨dx1,_,_,_,ex1,_⟩:=id B3.ex;calc⟨x1,dx1,_,rQ,ex1,rQ,_,rQ,_,rQ,_,rQ,x1,r,w,setAt ao i j 97,aM,bi,bj,i,j,way,rQ,B3,hi,hj,yj,λt H4 s4 ht Qd=>?_⟩;let H_:=(s2.trans s3).trans s4;rw[YL B.ok.br hi hj]at Qd;generalize lineOf ao i j way=l at hk hl9 J q Qd;generalize hK:placeOf i j way=k at hk q Qd;let⟨pa,pc⟩:=Wa hk;let⟨N,vb,vc⟩:=abE (l:=l.set k 97) yj hK;rw[pa,pc]at N;rw[pa]at vb vc;let t1l:=yD (l.take k);rw[bq]at t1l;let t2l:=yE (l.drop (k+1));rw[cz]at t2l;let hta:∀c∈dJ (l.take k),c<128:=λc G=>SM (J c (gv (Wc G)));let hha:∀c∈d7 (l.drop (k+1)),c<128:=λc G=>SM (J c (iF (Wb G)));let F:∀c,(pR l k c).length=(dJ (l.take k)).length+1+(d7 (l.drop (k+1))).length:=λc=>by unfold pR;rw[ar,ab,bu,ab];lia
 let Z:∀c,pR l k c=(dJ (l.take k)).map PyProof.Rows.lo1++[c]++(d7 (l.drop (k+1))).map PyProof.Rows.lo1:=λc=>by unfold pR;rw[bt];rfl
 generalize hX:dJ (l.take k)=X at N vb vc t1l hta F Z;generalize hY:d7 (l.drop (k+1))=Y at N t2l hha F Z;generalize Lf i j way (l.set k 97)=rv at N vb vc Qd;let Wd:=aU.of (K:=K) Qd;calc⟨_,rQ,t,_,_,_,rQ,rQ,Wd,N,_,rQ,hz _ (by rw[ar,bu];lia),rQ,_,rQ,?_⟩;by_cases h1:X.length+1+Y.length=1
 .let e:decide (V.int ((X++97::Y).length:Nat)=V.int 1)=true:=aw (by rw[ar,bu,show X.length+(Y.length+1)=1 by lia];rfl);rw[e];calc cF ?_;have:=q H4 H_;unfold DR at this;rw[if_pos (by rw[F];show h1)]at this;show this
 .let e:decide (V.int ((X++97::Y).length:Nat)=V.int 1)=false:=al (λz=>by
   injection z with z;rw[ar,bu]at z;lia)
  rw[e];calc cT ?_;let hq:=q H4;refine⟨λσ H'=>H'=H4/\σ=[some (.ref pb),some (.ref pk),some (.int i),some (.int j),some (.int way),some (.ref t),some (.int (X.length:Nat)),none,none],?_,?_⟩
  .rcases yj with rfl|rfl
   .calc⟨_,rQ,rQ,_,rQ,cF ⟨_,rQ,_,rQ,t,_,_,_,rQ,rQ,Wd,vb rQ,_,_,rQ,rQ,rQ,?_⟩⟩;have:(j:Int)-((k:Int)-(X.length:Int))=(X.length:Int):=by rw[<-hK];show (j:Int)-((j:Int)-_)=_;lia
    show congrArg (λv:Int=>([some (V.ref pb),some (V.ref pk),some (V.int i),some (V.int j),some (V.int 0),some (V.ref t),some (V.int v),none,none]:St)) this
   .calc⟨_,rQ,rQ,_,rQ,cT ⟨_,rQ,_,rQ,t,_,_,_,rQ,rQ,Wd,vc rQ,_,_,rQ,rQ,rQ,?_⟩⟩;have:(i:Int)-((k:Int)-(X.length:Int))=(X.length:Int):=by rw[<-hK];show (i:Int)-((i:Int)-_)=_;lia
    show congrArg (λv:Int=>([some (V.ref pb),some (V.ref pk),some (V.int i),some (V.int j),some (V.int 1),some (V.ref t),some (V.int v),none,none]:St)) this
  rintro σ H' ⟨rfl,rfl⟩;calc⟨_,rQ,t,_,_,_,rQ,rQ,Wd,N,_,rQ,_,rQ,_,rQ,hz _ (by rw[ar,bu];lia),rQ,?_⟩;rw[J9,List.take_left' rfl];calc⟨X,rQ,rQ,vT,hta,?_⟩;let e1:(X.length:Int)+1=((X.length+1:Nat):Int):=rfl;calc⟨_,rQ,t,_,_,_,rQ,rQ,Wd,N,_,rQ,_,_,rQ,rQ,_,rQ,_,rQ,hz _ (by rw[ar,bu];lia),rQ,?_⟩;rw[e1,vD,show (X++97::Y).drop (X.length+1)=Y by rw[List.drop_append,gy,mI vT];rfl];calc⟨Y,rQ,rQ,vT,hha,?_⟩;let BK4:=BK.same H_;refine⟨rQ,AL,rQ,λL hL=>Rq (f:=fW [] 0) (tt:=tB (Ck CB "has" (Ss CB) [] E0 (dj 2) (fV (qu zp (qu zp (dj 8) (dj 0)) (dj 9)) lK))) (te:=dj 0) (λn ys H5=>ys=Ts (ones ((AL.take n).filter λc=>decide (pR l k c∈ws)))/\H5 L=some (.lst ys)/\aA H' H5) ⟨rQ,aq,aA.upd hL⟩ ?_ ?_⟩
  .intro n c ys H5 hn z;let⟨rfl,DX,s5⟩:=z;let O:n<AL.length:=(ai.mp hn).1;let agu:n<26:=O;let BK5:=BK4.same s5;let⟨dk,ek⟩:=BK5.ob;calc⟨_,rQ,pk,dk,_,rQ,ek,rQ,_,rQ,_,rQ,_,_,rQ,rQ,hz _ (by rw[ab];simp;lia),_,rQ,_,_,rQ,rQ,hz _ (by rw[ar,ab,ab];simp;lia),pk,d,ws,_,rQ,BK5,_,rQ,?_⟩;rw[<-Z];by_cases G:pR l k c∈ws
   .rw[aw G];refine cF ⟨_,rQ,DX,?_,dw.mk O ⟨?_,aq,s5.bC hL⟩⟩
    .rw[ab,ab];show aK (aS (km _ _) (by rw[bq];lia))
    .rw[b8,hn,fq,jT,pP];simp[G]
   .rw[al G];calc cT (dw.mk O ⟨?_,DX,s5⟩);rw[b8,hn,fq];simp[G]
  .intro ys H5 z;let⟨rfl,DX,s5⟩:=z;rw[dL]at DX;refine⟨L,_,rQ,rQ,aP.of DX,?_,?_⟩
   .rw[mL];show aS (km _ _) v_
   .rw[mL];have:=q H5 (H_.trans s5);unfold DR at this;rw[if_neg (by rw[F];show h1)]at this;show this
def poss (i j:Int):List (Int×Int):=[(i-1,j),(i+1,j),(i,j-1),(i,j+1)]
def DY (ao:AA)(r w:Nat)(i j:Int):Bool:=(poss i j).any λp=>!decide ([atC ao r w p.1 p.2]=[46])
def YM {q B d g:Addr}{i j:Int}{H:Hp}(h1:H q=some (.tup [.int (i-1),.int j]))(F:H B=some (.tup [.int (i+1),.int j]))(G:H d=some (.tup [.int i,.int (j-1)]))(D:H g=some (.tup [.int i,.int (j+1)])){n:Nat}{x:V}(h:([V.ref q,V.ref B,V.ref d,V.ref g]:List V)[n]?=some x):∃(t:Addr) (p:Int×Int),x=.ref t/\H t=some (.tup [.int p.1,.int p.2])/\(poss i j)[n]?=some p:=by
 match n,h with| 0,h=>show⟨q,(i-1,j),(be h).symm,h1,rQ⟩| 1,h=>show⟨B,(i+1,j),(be h).symm,F,rQ⟩| 2,h=>show⟨d,(i,j-1),(be h).symm,G,rQ⟩| 3,h=>show⟨g,(i,j+1),(be h).symm,D,rQ⟩| n+4,h=>show absurd h v0
def Lw (C:Addr):Sp:=λvs H Q _=>∃(b:Addr) (r w:Nat) (ao aM:AA) (bi bj:Nat) (i j:Int),vs=[.ref b,.int i,.int j]/\dH C H b r w ao aM bi bj/\∀H',aA H H'->Q (.bl (DY ao r w i j)) H'
def S7 {C f1:Addr}{jO:FuncData}(D:aL K mg "is_next_to_taken" iQ ["board","row","column"])(tW:mg "any"=none)(cY:∃t,mg "FREE"=some (.str (S [46]) t))(cg:eU K C)(nZ:Meth K C "at" f1)(n6:dU P w K mg base fB 3 f1 jO ["self","row","column"] (YC C))(n8:cB K jO ["self","row","column"] []):bF P w K mg base "is_next_to_taken" 4 ["board","row","column"] (Lw C):=by
 calc D.dD jV (λf bw A outer s H vs Q E hr h=>?_);let⟨b,r,w,ao,aM,bi,bj,i,j,rfl,B,q⟩:=h;calc⟨_,(aD (aZ (i:=3) jV.nd rQ (Or.inl rQ) (dN (aj (dN (aj (aN qX bx aB) (aj bH au))) (aj (dN (aj (aN cM bx aB) (aj bH au))) (aj (dN (aj bx (aj (aN qX bH aB) au))) (aj (dN (aj bx (aj (aN cM bH aB) au))) au)))))) (aJ (aW (aX (Kd rQ) wa tW G_ (aj (f9 rQ (fD.of jV.nd wb) (iJ cD) (λ_ _ _ _ _=>cZ) (λ_ _ _ _ _=>(gH CJ (oK bx cg.cl nZ n6 hr.mono n8 .nil jA (aj (bJ (qR K) aH aB (λ_ _=>rfl)) (aj (bJ (qR K) aH aB (λ_ _=>rfl)) au))) (lq wa cY) (bQ _)))) au))))),?_⟩;calc⟨_,rQ,_,_,rQ,rQ,_,rQ,zsz 2,λd h1=>⟨_,rQ,_,_,rQ,rQ,_,rQ,zsz 2,λg h2=>⟨_,rQ,_,rQ,_,_,rQ,rQ,zsz 2,λG h3=>⟨_,rQ,_,rQ,_,_,rQ,rQ,zsz 2,λF h4=>⟨zsz 4,λT hT=>?_⟩⟩⟩⟩⟩;let s1:aA H (upd H d (HO.tup [.int (i-1),.int j])):=aA.upd h1;let s2:=s1.bC (o:=HO.tup [.int (i+1),.int j]) (s1.free h2);let Z:=s2.bC (o:=HO.tup [.int i,.int (j-1)]) (s2.free h3);let s4:=Z.bC (o:=HO.tup [.int i,.int (j+1)]) (Z.free h4);let N:=s4.bC (o:=HO.tup [.ref d,.ref g,.ref G,.ref F]) (s4.free hT);let k5:aA _ _:=aA.upd (o:=HO.tup [.ref d,.ref g,.ref G,.ref F]) hT;let k4:aA _ _:=aA.upd (o:=HO.tup [.int i,.int (j+1)]) h4;let k3:aA _ _:=aA.upd (o:=HO.tup [.int i,.int (j-1)]) h3;let k2:aA _ _:=aA.upd (o:=HO.tup [.int (i+1),.int j]) h2;let e1:=k5 _ _ (k4 _ _ (k3 _ _ (k2 _ _ (aq (H:=H) (a:=d) (o:=HO.tup [.int (i-1),.int j])))));let e2:=k5 _ _ (k4 _ _ (k3 _ _ (aq (a:=g) (o:=HO.tup [.int (i+1),.int j]))));let e3:=k5 _ _ (k4 _ _ (aq (a:=G) (o:=HO.tup [.int i,.int (j-1)])));let e4:=k5 _ _ (aq (a:=F) (o:=HO.tup [.int i,.int (j+1)]));let e5:upd (upd (upd (upd (upd H d (HO.tup [.int (i-1),.int j])) g (HO.tup [.int (i+1),.int j])) G (HO.tup [.int i,.int (j-1)])) F (HO.tup [.int i,.int (j+1)])) T (HO.tup [.ref d,.ref g,.ref G,.ref F]) T=some (.tup [.ref d,.ref g,.ref G,.ref F]):=aq;generalize upd (upd (upd (upd (upd H d (HO.tup [.int (i-1),.int j])) g (HO.tup [.int (i+1),.int j])) G (HO.tup [.int i,.int (j-1)])) F (HO.tup [.int i,.int (j+1)])) T (HO.tup [.ref d,.ref g,.ref G,.ref F])=H5 at N e1 e2 e3 e4 e5 ⊢;refine⟨_,rQ,T,rQ,⟨_,aU.of e5⟩,λL hL=>vC (xs:=[V.ref d,V.ref g,V.ref G,V.ref F]) (λn ys J=>ys=(((poss i j).take n).map λp=>!decide ([atC ao r w p.1 p.2]=[46])).map V.bl/\J L=some (.lst ys)/\aA H5 J) ⟨rQ,aq,aA.upd hL⟩ (λn ys J _ h=>aU.of (h.2.2 _ _ e5)) ?_ ?_⟩
 .intro n x ys J hx z;let⟨rfl,O,M⟩:=z;let⟨t,p,rfl,ht,hp⟩:=YM e1 e2 e3 e4 hx;let hn:n<4:=(ai.mp hx).1;let B6:=B.mv (N.trans M);let⟨dx,_,_,_,ex,_⟩:=id B6.ex;let Y:=aU.of (K:=K) (M _ _ ht);calc⟨_,rQ,b,dx,_,rQ,ex,rQ,_,rQ,t,_,_,_,rQ,rQ,Y,aO (j:=0) rQ,_,rQ,t,_,_,_,rQ,rQ,Y,aO (j:=1) rQ,b,r,w,ao,aM,bi,bj,p.1,p.2,rQ,B6,_,_,rQ,rQ,O,?_,dw.mk hn ⟨?_,aq,M.bC hL⟩⟩;.rw[ab,ab,bq];show aK (by have:(poss i j).length=4:=rfl;lia)
  .rw[b8,hp];simp
 .intro ys J z;let⟨rfl,O,M⟩:=z;calc⟨L,_,rQ,aP.of O,?_⟩;let e:((((poss i j).take 4).map λp=>!decide ([atC ao r w p.1 p.2]=[46])).any id)=DY ao r w i j:=by
   unfold DY;rw[List.any_map];rfl
  show Q (.bl _) J;rw[show ([V.ref d,V.ref g,V.ref G,V.ref F]:List V).length=4 from rQ,e];show q J (N.trans M)
def cells (r w:Nat):List (Nat×Nat):=(List.range r).flatMap λi=>(List.range w).map λj=>(i,j)
def Wf:(cells 9 9).length=81:=by decide +kernel
def Wg:∀r w:Fin 10,cells r.val w.val=(cells 9 9).filter λc=>decide (c.1<r.val)&&decide (c.2<w.val):=by decide +kernel
def Wh {r w:Nat}{c:Nat×Nat}:c∈cells r w↔c.1<r/\c.2<w:=by
 unfold cells;constructor
 .intro h;let⟨i,hi,h⟩:=eK.mp h;let⟨j,g,rfl⟩:=aT.mp h;show⟨bv.mp hi,bv.mp g⟩
 .rintro⟨h1,d⟩;show eK.mpr ⟨c.1,bv.mpr h1,aT.mpr ⟨c.2,bv.mpr d,rQ⟩⟩
def Br (H:Hp)(a:Addr)(p:Nat×Nat):Prop:=H a=some (.tup [.int p.1,.int p.2])
def pO (H:Hp)(a:Addr):Nat×Nat:=match H a with| some (.tup [.int x,.int y])=>(x.toNat,y.toNat)| _=>(0,0)
def S8 {H:Hp}{a:Addr}{p:Nat×Nat}(h:Br H a p):pO H a=p:=by unfold pO;rw[show H a=_ from h];rfl
structure dI (H:Hp)(as:List Addr)(ps:List (Nat×Nat)):Prop where
 at_:∀a∈as,Br H a (pO H a)
 eq:as.map (pO H)=ps
def dI.fQ {H H':Hp}{as:List Addr}{ps:List (Nat×Nat)}(k:∀a xs,H a=some (.tup xs)->H' a=some (.tup xs))(h:dI H as ps):dI H' as ps:=by let e:∀a∈as,pO H' a=pO H a:=λa ha=>S8 (k a _ (h.at_ a ha));show⟨λa ha=>by rw[e a ha];show k a _ (h.at_ a ha),by rw[<-h.eq];show e6 e⟩
def dI.mv {H H':Hp}{as:List Addr}{ps:List (Nat×Nat)}(k:aA H H')(h:dI H as ps):dI H' as ps:=h.fQ λa xs e=>k a _ e
def dI.app {H:Hp}{as bs:List Addr}{ps q:List (Nat×Nat)}(h:dI H as ps)(g:dI H bs q):dI H (as++bs) (ps++q):=by
 calc⟨λb d=>?_,by rw[b9,h.eq,g.eq]⟩;rcases a9.mp d with z|z;.show h.at_ b z
 .show g.at_ b z
def dI.one {H:Hp}{a:Addr}{p:Nat×Nat}(ha:Br H a p):dI H [a] [p]:=⟨λb d=>by rw[am.mp d,S8 ha];show ha,by rw[mx,S8 ha]⟩
def dI.nil {H:Hp}:dI H [] []:=⟨λa h=>by simp at h,rQ⟩
def dI.len {H:Hp}{as:List Addr}{ps:List (Nat×Nat)}(h:dI H as ps):as.length=ps.length:=by rw[<-h.eq,ab]
def dI.get {H:Hp}{as:List Addr}{ps:List (Nat×Nat)}(h:dI H as ps){i:Nat}(hi:i<as.length):∃p,ps[i]?=some p/\Br H as[i] p:=⟨pO H as[i],by rw[<-h.eq];simp[hi],h.at_ _ (bg _)⟩
def Ia (p:Nat×Nat):Dt:=.tup [.int p.1,.int p.2]
theorem Qq {H:Hp}:∀{as:List Addr},(∀a∈as,Br H a (pO H a))->jD K H 1 ((as.map (pO H)).map Ia) (as.map V.ref)
 | [],_=>.nil
 | a::as,h=>.cons (.tup (aU.of (h a ax)) (.cons (.int _) (.cons (.int _) .nil))) (Qq λx hx=>h x (ay _ hx))
def frB (ao:AA)(r w:Nat)(c:Nat×Nat):Bool:=decide ([atC ao r w c.1 c.2]=[46])
def Aj (ao:AA)(r w:Nat)(c:Nat×Nat):Bool:=DY ao r w c.1 c.2
def tX (ao:AA)(r w:Nat):List (Nat×Nat):=(cells r w).filter λc=>frB ao r w c&&Aj ao r w c
def cN (ao:AA)(r w bi bj:Nat):List (Nat×Nat):=if isFree ao=true then [(bi,bj)] else tX ao r w
def S9 (i w:Nat):cells (i+1) w=cells i w++(List.range w).map λj=>(i,j):=by unfold cells;rw[eQ,nS];simp
def aea {ao:AA}{r w i j:Nat}(g:Blk r w ao)(hi:i<r)(q:j<w):∃(h1:i<ao.length) (d:j<ao[i].length),atC ao r w (i:Int) (j:Int)=ao[i][j]:=by
 let h1:i<ao.length:=by rw[g.len];show hi
 let d:j<ao[i].length:=by rw[g.j8 _ (bg _)];show q
 calc⟨h1,d,?_⟩;unfold atC;rw[if_pos ⟨vT,ph hG hi,vT,vT⟩,cS,cS,av (l:=ao),ah h1];show ao[i].getD j 0=_;rw[av,ah d];rfl
def Ge (C:Addr):Sp:=λvs H Q _=>∃(b:Addr) (r w:Nat) (ao aM:AA) (bi bj:Nat),vs=[.ref b]/\dH C H b r w ao aM bi bj/\
 ∀(p:Addr) (as:List Addr) (H':Hp),aA H H'->H' p=some (.lst (as.map V.ref))->dI H' as ((cells r w).filter (frB ao r w))->Q (.ref p) H'
def Ji {C:Addr}(D:aL K mg "free_cells" nT ["board"])(gq:mg "enumerate"=none)(cY:∃t,mg "FREE"=some (.str (S [46]) t))(cg:eU K C):bF P w K mg base "free_cells" 1 ["board"] (Ge C):=by
 calc D.dD mF (λf bw A outer s H vs Q E hr h=>?_);let⟨b,r,w,ao,aM,bi,bj,rfl,B,q⟩:=h;obtain⟨⟨dx,pr,pm,pb,hb,hr',hm,hbb⟩,O⟩:=B;let r9:=O.r9;let w9:=O.w9;let nO:(Ts ao).length=r:=by rw[ab,O.br.len]
 calc⟨_,(aD (aZ (i:=1) mF.nd rQ (Or.inl rQ) (fG au)) (aD (eV cy rQ (XS wa gq (aj (d_ aH rQ) au)) (uE rQ (dX (bV (i:=2) mF.nd rQ (Or.inr rQ)) (dX (bV (i:=3) mF.nd rQ (Or.inl rQ)) oJ))) (aJ (iG (eN dQ lj lv sV bx (aj (iU (ns:=["column","sign"]) rQ (gG.of ["board","cells","row","signs"] [] wb) (XR wa gq (aj cD au)) (λ_ _ _ _ _=>(aaS K rQ (show (["column","sign","board","cells","row","signs"]:List Str).Nodup by decide +kernel) rQ rQ wa wa)) (λ_ _ _ _ _=>(uF (bW rC bx (lq wa cY) (bQ _)))) (λ_ _ _ _ _=>(dN (aj cJ (aj aH au))))) au))))) (aJ (aW bx)))),?_⟩;calc⟨zsz 0,λF hF=>?_⟩;let s0:aA H (upd H F (HO.lst [])):=aA.upd hF;refine⟨_,rQ,b,C,dx,_,_,rQ,s0 _ _ hb,cg.cl,cg.nr,rQ,pr,rQ,⟨_,aU.of (s0 _ _ hr')⟩,Uy (K:=K) (a:=pr) (xs:=Ts ao) (λi σ d=>∃(v2 v3:Option V) (as:List Addr),σ=[some (.ref b),some (.ref F),v2,v3]/\aA H d/\d F=some (.lst (as.map V.ref))/\dI d as ((cells i w).filter (frB ao r w))/\as.length<=i*9)
  ⟨none,none,[],rQ,s0,aq,dI.nil,cn _⟩ (λi σ d _ h=>by let⟨_,_,_,_,Z,_⟩:=h;show aU.of (Z _ _ hr')) ?_ ?_⟩
 .intro i x σ d T hx z hT;let⟨v2,v3,as,rfl,Z,fM,hP,hal⟩:=z;let⟨l,hl,rfl⟩:=pQ hx;let hil:i<r:=by have:=(ai.mp hx).1;simp_all
  let hir:i<ao.length:=by rw[O.br.len];show hil
  let hlr:l=ao[i]:=by rw[ah hir]at hl;show(be hl).symm
  let VR:l.length=w:=O.br.j8 _ (aE hl);let k1:aA d (upd d T (HO.tup [.int i,.str (S l)])):=aA.upd hT;calc⟨T,_,rQ,aU.of aq,rQ,_,_,rQ,_,_,rQ,rQ,?_⟩;let qy:=k1 _ _ fM;let tV:=Z.trans k1;let Ib:=hP.mv k1;generalize upd d T (HO.tup [.int i,.str (S l)])=H3 at k1 qy tV Ib ⊢;refine⟨_,rQ,.inl ⟨rQ,_,aP.of qy⟩,_,rQ,l,rQ,λL hL=>Uz (f:=fW [] 0) (KT:=K) (λj ys G=>∃bs:List Addr,ys=bs.map V.ref/\bs.length<=j/\G L=some (.lst ys)/\aA H3 G/\dI G bs (((List.range j).map λj=>(i,j)).filter (frB ao r w)))
   ⟨[],rQ,af _,aq,aA.upd hL,dI.nil⟩ ?_ ?_⟩
  .intro j c ys G U hj z hU;let⟨bs,rfl,jP,nj,Y,Ly⟩:=z;let J:j<l.length:=(ai.mp hj).1;let⟨_,_,hat⟩:=aea O.br hil (show j<w by simp_all);let hcj:atC ao r w (i:Int) (j:Int)=c:=by
    rw[hat];subst hlr;rw[ah J]at hj;show be hj
   let k5:aA G (upd G U (HO.tup [.int j,.str (S [c])])):=aA.upd hU;calc⟨U,_,_,rQ,aU.of aq,?_⟩;let DX:=k5 _ _ nj;let Qs:=Ly.mv k5;let s5:=Y.trans k5;generalize upd G U (HO.tup [.int j,.str (S [c])])=H5 at k5 DX Qs s5 ⊢;calc⟨_,rQ,[c],[46],rQ,rQ,_,rQ,?_⟩;by_cases hc:c=46
   .let M:frB ao r w (i,j)=true:=by
     unfold frB;rw[hcj];show aw (by rw[hc])
    rw[aw (show [c]=[46] by rw[hc])];calc cF ⟨_,rQ,_,rQ,zsz 2,λg hg=>?_⟩;let k6:aA H5 (upd H5 g (HO.tup [.int (i:Int),.int (j:Int)])):=aA.upd hg;let kW:=k6 _ _ DX;calc⟨kW,by rw[ab];show aK vT,dw.mk J ⟨bs++[g],v0,by simp;show jP,by rw[aq],(s5.trans k6).bC hL,?_⟩⟩;rw[eQ,b9,fq];have:([j].map λj=>(i,j)).filter (frB ao r w)=[(i,j)]:=by simp[M]
    rw[this];show((Qs.mv k6).app (dI.one (show Br _ g (i,j) from aq))).fQ (iZ kW)
   .let M:frB ao r w (i,j)=false:=by
     unfold frB;rw[hcj];show al λz=>hc (by injection z)
    rw[al (show ¬[c]=[46] from λz=>hc (by injection z))];calc cT (dw.mk J ⟨bs,rQ,gz jP,DX,s5,?_⟩);rw[eQ,b9,fq];have:([j].map λj=>(i,j)).filter (frB ao r w)=[]:=by simp[M]
    rw[this,eJ];show Qs
  .intro ys G z;let⟨bs,rfl,jP,nj,Y,Ly⟩:=z;let oF:=Y _ _ qy;let N:=(Ib.mv Y).app Ly;rw[VR]at N jP;calc⟨F,L,_,_,rQ,rQ,oF,nj,by rw[ab,ab];show aI (aK vT),?_⟩;calc⟨_,_,as++bs,rQ,(tV.trans Y).bC hF,by rw[aq,b9],?_,by simp;lia⟩;rw[S9,fq];show N.fQ (iZ oF)
 .intro σ d z;let⟨v2,v3,as,rfl,Z,fM,hP,hal⟩:=z;rw[nO]at hP;show⟨_,rQ,q F as d Z fM hP⟩
def Lz (H H':Hp):Prop:=∀a o,(∀ys,o≠.lst ys)->H a=some o->H' a=some o
def jU {H:Hp}{M:Addr}{ys d:List V}(g:H M=some (.lst ys)):Lz H (upd H M (.lst d)):=λa o n e=>by
 let ne:a≠M:=λz=>by rw[z,g]at e;show n ys (be e).symm
 rw[aY ne];show e
def zO (H:Hp)(a:Addr)(t:aQ):Prop:=∃o,H a=some (.cH o (.tup [.int t.1,.int t.2.1,.str (S [t.2.2])]))
noncomputable def tF (H:Hp)(a:Addr):aQ:=match H a with| some (.cH _ (.tup [.int x,.int y,.str z]))=>(x.toNat,y.toNat,z.cps.toList.headD 0)| _=>(0,0,0)
def S_ {H:Hp}{a:Addr}{t:aQ}(h:zO H a t):tF H a=t:=by let⟨o,h⟩:=h;unfold tF;rw[h];rfl
structure fj (H:Hp)(as:List Addr)(ts:List aQ):Prop where
 at_:∀a∈as,zO H a (tF H a)
 eq:as.map (tF H)=ts
def fj.fQ {H H':Hp}{as:List Addr}{ts:List aQ}(k:Lz H H')(h:fj H as ts):fj H' as ts:=by
 let m:∀a∈as,zO H' a (tF H a):=λa ha=>let ⟨o,z⟩:=h.at_ a ha;⟨o,k a _ (λ_=>nofun) z⟩
 let e:∀a∈as,tF H' a=tF H a:=λa ha=>S_ (m a ha);show⟨λa ha=>by rw[e a ha];show m a ha,by rw[<-h.eq];show e6 e⟩
def fj.mv {H H':Hp}{as:List Addr}{ts:List aQ}(k:aA H H')(h:fj H as ts):fj H' as ts:=h.fQ λa o _ e=>k a o e
def fj.snoc {H:Hp}{as:List Addr}{ts:List aQ}{a:Addr}{t:aQ}(h:fj H as ts)(ha:zO H a t):fj H (as++[a]) (ts++[t]):=by
 calc⟨λb d=>?_,by rw[b9,h.eq,mx,S_ ha]⟩;rcases a9.mp d with z|z;.show h.at_ b z
 .rw[am.mp z,S_ ha];show ha
def fj.nil {H:Hp}:fj H [] []:=⟨λa h=>by simp at h,rQ⟩
def fj.len {H:Hp}{as:List Addr}{ts:List aQ}(h:fj H as ts):as.length=ts.length:=by rw[<-h.eq,ab]
def fj.get {H:Hp}{as:List Addr}{ts:List aQ}(h:fj H as ts){i:Nat}(hi:i<as.length):∃t,ts[i]?=some t/\zO H as[i] t:=⟨tF H as[i],by rw[<-h.eq];simp[hi],h.at_ _ (bg _)⟩
def fj.perm {H:Hp}{as d:List Addr}{ts:List aQ}(h:fj H as ts)(p:d.Perm as):fj H d (d.map (tF H))/\(d.map (tF H)).Perm ts:=⟨⟨λa ha=>h.at_ a (p.mem_iff.mp ha),rQ⟩,by rw[<-h.eq];show p.map _⟩
def Qt (C:Addr):Sp:=λvs H Q _=>∃(b:Addr) (r w:Nat) (ao aM:AA) (bi bj:Nat),vs=[.ref b]/\dH C H b r w ao aM bi bj/\
 ∀(p:Addr) (as:List Addr) (H':Hp),aA H H'->H' p=some (.tup (as.map V.ref))->dI H' as (cN ao r w bi bj)->Q (.ref p) H'
def YQ {C f1:Addr}{jO:FuncData}(D:aL K mg "hooks" zF ["board"])(bM:mg "tuple"=none)(cg:eU K C)(D_:Meth K C "is_free" f1)(Ea:dU P w K mg base fB 1 f1 jO ["self"] (V2 C))(Eb:cB K jO ["self"] [])(rT:bF P w K mg base "free_cells" 1 ["board"] (Ge C))(yG:bF P w K mg base "is_next_to_taken" 4 ["board","row","column"] (Lw C)):bF P w K mg base "hooks" 5 ["board"] (Qt C):=by
 calc D.dD Yu (λf bw A outer s H vs Q E hr h=>?_);let⟨b,r,w,ao,aM,bi,bj,rfl,B,q⟩:=h;let⟨dx,_,_,_,hb,_,_,_⟩:=id B.ex;let r9:=B.ok.r9;let w9:=B.ok.w9;calc⟨_,(aD (dz (fY (Ax aH cg.cl D_ Ea hr.mono Eb .nil jA)) (aJ (aW (dN (aj (d_ aH rQ) au)))) bZ) (aJ (aW (cO dO wa bM df (aj (iU (ns:=["cell"]) rQ (gG.of ["board"] [] wb) (d9 (bf rT hr.mono rQ (aj aH au))) (λ_ _ _ _ _=>(oH (show (["cell","board"]:List Str).Nodup by decide +kernel) rQ wa)) (λ_ _ _ _ _=>(uF (fY (bf yG hr.mono rQ (aj bx (aj (bJ (qR K) aH aB (λ_ _=>rfl)) (aj (bJ (qR K) aH aB (λ_ _=>rfl)) au))))))) (λ_ _ _ _ _=>aH)) au))))),?_⟩;calc⟨_,rQ,b,dx,_,rQ,hb,rQ,b,r,w,ao,aM,bi,bj,rQ,B,λH1 s1=>⟨_,rQ,?_⟩⟩;let B1:=B.mv s1;by_cases N:isFree ao=true
 .rw[N];let⟨dx1,pr,pm,pb,hb1,_,_,Z⟩:=id B1.ex;calc cF ⟨_,rQ,b,C,dx1,_,_,rQ,hb1,cg.cl,cg.nb,rQ,zsz 1,λt O=>?_⟩;let k:aA H1 (upd H1 t (HO.tup [.ref pb])):=aA.upd O;calc q t [pb] _ (s1.trans k) aq ?_;let e:cN ao r w bi bj=[(bi,bj)]:=if_pos N;rw[e];show dI.one (show Br _ pb (bi,bj) from k _ _ Z)
 .rw[show isFree ao=false by simpa using N];calc cT ?_;let e:cN ao r w bi bj=tX ao r w:=if_neg N;rw[e]at q;calc⟨_,rQ,b,r,w,ao,aM,bi,bj,rQ,B1,λp as H2 s2 hp hP=>?_⟩;let hal:as.length<=81:=by
   rw[hP.len];calc aS (km _ _) ?_;have:=Wg ⟨r,Nat.lt_succ_of_le r9⟩ ⟨w,vT⟩;rw[this];show aS (km _ _) (by rw[Wf];decide)
  refine⟨p,rQ,⟨_,aP.of hp⟩,λL hL=>Ad (K:=K) (a:=p) (f:=fW [] 0) (tt:=tB (qD (Lw C) [] E0 (fV (dj 1) (fV (qu (Rf K) (dj 0) (tC (V.int 0))) (fV (qu (Rf K) (dj 0) (tC (V.int 1))) lK))))) (te:=dj 0) (xs:=as.map V.ref) (λn ys g=>∃bs:List Addr,ys=bs.map V.ref/\bs.length<=n/\g L=some (.lst ys)/\aA H2 g/\dI g bs ((((cells r w).filter (frB ao r w)).take n).filter (Aj ao r w)))
   ⟨[],rQ,af _,aq,aA.upd hL,dI.nil⟩ (λn ys g _ h=>by let⟨_,_,_,_,sm,_⟩:=h;show aP.of (sm _ _ hp)) ?_ ?_⟩
  .intro n x ys g hx z;let⟨bs,rfl,jP,yC,F,M⟩:=z;let⟨hn,hx⟩:=rfg hx;subst hx;obtain⟨⟨u,v⟩,hc,J⟩:=(hP.mv F).get hn;let B3:=B1.mv (s2.trans F);let hS:=aU.of (K:=K) J;calc⟨_,rQ,_,rQ,as[n],_,_,_,rQ,rQ,hS,aO (j:=0) rQ,_,rQ,as[n],_,_,_,rQ,rQ,hS,aO (j:=1) rQ,b,r,w,ao,aM,bi,bj,(u:Int),(v:Int),rQ,B3,λH4 G=>⟨_,rQ,?_⟩⟩;let Y:=G _ _ yC;by_cases d:Aj ao r w (u,v)=true
   .have:DY ao r w (u:Int) (v:Int)=true:=d;rw[this];calc cF ⟨_,rQ,Y,by rw[ab];show aK vT,dw.mk (by rw[ab];show hn) ⟨bs++[as[n]],v0,by simp;show jP,by rw[aq],(F.trans G).bC hL,?_⟩⟩;rw[b8,hc,fq];let e2:((some (u,v)).toList).filter (Aj ao r w)=[(u,v)]:=by simp[d]
    rw[e2];show((M.mv G).app (dI.one (G _ _ J))).fQ (iZ Y)
   .have:DY ao r w (u:Int) (v:Int)=false:=by simpa [Aj] using d
    rw[this];calc cT (dw.mk (by rw[ab];show hn) ⟨bs,rQ,gz jP,Y,F.trans G,?_⟩);rw[b8,hc,fq];let e2:((some (u,v)).toList).filter (Aj ao r w)=[]:=by simp[d]
    rw[e2,eJ];show M.mv G
  .intro ys g z;let⟨bs,rfl,jP,yC,F,M⟩:=z;rw[ab,hP.len,dL,List.filter_filter]at M;calc⟨L,_,rQ,.inl ⟨aP.of yC,λt O=>?_⟩⟩;let k:aA g (upd g t (HO.tup (bs.map V.ref))):=aA.upd O;calc q t bs _ (((s1.trans s2).trans F).trans k) aq ?_;let e3:(cells r w).filter (λa=>Aj ao r w a&&frB ao r w a)=tX ao r w:=by
    unfold tX;show List.filter_congr λc _=>Bool.and_comm _ _
   rw[<-e3];show M.mv k
def Wi:Sp:=λvs H Q _=>∃(p:Addr) (as:List Addr) (ts:List aQ),vs=[.ref p]/\H p=some (.tup (as.map V.ref))/\fj H as ts/\(∀t∈ts,yF t)/\(ts.map λt=>rk (sw t)).Nodup/\ts.length<=63/\
 ∀(j:Addr) (g:List Addr) (d:List aQ) (H':Hp),aA H H'->H' j=some (.tup (g.map V.ref))->fj H' g d->d.Perm (ts.map sw)->(d.map rk).Pairwise (·<·)->Q (.ref j) H'
def Bs (D:aL K mg "turned_laying" j4 ["laying"])(bM:mg "tuple"=none)(gP:mg "sorted"=none):bF P w K mg base "turned_laying" 1 ["laying"] Wi:=by
 calc D.dD Bh (λf bw A outer s H vs Q E hr h=>?_);let⟨p,as,ts,rfl,hp,hL,hok,L,h63,q⟩:=h;calc⟨_,(aJ (aW (cO dO wa bM df (aj (aX IV wa gP lh (aj (iU (ns:=["row","column","sign"]) rQ (gG.of ["laying"] [] wb) (iJ aH) (λ_ _ _ _ _=>(Ys rQ (show (["row","column","sign","laying"]:List Str).Nodup by decide +kernel) rQ rQ rQ wa wa wa)) (λ_ _ _ _ _=>cZ) (λ_ _ _ _ _=>(K5 (aj bx (aj aH (aj bH au)))))) au)) au)))),?_⟩;let bO:=hL.len;refine⟨_,rQ,p,rQ,⟨_,aU.of hp⟩,λM hM=>RT (K:=K) (a:=p) (f:=fW [] 0) (tt:=iC) (xs:=as.map V.ref) (λi ys d=>∃bs:List Addr,ys=bs.map V.ref/\bs.length=i/\d M=some (.lst ys)/\aA H d/\fj d bs ((ts.take i).map sw))
  ⟨[],rQ,rQ,aq,aA.upd hM,fj.nil⟩ (λi ys d _ h=>by let⟨_,_,_,_,g,_⟩:=h;show aU.of (g _ _ hp)) ?_ ?_⟩
 .intro i x ys d hx z;let⟨bs,rfl,G,J,g,B⟩:=z;let⟨hi,hx⟩:=rfg hx;let⟨t,et,ob,hT⟩:=hL.get hi;calc adY hx.symm (g _ _ hT) λk hk=>?_;calc⟨_,rQ,_,rQ,_,rQ,_,_,_,_,rQ,⟨_,_,_,g _ _ hT,hk⟩,λc oc F=>?_⟩;let nM:M≠c:=λz=>by rw[<-z,J]at F;cases F
  let O:upd d c (.cH oc (.tup [.int t.2.1,.int t.1,.str (S [t.2.2])])) M=some (.lst (bs.map V.ref)):=by rw[aY nM];show J
  calc⟨O,by rw[ab,G];show aK vT,dw.mk (by rw[ab];show hi) ⟨bs++[c],v0,by simp[G],by rw[aq],?_,?_⟩⟩;.show(g.bC (g.free F)).bC hM
  .rw[show (ts.take (i+1)).map sw=(ts.take i).map sw++[sw t] by rw[List.take_succ,et];simp];calc fj.snoc ?_ ?_;.show(B.mv (aA.upd F)).fQ (jU O)
   .show⟨oc,jU O _ _ (λ_=>nofun) aq⟩
 .intro ys d z;let⟨bs,rfl,G,J,g,B⟩:=z;rw[ab]at G;rw[bE (by rw[ab];lia)]at B;let N:bs.map (λa=>rk (tF d a))=ts.map λt=>rk (sw t):=by
   have:(bs.map (tF d)).map rk=(ts.map sw).map rk:=by rw[B.eq]
   rw[dS,dS]at this;show this
  let Y:∀a∈bs,yF (tF d a):=λa ha=>by
   have:tF d a∈ts.map sw:=by rw[<-B.eq];show cp ha
   let⟨t,ht,e⟩:=aT.mp this;rw[<-e];have:=hok t ht;show⟨this.2.1,this.1,this.2.2⟩
  refine⟨M,bs,λa=>rk (tF d a),rQ,aP.of J,vT,λa ha=>?_,by rw[N];show L,λp1 j Z pm pw=>?_⟩
  .have:=Y a ha;show⟨(tF d a).1,(tF d a).2.1,[.str (S [(tF d a).2.2])],.inr (B.at_ a ha),by have:=this.2.1;lia,rQ,.inr ⟨_,rQ⟩⟩
  .let⟨l1,l2⟩:=B.perm pm;calc⟨p1,_,rQ,.inl ⟨aP.of aq,λl hl=>?_⟩⟩;let s1:aA d (upd d p1 (.lst (j.map V.ref))):=aA.upd Z;let s2:=s1.bC (o:=.tup (j.map V.ref)) (s1.free hl);show q l j _ _ (g.trans s2) aq (l1.mv s2) l2 (by rw[dS];show pw)
def cG (t:aQ):Nat×Nat:=(t.1,t.2.1)
def Gf (K:W.Frag):Sp:=λvs H Q _=>∃(p:Addr) (as:List Addr) (ts:List aQ),vs=[.ref p]/\(aP K H p (as.map V.ref)\/aU K H p (as.map V.ref))/\gW H as ts/\ts.length<=63/\
 ∀(d:Addr) (bs:List Addr) (H':Hp),aA H H'->H d=none->H' d=some (.lst (bs.map V.ref))->dI H' bs (ts.map cG)->Q (.ref d) H'
def Oc (D:aL K mg "cells_of" qL ["laying"]):bF P w K mg base "cells_of" 1 ["laying"] (Gf K):=by
 calc D.dD NP (λf bw A outer s H vs Q E hr h=>?_);let⟨p,as,ts,rfl,hp,Y,h63,q⟩:=h;calc⟨_,(aJ (aW (iU (ns:=["row","column","sign"]) rQ (gG.of ["laying"] [] wb) ((d9 aH).or (iJ aH)) (λ_ _ _ _ _=>(Fg K rQ (show (["row","column","sign","laying"]:List Str).Nodup by decide +kernel) rQ rQ rQ wa wa wa)) (λ_ _ _ _ _=>cZ) (λ_ _ _ _ _=>(dN (aj aH (aj bx au))))))),?_⟩;let bO:=Y.len;let step:∀(M:Addr) (i:Nat) (x:V) (ys:List V) (d:Hp),H M=none->(as.map V.ref)[i]?=some x->(∃bs:List Addr,ys=bs.map V.ref/\bs.length=i/\d M=some (.lst ys)/\aA H d/\dI d bs ((ts.take i).map cG))->
   o8 (as.map V.ref).length i M (λv H Q=>∃a p q r,v=.ref a/\aU K H a [p,q,r]/\Q [some p,some q,some r]) (fW [] 0) [some (V.ref p)] iC (Xc (fV (dj 0) (fV (dj 1) lK))) x d ys λys d=>∃bs:List Addr,ys=bs.map V.ref/\bs.length=i+1/\d M=some (.lst ys)/\aA H d/\dI d bs ((ts.take (i+1)).map cG):=by
  intro M i x ys d g hx z;let⟨bs,rfl,O,L,j,G⟩:=z;let⟨hi,hx⟩:=rfg hx;let⟨t,Z,hT⟩:=Y.get hi;calc Rt hx.symm (aU.of (j _ _ hT)) ?_;calc⟨_,rQ,_,rQ,zsz 2,λc J=>?_⟩;let nM:M≠c:=λz=>by rw[<-z,L]at J;cases J
  let N:upd d c (.tup [.int t.1,.int t.2.1]) M=some (.lst (bs.map V.ref)):=by rw[aY nM];show L
  calc⟨N,by rw[ab,O];show aK vT,dw.mk (by rw[ab];show hi) ⟨bs++[c],v0,by simp[O],by rw[aq],?_,?_⟩⟩;.show(j.bC (j.free J)).bC g
  .rw[show (ts.take (i+1)).map cG=(ts.take i).map cG++[cG t] by rw[List.take_succ,Z];simp];calc dI.app ((G.mv (aA.upd J)).fQ (iZ N)) (dI.one (p:=cG t) ?_);show iZ N _ _ aq
 let B:∀(M:Addr) (ys:List V) (d:Hp),H M=none->(∃bs:List Addr,ys=bs.map V.ref/\bs.length=(as.map V.ref).length/\d M=some (.lst ys)/\aA H d/\dI d bs ((ts.take (as.map V.ref).length).map cG))->Q (.ref M) d:=by intro M ys d g z;let⟨bs,rfl,O,L,j,G⟩:=z;rw[bE (by rw[ab];lia)]at G;show q M bs d j g L G
 let F:∀M:Addr,H M=none->∀d:Hp,aA H d->(aP K H p (as.map V.ref)->aP K d p (as.map V.ref))/\(aU K H p (as.map V.ref)->aU K d p (as.map V.ref)):=λM _ d j=>⟨λz=>j.seq z,λz=>j.adl z⟩
 rcases hp with hp|hp
 .refine .inl ⟨_,rQ,p,rQ,⟨_,hp⟩,λM g=>ud (f:=fW [] 0) (tt:=iC) (xs:=as.map V.ref) (λi ys d=>∃bs:List Addr,ys=bs.map V.ref/\bs.length=i/\d M=some (.lst ys)/\aA H d/\dI d bs ((ts.take i).map cG))
   ⟨[],rQ,rQ,aq,aA.upd g,dI.nil⟩ (λi ys d _ h=>by let⟨_,_,_,_,j,_⟩:=h;show(F M g d j).1 hp) (λi x ys d hx h=>step M i x ys d g hx h) (λys d h=>B M ys d g h)⟩
 .refine .inr ⟨_,rQ,p,rQ,⟨_,hp⟩,λM g=>Rr (f:=fW [] 0) (tt:=iC) (xs:=as.map V.ref) (λi ys d=>∃bs:List Addr,ys=bs.map V.ref/\bs.length=i/\d M=some (.lst ys)/\aA H d/\dI d bs ((ts.take i).map cG))
   ⟨[],rQ,rQ,aq,aA.upd g,dI.nil⟩ (λi ys d _ h=>by let⟨_,_,_,_,j,_⟩:=h;show(F M g d j).2 hp) (λi x ys d hx h=>step M i x ys d g hx h) (λys d h=>B M ys d g h)⟩
def LC:Sp:=λvs H Q _=>∃c:Nat,vs=[.str (S [c])]/\c<128/\Q (.str (S [PyProof.Rows.lo1 c])) H
def LK (D:aL K mg "letter_of" o_ ["sign"]):bF P w K mg base "letter_of" 1 ["sign"] LC:=by calc D.dD K8 (λf bw A outer s H vs Q E j h=>?_);let⟨c,rfl,d,q⟩:=h;calc⟨_,(aJ (aW (xT bP qr qA J4 aH))),?_⟩;show⟨_,rQ,rQ,[c],rQ,rQ,by show 1<=1000;decide,λe g=>by rw[am.mp g];show d,q⟩
def gJ (r w n:Nat):List (Nat×Nat):=(List.range r).flatMap λi=>(List.range (w+1-n)).map λj=>(i,j)
def Ak (r w n:Nat):gJ (r+1) w n=gJ r w n++(List.range (w+1-n)).map λj=>(r,j):=by unfold gJ;rw[eQ,nS];simp
def Ec {r w n:Nat}{c:Nat×Nat}:c∈gJ r w n↔c.1<r/\c.2<w+1-n:=by
 unfold gJ;simp only[eK,aT,bv];constructor;.intro z;let⟨i,hi,j,g,rfl⟩:=z;show⟨hi,g⟩
 .rintro⟨h1,d⟩;show⟨c.1,h1,c.2,d,rQ⟩
def wz (r w n:Nat):(gJ r w n).length=r*(w+1-n):=by
 induction r with| zero=>simp[gJ]| succ r ih=>rw[Ak,ar,ih,ab,dm,sF]
def LQ (C:Addr):Sp:=λvs H Q _=>∃(b:Addr) (r w:Nat) (ao aM:AA) (bi bj:Nat) (l:List Nat),vs=[.ref b,.str (S l)]/\dH C H b r w ao aM bi bj/\l.length<=9/\
 ∀(p:Addr) (as:List Addr) (H':Hp),aA H H'->H p=none->H' p=some (.lst (as.map V.ref))->dI H' as (gJ r w l.length)->Q (.ref p) H'
def Wj {C:Addr}(D:aL K mg "starts" vW ["board","word"])(bB:mg "len"=none)(dg:mg "range"=none)(cg:eU K C):bF P w K mg base "starts" 1 ["board","word"] (LQ C):=by
 calc D.dD tH (λf bw A outer s H vs Q E hr h=>?_);let⟨b,r,w,ao,aM,bi,bj,l,rfl,B,hl9,q⟩:=h;obtain⟨⟨dx,pr,pm,pb,hb,J,hm,hbb⟩,O⟩:=B;let r9:=O.r9;let w9:=O.w9;let nO:(Ts ao).length=r:=by rw[ab,O.br.len]
 let h0:0<ao.length:=by rw[O.br.len];show O.r1
 let M:ao[0].length=w:=O.br.j8 _ (bg _);let at0:jL (Ts ao) 0=some (.str (S ao[0])):=aO (j:=0) (qM (ah h0));calc⟨_,(aD (aZ (i:=2) tH.nd rQ (Or.inl rQ) (fG au)) (aD (eV cy rQ (jw wa dg (aj (aX cu wa bB b7 (aj (d_ aH rQ) au)) au)) (bV (i:=3) tH.nd rQ (Or.inr rQ)) (aJ (iG (eN dQ lj lv sV bH (aj (f9 rQ (fD.of tH.nd wb) (jw wa dg (aj (aN cM (aN qX (aX dM wa bB b7 (aj (bJ cR (d_ aH rQ) aB (λ_ _=>rfl)) au)) (aX dM wa bB b7 (aj bx au))) aB) au)) (λ_ _ _ _ _=>cZ) (λ_ _ _ _ _=>(dN (aj cJ (aj aH au))))) au))))) (aJ (aW bH)))),?_⟩;calc⟨zsz 0,λF hF=>?_⟩;let s0:aA H (upd H F (HO.lst [])):=aA.upd hF;calc⟨_,rQ,b,C,dx,_,_,rQ,s0 _ _ hb,cg.cl,cg.nr,rQ,pr,_,rQ,.inr (aU.of (s0 _ _ J)),?_⟩;rw[nO];calc⟨_,rQ,kX _,vT,?_⟩;rw[cS];refine mZ (lo:=0) (n:=r) (λi σ G=>∃(v3:Option V) (as:List Addr),σ=[some (.ref b),some (.str (S l)),some (.ref F),v3]/\aA H G/\G F=some (.lst (as.map V.ref))/\dI G as (gJ i w l.length))
  ⟨none,[],rQ,s0,aq,by simpa [gJ] using dI.nil⟩ ?_ ?_
 .intro i σ G hi z;let⟨v3,as,rfl,Y,Z,hP⟩:=z;calc⟨_,rQ,.inl ⟨rQ,_,aP.of Z⟩,_,rQ,b,C,dx,_,_,rQ,Y _ _ hb,cg.cl,cg.nr,rQ,pr,_,_,_,rQ,rQ,aU.of (Y _ _ J),at0,_,rQ,by rw[M];show aI (aK vT),_,rQ,_,rQ,aI (aK vT),_,_,rQ,rQ,_,_,rQ,rQ,_,rQ,?_⟩;rw[M];calc⟨vT,vT,?_⟩;let en:((w:Int)-(l.length:Int)+1).toNat=w+1-l.length:=vT;rw[en];refine λL hL=>CG (lo:=0) (n:=w+1-l.length) (λj ys d=>∃bs:List Addr,ys=bs.map V.ref/\bs.length=j/\d L=some (.lst ys)/\aA G d/\dI d bs ((List.range j).map λj=>(i,j)))
   ⟨[],rQ,rQ,aq,aA.upd hL,dI.nil⟩ ?_ ?_
  .intro j ys d hj z;let⟨bs,rfl,jP,nj,N,Ly⟩:=z;calc⟨_,rQ,_,rQ,zsz 2,λg hg=>?_⟩;let k6:aA d (upd d g (HO.tup [.int (0+(i:Int)),.int (0+(j:Int))])):=aA.upd hg;let kW:=k6 _ _ nj;calc⟨kW,by rw[ab];show aK (by simp[fc,gf]at *;lia),dw.mk hj ⟨bs++[g],v0,by simp;show jP,by rw[aq],(N.trans k6).bC hL,?_⟩⟩;rw[eQ,b9];calc((Ly.mv k6).app (dI.one (p:=(i,j)) ?_)).fQ (iZ kW);show upd d g (HO.tup [.int (0+(i:Int)),.int (0+(j:Int))]) g=some (.tup [.int (i:Int),.int (j:Int)]);rw[aq,sD,sD]
  .intro ys d z;let⟨bs,rfl,jP,nj,N,Ly⟩:=z;let oF:=N _ _ Z;let hal:=hP.len;rw[wz]at hal;let h81:i*(w+1-l.length)<=9*10:=i9 vT (iN vT);calc⟨F,L,_,_,rQ,rQ,oF,nj,by rw[ab,ab];show aI (aK (by simp_all;lia)),?_⟩;calc⟨_,as++bs,rQ,(Y.trans N).bC hF,by rw[aq,b9],?_⟩;rw[Ak];show((hP.mv N).app Ly).fQ (iZ oF)
 .intro σ G z;let⟨v3,as,rfl,Y,Z,hP⟩:=z;show⟨_,rQ,q F as G Y hF Z hP⟩
noncomputable def wA (ao:AA)(r w i j:Nat)(l:List Nat)(k:Nat):Bool:=decide (atC ao r w i ((j+k:Nat):Int)=46)||decide (PyProof.Rows.lo1 (atC ao r w i ((j+k:Nat):Int))=l.getD k 0)
noncomputable def n_ (ao:AA)(r w i j:Nat)(l:List Nat)(k:Nat):Option aQ:=if atC ao r w i ((j+k:Nat):Int)=46 then some (i,j+k,l.getD k 0) else none
def mO (ao:AA)(r w i j:Nat)(l:List Nat)(n:Nat):List aQ:=(List.range n).filterMap (n_ ao r w i j l)
noncomputable def Ed (ao:AA)(r w i j:Nat)(l:List Nat):Bool:=decide (atC ao r w i ((j:Int)-1)=46)&&decide (atC ao r w i ((j:Int)+(l.length:Int))=46)
noncomputable def cP (ao:AA)(r w i j:Nat)(l:List Nat):List aQ:=if (Ed ao r w i j l&&(List.range l.length).all (wA ao r w i j l))=true then mO ao r w i j l l.length else []
def wB (ao:AA)(r w i j:Nat)(l:List Nat)(n:Nat):mO ao r w i j l (n+1)=mO ao r w i j l n++(n_ ao r w i j l n).toList:=by unfold mO;rw[eQ,List.filterMap_append];congr 1
def all_succ (f:Nat->Bool)(n:Nat):(List.range (n+1)).all f=((List.range n).all f&&f n):=by rw[eQ,List.all_append];simp
def Ie (ao:AA)(r w i j:Nat)(l:List Nat)(n:Nat):(mO ao r w i j l n).length<=n:=by unfold mO;show aS (List.length_filterMap_le _ _) (by rw[dm];show af _)
def aec {r w bi bj:Nat}{ao aM:AA}(O:DK r w ao aM bi bj)(i j:Int):atC ao r w i j<128:=by
 unfold atC;split
 .rename_i h;let⟨h1,g,q,d⟩:=h;let a1:i.toNat<ao.length:=by rw[O.br.len];simp_all
  let e1:ao.getD i.toNat []=ao[i.toNat]:=by rw[av,ah a1];rfl
  let a2:j.toNat<ao[i.toNat].length:=by rw[O.br.j8 _ (bg _)];lia
  rw[e1,av,ah a2];show SM (O.cr _ (bg _) _ (bg _))
 .decide
def Qu (C:Addr):Sp:=λvs H Q _=>∃(b:Addr) (r w:Nat) (ao aM:AA) (bi bj i j:Nat) (l:List Nat),vs=[.ref b,.int i,.int j,.str (S l)]/\dH C H b r w ao aM bi bj/\j<1000/\l.length<=9/\
 ∀(p:Addr) (as:List Addr) (H':Hp),aA H H'->H p=none->H' p=some (.lst (as.map V.ref))->gW H' as (cP ao r w i j l)->Q (.ref p) H'
def zV {C f1:Addr}{jO:FuncData}(D:aL K mg "letters_to_lay" jG ["board","row","column","word"])(bB:mg "len"=none)(gq:mg "enumerate"=none)(Z:∃t,mg "FREE"=some (.str (S [46]) t))(cg:eU K C)(nZ:Meth K C "at" f1)(n6:dU P w K mg base fB 3 f1 jO ["self","row","column"] (YC C))(n8:cB K jO ["self","row","column"] [])(Od:bF P w K mg base "letter_of" 1 ["sign"] LC):bF P w K mg base "letters_to_lay" 4 ["board","row","column","word"] (Qu C):=by
 calc D.dD gQ (λf bw A outer s H vs Q E N h=>?_);let⟨b,r,w,ao,aM,bi,bj,i,j,l,rfl,B,hj,hl9,q⟩:=h;let⟨dx,_,_,_,ex,_⟩:=id B.ex;let O:=B.ok;let hz:l.length<=sizeLine:=aI (aK vT);calc⟨_,(aD (dz (QW.qt (sX (bW CJ (oK aH cg.cl nZ n6 N.mono n8 .nil jA (aj bx (aj (aN qX bH aB) au))) (lq wa Z) (bQ _)) (pK (bW CJ (oK aH cg.cl nZ n6 N.mono n8 .nil jA (aj bx (aj (aN cM bH (aX dM wa bB b7 (aj cD au))) au))) (lq wa Z) (bQ _))))) (aJ (aW (fG au))) bZ) (aD (aZ (i:=4) gQ.nd rQ (Or.inl rQ) (fG au)) (aD (eV cy rQ (Yn wa gq cD bH) (uE rQ (dX (bV (i:=5) gQ.nd rQ (Or.inl rQ)) (dX (bV (i:=6) gQ.nd rQ (Or.inl rQ)) oJ))) (aD (aZ (i:=7) gQ.nd rQ (Or.inl rQ) (oK aH cg.cl nZ n6 N.mono n8 .nil jA (aj bx (aj cC au)))) (aJ (dz (bW rC jC (lq wa Z) (bQ _)) (aJ (iG (eN dQ fN fR ju cJ (aj (dN (aj bx (aj cC (aj dZ au)))) au)))) (aJ (dz (bW CJ (bf Od N.mono rQ (aj jC au)) dZ (bQ _)) (aJ (aW (fG au))) bZ)))))) (aJ (aW cJ))))),?_⟩;let d:cP ao r w i j l=[]->∀(H':Hp),aA H H'->(0<=sizeLine)/\∀p,H' p=none->Q (.ref p) (upd H' p (.lst [])):=λe H' J=>⟨v_,λp hp=>q p [] _ (J.bC (J.free hp)) (J.free hp) aq (by rw[e];show gW.nil)⟩
 calc⟨_,rQ,b,dx,_,rQ,ex,rQ,_,rQ,_,rQ,_,_,rQ,rQ,b,r,w,ao,aM,bi,bj,_,_,rQ,B,_,_,rQ,rQ,_,rQ,?_⟩;by_cases c1:atC ao r w (i:Int) ((j:Int)-1)=46
 .rw[aw (show [atC ao r w (i:Int) ((j:Int)-1)]=[46] by rw[c1])];calc cT ⟨_,rQ,b,dx,_,rQ,ex,rQ,_,rQ,_,rQ,_,rQ,l,rQ,hz,_,_,rQ,rQ,b,r,w,ao,aM,bi,bj,_,_,rQ,B,_,_,rQ,rQ,_,rQ,?_⟩;by_cases c2:atC ao r w (i:Int) ((j:Int)+(l.length:Int))=46
  .rw[aw (show [atC ao r w (i:Int) ((j:Int)+(l.length:Int))]=[46] by rw[c2])];calc cT ?_;let he:Ed ao r w i j l=true:=by unfold Ed;rw[aw c1,aw c2];rfl
   calc⟨zsz 0,λF hF=>?_⟩;let s0:aA H (upd H F (HO.lst [])):=aA.upd hF;refine⟨_,rQ,_,rQ,l,j,rQ,rQ,hj,Vu (l:=l) (k:=j) (λn σ G=>∃(v5 v6 v7:Option V) (as:List Addr),σ=[some (.ref b),some (.int i),some (.int j),some (.str (S l)),some (.ref F),v5,v6,v7]/\aA H G/\G F=some (.lst (as.map V.ref))/\gW G as (mO ao r w i j l n)/\(List.range n).all (wA ao r w i j l)=true)
    ⟨none,none,none,[],rQ,s0,aq,gW.nil,rQ⟩ ?_ ?_⟩
   .intro n c σ G T hn z hT;let⟨v5,v6,v7,as,rfl,J,fM,hL,ha⟩:=z;let hnl:n<l.length:=(ai.mp hn).1;let ec:l.getD n 0=c:=by rw[av,hn];rfl
    let k1:aA G (upd G T (HO.tup [.int ((j+n:Nat):Int),.str (S [c])])):=aA.upd hT;calc⟨T,_,rQ,aU.of aq,rQ,_,_,rQ,_,_,rQ,rQ,?_⟩;let M:=k1 _ _ fM;let L:=J.trans k1;let Y:=hL.mv k1;generalize upd G T (HO.tup [.int ((j+n:Nat):Int),.str (S [c])])=H3 at k1 M L Y ⊢;let B3:=B.mv L;let bO:=Y.len;let htl:=Ie ao r w i j l n;calc⟨_,rQ,b,dx,_,rQ,L _ _ ex,rQ,_,rQ,_,rQ,b,r,w,ao,aM,bi,bj,_,_,rQ,B3,?_⟩;calc⟨_,rQ,[atC ao r w (i:Int) ((j+n:Nat):Int)],[46],rQ,rQ,_,rQ,?_⟩;by_cases c3:atC ao r w (i:Int) ((j+n:Nat):Int)=46
    .rw[aw (show [atC ao r w (i:Int) ((j+n:Nat):Int)]=[46] by rw[c3])];calc cF ⟨_,rQ,.inl ⟨rQ,_,aP.of M⟩,_,rQ,_,rQ,_,rQ,zsz 3,λg hg=>?_⟩;let k4:aA H3 (upd H3 g (HO.tup [.int (i:Int),.int ((j+n:Nat):Int),.str (S [c])])):=aA.upd hg;let oF:=k4 _ _ M;calc⟨F,_,_,rQ,rQ,oF,by rw[ab];show aK vT,?_⟩;refine⟨_,_,_,as++[g],rQ,(L.trans k4).bC hF,by rw[aq,b9];rfl,?_,?_⟩
     .rw[wB];let et:n_ ao r w i j l n=some (i,j+n,c):=by unfold n_;rw[if_pos c3,ec]
      rw[et];show((Y.mv k4).snoc (t:=(i,j+n,c)) aq).fQ (iZ oF)
     .rw[all_succ,ha];show wA ao r w i j l n=true;unfold wA;rw[aw c3];rfl
    .rw[al (show ¬[atC ao r w (i:Int) ((j+n:Nat):Int)]=[46] from λz=>c3 (by injection z))];calc cT ⟨_,rQ,_,rQ,aec O _ _,_,rQ,[PyProof.Rows.lo1 (atC ao r w (i:Int) ((j+n:Nat):Int))],[c],rQ,rQ,_,rQ,?_⟩;by_cases c4:PyProof.Rows.lo1 (atC ao r w (i:Int) ((j+n:Nat):Int))=c
     .rw[aw (show [PyProof.Rows.lo1 (atC ao r w (i:Int) ((j+n:Nat):Int))]=[c] by rw[c4])];refine cT ⟨_,_,_,as,rQ,L,M,?_,?_⟩
      .rw[wB];let et:n_ ao r w i j l n=none:=by unfold n_;rw[if_neg c3]
       rw[et];simpa using Y
      .rw[all_succ,ha];show wA ao r w i j l n=true;unfold wA;rw[ec,aw c4,Bool.or_true]
     .rw[al (show ¬[PyProof.Rows.lo1 (atC ao r w (i:Int) ((j+n:Nat):Int))]=[c] from λz=>c4 (by injection z))];calc cF (d ?_ H3 L);unfold cP;rw[if_neg];intro z;let z2:=(c9 _ _ ▸ z).2;rw[i7]at z2;let z3:=z2 n (bv.mpr hnl);unfold wA at z3;rw[al c3,ec,al c4]at z3;show absurd z3 v_
   .intro σ G z;let⟨v5,v6,v7,as,rfl,J,fM,hL,ha⟩:=z;calc⟨_,rQ,q F as G J hF fM ?_⟩;let e:cP ao r w i j l=mO ao r w i j l l.length:=by unfold cP;rw[he,ha];show if_pos rfl
    rw[e];show hL
  .rw[al (show ¬[atC ao r w (i:Int) ((j:Int)+(l.length:Int))]=[46] from λz=>c2 (by injection z))];calc cF (d ?_ H (aA.refl _));unfold cP Ed;rw[al c2,kG,ij];show if_neg v_
 .rw[al (show ¬[atC ao r w (i:Int) ((j:Int)-1)]=[46] from λz=>c1 (by injection z))];calc cF (d ?_ H (aA.refl _));unfold cP Ed;rw[al c1,ij,ij];show if_neg v_
def qd (c:Nat×Nat):List Key:=[Sum.inl (c.1:Int),Sum.inl (c.2:Int)]
def YS {a b:Nat×Nat}(h:qd a=qd b):a=b:=by unfold qd at h;injection h with h1 h2;injection h2 with h2 _;injection h1 with h1;injection h2 with h2;show qS (ku h1) (ku h2)
def abF {κ:Type} [DecidableEq κ] (kvs:List (κ×V))(k:κ)(v:V):(putK kvs k v).length<=kvs.length+1:=by
 unfold putK;split;.rw[ab];lia
 .simp
def YT {H:Hp}{M:Addr}{ks d:List (List Key×V)}(g:H M=some (.dT ks)):∀a xs,H a=some (.tup xs)->upd H M (.dT d) a=some (.tup xs):=λa xs e=>by
 let ne:a≠M:=λz=>by rw[z,g]at e;cases e
 rw[aY ne];show e
def oW (ws ao:AA)(c:Nat×Nat):List Nat:=DR ws (lineOf ao c.1 c.2 1) (placeOf c.1 c.2 1)
def pD (ao:AA)(r w:Nat):List (Nat×Nat):=(cells r w).filter (frB ao r w)
def Bu {ao:AA}{r w:Nat}{c:Nat×Nat}:c∈pD ao r w↔(c.1<r/\c.2<w)/\atC ao r w c.1 c.2=46:=by
 unfold pD;rw[kd];unfold frB;rw[gI];constructor
 .rintro⟨h1,d⟩;show⟨by simp only[cells,eK,aT,bv]at h1;let⟨i,hi,j,g,rfl⟩:=h1;show⟨hi,g⟩,by injection d⟩
 .rintro⟨h1,d⟩;show⟨by simp only[cells,eK,aT,bv];show⟨c.1,h1.1,c.2,h1.2,rQ⟩,by rw[d]⟩
def YW {ao:AA}{r w:Nat}(r9:r<=9)(w9:w<=9):(pD ao r w).length<=81:=by
 unfold pD;calc aS (km _ _) ?_;have:(cells r w).length=r*w:=by
  unfold cells
  induction r with| zero=>simp| succ r ih=>rw[eQ,nS,ar,ih (aI r9)];simp[sF]
 rw[this];show i9 r9 w9
def Wk (C B:Addr):Sp:=λvs H Q _=>∃(b k d:Addr) (ws:AA) (r w:Nat) (ao aM:AA) (bi bj:Nat),vs=[.ref b,.ref k]/\dH C H b r w ao aM bi bj/\lW B H k d ws/\
 ∀(p:Addr) (kvs:List (List Key×V)) (H':Hp),aA H H'->H p=none->H' p=some (.dT kvs)->(∀c∈pD ao r w,eZ kvs (qd c)=some (.str (S (oW ws ao c))))->Q (.ref p) H'
def Ef {C CB:Addr}(D:aL K mg "letters_down" lC ["board","book"])(rT:bF P w K mg base "free_cells" 1 ["board"] (Ge C))(Eh:bF P w K mg base "cross_letters" 10 ["board","book","row","column","way"] (ad_ C CB)):bF P w K mg base "letters_down" 11 ["board","book"] (Wk C CB):=by
 calc D.dD j7 (λf bw A outer s H vs Q E hr h=>?_);let⟨b,k,d,ws,r,w,ao,aM,bi,bj,rfl,B,BK,q⟩:=h;let hu:=Cv hr;calc⟨_,(aD (aZ (i:=2) j7.nd rQ (Or.inl rQ) XJ) (aD (eV cy rQ (d9 (bf rT hr.mono rQ (aj aH au))) (uE rQ (dX (bV (i:=3) j7.nd rQ (Or.inl rQ)) (dX (bV (i:=4) j7.nd rQ (Or.inl rQ)) oJ))) (aJ (Fe hu bH (dN (aj cD (aj cJ au))) (bf Eh hr.mono rQ (aj aH (aj bx (aj cD (aj cJ (aj aB au)))))) rQ))) (aJ (aW bH)))),?_⟩;intro F hF;let s0:aA H (upd H F (HO.dT [])):=aA.upd hF;let qz:upd H F (HO.dT []) F=some (.dT []):=aq;generalize upd H F (HO.dT [])=H0 at s0 qz ⊢;calc⟨_,rQ,b,r,w,ao,aM,bi,bj,rQ,B.mv s0,λp as H1 s1 hp hP=>?_⟩;let Y:=s1 _ _ qz;let npF:p≠F:=λz=>by rw[z,Y]at hp;cases hp
 let hal:as.length<=81:=by rw[hP.len];show YW B.ok.r9 B.ok.w9
 let hpL:(cells r w).filter (frB ao r w)=pD ao r w:=rfl;rw[hpL]at hP;refine⟨p,rQ,⟨_,aP.of hp⟩,j_ (K:=K) (a:=p) (xs:=as.map V.ref) (λn σ J=>∃(v3 v4:Option V) (kvs:List (List Key×V)),σ=[some (.ref b),some (.ref k),some (.ref F),v3,v4]/\aA H J/\J p=some (.lst (as.map V.ref))/\dI J as (pD ao r w)/\J F=some (.dT kvs)/\kvs.length<=n/\∀c∈(pD ao r w).take n,eZ kvs (qd c)=some (.str (S (oW ws ao c))))
  ⟨none,none,[],rQ,s0.trans s1,hp,hP,Y,af _,λc hc=>by simp at hc⟩ (λn σ J _ h=>by let⟨_,_,_,_,_,h2,_⟩:=h;show aP.of h2) ?_ ?_⟩
 .intro n x σ J hx z;let⟨v3,v4,kvs,rfl,N,L,j,fM,M,G⟩:=z;let⟨hi,hx⟩:=rfg hx;subst hx;let⟨c,ec,hc⟩:=j.get hi;let O:=Bu.mp (aE ec);calc⟨as[n],_,rQ,aU.of hc,rQ,_,_,rQ,_,_,rQ,rQ,?_⟩;calc⟨_,rQ,_,rQ,_,rQ,_,rQ,b,k,d,ws,r,w,ao,aM,bi,bj,c.1,c.2,1,rQ,B.mv N,BK.same N,O.1.1,O.1.2,.inr rQ,λH3 Z=>?_⟩;calc⟨_,rQ,_,rQ,_,rQ,zsz 2,λg hg=>?_⟩;let k4:aA H3 (upd H3 g (HO.tup [.int (c.1:Int),.int (c.2:Int)])):=aA.upd hg;let oF:=k4 _ _ (Z _ _ fM);calc⟨F,_,rQ,t_.t (k:=qd c) oF aq (aK vT),?_⟩;calc⟨_,_,putK kvs (qd c) _,rQ,((N.trans Z).trans k4).bC hF,by rw[aY npF];show k4 _ _ (Z _ _ L),((j.mv Z).mv k4).fQ (YT oF),aq,aS (abF _ _ _) (gm M),λe he=>?_⟩;rw[Xj];by_cases z:qd e=qd c;.rw[if_pos z,YS z];rfl
  .rw[if_neg z];rw[b8,ec]at he;rcases a9.mp he with y|y;.show G e y
   .have:e=c:=by simpa using y
    show absurd (by rw[this]) z
 .intro σ J z;let⟨v3,v4,kvs,rfl,N,L,j,fM,M,G⟩:=z;rw[ab,j.len,dL]at G;show⟨_,rQ,q F kvs J N hF fM G⟩
noncomputable def qe (d:Nat×Nat->List Nat)(hk:List (Nat×Nat))(ts:List aQ):Bool:=(decide (1<=ts.length)&&decide (ts.length<=7))&&(ts.all (λt=>decide (t.2.2∈d (cG t)))&&ts.any (λt=>decide (cG t∈hk)))
def abG {a b:Nat×Nat}(h:Ia a=Ia b):a=b:=by unfold Ia at h;injection h with h;injection h with h1 h2;injection h2 with h2 _;injection h1 with h1;injection h2 with h2;show qS (ku h1) (ku h2)
def abH {c:Nat×Nat}{hk:List (Nat×Nat)}:Ia c∈hk.map Ia↔c∈hk:=⟨λh=>by let⟨d,hd,e⟩:=aT.mp h;rw[<-abG e];show hd,λh=>cp h⟩
def aac (K:W.Frag):Sp:=λvs H Q _=>∃(p d j:Addr) (as bs:List Addr) (ts:List aQ) (kvs:List (List Key×V)) (g:Nat×Nat->List Nat) (hk:List (Nat×Nat)),vs=[.ref p,.ref d,.ref j]/\H p=some (.lst (as.map V.ref))/\gW H as ts/\ts.length<=63/\H d=some (.dT kvs)/\(∀t∈ts,eZ kvs (qd (cG t))=some (.str (S (g (cG t)))))/\
 H j=some (.tup (bs.map V.ref))/\dI H bs hk/\∀H',aA H H'->Q (.bl (qe g hk ts)) H'
def Gg (D:aL K mg "can_be_laid" mG ["triples","fitting","joining"])(bB:mg "len"=none)(gU:mg "all"=none)(tW:mg "any"=none)(kY:∃t,mg "MOST_TILES"=some (.int 7 t))(wC:bF P w K mg base "cells_of" 1 ["laying"] (Gf K)):bF P w K mg base "can_be_laid" 2 ["triples","fitting","joining"] (aac K):=by
 calc D.dD uU (λf bw A outer s H vs Q E hr h=>?_);let⟨p,d,j,as,bs,ts,kvs,B,hk,rfl,hp,hL,h63,hd,hkv,hj,hJ,q⟩:=h;let hu:=Cv hr;let hal:=hL.len;let Z:(as.map V.ref).length=ts.length:=by rw[ab];show hal
 calc⟨_,(aD (dz (jk (J1 o7 o7 aB (aX cu wa bB b7 (aj aH au)) (Ro wa kY))) (aJ (aW je)) bZ) (aD (dz (jk (fY (aX (mV rQ) wa gU m9 (aj (iU (ns:=["row","column","letter"]) rQ (gG.of ["triples","fitting","joining"] [] wb) (d9 aH) (λ_ _ _ _ _=>(Fg K rQ (show (["row","column","letter","triples","fitting","joining"]:List Str).Nodup by decide +kernel) rQ rQ rQ wa wa wa)) (λ_ _ _ _ _=>cZ) (λ_ _ _ _ _=>(gH JZ bH (aaT hu cJ (dN (aj aH (aj bx au))) (λ_ _=>rfl)) rQ))) au)))) (aJ (aW je)) bZ) (aJ (aW (aX (Kd rQ) wa tW G_ (aj (f9 rQ (fD.of uU.nd wb) (d9 (bf wC hr.mono rQ (aj aH au))) (λ_ _ _ _ _=>cZ) (λ_ _ _ _ _=>(gH (abl K hr.units) aH cD rQ))) au)))))),?_⟩;calc⟨_,rQ,p,_,rQ,.inl (aP.of hp),_,_,rQ,rQ,_,rQ,?_⟩;rw[Z];let no:qe B hk ts=false->Q (.bl false) H:=λe=>by have:=q H (aA.refl _);rw[e]at this;show this
 by_cases c1:1<=ts.length
 .rw[aw (show (1:Int)<=(ts.length:Int) by lia)];calc cF ⟨_,_,rQ,rQ,_,rQ,?_⟩;by_cases c2:ts.length<=7
  .rw[aw (show (ts.length:Int)<=7 by lia)];calc cT ?_;refine⟨_,rQ,p,rQ,⟨_,aP.of hp⟩,λL w5=>ud (f:=fW [] 0) (tt:=iC) (xs:=as.map V.ref) (λi ys F=>ys=((ts.take i).map λt=>decide (t.2.2∈B (cG t))).map V.bl/\F L=some (.lst ys)/\aA H F)
    ⟨rQ,aq,aA.upd w5⟩ (λi ys F _ h=>aP.of (h.2.2 _ _ hp)) ?_ ?_⟩
   .intro i x ys F hx z;let⟨rfl,kW,G⟩:=z;let⟨hi,hx⟩:=rfg hx;let⟨t,et,hT⟩:=hL.get hi;calc Rt hx.symm (aU.of (G _ _ hT)) ?_;calc⟨_,rQ,_,rQ,_,rQ,_,rQ,zsz 2,λg hg=>?_⟩;let k4:aA F (upd F g (HO.tup [.int (t.1:Int),.int (t.2.1:Int)])):=aA.upd hg;let LR:=rA.t (k:=qd (cG t)) (k4 _ _ (G _ _ hd)) (show upd F g (HO.tup [.int (t.1:Int),.int (t.2.1:Int)]) g=some (.tup ((qd (cG t)).map kV)) from aq);rw[hkv t (aE et)]at LR;calc⟨d,_,rQ,LR,_,_,rQ,rQ,k4 _ _ kW,?_,dw.mk (by rw[ab];show hi) ⟨?_,aq,(G.trans k4).bC w5⟩⟩;.rw[ab,ab,bq];show aK vT
    .rw[b8,et];simp
   .intro ys F z;let⟨rfl,kW,G⟩:=z;rw[Z,dL]at kW;calc⟨L,_,rQ,aP.of kW,_,rQ,?_⟩;rw[List.all_map];by_cases c3:ts.all (λt=>decide (t.2.2∈B (cG t)))=true
    .rw[show (ts.all (id ∘ λt=>decide (t.2.2∈B (cG t))))=true from c3];calc cT ?_;let Dm:=G _ _ hp;calc⟨_,rQ,p,as,ts,rQ,.inl (aP.of Dm),hL.mv G,h63,λp7 cs H7 s7 hn7 L_ hP7=>?_⟩;let J:=G.trans s7;let hcl:cs.length=ts.length:=by rw[hP7.len,ab]
     refine⟨p7,rQ,⟨_,aP.of L_⟩,λM hM=>pJ (K:=K) (a:=p7) (xs:=cs.map V.ref) (λi ys O=>ys=((ts.take i).map λt=>decide (cG t∈hk)).map V.bl/\O M=some (.lst ys)/\aA H7 O)
      ⟨rQ,aq,aA.upd hM⟩ (λi ys O _ h=>aP.of (h.2.2 _ _ L_)) ?_ ?_⟩
     .intro i x ys O hx z;let⟨rfl,Ma,N⟩:=z;let⟨hi,hx⟩:=rfg hx;subst hx;let⟨c,ec,hc⟩:=hP7.get hi;obtain⟨t,et,rfl⟩:∃t,ts[i]?=some t/\cG t=c:=by
       rw[ba]at ec;show fz.mp ec
      let Y:=(hJ.mv J).mv N;let hj8:=N _ _ (J _ _ hj);refine⟨_,rQ,_,rQ,2,Ia (cG t),hk.map Ia,v_,.tup (aU.of (N _ _ hc)) (.cons (.int _) (.cons (.int _) .nil)),?_,Ma,?_,dw.mk (by rw[ab];show hi) ⟨?_,aq,N.bC hM⟩⟩
      .rw[<-Y.eq];show .tup (aU.of hj8) (Qq Y.at_)
      .rw[ab,ab,bq];show aK vT
      .rw[b8,et,b9,b9];congr 1;show [V.bl _]=[V.bl _]
       congr 2;show rh.mpr abH
     .intro ys O z;let⟨rfl,Ma,N⟩:=z;rw[ab,hcl,dL]at Ma;calc⟨M,_,rQ,aP.of Ma,?_⟩;rw[List.any_map];let e:qe B hk ts=ts.any (id ∘ λt=>decide (cG t∈hk)):=by
       unfold qe;rw[aw c1,aw c2,c3];rfl
      rw[<-e];show q O (J.trans N)
    .rw[show (ts.all (id ∘ λt=>decide (t.2.2∈B (cG t))))=false from qf.mpr c3];calc cF ?_;have:=q F G;let e:qe B hk ts=false:=by
      unfold qe;rw[qf.mpr c3,ij,kG]
     rw[e]at this;show this
  .rw[al (show ¬(ts.length:Int)<=7 by lia)];calc cF (no ?_);unfold qe;rw[al c2,kG,ij]
 .rw[al (show ¬(1:Int)<=(ts.length:Int) by lia)];calc cT ⟨_,rQ,cF (no ?_)⟩;unfold qe;rw[al c1,ij,ij]
noncomputable def eE:List Nat->List Nat->List (List Nat)
 | [],_=>[[]]
 | c::ls,rk=>(if c∈rk then (eE ls (rk.erase c)).map (c :: ·) else [])++(if 63∈rk then (eE ls (rk.erase 63)).map (PyProof.Rows.up1 c :: ·) else [])
def vf {c:Nat}(h:isLet c):PyProof.Rows.up1 c=c-32/\bK (PyProof.Rows.up1 c)=63/\bK c=c/\c<128/\PyProof.Rows.up1 c<128:=by let h1:=h.1;let d:=h.2;let e:PyProof.Rows.up1 c=c-32:=if_pos (show 97<=c/\c<=122 from h);rw[e];show⟨rQ,if_pos ⟨eP vT,sq d _⟩,if_neg vT,vT,gp vT⟩
theorem qU:∀(ls rk:List Nat) {t:List Nat},t∈eE ls rk->t.length=ls.length
 | [],_,t,h=>by rw[am.mp h]
 | c::ls,rk,t,h=>by
  unfold eE at h;rcases a9.mp h with z|z
  .split at z
   .let⟨u,d,rfl⟩:=aT.mp z;simp[qU ls _ d]
   .simp at z
  .split at z
   .let⟨u,d,rfl⟩:=aT.mp z;simp[qU ls _ d]
   .simp at z
def abI {c:Nat}{ls rk:List Nat}(h:c∈rk):(eE ls (rk.erase c)).length<=(eE (c::ls) rk).length:=by rw[eE,if_pos h,ar,ab];lia
def abJ {c:Nat}{ls rk:List Nat}(h:63∈rk):(eE ls (rk.erase 63)).length<=(eE (c::ls) rk).length:=by rw[eE,if_pos h,ar,ab (as:=eE ls (rk.erase 63))];lia
def qN (o:Nat):Sp:=λvs H Q _=>∃(ls rk:List Nat),vs=[.str (S ls),.str (S rk)]/\(∀c∈ls,isLet c)/\ls.length<o/\o<=10/\rk.length<=100/\(eE ls rk).length<=900/\
 ∀(p:Addr) (H':Hp),aA H H'->H p=none->H' p=some (.lst (Ts (eE ls rk)))->Q (.ref p) H'
def YX {name:Str}{st:Stmt}{ps:List Str}{k:Nat}{sp:Sp}(D:aL K mg name st ps)(d:∀vs H Q E,¬sp vs H Q E):bF P w K mg base name k ps sp:=by let⟨f,fd,F,b,g⟩:=D.ex;show⟨f,fd,⟨λvs H Q E h=>absurd h (d vs H Q E),λA outer s H args us vs Q E _ _ _ _ h=>absurd h (d vs H Q E)⟩,b,g,F.kp⟩
def Oe (c:Nat)(ts:AA)(n:Nat){t:List Nat}(h:ts[n]?=some t):Ts ((ts.take (n+1)).map (c :: ·))=Ts ((ts.take n).map (c :: ·))++[V.str (S ([c]++t))]:=by rw[b8,h,b9];show(jT _ _).symm
def Mf {o k:Nat}(hk:1<=k)(D:aL K mg "sign_texts" jr ["letters","rack"]){f:Addr}{fd:FuncData}(T:Dq P w K mg base f fd)(bT:cB K fd ["sign"] [])(mT:mg "tile_of"=some (.ref f))(kT:W.keepIn K (.ref f)=true)(rW:bF P w K mg base "sign_texts" k ["letters","rack"] (qN o)):bF P w K mg base "sign_texts" (k+1) ["letters","rack"] (qN (o+1)):=by
 calc D.dD mH (λf' bw A outer s H vs Q E hr h=>?_);let⟨ls,rk,rfl,J,B,ho,hrk,Z,q⟩:=h;let Y:RQ (nH fB P w K mg base ["letters","rack","texts","sign","tile","left"] "sign_texts" (aF jr) f' bw A outer s H E).xG 1 3 4 5 f fd:=⟨mH.nd,rQ,rQ,rQ,rQ,.inl rQ,.inr rQ,.inl rQ,.inl rQ,rQ,rQ,rQ,T,bT,mT,kT,rQ,hr.mono hk⟩
 refine⟨_,aD (dz (bW rC aH (bY [] wc) (bQ _)) (aJ (aW (fG (aj (bY [] wc) au)))) bZ)
  (aD (aZ (i:=2) mH.nd rQ (Or.inl rQ) (fG au))
  (aD (adU Y wc cy rQ (ZW aH (λ_ _=>rfl)) (afc (ZW aH (λ_ _=>rfl))) rQ rQ rQ rQ (λ_=>rfl)
   (aJ (iG (eN dQ lj lv sV bH (aj (f9 rQ (fD.of mH.nd wb) (d9 (bf rW hr rQ (aj (eO uc aH (d8 aB) iH) (aj cC au)))) (λ_ _ _ _ _=>cZ) (λ_ _ _ _ _=>(aN m8 cJ aH))) au)))))
  (aJ (aW bH)))),?_⟩
 refine⟨_,rQ,_,_,rQ,rQ,_,rQ,?_⟩
 match ls,J,B,Z,q with
 | [],J,B,Z,q=>rw[aw rfl];show cF ⟨zsz 1,λp hp=>q p _ (aA.upd hp) hp aq⟩
 | c::ls,J,B,Z,q=>
  rw[al (show ¬c::ls=[] from λz=>by cases z)];calc cT ⟨zsz 0,λF hF=>?_⟩;let⟨u1,u2,u3,u4,u5⟩:=vf (J c ax);let hl':∀d∈ls,isLet d:=λd hd=>J d (ay _ hd);let hlo':ls.length<o:=by simp at B;show B
  let hz:(c::ls).length<=sizeLine:=aI (aK vT);let s0:aA H (upd H F (HO.lst [])):=aA.upd hF;let qz:upd H F (HO.lst []) F=some (.lst []):=aq;generalize upd H F (HO.lst [])=H0 at s0 qz ⊢;let one:∀(d:Nat) (G:Hp) (ts:AA) (Dn:St->Hp->Prop) (Dr:VK),aA H G->G F=some (.lst (Ts ts))->bK d∈rk->ts.length<=900->(eE ls (rk.erase (bK d))).length<=900->
    (∀M,aA H M->M F=some (.lst (Ts (ts++(eE ls (rk.erase (bK d))).map (d :: ·))))->Dn [some (.str (S (c::ls))),some (.str (S rk)),some (.ref F),some (.str (S [d])),some (.str (S [bK d])),some (.str (S (rk.erase (bK d))))] M)->
    (Ca (Ot K "list" zf (dj 2) (fV (Cy (Cg K (qD (qN o) [] E0 (fV (Oo J0 (dj 0) (yX (tC (V.int 1))) qO) (fV (dj 5) lK)))) iC (qu zp (dj 4) (dj 0))) lK))) {nx:=Dn,rt:=Dr} [some (.str (S (c::ls))),some (.str (S rk)),some (.ref F),some (.str (S [d])),some (.str (S [bK d])),some (.str (S (rk.erase (bK d))))] G:=by
   intro d G ts Dn Dr sm fM jX h9 h9' nx;let afZ:ji (c::ls) (some 1) none=ls:=by rw[show (1:Int)=((1:Nat):Int) from rQ,vD];rfl
   let h10:ls.length<=10:=vT;calc⟨_,rQ,.inl ⟨rQ,_,aP.of fM⟩,_,rQ,_,rQ,c::ls,rQ,hz,_,rQ,ls,rk.erase (bK d),by rw[afZ];rfl,hl',hlo',aI ho,aS nL hrk,h9',λp M O hn3 hp3=>?_⟩;let qy:=O _ _ fM;refine⟨p,rQ,⟨_,aP.of hp3⟩,λL hL=>pJ (K:=K) (a:=p) (xs:=Ts (eE ls (rk.erase (bK d)))) (λi ys H4=>ys=Ts (((eE ls (rk.erase (bK d))).take i).map (d :: ·))/\H4 L=some (.lst ys)/\aA M H4)
    ⟨rQ,aq,aA.upd hL⟩ (λi ys H4 _ h=>aP.of (h.2.2 _ _ hp3)) ?_ ?_⟩
   .intro i x ys H4 hx z;let⟨rfl,nj,s4⟩:=z;let⟨t,ht,rfl⟩:=pQ hx;let hil:i<(Ts (eE ls (rk.erase (bK d)))).length:=(ai.mp hx).1;let htl:=qU _ _ (aE ht);calc⟨_,rQ,_,rQ,[d],t,rQ,rQ,aI (aK (by simp;lia)),nj,?_,dw.mk hil ⟨?_,aq,s4.bC hL⟩⟩;.rw[ab,ab,bq];show aK vT
    .show(Oe d _ i ht).symm
   .intro ys H4 z;let⟨rfl,nj,s4⟩:=z;rw[ab,dL]at nj;let oF:=s4 _ _ qy;refine⟨F,L,_,_,rQ,rQ,oF,nj,?_,nx _ (((sm.trans O).trans s4).bC hF) ?_⟩
    .rw[ab,ab,ab];show aS (Nat.add_le_add h9 h9') v_
    .rw[aq];unfold Ts;rw[b9]
  calc⟨_,rQ,S (c::ls),0,c,rQ,rQ,by rw[jB];show hz,aO (j:=0) rQ,?_⟩;calc⟨_,rQ,S (c::ls),0,c,rQ,rQ,by rw[jB];show hz,aO (j:=0) rQ,c,rQ,u4,c,PyProof.Rows.up1 c,rQ,rQ,?_⟩;let two:∀(G:Hp) (ts:AA) (v4 v5 v6:Option V),aA H G->G F=some (.lst (Ts ts))->ts=(if c∈rk then (eE ls (rk.erase c)).map (c :: ·) else [])->
    ug 1 3 4 5 (Ca (Ot K "list" zf (dj 2) (fV (Cy (Cg K (qD (qN o) [] E0 (fV (Oo J0 (dj 0) (yX (tC (V.int 1))) qO) (fV (dj 5) lK)))) iC (qu zp (dj 4) (dj 0))) lK))) (PyProof.Rows.up1 c) {nx:=QL (dj 2) {nx:=λx H'=>Q V.non H',rt:=Q},rt:=Q} [some (.str (S (c::ls))),some (.str (S rk)),some (.ref F),v4,v5,v6] G:=by
   intro G ts v4 v5 v6 sm fM N;let af0:ts.length<=(eE (c::ls) rk).length:=by rw[eE,<-N,ar];lia
   calc⟨rk,rQ,vT,?_⟩;by_cases g:63∈rk
   .rw[if_pos (by rw[u2];show g)];refine one (PyProof.Rows.up1 c) G ts _ _ sm fM (by rw[u2];show g) (aS af0 Z) (by rw[u2];show aS (abJ g) Z) λM O qy=>⟨_,rQ,q F M O hF ?_⟩
    rw[qy,u2,eE,if_pos g,N]
   .rw[if_neg (by rw[u2];show g)];calc⟨_,rQ,q F G sm hF ?_⟩;rw[fM,eE,if_neg g,N,eJ]
  calc⟨rk,rQ,vT,?_⟩;rw[u3];by_cases hc:c∈rk
  .rw[if_pos hc];have:=one c H0 [] (ug 1 3 4 5 (Ca (Ot K "list" zf (dj 2) (fV (Cy (Cg K (qD (qN o) [] E0 (fV (Oo J0 (dj 0) (yX (tC (V.int 1))) qO) (fV (dj 5) lK)))) iC (qu zp (dj 4) (dj 0))) lK))) (PyProof.Rows.up1 c) {nx:=QL (dj 2) {nx:=λx H'=>Q V.non H',rt:=Q},rt:=Q}) Q s0 qz (by rw[u3];show hc) (by show 0<=900;decide) (by rw[u3];show aS (abI hc) Z) λM O qy=>two M _ _ _ _ O qy (by rw[u3,if_pos hc];rfl);rw[u3]at this;show this
  .rw[if_neg hc];show two H0 [] _ _ _ s0 qz (by rw[if_neg hc])
def Jj (D:aL K mg "sign_texts" jr ["letters","rack"])(g:aL K mg "tile_of" tE ["sign"]):bF P w K mg base "sign_texts" 9 ["letters","rack"] (qN 8):=by
 let⟨f,fd,F,b,m⟩:=g.ex;let T:Dq P w K mg base f fd:=abk F RZ rQ rQ wc wc wc;let d:bF P w K mg base "sign_texts" 1 ["letters","rack"] (qN 0):=YX D λvs H Q E h=>by let⟨ls,rk,_,_,h,_⟩:=h;show absurd h (gV _)
 let st:=λo k hk (h:bF P w K mg base "sign_texts" k ["letters","rack"] (qN o))=>Mf (o:=o) (k:=k) hk D T b m F.kp h;show st 7 8 v_ (st 6 7 v_ (st 5 6 v_ (st 4 5 v_ (st 3 4 v_ (st 2 3 v_ (st 1 2 v_ (st 0 1 v_ d)))))))
noncomputable def lO (H:Hp)(a:Addr):List aQ:=match H a with
 | some (.tup xs)=>xs.map λv=>match v with| .ref b=>tF H b| _=>(0,0,0)
 | _=>[]
def wF (H:Hp)(a:Addr)(ts:List aQ):Prop:=∃bs:List Addr,H a=some (.tup (bs.map V.ref))/\fj H bs ts
def Tc {H:Hp}{a:Addr}{ts:List aQ}(h:wF H a ts):lO H a=ts:=by let⟨bs,h1,d⟩:=h;unfold lO;rw[h1];show ((bs.map V.ref).map _)=ts;rw[dS,<-d.eq];rfl
def wF.fQ {H H':Hp}{a:Addr}{ts:List aQ}(k:Lz H H')(h:wF H a ts):wF H' a ts:=let ⟨bs,h1,h2⟩:=h;⟨bs,k _ _ (λ_=>nofun) h1,h2.fQ k⟩
structure eF (H:Hp)(as:List Addr)(ls:List (List aQ)):Prop where
 at_:∀a∈as,wF H a (lO H a)
 eq:as.map (lO H)=ls
def eF.fQ {H H':Hp}{as:List Addr}{ls:List (List aQ)}(k:Lz H H')(h:eF H as ls):eF H' as ls:=by let e:∀a∈as,lO H' a=lO H a:=λa ha=>Tc ((h.at_ a ha).fQ k);show⟨λa ha=>by rw[e a ha];show(h.at_ a ha).fQ k,by rw[<-h.eq];show e6 e⟩
def eF.mv {H H':Hp}{as:List Addr}{ls:List (List aQ)}(k:aA H H')(h:eF H as ls):eF H' as ls:=h.fQ λa o _ e=>k a o e
def eF.nil {H:Hp}:eF H [] []:=⟨λa h=>by simp at h,rQ⟩
def eF.app {H:Hp}{as bs:List Addr}{ls d:List (List aQ)}(h:eF H as ls)(g:eF H bs d):eF H (as++bs) (ls++d):=by
 calc⟨λb j=>?_,by rw[b9,h.eq,g.eq]⟩;rcases a9.mp j with z|z;.show h.at_ b z
 .show g.at_ b z
def eF.one {H:Hp}{a:Addr}{ts:List aQ}(ha:wF H a ts):eF H [a] [ts]:=⟨λb d=>by rw[am.mp d,Tc ha];show ha,by rw[mx,Tc ha]⟩
def eF.len {H:Hp}{as:List Addr}{ls:List (List aQ)}(h:eF H as ls):as.length=ls.length:=by rw[<-h.eq,ab]
def eF.get {H:Hp}{as:List Addr}{ls:List (List aQ)}(h:eF H as ls){i:Nat}(hi:i<as.length):∃t,ls[i]?=some t/\wF H as[i] t:=⟨lO H as[i],by rw[<-h.eq];simp[hi],h.at_ _ (bg _)⟩
def fO (ts:List aQ)(ss:List Nat):List aQ:=List.zipWith (λt c=>(t.1,t.2.1,c)) ts ss
def Td {ts:List aQ}{ss:List Nat}{i:Nat}{t:aQ}{c:Nat}(h1:ts[i]?=some t)(d:ss[i]?=some c):(fO ts ss).take (i+1)=(fO ts ss).take i++[(t.1,t.2.1,c)]:=by rw[b8];congr 1;unfold fO;rw[List.getElem?_zipWith,h1,d];rfl
def yH {ts:List aQ}{ss:List Nat}(h:ts.length=ss.length):(fO ts ss).length=ts.length:=by unfold fO;rw[List.length_zipWith];lia
def dF (ts:List aQ):List Nat:=ts.map λt=>t.2.2
def pU (ts:List aQ)(rk:List Nat):List (List aQ):=(eE (dF ts) rk).map (fO ts)
def Qv:Sp:=λvs H Q _=>∃(p:Addr) (as:List Addr) (ts:List aQ) (rk:List Nat),vs=[.ref p,.str (S rk)]/\H p=some (.lst (as.map V.ref))/\gW H as ts/\ts.length<=7/\(∀t∈ts,isLet t.2.2)/\rk.length<=100/\(eE (dF ts) rk).length<=900/\
 ∀(g:Addr) (d:List Addr) (H':Hp),aA H H'->H g=none->H' g=some (.lst (d.map V.ref))->eF H' d (pU ts rk)->Q (.ref g) H'
def Jk (D:aL K mg "layings_of" nU ["triples","rack"])(bM:mg "tuple"=none)(Ei:mg "zip"=none)(wC:bF P w K mg base "cells_of" 1 ["laying"] (Gf K))(rW:bF P w K mg base "sign_texts" 9 ["letters","rack"] (qN 8)):bF P w K mg base "layings_of" 10 ["triples","rack"] Qv:=by
 calc D.dD mJ (λf bw A outer s H vs Q E hr h=>?_);let⟨p,as,ts,rk,rfl,hp,hL,h7,Bv,hrk,wD,q⟩:=h;let hal:=hL.len;calc⟨_,(aD (aZ (i:=2) mJ.nd rQ (Or.inl rQ) (bf wC hr.mono rQ (aj aH au))) (aD (aZ (i:=3) mJ.nd rQ (Or.inl rQ) (fG au)) (aD (eV cy rQ (d9 (bf rW hr.mono rQ (aj (eN bP fg fh qP (bY [] wc) (aj (iU (ns:=["row","column","letter"]) rQ (gG.of ["triples","rack","cells","layings","signs"] [] wb) (d9 aH) (λ_ _ _ _ _=>(Fg K rQ (show (["row","column","letter","triples","rack","cells","layings","signs"]:List Str).Nodup by decide +kernel) rQ rQ rQ wa wa wa)) (λ_ _ _ _ _=>cZ) (λ_ _ _ _ _=>bH)) au)) (aj bx au)))) (bV (i:=4) mJ.nd rQ (Or.inl rQ)) (aJ (iG (eN dQ fN fR ju cD (aj (cO dO wa bM df (aj (iU (ns:=["cell","sign"]) rQ (gG.of ["triples","rack","cells","layings","signs"] [] wb) (abp wa Ei (aj bH (aj cJ au))) (λ_ _ _ _ _=>(Yr rQ (show (["cell","sign","triples","rack","cells","layings","signs"]:List Str).Nodup by decide +kernel) rQ rQ wa wa)) (λ_ _ _ _ _=>cZ) (λ_ _ _ _ _=>(K5 (aj (bJ (qR K) aH aB (λ_ _=>rfl)) (aj (bJ (qR K) aH aB (λ_ _=>rfl)) (aj bx au)))))) au)) au))))) (aJ (aW cD))))),?_⟩;calc⟨_,rQ,p,as,ts,rQ,.inl (aP.of hp),hL,vT,λpc B Hc sc hnc hpc hPc=>?_⟩;let hcl:B.length=ts.length:=by rw[hPc.len,ab]
 calc⟨zsz 0,λF hF=>?_⟩;let s0:aA Hc (upd Hc F (HO.lst [])):=aA.upd hF;let qz:upd Hc F (HO.lst []) F=some (.lst []):=aq;generalize upd Hc F (HO.lst [])=H0 at s0 qz ⊢;let hp0:=s0 _ _ (sc _ _ hp);let hL0:=(hL.mv sc).mv s0;refine⟨rQ,_,rQ,p,rQ,⟨_,aP.of hp0⟩,λL w5=>ud (f:=fW [] 0) (tt:=iC) (xs:=as.map V.ref) (λi ys d=>ys=Ts (ones ((dF ts).take i))/\d L=some (.lst ys)/\aA H0 d)
  ⟨rQ,aq,aA.upd w5⟩ (λi ys d _ h=>aP.of (h.2.2 _ _ hp0)) ?_ ?_⟩
 .intro i x ys d hx z;let⟨rfl,kW,Z⟩:=z;let⟨hi,hx⟩:=rfg hx;let⟨t,et,hT⟩:=hL0.get hi;calc Rt hx.symm (aU.of (Z _ _ hT)) ?_;calc⟨_,rQ,kW,?_,dw.mk (by rw[ab];show hi) ⟨?_,aq,Z.bC w5⟩⟩;.rw[ab,ab,bq];show aK vT
  .have:(dF ts)[i]?=some t.2.2:=by unfold dF;rw[ba,et];rfl
   rw[b8,this,jT,pP];rfl
 .intro ys d z;let⟨rfl,kW,Z⟩:=z;let hsl:(dF ts).length=ts.length:=ab _;rw[ab,hal,<-hsl,dL]at kW;calc⟨L,ones (dF ts),rQ,rQ,aP.of kW,by rw[mL];lia,?_⟩;rw[mL];refine⟨_,rQ,dF ts,rk,rQ,λc hc=>?_,vT,v_,hrk,wD,λpS H1 s1 hn1 O=>?_⟩
  .let⟨t,ht,rfl⟩:=aT.mp hc;show Bv t ht
  generalize hTX:eE (dF ts) rk=tx at wD O;let af2:∀t∈tx,t.length=ts.length:=λt ht=>by rw[<-hTX]at ht;rw[qU _ _ ht,hsl]
  let sc1:aA Hc H1:=(s0.trans Z).trans s1;let hF1:=s1 _ _ (Z _ _ qz);let nSF:pS≠F:=λz=>by rw[z,Z _ _ qz]at hn1;cases hn1
  refine⟨pS,rQ,⟨_,aP.of O⟩,j_ (K:=K) (a:=pS) (xs:=Ts tx) (λn σ J=>∃(v4:Option V) (bs:List Addr),σ=[some (.ref p),some (.str (S rk)),some (.ref pc),some (.ref F),v4]/\aA Hc J/\J pS=some (.lst (Ts tx))/\J F=some (.lst (bs.map V.ref))/\eF J bs ((tx.take n).map (fO ts))/\bs.length=n)
   ⟨none,[],rQ,sc1,O,hF1,eF.nil,rQ⟩ (λn σ J _ h=>by let⟨_,_,_,_,h2,_⟩:=h;show aP.of h2) ?_ ?_⟩
  .intro n x σ J hx z;let⟨v4,bs,rfl,s2,hp2,fM,hY,jP⟩:=z;let⟨ss,hss,rfl⟩:=pQ hx;let hnl:n<(Ts tx).length:=(ai.mp hx).1;rw[ab]at hnl;let af3:=af2 ss (aE hss);let aed:=s2 _ _ hpc;let af4:=hPc.mv s2;refine⟨_,rQ,.inl ⟨rQ,_,aP.of fM⟩,_,rQ,_,rQ,pc,ss,rQ,⟨_,aP.of aed⟩,λM hM=>ad0 (f:=fW [] 0) (tt:=iC) (xs:=B.map V.ref) (l:=ss) (by rw[ab,hcl,af3]) (λi h=>⟨B[i]'(by simpa using h),v0⟩) (λi zs d=>∃ds:List Addr,zs=ds.map V.ref/\ds.length=i/\d M=some (.lst zs)/\aA J d/\fj d ds ((fO ts ss).take i))
    ⟨[],rQ,rQ,aq,aA.upd hM,fj.nil⟩ (λi zs d _ h=>by let⟨_,_,_,_,Lx,_⟩:=h;show aP.of (Lx _ _ aed)) ?_ ?_⟩
   .intro i b0 c zs d T oT hx hc z hT;let⟨ds,rfl,N,vd,Y,hB⟩:=z;rw[ba]at hx;let hi:i<B.length:=by
     rcases ee i B.length with z|z;.show z
     .rw[di z]at hx;cases hx
    rw[ah hi]at hx;let hx:V.ref B[i]=V.ref b0:=be hx;obtain rfl:B[i]=b0:=V.ref.inj hx;let⟨cc,ec,hcc⟩:=af4.get hi;obtain⟨t,et,rfl⟩:∃t,ts[i]?=some t/\cG t=cc:=by rw[ba]at ec;show fz.mp ec
    let G:aA d (upd d T (HO.cH oT (HO.tup [.ref B[i],.str (S [c])]))):=aA.upd hT;calc adZ rQ aq λkk hkk=>?_;let hW7:upd d T (HO.cH oT (HO.tup [.ref B[i],.str (S [c])])) T=some (HO.cH oT (HO.tup [.ref B[i],.str (S [c])])):=aq;let aee:=G _ _ (Y _ _ hcc);let w6:=G _ _ vd;let s7:=Y.trans G;let hB7:=hB.mv G;generalize upd d T (HO.cH oT (HO.tup [.ref B[i],.str (S [c])]))=H7 at G aee w6 s7 hB7 hW7 ⊢;let hS7:=aU.of (K:=K) aee;calc⟨_,rQ,B[i],_,_,_,rQ,rQ,hS7,aO (j:=0) rQ,_,rQ,B[i],_,_,_,rQ,rQ,hS7,aO (j:=1) rQ,_,rQ,_,_,_,_,rQ,⟨_,_,_,hW7,hkk⟩,λg og hg=>?_⟩;let k8:aA H7 (upd H7 g (HO.cH og (HO.tup [.int ((cG t).1:Int),.int ((cG t).2:Int),.str (S [c])]))):=aA.upd hg;let Ma:=k8 _ _ w6;calc⟨Ma,by rw[ab,N];show aK vT,dw.mk (by rw[ab];show hi) ⟨ds++[g],v0,by simp[N],by rw[aq],(s7.trans k8).bC hM,?_⟩⟩;rw[Td et hc];show((hB7.mv k8).snoc (t:=(t.1,t.2.1,c)) ⟨og,aq⟩).fQ (jU Ma)
   .intro zs d z;let⟨ds,rfl,N,vd,Y,hB⟩:=z;rw[ab]at N;rw[bE (by rw[yH vT,ab];lia)]at hB;calc⟨M,_,rQ,.inl ⟨aP.of vd,λT hT=>?_⟩⟩;let G:aA d (upd d T (HO.tup (ds.map V.ref))):=aA.upd hT;let hF7:=G _ _ (Y _ _ fM);calc⟨F,_,_,rQ,rQ,hF7,by rw[ab,jP];show aK vT,?_⟩;calc⟨_,bs++[T],rQ,((s2.trans Y).trans G).bC hF,by rw[aY nSF];show G _ _ (Y _ _ hp2),by rw[aq,b9];rfl,?_,by simp[jP]⟩;rw[b8,hss,b9];show(((hY.mv Y).mv G).app (eF.one (ts:=fO ts ss) ⟨ds,aq,hB.mv G⟩)).fQ (jU hF7)
  .intro σ J z;let⟨v4,bs,rfl,s2,hp2,fM,hY,jP⟩:=z;rw[ab,dL]at hY;calc⟨_,rQ,q F bs J (sc.trans s2) (sc.free hF) fM ?_⟩;unfold pU;rw[hTX];show hY
def Ig {ao:AA}{r w i j:Nat}{l:List Nat}{t:aQ}(h:t∈cP ao r w i j l):∃k,k<l.length/\t=(i,j+k,l.getD k 0)/\atC ao r w i ((j+k:Nat):Int)=46:=by
 unfold cP at h;split at h
 .unfold mO at h;let⟨k,hk,e⟩:=om.mp h;unfold n_ at e;split at e
  .rename_i d;show⟨k,bv.mp hk,(be e).symm,d⟩
  .cases e
 .simp at h
def Ej {ao:AA}{r w i j:Nat}{l:List Nat}{t:aQ}(hi:i<r)(g:j<w+1-l.length)(h:t∈cP ao r w i j l):cG t∈pD ao r w:=by let⟨k,hk,rfl,d⟩:=Ig h;show Bu.mpr ⟨⟨hi,by show j+k<w;(simp[fc,gf]at *;lia)⟩,d⟩
def yI {ao:AA}{r w i j:Nat}{l:List Nat}{t:aQ}(d:kE l)(h:t∈cP ao r w i j l):isLet t.2.2:=by let⟨k,hk,rfl,_⟩:=Ig h;show isLet (l.getD k 0);rw[av,ah hk];show d.az _ (bg _)
def Wm (ao:AA)(r w i j:Nat)(l:List Nat):(cP ao r w i j l).length<=l.length:=by
 unfold cP;split;.show Ie ..
 .show cn _
noncomputable def oX (d:Nat×Nat->List Nat)(hk:List (Nat×Nat))(ao:AA)(r w:Nat)(rk l:List Nat)(c:Nat×Nat):List (List aQ):=if qe d hk (cP ao r w c.1 c.2 l)=true then pU (cP ao r w c.1 c.2 l) rk else []
noncomputable def tY (d:Nat×Nat->List Nat)(hk:List (Nat×Nat))(ao:AA)(r w:Nat)(rk l:List Nat):List (List aQ):=(gJ r w l.length).flatMap (oX d hk ao r w rk l)
noncomputable def gk (ws:AA)(hk:List (Nat×Nat))(ao:AA)(r w:Nat)(rk:List Nat)(us:AA):List (List aQ):=us.flatMap (tY (oW ws ao) hk ao r w rk)
theorem zP {α β:Type}{f:α->List β}{b:Nat}:∀{l:List α},(∀x∈l,(f x).length<=b)->(l.flatMap f).length<=l.length*b
 | [],_=>by simp
 | x::l,h=>by rw[List.flatMap_cons,ar,bu,sF];have:=h x ax;have:=zP (l:=l) λy d=>h y (ay _ d);lia
def YZ {d:Nat×Nat->List Nat}{hk:List (Nat×Nat)}{ao:AA}{r w g:Nat}{rk l:List Nat}(j:∀ls,(eE ls rk).length<=g)(c:Nat×Nat):(oX d hk ao r w rk l c).length<=g:=by
 unfold oX;split;.unfold pU;rw[ab];show j _
 .show cn _
def Ih {d:Nat×Nat->List Nat}{hk:List (Nat×Nat)}{ao:AA}{r w g:Nat}{rk l:List Nat}(j:∀ls,(eE ls rk).length<=g)(q:1<=l.length):(tY d hk ao r w rk l).length<=r*w*g:=by unfold tY;calc aS (zP λc _=>YZ j c) ?_;rw[wz];show iP _ (Nat.mul_le_mul_left _ (by simp_all))
def Ii {α β:Type}{f:α->List β}{l:List α}{n:Nat}{x:α}(h:l[n]?=some x):(l.take (n+1)).flatMap f=(l.take n).flatMap f++f x:=by rw[b8,h,nS];simp
def Mh (C B:Addr):Sp:=λvs H Q _=>∃(b k d:Addr) (ws:AA) (r w:Nat) (ao aM:AA) (bi bj g:Nat) (rk:List Nat),vs=[.ref b,.ref k,.str (S rk)]/\dH C H b r w ao aM bi bj/\lW B H k d ws/\ws.length<64/\rk.length<=100/\(∀ls,(eE ls rk).length<=g)/\g<=900/\ws.length*(r*w*g)<=1999/\
 ∀(p:Addr) (as:List Addr) (us:AA) (H':Hp),aA H H'->H p=none->H' p=some (.lst (as.map V.ref))->us.Perm ws->eF H' as (gk ws (cN ao r w bi bj) ao r w rk us)->as.length<=1999->Q (.ref p) H'
def zW {C CB f2:Addr}{fd2:FuncData}(D:aL K mg "layings_across" jH ["board","book","rack"])(DW:oV K CB)(Mi:Meth K CB "words" f2)(Mj:dU P w K mg base fB 1 f2 fd2 ["self"] (Qh CB))(Ml:cB K fd2 ["self"] [])(Gi:bF P w K mg base "letters_down" 11 ["board","book"] (Wk C CB))(abK:bF P w K mg base "hooks" 5 ["board"] (Qt C))(Y4:bF P w K mg base "starts" 1 ["board","word"] (LQ C))(Bw:bF P w K mg base "letters_to_lay" 4 ["board","row","column","word"] (Qu C))(Jl:bF P w K mg base "can_be_laid" 2 ["triples","fitting","joining"] (aac K))(Mp:bF P w K mg base "layings_of" 10 ["triples","rack"] Qv):bF P w K mg base "layings_across" 12 ["board","book","rack"] (Mh C CB):=by
 calc D.dD dB (λf bw A outer s H vs Q E hr h=>?_);let⟨b,k,d,ws,r,w,ao,aM,bi,bj,g,rk,rfl,B,BK,uq,hrk,hg,Qw,hbd,q⟩:=h;let O:=B.ok;calc⟨_,(aD (aZ (i:=3) dB.nd rQ (Or.inl rQ) (bf Gi hr.mono rQ (aj aH (aj bx au)))) (aD (aZ (i:=4) dB.nd rQ (Or.inl rQ) (bf abK hr.mono rQ (aj aH au))) (aD (aZ (i:=5) dB.nd rQ (Or.inl rQ) (fG au)) (aD (eV cy rQ (iJ (Ax bx DW.cl Mi Mj hr.mono Ml .nil jA)) (bV (i:=6) dB.nd rQ (Or.inl rQ)) (aJ (eV cy rQ (d9 (bf Y4 hr.mono rQ (aj aH (aj dZ au)))) (uE rQ (dX (bV (i:=7) dB.nd rQ (Or.inl rQ)) (dX (bV (i:=8) dB.nd rQ (Or.inl rQ)) oJ))) (aD (aZ (i:=9) dB.nd rQ (Or.inl rQ) (bf Bw hr.mono rQ (aj aH (aj jC (aj qG (aj dZ au)))))) (aJ (dz (fY (bf Jl hr.mono rQ (aj (qv 9) (aj cD (aj cJ au))))) (aJ (iG (eN dQ lj lv sV cC (aj (bf Mp hr.mono rQ (aj (qv 9) (aj bH au))) au)))) bZ)))))) (aJ (aW cC)))))),?_⟩;calc⟨_,rQ,_,rQ,b,k,d,ws,r,w,ao,aM,bi,bj,rQ,B,BK,λpd kvs H1 s1 hn1 hd1 hkv=>?_⟩;calc⟨_,rQ,b,r,w,ao,aM,bi,bj,rQ,B.mv s1,λpj js H2 s2 hj2 ZM=>?_⟩;let sj:=s1.trans s2;let hd2:=s2 _ _ hd1;calc⟨zsz 0,λF hF=>?_⟩;let s0:aA H2 (upd H2 F (HO.lst [])):=aA.upd hF;let qz:upd H2 F (HO.lst []) F=some (.lst []):=aq;generalize upd H2 F (HO.lst [])=H0 at s0 qz ⊢;let BK0:=BK.same (sj.trans s0);let⟨dk,ek⟩:=BK0.ob;calc⟨_,rQ,k,dk,_,rQ,ek,rQ,k,d,ws,rQ,BK0,uq,λpu us H3 s3 hnu hpu pm _=>?_⟩;let s23:=s0.trans s3;let qy:=s3 _ _ qz;let hul:us.length=ws.length:=pm.length_eq;let huw:∀l∈us,kE l:=λl hl=>BK.az l (pm.mem_iff.mp hl);let aad:4000<=sizeLine:=by decide
 refine⟨pu,rQ,⟨_,aU.of hpu⟩,uD (K:=K) (a:=pu) (xs:=Ts us) (λn σ H4=>∃(v6 v7 v8 v9:Option V) (as:List Addr),σ=[some (.ref b),some (.ref k),some (.str (S rk)),some (.ref pd),some (.ref pj),some (.ref F),v6,v7,v8,v9]/\aA H2 H4/\H4 pu=some (.tup (Ts us))/\H4 F=some (.lst (as.map V.ref))/\eF H4 as ((us.take n).flatMap (tY (oW ws ao) (cN ao r w bi bj) ao r w rk)))
  ⟨none,none,none,none,[],rQ,s23,hpu,qy,eF.nil⟩ (λn σ H4 _ h=>by let⟨_,_,_,_,_,_,_,h2,_⟩:=h;show aU.of h2) ?_ ?_⟩
 .intro n x σ H4 hx z;let⟨v6,v7,v8,v9,as,rfl,s4,Wn,oF,hY⟩:=z;let⟨l,hl,rfl⟩:=pQ hx;let hnl:n<us.length:=(ai.mp hl).1;let hW:=huw l (aE hl);let hl2:=hW.lo;let hl9:=hW.hi;let hal:as.length<=n*(r*w*g):=by
   rw[hY.len];calc aS (zP (b:=r*w*g) λx hx=>Ih hg (by have:=(huw x (gv hx)).lo;show aI this)) ?_;show iP _ (by rw[bq];show n5 _ _)
  let hbig:(n+1)*(r*w*g)<=1999:=aS (iP _ vT) hbd;let B4:=B.mv (sj.trans s4);calc⟨_,rQ,_,rQ,b,r,w,ao,aM,bi,bj,l,rQ,B4,hl9,λps cs H5 s5 hn5 VP Qs=>?_⟩;let s25:=s4.trans s5;let hF5:=s5 _ _ oF;let nsF:ps≠F:=λz=>by rw[z,oF]at hn5;cases hn5
  let hcl:cs.length<=r*w:=by rw[Qs.len,wz];show Nat.mul_le_mul_left _ (iN vT)
  refine⟨ps,rQ,⟨_,aP.of VP⟩,j_ (K:=K) (a:=ps) (xs:=cs.map V.ref) (λm σ N=>∃(v7 v8 v9:Option V) (bs:List Addr),σ=[some (.ref b),some (.ref k),some (.str (S rk)),some (.ref pd),some (.ref pj),some (.ref F),some (.str (S l)),v7,v8,v9]/\aA H2 N/\N pu=some (.tup (Ts us))/\N ps=some (.lst (cs.map V.ref))/\dI N cs (gJ r w l.length)/\N F=some (.lst (bs.map V.ref))/\
    eF N bs ((us.take n).flatMap (tY (oW ws ao) (cN ao r w bi bj) ao r w rk)++((gJ r w l.length).take m).flatMap (oX (oW ws ao) (cN ao r w bi bj) ao r w rk l))/\bs.length<=as.length+m*g)
   ⟨v7,v8,v9,as,rQ,s25,s5 _ _ Wn,VP,Qs,hF5,by simpa using hY.mv s5,vT⟩ (λm σ N _ h=>by let⟨_,_,_,_,_,_,_,h2,_⟩:=h;show aP.of h2) ?_ ?_⟩
  .intro m x σ N hx z;let⟨v7,v8,v9,bs,rfl,s6,J,Dm,Wo,Z,Ek,hb6⟩:=z;let⟨hi,hx⟩:=rfg hx;subst hx;let⟨c,ec,hc⟩:=Wo.get hi;let⟨hc1,hc2⟩:=Ec.mp (aE ec);let hmg:as.length+(m+1)*g<=1999:=by
    let h1:(m+1)*g<=r*w*g:=iP _ vT;let h2:(n+1)*(r*w*g)=n*(r*w*g)+r*w*g:=sF _ _;lia
   let agv:(m+1)*g=m*g+g:=sF _ _;calc⟨cs[m],_,rQ,aU.of hc,rQ,_,_,rQ,_,_,rQ,rQ,?_⟩;let B6:=B.mv (sj.trans s6);calc⟨_,rQ,_,rQ,_,rQ,_,rQ,b,r,w,ao,aM,bi,bj,c.1,c.2,l,rQ,B6,by have:=O.w9;(simp[fc,gf]at *;lia),hl9,λpt ats H7 M hn7 L_ hT7=>?_⟩;let L:=s6.trans M;let hF7:=M _ _ Z;let ntF:pt≠F:=λz=>by rw[z,Z]at hn7;cases hn7
   let htl:=Wm ao r w c.1 c.2 l;let hfree:∀t∈cP ao r w c.1 c.2 l,cG t∈pD ao r w:=λt ht=>Ej hc1 hc2 ht;calc⟨_,rQ,_,rQ,_,rQ,pt,pd,pj,ats,js,cP ao r w c.1 c.2 l,kvs,oW ws ao,cN ao r w bi bj,rQ,L_,hT7,vT,L _ _ hd2,λt ht=>hkv _ (hfree t ht),L _ _ hj2,ZM.mv L,λH8 G=>⟨_,rQ,?_⟩⟩;let Mq:=L.trans G;let Mr:=G _ _ hF7;let keep:∀(H9:Hp) (cs':List Addr),aA H8 H9->eF H9 cs' (oX (oW ws ao) (cN ao r w bi bj) ao r w rk l c)->eF H9 (bs++cs') ((us.take n).flatMap (tY (oW ws ao) (cN ao r w bi bj) ao r w rk)++((gJ r w l.length).take (m+1)).flatMap (oX (oW ws ao) (cN ao r w bi bj) ao r w rk l)):=λH9 cs' s9 hY'=>by rw[Ii ec,<-bt];show(((Ek.mv M).mv G).mv s9).app hY'
   by_cases j:qe (oW ws ao) (cN ao r w bi bj) (cP ao r w c.1 c.2 l)=true
   .rw[j];let h7:(cP ao r w c.1 c.2 l).length<=7:=by
     unfold qe at j;simp only[c9,gI]at j;show j.1.2
    let Y5:oX (oW ws ao) (cN ao r w bi bj) ao r w rk l c=pU (cP ao r w c.1 c.2 l) rk:=by unfold oX;rw[if_pos j]
    calc cF ⟨_,rQ,.inl ⟨rQ,_,aP.of Mr⟩,_,rQ,_,rQ,pt,ats,cP ao r w c.1 c.2 l,rk,rQ,G _ _ L_,hT7.mv G,h7,λt ht=>yI hW ht,hrk,aS (hg _) Qw,λpl ls H9 s9 hn9 hp9 hY9=>?_⟩;let Y:=s9 _ _ Mr;let hll:ls.length<=g:=by rw[hY9.len];unfold pU;rw[ab];show hg _
    calc⟨F,pl,_,_,rQ,rQ,Y,hp9,by rw[ab,ab];lia,?_⟩;calc⟨_,_,_,bs++ls,rQ,(Mq.trans s9).bC hF,?_,by rw[aY nsF];show s9 _ _ (G _ _ (M _ _ Dm)),?_,by rw[aq,b9],?_,by rw[ar];lia⟩;.show iZ Y _ _ (s9 _ _ (G _ _ (M _ _ J)))
    .show(((Wo.mv M).mv G).mv s9).fQ (iZ Y)
    .show(keep H9 ls s9 (by rw[Y5];show hY9)).fQ (jU Y)
   .rw[qf.mpr j];let Y5:oX (oW ws ao) (cN ao r w bi bj) ao r w rk l c=[]:=by unfold oX;rw[if_neg j]
    calc cT ⟨_,_,_,bs,rQ,Mq,G _ _ (M _ _ J),G _ _ (M _ _ Dm),(Wo.mv M).mv G,Mr,?_,vT⟩;have:=keep H8 [] (aA.refl _) (by rw[Y5];show eF.nil);rw[eJ]at this;show this
  .intro σ N z;let⟨v7,v8,v9,bs,rfl,s6,J,Dm,Wo,Z,Ek,hb6⟩:=z;calc⟨_,_,_,_,bs,rQ,s6,J,Z,?_⟩;rw[ab,Wo.len,dL]at Ek;rw[Ii hl];show Ek
 .intro σ H4 z;let⟨v6,v7,v8,v9,as,rfl,s4,Wn,oF,hY⟩:=z;rw[ab,dL]at hY;let hal:as.length<=1999:=by
   rw[hY.len];calc aS (zP (b:=r*w*g) λx hx=>Ih hg (by have:=(huw x hx).lo;lia)) ?_;rw[hul];show hbd
  show⟨_,rQ,q F as us H4 (sj.trans s4) (sj.free hF) oF pm hY hal⟩
def cell (R:AA)(i j:Nat):Nat:=(R.getD i []).getD j 0
def Wq {r w:Nat}{ao:AA}(g:Blk r w ao){i j:Nat}(hi:i<r)(q:j<w):cell (bU ao w) j i=cell ao i j:=by
 let d:i<ao.length:=by rw[g.len];show hi
 unfold cell;rw[show (bU ao w).getD j []=j9 ao j by
  unfold bU;rw[av,ba,g9 q];rfl]
 unfold j9;rw[av,ba,ah d,av (l:=ao),ah d];rfl
def abL {r w:Nat}{ao:AA}(d:Blk r w ao){i j:Nat}(hi:i<r)(g:j<w):atC (bU ao w) w r (j:Int) (i:Int)=atC ao r w (i:Int) (j:Int):=by unfold atC;rw[if_pos ⟨vT,vT,vT,vT⟩,if_pos ⟨vT,vT,vT,vT⟩];show Wq d hi g
def wG (ao:AA):isFree ao=true↔∀l∈ao,∀c∈l,c=46:=by
 unfold isFree;rw[i7];constructor
 .intro h l d c j;simpa using h c (rn.mpr ⟨l,d,j⟩)
 .intro h c j;let⟨l,d,g⟩:=rn.mp j;simpa using h l d c g
def Wr {r w:Nat}{ao:AA}(d:Blk r w ao):isFree (bU ao w)=isFree ao:=by
 cases h1:isFree ao with
 | true=>show(wG _).mpr (wu d ((wG _).mp h1))
 | false=>
  cases g:isFree (bU ao w) with| false=>rfl| true=>have:=wu (Bo d) ((wG _).mp g);rw[V3 d]at this;rw[(wG _).mpr this]at h1;cases h1
def Bx {r w:Nat}{ao:AA}(d:Blk r w ao)(u v:Int):atC (bU ao w) w r v u=atC ao r w u v:=by
 by_cases h:0<=u/\u<r/\0<=v/\v<w
 .obtain⟨i,rfl⟩:∃k:Nat,u=k:=⟨u.toNat,vT⟩
  obtain⟨j,rfl⟩:∃k:Nat,v=k:=⟨v.toNat,vT⟩
  show abL d vT vT
 .let e1:atC ao r w u v=46:=if_neg h;let e2:atC (bU ao w) w r v u=46:=if_neg λz=>h ⟨z.2.2.1,z.2.2.2,z.1,z.2.1⟩;rw[e1,e2]
def abM {r w:Nat}{ao:AA}(g:Blk r w ao)(u v:Int):DY (bU ao w) w r v u=DY ao r w u v:=by unfold DY poss;simp only[lT,List.any_nil,qE,Bx g];generalize (!decide ([atC ao r w u (v-1)]=[46]))=a;generalize (!decide ([atC ao r w u (v+1)]=[46]))=b;generalize (!decide ([atC ao r w (u-1) v]=[46]))=c;generalize (!decide ([atC ao r w (u+1) v]=[46]))=d;cases a <;> cases b <;> cases c <;> cases d <;> rfl
def Ms {ao:AA}{r w:Nat}{c:Nat×Nat}:c∈tX ao r w↔(c.1<r/\c.2<w)/\frB ao r w c=true/\Aj ao r w c=true:=by unfold tX;rw[kd,Wh,c9]
def Ws {r w:Nat}{ao:AA}(d:Blk r w ao)(i j:Nat):(j,i)∈tX (bU ao w) w r↔(i,j)∈tX ao r w:=by
 rw[Ms,Ms];let e1:frB (bU ao w) w r (j,i)=frB ao r w (i,j):=by unfold frB;rw[Bx d]
 let e2:Aj (bU ao w) w r (j,i)=Aj ao r w (i,j):=abM d _ _;rw[e1,e2];show⟨λ⟨⟨a,b⟩,c⟩=>⟨⟨b,a⟩,c⟩,λ⟨⟨a,b⟩,c⟩=>⟨⟨b,a⟩,c⟩⟩
theorem BJ:∀(ls rk:List Nat) {t:List Nat},(∀c∈ls,isLet c)->t∈eE ls rk->∀c∈t,tU c
 | [],_,t,_,h,c,g=>by rw[am.mp h]at g;simp at g
 | d::ls,rk,t,hl,h,c,g=>by
  let hd:=hl d ax;let j:∀c∈ls,isLet c:=λc g=>hl c (ay _ g);unfold eE at h;rcases a9.mp h with z|z
  .split at z
   .let⟨u,q,rfl⟩:=aT.mp z;rcases a_.mp g with e|e;.rw[e];show VD hd
    .show BJ ls _ j q c e
   .simp at z
  .split at z
   .let⟨u,q,rfl⟩:=aT.mp z;rcases a_.mp g with e|e;.rw[e,(vf hd).1];show VF hd
    .show BJ ls _ j q c e
   .simp at z
theorem Mt:∀{ts:List aQ} {ss:List Nat},ts.length=ss.length->(fO ts ss).map cG=ts.map cG/\dF (fO ts ss)=ss
 | [],[],_=>⟨rQ,rQ⟩
 | [],_::_,h=>by simp at h
 | _::_,[],h=>by simp at h
 | t::ts,c::ss,h=>by
  let d:=Mt (ts:=ts) (ss:=ss) (by simpa using h);constructor
  .show cG t::(fO ts ss).map cG=cG t::ts.map cG;rw[d.1]
  .show c::dF (fO ts ss)=c::ss;rw[d.2]
theorem yJ (ao:AA)(r w i j:Nat)(l:List Nat):∀n,((mO ao r w i j l n).map λt=>t.2.1).Pairwise (·<·)/\∀t∈mO ao r w i j l n,t.1=i/\t.2.1<j+n
 | 0=>⟨List.Pairwise.nil,λt h=>by simp[mO]at h⟩
 | n+1=>by
  let⟨h1,g⟩:=yJ ao r w i j l n;rw[wB];cases e:n_ ao r w i j l n with
  | none=>simp only[Option.toList_none,eJ];show⟨h1,λt d=>⟨(g t d).1,eL (g t d).2⟩⟩
  | some u=>
   let B:u=(i,j+n,l.getD n 0):=by
    unfold n_ at e;split at e;.show(be e).symm
    .cases e
   subst B;simp only[Option.toList_some];constructor
   .rw[b9,fv];calc⟨h1,v0,λa ha b q=>?_⟩;let⟨t,d,rfl⟩:=aT.mp ha;simp only[bX,kM,am]at q;rw[q];show(g t d).2
   .intro t d;rcases a9.mp d with z|z;.show⟨(g t z).1,eL (g t z).2⟩
    .rw[am.mp z];show⟨rQ,eC _⟩
def Wt (ao:AA)(r w i j:Nat)(l:List Nat):((cP ao r w i j l).map λt=>t.2.1).Pairwise (·<·)/\∀t∈cP ao r w i j l,t.1=i:=by
 unfold cP;split;.show⟨(yJ ao r w i j l _).1,λt d=>((yJ ao r w i j l _).2 t d).1⟩
 .show⟨List.Pairwise.nil,λt h=>by simp at h⟩
structure i_ (ao:AA)(r w:Nat)(hk:List (Nat×Nat))(ts:List aQ):Prop where
 ne:ts≠[]
 len:ts.length<=7
 cell:∀t∈ts,t.1<r/\t.2.1<w/\atC ao r w t.1 t.2.1=46/\tU t.2.2
 row:∃i,∀t∈ts,t.1=i
 col:(ts.map λt=>t.2.1).Pairwise (·<·)
 hook:∃t∈ts,cG t∈hk
def yK {ws us:AA}{hk:List (Nat×Nat)}{ao:AA}{r w:Nat}{rk:List Nat}(hw:∀l∈us,kE l){x:List aQ}(h:x∈gk ws hk ao r w rk us):i_ ao r w hk x:=by
 unfold gk at h;let⟨l,Z,h⟩:=eK.mp h;unfold tY at h;let⟨c,Y,h⟩:=eK.mp h;let⟨J,L⟩:=Ec.mp Y;unfold oX at h;split at h
 .rename_i g;unfold pU at h;let⟨ss,F,rfl⟩:=aT.mp h;let O:(cP ao r w c.1 c.2 l).length=ss.length:=by rw[qU _ _ F];unfold dF;rw[ab]
  let⟨e1,e2⟩:=Mt O;let N:=yH O;unfold qe at g;simp only[c9,gI]at g;obtain⟨⟨n1,n7⟩,_,D⟩:=g;let⟨k1,k2⟩:=Wt ao r w c.1 c.2 l;let Bv:∀d∈dF (cP ao r w c.1 c.2 l),isLet d:=λd hd=>by let⟨t,j,rfl⟩:=aT.mp hd;show yI (hw l Z) j
  let B:∀t∈fO (cP ao r w c.1 c.2 l) ss,∃t'∈cP ao r w c.1 c.2 l,cG t'=cG t:=λt j=>by
   have:cG t∈(cP ao r w c.1 c.2 l).map cG:=by rw[<-e1];show cp j
   let⟨t',h1,q⟩:=aT.mp this;show⟨t',h1,q⟩
  calc⟨λz=>?_,vT,λt j=>?_,⟨c.1,λt j=>?_⟩,?_,?_⟩;.rw[z]at N;simp at N;lia
  .let⟨t',h1,q⟩:=B t j;let G:=Bu.mp (Ej J L h1);rw[q]at G;show⟨G.1.1,G.1.2,G.2,BJ _ _ Bv F _ (by rw[<-e2];show cp (f:=λt:aQ=>t.2.2) j)⟩
  .let⟨t',h1,q⟩:=B t j;have:=k2 t' h1;let M:(cG t').1=(cG t).1:=by rw[q]
   let M:t'.1=t.1:=M;lia
  .let e3:(fO (cP ao r w c.1 c.2 l) ss).map (λt=>t.2.1)=(cP ao r w c.1 c.2 l).map λt=>t.2.1:=by
    have:=congrArg (List.map Prod.snd) e1;rw[dS,dS]at this;show this
   rw[e3];show k1
  .let⟨t',h1,q⟩:=uC.mp D;let q:=nv q;have:cG t'∈(fO (cP ao r w c.1 c.2 l) ss).map cG:=by rw[e1];show cp h1
   let⟨t,j,e⟩:=aT.mp this;show⟨t,j,by rw[e];show q⟩
 .simp at h
def i_.rk {ao:AA}{r w:Nat}{hk:List (Nat×Nat)}{ts:List aQ}(h:i_ ao r w hk ts):(ts.map My.rk).Pairwise (·<·):=by let⟨i,hi⟩:=h.row;let d:=h.col;rw[fk]at d ⊢;calc kU (λ{a b} ha hb hab=>?_) d;unfold My.rk;rw[hi a ha,hi b hb];lia
def i_.rkw {ao:AA}{r w:Nat}{hk:List (Nat×Nat)}{ts:List aQ}(h:i_ ao r w hk ts):((ts.map sw).map My.rk).Pairwise (·<·):=by let⟨i,hi⟩:=h.row;let d:=h.col;rw[dS,fk];rw[fk]at d;calc kU (λ{a b} ha hb hab=>?_) d;show a.2.1*1000+a.1<b.2.1*1000+b.1;rw[hi a ha,hi b hb];lia
structure zQ (ao:AA)(r w:Nat)(hk:List (Nat×Nat))(ts:List aQ):Prop where
 ne:ts≠[]
 len:ts.length<=7
 cell:∀t∈ts,t.1<r/\t.2.1<w/\atC ao r w t.1 t.2.1=46/\tU t.2.2
 rk:(ts.map My.rk).Pairwise (·<·)
 hook:∃t∈ts,cG t∈hk
def Og {r w bi bj:Nat}{ao:AA}(g:Blk r w ao){c:Nat×Nat}(h:c∈cN (bU ao w) w r bj bi):(c.2,c.1)∈cN ao r w bi bj:=by
 unfold cN at h ⊢;rw[Wr g]at h;split at h
 .rename_i d;rw[if_pos d];rw[am.mp h];show am.mpr rfl
 .rename_i d;rw[if_neg d];show(Ws g c.2 c.1).mp h
noncomputable def kZ (ws:AA)(ao:AA)(r w bi bj:Nat)(rk:List Nat):List (List aQ):=gk ws (cN ao r w bi bj) ao r w rk ws++(gk ws (cN (bU ao w) w r bj bi) (bU ao w) w r rk ws).map λts=>ts.map sw
def i_.ok {ao:AA}{r w:Nat}{hk:List (Nat×Nat)}{ts:List aQ}(h:i_ ao r w hk ts):zQ ao r w hk ts:=⟨h.ne,h.len,h.cell,h.rk,h.hook⟩
def i_.down {ao:AA}{r w bi bj:Nat}{ts:List aQ}(j:Blk r w ao)(h:i_ (bU ao w) w r (cN (bU ao w) w r bj bi) ts):zQ ao r w (cN ao r w bi bj) (ts.map sw):=by
 refine⟨λz=>h.ne (List.map_eq_nil_iff.mp z),by rw[ab];show h.len,λt g=>?_,h.rkw,?_⟩
 .let⟨u,q,rfl⟩:=aT.mp g;let⟨a,b,c,d⟩:=h.cell u q;rw[Bx j]at c;show⟨b,a,c,d⟩
 .let⟨t,g,B⟩:=h.hook;show⟨sw t,cp g,Og j B⟩
def Gj {ws:AA}{ao:AA}{r w bi bj:Nat}{rk:List Nat}(d:Blk r w ao)(hw:∀l∈ws,kE l){x:List aQ}(h:x∈kZ ws ao r w bi bj rk):zQ ao r w (cN ao r w bi bj) x:=by
 unfold kZ at h;rcases a9.mp h with z|z;.show(yK hw z).ok
 .let⟨u,g,rfl⟩:=aT.mp z;show(yK hw g).down d
theorem zQ.yF {ao:AA}{r w:Nat}{hk:List (Nat×Nat)}{ts:List aQ}(h:zQ ao r w hk ts)(r9:r<=9)(w9:w<=9):∀t∈ts,yF t:=λt g=>by let⟨a,b,_,d⟩:=h.cell t g;show⟨vT,vT,d.lt⟩
def wF.lay {H:Hp}{a:Addr}{ts:List aQ}(h:wF H a ts)(q:ts≠[])(ok:∀t∈ts,yF t):vQ K H a ts:=by
 let⟨bs,h1,j⟩:=h;calc⟨?_,q,λt D=>⟨by have:=(ok t D).2.1;lia,(ok t D).2.2⟩⟩;calc .tup (aU.of h1) ?_;let g:∀bs:List Addr,(∀b∈bs,zO H b (tF H b)/\(tF H b).2.2<128)->jD K H 1 ((bs.map (tF H)).map kj) (bs.map V.ref):=by
  intro bs
  induction bs with| nil=>show λ_=>.nil| cons b bs ih=>intro d;let⟨B,hz⟩:=d b ax;let⟨ob,B⟩:=B;show .cons (.tup (.inl (.inr ⟨ob,B⟩)) (.cons (.int _) (.cons (.int _) (.cons (.str _ λc F=>by rw[am.mp F];show hz) .nil)))) (ih λx hx=>d x (ay _ hx))
 have:=g bs λb d=>⟨j.at_ b d,(ok _ (by rw[<-j.eq];show cp d)).2.2⟩
 rw[j.eq]at this;show this
theorem aae:∀{as bs:List aQ},(as.map My.rk).Pairwise (·<·)->(bs.map My.rk).Pairwise (·<·)->as.Perm bs->as=bs
 | [],bs,_,_,p=>(List.nil_perm.mp p).symm ▸ rfl
 | a::as,[],_,_,p=>absurd p.length_eq v0
 | a::as,b::bs,ha,hb,p=>by
  let g:=io.mp ha;let d:=io.mp hb;let e:a=b:=by
   rcases a_.mp (p.mem_iff.mp (ax (a:=a) (l:=as))) with z|z;.show z
   .rcases a_.mp (p.mem_iff.mpr (ax (a:=b) (l:=bs))) with y|y;.show y.symm
    .let h1:=d.1 (My.rk a) (cp z);let j:=g.1 (My.rk b) (cp y);lia
  subst e;rw[aae g.2 d.2 ((List.perm_cons _).mp p)]
def uw {ws us:AA}{hk:List (Nat×Nat)}{ao:AA}{r w:Nat}{rk:List Nat}(p:us.Perm ws)(x:List aQ):x∈gk ws hk ao r w rk us↔x∈gk ws hk ao r w rk ws:=by unfold gk;rw[eK,eK];show⟨λ⟨l,h1,d⟩=>⟨l,p.mem_iff.mp h1,d⟩,λ⟨l,h1,d⟩=>⟨l,p.mem_iff.mpr h1,d⟩⟩
def aaf (C B:Addr):Sp:=λvs H Q _=>∃(b k d:Addr) (ws:AA) (r w:Nat) (ao aM:AA) (bi bj g:Nat) (rk:List Nat),vs=[.ref b,.ref k,.str (S rk)]/\dH C H b r w ao aM bi bj/\lW B H k d ws/\ws.length<64/\rk.length<=100/\(∀ls,(eE ls rk).length<=g)/\g<=900/\ws.length*(r*w*g)<=1999/\
 ∀(p:Addr) (as:List Addr) (L:List (List aQ)) (H':Hp),aA H H'->H' p=some (.tup (as.map V.ref))->eF H' as L->KQ L->L.Nodup->L.length<=3998->(∀x,x∈L↔x∈kZ ws ao r w bi bj rk)->Q (.ref p) H'
def Gk {C CB f3:Addr}{xg:FuncData}(D:aL K mg "all_layings" mK ["board","book","rack"])(El:mg "set"=none)(gP:mg "sorted"=none)(bM:mg "tuple"=none)(cg:eU K C)(Gm:Meth K C "turned" f3)(Gn:dU P w K mg base fB 8 f3 xg ["self"] (Li C))(Gp:cB K xg ["self"] [])(rY:bF P w K mg base "layings_across" 12 ["board","book","rack"] (Mh C CB))(Em:bF P w K mg base "turned_laying" 1 ["laying"] Wi):bF P w K mg base "all_layings" 13 ["board","book","rack"] (aaf C CB):=by
 calc D.dD oO (λf bw A outer s H vs Q E hr h=>?_);let⟨b,k,d,ws,r,j,ao,aM,bi,bj,g,rk,rfl,B,BK,uq,hrk,hg,Qw,hbd,q⟩:=h;let O:=B.ok;let aad:4000<=sizeLine:=by decide
 calc⟨_,(aD (aZ (i:=3) oO.nd rQ (Or.inl rQ) (bf rY hr.mono rQ (aj aH (aj bx (aj bH au))))) (aD (O_ (ix:=4) (ns:=["laying"]) oO.nd rQ (Or.inl rQ) rQ (gG.of ["board","book","rack","across","down"] [] wb) (d9 (bf rY hr.mono rQ (aj (Ax aH cg.cl Gm Gn hr.mono Gp .nil jA) (aj bx (aj bH au))))) (λ_ _ _ _ _=>(oH (show (["laying","board","book","rack","across","down"]:List Str).Nodup by decide +kernel) rQ wa)) (λ_ _ _ _ _=>cZ) (λ_ _ _ _ _=>(bf Em hr.mono rQ (aj aH au)))) (aJ (aW (cO dO wa bM df (aj (aX (zU rQ hr.units) wa gP lh (aj (cO (Nu rQ hr.units) wa El PyProof.Rows.boot_set (aj (aN ac7 cD cJ) au)) au)) au)))))),?_⟩;calc⟨_,rQ,_,rQ,_,rQ,b,k,d,ws,r,j,ao,aM,bi,bj,g,rk,rQ,B,BK,uq,hrk,hg,Qw,hbd,λp1 G us1 H1 s1 hn1 hp1 Qx hY1 hl1=>?_⟩;let B1:=B.mv s1;let⟨dx,_,_,_,ex,_⟩:=id B1.ex;calc⟨_,rQ,b,dx,_,rQ,ex,rQ,b,r,j,ao,aM,bi,bj,rQ,B1,λpt Ht st Bt=>?_⟩;let s1t:=s1.trans st;calc⟨_,rQ,_,rQ,pt,k,d,ws,j,r,bU ao j,bU aM j,bj,bi,g,rk,rQ,Bt,BK.same s1t,uq,hrk,hg,Qw,by rw[fF j r];show hbd,λp2 as2 us2 H2 s2 hn2 hp2 Mu Qy hl2=>?_⟩;let Ij:=s1t.trans s2;let af5:=s2 _ _ (st _ _ hp1);let oY:=(hY1.mv st).mv s2;let hw1:∀l∈us1,kE l:=λl hl=>BK.az l (Qx.mem_iff.mp hl);let hw2:∀l∈us2,kE l:=λl hl=>BK.az l (Mu.mem_iff.mp hl);let ok2:∀x∈gk ws (cN (bU ao j) j r bj bi) (bU ao j) j r rk us2,i_ (bU ao j) j r (cN (bU ao j) j r bj bi) x:=λx hx=>yK hw2 hx;generalize hX:gk ws (cN (bU ao j) j r bj bi) (bU ao j) j r rk us2=X at Qy ok2;refine⟨p2,rQ,⟨_,aP.of hp2⟩,λL hL=>Ad (f:=fW [] 0) (tt:=iC) (K:=K) (a:=p2) (xs:=as2.map V.ref) (λi ys Z=>∃ds:List Addr,ys=ds.map V.ref/\ds.length=i/\Z L=some (.lst ys)/\aA H2 Z/\eF Z ds ((X.take i).map λts=>ts.map sw))
  ⟨[],rQ,rQ,aq,aA.upd hL,eF.nil⟩ (λi ys Z _ h=>by let⟨_,_,_,_,sm,_⟩:=h;show aP.of (sm _ _ hp2)) ?_ ?_⟩
 .intro i x ys Z hx z;let⟨ds,rfl,hdl,kW,s6,Ek⟩:=z;let⟨hi,hx⟩:=rfg hx;subst hx;obtain⟨ts,et,⟨bs,hbs,Ik⟩⟩:=Qy.get hi;let hok:=ok2 ts (aE et);let af6:=(hok.ok).yF O.w9 O.r9;let hnd:(ts.map λt=>My.rk (sw t)).Nodup:=by
   have:=hok.rkw;rw[dS]at this;show List.Pairwise.imp (λ{a b} hab=>bb hab) this
  calc ZG ?_;calc⟨_,rQ,as2[i],bs,ts,rQ,s6 _ _ hbs,Ik.mv s6,af6,hnd,by have:=hok.len;lia,λp7 bs7 ts7 J s7 L_ V_ pm7 pw7=>?_⟩;let e7:ts7=ts.map sw:=aae pw7 hok.rkw pm7;subst e7;let aef:=s7 _ _ kW;calc⟨aef,by rw[ab,hdl];lia,dw.mk (by rw[ab];show hi) ⟨ds++[p7],v0,by simp[hdl],by rw[aq],(s6.trans s7).bC hL,?_⟩⟩;rw[b8,et,b9];show((Ek.mv s7).app (eF.one (ts:=ts.map sw) ⟨bs7,L_,V_⟩)).fQ (jU aef)
 .intro ys Z z;let⟨ds,rfl,hdl,kW,s6,Ek⟩:=z;rw[ab]at hdl;rw[bE (by rw[ab];have:=Qy.len;lia)]at Ek;let af7:=s6 _ _ af5;let af8:=oY.mv s6;calc⟨_,rQ,_,rQ,p1,L,_,_,rQ,rQ,af7,kW,by rw[ab,ab];lia,λpc hpc=>?_⟩;let k7:aA Z (upd Z pc (HO.lst (G.map V.ref++ds.map V.ref))):=aA.upd hpc;let aeg:upd Z pc (HO.lst (G.map V.ref++ds.map V.ref)) pc=some (.lst ((G++ds).map V.ref)):=by rw[aq,b9]
  let yL:=(af8.app Ek).mv k7;let sH7:=(Ij.trans s6).trans k7;generalize upd Z pc (HO.lst (G.map V.ref++ds.map V.ref))=J at k7 aeg yL sH7 ⊢;let Y:∀x,x∈(gk ws (cN ao r j bi bj) ao r j rk us1++X.map λts=>ts.map sw)↔x∈kZ ws ao r j bi bj rk:=λx=>by
   unfold kZ;rw[a9,a9,uw Qx,<-hX,aT,aT];constructor
   .rintro(z|⟨u,hu,rfl⟩);.show .inl z
    .show .inr ⟨u,(uw Mu u).mp hu,rQ⟩
   .rintro(z|⟨u,hu,rfl⟩);.show .inl z
    .show .inr ⟨u,(uw Mu u).mpr hu,rQ⟩
  generalize hM:(gk ws (cN ao r j bi bj) ao r j rk us1++X.map λts=>ts.map sw)=M at yL Y;let hlay:∀a∈G++ds,vQ K J a (lO J a):=λa ha=>by
   let hm:lO J a∈M:=by rw[<-yL.eq];show cp ha
   let hok:=Gj O.br BK.az ((Y _).mp hm);show(yL.at_ a ha).lay hok.ne (hok.yF O.r9 O.w9)
  calc⟨pc,G++ds,lO J,rQ,aP.of aeg,by rw[ar];lia,hlay,λps bs hps N hnd hall=>?_⟩;let k8:aA J (upd J ps (HO.ext (oN w ps bs))):=aA.upd hps;let af9:upd J ps (HO.ext (oN w ps bs)) ps=some (.ext (oN w ps bs)):=aq;let jP:bs.length<=G.length+ds.length:=by
   let h1:(bs.map (lO J)).length<=M.length:=hnd.length_le_of_subset (l₂:=M) λx hx=>by let⟨a,ha,rfl⟩:=aT.mp hx;rw[<-yL.eq];show cp (N a ha)
   rw[ab]at h1;rw[<-yL.len,ar]at h1;show h1
  calc⟨ps,bs,lO J,rQ,af9,vT,λa ha=>(hlay a (N a ha)).mv k8,λpq F hpq pmb up=>?_⟩;let k9:=k8.bC (o:=HO.lst (F.map V.ref)) (k8.free hpq);let agw:upd (upd J ps (HO.ext (oN w ps bs))) pq (HO.lst (F.map V.ref)) pq=some (.lst (F.map V.ref)):=aq;calc⟨pq,_,rQ,.inl ⟨aP.of aq,λT hT=>?_⟩⟩;let k10:=k9.bC (o:=HO.tup (F.map V.ref)) (k9.free hT);let hYf:eF (upd (upd (upd J ps (HO.ext (oN w ps bs))) pq (HO.lst (F.map V.ref))) T (HO.tup (F.map V.ref))) F (F.map (lO J)):=(eF.mk (λa ha=>yL.at_ a (N a (pmb.mem_iff.mp ha))) rQ).mv k10;calc q T F _ _ (sH7.trans k10) aq hYf up ((pmb.map (lO J)).nodup_iff.mpr hnd) (by rw[ab,pmb.length_eq];lia) λx=>?_;rw[<-Y x,(pmb.map (lO J)).mem_iff];constructor
  .intro hx;let⟨a,ha,rfl⟩:=aT.mp hx;rw[<-yL.eq];show cp (N a ha)
  .intro hx;rw[<-yL.eq]at hx;let⟨a,ha,rfl⟩:=aT.mp hx;show hall a ha
def Wu (K:W.Frag):Sp:=λvs H Q _=>∃(p a:Addr) (ls:List Nat) (ns:List Int) (k m:Nat),vs=[.ref p,.ref a,.int k,.int m]/\H p=some (.lst (Ts (ones ls)))/\R_ ls/\aP K H a (ns.map V.int)/\k<=1000/\m<=5/\
 ∀(rk:List Nat) (H':Hp),aA H H'->rk.length<=m->(rk.length<4->rk.count 63<=2)->(4<=rk.length->rk.count 63<=1)->(∀c∈rk,c=63\/isLet c)->(1<=m->1<=rk.length)->Q (.str (S rk)) H'
def abN (D:aL K mg "_law_rack" Dw ["_law_letters_here","_law_script","_law_k","_law_most"])(bB:mg "len"=none)(En:mg "min"=none)(iR:mg "int"=none)(kJ:bF P w K mg base "_law_digits" 3 ["_law_script","_law_k","_law_base","_law_many"] (DG K)):bF P w K mg base "_law_rack" 4 ["_law_letters_here","_law_script","_law_k","_law_most"] (Wu K):=by
 calc D.dD ni (λf bw A outer s H vs Q E hr h=>?_);let⟨p,a,ls,ns,k,m,rfl,hp,hA,hS,hk,Qz,q⟩:=h;let L:(Ts (ones ls)).length=ls.length:=by rw[ab,ab]
 let hl1:=hA.lo;calc⟨_,(aD (aZ (i:=4) ni.nd rQ (Or.inl rQ) (bf kJ hr.mono rQ (aj bx (aj bH (aj aB (aj aB au)))))) (aD (aZ (i:=5) ni.nd rQ (Or.inl rQ) (aX (TX rQ) wa En PyProof.Rows.boot_min (aj cD (aj (bJ fP (fG (aj aB (aj aB (aj aB (aj aB (aj aB (aj aB (aj aB (aj aB au))))))))) (aN cI (bJ fP cJ aB (λ_ _=>rfl)) aB) (λ_ _=>rfl)) au)))) (aD (aZ (i:=6) ni.nd rQ (Or.inl rQ) (bY [] wc)) (aD (eV cy rQ (d9 (eO E_ cJ (d8 aB) (d8 (aN cM aB cC)))) (bV (i:=7) ni.nd rQ (Or.inl rQ)) (aD (aZ (i:=8) ni.nd rQ (Or.inl rQ) (bJ fP aH (aN cI (aN fZ jC aB) (aX cu wa bB b7 (aj aH au))) (λ_ _=>rfl))) (aD (Ka (dz (QW.qt (adg (bW jW (aN cI jC aB) aB (bQ _)) (aaP (bW Ci (eN bP PySem.F.slot_str_count PySem.F.type_str_count Ho dZ (aj (bY [63] wc) au)) (aN cM aB (cO sJ wa iR ki (aj (gH Ci cC aB (bQ _)) au))) (bQ _))))) (aJ (aZ (i:=8) ni.nd rQ (Or.inl rQ) (bY [63] wc))) bZ)) (aJ (aZ (i:=6) ni.nd rQ (Or.inl rQ) (aN m8 dZ qG)))))) (aJ (aW dZ)))))),?_⟩;calc⟨_,rQ,_,rQ,a,ns,k,208,6,rQ,hS,hk,v_,v_,v_,λpr ds H1 s1 afW hpr hl hd=>?_⟩;let at0:jL (ds.map V.int) 0=some (.int ds[0]):=aO (j:=0) (by simp[hl]);calc⟨_,rQ,zsz 8,λt ht=>?_⟩;obtain⟨z,hz1,hz2,hz3⟩:∃z:Nat,jL [V.int 1,V.int 2,V.int 3,V.int 3,V.int 2,V.int 4,V.int 3,V.int 5] (ds[0]%8)=some (.int z)/\1<=z/\z<=5:=by
  let hm:ds[0]%8=0\/ds[0]%8=1\/ds[0]%8=2\/ds[0]%8=3\/ds[0]%8=4\/ds[0]%8=5\/ds[0]%8=6\/ds[0]%8=7:=vT;rcases hm with e|e|e|e|e|e|e|e <;> rw[e]
  .show⟨1,aO (j:=0) rQ,v_,v_⟩
  .show⟨2,aO (j:=1) rQ,v_,v_⟩
  .show⟨3,aO (j:=2) rQ,v_,v_⟩
  .show⟨3,aO (j:=3) rQ,v_,v_⟩
  .show⟨2,aO (j:=4) rQ,v_,v_⟩
  .show⟨4,aO (j:=5) rQ,v_,v_⟩
  .show⟨3,aO (j:=6) rQ,v_,v_⟩
  .show⟨5,aO (j:=7) rQ,v_,v_⟩
 let hT:upd H1 t (HO.lst [V.int 1,V.int 2,V.int 3,V.int 3,V.int 2,V.int 4,V.int 3,V.int 5]) t=some _:=aq;let s2:aA H1 (upd H1 t (HO.lst [V.int 1,V.int 2,V.int 3,V.int 3,V.int 2,V.int 4,V.int 3,V.int 5])):=aA.upd ht;generalize upd H1 t (HO.lst [V.int 1,V.int 2,V.int 3,V.int 3,V.int 2,V.int 4,V.int 3,V.int 5])=H2 at hT s2 ⊢;let Y:=s2 _ _ hpr;calc⟨_,rQ,pr,_,0,_,rQ,rQ,aP.of Y,at0,_,_,rQ,rQ,(by show (0:Int)<8;decide),t,_,_,_,rQ,rQ,aP.of hT,hz1,_,_,rQ,?_⟩;obtain⟨n,en,hnm,hn5,hn1⟩:∃n:Nat,(if (z:Int)<(m:Int) then (z:Int) else (m:Int))=(n:Int)/\n<=m/\n<=5/\(1<=m->1<=n):=by
  by_cases c:(z:Int)<(m:Int);.show⟨z,by rw[if_pos c],vT,hz3,λ_=>hz2⟩
  .show⟨m,by rw[if_neg c],af _,Qz,id⟩
 rw[en];let Ij:=s1.trans s2;calc⟨_,rQ,_,rQ,_,rQ,_,_,rQ,rQ,_,rQ,pr,_,rQ,aP.of Y,λu hu'=>?_⟩;let e1:(1:Int)+(n:Int)=((1+n:Nat):Int):=rfl;rw[e1];let Ae:(ig (ds.map V.int) (some (1:Nat)) (some ((1+n:Nat):Int))).length=n:=by rw[FQ vT vT];lia
 generalize O:ig (ds.map V.int) (some 1) (some ((1+n:Nat):Int))=xs;let Yy:xs.length=n:=by rw[<-O];show Ae
 let VJ:∀v∈xs,∃d:Int,v=.int d:=λv hv=>by rw[<-O]at hv;let⟨d,hd,e⟩:=Ay hv;show⟨d,e⟩
 let s3:aA H (upd H2 u (HO.lst xs)):=Ij.bC (Ij.free hu');refine⟨u,rQ,⟨_,aP.of aq⟩,j_ (K:=K) (a:=u) (xs:=xs) (λi σ G=>∃(v7 v8:Option V) (rk:List Nat),σ=[some (.ref p),some (.ref a),some (.int k),some (.int m),some (.ref pr),some (.int n),some (.str (S rk)),v7,v8]/\aA H G/\G u=some (.lst xs)/\rk.length=i/\rk.count 63<=(if n<4 then 2 else 1)/\∀c∈rk,c=63\/isLet c)
  ⟨none,none,[],rQ,s3,aq,rQ,cn _,λc h=>by simp at h⟩ (λi σ G _ h=>by let⟨_,_,_,_,_,h2,_⟩:=h;show aP.of h2) ?_ ?_⟩
 .intro i x σ G hi z;let⟨v7,v8,rk,rfl,Z,Wn,B,M,F⟩:=z;let hil:i<xs.length:=(ai.mp hi).1;let⟨d,rfl⟩:=VJ x (aE hi);let Lp:=Z _ _ hp;let⟨v,hv,Vs⟩:=O7 (xs:=Ts (ones ls)) (n:=ls.length) L (aI hl1) (d/8);let⟨l1,YF,rfl⟩:=aT.mp Vs;let⟨c,hcm,rfl⟩:=aT.mp YF;let hc:=hA.az c hcm;let Mv:c≠63:=by have:=hc.1;lia
  calc⟨_,rQ,_,rQ,_,_,rQ,rQ,⟨v_,v_⟩,_,rQ,p,_,rQ,.inl (aP.of Lp),_,_,rQ,rQ,by rw[L];show (0:Int)<(ls.length:Int);lia,p,_,_,.str (S [c]),rQ,rQ,aP.of Lp,by rw[L];show hv,?_⟩;refine⟨λσ' H'=>H'=G/\∃z:Nat,(z=63\/isLet z)/\(rk++[z]).count 63<=(if n<4 then 2 else 1)/\σ'=[some (.ref p),some (.ref a),some (.int k),some (.int m),some (.ref pr),some (.int n),some (.str (S rk)),some (.int d),some (.str (S [z]))],?_,?_⟩
  .let N:(rk++[c]).count 63<=(if n<4 then 2 else 1):=by rw[ui,List.count_singleton];simpa [Mv] using M
   calc⟨_,rQ,_,_,rQ,rQ,(by show (0:Int)<6;decide),rQ,_,rQ,vq (λ_=>?_) (λ_=>⟨rQ,c,.inr hc,N,rQ⟩)⟩;calc⟨_,rQ,rQ,rk,63,rQ,rQ,_,rQ,_,_,rQ,rQ,.inr ⟨_,rQ,_,_,rQ,rQ,_,_,rQ,rQ,_,rQ,?_⟩⟩;calc vq (λg=>⟨rQ,63,.inl rQ,?_,rQ⟩) (λ_=>⟨rQ,c,.inr hc,N,rQ⟩);let g:=nv g;rw[ui,List.count_singleton];by_cases J:n<4
   .rw[aw (show (n:Int)<4 from ph hG J)]at g;simp only[if_true]at g;rw[if_pos J];simp;lia
   .rw[al (show ¬(n:Int)<4 by lia)]at g;simp only[a6,if_false]at g;rw[if_neg J];simp;lia
  .intro σ' H' z;let⟨rfl,z,hz,hzc,rfl⟩:=z;calc⟨_,rQ,_,rQ,rk,[z],rQ,rQ,aI (aK (by simp;lia)),?_⟩;calc⟨_,_,rk++[z],rQ,Z,Wn,by simp[B],hzc,λe he=>?_⟩;rcases a9.mp he with y|y;.show F e y
   .rw[am.mp y];show hz
 .intro σ G z;let⟨v7,v8,rk,rfl,Z,Wn,B,M,F⟩:=z;rw[Yy]at B;calc⟨_,rQ,q rk G Z vT (λh=>?_) (λh=>?_) F (λh=>by rw[B];show hn1 h)⟩;.rw[if_pos (by simp_all)]at M;show M
  .rw[if_neg vT]at M;show M
def eG:List Nat->List Nat->Bool
 | [],_=>true
 | c::ss,rk=>decide (bK c∈rk)&&eG ss (rk.erase (bK c))
theorem jK:∀{ss rk:List Nat},eG ss rk=true↔∀d,(ss.map bK).count d<=rk.count d
 | [],rk=>by simp[eG]
 | c::ss,rk=>by
  unfold eG;rw[c9,gI,jK (ss:=ss)];constructor
  .rintro⟨h,k⟩ d;have:=k d;rw[List.count_erase]at this;rw[bX,my];by_cases z:bK c=d
   .subst z;have:=oQ.mpr h;simp only[beq_self_eq_true,if_true]at *
    lia
   .simp only[show (bK c==d)=false by simpa using z,a6,if_false]at *
    lia
  .intro k;refine⟨oQ.mp ?_,λd=>?_⟩
   .have:=k (bK c);rw[bX,my]at this;simp only[beq_self_eq_true,if_true]at this;lia
   .have:=k d;rw[bX,my]at this;rw[List.count_erase];by_cases z:bK c=d
    .subst z;simp only[beq_self_eq_true,if_true]at *
     lia
    .simp only[show (bK c==d)=false by simpa using z,a6,if_false]at *
     lia
def pF:List Nat->List Nat->Prop
 | [],ss=>ss=[]
 | c::ls,ss=>∃s r,ss=s::r/\(s=c\/s=PyProof.Rows.up1 c)/\pF ls r
theorem Gq:∀{ls rk ss:List Nat},(∀c∈ls,isLet c)->(ss∈eE ls rk↔pF ls ss/\eG ss rk=true)
 | [],rk,ss,_=>by
  unfold eE pF;constructor
  .intro h;rw[am.mp h];show⟨rQ,rQ⟩
  .rintro⟨rfl,_⟩;show am.mpr rfl
 | c::ls,rk,ss,hl=>by
  let q:=vf (hl c ax);let g:∀{rk ss:List Nat},ss∈eE ls rk↔pF ls ss/\eG ss rk=true:=λ{rk ss}=>Gq λd hd=>hl d (ay _ hd);let e1:=q.2.2.1;let e2:=q.2.1;unfold eE pF;rw[a9];constructor
  .rintro(h|h)
   .split at h
    .let⟨r,j,rfl⟩:=aT.mp h;let⟨a,b⟩:=g.mp j;calc⟨⟨c,r,rQ,.inl rQ,a⟩,?_⟩;unfold eG;rw[e1,b,Bool.and_true];show aw ‹_›
    .simp at h
   .split at h
    .let⟨r,j,rfl⟩:=aT.mp h;let⟨a,b⟩:=g.mp j;calc⟨⟨PyProof.Rows.up1 c,r,rQ,.inr rQ,a⟩,?_⟩;unfold eG;rw[e2,b,Bool.and_true];show aw ‹_›
    .simp at h
  .rintro⟨⟨s,r,rfl,h,d⟩,k⟩;unfold eG at k;rw[c9,gI]at k;rcases h with rfl|rfl
   .rw[e1]at k;calc .inl ?_;rw[if_pos k.1];show cp (g.mpr ⟨d,k.2⟩)
   .rw[e2]at k;calc .inr ?_;rw[if_pos k.1];show cp (g.mpr ⟨d,k.2⟩)
theorem pF.set:∀{ls ss:List Nat} {k d:Nat},pF ls ss->(∀c∈ls,isLet c)->ss[k]?=some d->isLet d->pF ls (ss.set k (PyProof.Rows.up1 d))
 | [],ss,k,d,h,_,e,_=>by let h:ss=[]:=h;rw[h]at e;simp at e
 | c::ls,ss,k,d,h,hl,e,hd=>by
  let⟨s,r,rfl,hs,h⟩:=h;cases k with
  | zero=>
   let e:s=d:=by simpa using e
   subst e;calc⟨PyProof.Rows.up1 s,r,rQ,.inr ?_,h⟩;rcases hs with rfl|rfl;.rfl
   .have:=vf (hl c ax);let h1:=this.1;let g:=hl c ax;unfold isLet at hd g;lia
  | succ k=>show⟨s,r.set k (PyProof.Rows.up1 d),rQ,hs,h.set (λx hx=>hl x (ay _ hx)) (by simpa using e) hd⟩
def Il {ts:List aQ}{ss:List Nat}(h:ss.length=ts.length):dF (fO ts ss)=ss:=by unfold dF fO;rw[List.map_zipWith];show rj (by simp[h]) λi h1 d=>by simp
def aei (ts:List aQ):dF (ts.map sw)=dF ts:=by unfold dF;rw[dS];rfl
def xq (ts:List aQ)(k d:Nat):List aQ:=ts.set k ((ts.getD k (0,0,0)).1,(ts.getD k (0,0,0)).2.1,PyProof.Rows.up1 d)
theorem yM:∀{ts:List aQ} {ss:List Nat} {k d:Nat},ss.length=ts.length->k<ts.length->xq (fO ts ss) k d=fO ts (ss.set k (PyProof.Rows.up1 d))
 | [],_,_,_,_,h=>absurd h (gV _)
 | _::_,[],_,_,h,_=>by cases h
 | _::_,_::_,0,_,_,_=>rfl
 | t::ts,s::ss,k+1,d,h,hk=>congrArg (λz=>(t.1,t.2.1,s)::z) (yM (ts:=ts) (ss:=ss) (k:=k) (d:=d) (Nat.succ.inj h) (Nat.lt_of_succ_lt_succ hk))
def aej {ts:List aQ}{k d:Nat}(hk:k<ts.length):xq (ts.map sw) k d=(xq ts k d).map sw:=by unfold xq;rw[sC];congr 1;simp[List.getD,hk,sw]
def rZ {ws ao:AA}{r w bi bj:Nat}{rk:List Nat}(hw:∀l∈ws,kE l){x:List aQ}(h:x∈kZ ws ao r w bi bj rk):eG (dF x) rk=true/\(∀rk',eG (dF x) rk'=true->x∈kZ ws ao r w bi bj rk')/\∀k d rk',(dF x)[k]?=some d->isLet d->eG ((dF x).set k (PyProof.Rows.up1 d)) rk'=true->xq x k d∈kZ ws ao r w bi bj rk':=by
 let q:∀(hk:List (Nat×Nat)) (ao:AA) (r w:Nat) (x:List aQ),x∈gk ws hk ao r w rk ws->∃(T:List aQ) (ss:List Nat),x=fO T ss/\ss.length=T.length/\pF (dF T) ss/\(∀c∈dF T,isLet c)/\eG ss rk=true/\∀rk' g,pF (dF T) g->eG g rk'=true->fO T g∈gk ws hk ao r w rk' ws:=by
  intro hk ao r w x h;unfold gk at h;let⟨l,j,h⟩:=eK.mp h;unfold tY at h;let⟨c,Y,h⟩:=eK.mp h;unfold oX at h;split at h
  .rename_i D;unfold pU at h;let⟨ss,G,rfl⟩:=aT.mp h;let L:∀d∈dF (cP ao r w c.1 c.2 l),isLet d:=λd hd=>by
    let⟨t,N,rfl⟩:=aT.mp hd;show yI (hw l j) N
   let⟨h1,B⟩:=(Gq L).mp G;calc⟨_,ss,rQ,by rw[qU _ _ G];unfold dF;rw[ab],h1,L,B,λrk' g d' O=>?_⟩;calc eK.mpr ⟨l,j,eK.mpr ⟨c,Y,?_⟩⟩;unfold oX;rw[if_pos D];show cp ((Gq L).mpr ⟨d',O⟩)
  .simp at h
 unfold kZ at h ⊢;rcases a9.mp h with z|z
 .let⟨T,ss,rfl,hn,h1,j,B,F⟩:=q _ _ _ _ _ z;rw[Il hn];calc⟨B,λrk' f=>kC _ (F rk' ss h1 f),λk d rk' e hd f=>kC _ ?_⟩;let hk:k<ss.length:=(ai.mp e).1;rw[yM hn vT];show F rk' _ (h1.set j e hd) f
 .let⟨u,M,rfl⟩:=aT.mp z;let⟨T,ss,rfl,hn,h1,j,B,F⟩:=q _ _ _ _ _ M;rw[aei,Il hn];calc⟨B,λrk' f=>cK _ (cp (F rk' ss h1 f)),λk d rk' e hd f=>cK _ ?_⟩;let hk:k<ss.length:=(ai.mp e).1;let J:k<(fO T ss).length:=by rw[yH hn.symm];lia
  rw[aej J,yM hn vT];show cp (F rk' _ (h1.set j e hd) f)
def QD {ws ao:AA}{r w bi bj:Nat}{rk rk':List Nat}(hw:∀l∈ws,kE l)(g:∀d,rk'.count d<=rk.count d)(x:List aQ):x∈kZ ws ao r w bi bj rk'↔x∈kZ ws ao r w bi bj rk/\eG (dF x) rk'=true:=by
 constructor
 .intro h;let f:=(rZ hw h).1;show⟨(rZ hw h).2.1 rk (jK.mpr λd=>aS (jK.mp f d) (g d)),f⟩
 .rintro⟨h,f⟩;show(rZ hw h).2.1 rk' f
def all_nil {ws ao:AA}{r w bi bj:Nat}(hw:∀l∈ws,kE l)(d:Blk r w ao)(x:List aQ):x∉kZ ws ao r w bi bj []:=λh=>by
 let ne:=(Gj d hw h).ne;let f:=(rZ hw h).1;cases x with| nil=>show ne rfl| cons t x=>unfold dF at f;rw[bX]at f;unfold eG at f;simp at f
def abO {ss R:List Nat}{k d:Nat}(e:ss[k]?=some d)(hd:isLet d)(f:eG ss (d::R)=true):eG (ss.set k (PyProof.Rows.up1 d)) (63::R)=true:=by
 let⟨h1,D,j,_⟩:=vf hd;calc jK.mpr λc=>?_;let B:=jK.mp f c;let⟨hk,q⟩:=ai.mp e;rw[sC,D,List.count_set (by rw[ab];show hk),rl,q,j,my];rw[my]at B;let g:d≠63:=by unfold isLet at hd;lia
 by_cases z:d=c
 .subst z;let p:0<(ss.map bK).count d:=oQ.mpr (aT.mpr ⟨d,aE e,j⟩);simp only[beq_self_eq_true,if_true,show (63==d)=false by simpa using ie g,a6,if_false]at *
  lia
 .simp only[show (d==c)=false by simpa using z,a6,if_false]at *
  by_cases y:63=c
  .subst y;simp only[beq_self_eq_true,if_true]at *
   lia
  .simp only[show (63==c)=false by simpa using y,a6,if_false]at *
   lia
def at2 {a b:V}(c:Bool):jL [a,b] (if c=true then 1 else 0:Int)=some (if c=true then b else a):=by cases c <;> rfl
def Mw (c:Nat):c∈[65,66,67,68,69,70,71,72,73,74,75,76,77,78,79,80,81,82,83,84,85,86,87,88,89,90]↔65<=c/\c<=90:=by
 calc⟨(by decide:∀c∈[65,66,67,68,69,70,71,72,73,74,75,76,77,78,79,80,81,82,83,84,85,86,87,88,89,90],65<=c/\c<=90) c,λh=>?_⟩;have:=(by decide:∀k:Fin 26,65+k.val∈[65,66,67,68,69,70,71,72,73,74,75,76,77,78,79,80,81,82,83,84,85,86,87,88,89,90]) ⟨c-65,vT⟩
 rwa [show 65+(c-65)=c by lia]at this
def Eo:Sp:=λvs H Q _=>∃(p:Addr) (bs:List Addr) (ts:List aQ) (rk:List Nat),vs=[.ref p,.str (S rk)]/\H p=some (.tup (bs.map V.ref))/\fj H bs ts/\ts.length<=7/\rk.length<=100/\∀H',aA H H'->Q (.bl (eG (dF ts) rk)) H'
def abP (D:aL K mg "_law_fits" Dy ["_law_laying","_law_rack_here"])(iR:mg "int"=none):bF P w K mg base "_law_fits" 1 ["_law_laying","_law_rack_here"] Eo:=by
 calc D.dD oU (λf bw A outer s H vs Q E hr h=>?_);let⟨p,bs,ts,rk,rfl,hp,hL,h7,M,q⟩:=h;let hal:=hL.len;calc⟨_,(aD (aZ (i:=2) oU.nd rQ (Or.inl rQ) bx) (aD (eV cy rQ (iJ aH) (Yp rQ (dX (bV (i:=3) oU.nd rQ (Or.inl rQ)) (dX (bV (i:=4) oU.nd rQ (Or.inl rQ)) (dX (bV (i:=5) oU.nd rQ (Or.inl rQ)) oJ)))) (aD (aZ (i:=6) oU.nd rQ (Or.inl rQ) (bJ fP (abm [63] wc cC) (cO sJ wa iR ki (aj (gH JZ (ZX cC) (bY [65,66,67,68,69,70,71,72,73,74,75,76,77,78,79,80,81,82,83,84,85,86,87,88,89,90] wc) rQ) au)) (λ_ _=>rfl))) (aD (dz (bW U0 (ZX dZ) bH rQ) (aJ (aW je)) bZ) (aJ (aZ (i:=2) oU.nd rQ (Or.inl rQ) (eN bP PySem.F.slot_str_replace PySem.F.type_str_replace Yo bH (aj dZ (aj (abn [] wc) (aj aB au))))))))) (aJ (aW je)))),?_⟩;refine⟨_,rQ,_,rQ,p,rQ,⟨_,aU.of hp⟩,uD (K:=K) (a:=p) (xs:=bs.map V.ref) (λn σ d=>∃(Y N v5 v6:Option V) (l:List Nat),σ=[some (.ref p),some (.str (S rk)),some (.str (S l)),Y,N,v5,v6]/\aA H d/\l.length<=100/\eG (dF ts) rk=eG (dF (ts.drop n)) l)
  ⟨none,none,none,none,rk,rQ,aA.refl _,M,rQ⟩ (λn σ d _ h=>by let⟨_,_,_,_,_,_,F,_⟩:=h;show aU.of (F _ _ hp)) ?_ ?_⟩
 .intro n x σ d hx z;let⟨Y,N,v5,v6,l,rfl,F,hl,j⟩:=z;let⟨hi,hx⟩:=rfg hx;let⟨t,et,o,hT⟩:=hL.get hi;let ed:dF (ts.drop n)=t.2.2::dF (ts.drop (n+1)):=by
   let⟨hn,e⟩:=ai.mp et;rw[n0 hn,e];rfl
  calc⟨bs[n],o,_,_,_,hx.symm,F _ _ hT,λk hk=>⟨_,_,rQ,_,_,rQ,_,_,rQ,rQ,?_⟩⟩;calc⟨_,rQ,_,k,rQ,⟨_,_,_,F _ _ hT,hk⟩,λg B k2 hg hk1 Z=>?_⟩;let k3:aA d (upd d g (HO.cH B (HO.lst [.sx (S [t.2.2]) k,.sx (S [63]) k2]))):=aA.upd hg;let Wv:upd d g (HO.cH B (HO.lst [.sx (S [t.2.2]) k,.sx (S [63]) k2])) g=some (HO.cH B (HO.lst [.sx (S [t.2.2]) k,.sx (S [63]) k2])):=aq;generalize upd d g (HO.cH B (HO.lst [.sx (S [t.2.2]) k,.sx (S [63]) k2]))=H3 at k3 Wv ⊢;calc⟨_,rQ,t.2.2,_,rQ,rQ,.inr ⟨_,rQ,g,_,_,_,rQ,rQ,.inl (.inr ⟨B,Wv⟩),at2 _,?_⟩⟩;obtain⟨G,ek,hk'⟩:∃G,(if decide (t.2.2∈[65,66,67,68,69,70,71,72,73,74,75,76,77,78,79,80,81,82,83,84,85,86,87,88,89,90])=true then V.sx (S [63]) k2 else V.sx (S [t.2.2]) k)=V.sx (S [bK t.2.2]) G/\m_ B (S [bK t.2.2]) G:=by
   unfold bK;by_cases c:65<=t.2.2/\t.2.2<=90;.rw[if_pos (aw ((Mw _).mpr c)),if_pos c];show⟨k2,rQ,Z⟩
   .rw[if_neg (by rw[al (λz=>c ((Mw _).mp z))];decide),if_neg c];show⟨k,rQ,hk1⟩
  rw[ek];let J:=F.trans k3;let tk3:FN H3 (S [bK t.2.2]) G:=⟨g,B,_,Wv,hk'⟩
  calc⟨_,rQ,_,rQ,bK t.2.2,l,rQ,rQ,?_⟩;rw[ed,show eG (t.2.2::dF (ts.drop (n+1))) l=(decide (bK t.2.2∈l)&&eG (dF (ts.drop (n+1))) (l.erase (bK t.2.2))) from rfl]at j;by_cases c:bK t.2.2∈l
  .rw[aw c];calc⟨false,rQ,cT ?_⟩;calc⟨_,rQ,rQ,_,rQ,λk4 k0 O=>?_⟩;let⟨c0,c1⟩:=O _ _ tk3;calc⟨l,bK t.2.2,G,k4,rQ,rQ,c,vT,c0,c1,?_⟩;rw[aw c,Bool.true_and]at j;calc⟨_,_,_,_,_,rQ,J,?_,j⟩;have:=nL (a:=bK t.2.2) (l:=l);lia
  .rw[al c];calc⟨true,rQ,cF ?_⟩;rw[al c,ij]at j;let L:=q H3 J;rw[j]at L;show L
 .intro σ d z;let⟨Y,N,v5,v6,l,rfl,F,hl,j⟩:=z;rw[ab,hal,u7]at j;let L:=q d F;rw[j]at L;show L
def Ep (H:Hp)(a:Addr)(t:aQ):Prop:=Rd H a (.tup [.int t.1,.int t.2.1,.str (S [t.2.2])])
def Ep.Mx {H H':Hp}{a:Addr}{t:aQ}(k:Lz H H')(h:Ep H a t):Ep H' a t:=by
 rcases h with h|⟨o,h⟩;.show .inl (k _ _ (λ_=>nofun) h)
 .show .inr ⟨o,k _ _ (λ_=>nofun) h⟩
def lE {H H':Hp}(h:aA H H'):Lz H H':=λa o _ e=>h a o e
def Im (H:Hp)(a:Addr)(ts:List aQ):Prop:=∃bs:List Addr,H a=some (.tup (bs.map V.ref))/\bs.length=ts.length/\∀(i:Nat) b t,bs[i]?=some b->ts[i]?=some t->Ep H b t
def Im.Mx {H H':Hp}{a:Addr}{ts:List aQ}(k:Lz H H')(h:Im H a ts):Im H' a ts:=let ⟨bs,h1,h2,h3⟩:=h;⟨bs,k _ _ (λ_=>nofun) h1,h2,λi b t e d=>(h3 i b t e d).Mx k⟩
def fj.rd {H:Hp}{bs:List Addr}{ts:List aQ}(h:fj H bs ts):∀(i:Nat) b t,bs[i]?=some b->ts[i]?=some t->Ep H b t:=λi b t e g=>by let⟨hi,e1⟩:=ai.mp e;let⟨t',d,j⟩:=h.get hi;rw[g]at d;cases d;rw[<-e1];show .inr j
def Im.has {H:Hp}{a:Addr}{ts:List aQ}(h:Im H a ts)(ok:∀t∈ts,t.2.2<128):gD K H 3 (uf ts) (.ref a):=by
 let⟨bs,h1,d,g⟩:=h;calc .tup (aU.of h1) ?_;clear h1
 induction bs generalizing ts with
 | nil=>cases ts with| nil=>show .nil| cons t ts=>cases d
 | cons b bs ih=>cases ts with
  | nil=>cases d
  | cons t ts=>refine .cons (.tup (.inl (g 0 b t rQ rQ)) (.cons (.int _) (.cons (.int _) (.cons (.str _ λc j=>by rw[am.mp j];show ok t ax) .nil)))) (ih (λx hx=>ok x (ay _ hx)) (Nat.succ.inj d) λi b t e q=>g (i+1) b t e q)
def abQ {xs:List V}{b:Nat}(h:b<=xs.length):ig xs none (some (b:Int))=xs.take b:=by unfold ig;rw[HT.m7,HT.vp,iL h];simp
def Ww {xs:List V}{a:Nat}(h:a<=xs.length):ig xs (some (a:Int)) none=xs.drop a:=by unfold ig;rw[HT.m7,HT.vp,iL h,bE (by rw[cz];lia)]
def aah:Sp:=λvs H Q _=>∃(p:Addr) (bs:List Addr) (ts:List aQ) (d:Nat),vs=[.ref p,.str (S [d])]/\H p=some (.tup (bs.map V.ref))/\fj H bs ts/\ts.length<=7/\isLet d/\
 ∀(g:Addr) (as:List Addr) (H':Hp),aA H H'->H g=none->H' g=some (.lst (as.map V.ref))->as.length<=7->(∀a∈as,∃k,(dF ts)[k]?=some d/\Im H' a (xq ts k d))->Q (.ref g) H'
def Te (D:aL K mg "_law_blanked" tR ["_law_laying","_law_letter"])(dg:mg "range"=none)(bB:mg "len"=none):bF P w K mg base "_law_blanked" 1 ["_law_laying","_law_letter"] aah:=by
 calc D.dD vZ (λf bw A outer s H vs Q E hr h=>?_);let⟨p,bs,ts,d,rfl,hp,hL,h7,hd,q⟩:=h;let hal:=hL.len;calc⟨_,(aD (aZ (i:=2) vZ.nd rQ (Or.inl rQ) (fG au)) (aD (eV cy rQ (jw wa dg (aj (aX cu wa bB b7 (aj aH au)) au)) (bV (i:=3) vZ.nd rQ (Or.inl rQ)) (aJ (dz (bW rC (bJ cR (bJ cR aH cD (λ_ _=>rfl)) aB (λ_ _=>rfl)) bx (bQ _)) (aJ (iG (eN dQ fN fR ju bH (aj (aN Pb (aN Pb (eO Pg aH iH (d8 cD)) (dN (aj (dN (aj (bJ cR (bJ cR aH cD (λ_ _=>rfl)) aB (λ_ _=>rfl)) (aj (bJ cR (bJ cR aH cD (λ_ _=>rfl)) aB (λ_ _=>rfl)) (aj (xT bP qk qo Ut bx) au)))) au))) (eO Pg aH (d8 (aN cM cD aB)) iH)) au)))) bZ))) (aJ (aW bH)))),?_⟩;calc⟨zsz 0,λF hF=>?_⟩;let s0:aA H (upd H F (HO.lst [])):=aA.upd hF;let qz:upd H F (HO.lst []) F=some (.lst []):=aq;generalize upd H F (HO.lst [])=H0 at s0 qz ⊢;calc⟨_,rQ,p,_,rQ,.inr (aU.of (s0 _ _ hp)),?_⟩;rw[ab];calc⟨_,rQ,vT,vT,?_⟩;rw[cS];refine mZ (lo:=0) (n:=bs.length) (λn σ J=>∃(v3:Option V) (as:List Addr),σ=[some (.ref p),some (.str (S [d])),some (.ref F),v3]/\aA H J/\J F=some (.lst (as.map V.ref))/\as.length<=n/\∀a∈as,∃k,(dF ts)[k]?=some d/\Im J a (xq ts k d))
  ⟨none,[],rQ,s0,qz,af _,λa h=>by simp at h⟩ ?_ ?_
 .intro n σ J hn z;let⟨v3,as,rfl,G,M,has,hA⟩:=z;rw[sD];let B:=G _ _ hp;let⟨t,et,o,hT⟩:=hL.get hn;let hn':n<ts.length:=vT;let est:(dF ts)[n]?=some t.2.2:=by unfold dF;rw[ba,et];rfl
  let L:jL (bs.map V.ref) ((n:Nat):Int)=some (.ref bs[n]):=aO (by rw[ba,ah hn];rfl);let hT2:aU K J bs[n] [.int t.1,.int t.2.1,.str (S [t.2.2])]:=.inl (.inr ⟨o,G _ _ hT⟩);calc⟨_,rQ,_,rQ,p,_,_,_,rQ,rQ,aU.of B,L,bs[n],_,_,_,rQ,rQ,hT2,aO (j:=2) rQ,_,rQ,[t.2.2],[d],rQ,rQ,?_⟩;by_cases c:t.2.2=d
  .rw[aw (by rw[c])];calc⟨true,rQ,cF ?_⟩;calc⟨_,rQ,.inl ⟨rQ,_,aP.of M⟩,?_⟩;calc⟨_,rQ,_,rQ,_,rQ,p,_,rQ,B,λp1 N s3 h3=>?_⟩;let Y:aU K N bs[n] [.int t.1,.int t.2.1,.str (S [t.2.2])]:=.inl (.inr ⟨o,s3 _ _ (G _ _ hT)⟩);let hp3:=s3 _ _ B;calc⟨_,rQ,_,rQ,p,_,_,_,rQ,rQ,aU.of hp3,L,bs[n],_,_,_,rQ,rQ,Y,aO (j:=0) rQ,_,rQ,_,rQ,p,_,_,_,rQ,rQ,aU.of hp3,L,bs[n],_,_,_,rQ,rQ,Y,aO (j:=1) rQ,_,rQ,rQ,[d],rQ,rQ,by show 1<=1000;decide,λx hx=>?_,zsz 3,λg hg=>?_⟩;.rw[am.mp hx];unfold isLet at hd;lia
   let k4:aA N (upd N g (HO.tup [.int t.1,.int t.2.1,.str (S ([d].map PyProof.Rows.up1))])):=aA.upd hg;let LR:upd N g (HO.tup [.int t.1,.int t.2.1,.str (S ([d].map PyProof.Rows.up1))]) g=some (HO.tup [.int t.1,.int t.2.1,.str (S ([d].map PyProof.Rows.up1))]):=aq;show 1<=sizeLine/\_;generalize upd N g (HO.tup [.int t.1,.int t.2.1,.str (S ([d].map PyProof.Rows.up1))])=H4 at k4 LR ⊢;calc⟨v_,λp2 n2=>?_⟩;let e5:upd H4 p2 (HO.tup [.ref g]) p2=some (.tup [.ref g]):=aq;let k5:aA H4 (upd H4 p2 (HO.tup [.ref g])):=aA.upd n2;generalize upd H4 p2 (HO.tup [.ref g])=H5 at e5 k5 ⊢;let hl1:(ig (bs.map V.ref) none (some (n:Int)))=(bs.map V.ref).take n:=abQ (by rw[ab];lia);let hl3:(ig (bs.map V.ref) (some ((n:Int)+1)) none)=(bs.map V.ref).drop (n+1):=Ww (a:=n+1) (by rw[ab];lia);rw[hl1]at h3;let h35:=k4.trans k5;calc⟨p1,p2,_,_,rQ,rQ,aU.of (h35 _ _ h3),aU.of e5,?_,λ_=>e5,λz=>absurd z v0,λp3 H6 s6 h6=>?_⟩;.rw[bq,ab];show aI (aK (by simp;lia))
   let s26:=(s3.trans h35).trans s6;calc⟨_,rQ,_,rQ,_,_,rQ,rQ,_,rQ,p,_,rQ,s26 _ _ B,λp4 H7 s7 Z=>?_⟩;rw[hl3]at Z;calc⟨p3,p4,_,_,rQ,rQ,aU.of (s7 _ _ h6),aU.of Z,?_,λz=>by simp at z,λ_ _=>s7 _ _ h6,λp5 H8 s8 h8=>?_⟩;.rw[ar,bq,cz,ab];show aI (aK (by simp;lia))
   let Mq:=(s26.trans s7).trans s8;let Mr:=Mq _ _ M;calc⟨F,_,_,rQ,rQ,Mr,by rw[ab];show aK vT,?_⟩;calc⟨_,as++[p5],rQ,(G.trans Mq).bC hF,by rw[aq,b9];rfl,by simp;lia,λa ha=>?_⟩;rcases a9.mp ha with z|z
   .let⟨k,e,hk⟩:=hA a z;show⟨k,e,(hk.Mx (lE Mq)).Mx (jU Mr)⟩
   .rw[am.mp z];calc⟨n,by rw[est,c],?_⟩;let e8:H8 p5=some (.tup ((bs.set n g).map V.ref)):=by
     rw[h8,sC,List.set_eq_take_append_cons_drop,if_pos (by rw[ab];show hn)];simp
    let base:Im H8 p5 (xq ts n d):=by
     calc⟨bs.set n g,e8,by unfold xq;simp[hal],λi b t' e O=>?_⟩;unfold xq at O;by_cases z:n=i
     .subst z;rw[mB vT]at e O;cases e;cases O;let et':ts.getD n (0,0,0)=t:=by rw[av,et];rfl
      rw[et'];show .inl (((k5.trans s6).trans s7).trans s8 _ _ LR)
     .rw[nB z]at e O;show(hL.rd i b t' e O).Mx (lE (G.trans Mq))
    show base.Mx (jU Mr)
  .rw[al (by simpa using c)];calc⟨false,rQ,cT ?_⟩;show⟨_,as,rQ,G,M,vT,hA⟩
 .intro σ J z;let⟨v3,as,rfl,G,M,has,hA⟩:=z;show⟨_,rQ,q F as J G hF M vT hA⟩
theorem Mz:∀{a b:List (List aQ)},KQ a->KQ b->a.Nodup->b.Nodup->(∀x∈a,∀t∈x,nQ t)->(∀x,x∈a↔x∈b)->a=b
 | [],[],_,_,_,_,_,_=>rfl
 | [],y::b,_,_,_,_,_,h=>absurd ((h y).mpr ax) v0
 | x::a,[],_,_,_,_,_,h=>absurd ((h x).mp ax) v0
 | x::a,y::b,ha,hb,na,nb,ok,h=>by
  let j:=io.mp ha;let g:=io.mp hb;let d:=fT.mp na;let B:=fT.mp nb;let e:x=y:=by
   rcases a_.mp ((h x).mp ax) with z|z;.show z
   .rcases a_.mp ((h y).mpr ax) with z'|z';.show z'.symm
    .let h1:=oP (g.1 x z);let D:=oP (j.1 y z');calc KN (ok x ax) (ok y (ay _ z')) ?_;by_cases q:iV x=iV y;.show q
     .show absurd (ad6 h1 q) D
  subst e;rw[Mz j.2 g.2 d.2 B.2 (λz hz=>ok z (ay _ hz)) λz=>⟨λhz=>?_,λhz=>?_⟩]
  .rcases a_.mp ((h z).mp (ay _ hz)) with e|e;.show absurd (e ▸ hz) d.1
   .show e
  .rcases a_.mp ((h z).mpr (ay _ hz)) with e|e;.show absurd (e ▸ hz) B.1
   .show e
def eF.has {H:Hp}{p:Addr}{as:List Addr}{L:List (List aQ)}(h:eF H as L)(hp:H p=some (.tup (as.map V.ref)))(ok:∀ts∈L,ts≠[]/\∀t∈ts,yF t):gD K H 3 (.tup (L.map uf)) (.ref p):=by
 calc .tup (aU.of hp) ?_;let g:∀bs:List Addr,(∀b∈bs,vQ K H b (lO H b))->jD K H 2 ((bs.map (lO H)).map uf) (bs.map V.ref):=by
  intro bs
  induction bs with| nil=>show λ_=>.nil| cons b bs ih=>show λd=>.cons (d b ax).1 (ih λx hx=>d x (ay _ hx))
 have:=g as λb d=>by
  let hm:lO H b∈L:=by rw[<-h.eq];show cp d
  show(h.at_ b d).lay (ok _ hm).1 (ok _ hm).2
 rw[h.eq]at this;show this
def aek (f:Nat->Nat):Nat->Nat
 | 0=>2*f 0
 | p+1=>max (aek f p+f (p+1)) (2*f (p+1))
def tBr:Nat->Nat->Nat
 | 0=>λ_=>1
 | b+1=>aek (tBr b)
def tB (p b:Nat):Nat:=tBr b p
def tB1 (b:Nat):tB 0 (b+1)=2*tB 0 b:=rfl
def tB2 (p b:Nat):tB (p+1) (b+1)=max (tB p (b+1)+tB (p+1) b) (2*tB (p+1) b):=rfl
theorem Y6:∀p b,2*tB p b<=tB p (b+1)
 | 0,b=>by rw[tB1];show af _
 | p+1,b=>by rw[tB2];lia
theorem Wx (p:Nat):∀b,1<=tB p b
 | 0=>af _
 | b+1=>by have:=Wx p b;have:=Y6 p b;lia
theorem af_:∀p b,tB p b<=tB (p+1) b
 | _,0=>af _
 | p,b+1=>by rw[tB2];lia
theorem Er:∀(ls rk:List Nat),(eE ls rk).length<=tB (rk.length-rk.count 63) (rk.count 63)
 | [],rk=>Wx _ _
 | c::ls,rk=>by
  let B:rk.count 63<=rk.length:=sK;let g:63∈rk->(eE ls (rk.erase 63)).length<=tB (rk.length-rk.count 63) (rk.count 63-1)/\1<=rk.count 63:=λh=>by let h1:=oQ.mpr h;let q:=Er ls (rk.erase 63);rw[oS h,List.count_erase_self,show rk.length-1-(rk.count 63-1)=rk.length-rk.count 63 by lia]at q;show⟨q,h1⟩
  rw[eE,ar];by_cases j:c=63
  .subst j;by_cases h:63∈rk
   .let⟨h1,d⟩:=g h;rw[if_pos h,if_pos h,ab,ab];obtain⟨b,hb⟩:∃b,rk.count 63=b+1:=⟨rk.count 63-1,vT⟩
    rw[hb]at h1 ⊢;have:=Y6 (rk.length-(b+1)) b;simp only[o0]at h1;lia
   .rw[if_neg h,if_neg h];show cn _
  .let D:c∈rk->(eE ls (rk.erase c)).length<=tB (rk.length-rk.count 63-1) (rk.count 63)/\rk.count 63<rk.length:=λh=>by
    let q:=Er ls (rk.erase c);rw[oS h,List.count_erase_of_ne (by simpa using λz=>j z.symm)]at q;let h1:rk.count 63<=(rk.erase c).length:=by rw[<-List.count_erase_of_ne (a:=63) (b:=c) (by simpa using λz=>j z.symm)];show sK
    rw[oS h]at h1;let d:=List.length_pos_of_mem h;rw[show rk.length-1-rk.count 63=rk.length-rk.count 63-1 by lia]at q;show⟨q,vT⟩
   by_cases h1:c∈rk
   .let⟨a1,a2⟩:=D h1;obtain⟨p,hp⟩:∃p,rk.length-rk.count 63=p+1:=⟨rk.length-rk.count 63-1,vT⟩
    rw[if_pos h1,ab];by_cases d:63∈rk
    .let⟨b1,b2⟩:=g d;rw[if_pos d,ab];obtain⟨b,hb⟩:∃b,rk.count 63=b+1:=⟨rk.count 63-1,vT⟩
     rw[hp,hb]at a1 b1 ⊢;rw[tB2];simp only[o0]at a1 b1;lia
    .rw[if_neg d];rw[hp]at a1 ⊢;simp only[o0]at a1;have:=af_ p (rk.count 63);show _+0<=_;lia
   .rw[if_neg h1];by_cases d:63∈rk
    .let⟨b1,b2⟩:=g d;rw[if_pos d,ab];obtain⟨b,hb⟩:∃b,rk.count 63=b+1:=⟨rk.count 63-1,vT⟩
     rw[hb]at b1 ⊢;have:=Y6 (rk.length-(b+1)) b;simp only[o0]at b1;show 0+_<=_;lia
    .rw[if_neg d];show cn _
def ael:∀n:Fin 6,∀b:Fin 3,(n.val<4\/b.val<=1)->tB (n.val-b.val) b.val<=7/\(n.val<=2->b.val<=n.val->tB (n.val-b.val) b.val<=4):=by decide
def aem (n:Nat)(hn:n<6)(b:Nat)(d:b<3)(h1:n<4->b<=2)(g:4<=n->b<=1):tB (n-b) b<=7/\(n<=2->b<=n->tB (n-b) b<=4):=ael ⟨n,hn⟩ ⟨b,d⟩ (by rcases ee n 4 with z|z;show .inl z;show .inr (g z))
def abR {rk:List Nat}(j:rk.length<=5)(h1:rk.length<4->rk.count 63<=2)(d:4<=rk.length->rk.count 63<=1):(∀ls,(eE ls rk).length<=7)/\(rk.length<=2->∀ls,(eE ls rk).length<=4):=by
 let g:rk.count 63<3:=by
  rcases ee rk.length 4 with z|z;.have:=h1 z;lia
  .have:=d z;lia
 let⟨a,b⟩:=aem rk.length vT (rk.count 63) g h1 d;show⟨λls=>aS (Er ls rk) a,λh ls=>aS (Er ls rk) (b h sK)⟩
def MF {b:Bool}{p q:Prop}(h:b=true)(x:p):if b=true then p else q:=by rw[if_pos h];show x
def wH {b:Bool}{p q:Prop}(h:b=false)(x:q):if b=true then p else q:=by rw[if_neg (by rw[h];decide)];show x
def aga (b:Bool):jL [V.int 3,V.int 2] (if b=true then 1 else 0)=some (.int ((if b=true then 2 else 3:Nat):Int)):=by
 cases b;.show aO (j:=0) rfl
 .show aO (j:=1) rfl
def Io {p:List aQ->Bool}{L:List (List aQ)}{n:Nat}{ts:List aQ}(d:L[n]?=some ts):(L.take (n+1)).filter p=(L.take n).filter p++(if p ts=true then [ts] else []):=by rw[b8,d,fq];congr 1;cases h:p ts <;> simp[h]
def abS {l:List Nat}(b:Nat):ji l none (some (b:Int))=l.take b:=by
 unfold ji;rw[HT.m7,HT.vp];simp only[tm,Nat.sub_zero];by_cases h:b<=l.length;.rw[iL h]
 .rw[q0 vT,bE (af _),bE vT]
def Ip {l:List Nat}(b:Nat):ji l (some (b:Int)) none=l.drop b:=by
 unfold ji;rw[HT.m7,HT.vp];by_cases h:b<=l.length;.rw[iL h,bE (by rw[cz];lia)]
 .rw[q0 vT,jS,List.take_zero,mI vT]
def Wy (l:List Nat)(k d:Nat):(l.take k++l.drop (k+1)).count d<=l.count d:=by
 let h:(l.take k++l.drop (k+1)).Sublist l:=by have:=List.Sublist.append (List.Sublist.refl (l.take k)) (List.drop_sublist_drop_left l (cx k));rw[cw]at this;show this
 show h.count_le d
def aen {ws ao:AA}{r w bi bj:Nat}{rk rk':List Nat}{L L2:List (List aQ)}(hw:∀l∈ws,kE l)(q:∀d,rk'.count d<=rk.count d)(up:KQ L)(nd:L.Nodup)(hm:∀x,x∈L↔x∈kZ ws ao r w bi bj rk)(g:KQ L2)(D:L2.Nodup)(j:∀x,x∈L2↔x∈kZ ws ao r w bi bj rk')(ok:∀x∈L2,∀t∈x,nQ t):L2=L.filter λts=>eG (dF ts) rk':=
 Mz g (List.Pairwise.filter _ up) D (nd.filter _) ok λx=>by rw[j,QD hw q,kd,hm]
def aeo {C CB f g0:Addr}{fd fe0:FuncData}(F:gw K "law" "law" Jx f fd)(bB:mg "len"=none)(dg:mg "range"=none)(bM:mg "tuple"=none)(iR:mg "int"=none)(cg:eU K C)(DW:oV K CB)(abT:mg "Book"=some (.ref CB))(aep:Mk K CB g0)(aer:dU P w K mg base fB 3 g0 fe0 ["self","words"] (VN K CB))(aes:cB K fe0 ["self","words"] [])(Wz:bF P w K mg base "_law_letters" 4 ["_law_script","_law_k"] (VH K))(MJ:bF P w K mg base "_law_number" 2 ["_law_script","_law_k"] (R9 K))(abU:bF P w K mg base "_law_words" 4 ["_law_letters_here","_law_script","_law_start","_law_many"] (Ld K))(abV:bF P w K mg base "_law_board" 8 ["_law_letters_here","_law_script","_law_start","_law_x"] (Lk K C))(aeu:bF P w K mg base "_law_rack" 4 ["_law_letters_here","_law_script","_law_k","_law_most"] (Wu K))(jQ:bF P w K mg base "all_layings" 13 ["board","book","rack"] (aaf C CB))(MN:bF P w K mg base "_law_fits" 1 ["_law_laying","_law_rack_here"] Eo)(WD:bF P w K mg base "_law_blanked" 1 ["_law_laying","_law_letter"] aah):nG P w K mg base fB 15 f fd ["_law_script"] (Jt K):=by
 refine F.afD jt rQ (λvs H Q E h=>?_) (λbw A outer s H vs Q E Z h=>?_)
 .let⟨a,ns,rfl,_⟩:=h;rfl
 .let⟨a,ns,rfl,hS,hn,q⟩:=h;let aad:4000<=sizeLine:=by decide
  calc⟨_,(aD (aZ (i:=1) jt.nd rQ (Or.inl rQ) (bf Wz Z.mono rQ (aj aH (aj aB au)))) (aD (aZ (i:=2) jt.nd rQ (Or.inl rQ) (bf MJ Z.mono rQ (aj aH (aj aB au)))) (aD (aZ (i:=3) jt.nd rQ (Or.inl rQ) (bf abU Z.mono rQ (aj bx (aj aH (aj aB (aj (aN cM aB (aN cI bH aB)) au)))))) (aD (aZ (i:=4) jt.nd rQ (Or.inl rQ) (bf abV Z.mono rQ (aj bx (aj aH (aj aB (aj (bf MJ Z.mono rQ (aj aH (aj aB au))) au)))))) (aD (aZ (i:=5) jt.nd rQ (Or.inr rQ) (bf aeu Z.mono rQ (aj bx (aj aH (aj aB (aj (bJ fP (fG (aj aB (aj aB au))) (cO sJ wa iR ki (aj (gH Q6 (aN qY (aX cu wa bB b7 (aj (d_ cJ rQ) au)) (aX dM wa bB b7 (aj (bJ cR (d_ cJ rQ) aB (λ_ _=>rfl)) au))) aB (bQ _)) au)) (λ_ _=>rfl)) au)))))) (aD (aZ (i:=6) jt.nd rQ (Or.inl rQ) (zu aep aer Z.mono rQ abT aes .nil jA (aj cD au))) (aD (aZ (i:=7) jt.nd rQ (Or.inl rQ) (bf jQ Z.mono rQ (aj cJ (aj dZ (aj cC au))))) (aD (dz (QW.qt (sX (bW (J6 Z.units) (bf jQ Z.mono rQ (aj cJ (aj dZ (aj (aaQ cC (ae0 acL aB)) au)))) jC (bQ _)) (pK (bW (J6 Z.units) (bf jQ Z.mono rQ (aj cJ (aj dZ (aj (bY [] wc) au)))) (dN au) (bQ _))))) (aJ (aW je)) bZ) (aD (eV cy rQ (jw wa dg (aj (aX dM wa bB b7 (aj cC au)) au)) (bV (i:=8) jt.nd rQ (Or.inl rQ)) (aD (aZ (i:=9) jt.nd rQ (Or.inr rQ) (aN m8 (eO uc cC iH (d8 qG)) (eO uc cC (d8 (aN cM qG aB)) iH))) (aJ (dz (bW (J6 Z.units) (bf jQ Z.mono rQ (aj cJ (aj dZ (aj (qv 9) au)))) (cO dO wa bM df (aj (iU (ns:=["_law_laying"]) rQ (gG.of ["_law_script","_law_some","_law_x","_law_words_here","_law_board_here","_law_rack_here","_law_book","_law_found","_law_k","_law_less",".10","_law_other_here","_law_changed"] [10] wb) (iJ jC) (λ_ _ _ _ _=>(oH (show (["_law_laying","_law_script","_law_some","_law_x","_law_words_here","_law_board_here","_law_rack_here","_law_book","_law_found","_law_k","_law_less",".10","_law_other_here","_law_changed"]:List Str).Nodup by decide +kernel) rQ wa)) (λ_ _ _ _ _=>(uF (fY (bf MN Z.mono rQ (aj aH (aj (qv 10) au)))))) (λ_ _ _ _ _=>aH)) au)) (bQ _)) (aJ (aW je)) bZ)))) (aD (dz (QW.qt (sX (bW rC (bJ Aw cC aB (λ_ _=>rfl)) (bY [63] wc) (bQ _)) (pK (bW Q6 (eN bP PySem.F.slot_str_count PySem.F.type_str_count Ho cC (aj (bY [63] wc) au)) aB (bQ _))))) (aJ (aW je)) bZ) (aD (aZ (i:=11) jt.nd rQ (Or.inl rQ) (bf jQ Z.mono rQ (aj cJ (aj dZ (aj (aN m8 (bY [63] wc) (eO uc cC (d8 aB) iH)) au))))) (aD (eV cy rQ (iJ jC) (bV (i:=10) jt.nd rQ (Or.inl rQ)) (aJ (dz (jk (fY (bf MN Z.mono rQ (aj (qv 10) (aj (eO uc cC (d8 aB) iH) au))))) (aJ (eV cy rQ (d9 (bf WD Z.mono rQ (aj (qv 10) (aj (bJ Aw cC aB (λ_ _=>rfl)) au)))) (bV (i:=12) jt.nd rQ (Or.inl rQ)) (aJ (dz (bW (Ux Z.units) (qv 12) (qv 11) rQ) (aJ (aW je)) bZ)))) bZ))) (aJ (aW (gH aeQ (aX cu wa bB b7 (aj (qv 11) au)) (aX cu wa bB b7 (aj (iU (ns:=["_law_laying"]) rQ (gG.of ["_law_script","_law_some","_law_x","_law_words_here","_law_board_here","_law_rack_here","_law_book","_law_found","_law_k","_law_less",".10","_law_other_here","_law_changed"] [10] wb) (iJ jC) (λ_ _ _ _ _=>(oH (show (["_law_laying","_law_script","_law_some","_law_x","_law_words_here","_law_board_here","_law_rack_here","_law_book","_law_found","_law_k","_law_less",".10","_law_other_here","_law_changed"]:List Str).Nodup by decide +kernel) rQ wa)) (λ_ _ _ _ _=>(uF (fY (bf MN Z.mono rQ (aj aH (aj (eO uc dZ (d8 aB) iH) au)))))) (λ_ _ _ _ _=>aH)) au)) (bQ _)))))))))))))))),?_⟩;calc⟨_,rQ,a,ns,0,rQ,hS,v_,λpl ls H1 s1 hpl hA=>?_⟩;calc⟨_,rQ,a,ns,1,rQ,s1.seq hS,v_,λx=>?_⟩;obtain⟨m,hm,hm6⟩:∃m:Nat,3+x%4=(m:Int)/\m<=6:=⟨(3+x%4).toNat,vT,vT⟩
  calc⟨_,rQ,_,rQ,_,rQ,_,_,rQ,rQ,(by show (0:Int)<4;decide),_,_,rQ,rQ,pl,a,ls,ns,3,m,by show [V.ref pl,V.ref a,V.int 3,V.int (3+x%4)]=_;rw[hm];rfl,hpl,hA,s1.seq hS,vT,vT,λpw ws H2 s2 hpw nd az rs bO=>?_⟩;let Ij:=s1.trans s2;calc⟨_,rQ,_,rQ,_,rQ,a,ns,28,rQ,Ij.seq hS,v_,λy=>⟨pl,a,ls,ns,9,y,rQ,s2 _ _ hpl,hA,Ij.seq hS,v_,λb r w' ao aM bi bj H3 s3 B=>?_⟩⟩;let tV:=Ij.trans s3;let agb:=s3 _ _ (s2 _ _ hpl);let⟨dx,pr,pm0,pb0,hb3,aev,_,_⟩:=id B.ex;let O:=B.ok;let r1:=O.r1;let r9:=O.r9;let w9:=O.w9;let hb':=O.br;let nO:(Ts ao).length=r:=by rw[ab,hb'.len]
  let h0:0<ao.length:=by rw[hb'.len];lia
  let hw0:ao[0].length=w':=hb'.j8 _ (bg _);let at0:jL (Ts ao) 0=some (.str (S ao[0])):=aO (j:=0) (qM (ah h0));let hz:∀n,n<=100->n<=sizeLine:=λn h=>aI (aK vT);calc⟨_,rQ,_,rQ,zsz 2,λt ht=>?_⟩;let k3:aA H3 (upd H3 t (HO.lst [V.int 3,V.int 2])):=aA.upd ht;let hT:upd H3 t (HO.lst [V.int 3,V.int 2]) t=some (.lst [V.int 3,V.int 2]):=aq;generalize upd H3 t (HO.lst [V.int 3,V.int 2])=H3' at k3 hT ⊢;calc⟨_,rQ,b,C,dx,_,_,rQ,k3 _ _ hb3,cg.cl,cg.nr,rQ,pr,_,rQ,.inr (aU.of (k3 _ _ aev)),_,rQ,b,C,dx,_,_,rQ,k3 _ _ hb3,cg.cl,cg.nr,rQ,pr,_,_,_,rQ,rQ,aU.of (k3 _ _ aev),at0,_,rQ,hz _ vT,_,_,rQ,rQ,.inl ⟨by rw[nO];lia,by rw[nO];lia⟩,_,_,rQ,rQ,.inr ⟨_,rQ,t,_,_,_,rQ,rQ,aP.of hT,aga _,?_⟩⟩;rw[nO,hw0];obtain⟨mm,hmm,agx,agc,agd⟩:∃mm:Nat,(if decide ((20:Int)<(r:Int)*(w':Int))=true then 2 else 3:Nat)=mm/\mm<=3/\(20<r*w'->mm<=2)/\1<=mm:=by
   by_cases c:(20:Int)<(r:Int)*(w':Int)
   .show⟨2,by rw[if_pos (aw c)],v_,λ_=>af _,v_⟩
   .show⟨3,by rw[if_neg (by rw[al c];decide)],v_,λz=>absurd (by exact_mod_cast z) c,v_⟩
  calc⟨pl,a,ls,ns,2,mm,by rw[<-hmm];rfl,k3 _ _ agb,hA,(tV.trans k3).seq hS,v_,vT,λrk H4 s4 hrl hr1 hr2 hra hrn=>?_⟩;let s34:=k3.trans s4;let agf:rk.length<=3:=vT;let hrn:=hrn agd;let Mv:=hr1 vT;let agg:=s34 _ _ (s3 _ _ hpw);calc⟨_,rQ,λk dk nk ndk nek=>?_⟩;let aew:aA H4 (upd (upd H4 dk (HO.own k)) k (HO.ins CB dk [])):=λc o e=>by rw[aY (bI e nk),aY (bI e ndk)];show e
  calc⟨k,dk,pw,ws,rQ,aq,.inl (aP.of (aew _ _ agg)),az,vT,λd xr H5 hd BK hmem hlen2 kp=>⟨rQ,?_⟩⟩;let s45:aA H4 H5:=λc o e=>kp c o (aew c o e) (bI e nk);let B5:=B.mv (s34.trans s45);let uq:xr.length<64:=vT
  let G:∀rk':List Nat,rk'.length<=rk.length->rk'.count 63<=2->∃g:Nat,(∀ls,(eE ls rk').length<=g)/\g<=900/\xr.length*(r*w'*g)<=1999:=λrk' hl hc=>by
   let⟨g7,g4⟩:=abR (rk:=rk') vT (λ_=>hc) (λh=>by lia);by_cases c:20<r*w'
   .calc⟨4,g4 (by have:=agc c;lia),v_,?_⟩;let h1:r*w'<=9*9:=i9 r9 w9;show aS (i9 (show xr.length<=6 by lia) (iP 4 h1)) v_
   .calc⟨7,g7,v_,?_⟩;show aS (i9 (show xr.length<=6 by lia) (iP 7 (show r*w'<=20 by lia))) v_
  let WK:∀{rk':List Nat} {L:List (List aQ)},(∀x,x∈L↔x∈kZ xr ao r w' bi bj rk')->∀ts∈L,zQ ao r w' (cN ao r w' bi bj) ts:=λh ts z=>Gj hb' BK.az ((h ts).mp z);let okN:∀{rk':List Nat} {L:List (List aQ)},(∀x,x∈L↔x∈kZ xr ao r w' bi bj rk')->∀ts∈L,ts≠[]/\∀t∈ts,yF t:=λh ts z=>⟨(WK h ts z).ne,(WK h ts z).yF r9 w9⟩
  let ok3:∀{rk':List Nat} {L:List (List aQ)},(∀x,x∈L↔x∈kZ xr ao r w' bi bj rk')->∀ts∈L,∀t∈ts,nQ t:=λh ts z t ht=>by have:=(okN h ts z).2 t ht;show⟨by have:=this.2.1;lia,this.2.2⟩
  let⟨g,hg,Qw,hbd⟩:=G rk (af _) Mv;calc⟨_,rQ,_,rQ,_,rQ,b,k,d,xr,r,w',ao,aM,bi,bj,g,rk,rQ,B5,BK,uq,vT,hg,Qw,hbd,λpf as L H6 s6 hpf hY up ndL agr Al=>?_⟩;let B6:=B5.mv s6;let BK6:=BK.same s6;let hlY:=hY.len;clear hg hbd;let⟨g2,hg2,agh,agi⟩:=G rk.reverse v0 (by rw[tN];show Mv);calc⟨_,rQ,_,rQ,_,rQ,_,rQ,rk,rQ,rQ,hz _ vT,b,k,d,xr,r,w',ao,aM,bi,bj,g2,rk.reverse,rQ,B6,BK6,uq,by simp;lia,hg2,agh,agi,λp2 as2 L2 H7 s7 hp2 Qy up2 Dk hl2 hm2=>?_⟩;let e2:L2=L:=Mz up2 up Dk ndL (ok3 hm2) λz=>by rw[hm2,Al,QD BK.az (rk:=rk) (rk':=rk.reverse) (λd=>by rw[tN];show af _)];show⟨λh=>h.1,λh=>⟨h,jK.mpr λd=>by rw[tN];show jK.mp (rZ BK.az h).1 d⟩⟩
  rw[e2]at Qy;let agj:=s7 _ _ hpf;let yL:=hY.mv s7;let B7:=B6.mv s7;let BK7:=BK6.same s7;calc⟨_,rQ,3,_,_,v_,Qy.has hp2 (okN Al),yL.has agj (okN Al),_,rQ,wH v0 ?_⟩;let⟨g3,Wv,agk,agl⟩:=G [] v0 v0;calc⟨_,rQ,_,rQ,b,k,d,xr,r,w',ao,aM,bi,bj,g3,[],rQ,B7,BK7,uq,v0,Wv,agk,agl,λp3 as3 L3 H8 s8 hp3 hY3 up3 nd3 hl3 Vm=>⟨zsz 0,λpe hpe=>?_⟩⟩;let e3:L3=[]:=List.eq_nil_iff_forall_not_mem.mpr λz h=>all_nil BK.az hb' z ((Vm z).mp h);subst e3;let k9:aA H8 (upd H8 pe (HO.tup [])):=aA.upd hpe;let aex:upd H8 pe (HO.tup []) pe=some (.tup []):=aq;let s69:=(s7.trans s8).trans k9;let aey:=k9 _ _ hp3;let aez:=hY3.mv k9;generalize upd H8 pe (HO.tup [])=H9 at k9 aex s69 aey aez ⊢;calc⟨3,_,_,v_,aez.has aey (λts h=>by simp at h),.tup (aU.of aex) .nil,_,rQ,wH v0 ?_⟩;let agy:=s69 _ _ hpf;calc⟨_,rQ,_,rQ,hz _ vT,_,rQ,vT,vT,?_⟩;rw[cS];refine mZ (lo:=0) (n:=rk.length) (λn σ H2=>∃(v8 v9:Option V),σ=[some (.ref a),some (.ref pl),some (.int x),some (.ref pw),some (.ref b),some (.str (S rk)),some (.ref k),some (.ref pf),v8,v9,none,none,none]/\aA H6 H2)
   ⟨none,none,rQ,s69⟩ ?_ ?_
  .intro n σ H10 hn z;let⟨v8,v9,rfl,G5⟩:=z;rw[sD];let hl1:ji rk none (some (n:Int))=rk.take n:=abS n;let hl3:ji rk (some ((n:Int)+1)) none=rk.drop (n+1):=Ip (n+1);calc⟨_,rQ,_,rQ,_,rQ,rk,rQ,hz _ vT,_,rQ,_,rQ,_,_,rQ,rQ,_,rQ,rk,rQ,hz _ vT,_,_,rQ,rQ,?_,?_⟩;.rw[hl1,hl3,bq,cz];show hz _ vT
   rw[hl1,hl3];generalize hless:rk.take n++rk.drop (n+1)=less;let hcl:∀d,less.count d<=rk.count d:=λd=>by rw[<-hless];show Wy rk n d
   let hll:less.length<=rk.length:=by rw[<-hless,ar,bq,cz];lia
   let⟨g4,LR,agm,agn⟩:=G less hll (aS (hcl 63) Mv);calc⟨_,rQ,_,rQ,_,rQ,b,k,d,xr,r,w',ao,aM,bi,bj,g4,less,rQ,B6.mv G5,BK6.same G5,uq,vT,LR,agm,agn,λp4 as4 L4 H11 s11 Lp hY4 up4 nd4 hl4 hm4=>?_⟩;let e4:=aen BK.az hcl up ndL Al up4 nd4 hm4 (ok3 hm4);let BL:=G5.trans s11;let Es:=BL _ _ hpf;let Y7:=hY.mv BL;refine⟨_,rQ,pf,rQ,⟨_,aU.of Es⟩,λM hM=>vG (f:=fW [10] 0) (tt:=_root_.L2.tB (qD Eo [] E0 (fV (dj 0) (fV (dj 10) lK)))) (te:=dj 0) (K:=K) (a:=pf) (xs:=as.map V.ref) (λi ys vg=>∃ds:List Addr,ys=ds.map V.ref/\ds.length<=i/\vg M=some (.lst ys)/\aA H11 vg/\eF vg ds ((L.take i).filter λts=>eG (dF ts) less))
    ⟨[],rQ,af _,aq,aA.upd hM,eF.nil⟩ (λi ys vg _ h=>by let⟨_,_,_,_,sm,_⟩:=h;show aU.of (sm _ _ Es)) ?_ ?_⟩
   .intro i z ys vg N z;let⟨ds,rfl,hdl,BP,D,oY⟩:=z;let⟨hi,N⟩:=rfg N;subst N;let⟨ts,et,hts⟩:=Y7.get hi;let wI:=hts.fQ (lE D);let⟨bs,hbs,Ik⟩:=id wI;let hok:=WK Al ts (aE et);calc⟨_,rQ,_,rQ,as[i],bs,ts,less,rQ,hbs,Ik,hok.len,vT,λH13 Y=>⟨_,rQ,?_⟩⟩;let BR:=Y _ _ BP;let fl:=Io (p:=λts=>eG (dF ts) less) et;by_cases hf:eG (dF ts) less=true
    .rw[if_pos hf]at fl;calc MF hf ⟨_,rQ,BR,by rw[ab];lia,dw.mk (by rw[ab];show hi) ⟨ds++[as[i]],v0,by simp;lia,by rw[aq],(D.trans Y).bC hM,?_⟩⟩;rw[fl];show((oY.mv Y).app (eF.one (wI.fQ (lE Y)))).fQ (jU BR)
    .rw[if_neg hf,eJ]at fl;show wH (by simpa using hf) (dw.mk (by rw[ab];show hi) ⟨ds,rQ,vT,BR,D.trans Y,by rw[fl];show oY.mv Y⟩)
   .intro ys vg z;let⟨ds,rfl,hdl,BP,D,oY⟩:=z;rw[ab]at hdl;rw[bE (by rw[ab];lia)]at oY;calc⟨M,_,rQ,.inl ⟨aP.of BP,λT hT=>?_⟩⟩;let k13:aA vg (upd vg T (HO.tup (ds.map V.ref))):=aA.upd hT;let aeA:upd vg T (HO.tup (ds.map V.ref)) T=some (.tup (ds.map V.ref)):=aq;generalize upd vg T (HO.tup (ds.map V.ref))=H13 at k13 aeA ⊢;let Y:=D.trans k13;rw[e4]at hY4;let okf:∀ts∈L.filter λts=>eG (dF ts) less,ts≠[]/\∀t∈ts,yF t:=λts h=>okN Al ts (kd.mp h).1;show⟨3,_,_,v_,(hY4.mv Y).has (Y _ _ Lp) okf,(oY.mv k13).has aeA okf,_,rQ,wH v0 ⟨_,_,rQ,BL.trans Y⟩⟩
  .intro σ H10 z;let⟨v8,v9,rfl,G5⟩:=z;obtain⟨J,R,rfl⟩:∃J R,rk=J::R:=by
    cases rk with| nil=>simp at hrn| cons J R=>show⟨J,R,rQ⟩
   calc⟨_,rQ,J::R,0,J,rQ,rQ,hz _ vT,aO (j:=0) rQ,[J],[63],rQ,rQ,_,rQ,?_⟩;by_cases c0:J=63;.show MF (by simp[c0]) (cF (q _))
   calc wH (by simp[c0]) ?_;calc⟨_,rQ,rQ,J::R,63,rQ,rQ,_,_,rQ,rQ,_,rQ,?_⟩;by_cases c1:1<(J::R).count 63;.show MF (aw (by exact_mod_cast c1)) (q _)
   calc wH (al (by exact_mod_cast c1)) ?_;let hc0:(J::R).count 63=R.count 63:=List.count_cons_of_ne (by simpa using c0);let hd0:isLet J:=by
    rcases hra J ax with z|z;.show absurd z c0
    .show z
   let hlR:R.length<=2:=by have:=agf;simp at this;lia
   let Tf:ji (J::R) (some (1:Int)) none=R:=Ip 1;let⟨g5,hg5,ago,agp⟩:=G (63::R) v0 (by rw[List.count_cons_self];lia);calc⟨_,rQ,_,rQ,_,rQ,_,rQ,J::R,rQ,hz _ (by simp;lia),_,_,rQ,rQ,?_,?_⟩;.rw[Tf];show hz _ (by simp;lia)
   rw[Tf];calc⟨b,k,d,xr,r,w',ao,aM,bi,bj,g5,63::R,rQ,B6.mv G5,BK6.same G5,uq,by simp;lia,hg5,ago,agp,λpo as5 L5 H11 s11 hpo hY5 up5 nd5 hl5 Qz=>?_⟩;let BL:=G5.trans s11;let Es:=BL _ _ hpf;let Y7:=hY.mv BL;refine⟨_,rQ,pf,rQ,⟨_,aU.of Es⟩,uD (K:=K) (a:=pf) (xs:=as.map V.ref) (λn σ H2=>∃(v8 v9 v10 MP:Option V),σ=[some (.ref a),some (.ref pl),some (.int x),some (.ref pw),some (.ref b),some (.str (S (J::R))),some (.ref k),some (.ref pf),v8,v9,v10,some (.ref po),MP]/\aA H11 H2)
    ⟨v8,v9,none,none,rQ,aA.refl _⟩ (λn σ H2 _ h=>by let⟨_,_,_,_,_,sm⟩:=h;show aU.of (sm _ _ Es)) ?_ ?_⟩
   .intro n z σ vg N z;let⟨v8,v9,v10,MP,rfl,D⟩:=z;let⟨hi,N⟩:=rfg N;subst N;let⟨ts,et,hts⟩:=Y7.get hi;let wI:=hts.fQ (lE D);let⟨bs,hbs,Ik⟩:=id wI;let hmt:=aE et;let hok:=WK Al ts hmt;let hsg:=rZ BK.az ((Al ts).mp hmt);calc⟨_,rQ,_,rQ,_,rQ,J::R,rQ,hz _ (by simp;lia),?_⟩;rw[Tf];calc⟨as[n],bs,ts,R,rQ,hbs,Ik,hok.len,vT,λH13 Y=>⟨_,rQ,?_⟩⟩;let afn:=Y _ _ hbs;by_cases hf:eG (dF ts) R=true;.show wH (by simp[hf]) ⟨_,_,_,_,rQ,D.trans Y⟩
    calc MF (by simp[hf]) ?_;calc⟨_,rQ,_,rQ,J::R,0,J,rQ,rQ,hz _ (by simp;lia),aO (j:=0) rQ,as[n],bs,ts,J,rQ,afn,Ik.fQ (lE Y),hok.len,hd0,λpq qs H14 s14 hq0 hq hql hqs=>?_⟩;refine⟨pq,rQ,⟨_,aP.of hq⟩,j_ (K:=K) (a:=pq) (xs:=qs.map V.ref) (λn σ H2=>∃(v8 v9 v10 MP:Option V),σ=[some (.ref a),some (.ref pl),some (.int x),some (.ref pw),some (.ref b),some (.str (S (J::R))),some (.ref k),some (.ref pf),v8,v9,v10,some (.ref po),MP]/\aA H14 H2)
     ⟨_,_,_,_,rQ,aA.refl _⟩ (λn σ H2 _ h=>by let⟨_,_,_,_,_,sm⟩:=h;show aP.of (sm _ _ hq)) ?_ ?_⟩
    .intro j z σ H15 hz2 z;let⟨v8,v9,v10,MP,rfl,WL⟩:=z;let hzm:=aE hz2;let⟨c,hcm,rfl⟩:=aT.mp hzm;let⟨kk,ek,hck⟩:=hqs c hcm;let jX:xq ts kk J∈L5:=(Qz _).mpr (hsg.2.2 kk J (63::R) ek hd0 (abO ek hd0 hsg.1));let aai:=(D.trans Y).trans (s14.trans WL);calc⟨_,rQ,_,rQ,3,uf (xq ts kk J),L5.map uf,v_,(hck.Mx (lE WL)).has ?_,(hY5.mv aai).has (aai _ _ hpo) (okN Qz),_,rQ,wH ?_ ⟨_,_,_,_,rQ,WL⟩⟩;.show λt ht=>((okN Qz _ jX).2 t ht).2.2
     .simp only[if_true,Bool.not_eq_false',gI];show cp jX
    .intro σ H15 z;let⟨v8,v9,v10,MP,rfl,WL⟩:=z;show⟨_,_,_,_,rQ,(D.trans Y).trans (s14.trans WL)⟩
   .intro σ vg z;let⟨v8,v9,v10,MP,rfl,aeB⟩:=z;let aeC:=BL.trans aeB;let aeD:=aeC _ _ hpf;let agq:=hY.mv aeC;refine⟨_,rQ,po,_,rQ,.inr (aU.of (aeB _ _ hpo)),_,rQ,pf,rQ,⟨_,aU.of aeD⟩,λM hM=>vG (f:=fW [10] 0) (tt:=_root_.L2.tB (qD Eo [] E0 (fV (dj 0) (fV (Oo J0 (dj 6) (yX (tC (.int 1))) qO) lK)))) (te:=dj 0) (K:=K) (a:=pf) (xs:=as.map V.ref) (λi ys M4=>∃ds:List Addr,ys=ds.map V.ref/\ds.length<=i/\M4 M=some (.lst ys)/\aA vg M4/\eF M4 ds ((L.take i).filter λts=>eG (dF ts) R))
     ⟨[],rQ,af _,aq,aA.upd hM,eF.nil⟩ (λi ys M4 _ h=>by let⟨_,_,_,_,sm,_⟩:=h;show aU.of (sm _ _ aeD)) ?_ ?_⟩
    .intro i z ys M4 N z;let⟨ds,rfl,hdl,BP,D,oY⟩:=z;let⟨hi,N⟩:=rfg N;subst N;let⟨ts,et,hts⟩:=agq.get hi;let wI:=hts.fQ (lE D);let⟨bs,hbs,Ik⟩:=id wI;let hok:=WK Al ts (aE et);calc⟨_,rQ,_,rQ,_,rQ,J::R,rQ,hz _ (by simp;lia),?_⟩;rw[Tf];calc⟨as[i],bs,ts,R,rQ,hbs,Ik,hok.len,vT,λH13 Y=>⟨_,rQ,?_⟩⟩;let BR:=Y _ _ BP;let fl:=Io (p:=λts=>eG (dF ts) R) et;by_cases hf:eG (dF ts) R=true
     .rw[if_pos hf]at fl;calc MF hf ⟨_,rQ,BR,by rw[ab];lia,dw.mk (by rw[ab];show hi) ⟨ds++[as[i]],v0,by simp;lia,by rw[aq],(D.trans Y).bC hM,?_⟩⟩;rw[fl];show((oY.mv Y).app (eF.one (wI.fQ (lE Y)))).fQ (jU BR)
     .rw[if_neg hf,eJ]at fl;show wH (by simpa using hf) (dw.mk (by rw[ab];show hi) ⟨ds,rQ,vT,BR,D.trans Y,by rw[fl];show oY.mv Y⟩)
    .intro ys M4 z;let⟨ds,rfl,hdl,BP,D,oY⟩:=z;rw[ab]at hdl;rw[bE (by rw[ab];lia)]at oY;calc⟨M,_,rQ,.inl (aP.of BP),_,_,rQ,rQ,?_⟩;let hle:ds.length<=as5.length:=by
      rw[oY.len,hY5.len];show List.Nodup.length_le_of_subset (ndL.filter _) λz hz=>by let⟨z1,z2⟩:=kd.mp hz;calc(Qz z).mpr ((rZ BK.az ((Al z).mp z1)).2.1 _ (jK.mpr λe=>?_));have:=jK.mp z2 e;rw[my];lia
     show Q (V.bl (decide (((ds.map V.ref).length:Int)<=((as5.map V.ref).length:Int)))) M4;rw[ab,ab,aw (by exact_mod_cast hle)];show q _
end
end My
end
namespace My
open PySem L2
section
variable {P:Program}{w:World}{K:W.Frag}{mg:Str->Option Value}{base:Heap}
structure wJ (K:W.Frag)(mg:Str->Option Value)(C f0 f1 f2 f3 f4 f5:Addr)(lH jO fd2 xg QF QH:FuncData):Prop where
 T:eU K C
 WM:mg "Board"=some (.ref C)
 M:Mk K C f0
 F0:gw K "__init__" "Board.__init__" iu f0 lH
 b0:cB K lH ["self","rows","marks","begin"] []
 F1:gw K "at" "Board.at" jF f1 jO
 b1:cB K jO ["self","row","column"] []
 m1:Meth K C "at" f1
 F2:gw K "is_free" "Board.is_free" fL f2 fd2
 b2:cB K fd2 ["self"] []
 m2:Meth K C "is_free" f2
 F3:gw K "run" "Board.run" iW f3 xg
 b3:cB K xg ["self","row","column","way"] []
 m3:Meth K C "run" f3
 F4:gw K "turned" "Board.turned" gb f4 QF
 b4:cB K QF ["self"] []
 m4:Meth K C "turned" f4
 F5:gw K "laid" "Board.laid" iw f5 QH
 b5:cB K QH ["self","laying"] []
 m5:Meth K C "laid" f5
def Y8 {h:Heap}{C f0 f1 f2 f3 f4 f5:Addr}(X:K.In h)(G:h.Ns mainGlobals mg){od0 J od1 an1 od2 Z od3 an3 od4 an4 od5 an5:Option Addr}{sl0 L sl2 sl3 sl4 sl5:Array (Option Value)}{oc0 kV0 dc0 F WQ ct0 oc1 kV1 B Qx WR N oc2 kV2 dc2 Mu WT M oc3 kV3 dc3 pm3 j ct3 oc4 kV4 D pm4 q ct4 O kV5 dc5 pm5 g Y:Value}(aC:W.nsIn K mainGlobals "Board"=some (some (.ref C)))(a0:W.findIn K (.ref C) "__init__"=some (some (.ref f0)))(i0:W.isFn K (.ref f0)=true)(l0:K.lookup f0=some ⟨oc0,od0,.func (W.fnOf "__init__" "Board.__init__" (dW iu) (b_ iu) (aF iu) .none kV0 dc0 F J WQ ct0),sl0⟩)(c0:W.codeIn K WQ "Board.__init__"=true)(k0:W.keepIn K (.ref f0)=true)(a1:W.findIn K (.ref C) "at"=some (some (.ref f1)))(i1:W.isFn K (.ref f1)=true)(l1:K.lookup f1=some ⟨oc1,od1,.func (W.fnOf "at" "Board.at" (dW jF) (b_ jF) (aF jF) .none kV1 B Qx an1 WR N),L⟩)(c1:W.codeIn K WR "Board.at"=true)(k1:W.keepIn K (.ref f1)=true)(a2:W.findIn K (.ref C) "is_free"=some (some (.ref f2)))(i2:W.isFn K (.ref f2)=true)(l2:K.lookup f2=some ⟨oc2,od2,.func (W.fnOf "is_free" "Board.is_free" (dW fL) (b_ fL) (aF fL) .none kV2 dc2 Mu Z WT M),sl2⟩)(c2:W.codeIn K WT "Board.is_free"=true)(k2:W.keepIn K (.ref f2)=true)(a3:W.findIn K (.ref C) "run"=some (some (.ref f3)))(i3:W.isFn K (.ref f3)=true)(l3:K.lookup f3=some ⟨oc3,od3,.func (W.fnOf "run" "Board.run" (dW iW) (b_ iW) (aF iW) .none kV3 dc3 pm3 an3 j ct3),sl3⟩)(c3:W.codeIn K j "Board.run"=true)(k3:W.keepIn K (.ref f3)=true)(a4:W.findIn K (.ref C) "turned"=some (some (.ref f4)))(i4:W.isFn K (.ref f4)=true)(l4:K.lookup f4=some ⟨oc4,od4,.func (W.fnOf "turned" "Board.turned" (dW gb) (b_ gb) (aF gb) .none kV4 D pm4 an4 q ct4),sl4⟩)(c4:W.codeIn K q "Board.turned"=true)(k4:W.keepIn K (.ref f4)=true)(a5:W.findIn K (.ref C) "laid"=some (some (.ref f5)))(i5:W.isFn K (.ref f5)=true)(l5:K.lookup f5=some ⟨O,od5,.func (W.fnOf "laid" "Board.laid" (dW iw) (b_ iw) (aF iw) .none kV5 dc5 pm5 an5 g Y),sl5⟩)(c5:W.codeIn K g "Board.laid"=true)(k5:W.keepIn K (.ref f5)=true)(pg:W.plainGet K C Str.empty=true)(hd:W.hasDictIn K C=true)(po:W.plainOver K C=true)(sa:W.findIn K (.ref C) "__setattr__"=some (some (.builtin "object.__setattr__")))(mk:W.makesIn K C=true)(kc:W.keepIn K (.ref C)=true)(M5:W.findIn K (.ref C) "rows"=some none)(nf1:W.findIn K (.ref C) "marks"=some none)(nf2:W.findIn K (.ref C) "begin"=some none):∃C f0 f1 f2 f3 f4 f5 lH jO fd2 xg QF QH,wJ K mg C f0 f1 f2 f3 f4 f5 lH jO fd2 xg QF QH:=by let F0:=jM (st:=iu) l0 c0 k0;let F1:=jM (st:=jF) l1 c1 k1;let F2:=jM (st:=fL) l2 c2 k2;let F3:=jM (st:=iW) l3 c3 k3;let F4:=jM (st:=gb) l4 c4 k4;let F5:=jM (st:=iw) l5 c5 k5;show⟨C,f0,f1,f2,f3,f4,f5,_,_,_,_,_,_,⟨⟨pg,hd,po,sa⟩,M5,nf1,nf2⟩,nN X G aC,⟨mk,a0,i0,kc⟩,F0,F0.binds (ps:=["self","rows","marks","begin"]) (λ_ _ _ _ _ _ us d=>L2.e4 (λ_ _ _ _=>rfl) us d),F1,F1.binds (ps:=["self","row","column"]) (λ_ _ _ _ _ _ us d=>L2.e3 (λ_ _ _=>rfl) us d),⟨a1,i1,k1⟩,F2,F2.binds (ps:=["self"]) (λ_ _ _ _ _ _ us d=>L2.e1 (λ_=>rfl) us d),⟨a2,i2,k2⟩,F3,F3.binds (ps:=["self","row","column","way"]) (λ_ _ _ _ _ _ us d=>L2.e4 (λ_ _ _ _=>rfl) us d),⟨a3,i3,k3⟩,F4,F4.binds (ps:=["self"]) (λ_ _ _ _ _ _ us d=>L2.e1 (λ_=>rfl) us d),⟨a4,i4,k4⟩,F5,F5.binds (ps:=["self","laying"]) (λ_ _ _ _ _ _ us d=>L2.e2 (λ_ _=>rfl) us d),⟨a5,i5,k5⟩⟩
structure yN (K:W.Frag)(mg:Str->Option Value)(C f0 f1 f2:Addr)(lH jO fd2:FuncData):Prop where
 T:oV K C
 WM:mg "Book"=some (.ref C)
 M:Mk K C f0
 F0:gw K "__init__" "Book.__init__" iY f0 lH
 b0:cB K lH ["self","words"] []
 F1:gw K "has" "Book.has" jJ f1 jO
 b1:cB K jO ["self","text"] []
 m1:Meth K C "has" f1
 F2:gw K "words" "Book.words" iz f2 fd2
 b2:cB K fd2 ["self"] []
 m2:Meth K C "words" f2
def abW {h:Heap}{C f0 f1 f2:Addr}(X:K.In h)(G:h.Ns mainGlobals mg){N an0 od1 F D j:Option Addr}{Z sl1 sl2:Array (Option Value)}{B J dc0 L WQ q O Y g Qx WR ct1 oc2 kV2 M Mu WT ct2:Value}(aC:W.nsIn K mainGlobals "Book"=some (some (.ref C)))(a0:W.findIn K (.ref C) "__init__"=some (some (.ref f0)))(i0:W.isFn K (.ref f0)=true)(l0:K.lookup f0=some ⟨B,N,.func (W.fnOf "__init__" "Book.__init__" (dW iY) (b_ iY) (aF iY) .none J dc0 L an0 WQ q),Z⟩)(c0:W.codeIn K WQ "Book.__init__"=true)(k0:W.keepIn K (.ref f0)=true)(a1:W.findIn K (.ref C) "has"=some (some (.ref f1)))(i1:W.isFn K (.ref f1)=true)(l1:K.lookup f1=some ⟨O,od1,.func (W.fnOf "has" "Book.has" (dW jJ) (b_ jJ) (aF jJ) .none Y g Qx F WR ct1),sl1⟩)(c1:W.codeIn K WR "Book.has"=true)(k1:W.keepIn K (.ref f1)=true)(a2:W.findIn K (.ref C) "words"=some (some (.ref f2)))(i2:W.isFn K (.ref f2)=true)(l2:K.lookup f2=some ⟨oc2,D,.func (W.fnOf "words" "Book.words" (dW iz) (b_ iz) (aF iz) .none kV2 M Mu j WT ct2),sl2⟩)(c2:W.codeIn K WT "Book.words"=true)(k2:W.keepIn K (.ref f2)=true)(pg:W.plainGet K C Str.empty=true)(hd:W.hasDictIn K C=true)(po:W.plainOver K C=true)(sa:W.findIn K (.ref C) "__setattr__"=some (some (.builtin "object.__setattr__")))(mk:W.makesIn K C=true)(kc:W.keepIn K (.ref C)=true)(M5:W.findIn K (.ref C) "held"=some none):∃C f0 f1 f2 lH jO fd2,yN K mg C f0 f1 f2 lH jO fd2:=by let F0:=jM (st:=iY) l0 c0 k0;let F1:=jM (st:=jJ) l1 c1 k1;let F2:=jM (st:=iz) l2 c2 k2;show⟨C,f0,f1,f2,_,_,_,⟨⟨pg,hd,po,sa⟩,M5⟩,nN X G aC,⟨mk,a0,i0,kc⟩,F0,F0.binds (ps:=["self","words"]) (λ_ _ _ _ _ _ us d=>L2.e2 (λ_ _=>rfl) us d),F1,F1.binds (ps:=["self","text"]) (λ_ _ _ _ _ _ us d=>L2.e2 (λ_ _=>rfl) us d),⟨a1,i1,k1⟩,F2,F2.binds (ps:=["self"]) (λ_ _ _ _ _ _ us d=>L2.e1 (λ_=>rfl) us d),⟨a2,i2,k2⟩⟩
def abX (B:mg "len"=none)(d:mg "range"=none)(D:mg "sorted"=none)(M:mg "tuple"=none)(N:mg "list"=none)(L:mg "isinstance"=none)(yx:mg "bool"=none)(q:mg "int"=none)(zM:mg "str"=none)(j:mg "all"=none)(tW:mg "any"=none)(El:mg "set"=none)(gq:mg "enumerate"=none)(Ei:mg "zip"=none)(En:mg "min"=none)(Y:∃t,mg "FREE"=some (.str (S [46]) t))(uW:∃t,mg "MARKS"=some (.str (S MK) t))(uV:∃t,mg "MOST"=some (.int 9 t))(nu:∃t,mg "LETTERS"=some (.str (S AL) t))(kY:∃t,mg "MOST_TILES"=some (.int 7 t))(wK:aL K mg "is_whole" qH ["thing"])(yO:aL K mg "is_sign" tD ["thing"])(ux:aL K mg "letter_of" o_ ["sign"])(yP:aL K mg "tile_of" tE ["sign"])(oh:aL K mg "turned_laying" j4 ["laying"])(wL:aL K mg "is_block" qI ["thing"])(wM:aL K mg "are_rows" qJ ["thing"])(uy:aL K mg "are_marks" pC ["thing"])(su:aL K mg "is_cell_of" nR ["rows","row","column"])(qg:aL K mg "is_begin_of" mz ["rows","thing"])(wN:aL K mg "is_board" qK ["rows","marks","begin"])(qj:aL K mg "column_text" mC ["rows","column"])(ql:aL K mg "turned_rows" mD ["rows"])(wO:aL K mg "cells_of" qL ["laying"])(lg:aL K mg "is_next_to_taken" iQ ["board","row","column"])(oA:aL K mg "cross_letters" j6 ["board","book","row","column","way"])(sy:aL K mg "free_cells" nT ["board"])(Gr:aL K mg "hooks" zF ["board"])(BW:aL K mg "starts" vW ["board","word"])(mX:aL K mg "letters_to_lay" jG ["board","row","column","word"])(oZ:aL K mg "letters_down" lC ["board","book"])(qm:aL K mg "can_be_laid" mG ["triples","fitting","joining"])(sE:aL K mg "sign_texts" jr ["letters","rack"])(sG:aL K mg "layings_of" nU ["triples","rack"])(mY:aL K mg "layings_across" jH ["board","book","rack"])(qp:aL K mg "all_layings" mK ["board","book","rack"])(yQ:aL K mg "is_word" tK ["text"])(sH:aL K mg "check_word" nW ["text"])(yR:aL K mg "_law_cell_at" tL ["_law_script","_law_k"])(M6:aL K mg "_law_next" Du ["_law_x"])(Gs:aL K mg "_law_other" zG ["_law_x"])(BX:aL K mg "_law_number" vX ["_law_script","_law_k"])(BZ:aL K mg "_law_digits" vY ["_law_script","_law_k","_law_base","_law_many"])(yS:aL K mg "_law_letters" tQ ["_law_script","_law_k"])(Gu:aL K mg "_law_words" zH ["_law_letters_here","_law_script","_law_start","_law_many"])(M7:aL K mg "_law_size" Dv ["_law_x"])(Gv:aL K mg "_law_board" zJ ["_law_letters_here","_law_script","_law_start","_law_x"])(M8:aL K mg "_law_rack" Dw ["_law_letters_here","_law_script","_law_k","_law_most"])(M9:aL K mg "_law_fits" Dy ["_law_laying","_law_rack_here"])(yU:aL K mg "_law_blanked" tR ["_law_laying","_law_letter"]){Z abZ ab0 ab1 ab2 O ab4:Addr}{Y9 Y_ Za Zb Zc Zd:FuncData}(G:wJ K mg Z abZ ab0 ab1 ab2 O ab4 Y9 Y_ Za Zb Zc Zd){aeE J aeG aeH:Addr}{ab5 ab6 ab7:FuncData}(g:yN K mg aeE J aeG aeH ab5 ab6 ab7){f:Addr}{fd:FuncData}(F:gw K "law" "law" Jx f fd):nG P w K mg base fB 20 f fd ["_law_script"] (Jt K):=by let c1:=Sd (P:=P) (w:=w) (base:=base) yR B;let c2:=abt (P:=P) (w:=w) (base:=base) M6;let c3:=Yw (P:=P) (w:=w) (base:=base) Gs;let c4:=Vz BX c1 c2 c3;let c5:=VB BZ d c1 c2 c3 c4;let c6:=Sg yS N c5;let c7:=NT Gu B d D N c5;let c8:=abv (P:=P) (w:=w) (base:=base) M7;let p1:=R8 (P:=P) (w:=w) (base:=base) yO B zM L;let p2:=NZ (P:=P) (w:=w) (base:=base) wK q yx L;let p3:=N5 (P:=P) (w:=w) (base:=base) wL B M zM j L uV;let p4:=N6 wM j Y p3 p1;let p5:=Le uy j uW p3;let p6:=Jf su B p2;let p7:=Ga qg B M L p6;let p8:=N7 wN B p4 p5 p7;let p9:=Gb (P:=P) (w:=w) (base:=base) qj;let pA:=Gd ql B d M p9;let g0:=Jh G.F0 G.T p8;let g1:=afm G.F1 G.T Y p6;let g2:=Sx (P:=P) (w:=w) (base:=base) G.F2 G.T j Y;let g3:=ad7 G.F3 G.T B Y p9;let g4:=V5 G.F4 G.T G.WM G.M g0 G.b0 pA;let g5:=abB G.F5 G.T N M G.WM G.M g0 G.b0;let w1:=Sh (P:=P) (w:=w) (base:=base) yQ B j;let w2:=Je sH w1;let k0:=aby g.F0 g.T w2;let k1:=ad4 (P:=P) (w:=w) (mg:=mg) (base:=base) g.F1 g.T;let k2:=YB (P:=P) (w:=w) (base:=base) g.F2 g.T D M;let x3:=Ln Gv B d M q G.WM G.M g0 G.b0 c8 c5;let x4:=Bq oA B nu G.T g.T G.m5 g5 G.b5 G.m3 g3 G.b3 g.m1 k1 g.b1;let y1:=S7 lg tW Y G.T G.m1 g1 G.b1;let y2:=Ji (P:=P) (w:=w) (base:=base) sy gq Y G.T;let y3:=YQ Gr M G.T G.m2 g2 G.b2 y2 y1;let y4:=Bs (P:=P) (w:=w) (base:=base) oh M D;let z1:=Oc (P:=P) (w:=w) (base:=base) wO;let z2:=LK (P:=P) (w:=w) (base:=base) ux;let z3:=Wj (P:=P) (w:=w) (base:=base) BW B d G.T;let z4:=zV mX B gq Y G.T G.m1 g1 G.b1 z2;let z5:=Ef oZ y2 x4;let z6:=Gg qm B j tW kY z1;let z7:=Jj (P:=P) (w:=w) (base:=base) sE yP;let z8:=Jk sG M Ei z1 z7;let z9:=zW mY g.T g.m2 k2 g.b2 z5 y3 z3 z4 z6 z8;let za:=Gk qp El D M G.T G.m4 g4 G.b4 z9 y4;let zc:=abN M8 B En q c5;let zd:=abP (P:=P) (w:=w) (base:=base) M9 q;let ze:=Te (P:=P) (w:=w) (base:=base) yU d B;show(aeo F B d M q G.T g.T g.WM g.M k0 g.b0 c6 c4 c7 x3 zc za zd ze).mono v_
end
end My
namespace PySem.W.Fast
abbrev U:=True
def tw3214488635005348291:=U
def tw7318851376612084409:=U
def tw6633215740088254456:=U
def tw7588548329916766334:=U
def tw18213983791779393396:=U
def tw1341256876948953812:=U
def tw11924186935009786693:=U
def tw11612393732457425819:=U
def tw8480947283607417702:=U
def tw10368531023852135904:=U
def tw3127532576002093475:=U
def tw11213748986286184130:=U
def tw889879108534001955:=U
def tw15161111309636260713:=U
def tw14857672345081135354:=U
def tw13609955785105244522:=U
def tw17338859150493158222:=U
def tw13939431570756980488:=U
def tw14467801017313475700:=U
def tw4247637645367112503:=U
def tw3044748776073560885:=U
def tw15934029690693433431:=U
def tw9122317974344271247:=U
def tw15656113795928491064:=U
def tw13369850728642968939:=U
def tw13196154282036809333:=U
def tw4423566718484953973:=U
def tw14090613220013593319:=U
def tw12633202820926660731:=U
def tw11212423550842088019:=U
def tw15096301440523812999:=U
def tw7079945181569384012:=U
def tw7979987445199407908:=U
def tw5055633411604919410:=U
def tw5618195166496900555:=U
def tw18220737090235514896:=U
def tw11617585595976219396:=U
def tw14549807335875459856:=U
def tw4544612624750903142:=U
def tw8636783121366859486:=U
def tw15176212943318039203:=U
def tw5853610122195487411:=U
def tw7591391332680308259:=U
def tw7817453451177384934:=U
def tw1072304294030048914:=U
def tw9676585694466821352:=U
def tw8234590843405010580:=U
def tw5742811744137701366:=U
def tw16226102048949911514:=U
def tw2617562297554808080:=U
def tw13199794215828141081:=U
def tw10467586865562002044:=U
def tw2588006174353342757:=U
def tw5538005733993035605:=U
def tw8942465852950374700:=U
def tw15224612491667735332:=U
def tw15059693195880407643:=U
def tw6978760664448625873:=U
def tw16820829751305616396:=U
def tw5207304306233257361:=U
def tw4889531439318556550:=U
def tw16798302739927268976:=U
def tw2533331048298394678:=U
def tw11613652700795365019:=U
def tw13110673712081403556:=U
def tw8332100415907618712:=U
def tw7475827224207639017:=U
def tw14055861769460124100:=U
def tw1754585635684334864:=U
def tw14659711245080856061:=U
def tw13590027771599999170:=U
def tw4836127991789321609:=U
def tw2022765592316436423:=U
def tw11937809649543245690:=U
def tw14954814237061406814:=U
def tw3860178606265986705:=U
def tw3959313881472463620:=U
def tw10722061003572085455:=U
def tw15528650050850326165:=U
def tw3122828461659740905:=U
def tw15677394864988905783:=U
def tw10289887805060818726:=U
def tw291751071210232951:=U
def tw13491514936918397692:=U
def tw5295162089110728629:=U
def tw15047912602888370728:=U
def tw9824084624383479229:=U
def tw1500288509435645470:=U
def tw16228661829068259798:=U
def tw4024456779728603823:=U
def tw85848420625948708:=U
def tw6506946043618606739:=U
def tw4999452230268467594:=U
def tw362490217404430968:=U
def tw1470610623458382960:=U
def tw15904415474119066680:=U
def tw13960247276778044050:=U
def tw3388024373086316790:=U
def tw17847972432213673170:=U
def tw15004840229399612210:=U
def tw1566234021802159714:=U
def tw3028058218105614229:=U
def tw12369389282149334976:=U
def tw4308095492266623369:=U
def tw3014151213094882523:=U
def tw17100595549403529651:=U
def tw11754672065236715110:=U
def tw17899137929295584773:=U
def tw7751342442258450681:=U
def tw16857361232970629135:=U
def tw12498596767280819610:=U
def tw5874272582791987760:=U
def tw10354784699225738430:=U
def tw789021325087392675:=U
def tw3825548680828008155:=U
def tw10398602973006285910:=U
def tw9052504946682414557:=U
def tw10563779810154545031:=U
def tw12051540686036816834:=U
def tw4224560093892579853:=U
def tw13525381239800813546:=U
def tw667008295258071403:=U
def tw5511872339936222295:=U
def tw9663333528915814709:=U
def tw1550512006274434858:=U
def tw16170745045687337255:=U
def tw1222371070015512171:=U
def tw14896354828329538042:=U
def tw13010314055430216831:=U
def tw17351942138555232709:=U
def tw2263294559523114920:=U
def tw5168608896170420257:=U
def tw12230483483632639148:=U
def tw10367643367336523242:=U
def tw3081128793384130118:=U
def tw8469898318672183624:=U
def tw805076629623660819:=U
def tw8408648462155043280:=U
def tw15518027434156341909:=U
def tw11220021270439903621:=U
def tw13778194552056788948:=U
def tw294133173289568314:=U
def tw8518616755448088192:=U
def tw9364065502391818885:=U
def tw16999871287221057997:=U
def tw17576449262019437972:=U
def tw14209795242424471366:=U
def tw5206926689506901325:=U
def tw14675992662807717825:=U
def tw11690025170127481284:=U
def tw8688954632291530468:=U
def tw1137167996224661914:=U
def tw7805920228453081020:=U
def tw10929795191216256868:=U
def tw6169957394313245387:=U
def tw958811657722580509:=U
def tw14358290623750996293:=U
def tw14160290328646196383:=U
def tw8765924400911740101:=U
def tw16871850901863469491:=U
def tw12717349792002905964:=U
def tw11348392575639697212:=U
def tw11036941967693180100:=U
def tw1013105250978976410:=U
def tw14988107795196884924:=U
def tw16139189331564813533:=U
def tw6312499687362017194:=U
def tw12776011942611745836:=U
def tw2693009723871481159:=U
def tw2960303456528099586:=U
def tw17753461842681232328:=U
def tw9119960873509959419:=U
def tw13181362824894888772:=U
def tw11533475707610603451:=U
def tw4282629105414551357:=U
def tw3352471893186287978:=U
def tw5807033000185299802:=U
def tw17922277557675234094:=U
def tw322259397798158014:=U
def tw2407050212777229197:=U
def tw11743809541200699877:=U
def tw1546196441871977742:=U
def tw12276342421923353087:=U
def tw12957765908994006637:=U
def tw6172093475739326180:=U
def tw13236351152967511497:=U
def tw9686966280267287268:=U
def tw2929962616085057849:=U
def tw8864645243349749915:=U
def tw17600633186429467756:=U
def tw6294857900686001517:=U
def tw8501767156602750441:=U
def tw724265157160553643:=U
def tw17731597720809635789:=U
def tw10064733690882231577:=U
def tw6997432308602649193:=U
def tw8303050749836498576:=U
def tw2722104296861079791:=U
def tw17157248589126034706:=U
def tw13620993235203185629:=U
def tw11097293307604472671:=U
def tw9598905709168847018:=U
def tw6660135546851665371:=U
def tw1027495832432983246:=U
def tw10544369960361097493:=U
def tw847490955424299532:=U
def tw13530258942776141413:=U
def tw10377396599529406236:=U
def tw6382899661883489034:=U
def tw2694010758955959306:=U
def tw10586471444848862980:=U
def tw3476901675248268241:=U
def tw10020043440202816902:=U
def tw139097610686579307:=U
def tw12836363182138800093:=U
def tw4084207413055050378:=U
def tw11496691644926233058:=U
def tw11947318905341900324:=U
def tw8940034272456868164:=U
def tw3752584622418055110:=U
def tw4629199758352493687:=U
def tw15587610670401747283:=U
def tw15192756639288032198:=U
def tw4358273869253720652:=U
def tw9797865287866386410:=U
def tw9148510385532016477:=U
def tw675424519163163162:=U
def tw7249577404362744233:=U
def tw1180307609916217967:=U
def tw9450396927917112427:=U
def tw2490021596082295073:=U
def tw17218772052957355937:=U
def tw8241488781303314601:=U
def tw11747426542609170658:=U
def tw12035426809297279792:=U
def tw14066515656279188876:=U
def tw4892220355627895695:=U
def tw2631142192821104168:=U
def tw13246923645882732952:=U
def tw7960900128574411249:=U
def tw13984030284710476181:=U
def tw17754941339978980430:=U
def tw8504631483494638864:=U
def tw14232999085152052394:=U
def tw17418901358749768065:=U
def tw4771955012785013354:=U
def tw2832131006638345421:=U
def tw17843642624259308666:=U
def tw6320502311827869330:=U
def tw2006539797449658572:=U
def tw9064596465330197943:=U
def tw18272431842028964980:=U
def tw14542579674024541374:=U
def tw15968371447546895078:=U
def tw13633669230852762809:=U
def tw6618562510901825347:=U
def tw18442066218110449328:=U
def tw139314886730153636:=U
def tw12125794779716241013:=U
def tw13416197982668546557:=U
def tw16160743297703069522:=U
def tw2525733265012539100:=U
def tw675930176694539415:=U
def tw6367150703908036445:=U
def tw6932318581126590844:=U
def tw8462699157660682864:=U
def tw779354061541754254:=U
def tw7039422266123074351:=U
def tw2558609738061338341:=U
def tw2702094819642175629:=U
def tw9209902909770340445:=U
def tw2634230991870036202:=U
def tw3344597914431116684:=U
def tw6175881798622625781:=U
def tw12143426479144422704:=U
def tw16478565123415664456:=U
def tw8183555248457835392:=U
def tw10302775036256540733:=U
def tw9506610368633047390:=U
def tw1677901831675432761:=U
def tw8232313774640393770:=U
def tw11912638371700772700:=U
def tw263927077077052489:=U
def tw2769820917466453281:=U
def tw9084189183953178903:=U
def tw9822790644614722272:=U
def tw6357134942607351591:=U
def tw9287131725421212678:=U
def tw16565344999566524790:=U
def tw5963950250322508574:=U
def tw8015099468720140703:=U
def tw10669967971314401092:=U
def tw18122256031940138585:=U
def tw13028345207110164999:=U
def tw1712866197119665240:=U
def tw1603297800287066620:=U
def tw14288980628959931306:=U
def tw15336720598442622322:=U
def tw4104156556088203423:=U
def tw1487661815652791956:=U
def tw11672968761783562364:=U
def tw6895905486304040057:=U
def tw11616985123374154100:=U
def tw1728109271299571026:=U
def tw3409674594158176563:=U
def tw16243839686105704834:=U
def tw1190413040990995345:=U
def tw14192912155985369250:=U
def tw18131225449614448859:=U
def tw13618481197811883326:=U
def tw9151919971974415053:=U
def tw10963019589050295961:=U
def tw17582103861812875507:=U
def tw6001008729311948663:=U
def tw17794700624193464468:=U
def tw17791236337738570192:=U
def tw6295639350272504996:=U
def tw11964309166922354133:=U
def tw16641602657237990041:=U
def tw4953776748899725485:=U
def tw1555798972344118427:=U
def tw13923992258410401733:=U
def tw14919543247911024911:=U
def tw2513732812603014629:=U
def tw11060188133528313586:=U
def tw12970199924222838482:=U
def tw357526617743579635:=U
def tw7908216186344592107:=U
def tw18086006520430861072:=U
def tw2096100901475274320:=U
def tw1070163275910842065:=U
def tw13688758532755838143:=U
def tw6079016012973822043:=U
def tw15685290210489647760:=U
def tw2357596802471934775:=U
def tw9986810278261312591:=U
def tw7846695847956026472:=U
def tw4217845089049206782:=U
def tw7908564116071426777:=U
def tw7127402271331585828:=U
def tw11270333861233104385:=U
def tw8326891438402496518:=U
def tw6648612489752658934:=U
def tw1874950747912571139:=U
def tw12528640176388163620:=U
def tw9377160996717624405:=U
def tw10267956555301300590:=U
def tw10021263898208653333:=U
def tw40151931522369756:=U
def tw3496496383498411439:=U
def tw18232344275758168336:=U
def tw16367523268640885734:=U
def tw5898297452544478041:=U
def tw8563520358071002218:=U
def tw16854735235135309705:=U
def tw10789222699920465093:=U
def tw8360025031804883620:=U
def tw6215588364632401128:=U
def tw6239121535002899567:=U
def tw12785540519593384527:=U
def tw11090641425961061236:=U
def tw6653120515382835245:=U
def tw18163456162055901203:=U
def tw14663382144426185687:=U
def tw15307864427419501060:=U
def tw12393618241193726380:=U
def tw15950256336936195129:=U
def tw3119364827464893391:=U
def tw3962666350007586966:=U
def tw1929462612432705326:=U
def tw3638332213303174639:=U
def tw14764191383456904697:=U
def tw2592348164959179136:=U
def tw12965725925981983025:=U
def tw8116020568883112488:=U
def tw5761996998697586081:=U
def tw8868270094257996650:=U
def tw3999708302358651164:=U
def tw16521392242440752521:=U
def tw12179389183649085820:=U
def tw724051844556116317:=U
def tw2518519626973629569:=U
def tw11392916385560786123:=U
def tw3345988852070060033:=U
def tw34974319103130298:=U
def tw1369602271050877176:=U
end PySem.W.Fast
open PySem PySem.W PyProof.Rows
def L2.dK {K:W.Frag}{h:Heap}{mg:Str->Option Value}{name:Str}{st:Stmt}{ps:List Str}{f:Addr}{oc:Value}{od an:Option Addr}{osl:Array (Option Value)}{kV doc pm bw ct:Value}(X:K.In h)(G:h.Ns mainGlobals mg)(a:W.nsIn K mainGlobals name=some (some (.ref f)):=by k_is)(l:K.lookup f=some ⟨oc,od,.func (W.fnOf name name (L2.dW st) (L2.b_ st) (L2.aF st) .none kV doc pm an bw ct),osl⟩:=by k_is)(c:W.codeIn K bw name=true:=by k_is)(k:W.keepIn K (.ref f)=true:=by k_is)(g:∀(kV doc pm:Value) (an:Option Addr) (bw ct:Value) (us:List Value),us.length=ps.length->bindArgs (W.fnOf name name (L2.dW st) (L2.b_ st) (L2.aF st) .none kV doc pm an bw ct) ⟨us,[]⟩=pure (ps.zip us):=by intro _ _ _ _ _ _ us d;first|show(L2.e1 (λ_=>rfl) us d)|show(L2.e2 (λ_ _=>rfl) us d)|show(L2.e3 (λ_ _ _=>rfl) us d)|show(L2.e4 (λ_ _ _ _=>rfl) us d)|show(L2.e5 (λ_ _ _ _ _=>rfl) us d)):L2.aL (L2.KOf X) mg name st ps:=L2.Xr X G a l c k g
set_option maxRecDepth 100000 in
set_option maxHeartbeats 0 in
theorem PySem.Challenge.cw_letterrack_k46_other_racks_holds : PySem.Challenge.rw_letterrack_k46_other_racks.Holds := by
 w_on;o_law;k_head;(case hw=>w_witness2)
 k_fill
 refine L2.aaN (x:="_law_script") (l:=PySem.Challenge.rw_letterrack_k46_other_racks) rfl rfl (λw h Y=>W.kIn_of Y) ?F
 case F=>
  intro w mg fa h KX G hmg;have bB:mg "len"=none:=by
   refine' dA KX G ?z
   (case z=>k_is)
  have dg:mg "range"=none:=by
   refine' dA KX G ?z
   (case z=>k_is)
  have gP:mg "sorted"=none:=by
   refine' dA KX G ?z
   (case z=>k_is)
  have bM:mg "tuple"=none:=by
   refine' dA KX G ?z
   (case z=>k_is)
  have kI:mg "list"=none:=by
   refine' dA KX G ?z
   (case z=>k_is)
  have cL:mg "isinstance"=none:=by
   refine' dA KX G ?z
   (case z=>k_is)
  have yx:mg "bool"=none:=by
   refine' dA KX G ?z
   (case z=>k_is)
  have iR:mg "int"=none:=by
   refine' dA KX G ?z
   (case z=>k_is)
  have zM:mg "str"=none:=by
   refine' dA KX G ?z
   (case z=>k_is)
  have gU:mg "all"=none:=by
   refine' dA KX G ?z
   (case z=>k_is)
  have tW:mg "any"=none:=by
   refine' dA KX G ?z
   (case z=>k_is)
  have El:mg "set"=none:=by
   refine' dA KX G ?z
   (case z=>k_is)
  have gq:mg "enumerate"=none:=by
   refine' dA KX G ?z
   (case z=>k_is)
  have Ei:mg "zip"=none:=by
   refine' dA KX G ?z
   (case z=>k_is)
  have En:mg "min"=none:=by
   refine' dA KX G ?z
   (case z=>k_is)
  have cY:∃t,mg "FREE"=some (.str (L2.S [46]) t):=by
   refine' L2.A_ KX G ?z
   (case z=>k_is)
  have uW:∃t,mg "MARKS"=some (.str (L2.S My.MK) t):=by
   refine' L2.A_ KX G ?z
   (case z=>k_is)
  have uV:∃t,mg "MOST"=some (.int 9 t):=by
   refine' L2.J7 KX G ?z
   (case z=>k_is)
  have nu:∃t,mg "LETTERS"=some (.str (L2.S L2.AL) t):=by
   refine' L2.A_ KX G ?z
   (case z=>k_is)
  have kY:∃t,mg "MOST_TILES"=some (.int 7 t):=by
   refine' L2.J7 KX G ?z
   (case z=>k_is)
  have wK:L2.aL (L2.KOf KX) mg "is_whole" My.qH ["thing"]:=L2.dK KX G;have yO:L2.aL (L2.KOf KX) mg "is_sign" My.tD ["thing"]:=L2.dK KX G;have ux:L2.aL (L2.KOf KX) mg "letter_of" My.o_ ["sign"]:=L2.dK KX G;have yP:L2.aL (L2.KOf KX) mg "tile_of" My.tE ["sign"]:=L2.dK KX G;have oh:L2.aL (L2.KOf KX) mg "turned_laying" My.j4 ["laying"]:=L2.dK KX G;have wL:L2.aL (L2.KOf KX) mg "is_block" My.qI ["thing"]:=L2.dK KX G;have wM:L2.aL (L2.KOf KX) mg "are_rows" My.qJ ["thing"]:=L2.dK KX G;have uy:L2.aL (L2.KOf KX) mg "are_marks" My.pC ["thing"]:=L2.dK KX G;have su:L2.aL (L2.KOf KX) mg "is_cell_of" My.nR ["rows","row","column"]:=L2.dK KX G;have qg:L2.aL (L2.KOf KX) mg "is_begin_of" My.mz ["rows","thing"]:=L2.dK KX G;have wN:L2.aL (L2.KOf KX) mg "is_board" My.qK ["rows","marks","begin"]:=L2.dK KX G;have qj:L2.aL (L2.KOf KX) mg "column_text" My.mC ["rows","column"]:=L2.dK KX G;have ql:L2.aL (L2.KOf KX) mg "turned_rows" My.mD ["rows"]:=L2.dK KX G;have wO:L2.aL (L2.KOf KX) mg "cells_of" My.qL ["laying"]:=L2.dK KX G;have lg:L2.aL (L2.KOf KX) mg "is_next_to_taken" My.iQ ["board","row","column"]:=L2.dK KX G;have oA:L2.aL (L2.KOf KX) mg "cross_letters" My.j6 ["board","book","row","column","way"]:=L2.dK KX G;have sy:L2.aL (L2.KOf KX) mg "free_cells" My.nT ["board"]:=L2.dK KX G;have Gr:L2.aL (L2.KOf KX) mg "hooks" My.zF ["board"]:=L2.dK KX G;have BW:L2.aL (L2.KOf KX) mg "starts" My.vW ["board","word"]:=L2.dK KX G;have mX:L2.aL (L2.KOf KX) mg "letters_to_lay" My.jG ["board","row","column","word"]:=L2.dK KX G;have oZ:L2.aL (L2.KOf KX) mg "letters_down" My.lC ["board","book"]:=L2.dK KX G;have qm:L2.aL (L2.KOf KX) mg "can_be_laid" My.mG ["triples","fitting","joining"]:=L2.dK KX G;have sE:L2.aL (L2.KOf KX) mg "sign_texts" My.jr ["letters","rack"]:=L2.dK KX G;have sG:L2.aL (L2.KOf KX) mg "layings_of" My.nU ["triples","rack"]:=L2.dK KX G;have mY:L2.aL (L2.KOf KX) mg "layings_across" My.jH ["board","book","rack"]:=L2.dK KX G;have qp:L2.aL (L2.KOf KX) mg "all_layings" My.mK ["board","book","rack"]:=L2.dK KX G;have yQ:L2.aL (L2.KOf KX) mg "is_word" My.tK ["text"]:=L2.dK KX G;have sH:L2.aL (L2.KOf KX) mg "check_word" My.nW ["text"]:=L2.dK KX G;have yR:L2.aL (L2.KOf KX) mg "_law_cell_at" My.tL ["_law_script","_law_k"]:=L2.dK KX G;have M6:L2.aL (L2.KOf KX) mg "_law_next" My.Du ["_law_x"]:=L2.dK KX G;have Gs:L2.aL (L2.KOf KX) mg "_law_other" My.zG ["_law_x"]:=L2.dK KX G;have BX:L2.aL (L2.KOf KX) mg "_law_number" My.vX ["_law_script","_law_k"]:=L2.dK KX G;have BZ:L2.aL (L2.KOf KX) mg "_law_digits" My.vY ["_law_script","_law_k","_law_base","_law_many"]:=L2.dK KX G;have yS:L2.aL (L2.KOf KX) mg "_law_letters" My.tQ ["_law_script","_law_k"]:=L2.dK KX G;have Gu:L2.aL (L2.KOf KX) mg "_law_words" My.zH ["_law_letters_here","_law_script","_law_start","_law_many"]:=L2.dK KX G;have M7:L2.aL (L2.KOf KX) mg "_law_size" My.Dv ["_law_x"]:=L2.dK KX G;have Gv:L2.aL (L2.KOf KX) mg "_law_board" My.zJ ["_law_letters_here","_law_script","_law_start","_law_x"]:=L2.dK KX G;have M8:L2.aL (L2.KOf KX) mg "_law_rack" My.Dw ["_law_letters_here","_law_script","_law_k","_law_most"]:=L2.dK KX G;have M9:L2.aL (L2.KOf KX) mg "_law_fits" My.Dy ["_law_laying","_law_rack_here"]:=L2.dK KX G;have yU:L2.aL (L2.KOf KX) mg "_law_blanked" My.tR ["_law_laying","_law_letter"]:=L2.dK KX G;have WW:∃C f0 f1 f2 f3 f4 f5 lH jO fd2 xg QF QH,My.wJ (L2.KOf KX) mg C f0 f1 f2 f3 f4 f5 lH jO fd2 xg QF QH:=by
   dsimp only[L2.KOf];refine' My.Y8 KX G ?aC ?a0 ?i0 ?l0 ?c0 ?k0 ?a1 ?i1 ?l1 ?c1 ?k1 ?a2 ?i2 ?l2 ?c2 ?k2 ?a3 ?i3 ?l3 ?c3 ?k3 ?a4 ?i4 ?l4 ?c4 ?k4 ?a5 ?i5 ?l5 ?c5 ?k5 ?pg ?hd ?po ?sa ?mk ?kc ?M5 ?nf1 ?nf2
   (case aC=>k_is)
   (case a0=>k_is)
   (case i0=>k_is)
   (case l0=>k_is)
   (case c0=>k_is)
   (case k0=>k_is)
   (case a1=>k_is)
   (case i1=>k_is)
   (case l1=>k_is)
   (case c1=>k_is)
   (case k1=>k_is)
   (case a2=>k_is)
   (case i2=>k_is)
   (case l2=>k_is)
   (case c2=>k_is)
   (case k2=>k_is)
   (case a3=>k_is)
   (case i3=>k_is)
   (case l3=>k_is)
   (case c3=>k_is)
   (case k3=>k_is)
   (case a4=>k_is)
   (case i4=>k_is)
   (case l4=>k_is)
   (case c4=>k_is)
   (case k4=>k_is)
   (case a5=>k_is)
   (case i5=>k_is)
   (case l5=>k_is)
   (case c5=>k_is)
   (case k5=>k_is)
   (case pg=>k_is)
   (case hd=>k_is)
   (case po=>k_is)
   (case sa=>k_is)
   (case mk=>k_is)
   (case kc=>k_is)
   (case M5=>k_is)
   (case nf1=>k_is)
   (case nf2=>k_is)
  obtain⟨_,_,_,_,_,_,_,_,_,_,_,_,_,Ze⟩:=WW;have Zf:∃C f0 f1 f2 lH jO fd2,My.yN (L2.KOf KX) mg C f0 f1 f2 lH jO fd2:=by
   dsimp only[L2.KOf];refine' My.abW KX G ?aC ?a0 ?i0 ?l0 ?c0 ?k0 ?a1 ?i1 ?l1 ?c1 ?k1 ?a2 ?i2 ?l2 ?c2 ?k2 ?pg ?hd ?po ?sa ?mk ?kc ?M5
   (case aC=>k_is)
   (case a0=>k_is)
   (case i0=>k_is)
   (case l0=>k_is)
   (case c0=>k_is)
   (case k0=>k_is)
   (case a1=>k_is)
   (case i1=>k_is)
   (case l1=>k_is)
   (case c1=>k_is)
   (case k1=>k_is)
   (case a2=>k_is)
   (case i2=>k_is)
   (case l2=>k_is)
   (case c2=>k_is)
   (case k2=>k_is)
   (case pg=>k_is)
   (case hd=>k_is)
   (case po=>k_is)
   (case sa=>k_is)
   (case mk=>k_is)
   (case kc=>k_is)
   (case M5=>k_is)
  obtain⟨_,_,_,_,_,_,_,ab8⟩:=Zf;have lw:∃fd:FuncData,L2.gw (L2.KOf KX) "law" "law" My.Jx fa fd/\∀(s:Shared) (v:Value),BindsTo s fd ⟨[v],[]⟩ [("_law_script",v)]:=by
   dsimp only[L2.KOf];refine' L2.adf KX G hmg ?a ?l ?c ?k ?b
   case a|l|c|k=>k_is
   (case b=>exact λ_ _ _ _ _ _ _=>rfl)
  obtain⟨fd,F,hb⟩:=lw;exact⟨fd,hb,λbase _ _=>My.abX bB dg gP bM kI cL yx iR zM gU tW El gq Ei En cY uW uV nu kY wK yO ux yP oh wL wM uy su qg wN qj ql wO lg oA sy Gr BW mX oZ qm sE sG mY qp yQ sH yR M6 Gs BX BZ yS Gu M7 Gv M8 M9 yU Ze ab8 F⟩

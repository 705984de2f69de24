import PyProof.Rows.All
import Wide.All
import OpenK.AllK
import Wide.FinOn
import Lean
import PyProof.EqAt
import PyProof.EqKinds
import PyProof.TupleCall
import KE.KRevIter
import PyProof.JoinWalk
import PyProof.CollectIter
import KE.KDictSum
import KE.KSortTup
import OpenK.KRaise
import PyProof.StationsW
import OpenK.KOwn
import KE.KTryMore
import KE.KIsNot
import PyProof.NsDelKeeps
import KE.KIsAll
import PyProof.ExcArgs
import PyProof.ListMulRoad
import PyProof.Rows.SeqMore
import PyProof.FactsAll.tuple_2
import PyProof.ExcInit
import OpenK.KCls
import PyProof.WalkInts
import PyProof.SeqI3
import KE.KIntText
import KE.KEqDict
import KE.KDictOf
import PyProof.Rows.SetFrom
import KE.KDictLaws
import PyProof.DictItems
import KE.KPairComp
import KE.KRevSl
import PyProof.AutoSeq1
import PyProof.TupleOfSeq
import PyProof.AttrMiss
import PyProof.IsiH_tuple
import PyProof.FitsReplace
import PySem.Challenge.RW_letterrack_k65_whole_tiles_are_kept
set_option Elab.async false
set_option linter.all false
set_option maxRecDepth 100000
set_option maxHeartbeats 4000000

set_option bootstrap.genMatcherCode false
theorem ZzN {G:Prop}(h:¬¬G):G:=Classical.byContradiction h
theorem rb {α:Sort _}{a:α}:a=a:=rfl
theorem Zzx2{q:A->B->Prop}{G:Prop}(h:∃a b,q a b)(f:∀a b,q a b->G):G:=Exists.elim h λa h=>Exists.elim h (f a)
theorem Zzx3{q:A->B->C->Prop}{G:Prop}(h:∃a b c,q a b c)(f:∀a b c,q a b c->G):G:=Exists.elim h λa h=>Zzx2 h (f a)
theorem Zzx4{q:A->B->C->D->Prop}{G:Prop}(h:∃a b c d,q a b c d)(f:∀a b c d,q a b c d->G):G:=Exists.elim h λa h=>Zzx3 h (f a)
theorem Zzx5{q:A->B->C->D->E->Prop}{G:Prop}(h:∃a b c d e,q a b c d e)(f:∀a b c d e,q a b c d e->G):G:=Exists.elim h λa h=>Zzx4 h (f a)
theorem Zzx7{q:A->B->C->D->E->I->J->Prop}{G:Prop}(h:∃a b c d e i j,q a b c d e i j)(f:∀a b c d e i j,q a b c d e i j->G):G:=Exists.elim h λa h=>Exists.elim h λb h=>Zzx5 h (f a b)
theorem Zzx10{q:A->B->C->D->E->I->J->K->L->M->Prop}{G:Prop}(h:∃a b c d e i j k l m,q a b c d e i j k l m)(f:∀a b c d e i j k l m,q a b c d e i j k l m->G):G:=Exists.elim h λa h=>Exists.elim h λb h=>Exists.elim h λc h=>Zzx7 h (f a b c)
theorem Zzx14{q:A->B->C->D->E->I->J->K->L->M->N->O->P->R->Prop}{G:Prop}(h:∃a b c d e i j k l m n o p r,q a b c d e i j k l m n o p r)(f:∀a b c d e i j k l m n o p r,q a b c d e i j k l m n o p r->G):G:=Exists.elim h λa h=>Exists.elim h λb h=>Exists.elim h λc h=>Exists.elim h λd h=>Zzx10 h (f a b c d)
local macro_rules|`(tactic|show $e)=>`(tactic|first|exact $e|change $e)
local macro_rules|`(tactic|calc $e:term)=>`(tactic|refine $e)
local macro_rules|`(tactic|let $x:ident := $e)=>`(tactic|have $x:ident := $e)|`(tactic|let $x:ident : $t := $e)=>`(tactic|have $x:ident : $t := $e)
open Lean in
local macro_rules|`(tactic|let ⟨$ts,*⟩ := $h)=>do
 let a:=ts.getElems
 let ps<-a.mapM λt=>if t.raw.isIdent then `(Parser.Tactic.rcasesPatLo|$(⟨t⟩):ident) else `(Parser.Tactic.rcasesPatLo|_)
 let n:=(a.pop.toList.takeWhile λt=>t.raw.getId != `rfl).length
 let mut t<-`(tactic|rcases $h:term with ⟨$ps,*⟩)
 for k in [2, 3, 4, 5, 7, 10, 14] do
  if k<=n then
   let m<-if k+1==a.size&&a.back!.raw.getId != `rfl then `(tactic|intro $a*) else `(tactic|(intro $(a[:k].toArray)* z;rcases z with ⟨$(ps[k:].toArray),*⟩))
   t<-`(tactic|first|(refine $(mkIdent (.mkSimple s!"Zzx{k}")) $h ?_;(try clear $(⟨h⟩));$m:tactic)|$t:tactic)
 `(tactic|(refine ZzN λn=>?_;$t:tactic<;>refine n ?_<;>clear n))
section
variable{p:Prop}
def t6(h:p:=by lia):p:=h
def t7(h:p:=by simp):p:=h
def t9(h:p:=by decide):p:=h
def ue(h:p:=by rfl):p:=h
def ui(h:p:=by kernel_rfl):p:=h
def uj(h:p:=by decide +kernel):p:=h
def uk(h:p:=by first | lia | ((try dsimp only);lia)):p:=h
def ul(h:p:=by size_fits):p:=h
end
def zsz (n:Nat)(h:n<=1000:=by decide):n<=PySem.sizeLine:=Nat.le_trans h t9
abbrev aa:=@List.length_map
abbrev ae:=@List.getElem?_eq_getElem
abbrev af:=@PySem.wpAny_bind
abbrev ag:=@PySem.Heap.get?_push_of_some
abbrev ah:=@decide_eq_false
abbrev ai:=@Nat.le_refl
abbrev al:=@List.getElem?_eq_some_iff
abbrev am:=@Nat.le_of_lt
abbrev ap:=@List.getD_eq_getElem?_getD
abbrev av:=@List.length_append
abbrev aw:=@decide_eq_true
abbrev ax:=@PySem.wpAny_pure
abbrev ay:=@List.length_take
abbrev aE:=@PySem.boot_len
abbrev aI:=@PySem.Heap.lt_size
abbrev aS:=@PyProof.Rows.wpS_bind
abbrev a9:=@List.getElem_mem
abbrev a_:=@List.mem_singleton
abbrev ba:=@PyProof.Rows.wpS_pure
abbrev bd:=@List.append_assoc
abbrev be:=@List.mem_append
abbrev bo:=@PySem.Heap.get?_push_size
abbrev bq:=@List.mem_cons_of_mem
abbrev bu:=@List.mem_map
abbrev bv:=@List.length_drop
abbrev bz:=@PySem.F.plainAttrs_str
abbrev bE:=@List.size_toArray
abbrev bP:=@Option.some.inj
abbrev bS:=@Nat.le_trans
abbrev bX:=@List.mem_cons_self
abbrev b8:=@List.mem_of_getElem?
abbrev b9:=@List.mem_cons
abbrev ce:=@List.map_cons
abbrev cf:=@Nat.ne_of_lt
abbrev ck:=@List.take_of_length_le
abbrev cn:=@Bool.and_eq_true
abbrev cp:=@Bool.false_ne_true
abbrev cq:=@List.map_append
abbrev cv:=@Nat.lt_of_lt_of_le
abbrev cw:=@List.take_append_drop
abbrev cy:=@Array.length_toList
abbrev cz:=@List.getElem?_map
abbrev cE:=@Nat.sub_lt_left_of_lt_add
abbrev cK:=@Int.toNat_of_nonneg
abbrev cS:=@List.take_length
abbrev c8:=@PyProof.Rows.boot_isinstance
abbrev c9:=@Int.toNat_natCast
abbrev c_:=@PyProof.Rows.boot_tuple
abbrev de:=@List.mem_of_mem_take
abbrev df:=@PyProof.Rows.KeyOrd.kle_trans
abbrev di:=@PySem.F.slot_str_join
abbrev dq:=@PySem.F.type_str_join
abbrev dr:=@PySem.PassesOwn.never
abbrev du:=@List.take_add_one
abbrev dv:=@PySem.W.mg_none_of
abbrev dA:=@List.length_cons
abbrev dC:=@List.mem_iff_getElem
abbrev dE:=@PySem.F.plainAttrs_list
abbrev dL:=@List.length_replicate
abbrev dP:=@List.getElem?_append_right
abbrev dS:=@PySem.W.mg_of
abbrev ed:=@List.flatten_cons
abbrev eh:=@PyProof.Rows.KeyOrd.kle_of_klt
abbrev ej:=@Int.emod_nonneg
abbrev eD:=@Nat.zero_le
abbrev eI:=@List.mem_of_mem_drop
abbrev eQ:=@Int.emod_lt_of_pos
abbrev eW:=@List.getElem?_append_left
abbrev e_:=@Option.map_eq_some_iff
abbrev fb:=@Nat.le_sub_one_of_lt
abbrev fe:=@PySem.F.slot_list_append
abbrev fg:=@PySem.F.type_list_append
abbrev fh:=@of_decide_eq_true
abbrev fi:=@List.replicate_succ
abbrev fk:=@List.append_nil
abbrev fm:=@Array.getElem?_eq_getElem
abbrev fo:=@List.mem_append_right
abbrev fq:=@Array.getElem?_toList
abbrev ft:=@Array.toList_append
abbrev fw:=@PySem.Heap.size_push
abbrev fz:=@PyProof.Rows.wpS_forRange
abbrev fA:=@PySem.wpAny_mono
abbrev fE:=@List.map_congr_left
abbrev fF:=@Nat.lt_irrefl
abbrev fN:=@List.pairwise_iff_getElem
abbrev fR:=@List.mem_or_eq_of_mem_set
abbrev fS:=@PySem.wpAny_truthy_bool
abbrev f_:=@List.map_map
abbrev gc:=@PySem.W.kia_one
abbrev gd:=@PySem.wpAny_field
abbrev gf:=@List.length_set
abbrev gg:=@Nat.min_eq_left
abbrev gh:=@PyProof.Rows.callWith_type1
abbrev gm:=@PySem.Calls.spliced_cons
abbrev gp:=@Nat.lt_of_le_of_lt
abbrev gr:=@Bool.false_eq_true
abbrev gt:=@List.all_eq_true
abbrev gu:=@Nat.le_sub_of_add_le
abbrev gv:=@PyProof.Rows.slot_tuple_getitem
abbrev gz:=@PySem.Heap.get?_update_other
abbrev gI:=@PyProof.Rows.KeyOrd.kle_refl
abbrev gL:=@List.Perm.append_left
abbrev gN:=@List.perm_append_comm
abbrev gS:=@Nat.sub_sub_self
abbrev gT:=@PyProof.Rows.boot_sorted
abbrev g9:=@List.pairwise_append
abbrev hV:=@PyProof.Rows.wpS_mono
abbrev ib:=@PySem.wpAny_holding
abbrev ic:=@Array.getElem?_eq_some_iff
abbrev ie:=@PySem.F.excBase_ValueError
abbrev ii:=@Nat.lt_succ_self
abbrev ij:=@PySem.wpAny_call_entry
abbrev ik:=@List.lookup_cons
abbrev im:=@List.mem_range
abbrev io:=@Nat.mul_le_mul
abbrev ip:=@List.Perm.refl
abbrev iq:=@Nat.le_of_eq
abbrev ir:=@List.find?_cons
abbrev iA:=@List.forIn_cons
abbrev iE:=@Ne.symm
abbrev iF:=@PySem.wpAny_pyIter_list
abbrev iL:=@PySem.wpAny_newObj_type
abbrev iN:=@Nat.lt_succ_of_lt
abbrev iO:=@List.drop_sublist
abbrev iP:=@Nat.add_sub_cancel_left
abbrev iS:=@List.length_eq_zero_iff
abbrev iX:=@Nat.succ_le_succ
abbrev i8:=@List.getElem?_set_self
abbrev i9:=@PySem.Calls.callWith_builtin
abbrev ja:=@PySem.wpAny_rule
abbrev jn:=@PySem.wpAny_Call_Name_kw
abbrev js:=@Nat.lt_or_ge
abbrev jv:=@Nat.eq_zero_or_pos
abbrev jI:=@Bool.eq_iff_iff
abbrev jS:=@List.nodup_cons
abbrev j3:=@PySem.Heap.get?_update_self
abbrev ka:=@PySem.F.slot_dict_get
abbrev ke:=@Nat.sub_le_iff_le_add
abbrev km:=@List.cons_lt_cons_iff
abbrev ko:=@PySem.Calls.spliced_nil
abbrev kq:=@PySem.StrLaws.subAt_one
abbrev kr:=@PySem.wpAny_loadPart_at
abbrev ku:=@List.getElem?_set_ne
abbrev kz:=@PySem.Calls.evalArgs_plain
abbrev kD:=@List.drop_eq_getElem_cons
abbrev kH:=@Nat.sub_eq_of_eq_add
abbrev kK:=@List.map_id
abbrev kM:=@Nat.ne_of_gt
abbrev kN:=@Nat.sub_lt_of_lt
abbrev kP:=@PySem.mem_of_lookup
abbrev kQ:=@Nat.add_le_add_left
abbrev kR:=@Array.getElem?_setIfInBounds_ne
abbrev kS:=@PySem.wpAny_callSpecial?_slot
abbrev kU:=@Int.eq_ofNat_of_zero_le
abbrev kX:=@PySem.W.callWith_K
abbrev k9:=@PySem.SeqAt.EqAt.int_int
abbrev lh:=@PySem.wpAny_loadPart'
abbrev lj:=@PySem.wpAny_setField_rec
abbrev lv:=@of_decide_eq_false
abbrev lx:=@PySem.F.slot_tuple_mul
abbrev ly:=@Nat.le_succ_of_le
abbrev lI:=@Array.toList_push
abbrev lL:=@PySem.PassesOwn.leaving
abbrev lS:=@Nat.lt_sub_iff_add_lt
abbrev lT:=@Nat.zero_add
abbrev l_:=@PySem.Obj.isFreed_of_fields
abbrev ma:=@PySem.F.slot_int_rmul
abbrev md:=@PySem.wpAny_seqItems
abbrev me:=@Nat.sub_self
abbrev mf:=@List.getElem?_eq_none
abbrev mh:=@PyProof.Rows.boot_int
abbrev mi:=@Array.toList_inj
abbrev ml:=@List.not_mem_nil
abbrev mm:=@Nat.sub_le_of_le_add
abbrev mw:=@Array.toList_reverse
abbrev mx:=@List.any_cons
abbrev my:=@Array.perm_iff_toList_perm
abbrev mB:=@Nat.le_succ
abbrev mE:=@Int.le_refl
abbrev mI:=@List.filterMap_cons
abbrev mM:=@List.mem_filter
abbrev mP:=@PySem.wpAny_passesOwn
abbrev mS:=@List.foldl_cons
abbrev mT:=@PySem.wpAny_binaryOp_repeat_ref
abbrev nc:=@Option.map_some
abbrev nl:=@List.length_nil
abbrev nv:=@PySem.codeAny_mono
abbrev ny:=@List.getElem?_take_of_lt
abbrev nB:=@PySem.F.args_tuple_add_2
abbrev nE:=@PySem.wpAny_tupleItemsOf
abbrev nI:=@PyProof.Rows.KeyOrd.klt_of_klt_of_kle
abbrev nK:=@List.getElem?_drop
abbrev nL:=@Int.zero_add
abbrev nS:=@PySem.wpAny_call
abbrev nV:=@Int.mul_le_mul
abbrev n5:=@PySem.Heap.IsList.at
abbrev n9:=@PyProof.Rows.wpS_get
abbrev og:=@PySem.F.entry_tuple_add
abbrev om:=@PySem.F.args_dict_get_3
abbrev on:=@List.eraseIdx_cons_succ
abbrev oq:=@Function.comp_def
abbrev ot:=@Nat.le_of_lt_succ
abbrev ow:=@List.count_append
abbrev oy:=@Sum.inr.inj
abbrev oz:=@PySem.F.slot_tuple_add
abbrev oB:=@PySem.F.entry_dict_get
abbrev oC:=@List.drop_of_length_le
abbrev oP:=@PySem.wpAny_nextOf_list_item
abbrev oQ:=@PyProof.Rows.boot_list
abbrev oS:=@PySem.F.slot_str_lower
abbrev o0:=@PySem.F.type_str_lower
abbrev o6:=@PySem.wpAny_standAt
abbrev pi:=@List.sum_cons
abbrev pj:=@Bool.not_true
abbrev pk:=@List.cons_append
abbrev pE:=@Nat.min_eq_right
abbrev pS:=@List.drop_length
abbrev pV:=@PyProof.Rows.KeyOrd.not_klt_of_kle
abbrev p_:=@PyProof.Rows.boot_str
abbrev qf:=@PyProof.Rows.boot_min
abbrev qh:=@List.mem_append_left
abbrev qi:=@PySem.wpAny_Name
abbrev qk:=@PyProof.Rows.callWith_builtin1
abbrev qo:=@Int.ofNat_lt
abbrev qr:=@Nat.succ_mul
abbrev qA:=@List.map_nil
abbrev qB:=@Array.toArray_toList
abbrev qS:=@PySem.F.slot_tuple_lt
abbrev qV:=@PySem.wpAny_updateSeq_pair
abbrev rc:=@PySem.F.slot_zip_next
abbrev re:=@PyProof.Rows.wpS_modify
abbrev rh:=@List.map_set
abbrev rj:=@Nat.mul_le_mul_right
abbrev rl:=@PySem.W.plainGet_of
abbrev rn:=@List.take_succ_cons
abbrev rL:=@Nat.add_sub_cancel'
abbrev rS:=@List.reverse_append
abbrev rV:=@List.length_pos_iff
abbrev rX:=@List.flatten_append
abbrev r0:=@List.drop_zero
abbrev r8:=@PySem.wpAny_setField
abbrev r_:=@List.dropLast_concat_getLast
abbrev sd:=@List.mem_filterMap
abbrev se:=@PySem.Obj.data_mapFields
abbrev sf:=@List.find?_eq_none
abbrev sh:=@Int.fdiv_eq_ediv_of_nonneg
abbrev si:=@List.takeWhile_cons_of_pos
abbrev sj:=@PySem.wpAny_onRaise
abbrev sk:=@Array.toList_setIfInBounds
abbrev sq:=@Int.ofNat.inj
abbrev sr:=@List.map_drop
abbrev sv:=@PySem.Within.cons
abbrev sw:=@List.take_sublist
abbrev sN:=@Bool.eq_false_iff
abbrev sQ:=@Nat.sub_lt
abbrev s_:=@List.extract_eq_take_drop
abbrev tf:=@List.getLast?_eq_getElem?
abbrev tj:=@List.getElem?_zip_eq_some
abbrev tm:=@Nat.mod_lt
abbrev tq:=@Nat.lt_trans
abbrev tw:=@List.zipIdx_cons
abbrev tz:=@List.mem_reverse
abbrev tF:=@List.of_mem_zip
abbrev tI:=@Bool.or_eq_true
abbrev tJ:=@List.range_succ
abbrev tN:=@List.forIn_nil
abbrev tP:=@List.nodup_nil
abbrev tS:=@Int.mul_nonneg
abbrev AA:=List (List Nat)
abbrev AD:=PySem.Value->PySem.Shared->Prop
abbrev AE:=List (PySem.Addr×PySem.Obj)
noncomputable section
namespace L2
open PySem
def DK (h:Runs M Γ p t fs s e s'):s.toks<=s'.toks:=by
 induction h with| done|raise|yield=>show ai _| fresh _ ih=>show bS (mB _) ih| again _ _ ih|rule _ ih|«at» _ ih|load _ _ ih|update _ _ ih|loadIfAlive _ ih|point _ ih|alloc _ ih|ask _ ih|choose _ _ ih|os _ ih|handled _ ih|genState _ _ ih|stack _ ih|thread _ ih|newGen _ ih=>show ih| call _ _ ih1 ih2=>show bS ih1 ih2| callSusp _ ih=>show ih| resumeFresh _ _ _ _ ih1 ih2=>show bS ih1 ih2| resumeSuspended _ _ _ _ ih1 ih2=>show bS ih1 ih2| resumeJustStarted _ _ _ ih=>show ih| resumeThrowFresh _ _ ih=>show ih| resumeRunning _ _ ih=>show ih| resumeFinished _ _ ih=>show ih| segRet _ _ ih1 ih2=>show bS ih1 ih2| segGen _ _ ih1 ih2=>show bS ih1 ih2| segSuspOut _ _ ih=>show ih| segSuspGen _ _ _ _ ih1 ih2=>show bS ih1 ih2
def Yz (h:Wakes M Γ p g r s res s'):s.toks<=s'.toks:=by
 unfold Wakes at h;split at h;.show h.elim
 .split at h
  .let⟨e,s1,j,_,_,rfl⟩:=h;let z:=DK j;show z
  .let⟨_,rfl⟩:=h;show ai _
  .let⟨_,rfl⟩:=h;show ai _
 .let⟨e,s1,j,_,_,rfl⟩:=h;let z:=DK j;show z
 .let⟨_,rfl⟩:=h;show ai _
 .let⟨_,rfl⟩:=h;show ai _
def aiX {α:Type}{M:Model}{Γ:Ctx}(t:Sem α)(n:Nat){Q:α->Pos->Shared->Prop}{E:Value->Pos->Shared->Prop}(p:Pos)(s:Shared)(hn:n<=s.toks)(h:Sem.wp M Γ t (λa p s=>n<=s.toks->Q a p s) (λe p s=>n<=s.toks->E e p s) p s):Sem.wp M Γ t Q E p s:=by
 revert h
 induction t generalizing p s with| pure x=>show λh=>h hn| raise v=>show λh=>h hn| unsupported|finish|yield|fork|await|register=>show id| fresh k ih=>show ih _ _ _ (bS hn (mB _))| rule _ k ih|«at» _ k ih|alloc _ k ih|loadIfAlive _ k ih|point _ k ih|ask k ih|os _ _ k ih|handled _ k ih|newGen _ k ih|stack k ih|thread k ih=>show ih _ _ _ hn| load a _ k ih|genState a k ih=>show λ⟨o,D,h⟩=>⟨o,D,ih _ _ _ hn h⟩| update a _ f k ih|choose _ _ k ih=>show λ⟨ha,h⟩=>⟨ha,ih _ _ _ hn h⟩| call c h g l k ih=>show λ⟨r,s',j,F⟩=>⟨r,s',j,ih _ _ _ (bS hn (DK j)) F⟩| resume g r l k ih=>show λ⟨res,s',hw,h⟩=>⟨res,s',hw,ih _ _ _ (bS hn (Yz hw)) h⟩
def Q9 {α:Type}{t:Sem α}{Q:α->Shared->Prop}{s:Shared}(h:wpAny M A t (λa s'=>s.toks<=s'.toks->Q a s') (λe s'=>s.toks<=s'.toks->E e s') s):wpAny M A t Q E s:=λΓ p hΓ=>aiX t s.toks p s (ai _) (h Γ p hΓ)
end L2
namespace L2
open PySem PySem.Spec PyProof.Rows
abbrev Key:=Sum Int Str
def Bg:Key->Value->Bool
 | .inl k,v=>Value.isInt k v
 | .inr x,v=>Value.isStrOf x v
def ajG (w:World):Key->Int
 | .inl k=>hashInt k
 | .inr x=>hashStr w x
theorem jr:∀{k:Key} {v:Value},Bg k v=true->(∃i t,k=Sum.inl i/\v=Value.int i t)\/(∃x t,k=Sum.inr x/\v=Value.str x t)
 | .inl i,v,h=>by let⟨t,e⟩:=Value.isInt_shape (k:=i) (v:=v) h;show .inl ⟨i,t,rb,e⟩
 | .inr x,v,h=>by let⟨t,e⟩:=Value.isStrOf_shape (x:=x) (v:=v) h;show .inr ⟨x,t,rb,e⟩
def aat (i)(t:Tok):Bg (.inl i) (.int i t)=true:=by simp[Bg,Value.isInt]
def aau (x)(t:Tok):Bg (.inr x) (.str x t)=true:=by simp[Bg,Value.isStrOf]
def agA (a b):decide ((Sum.inl a:Key)=Sum.inl b)=(a==b):=by
 by_cases e:a=b;.subst e;simp
 .let h:¬(Sum.inl a:Key)=Sum.inl b:=λq=>e (Sum.inl.inj q)
  rw[ah h];show(beq_eq_false_iff_ne.mpr e).symm
def agB (a b):decide ((Sum.inr a:Key)=Sum.inr b)=decide (a=b):=by
 by_cases e:a=b;.subst e;simp
 .let h:¬(Sum.inr a:Key)=Sum.inr b:=λq=>e (oy q)
  rw[ah h,ah e]
def agC (a)(b):decide ((Sum.inl a:Key)=Sum.inr b)=false:=ah (λq=>nomatch q)
def agD (a)(b):decide ((Sum.inr a:Key)=Sum.inl b)=false:=ah (λq=>nomatch q)
noncomputable def iw (prog:Program)(w:World):PySem.KeyKind prog w Key where
 is:=Bg
 hash:=ajG w
 inj:=λv a b ha hb=>by
  rcases jr ha with⟨i,t,rfl,rfl⟩|⟨x,t,rfl,rfl⟩
  .rcases jr hb with⟨j,u,rfl,e⟩|⟨y,u,rfl,e⟩
   .injection e with e1 _;rw[e1]
   .show nomatch e
  .rcases jr hb with⟨j,u,rfl,e⟩|⟨y,u,rfl,e⟩;.show nomatch e
   .injection e with e1 _;rw[e1]
 byValue:=λk v h=>by rcases jr h with⟨i,t,rfl,rfl⟩|⟨x,t,rfl,rfl⟩ <;> rfl
 pyHash:=λD h=>by
  rcases jr D with⟨i,t,rfl,rfl⟩|⟨x,t,rfl,rfl⟩;.show wpAny_pyHash_int h
  .show wpAny_pyHash_str h
 eqBool:=λF D h=>by
  rcases jr F with⟨i,t,rfl,rfl⟩|⟨x,t,rfl,rfl⟩
  .rcases jr D with⟨j,u,rfl,rfl⟩|⟨y,u,rfl,rfl⟩;.rw[agA]at h;show wpAny_eqBool_int h
   .rw[agC]at h;show SeqAt.EqAt.int_str i t y u _ _ _ _ h
  .rcases jr D with⟨j,u,rfl,rfl⟩|⟨y,u,rfl,rfl⟩;.rw[agD]at h;show SeqAt.EqAt.str_int x t j u _ _ _ _ h
   .rw[agB]at h;show wpAny_eqBool_str h
 «strs»:=λk x t v h=>by
  rcases jr h with⟨i,u,rfl,e⟩|⟨y,u,rfl,e⟩;.show nomatch e
  .injection e with e1 _;subst e1;cases v <;> rfl
def Vx (prog)(w)(i)(t:Tok):(iw prog w).is (.inl i) (.int i t)=true:=aat i t
def mG (prog)(w)(x)(t:Tok):(iw prog w).is (.inr x) (.str x t)=true:=aau x t
inductive V where
 | non|bl (b:Bool)|int (i:Int)|str (x:Str)|Dk (b:Array UInt8)|flt (b:UInt64)|ref (a:Addr)|ty (n:String)
 deriving DecidableEq
def cH:V->Value->Prop
 | .non,u=>u=Value.none
 | .bl b,u=>u=Value.bool b
 | .int i,u=>∃t,u=Value.int i t
 | .str x,u=>∃t,u=Value.str x t
 | .Dk b,u=>∃t,u=Value.bytes b t
 | .flt b,u=>∃t,u=Value.float b t
 | .ref a,u=>u=Value.ref a
 | .ty n,u=>u=Value.type n
abbrev Vals:List V->List Value->Prop:=Paired cH
def Vals.length (r:Vals xs us):xs.length=us.length:=Paired.length r
theorem Vals.get:∀{xs:List V} {us:List Value} {i:Nat} {x:V},Vals xs us->xs[i]?=some x->∃u,us[i]?=some u/\cH x u
 | _,_,_,_,.nil,e=>by simp at e
 | _,_,0,_,.cons r _,e=>by simp at e;subst e;show⟨_,rb,r⟩
 | _,_,i+1,x,.cons _ t,e=>by let⟨u,h1,h2⟩:=Vals.get (i:=i) (x:=x) t (by simpa using e);show⟨u,by simpa using h1,h2⟩
theorem Vals.set (r:cH x u):∀{xs:List V} {us:List Value} (i:Nat),Vals xs us->Vals (xs.set i x) (us.set i u)
 | _,_,_,.nil=>.nil
 | _,_,0,.cons _ t=>.cons r t
 | _,_,i+1,.cons q t=>.cons q (Vals.set r i t)
theorem Vals.append:∀{xs ys:List V} {us ws:List Value},Vals xs us->Vals ys ws->Vals (xs++ys) (us++ws)
 | _,_,_,_,.nil,s=>s
 | _,_,_,_,.cons r t,s=>.cons r (Vals.append t s)
theorem Vals.take:∀{xs:List V} {us:List Value} (n:Nat),Vals xs us->Vals (xs.take n) (us.take n)
 | _,_,0,_=>.nil
 | _,_,_+1,.nil=>.nil
 | _,_,n+1,.cons r t=>.cons r (Vals.take n t)
theorem Vals.drop:∀{xs:List V} {us:List Value} (n:Nat),Vals xs us->Vals (xs.drop n) (us.drop n)
 | _,_,0,r=>r
 | _,_,_+1,.nil=>.nil
 | _,_,n+1,.cons _ t=>Vals.drop n t
def ni:Option V->Option Value->Prop
 | some v,some u=>cH v u
 | none,none=>True
 | _,_=>False
def KV {κ:Type}:List (κ×V)->List (κ×Value)->Prop:=Paired λ(p:κ×V) (q:κ×Value)=>p.1=q.1/\cH p.2 q.2
def kV:Key->V
 | .inl i=>.int i
 | .inr x=>.str x
inductive HO where
 | lst (xs:List V)
 | tup (xs:List V)
 | dK (kvs:List (Key×V))|dT (kvs:List (List Key×V))
 | set (S:Int->Bool) (n:Nat)
 | ins (C dx:Addr) (fs:List (Str×V))
 | own (x:Addr)
 | xd (fs:List (Str×V))
 | met (f x:Addr)
 | rng (lo hi:Int)
 | qH (o:Obj) (u:HO)
 | NQ (ps:Array Value)
 | ext (φ:Heap->Prop)
abbrev Hp:=Addr->Option HO
def upd (H:Hp)(a:Addr)(o:HO):Hp:=λb=>if b=a then some o else H b
def au:upd H a o a=some o:=by unfold upd;rw[if_pos rfl]
def aY (h:b≠a):upd H a o b=H b:=by unfold upd;rw[if_neg h]
def Ww:upd (upd H a o) a u=upd H a u:=by funext b;unfold upd;split <;> rfl
def Bh {H:Hp}{a b:Addr}{o u:HO}(h:H a=some o)(h':H b=some u)(d:o≠u):a≠b:=by intro e;subst e;rw[h]at h';show d (bP h')
def bB {H:Hp}{a b:Addr}{o:HO}(h:H a=some o)(h':H b=none):a≠b:=by intro e;subst e;rw[h]at h';cases h'
section
variable (P:Program)(w:World)
def f9 (H:Hp)(h:Heap)(a:Addr):HO->Prop
 | .lst xs=>xs.length<=sizeLine/\∃(its:List Value) (n:Nat),Vals xs its/\h.get? a=some {cls:=.type "list",data:=.seq its.toArray n}
 | .tup xs=>xs.length<=sizeLine/\∃its:List Value,Vals xs its/\IsTup h a its.toArray
 | .dK kvs=>kvs.length<=sizeLine/\(a==sysModules)=false/\∃vs,KV kvs vs/\h.DictOf (iw P w) a vs
 | .dT kvs=>kvs.length<=sizeLine/\(a==sysModules)=false/\∃xs:List (List Key×Addr×Value),
   Paired (λ(p:List Key×V) (q:List Key×Addr×Value)=>p.1=q.1/\H q.2.1=some (.tup (p.1.map kV))/\cH p.2 q.2.2) kvs xs/\
   ∃o es ep,h.get? a=some o/\o.ExactDict/\o.data=.dict es ep/\es.toList=xs.map (entryOfKey (tupleKind (iw P w)))/\(xs.map (·.1)).Nodup
 | .set S n=>h.SetOf (intKind P w) a S n
 | .ins C dx fs=>H dx=some (.own a)/\fs.length<=1000/\dx≠a/\h.get? a=some (W.instObj C dx)/\
   ∃mA,h.Ns1 dx mA/\(∀f,ni (fs.lookup f) (mA f))/\PySem.Within mA (fs.map (·.1))
 | .own _=>∃o,h.get? a=some o
 | .xd fs=>∃mA,h.Ns1 a mA/\∀f,ni (fs.lookup f) (mA f)
 | .rng lo hi=>∃t u v,h.get? a=some {cls:=.type "range",data:=.fields #[.int lo t,.int hi u,.int 1 v]}
 | .qH o u=>h.get? a=some o/\f9 H h a u
 | .NQ ps=>h.get? a=some {cls:=.none,data:=.fields ps}
 | .met f x=>h.get? a=some (W.methodObj (.ref f) (.ref x))
 | .ext φ=>φ h/\(∃o,h.get? a=some o)/\∀h1 h2:Heap,φ h1->(∀o,h1.get? a=some o->h2.get? a=some o)->φ h2
def k_ (H:Hp)(h:Heap):Prop:=∀a o,H a=some o->f9 P w H h a o
end
section
variable {P:Program}{w:World}{H H':Hp}{h h':Heap}{a:Addr}{o:HO}
def f9.lt (x:f9 P w H h a o):a<h.objs.size:=by
 cases o with
 | lst xs=>let⟨_,_,_,_,e⟩:=x;show aI e
 | tup xs=>let⟨_,_,_,p⟩:=x;show p.lt
 | dK kvs=>let⟨_,_,_,_,o,_,_,e,_⟩:=x;show aI e
 | dT kvs=>let⟨_,_,_,_,o,_,_,e,_⟩:=x;show aI e
 | set S n=>let⟨o,_,_,_,e,_⟩:=x;show aI e
 | ins C dx fs=>let⟨_,_,_,e,_⟩:=x;show aI e
 | own y=>let⟨_,e⟩:=x;show aI e
 | xd fs=>obtain⟨_,⟨_,_,_,e,_⟩,_⟩:=x;show aI e
 | rng lo hi=>let⟨_,_,_,e⟩:=x;show aI e
 | qH ob u=>let⟨e,_⟩:=x;show aI e
 | NQ ps=>show aI (show h.get? a=some _ from x)
 | met f y=>show aI (show h.get? a=some _ from x)
 | ext φ=>obtain⟨_,⟨_,e⟩,_⟩:=x;show aI e
theorem Paired.acq {α β:Type}{F G:α->β->Prop}:∀{j:List α} {D:List β},Paired F j D->(∀a b,F a b->G a b)->Paired G j D
 | _,_,.nil,_=>.nil
 | _,_,.cons r t,f=>.cons (f _ _ r) (Paired.acq t f)
def f9.stay (x:f9 P w H h a o)(k:∀b u,(b=a\/H b=some (.own a))->h.get? b=some u->h'.get? b=some u)(j:∀b,H b=some (.own a)->H' b=some (.own a))(ht:∀b xs,H b=some (.tup xs)->H' b=some (.tup xs)):f9 P w H' h' a o:=by
 induction o with
 | lst xs=>let⟨z,its,n,r,e⟩:=x;show⟨z,its,n,r,k _ _ (.inl rb) e⟩
 | tup xs=>let⟨z,its,r,ob,e,c⟩:=x;show⟨z,its,r,ob,k _ _ (.inl rb) e,c⟩
 | dK kvs=>let⟨z,y,vs,r,ob,es,ep,e,c⟩:=x;show⟨z,y,vs,r,ob,es,ep,k _ _ (.inl rb) e,c⟩
 | dT kvs=>let⟨z,y,xs,r,ob,es,ep,e,c⟩:=x;show⟨z,y,xs,Paired.acq r λp q z=>⟨z.1,ht _ _ z.2.1,z.2.2⟩,ob,es,ep,k _ _ (.inl rb) e,c⟩
 | set S n=>let⟨ob,es,ep,t,e,c⟩:=x;show⟨ob,es,ep,t,k _ _ (.inl rb) e,c⟩
 | ins C dx fs=>obtain⟨d,z,ne,e,mA,⟨od,es,ep,e2,c⟩,r⟩:=x;show⟨j _ d,z,ne,k _ _ (.inl rb) e,mA,⟨od,es,ep,k _ _ (.inr d) e2,c⟩,r⟩
 | own y=>let⟨ob,e⟩:=x;show⟨ob,k _ _ (.inl rb) e⟩
 | xd fs=>obtain⟨mA,⟨od,es,ep,e,c⟩,r⟩:=x;show⟨mA,⟨od,es,ep,k _ _ (.inl rb) e,c⟩,r⟩
 | rng lo hi=>let⟨t,u,v,e⟩:=x;show⟨t,u,v,k _ _ (.inl rb) e⟩
 | qH ob u ih=>let⟨e,q⟩:=x;show⟨k _ _ (.inl rb) e,ih q⟩
 | NQ ps=>have e:h.get? a=some {cls:=.none,data:=.fields ps}:=x;show h'.get? a=some {cls:=.none,data:=.fields ps};show k a _ (.inl rb) e
 | met f y=>have e:h.get? a=some (W.methodObj (.ref f) (.ref y)):=x;show h'.get? a=some (W.methodObj (.ref f) (.ref y));show k a _ (.inl rb) e
 | ext φ=>obtain⟨p,⟨o,e⟩,st⟩:=x;show⟨st _ _ p λo q=>k _ _ (.inl rb) q,⟨o,k _ _ (.inl rb) e⟩,st⟩
def k_.lt (x:k_ P w H h)(e:H a=some o):a<h.objs.size:=(x a o e).lt
def k_.fresh (x:k_ P w H h)(e:h.objs.size<=a):H a=none:=by
 cases q:H a with| none=>rfl| some u=>show absurd (cv (x.lt q) e) (fF _)
def k_.kept (x:k_ P w H h)(k:∀b u,h.get? b=some u->h'.get? b=some u):k_ P w H h':=λa o e=>(x a o e).stay (λb u _ q=>k b u q) (λ_ q=>q) λ_ _ q=>q
def k_.laid (x:k_ P w H h)(k:∀b u,h.get? b=some u->h'.get? b=some u)(hp:h.objs.size<=a)(new:f9 P w (upd H a o) h' a o):k_ P w (upd H a o) h':=λb u e=>by
 let hn:=x.fresh hp;by_cases hb:b=a;.subst hb;rw[au]at e;cases e;show new
 .rw[aY hb]at e;show(x b u e).stay (λc v _ q=>k c v q) (λc q=>by rw[aY (bB q hn)];show q) λc xs q=>by rw[aY (bB q hn)];show q
end
def Rd (H:Hp)(a:Addr)(u:HO):Prop:=H a=some u\/∃o,H a=some (.qH o u)
def Rd.of (h:H a=some u):Rd H a u:=.inl h
def Rd.ok (r:Rd H a u)(x:k_ P w H h):f9 P w H h a u:=by
 rcases r with r|⟨o,r⟩;.show x a u r
 .let⟨_,q⟩:=x a _ r;show q
def Mut:Option HO->Prop
 | some (.lst _)=>True
 | some (.dK _)=>True
 | some (.dT _)=>True
 | some (.set _ _)=>True
 | some (.ins _ _ _)=>True
 | some (.ext _)=>True
 | _=>False
section
variable {P:Program}{w:World}{H:Hp}{h h':Heap}{x e:Addr}{o':HO}
def k_.write (ok:k_ P w H h)(F:Mut (H x))(O:e=x\/H e=some (.own x))(k:∀b u,b≠e->h.get? b=some u->h'.get? b=some u)(J:∃u,h'.get? e=some u)(new:f9 P w (upd H x o') h' x o'):k_ P w (upd H x o') h':=λb u q=>by
 let D:∀c y,H c=some (.own y)->c≠x:=λc y r z=>by subst z;rw[r]at F;show F
 let I:∀c xs,H c=some (.tup xs)->c≠x:=λc xs r z=>by subst z;rw[r]at F;show F
 by_cases hb:b=x;.subst hb;rw[au]at q;cases q;show new
 .rw[aY hb]at q;by_cases j:b=e
  .let Y:H b=some (.own x):=by
    rcases O with z|z;.show absurd (j.trans z) hb
    .rw[j];show z
   rw[q]at Y;cases Y;let⟨v,Z⟩:=J;show⟨v,by rw[j];show Z⟩
  .refine(ok b u q).stay (λc v G r=>k c v ?_ r) (λc r=>by rw[aY (D c b r)];show r) λc xs r=>by rw[aY (I c xs r)];show r
   rcases G with rfl|G;.show j
   .rintro rfl;rcases O with z|z;.show D c b G z
    .rw[G]at z;cases z;show hb rfl
end
structure Un (fs ex:List Addr)(H H':Hp)(h h':Heap):Prop where
 keep:∀b o,h.get? b=some o->H b=none->b∉fs->b∉ex->h'.get? b=some o
 slot:∀b o,h.get? b=some o->H b=none->b∈fs->b∉ex->∃sl,h'.get? b=some {o with slots:=sl}
 free:∀b o,h.get? b=some o->H b=none->b∉ex->H' b=none
 there:∀b o,h.get? b=some o->b∉ex->∃o',h'.get? b=some o'
 tups:∀b xs,H b=some (.tup xs)->H' b=some (.tup xs)
 rE:∀b o u,H b=some (.qH o u)->H' b=some (.qH o u)
 rZ:∀b ps,H b=some (.NQ ps)->∃more,H' b=some (.NQ (ps++more))
section
variable {fs ex:List Addr}{H H1:Hp}{h h1 h':Heap}{a x e:Addr}{o:HO}
def Un.any (u:Un fs ex H H1 h h1)(q:h.get? b=some ob)(n:H b=none)(hx:b∉ex):∃sl,h1.get? b=some {ob with slots:=sl}:=by
 by_cases hb:b∈fs;.show u.slot b ob q n hb hx
 .show⟨ob.slots,u.keep b ob q n hb hx⟩
def Un.kept (k:∀b u,h.get? b=some u->h'.get? b=some u):Un fs ex H H h h':=⟨λb ob q _ _ _=>k b ob q,λb ob q _ _ _=>⟨ob.slots,k b ob q⟩,λ_ _ _ n _=>n,λb ob q _=>⟨ob,k b ob q⟩,λ_ _ q=>q,λ_ _ _ q=>q,λ_ ps q=>⟨#[],by rw[q];simp⟩⟩
def Un.refl:Un fs ex H H h h:=Un.kept λ_ _ q=>q
def Un.laid (k:∀b u,h.get? b=some u->h'.get? b=some u)(hp:h.objs.size<=a)(hn:H a=none):Un fs ex H (upd H a o) h h' where
 keep:=λb u q _ _ _=>k b u q
 slot:=λb u q _ _ _=>⟨u.slots,k b u q⟩
 free:=λb u q n _=>by rw[aY (cf (cv (aI q) hp))];show n
 there:=λb u q _=>⟨u,k b u q⟩
 tups:=λb xs q=>by rw[aY (bB q hn)];show q
 rE:=λb u xs q=>by rw[aY (bB q hn)];show q
 rZ:=λb ps q=>⟨#[],by rw[aY (bB q hn),q];simp⟩
def Un.write (D:Mut (H x))(G:e=x\/H e=some (.own x))(k:∀b u,b≠e->h.get? b=some u->h'.get? b=some u)(F:∃u,h'.get? e=some u):Un fs ex H (upd H x o) h h':=by
 let hx:∀b,H b=none->b≠x:=λb n z=>by subst z;rw[n]at D;show D
 let hb:∀b,H b=none->b≠e:=λb n z=>by
  subst z;rcases G with r|r;.show hx b n r
  .rw[n]at r;cases r
 let hm:∀b u,H b=some u->¬Mut (some u)->b≠x:=λb u q nm z=>by subst z;rw[q]at D;show nm D
 refine⟨λb u q n _ _=>k b u (hb b n) q,λb u q n _ _=>⟨u.slots,k b u (hb b n) q⟩,λb u q n _=>by rw[aY (hx b n)];show n,λb u q _=>?_,
  λb xs q=>by rw[aY (hm b _ q λz=>z)];show q,λb u xs q=>by rw[aY (hm b _ q λz=>z)];show q,λb ps q=>⟨#[],by rw[aY (hm b _ q λz=>z),q];simp⟩⟩
 by_cases j:b=e;.subst j;show F
 .show⟨u,k b u j q⟩
end
def NT (h:Heap)(H:Hp):List Addr:=(List.range h.objs.size).filter λa=>(H a).isSome
def Bj (h:Heap)(H:Hp):Heap:=W.hideAll h (NT h H)
def aav (h)(H):(Bj h H).objs.size=h.objs.size:=W.hideAll_size _ _
def acr {h:Heap}(e:h.get? b=some o)(n:H b=none):(Bj h H).get? b=some o:=
 W.hideAll_get _ e λhm=>by let q:(H b).isSome=true:=(mM.mp hm).2;rw[n]at q;simp at q
def aeN (e:(Bj h H).get? b=some o):h.get? b=some o/\H b=none:=by
 let j:h.get? b=some o:=W.of_hideAll (NT h H) e;calc⟨j,?_⟩;cases q:H b with| none=>rfl| some x=>have hm:b∈NT h H:=mM.mpr ⟨im.mpr (aI j),by simp[q]⟩;let z:(Bj h H).get? b=none:=W.hideAll_none (NT h H) hm;rw[z]at e;cases e
structure Mod (K:W.Frag)(mg:Str->Option Value)(base:Heap):Prop where
 JC:K.In base
 glob:base.Ns mainGlobals mg
 blt:∃mb,base.Ns builtinsNs mb/\∀x:Str,x≠"__name__"->mb x=bootBuiltins x
 nolimit:base.NoLimit
structure Cx where
 prog:Program
 w:World
 K:W.Frag
 mg:Str->Option Value
 base:Heap
 A:Around
 N:List Str
 s₀:Shared
 H₀:Hp
 env:Env
 outer:List Env
 stack:List Env
 ex:List Addr
 fn:Str->Bool
 calm:Bool
 pn:List (Addr×Obj)
 xe:Value->Shared->Prop
def frs (l:List Env):List Addr:=l.filterMap (·.frame)
abbrev Cx.fs (X:Cx):List Addr:=frs X.outer
def Wx (sc:Scope)(x:Str):Prop:=sc.names.lookup x=some .local\/sc.names.lookup x=some .cell\/sc.names.lookup x=some .free
def Loc (sc:Scope)(x:Str):Prop:=sc.names.lookup x=some .local\/sc.names.lookup x=some .cell
def Look (env:Env)(h:Heap)(m:Str->Option Value)(x:Str)(u:Value):Prop:=(env.kindOf x=some .local/\m x=some u)\/((env.kindOf x=some .cell\/env.kindOf x=some .free)/\∃c,env.cells.lookup x=some c/\h.IsCell c (some u))
structure Cx.Ok (X:Cx):Prop where
 mod:Mod X.K X.mg X.base
 kind:X.env.scope.kind=.function
 glob:X.env.globals=mainGlobals
 blt:X.env.builtins=builtinsNs
 above:X.s₀.heap.objs.size<=X.env.locals
 inj:∀x y c,X.env.cells.lookup x=some c->X.env.cells.lookup y=some c->x=y
 has:∀x,(X.env.kindOf x=some .cell\/X.env.kindOf x=some .free)->∃c,X.env.cells.lookup x=some c
 cab:∀x c,X.fn x=true->X.env.cells.lookup x=some c->X.s₀.heap.objs.size<=c
 hd:X.calm=true->X.A.handled=none
 frames:X.A.frames=some X.stack
 stk:X.stack=X.outer\/(X.stack=X.env::X.outer/\X.env.frame=some X.env.locals)
 exf:∀b∈X.ex,b≠X.env.locals/\∀x c,X.env.cells.lookup x=some c->c≠b
 bs:∀b o,X.base.get? b=some o->X.s₀.heap.get? b=some o/\X.H₀ b=none
 Dl:X.base.objs.size<=X.s₀.heap.objs.size
 DN:∀b o,X.base.get? b=some o->b∉X.ex
 Ib:∀b∈X.ex,b∉X.fs
 qF:X.s₀.heap.FunFrames X.base X.outer
 DP:∀b∈X.fs,X.H₀ b=none
structure aP (X:Cx)(ak:AE)(σ:List (Option V))(H:Hp)(s:Shared):Prop where
 ok:X.Ok
 os:s.os=X.s₀.os
 bare:AllBare s.gens
 base:Un X.fs X.ex X.H₀ H X.s₀.heap s.heap
 loc:∃m,s.heap.Ns X.env.locals m/\∀(i:Nat) (x:Str) (v:V),X.N[i]?=some x->σ[i]?=some (some v)->Wx X.env.scope x->∃u,cH v u/\Look X.env s.heap m x u
 cell:∀x c,X.env.cells.lookup x=some c->∃v,s.heap.IsCell c v
 free:H X.env.locals=none
 n_:∀x c,X.env.cells.lookup x=some c->H c=none
 pin:∀p∈X.pn++ak,s.heap.get? p.1=some p.2/\H p.1=none/\p.1≠X.env.locals/\p.1∉X.fs/\∀v,p.2.data≠.cell v
 hok:k_ X.prog X.w H s.heap
 len:σ.length=X.N.length
section
variable {X:Cx}{ak:AE}{σ:List (Option V)}{H H':Hp}{s:Shared}{h':Heap}
def Cx.Ok.ajI (ok:X.Ok)(e:X.base.get? b=some o):b∉X.fs:=λhb=>by have:=(ok.qF.mem hb).1;rw[e]at this;cases this
def aP.bs (I:aP X ak σ H s):∀b o,X.base.get? b=some o->s.heap.get? b=some o/\H b=none:=λb o e=>⟨I.base.keep b o (I.ok.bs b o e).1 (I.ok.bs b o e).2 (I.ok.ajI e) (I.ok.DN b o e),I.base.free b o (I.ok.bs b o e).1 (I.ok.bs b o e).2 (I.ok.DN b o e)⟩
def aP.bk (I:aP X ak σ H s):∀b o,X.base.get? b=some o->s.heap.get? b=some o:=λb o e=>(I.bs b o e).1
def aP.mod (I:aP X ak σ H s):Mod X.K X.mg X.base:=I.ok.mod
def aP.jC (I:aP X ak σ H s):X.K.In s.heap:=I.ok.mod.JC.keeps I.bk
def aP.lt (I:aP X ak σ H s):X.env.locals<s.heap.objs.size:=let ⟨_,hn,_⟩:=I.loc;hn.lt
def aP.sz (I:aP X ak σ H s):X.s₀.heap.objs.size<=s.heap.objs.size:=bS I.ok.above (am I.lt)
def aP.ajJ (I:aP X ak σ H s){a:Addr}(h:s.heap.objs.size<=a):a∉X.fs:=λhb=>by let⟨_,o,j,_⟩:=I.ok.qF.mem hb;show absurd (cv (aI j) (bS I.sz h)) (fF _)
def aP.NZ (I:aP X ak σ H s):∀x c,X.env.cells.lookup x=some c->c≠X.env.locals:=λx c e z=>by let⟨v,o,F,hd⟩:=I.cell x c e;obtain⟨m,⟨o',es,ep,j,D,_⟩,_⟩:=I.loc;rw[z,j]at F;cases F;rw[D]at hd;cases hd
def aP.qF (I:aP X ak σ H s):s.heap.FunFrames X.base X.outer:=by
 let all:∀(l:List Env),(∀b∈frs l,b∈X.fs)->X.s₀.heap.FunFrames X.base l->s.heap.FunFrames X.base l:=by
  intro l
  induction l with| nil=>intro _ _;trivial| cons env r ih=>intro hs hl;obtain⟨G,⟨L,o,j,hn,F,hd⟩,J⟩:=hl;let D:L∈X.fs:=hs L (by unfold frs;rw[mI,j];show bX);let⟨sl,e⟩:=I.base.slot L o F (I.ok.DP L D) D λz=>I.ok.Ib L z D;show⟨G,⟨L,_,j,hn,e,hd⟩,ih (λb hb=>hs b (by unfold frs;rw[mI,j];show bq _ hb)) J⟩
 show all X.outer (λ_ hb=>hb) I.ok.qF
def aP.stack (I:aP X ak σ H s):s.heap.FunFrames X.base X.stack:=by
 rcases I.ok.stk with e|⟨e,j⟩;.rw[e];show I.qF
 .rw[e];let⟨m,hn,_⟩:=I.loc;calc .cons (by rw[I.ok.kind];decide) j hn ?_ I.qF;show Heap.get?_none_of_le (bS I.ok.Dl I.ok.above)
def aP.JD (I:aP X ak σ H s):∀b∈frs X.stack,b∈X.env.locals::X.fs:=λb hb=>by
 rcases I.ok.stk with e|⟨e,j⟩;.rw[e]at hb;show bq _ hb
 .rw[e]at hb;unfold frs at hb;rw[mI,j]at hb;show hb
def aP.zZ (I:aP X ak σ H s):∀b∈frs X.stack,H b=none:=λb hb=>by
 rcases b9.mp (I.JD b hb) with e|hb;.rw[e];show I.free
 .let⟨_,o,j,_⟩:=I.ok.qF.mem hb;show I.base.free b o j (I.ok.DP b hb) λz=>I.ok.Ib b z hb
def aP.step {g':Array GenState}{t':Nat}{d':Drawn}{ch:List Addr}(I:aP X ak σ H s)(F:∀b∈ch,(b∈X.ex\/X.s₀.heap.objs.size<=b)/\b≠X.env.locals/\(∀x c,X.env.cells.lookup x=some c->c≠b)/\∀p∈X.pn++ak,p.1≠b)(keep:∀b o,b≠X.env.locals->b∉X.fs->b∉ch->s.heap.get? b=some o->H b=none->h'.get? b=some o)(slot:∀b o,b≠X.env.locals->b∈X.fs->b∉ch->s.heap.get? b=some o->H b=none->∃sl,h'.get? b=some {o with slots:=sl})(free:∀b o,b∉ch->s.heap.get? b=some o->H b=none->H' b=none)(there:∀b o,b∉ch->s.heap.get? b=some o->∃o',h'.get? b=some o')(tups:∀b xs,H b=some (.tup xs)->H' b=some (.tup xs))(rE:∀b o u,H b=some (.qH o u)->H' b=some (.qH o u))(rZ:∀b ps,H b=some (.NQ ps)->∃more,H' b=some (.NQ (ps++more)))(ns:∀m,s.heap.Ns X.env.locals m->h'.Ns X.env.locals m)(hok:k_ X.prog X.w H' h')(hg:AllBare g'):aP X ak σ H' {s with heap:=h',gens:=g',drawn:=d',toks:=t' }:=by
 let J:∀b o,X.s₀.heap.get? b=some o->b≠X.env.locals:=λb o e=>cf (cv (aI e) I.ok.above);let O:∀b o,X.s₀.heap.get? b=some o->b∉X.ex->b∉ch:=λb o e hx hb=>by
  rcases(F b hb).1 with z|z;.show hx z
  .show absurd (cv (aI e) z) (fF _)
 let D:∀x c,X.env.cells.lookup x=some c->∀v,s.heap.IsCell c v->h'.IsCell c v:=λx c e v ⟨o,G,hd⟩=>by
  let j:c∉ch:=λz=>(F c z).2.2.1 x c e rfl;by_cases Z:c∈X.fs
  .let⟨sl,q⟩:=slot c o (I.NZ x c e) Z j G (I.n_ x c e);show⟨_,q,hd⟩
  .show⟨o,keep c o (I.NZ x c e) Z j G (I.n_ x c e),hd⟩
 calc⟨I.ok,I.os,hg,⟨λb o e n hb hx=>?_,λb o e n hb hx=>?_,λb o e n hx=>?_,λb o e hx=>?_,λb xs e=>tups b xs (I.base.tups b xs e),λb o xs e=>rE b o xs (I.base.rE b o xs e),λb ps e=>?_⟩,?_,λx c e=>?_,?_,λx c e=>?_,λp hp=>?_,hok,I.len⟩;.show keep b o (J b o e) hb (O b o e hx) (I.base.keep b o e n hb hx) (I.base.free b o e n hx)
 .let⟨sl,e1⟩:=I.base.slot b o e n hb hx;let⟨Y,e2⟩:=slot b _ (J b o e) hb (O b o e hx) e1 (I.base.free b o e n hx);show⟨Y,e2⟩
 .let⟨o',e1⟩:=I.base.there b o e hx;show free b o' (O b o e hx) e1 (I.base.free b o e n hx)
 .let⟨o',e1⟩:=I.base.there b o e hx;show there b o' (O b o e hx) e1
 .let⟨m1,e1⟩:=I.base.rZ b ps e;let⟨m2,e2⟩:=rZ b _ e1;show⟨m1++m2,by rw[e2,Array.append_assoc]⟩
 .let⟨m,hn,hl⟩:=I.loc;calc⟨m,ns m hn,λi x v e1 e2 e3=>?_⟩;let⟨u,r,l⟩:=hl i x v e1 e2 e3;calc⟨u,r,?_⟩;rcases l with l|⟨k,c,e,z⟩;.show .inl l
  .show .inr ⟨k,c,e,D x c e _ z⟩
 .let⟨v,z⟩:=I.cell x c e;show⟨v,D x c e v z⟩
 .obtain⟨m,⟨o,_,_,G,_⟩,_⟩:=I.loc;show free _ o (λz=>(F _ z).2.1 rb) G I.free
 .let⟨v,o,G,hd⟩:=I.cell x c e;show free c o (λz=>(F c z).2.2.1 x c e rb) G (I.n_ x c e)
 .let⟨e,n,ne,nf,d⟩:=I.pin p hp;let j:p.1∉ch:=λz=>(F p.1 z).2.2.2 p hp rfl;show⟨keep p.1 p.2 ne nf j e n,free p.1 p.2 j e n,ne,nf,d⟩
def aP.un (I:aP X ak σ H s)(u:Un X.fs [] H H' s.heap h')(hok:k_ X.prog X.w H' h'):aP X ak σ H' {s with heap:=h',toks:=t' }:=by
 obtain⟨m,⟨o,es,ep,G,r⟩,_⟩:=id I.loc;let⟨sl,O⟩:=u.any G I.free t7;show I.step (g':=s.gens) (d':=s.drawn) (ch:=[]) (λ_ z=>nomatch z) (λb o _ hb _ e n=>u.keep b o e n hb t7) (λb o _ hb _ e n=>u.slot b o e n hb t7) (λb o _ e n=>u.free b o e n t7) (λb o _ e=>u.there b o e t7) u.tups u.rE u.rZ (λY hm=>by let⟨o',D,F,j,J⟩:=hm;rw[G]at j;cases j;show⟨_,D,F,O,J⟩) hok I.bare
def aP.call (I:aP X ak σ H s)(u:Un (frs X.stack) ch H H' s.heap h')(hok:k_ X.prog X.w H' h')(Z:AllBare g')(F:∀b∈ch,(b∈X.ex\/X.s₀.heap.objs.size<=b)/\b≠X.env.locals/\(∀x c,X.env.cells.lookup x=some c->c≠b)/\∀p∈X.pn++ak,p.1≠b):aP X ak σ H' {s with heap:=h',gens:=g',drawn:=d',toks:=t' }:=by
 obtain⟨m,⟨o,es,ep,Y,r⟩,_⟩:=id I.loc;let⟨sl,O⟩:=u.any Y I.free λz=>(F _ z).2.1 rfl;show I.step (ch:=ch) F (λb o O hb j e n=>u.keep b o e n (λz=>(b9.mp (I.JD b z)).elim O hb) j) (λb o _ _ j e n=>u.any e n j) (λb o j e n=>u.free b o e n j) (λb o j e=>u.there b o e j) u.tups u.rE u.rZ (λm' hm=>by let⟨o',G,J,D,r'⟩:=hm;rw[Y]at D;cases D;show⟨_,G,J,O,r'⟩) hok Z
def aP.turned (I:aP X ak σ H s)(k:∀b o,b≠it->s.heap.get? b=some o->h'.get? b=some o)(hn:H it=none)(F:it≠X.env.locals)(h1:it∈X.ex\/X.s₀.heap.objs.size<=it)(h2:∀x c,X.env.cells.lookup x=some c->c≠it)(h3:∀p∈X.pn++ak,p.1≠it):aP X ak σ H {s with heap:=h',toks:=t' }:=by
 let D:∀b u,H b=some u->b≠it:=λb u e z=>by rw[z,hn]at e;cases e
 refine I.step (g':=s.gens) (d':=s.drawn) (ch:=[it]) (λb hb=>?_) (λb o _ _ j e _=>k b o (λz=>j (by simp[z])) e) (λb o _ _ j e _=>⟨o.slots,k b o (λz=>j (by simp[z])) e⟩) (λ_ _ _ _ n=>n)
  (λb o j e=>⟨o,k b o (λz=>j (by simp[z])) e⟩) (λ_ _ e=>e) (λ_ _ _ e=>e) (λb ps e=>⟨#[],by rw[e];simp⟩) (λm hm=>?_) (λb u e=>?_) I.bare
 .let e:b=it:=by simpa using hb
  subst e;show⟨h1,F,h2,h3⟩
 .let⟨o,es,ep,G,r⟩:=hm;show⟨o,es,ep,k _ o (iE F) G,r⟩
 .refine(I.hok b u e).stay (λc v j q=>k c v ?_ q) (λ_ q=>q) λ_ _ q=>q
  rcases j with z|z;.rw[z];show D b u e
  .show D c _ z
def aP.tok (I:aP X ak σ H s)(t):aP X ak σ H {s with toks:=t}:=I.un (h':=s.heap) (t':=t) Un.refl I.hok
def aP.kept (I:aP X ak σ H s)(k:∀b u,s.heap.get? b=some u->h'.get? b=some u):aP X ak σ H {s with heap:=h',toks:=t' }:=I.un (Un.kept k) (I.hok.kept k)
def aP.laid {a:Addr}{o:HO}{t':Nat}(I:aP X ak σ H s)(k:∀b u,s.heap.get? b=some u->h'.get? b=some u)(hp:s.heap.objs.size<=a)(new:f9 X.prog X.w (upd H a o) h' a o):aP X ak σ (upd H a o) {s with heap:=h',toks:=t' }:=I.un (Un.laid k hp (I.hok.fresh hp)) (I.hok.laid k hp new)
def aP.write (I:aP X ak σ H s)(D:Mut (H x))(F:e=x\/H e=some (.own x))(k:∀b u,b≠e->s.heap.get? b=some u->h'.get? b=some u)(j:∃u,h'.get? e=some u)(new:f9 X.prog X.w (upd H x o) h' x o):aP X ak σ (upd H x o) {s with heap:=h',toks:=t' }:=I.un (Un.write D F k j) (I.hok.write D F k j new)
def aP.Wy (I:aP X ak σ H s)(h:∀p∈JF,s.heap.get? p.1=some p.2/\H p.1=none/\p.1≠X.env.locals/\p.1∉X.fs/\∀v,p.2.data≠.cell v):aP X JF σ H s:=⟨I.ok,I.os,I.bare,I.base,I.loc,I.cell,I.free,I.n_,λp hp=>(be.mp hp).elim (λz=>I.pin p (qh _ z)) (h p),I.hok,I.len⟩
def Q_ {N:List Str}(D:N.Nodup){i j:Nat}{x:Str}(a:N[i]?=some x)(b:N[j]?=some x):i=j:=by let⟨h1,e1⟩:=al.mp a;let⟨h2,e2⟩:=al.mp b;show(List.getElem_inj D).mp (e1.trans e2.symm)
def N6 (I:aP X ak σ H s)(hN:X.N.Nodup)(hi:X.N[i]?=some x)(hx:Loc X.env.scope x)(r:cH v u)(h:∀s',aP X ak (σ.set i (some v)) H s'->(∃a,Heap.SameBut a s.heap s'.heap/\(a=X.env.locals\/X.env.cells.lookup x=some a))->(∃m,s'.heap.Ns X.env.locals m/\Look X.env s'.heap m x u)->Q () s')(hf:X.fn x=true\/X.env.scope.names.lookup x=some .local:=by first|show .inl rfl|show .inr rfl|assumption):wpAny M A (storeName X.env x u) Q E s:=by
 let⟨m,hn,hl⟩:=id I.loc;let hcls:(X.env.scope.kind == .class||(X.env.scope.kind == .module&&X.env.locals != X.env.globals))=false:=by rw[I.ok.kind];rfl
 let hiσ:i<σ.length:=by rw[I.len];show(al.mp hi).1
 let NZ:=I.NZ;let D:∀{a:Addr} {h':Heap},(∃o,s.heap.get? a=some o/\H a=none)->Heap.SameBut a s.heap h'->k_ X.prog X.w H h':=λ{a h'} ha hs b ob e=>by
  let⟨_,_,G⟩:=ha;calc(I.hok b ob e).stay (λc w' F q=>(hs.2 c ?_).trans q) (λ_ q=>q) λ_ _ q=>q;rintro rfl;rcases F with rfl|F
  .rw[G]at e;cases e
  .rw[G]at F;cases F
 rcases hx with hk|hk
 .calc wpAny_storeName_local hk hn (λh' hn' hs=>?_) hcls;let⟨oL,_,_,hoL,_⟩:=id hn;calc h _ ⟨I.ok,I.os,I.bare,⟨λb o e n hb hx=>?_,λb o e n hb hx=>?_,I.base.free,λb o e hx=>?_,I.base.tups,I.base.rE,I.base.rZ⟩,⟨_,hn',λj y v' e1 e2 e3=>?_⟩,λy c e=>?_,I.free,I.n_,λp hp=>?_,D ⟨oL,hoL,I.free⟩ hs,by simpa using I.len⟩ ⟨_,hs,.inl rb⟩ ⟨_,hn',.inl ⟨hk,t7⟩⟩;.show(hs.2 b (cf (cv (aI e) I.ok.above))).trans (I.base.keep b o e n hb hx)
  .let⟨sl,e1⟩:=I.base.slot b o e n hb hx;show⟨sl,(hs.2 b (cf (cv (aI e) I.ok.above))).trans e1⟩
  .let⟨o',e1⟩:=I.base.there b o e hx;show⟨o',(hs.2 b (cf (cv (aI e) I.ok.above))).trans e1⟩
  .by_cases J:j=i
   .subst J;rw[hi]at e1;cases e1;rw[i8 hiσ]at e2;cases e2;show⟨u,r,.inl ⟨hk,t7⟩⟩
   .rw[ku (iE J)]at e2;let⟨u',r',q⟩:=hl j y v' e1 e2 e3;calc⟨u',r',?_⟩;rcases q with⟨k,e⟩|⟨k,c,e,z⟩
    .calc .inl ⟨k,?_⟩;have:y≠x:=λe=>J (Q_ hN e1 (e ▸ hi));simp[this,e]
    .show .inr ⟨k,c,e,z.sameBut hs (NZ y c e)⟩
  .let⟨w',z⟩:=I.cell y c e;show⟨w',z.sameBut hs (NZ y c e)⟩
  .let⟨e,n,ne,nf,d⟩:=I.pin p hp;show⟨(hs.2 p.1 ne).trans e,n,ne,nf,d⟩
 .let Y:X.fn x=true:=by
   rcases hf with z|z;.show z
   .rw[z]at hk;cases hk
  let⟨c,F⟩:=I.ok.has x (.inl hk);let⟨w',z⟩:=I.cell x c F;calc wpAny_storeName_cell I.ok.kind hk F z (λh' O hs=>?_);let⟨oc,hoc,ajK⟩:=id z;calc h {s with heap:=h' } ⟨I.ok,I.os,I.bare,⟨λb o e n hb hx=>?_,λb o e n hb hx=>?_,I.base.free,λb o e hx=>?_,I.base.tups,I.base.rE,I.base.rZ⟩,⟨m,hn.sameBut hs (iE (NZ x c F)),λj y v' e1 e2 e3=>?_⟩,λy c' e=>?_,I.free,I.n_,λp hp=>?_,D ⟨oc,hoc,I.n_ x c F⟩ hs,by simpa using I.len⟩ ⟨c,hs,.inr F⟩ ⟨m,hn.sameBut hs (iE (NZ x c F)),.inr ⟨.inl hk,c,F,O⟩⟩;.show(hs.2 b (cf (cv (aI e) (I.ok.cab x c Y F)))).trans (I.base.keep b o e n hb hx)
  .let⟨sl,e1⟩:=I.base.slot b o e n hb hx;show⟨sl,(hs.2 b (cf (cv (aI e) (I.ok.cab x c Y F)))).trans e1⟩
  .let⟨o',e1⟩:=I.base.there b o e hx;show⟨o',(hs.2 b (cf (cv (aI e) (I.ok.cab x c Y F)))).trans e1⟩
  .by_cases J:j=i
   .subst J;rw[hi]at e1;cases e1;rw[i8 hiσ]at e2;cases e2;show⟨u,r,.inr ⟨.inl hk,c,F,O⟩⟩
   .rw[ku (iE J)]at e2;let⟨u',r',q⟩:=hl j y v' e1 e2 e3;calc⟨u',r',?_⟩;rcases q with q|⟨k,c',e,z'⟩;.show .inl q
    .calc .inr ⟨k,c',e,z'.sameBut hs ?_⟩;rintro rfl;show J (Q_ hN e1 (I.ok.inj _ _ _ e F ▸ hi))
  .by_cases Z:c'=c;.subst Z;show⟨_,O⟩
   .let⟨w2,z2⟩:=I.cell y c' e;show⟨w2,z2.sameBut hs Z⟩
  .let⟨e,n,ne,nf,d⟩:=I.pin p hp;calc⟨(hs.2 p.1 ?_).trans e,n,ne,nf,d⟩;intro q;rw[q,hoc]at e;let q':oc=p.2:=bP e;show d w' (by rw[<-q'];show ajK)
def Ra (I:aP X ak σ H s)(D:X.N.Nodup)(hi:X.N[i]?=some x)(hx:Loc X.env.scope x)(r:cH v u)(h:∀s',aP X ak (σ.set i (some v)) H s'->Q () s')(F:X.fn x=true\/X.env.scope.names.lookup x=some .local:=by first|show .inl rfl|show .inr rfl|assumption):wpAny M A (storeName X.env x u) Q E s:=N6 I D hi hx r (λs' j _ _=>h s' j) F
def aP.call' {s':Shared}(I:aP X ak σ H s)(F:s'.os=s.os)(u:Un (frs X.stack) ch H H' s.heap s'.heap)(hok:k_ X.prog X.w H' s'.heap)(D:AllBare s'.gens)(j:∀b∈ch,(b∈X.ex\/X.s₀.heap.objs.size<=b)/\b≠X.env.locals/\(∀x c,X.env.cells.lookup x=some c->c≠b)/\∀p∈X.pn++ak,p.1≠b):aP X ak σ H' s':=by let⟨h',g',d',t',o'⟩:=s';let e:o'=s.os:=F;subst e;show I.call (g':=g') (t':=t') (d':=d') u hok D j
end
abbrev XK:=Value->Option Addr->Hp->Prop
abbrev St:=List (Option V)
abbrev VK:=V->Hp->Prop
abbrev TE:=St->Hp->VK->Prop
abbrev TT:=St->Hp->(Bool->Hp->Prop)->Prop
abbrev TA:=St->Hp->(List V->Hp->Prop)->Prop
structure Ends where
 nx:St->Hp->Prop
 rt:VK
 bk:St->Hp->Prop:=λ_ _=>False
 ct:St->Hp->Prop:=λ_ _=>False
abbrev TS:=Ends->St->Hp->Prop
def EP (X:Cx)(ak:AE)(σ:St)(Q:VK)(u:Value)(s':Shared):Prop:=∃v H',aP X ak σ H' s'/\cH v u/\Q v H'
def TP (X:Cx)(ak:AE)(σ:St)(Q:Bool->Hp->Prop)(b:Bool)(s':Shared):Prop:=∃H',aP X ak σ H' s'/\Q b H'
def AP (X:Cx)(ak:AE)(σ:St)(Q:List V->Hp->Prop)(us:List Value)(s':Shared):Prop:=∃vs H',aP X ak σ H' s'/\Vals vs us/\Q vs H'
def SP (X:Cx)(ak:AE)(D:Ends)(f:Flow)(s':Shared):Prop:=match f with| .next=>∃σ' H',aP X ak σ' H' s'/\D.nx σ' H'| .brk=>∃σ' H',aP X ak σ' H' s'/\D.bk σ' H'| .cont=>∃σ' H',aP X ak σ' H' s'/\D.ct σ' H'| .ret u=>∃v σ' H',aP X ak σ' H' s'/\cH v u/\D.rt v H'
def PE (X:Cx)(e:Expr)(t:TE):Prop:=∀(ak:AE) (s:Shared) (σ:St) (H:Hp) (Q:VK),aP X ak σ H s->t σ H Q->wpAny (model X.prog X.w) X.A (eval e X.env) (EP X ak σ Q) X.xe s
def PT (X:Cx)(e:Expr)(t:TT):Prop:=∀(ak:AE) (s:Shared) (σ:St) (H:Hp) (Q:Bool->Hp->Prop),aP X ak σ H s->t σ H Q->wpAny (model X.prog X.w) X.A (isTrue e X.env (eval e X.env)) (TP X ak σ Q) X.xe s
def PW (X:Cx)(e:Expr)(t:TT):Prop:=∀(j:Sem Value) (ak:AE) (s:Shared) (σ:St) (H:Hp) (Q:Bool->Hp->Prop),aP X ak σ H s->t σ H Q->wpAny (model X.prog X.w) X.A (isTrue e X.env j) (TP X ak σ Q) X.xe s
def PW.pt (h:PW X e t):PT X e t:=h _
def PA (X:Cx)(es:List Expr)(t:TA):Prop:=∀(pos:Pos) (ak:AE) (s:Shared) (σ:St) (H:Hp) (Q:List V->Hp->Prop),aP X ak σ H s->t σ H Q->wpAny (model X.prog X.w) X.A (spliced (backTo pos (starEach es X.env))) (AP X ak σ Q) X.xe s
def PS (X:Cx)(st:Stmt)(t:TS):Prop:=∀(ak:AE) (s:Shared) (σ:St) (H:Hp) (D:Ends),aP X ak σ H s->t D σ H->wpAny (model X.prog X.w) X.A (exec st X.env) (SP X ak D) X.xe s
def xJ (X:Cx)(st:List Stmt)(t:TS):Prop:=∀(ak:AE) (s:Shared) (σ:St) (H:Hp) (D:Ends),aP X ak σ H s->t D σ H->wpAny (model X.prog X.w) X.A (execs st X.env) (SP X ak D) X.xe s
def cD {α:Type}{t:Sem α}{Q j:α->Shared->Prop}(h:wpAny M A t Q E s)(D:∀a s,Q a s->j a s):wpAny M A t j E s:=fA h D λ_ _ x=>x
section
variable {X:Cx}
abbrev gV (o:Option (Option V))(f:V->Prop):Prop:=match o with|some (some v)=>f v|_=>False
theorem aiY:∀{o:Option (Option V)},gV o f->∃v,o=some (some v)/\f v
 | some (some v),h=>⟨v,rb,h⟩
def akI (v)(e:o=some (some v))(h:f v):gV o f:=by subst e;show h
abbrev N7 (x:V)(f:Bool->Prop):Prop:=match x with|.bl c=>f c|_=>False
theorem su:∀{x:V},N7 x f->∃c,x=.bl c/\f c
 | .bl c,h=>⟨c,rb,h⟩
def bh (c)(e:x=.bl c)(h:f c):N7 x f:=by subst e;show h
def YB (i:Nat):TE:=λσ H Q=>gV σ[i]? λv=>Q v H
def tC (v:V):TE:=λ_ H Q=>Q v H
def agF {i:Nat}{x:Str}{pos:Pos}(O:X.N[i]?=some x)(Y:Wx X.env.scope x)(hd:(x==("__debug__":Str))=false:=by decide)(G:(x==("__classdict__":Str))=false:=by decide):PE X (.Name x pos) (YB i):=by
 intro ak s σ H Q I h;let⟨v,e,h⟩:=aiY h;let⟨m,hn,hl⟩:=I.loc;let⟨u,r,l⟩:=hl i x v O e Y;let F:EP X ak σ Q u s:=⟨v,H,I,r,h⟩
 rcases l with⟨D,hm⟩|⟨D,c,J,j⟩;.show qi (wpAny_loadName_local I.ok.kind D hn hm F) hd
 .rcases D with D|D;.show qi (wpAny_loadName_cell I.ok.kind D J j F) hd
  .show qi (wpAny_loadName_free I.ok.kind D J j F G) hd
def agG {i j pos}:PE X (.Constant (.int i) j pos) (tC (.int i)):=λ_ _ _ H _ I h=>wpAny_Constant_int ⟨.int i,H,I.tok _,⟨_,rb⟩,h⟩
def aiZ {b j pos}:PE X (.Constant (.bool b) j pos) (tC (.bl b)):=λ_ _ _ H _ I h=>Constant_bool ⟨.bl b,H,I,rb,h⟩
def agH {x j pos}:PE X (.Constant (.str x) j pos) (tC (.str x)):=λ_ _ _ H _ I h=>Calls.Constant_str ⟨.str x,H,I.tok _,⟨_,rb⟩,h⟩
def Gl (X:Cx)(x:Str):Prop:=X.env.kindOf x=some .globalImplicit
def qg {E:AD}{ak:AE}{s:Shared}{σ:St}{H:Hp}{x:Str}{u:Value}{pos:Pos}{Q:AD}(I:aP X ak σ H s)(j:Gl X x)(hm:X.mg x=some u)(h:Q u s)(hd:(x==("__debug__":Str))=false:=by decide):wpAny (model X.prog X.w) X.A (eval (.Name x pos) X.env) Q E s:=Calls.Name_function_global I.ok.kind j (Calls.loadGlobal_global (by rw[I.ok.glob];show I.mod.glob.keeps I.bk) hm h) hd
def vo {E:AD}{ak:AE}{s:Shared}{σ:St}{H:Hp}{x:Str}{u:Value}{pos:Pos}{Q:AD}(I:aP X ak σ H s)(D:Gl X x)(hm:X.mg x=none)(j:bootBuiltins x=some u)(h:Q u s)(hn:x≠"__name__":=by decide)(hd:(x==("__debug__":Str))=false:=by decide):wpAny (model X.prog X.w) X.A (eval (.Name x pos) X.env) Q E s:=by let⟨mb,h1,h2⟩:=I.mod.blt;show Calls.Name_function_global I.ok.kind D (Calls.loadGlobal_builtin (by rw[I.ok.glob];show I.mod.glob.keeps I.bk) hm (by rw[I.ok.blt];show h1.keeps I.bk) ((h2 x hn).trans j) h) hd
def aeO (j:Gl X x)(hm:X.mg x=some u)(r:cH v u)(hd:(x==("__debug__":Str))=false:=by decide):PE X (.Name x pos) (tC v):=λ_ _ _ H _ I h=>qg I j hm ⟨v,H,I,r,h⟩ hd
def aeP {x:Str}{v:V}{u:Value}{pos:Pos}(D:Gl X x)(hm:X.mg x=none)(j:bootBuiltins x=some u)(r:cH v u)(hn:x≠"__name__":=by decide)(hd:(x==("__debug__":Str))=false:=by decide):PE X (.Name x pos) (tC v):=λ_ _ _ H _ I h=>vo I D hm j ⟨v,H,I,r,h⟩ hn hd
variable {a b:Expr}{ta tb:TE}{pos:Pos}
def PC (X:Cx)(op:CmpOp)(a b:Expr)(t:TE):Prop:=∀(ak:AE) (s:Shared) (σ:St) (H:Hp) (Q:VK),aP X ak σ H s->t σ H Q->
  wpAny (model X.prog X.w) X.A (eval a X.env) (λv j=>wpAny (model X.prog X.w) X.A (eval b X.env) (λu D=>wpAny (model X.prog X.w) X.A (compareOp op v u) (EP X ak σ Q) X.xe D) X.xe j) X.xe s
def tB (t:TE):TT:=λσ H Q=>t σ H λx H1=>N7 x λc=>Q c H1
def agI (h:PC X op a b t)(h1:behindInMarks op b=false:=by first|show acs _ t9 t9|rfl):PE X (.Compare a [op] [b] pos) t:=λak s σ H Q I hw=>wpAny_Compare1 (h ak s σ H Q I hw) h1
def agJ (h:PE X e t)(D:∀j,isTrue e X.env j=(do let v <- j;standAt e.pos;holding [v] (truthy v)):=by intro _;rfl):PT X e (tB t):=by intro ak s σ H Q I hw;calc isTrue_plain (cD (h ak s σ H _ I hw) λv s1 G=>?_) (D _);let⟨x,H1,F,r1,q1⟩:=G;let⟨d,rfl,q⟩:=su q1;cases r1;show fS ⟨H1,F,q⟩
variable {tA qI:TT}{rest:List Expr}
def agK (t u:TT):TT:=λσ H Q=>t σ H λc H1=>if c=true then u σ H1 Q else Q false H1
def tOr (t u:TT):TT:=λσ H Q=>t σ H λc H1=>if c=true then Q true H1 else u σ H1 Q
def agL (t:TT):TT:=λσ H Q=>t σ H λc H1=>Q (!c) H1
def aeQ (ha:PT X a tA):PW X (.BoolOp .And [a] pos) tA:=by
 intro j ak s σ H Q I h;calc isTrue_and (cD (ha ak s σ H Q I h) λc s1 e=>?_);cases c with| true=>show isTrue_and_nil e| false=>show e
def agM (ha:PT X a tA):PW X (.BoolOp .Or [a] pos) tA:=by
 intro j ak s σ H Q I h;calc isTrue_or (cD (ha ak s σ H Q I h) λc s1 e=>?_);cases c with| false=>show isTrue_or_nil e| true=>show e
def agN (ha:PT X a tA)(hb:PW X (.BoolOp .And (b::rest) pos) qI):PW X (.BoolOp .And (a::b::rest) pos) (agK tA qI):=by
 intro D ak s σ H Q I h;calc isTrue_and (cD (ha ak s σ H _ I h) λc s1 F=>?_);let⟨H1,j,q1⟩:=F;cases c with| true=>show hb D ak s1 σ H1 Q j q1| false=>show⟨H1,j,q1⟩
def ai0 (ha:PT X a tA)(hb:PW X (.BoolOp .Or (b::rest) pos) qI):PW X (.BoolOp .Or (a::b::rest) pos) (tOr tA qI):=by
 intro D ak s σ H Q I h;calc isTrue_or (cD (ha ak s σ H _ I h) λc s1 F=>?_);let⟨H1,j,q1⟩:=F;cases c with| true=>show⟨H1,j,q1⟩| false=>show hb D ak s1 σ H1 Q j q1
def agO (ha:PT X a tA):PT X (.UnaryOp .Not a pos) (agL tA):=by intro ak s σ H Q I h;show isTrue_not (ha ak s σ H (λc H1=>Q (!c) H1) I h)
def aea (ta tb:TE):TE:=λσ H Q=>ta σ H λx H1=>N7 x λc=>if c=true then tb σ H1 Q else Q (.bl false) H1
def agP (ta tb:TE):TE:=λσ H Q=>ta σ H λx H1=>N7 x λc=>if c=true then Q (.bl true) H1 else tb σ H1 Q
def aeb (ta:TE):TE:=λσ H Q=>ta σ H λx H1=>N7 x λc=>Q (.bl (!c)) H1
def agQ {op}(h:PE X a t):PE X (.BoolOp op [a] pos) t:=λak s σ H Q I hw=>BoolOp_one (h ak s σ H Q I hw)
def agR (ha:PE X a ta)(hb:PE X (.BoolOp .And (b::rest) pos) tb):PE X (.BoolOp .And (a::b::rest) pos) (aea ta tb):=by
 intro ak s σ H Q I h;calc BoolOp_and (cD (ha ak s σ H _ I h) λv s1 D=>?_);let⟨x,H1,j,r1,q1⟩:=D;let⟨c,rfl,q1⟩:=su q1;cases r1;calc fS ?_;cases c with| true=>show hb ak s1 σ H1 Q j q1| false=>show⟨.bl false,H1,j,rb,q1⟩
def ai1 (ha:PE X a ta)(hb:PE X (.BoolOp .Or (b::rest) pos) tb):PE X (.BoolOp .Or (a::b::rest) pos) (agP ta tb):=by
 intro ak s σ H Q I h;calc BoolOp_or (cD (ha ak s σ H _ I h) λv s1 D=>?_);let⟨x,H1,j,r1,q1⟩:=D;let⟨c,rfl,q1⟩:=su q1;cases r1;calc fS ?_;cases c with| false=>show hb ak s1 σ H1 Q j q1| true=>show⟨.bl true,H1,j,rb,q1⟩
def agS (ha:PE X a ta):PE X (.UnaryOp .Not a pos) (aeb ta):=by intro ak s σ H Q I h;calc UnaryOp_ (cD (ha ak s σ H _ I h) λv s1 D=>?_);let⟨x,H1,j,r1,q1⟩:=D;let⟨c,rfl,q1⟩:=su q1;cases r1;show not_of (fS ⟨.bl (!c),H1,j,rb,q1⟩)
def tIf (t:TT)(ta tb:TE):TE:=λσ H Q=>t σ H λc H1=>if c=true then ta σ H1 Q else tb σ H1 Q
def acu (F:PT X c tA)(ha:PE X a ta)(hb:PE X b tb):PE X (.IfExp c a b pos) (tIf tA ta tb):=by
 intro ak s σ H Q I h;calc wpAny_IfExp (cD (F ak s σ H _ I h) λd s1 D=>?_);let⟨H1,j,q1⟩:=D;cases d with| true=>show ha ak s1 σ H1 Q j q1| false=>show hb ak s1 σ H1 Q j q1
end
def bI (K:W.Frag)(H:Hp)(a:Addr)(xs:List V):Prop:=Rd H a (.lst xs)\/
  ∃(o:Obj) (its:Array Value) (n:Nat),K.lookup a=some o/\o.cls=.type "list"/\o.dict=none/\o.data=.seq its n/\its.size<=sizeLine/\Vals xs its.toList
def aU (K:W.Frag)(H:Hp)(a:Addr)(xs:List V):Prop:=Rd H a (.tup xs)\/
  ∃(o:Obj) (its:Array Value) (n:Nat),K.lookup a=some o/\o.cls=.type "tuple"/\o.data=.seq its n/\its.size<=sizeLine/\Vals xs its.toList
noncomputable def ajL:Value->Option V
 | .none=>some .non
 | .bool b=>some (.bl b)
 | .int i _=>some (.int i)
 | .str x _=>some (.str x)
 | .bytes b _=>some (.Dk b)
 | .float b _=>some (.flt b)
 | .ref a=>some (.ref a)
 | .type n=>some (.ty n)
 | _=>none
def cH.abs (r:cH x u):ajL u=some x:=by
 cases x with
 | non=>cases r;rfl
 | bl _=>cases r;rfl
 | int _=>let⟨t,rfl⟩:=r;rfl
 | str _=>let⟨t,rfl⟩:=r;rfl
 | Dk _=>let⟨t,rfl⟩:=r;rfl
 | flt _=>let⟨t,rfl⟩:=r;rfl
 | ref _=>cases r;rfl
 | ty _=>cases r;rfl
def cH.inj (r:cH x u)(q:cH y u):x=y:=bP (r.abs.symm.trans q.abs)
theorem Vals.inj:∀{xs ys:List V} {us:List Value},Vals xs us->Vals ys us->xs=ys
 | _,_,_,.nil,.nil=>rfl
 | _,_,_,.cons r t,.cons r' t'=>by rw[r.inj r',Vals.inj t t']
section
variable {X:Cx}{ak:AE}{σ:St}{H:Hp}{s:Shared}{a:Addr}{xs ys:List V}
def bI.of {K:W.Frag}(h:H a=some (.lst xs)):bI K H a xs:=.inl (.inl h)
def aU.of {K:W.Frag}(h:H a=some (.tup xs)):aU K H a xs:=.inl (.inl h)
def aP.list (I:aP X ak σ H s)(h:bI X.K H a xs):∃its:List Value,Vals xs its/\PlainL s.heap a its.toArray/\xs.length<=sizeLine:=by
 rcases h with h|⟨o,its,n,j,D,hd,hs,hz,r⟩
 .let⟨z,its,n,r,e⟩:=h.ok I.hok;show⟨its,r,⟨_,n,e,rb,rb,rb⟩,z⟩
 .calc⟨its.toList,r,⟨o,n,I.jC a o j,D,hd,by simpa using hs⟩,?_⟩;let e:=r.length;simp only[cy]at e;lia
def aP.tuple (I:aP X ak σ H s)(h:aU X.K H a xs):∃its:List Value,Vals xs its/\IsTup s.heap a its.toArray/\xs.length<=sizeLine:=by
 rcases h with h|⟨o,its,n,j,D,hs,hz,r⟩
 .let⟨z,its,r,p⟩:=h.ok I.hok;show⟨its,r,p,z⟩
 .calc⟨its.toList,r,⟨o,I.jC a o j,D,n,by simpa using hs⟩,?_⟩;let e:=r.length;simp only[cy]at e;lia
def aP.Ie (I:aP X ak σ H s)(h:bI X.K H a xs)(h':bI X.K H a ys):xs=ys:=by
 obtain⟨its,r,⟨o,n,e,_,_,d⟩,_⟩:=I.list h;obtain⟨its',D,⟨o',F,j,_,_,d'⟩,_⟩:=I.list h';rw[e]at j;cases j;rw[d]at d';injection d' with d1 _;have:its=its':=by simpa using congrArg Array.toList d1
 subst this;show r.inj D
def aP.aaw (I:aP X ak σ H s)(h:aU X.K H a xs)(h':aU X.K H a ys):xs=ys:=by
 obtain⟨its,r,⟨o,e,_,n,d⟩,_⟩:=I.tuple h;obtain⟨its',D,⟨o',j,_,F,d'⟩,_⟩:=I.tuple h';rw[e]at j;cases j;rw[d]at d';injection d' with d1 _;have:its=its':=by simpa using congrArg Array.toList d1
 subst this;show r.inj D
end
abbrev Cx.wish (X:Cx)(E:AD):Cx:={X with xe:=E}
abbrev Cx.Rb (X:Cx):Cx:=X.wish λ_ _=>False
def Cx.Ok.wish {X:Cx}(ok:X.Ok)(E:AD):(X.wish E).Ok:=⟨ok.mod,ok.kind,ok.glob,ok.blt,ok.above,ok.inj,ok.has,ok.cab,ok.hd,ok.frames,ok.stk,ok.exf,ok.bs,ok.Dl,ok.DN,ok.Ib,ok.qF,ok.DP⟩
def Cx.Ok.vp {X:Cx}(ok:(X.wish E).Ok):X.Ok:=⟨ok.mod,ok.kind,ok.glob,ok.blt,ok.above,ok.inj,ok.has,ok.cab,ok.hd,ok.frames,ok.stk,ok.exf,ok.bs,ok.Dl,ok.DN,ok.Ib,ok.qF,ok.DP⟩
section
variable {X:Cx}{ak:AE}{σ:St}{H:Hp}{s:Shared}{E:AD}
def aP.wish (I:aP X ak σ H s)(E:AD):aP (X.wish E) ak σ H s:=⟨I.ok.wish E,I.os,I.bare,I.base,I.loc,I.cell,I.free,I.n_,I.pin,I.hok,I.len⟩
def aP.vp (I:aP (X.wish E) ak σ H s):aP X ak σ H s:=⟨I.ok.vp,I.os,I.bare,I.base,I.loc,I.cell,I.free,I.n_,I.pin,I.hok,I.len⟩
def SP.vp (h:SP (X.wish E) ak D f s'):SP X ak D f s':=by
 cases f with
 | next=>let⟨σ',H',I,q⟩:=h;show⟨σ',H',I.vp,q⟩
 | brk=>let⟨σ',H',I,q⟩:=h;show⟨σ',H',I.vp,q⟩
 | cont=>let⟨σ',H',I,q⟩:=h;show⟨σ',H',I.vp,q⟩
 | ret u=>let⟨v,σ',H',I,r,q⟩:=h;show⟨v,σ',H',I.vp,r,q⟩
def xJ.Rb {st:List Stmt}(h:xJ X.Rb st t):xJ X st t:=λak s σ H D I hw=>fA (h ak s σ H D (I.wish _) hw) (λ_ _ q=>q.vp) λ_ _ z=>False.elim z
end
section
variable {X:Cx}{st:Stmt}{rest:List Stmt}{t u:TS}{e:Expr}{te:TE}{pos:Pos}
def aec:TS:=λD σ H=>D.nx σ H
def agT (t u:TS):TS:=λD σ H=>t {D with nx:=u D} σ H
def aeR:xJ X [] aec:=λ_ _ σ H _ I h=>wpAny_execs_nil ⟨σ,H,I,h⟩
def acv (h1:PS X st t)(h2:xJ X rest u):xJ X (st::rest) (agT t u):=by
 intro ak s σ H D I h;calc wpAny_execs_cons (cD (h1 ak s σ H {D with nx:=u D} I h) λf s1 q=>?_);cases f with
 | next=>let⟨σ',H',j,q⟩:=q;show h2 ak s1 σ' H' D j q
 | ret v=>show q
 | brk=>show q
 | cont=>show q
def aeS (h1:PS X st t):xJ X [st] t:=by
 intro ak s σ H D I h;calc wpAny_execs_cons (cD (h1 ak s σ H D I h) λf s1 q=>?_);cases f with| next=>show wpAny_execs_nil q| ret v=>show q| brk=>show q| cont=>show q
def aP.quiet {ak:AE}{σ:St}{H:Hp}{s:Shared}(I:aP X ak σ H s):interactive X.env=false:=by simp[interactive,I.ok.kind]
def aed (te:TE):TS:=λD σ H=>te σ H λ_ H1=>D.nx σ H1
def aeT (F:PE X e te)(hs:swapsWith e none pos.line X.env=pure false:=by rfl):PS X (.Expr e pos) (aed te):=by intro ak s σ H D I h;show wpAny_Expr_any (cD (F ak s σ H _ I h) λv s1 ⟨x,H1,j,r1,q1⟩=>⟨σ,H1,j,q1⟩) I.quiet hs
def agU (te:TE):TS:=λD σ H=>te σ H D.rt
def agV (F:PE X e te):PS X (.Return (some e) pos) (agU te):=by intro ak s σ H D I h;show wpAny_Return_some (cD (F ak s σ H _ I h) λv s1 ⟨x,H1,j,r1,q1⟩=>⟨x,σ,H1,j,r1,q1⟩)
def agW (c:TT)(t u:TS):TS:=λD σ H=>c σ H λb H1=>if b=true then t D σ H1 else u D σ H1
def ai2 (G:PT X c tc)(ha:xJ X a t)(hb:xJ X b u):PS X (.If c a b pos) (agW tc t u):=by
 intro ak s σ H D I h;calc wpAny_If (cD (G ak s σ H _ I h) λd s1 F=>?_);let⟨H1,j,q1⟩:=F;cases d with| true=>show ha ak s1 σ H1 D j q1| false=>show hb ak s1 σ H1 D j q1
def aax:TS:=λ_ _ _=>False
def aay:xJ X sts aax:=λ_ _ _ _ _ _ h=>h.elim
end
abbrev TG:=V->St->Hp->(St->Hp->Prop)->Prop
abbrev N8:=List V->St->Hp->(St->Hp->Prop)->Prop
def PG (X:Cx)(j:Expr)(t:TG):Prop:=∀(ak:AE) (s:Shared) (σ:St) (H:Hp) (v:V) (u:Value) (Q:St->Hp->Prop),aP X ak σ H s->cH v u->t v σ H Q->
  wpAny (model X.prog X.w) X.A (assign j X.env u) (λ_ s'=>∃σ' H',aP X ak σ' H' s'/\Q σ' H') X.xe s
def PGs (X:Cx)(ts:List Expr)(t:N8):Prop:=∀(ak:AE) (s:Shared) (σ:St) (H:Hp) (vs:List V) (us:List Value) (Q:St->Hp->Prop),aP X ak σ H s->Vals vs us->t vs σ H Q->
  wpAny (model X.prog X.w) X.A (assignInOrder ((assignEach ts X.env).map (·.2)) us) (λ_ s'=>∃σ' H',aP X ak σ' H' s'/\Q σ' H') X.xe s
abbrev agX:=V->V->V->Hp->(Hp->Prop)->Prop
def acw (X:Cx)(t:agX):Prop:=∀(ak:AE) (s:Shared) (σ:St) (H:Hp) (o i v:V) (ov j u:Value) (Q:Hp->Prop),aP X ak σ H s->cH o ov->cH i j->cH v u->t o i v H Q->
  wpAny (model X.prog X.w) X.A (setItem ov j u) (λ_ s'=>∃H',aP X ak σ H' s'/\Q H') X.xe s
section
variable {X:Cx}{pos:Pos}
def sH (i:Nat):TG:=λv σ H Q=>Q (σ.set i (some v)) H
def t_ (D:X.N.Nodup)(hi:X.N[i]?=some x)(hx:Loc X.env.scope x)(F:X.fn x=true\/X.env.scope.names.lookup x=some .local:=by first|show .inl rfl|show .inr rfl|assumption):PG X (.Name x pos) (sH i):=by intro ak s σ H v u Q I r h;show wpAny_assign_Name (Ra I D hi hx r (λs' j=>⟨_,H,j,h⟩) F)
def YC:N8:=λvs σ H Q=>vs=[]/\Q σ H
def Bk (t:TG)(u:N8):N8:=λvs σ H Q=>∃v r,vs=v::r/\t v σ H λσ' H'=>u r σ' H' Q
def Lr:PGs X [] YC:=by intro ak s σ H vs us Q I r h;let⟨e,h⟩:=h;subst e;cases r;show assignInOrder_nil ⟨σ,H,I,h⟩
def uc (h1:PG X e t)(h2:PGs X es u)(hs:(assignEach (e::es) X.env).map (·.2)=assign e X.env::(assignEach es X.env).map (·.2):=by rfl):PGs X (e::es) (Bk t u):=by
 intro ak s σ H vs us Q I r h;let⟨v,F,e1,h⟩:=h;subst e1;cases r with| cons r rr=>rw[hs];calc assignInOrder_cons (cD (h1 ak s σ H _ _ _ I r h) λ_ s1 D=>?_);let⟨σ1,H1,j,q1⟩:=D;show h2 ak s1 σ1 H1 _ _ Q j rr q1
def YD (K:W.Frag)(n:Nat)(t:N8):TG:=λv σ H Q=>∃a xs,v=.ref a/\aU K H a xs/\xs.length=n/\t xs σ H Q
def Rc {es:List Expr}{k:Nat}{t:N8}{n:Nat}(J:X.calm=true)(h:PGs X es t)(hn:(assignEach es X.env).length=n:=by rfl)(j:(assignEach es X.env).findIdx? (·.1)=none:=by rfl):PG X (.Tuple es k pos) (YD X.K n t):=by intro ak s σ H v u Q I r hw;let⟨a,xs,e1,G,hl,hw⟩:=hw;subst e1;cases r;let⟨its,D,ht,hz⟩:=I.tuple G;calc assign_Tuple_tuple (I.ok.hd J) ht (by simp[hn,<-hl,D.length]) j λh' hx=>?_;let F:aP X ak σ H {s with heap:=h' }:=I.kept (t':=s.toks) λb o e=>hx b o (cf (aI e)) e;show h ak _ σ H xs _ Q F (by simpa using D) hw
def agY (to ti:TE)(t:agX):TG:=λv σ H Q=>to σ H λo H1=>ti σ H1 λi D=>t o i v D λj=>Q σ j
def agZ (J:PE X o to)(hi:PE X i ti)(hs:acw X t)(ha:∀v,assign (.Subscript o i pos) X.env v=(do
   let ov <- holding [v] (eval o X.env)
   let j <- holding [v,ov] (eval i X.env)
   standAt pos
   holding [v,ov,j] (setItem ov j v)
   release [v,ov,j] []):=by intro _;rfl):PG X (.Subscript o i pos) (agY to ti t):=by
 intro ak s σ H v u Q I r h;rw[ha];calc af (ib (cD (J ak s σ H _ I h) λov s1 D=>?_));let⟨x,H1,O,r1,q1⟩:=D;calc af (ib (cD (hi ak s1 σ H1 _ O q1) λj s2 D=>?_));let⟨y,Y,F,G,q2⟩:=D;calc af (o6 (af (ib (cD (hs ak s2 σ Y x y v ov j u _ F r1 G r q2) λ_ s3 D=>?_))));let⟨Z,I3,q3⟩:=D;show wpAny_release ⟨σ,Z,I3,q3⟩
def Lw (te:TE)(g:TG):TS:=λD σ H=>te σ H λx H1=>g x σ H1 D.nx
def ag0 (j:PE X e te)(G:PG X tg g)(hs:swapsWithSole [tg] e pos.line X.env=pure false:=by rfl)(hw:swappedStores [tg] e X.env=pure none:=by rfl)(h1:(assignEach [tg] X.env).map (·.2)=[assign tg X.env]:=by rfl):PS X (.Assign [tg] e pos) (Lw te g):=by intro ak s σ H D I h;calc wpAny_Assign_stores (cD (j ak s σ H _ I h) λv s1 J=>?_) hs hw;let⟨x,H1,F,r1,q1⟩:=J;rw[h1];show cD (G ak s1 σ H1 x v _ F r1 q1) λ_ s2 q=>q
def ag1 (J:X.N.Nodup)(hi:X.N[i]?=some x)(hx:Loc X.env.scope x)(F:PE X e te)(hs:swapsWith e (some (.Name x pos')) pos.line X.env=pure false:=by rfl)(O:X.fn x=true\/X.env.scope.names.lookup x=some .local:=by first|show .inl rfl|show .inr rfl|assumption):PS X (.Assign [.Name x pos'] e pos) (Lw te (sH i)):=by intro ak s σ H D I h;calc wpAny_Assign_Name (cD (F ak s σ H _ I h) λv s1 Y=>?_) hs;let⟨y,H1,G,r1,q1⟩:=Y;show Ra G J hi hx r1 (λs2 j=>⟨_,H1,j,q1⟩) O
end
structure It where
 go:Nat->Hp->Prop
 N_:Nat->Hp->V->Hp->Prop
 stop:Nat->Hp->Prop
def vP (X:Cx)(ak:AE)(H:Hp)(b:Addr):Prop:=H b=none/\b≠X.env.locals/\b∉X.fs/\(b∈X.ex\/X.s₀.heap.objs.size<=b)/\(∀x c,X.env.cells.lookup x=some c->c≠b)/\∀p∈X.pn++ak,p.1≠b
def aP.Bl {X:Cx}{ak:AE}{σ:St}{H H':Hp}{s:Shared}{b:Addr}(I:aP X ak σ H s)(hb:s.heap.objs.size<=b)(hn:H' b=none):vP X ak H' b:=by
 refine⟨hn,kM (cv I.lt hb),I.ajJ hb,.inr (bS I.sz hb),λx c e z=>?_,λp hp z=>?_⟩
 .let⟨v,q⟩:=I.cell x c e;show absurd (cv q.lt (by rw[z];show hb)) (fF _)
 .show absurd (cv (aI (I.pin p hp).1) (by rw[z];show hb)) (fF _)
structure Turn (P:Program)(w:World)(K:W.Frag)(tg:Expr)(J:It)(fp:List Addr)(it:Addr)(tn:Nat->Heap->Prop):Prop where
 mem:it∈fp
 obj:∀i h,tn i h->∀b∈fp,∃o,h.get? b=some o/\∀v,o.data≠.cell v
 keep:∀i h h',tn i h->(∀b∈fp,∀o,h.get? b=some o->h'.get? b=some o)->tn i h'
 item:∀(X:Cx),X.prog=P->X.w=w->X.K=K->X.calm=true->∀(i:Nat) (ak:AE) (s:Shared) (σ:St) (H:Hp) (E:AD),aP X ak σ H s->(∀b∈fp,vP X ak H b)->tn i s.heap->J.go i H->
  wpAny (model P w) X.A (pyNext (.ref it)) (λr s1=>∃u,r=some u/\
   wpAny (model P w) X.A (letOwnedTupleGo tg (.ref it) u) (λ_ s2=>∃x H',aP X ak σ H' s2/\cH x u/\J.N_ i H x H'/\tn (i+1) s2.heap/\∀b∈fp,H' b=none) E s1) E s
 done:∀(X:Cx),X.prog=P->X.w=w->X.K=K->X.calm=true->∀(i:Nat) (ak:AE) (s:Shared) (σ:St) (H:Hp) (E:AD),aP X ak σ H s->(∀b∈fp,vP X ak H b)->tn i s.heap->J.stop i H->
  wpAny (model P w) X.A (pyNext (.ref it)) (λr s1=>r=none/\aP X ak σ H s1) E s
 self:∀(A:Around) (i:Nat) (s:Shared) (Q:AD) (E:AD),tn i s.heap->Q (.ref it) s->wpAny (model P w) A (pyIter (.ref it)) Q E s
abbrev TI:=St->Hp->(It->Hp->Prop)->Prop
def PIE (X:Cx)(ak:AE)(σ:St)(tg:Expr)(R:It->Hp->Prop)(j:Value)(s2:Shared):Prop:=∃(it:Addr) (fp:List Addr) (tn:Nat->Heap->Prop) (J:It) (H':Hp),j=.ref it/\aP X ak σ H' s2/\Turn X.prog X.w X.K tg J fp it tn/\tn 0 s2.heap/\(∀b∈fp,vP X ak H' b)/\R J H'
def PI (X:Cx)(tg iter:Expr)(wi:TI):Prop:=∀(ak:AE) (s:Shared) (σ:St) (H:Hp) (R:It->Hp->Prop),aP X ak σ H s->wi σ H R->
  wpAny (model X.prog X.w) X.A (eval iter X.env) (λv s1=>wpAny (model X.prog X.w) X.A (pyIter v) (PIE X ak σ tg R) X.xe s1) X.xe s
def JG {s : Shared}(F : s.heap.get? it = some o)(D : o.cls = .type n)(hd : o.data = .fields vs)(hn : ["enumerate", "zip", "dict_itemiterator", "dict_reverseitemiterator", "odict_iterator", "itertools.zip_longest", "itertools.pairwise"].contains n = false)(j : Q () s) : wpAny M A (letOwnedTupleGo tg (.ref it) u) Q E s := by
  unfold letOwnedTupleGo;cases tg <;> first
    | show ax j
    | (cases u <;> first
        | show ax j
        | (refine af (wpAny_load F ?_)
           rw[D, hd];show wpAny M A (if (["enumerate", "zip", "dict_itemiterator", "dict_reverseitemiterator", "odict_iterator", "itertools.zip_longest", "itertools.pairwise"].contains n&&vs[0]? == some (rawInt _)) = true then _ else _) Q E s;rw[if_neg (by intro h; rw[hn, Bool.false_and]at h; cases h)];show ax j))
abbrev ItS (Sq:Hp->List V->Prop):It:=⟨λi H=>∃xs x,Sq H xs/\xs[i]?=some x,λi H x H'=>H'=H/\∀xs,Sq H xs->xs[i]?=some x,λi H=>∃xs,Sq H xs/\xs.length<=i⟩
def Itl (K:W.Frag)(a:Addr):It:=ItS λH=>bI K H a
def Itt (K:W.Frag)(a:Addr):It:=ItS λH=>aU K H a
def Itr (lo:Int)(n:Nat):It:=⟨λi _=>i<n,λi H x H'=>H'=H/\x=.int (lo+i),λi _=>n<=i⟩
def aaz {P:Program}{w:World}{K:W.Frag}{tg:Expr}(a it:Addr):Turn P w K tg (Itl K a) [it] it (λi h=>h.IsListIter it a i) where
 mem:=by simp
 obj:=λi h st b hb=>by
  let e:b=it:=by simpa using hb
  subst e;let⟨o,e,c,d⟩:=st;show⟨o,e,λv z=>by rw[d]at z;cases z⟩
 keep:=λi h h' st k=>st.at λo e=>k it t7 o e
 item:=by intro X F hw G Y i ak s σ H E I D st O;subst F hw G;let⟨xs,x,j,hx⟩:=O;let⟨its,J,p,hz⟩:=I.list j;let⟨u,hu,ru⟩:=J.get hx;let⟨f0,f1,f2,f3,f4,f5⟩:=D it t7;calc wpAny_pyNext_list_item st p.isList (x:=u) (by simpa using hu) λh' st' sb=>?_;let Z:aP X ak σ H {s with heap:=h' }:=I.turned (t':=s.toks) (λb o hb e=>(sb.2 b hb).trans e) f0 f1 f3 f4 f5;let⟨o,e,c,d⟩:=id st';show⟨u,rb,JG (s:={s with heap:=h' }) e c d t9 ⟨x,H,Z,ru,⟨rb,λys hy=>by rw[I.Ie hy j];show hx⟩,st',λb hb=>(D b hb).1⟩⟩
 done:=by intro X F hw G Y i ak s σ H E I D st O;subst F hw G;let⟨xs,j,hx⟩:=O;let⟨its,J,p,hz⟩:=I.list j;let⟨f0,f1,f2,f3,f4,f5⟩:=D it t7;let hl:=J.length;show wpAny_pyNext_list_end (I.ok.hd Y) st p.isList (by simp;simp_all) λh' eb=>⟨rb,I.turned (t':=s.toks) (λb o hb e=>eb b o hb e) f0 f1 f3 f4 f5⟩
 self:=λ_ _ _ _ _ st h=>wpAny_pyIter_listiter st h
def YF {P:Program}{w:World}{K:W.Frag}{tg:Expr}(a it:Addr):Turn P w K tg (Itt K a) [it] it (λi h=>h.IsTupleIter it a i) where
 mem:=by simp
 obj:=λi h st b hb=>by
  let e:b=it:=by simpa using hb
  subst e;let⟨o,e,c,d⟩:=st;show⟨o,e,λv z=>by rw[d]at z;cases z⟩
 keep:=λi h h' st k=>st.at λo e=>k it t7 o e
 item:=by intro X F hw G Y i ak s σ H E I D st O;subst F hw G;let⟨xs,x,j,hx⟩:=O;let⟨its,J,p,hz⟩:=I.tuple j;let⟨u,hu,ru⟩:=J.get hx;let⟨f0,f1,f2,f3,f4,f5⟩:=D it t7;calc wpAny_pyNext_tuple_item st (show s.heap.IsTuple a its.toArray from p) (x:=u) (by simpa using hu) λh' st' sb=>?_;let Z:aP X ak σ H {s with heap:=h' }:=I.turned (t':=s.toks) (λb o hb e=>(sb.2 b hb).trans e) f0 f1 f3 f4 f5;let⟨o,e,c,d⟩:=id st';show⟨u,rb,JG (s:={s with heap:=h' }) e c d t9 ⟨x,H,Z,ru,⟨rb,λys hy=>by rw[I.aaw hy j];show hx⟩,st',λb hb=>(D b hb).1⟩⟩
 done:=by intro X F hw G Y i ak s σ H E I D st O;subst F hw G;let⟨xs,j,hx⟩:=O;let⟨its,J,p,hz⟩:=I.tuple j;let⟨f0,f1,f2,f3,f4,f5⟩:=D it t7;let hl:=J.length;show wpAny_pyNext_tuple_end (I.ok.hd Y) st (show s.heap.IsTuple a its.toArray from p) (by simp;lia) λh' eb=>⟨rb,I.turned (t':=s.toks) (λb o hb e=>eb b o hb e) f0 f1 f3 f4 f5⟩
 self:=λ_ _ _ _ _ st h=>wpAny_pyIter_tupleiter st h
def YG {P:Program}{w:World}{K:W.Frag}{tg:Expr}(it:Addr)(lo:Int)(n:Nat):Turn P w K tg (Itr lo n) [it] it (λi h=>IsRangeIter h it (lo+(i:Nat)*1) ((n:Int)-(i:Nat)) 1) where
 mem:=by simp
 obj:=λi h st b hb=>by
  let e:b=it:=by simpa using hb
  subst e;show⟨_,st,λv z=>by let z':Data.fields _=Data.cell v:=z;cases z'⟩
 keep:=λi h h' st k=>k it t7 _ st
 item:=by intro X D hw F G i ak s σ H E I j st J;subst D hw F;let⟨f0,f1,f2,f3,f4,f5⟩:=j it t7;let W:=Walks.range (prog:=X.prog) (w:=X.w) (I.ok.hd G) it lo 1 n;calc W.item i s _ _ J st λv h' tk Z st' kk=>?_;let⟨t,rfl⟩:=Z;let O:aP X ak σ H {s with heap:=h',toks:=tk}:=I.turned (λb o hb e=>kk b o (by simpa using hb) e) f0 f1 f3 f4 f5;calc⟨_,rb,JG (s:={s with heap:=h',toks:=tk}) (n:="range_iterator") st' rb rb t9 ⟨.int (lo+i),H,O,⟨t,?_⟩,⟨rb,rb⟩,st',λb hb=>(j b hb).1⟩⟩;rw[Int.mul_one]
 done:=by intro X D hw F G i ak s σ H E I j st J;subst D hw F;let⟨f0,f1,f2,f3,f4,f5⟩:=j it t7;show wpAny_pyNext_range_end (I.ok.hd G) st (by have:n<=i:=J;lia) λh' Y=>⟨rb,I.turned (t':=s.toks) (λb o hb e=>Y b o hb e) f0 f1 f3 f4 f5⟩
 self:=λ_ _ _ _ _ st h=>wpAny_pyIter_rangeiter st h
section
variable {X:Cx}{tg:Expr}
def aee (K:W.Frag)(tl:TE):TI:=λσ H R=>tl σ H λx H1=>∃a,x=.ref a/\(∃xs,bI K H1 a xs)/\R (Itl K a) H1
def ag2 (K:W.Frag)(tl:TE):TI:=λσ H R=>tl σ H λx H1=>∃a,x=.ref a/\(∃xs,aU K H1 a xs)/\R (Itt K a) H1
def aeU (hl:PE X l tl):PI X tg l (aee X.K tl):=by
 intro ak s σ H R I h;calc cD (hl ak s σ H _ I h) λv s1 F=>?_;let⟨x,H1,j,r1,q1⟩:=F;obtain⟨a,e,⟨xs,D⟩,q⟩:=q1;subst e;cases r1;let⟨its,G,p,hz⟩:=j.list D;calc iF p.isList ?_;calc⟨s1.heap.objs.size,[s1.heap.objs.size],_,_,H1,rb,j.kept (t':=s1.toks) λb o e=>ag _ e,aaz a _,⟨_,bo _ rb,rb,rb⟩,λb hb=>?_,q⟩;let e:b=s1.heap.objs.size:=by simpa using hb
 subst e;show j.Bl (ai _) (j.hok.fresh (ai _))
def ag3 (hl:PE X l tl):PI X tg l (ag2 X.K tl):=by
 intro ak s σ H R I h;calc cD (hl ak s σ H _ I h) λv s1 F=>?_;let⟨x,H1,j,r1,q1⟩:=F;obtain⟨a,e,⟨xs,D⟩,q⟩:=q1;subst e;cases r1;let⟨its,G,p,hz⟩:=j.tuple D;calc wpAny_pyIter_tuple (show s1.heap.IsTuple a its.toArray from p) ?_;calc⟨s1.heap.objs.size,[s1.heap.objs.size],_,_,H1,rb,j.kept (t':=s1.toks) λb o e=>ag _ e,YF a _,⟨_,bo _ rb,rb,rb⟩,λb hb=>?_,q⟩;let e:b=s1.heap.objs.size:=by simpa using hb
 subst e;show j.Bl (ai _) (j.hok.fresh (ai _))
def Rf {ak:AE}{σ:St}{H:Hp}{s:Shared}{R:It->Hp->Prop}{E:AD}{lo hi:Int}{t u v:Tok}{tk:Nat}(I:aP X ak σ H s)(h1:-(2^62)<=lo)(h2:lo<2^62)(h3:-(2^62)<=hi)(h4:hi<2^62)(q:R (Itr lo (hi-lo).toNat) H):wpAny (model X.prog X.w) X.A (pyIter (.ref s.heap.objs.size)) (PIE X ak σ tg R) E {s with heap:=s.heap.push {cls:=.type "range",data:=.fields #[.int lo t,.int hi u,.int 1 v]},toks:=tk}:=by
 calc wpAny_pyIter_range (IsRange.new ..) (small_one h1 h2 h3 h4) ?_;let j:aP X ak σ H {s with heap:=s.heap.push {cls:=.type "range",data:=.fields #[.int lo t,.int hi u,.int 1 v]},toks:=tk}:=I.kept λb o e=>ag _ e;refine⟨(s.heap.push {cls:=.type "range",data:=.fields #[.int lo t,.int hi u,.int 1 v]}).objs.size,[(s.heap.push {cls:=.type "range",data:=.fields #[.int lo t,.int hi u,.int 1 v]}).objs.size],_,_,H,rb,
  j.kept (t':=tk) λb o e=>ag _ e,YG _ lo (hi-lo).toNat,?_,λb hb=>?_,q⟩
 .let e1:lo+((0:Nat):Int)*1=lo:=t7;let e2:(((hi-lo).toNat:Nat):Int)-((0:Nat):Int)=Builtin.Range.rangeSize lo hi 1:=by rw[rangeSize_one];split <;> grind
  show IsRangeIter _ _ (lo+((0:Nat):Int)*1) ((((hi-lo).toNat:Nat):Int)-((0:Nat):Int)) 1;rw[e1,e2];show bo _ rfl
 .let e:b=(s.heap.push {cls:=.type "range",data:=.fields #[.int lo t,.int hi u,.int 1 v]}).objs.size:=by simpa using hb
  subst e;show j.Bl (ai _) (j.hok.fresh (ai _))
def aef (ta:TA):TI:=λσ H R=>ta σ H λvs H1=>∃j:Int,vs=[.int j]/\-(2^62)<=j/\j<2^62/\R (Itr 0 j.toNat) H1
def aeg (ta:TA):TI:=λσ H R=>ta σ H λvs H1=>∃i j:Int,vs=[.int i,.int j]/\(-(2^62)<=i/\i<2^62/\-(2^62)<=j/\j<2^62)/\R (Itr i (j-i).toNat) H1
def aaA (F:Gl X "range")(hm:X.mg "range"=none)(ha:PA X [a] ta)(hs:starEach [a] X.env=[(false,eval a X.env)]:=by rfl):PI X tg (.Call (.Name "range" p) [a] [] pos) (aef ta):=by
 intro ak s σ H R I h;calc Call_ (vo I F hm boot_range (gh (cD (ha pos ak s σ H _ I h) λus s1 G=>?_) hs rb));let⟨vs,H1,D,r1,q1⟩:=G;let⟨j,e,q1,q2,q⟩:=q1;subst e;cases r1 with| cons r rr=>cases rr;let⟨t,rfl⟩:=r;show call_range_1 (Rf D t6 t6 q1 q2 (by simpa using q))
def aaB {a b:Expr}{ta:TA}{p pos:Pos}(G:Gl X "range")(hm:X.mg "range"=none)(ha:PA X [a,b] ta)(hs:starEach [a,b] X.env=[(false,eval a X.env),(false,eval b X.env)]:=by rfl)(D:starEach [b] X.env=[(false,eval b X.env)]:=by rfl):PI X tg (.Call (.Name "range" p) [a,b] [] pos) (aeg ta):=by
 intro ak s σ H R I h;calc Call_ (vo I G hm boot_range (gh (cD (ha pos ak s σ H _ I h) λus s1 J=>?_) (by rw[hs,D]) (by rw[D];rfl)));let⟨vs,H1,F,r1,q1⟩:=J;obtain⟨i,j,e,⟨q1,q2,q3,q4⟩,q⟩:=q1;subst e;cases r1 with
 | cons r rr=>
  cases rr with| cons r' rr=>cases rr;let⟨t,rfl⟩:=r;let⟨t',rfl⟩:=r';show call_range_2 (Rf F q1 q2 q3 q4 q)
abbrev Lx (J:It)(g:TG)(tb:TS)(D:Ends)(σ:St)(H:Hp):Prop:=∃W:Nat->Nat->St->Hp->Prop,(∃m,W 0 m σ H)/\∀i m σ H,W i m σ H->
 (J.stop i H/\D.nx σ H)\/(J.go i H/\∃N:St->Hp->Prop,(∀σ' H',N σ' H'->∃m',m'<m/\W (i+1) m' σ' H')/\∀x H',J.N_ i H x H'->g x σ H' λσ2 H2=>tb {D with nx:=N,ct:=N,bk:=D.nx} σ2 H2)
def ag4 (wi:TI)(g:TG)(tb:TS):TS:=λD σ H=>wi σ H λJ H1=>Lx J g tb D σ H1
def YH {J:It}{g:TG}{tb:TS}{D:Ends}{σ:St}{H:Hp}(n:Nat)(F:Nat->St->Hp->Prop)(h0:F 0 σ H)(G:∀i σ H,i<n->F i σ H->J.go i H/\∀x H',J.N_ i H x H'->g x σ H' λσ2 O=>tb {D with nx:=F (i+1),ct:=F (i+1),bk:=D.nx} σ2 O)(I:∀σ H,F n σ H->J.stop n H/\D.nx σ H):Lx J g tb D σ H:=by
 calc⟨λi m σ H=>m=n-i/\i<=n/\F i σ H,⟨n,t7,eD _,h0⟩,?_⟩;intro i m σ H z;let⟨rfl,hi,p⟩:=z;by_cases j:i<n;.show .inr ⟨(G i σ H j p).1,F (i+1),λσ' H' Y=>⟨n-(i+1),Nat.sub_lt_sub_left j (ii _),rb,j,Y⟩,(G i σ H j p).2⟩
 .let e:i=n:=t6;subst e;show .inl (I σ H p)
def aeh {F:Hp->List V->Prop}{xs:List V}{g:TG}{tb:TS}{D:Ends}{σ:St}{H:Hp}(j:Nat->St->Hp->Prop)(h0:j 0 σ H)(hl:∀i σ H,i<=xs.length->j i σ H->F H xs)(hs:∀i x σ H,xs[i]?=some x->j i σ H->g x σ H λσ2 G=>tb {D with nx:=j (i+1),ct:=j (i+1),bk:=D.nx} σ2 G)(hd:∀σ H,j xs.length σ H->D.nx σ H):Lx (ItS F) g tb D σ H:=YH xs.length j h0 (λi σ H h p=>⟨⟨xs,xs[i],hl i σ H (am h) p,by simp[h]⟩,λx H' ⟨e,y⟩=>by subst e;show hs i x σ _ (y xs (hl i σ _ (am h) p)) p⟩) λσ H p=>⟨⟨xs,hl _ σ H (ai _) p,ai _⟩,hd σ H p⟩
def DQ (fp:List Addr)(h:Heap):List (Addr×Obj):=fp.filterMap λb=>(h.get? b).map λo=>(b,o)
def wF {h:Heap}(hb:b∈fp)(e:h.get? b=some o):(b,o)∈DQ fp h:=sd.mpr ⟨b,hb,by rw[e];rfl⟩
def aaC (hp:p∈DQ fp h):p.1∈fp/\h.get? p.1=some p.2:=by
 let⟨b,hb,e⟩:=sd.mp hp;cases q:h.get? b with
 | none=>rw[q]at e;cases e
 | some o=>rw[q]at e;let j:(b,o)=p:=bP e;subst j;show⟨hb,q⟩
def aP.pinned {ak:AE}{σ:St}{H:Hp}{s:Shared}{fp:List Addr}(I:aP X ak σ H s)(F:∀b∈fp,vP X ak H b)(D:∀b∈fp,∃o,s.heap.get? b=some o/\∀v,o.data≠.cell v):aP X (ak++DQ fp s.heap) σ H s:=
 I.Wy λp hp=>(be.mp hp).elim (λz=>I.pin p (fo _ z)) λz=>by let⟨hb,e⟩:=aaC z;let⟨f0,f1,f2,_⟩:=F p.1 hb;let⟨o,j,d⟩:=D p.1 hb;rw[e]at j;cases j;show⟨e,f0,f1,f2,d⟩
def aP.xK {ak pl:AE}{σ:St}{H:Hp}{s:Shared}(I:aP X (ak++pl) σ H s):aP X ak σ H s:=I.Wy λp hp=>I.pin p (fo _ (qh _ hp))
def ag5 (hp:PassesOwn (model X.prog X.w) X.A X.env X.xe)(hc:X.calm=true)(hi:PI X tg iter wi)(hg:PG X tg g)(hb:xJ X body tb)(hs:∀x,foldedSetIterable iter X.env x=pure x:=by intro _;rfl):PS X (.For tg iter body [] pos) (ag4 wi g tb):=by
 intro ak s σ H D I h;calc wpAny_For (cD (hi ak s σ H _ I h) λv s1 h1=>cD h1 λitv s2 h2=>?_) hs;obtain⟨it,fp,tn,J,H2,e,I2,T,st2,f2,W,⟨m0,w0⟩,turn⟩:=h2;subst e;let F:∀{H':Hp},(∀b∈fp,H' b=none)->∀b∈fp,vP X ak H' b:=λhn b hb=>⟨hn b hb,(f2 b hb).2⟩
 calc codeAny_forLoop_any (λn s'=>∃i σ' H',aP X ak σ' H' s'/\tn i s'.heap/\(∀b∈fp,H' b=none)/\W i n σ' H') ?_ m0 ⟨0,σ,H2,I2,st2,λb hb=>(f2 b hb).1,w0⟩;intro n s3 z;let⟨i,σ3,H3,I3,st3,fr3,w3⟩:=z;rcases turn i n σ3 H3 w3 with⟨stop,qn⟩|⟨go,N,hN,step⟩
 .calc mP hp (cD (T.done X rb rb rb hc i ak s3 σ3 H3 X.xe I3 (F fr3) st3 stop) λr s4 ⟨hr,I4⟩=>?_);subst hr;show wpAny_execs_nil ⟨σ3,H3,I4,qn⟩
 .calc mP hp (cD (T.item X rb rb rb hc i ak s3 σ3 H3 X.xe I3 (F fr3) st3 go) λr s4 Z=>?_);let⟨u,hr,h4⟩:=Z;subst hr;calc mP hp (cD h4 λ_ s5 Z=>?_);let⟨x,H5,I5,r5,y5,Rg,fr5⟩:=Z;let I5':=I5.pinned (F fr5) (T.obj _ _ Rg);calc mP hp (cD (hg _ s5 σ3 H5 x u _ I5' r5 (step x H5 y5)) λ_ s6 Z=>?_);let⟨σ6,H6,I6,q6⟩:=Z;calc mP hp (cD (hb _ s6 σ6 H6 _ I6 q6) λf s7 q7=>?_);let G:∀{σ7:St} {j:Hp},aP X (ak++DQ fp s5.heap) σ7 j s7->N σ7 j->∃m,m<n/\∃i σ' H',aP X ak σ' H' s7/\tn i s7.heap/\(∀b∈fp,H' b=none)/\W i m σ' H':=λ{σ7 j} O Y=>by
   let⟨m',hm,w7⟩:=hN σ7 j Y;calc⟨m',hm,i+1,σ7,j,O.xK,T.keep _ _ _ Rg λb hb o e=>(O.pin (b,o) (fo _ (fo _ (wF hb e)))).1,λb hb=>?_,w7⟩;let⟨o,e,d⟩:=T.obj _ _ Rg b hb;show(O.pin (b,o) (fo _ (fo _ (wF hb e)))).2.1
  cases f with
  | next=>let⟨σ7,j,O,Y⟩:=q7;show G O Y
  | cont=>let⟨σ7,j,O,Y⟩:=q7;show G O Y
  | brk=>let⟨σ7,j,O,q7⟩:=q7;show⟨σ7,j,O.xK,q7⟩
  | ret v=>let⟨x7,σ7,j,O,r7,q7⟩:=q7;show⟨x7,σ7,j,O.xK,r7,q7⟩
end
def pB {K:W.Frag}{a:Addr}:=@aeh λH=>bI K H a
def Gz {K:W.Frag}{a:Addr}:=@aeh λH=>aU K H a
def jR {lo:Int}{n:Nat}{g:TG}{tb:TS}{D:Ends}{σ:St}{H:Hp}(j:Nat->St->Hp->Prop)(h0:j 0 σ H)(hs:∀i σ H,i<n->j i σ H->g (.int (lo+i)) σ H λσ2 F=>tb {D with nx:=j (i+1),ct:=j (i+1),bk:=D.nx} σ2 F)(hd:∀σ H,j n σ H->D.nx σ H):Lx (Itr lo n) g tb D σ H:=YH n j h0 (λi σ H h p=>⟨h,λx H' y=>by let⟨rfl,rfl⟩:=y;show hs i σ _ h p⟩) λσ H p=>⟨ai _,hd σ H p⟩
abbrev R2:=V->V->Hp->VK->Prop
def gJ (X:Cx)(f:Value->Value->Sem Value)(r:R2):Prop:=∀(ak:AE) (s:Shared) (σ:St) (H:Hp) (x y:V) (v u:Value) (Q:VK),aP X ak σ H s->cH x v->cH y u->r x y H Q->
  wpAny (model X.prog X.w) X.A (f v u) (EP X ak σ Q) X.xe s
def UnR (X:Cx)(f:Value->Sem Value)(r:V->Hp->VK->Prop):Prop:=∀(ak:AE) (s:Shared) (σ:St) (H:Hp) (x:V) (v:Value) (Q:VK),aP X ak σ H s->cH x v->r x H Q->
  wpAny (model X.prog X.w) X.A (f v) (EP X ak σ Q) X.xe s
def iV (X:Cx)(f:Value)(r:List V->Hp->VK->Prop):Prop:=∀(ak:AE) (s:Shared) (σ:St) (H:Hp) (xs:List V) (us:List Value) (Q:VK),aP X ak σ H s->Vals xs us->r xs H Q->
  wpAny (model X.prog X.w) X.A (call f us) (EP X ak σ Q) X.xe s
def Ht (r:R2)(ta tb:TE):TE:=λσ H Q=>ta σ H λx H1=>tb σ H1 λy j=>r x y j Q
def tUn (r:V->Hp->VK->Prop)(ta:TE):TE:=λσ H Q=>ta σ H λx H1=>r x H1 Q
def rI (C:Int->Int->Prop)(g:Int->Int->V):R2:=λx y H Q=>∃i j,x=.int i/\y=.int j/\C i j/\Q (g i j) H
def Oa (g:Int->Int->V):R2:=λx y H Q=>∃i j,x=.int i/\y=.int j/\Q (g i j) H
def rU (g:Int->V):V->Hp->VK->Prop:=λx H Q=>∃i,x=.int i/\Q (g i) H
section
variable {X:Cx}{a b:Expr}{ta tb:TE}{pos:Pos}
def acy (ha:PE X a ta)(hb:PE X b tb){ak:AE}{s:Shared}{σ:St}{H:Hp}{R:V->V->Hp->Prop}(I:aP X ak σ H s)(h:ta σ H λx H1=>tb σ H1 λy j=>R x y j){Q:AD}{f:Value->Value->Sem Value}(O:∀v u s2 x y j,aP X ak σ j s2->cH x v->cH y u->R x y j->wpAny (model X.prog X.w) X.A (f v u) Q X.xe s2):wpAny (model X.prog X.w) X.A (eval a X.env) (λv Y=>wpAny (model X.prog X.w) X.A (eval b X.env) (λu Z=>wpAny (model X.prog X.w) X.A (f v u) Q X.xe Z) X.xe Y) X.xe s:=by calc cD (ha ak s σ H _ I h) λv s1 D=>?_;let⟨x,H1,J,r1,q1⟩:=D;calc cD (hb ak s1 σ H1 _ J q1) λu s2 D=>?_;let⟨y,j,F,G,q2⟩:=D;show O v u s2 x y j F r1 G q2
def ai3 (F:gJ X (binaryOp op) r)(ha:PE X a ta)(hb:PE X b tb):PE X (.BinOp a op b pos) (Ht r ta tb):=by intro ak s σ H Q I h;show wpAny_BinOp (acy ha hb I h λv u s2 x y G j D J q=>F ak s2 σ G x y v u Q j D J q)
def ai4 (D:UnR X (unaryOp op) r)(ha:PE X a ta):PE X (.UnaryOp op a pos) (tUn r ta):=by intro ak s σ H Q I h;show UnaryOp_ (cD (ha ak s σ H _ I h) λv s1 ⟨x,H1,j,r1,q1⟩=>D ak s1 σ H1 x v Q j r1 q1)
def opI {f:Value->Value->Sem Value}{C:Int->Int->Prop}{g:Int->Int->Int}(D:∀(i j:Int) (t u:Tok) (s:Shared) (Q:AD) (E:AD),C i j->Q (.int (g i j) s.toks) {s with toks:=s.toks+1}->wpAny (model X.prog X.w) X.A (f (.int i t) (.int j u)) Q E s):gJ X f (rI C λi j=>.int (g i j)):=by intro ak s σ H x y v u Q I F J h;let⟨i,j,rfl,rfl,G,q⟩:=h;let⟨t,rfl⟩:=F;let⟨t',rfl⟩:=J;show D i j t t' s _ _ G ⟨.int (g i j),H,I.tok _,⟨_,rb⟩,q⟩
def ag6 {f:Value->Value->Sem Value}{g:Int->Int->Int}(D:∀(i j:Int) (t u:Tok) (s:Shared) (Q:AD) (E:AD),Q (.int (g i j) s.toks) {s with toks:=s.toks+1}->wpAny (model X.prog X.w) X.A (f (.int i t) (.int j u)) Q E s):gJ X f (Oa λi j=>.int (g i j)):=by intro ak s σ H x y v u Q I F G h;let⟨i,j,rfl,rfl,q⟩:=h;let⟨t,rfl⟩:=F;let⟨t',rfl⟩:=G;show D i j t t' s _ _ ⟨.int (g i j),H,I.tok _,⟨_,rb⟩,q⟩
def YJ {f:Value->Value->Sem Value}{g:Int->Int->Bool}(D:∀(i j:Int) (t u:Tok) (s:Shared) (Q:AD) (E:AD),Q (.bool (g i j)) s->wpAny (model X.prog X.w) X.A (f (.int i t) (.int j u)) Q E s):gJ X f (Oa λi j=>.bl (g i j)):=by intro ak s σ H x y v u Q I F G h;let⟨i,j,rfl,rfl,q⟩:=h;let⟨t,rfl⟩:=F;let⟨t',rfl⟩:=G;show D i j t t' s _ _ ⟨.bl (g i j),H,I,rb,q⟩
def ajM (i j:Int):Prop:=0<j/\j<1073741824
def ajN (i j:Int):Prop:=0<=j/\j<=1000000/\i.natAbs<2^64
def YK (i j:Int):Prop:=(-(2^64)<i/\i<2^64)\/(-(2^64)<j/\j<2^64)
def YK.ok (h:YK i j):IntMulOk i j:=by
 rcases h with⟨h1,h2⟩|⟨h1,h2⟩;.show .of_left (intBits_le_64 h1 h2)
 .show .of_right (intBits_le_64 h1 h2)
def cY:gJ X (binaryOp .Add) (Oa λi j=>.int (i+j)):=ag6 λ_ _ _ _ _ _ _ q=>add_int q
def qJ:gJ X (binaryOp .Sub) (Oa λi j=>.int (i-j)):=ag6 λ_ _ _ _ _ _ _ q=>sub_int q
def jE:gJ X (binaryOp .Mult) (rI YK λi j=>.int (i*j)):=opI λ_ _ _ _ _ _ _ D q=>mul_int q D.ok
def cP:gJ X (binaryOp .FloorDiv) (rI ajM λi j=>.int (i/j)):=opI λi j _ _ _ _ _ D q=>by let h1:(0:Int)<j:=D.1;let h2:j<1073741824:=D.2;show floordiv_int t6 (by rw[sh i (Int.le_of_lt h1)];show q) (.inl (PyProof.noPylong_small (by grind)))
def b_:gJ X (binaryOp .Mod) (rI (λ_ j=>0<j) λi j=>.int (i%j)):=opI λi j _ _ _ _ _ D q=>by let h1:(0:Int)<j:=D;show mod_int' t6 (by rw[Int.fmod_eq_emod_of_nonneg i t6];show q)
def Rh:gJ X (binaryOp .Pow) (rI ajN λi j=>.int (i^j.toNat)):=opI λ_ _ _ _ _ _ _ D q=>pow_int_small D.1 D.2.1 D.2.2 q
def unI {f:Value->Sem Value}{g:Int->Int}(j:∀(i:Int) (t:Tok) (s:Shared) (Q:AD) (E:AD),Q (.int (g i) s.toks) {s with toks:=s.toks+1}->wpAny (model X.prog X.w) X.A (f (.int i t)) Q E s):UnR X f (rU λi=>.int (g i)):=by intro ak s σ H x v Q I D h;let⟨i,rfl,q⟩:=h;let⟨t,rfl⟩:=D;show j i t s _ _ ⟨.int (g i),H,I.tok _,⟨_,rb⟩,q⟩
def sI:UnR X (unaryOp .USub) (rU λi=>.int (-i)):=unI λ_ _ _ _ _ q=>neg_int q
end
noncomputable def ag7:V->V->Bool
 | .non,.non=>true|.non,.int _=>true|.int _,.non=>true|.non,.bl _=>true|.bl _,.non=>true|.non,.str _=>true|.str _,.non=>true
 | .int _,.int _=>true|.bl _,.bl _=>true|.str _,.str _=>true|.Dk _,.Dk _=>true
 | .int _,.str _=>true|.str _,.int _=>true|.bl _,.str _=>true|.str _,.bl _=>true
 | _,_=>false
def rEq:R2:=λx y H Q=>ag7 x y=true/\Q (.bl (decide (x=y))) H
def rNe:R2:=λx y H Q=>ag7 x y=true/\Q (.bl (!decide (x=y))) H
def Wz:decide (V.int i=V.int j)=(i==j):=by rw[jI];simp
def aaD:decide (V.bl i=V.bl j)=(i==j):=by rw[jI];simp
def WK:decide (V.str i=V.str j)=(i==j):=by rw[jI];simp
def WL:decide (V.Dk i=V.Dk j)=(i.toList==j.toList):=by rw[jI];cases i;cases j;simp
section
variable {X:Cx}{a b c:Expr}{ta tb tc:TE}{pos:Pos}
def d8 {ak:AE}{σ:St}{H:Hp}{s:Shared}{Q:VK}{k j:Bool}(I:aP X ak σ H s)(q:Q (.bl k) H)(e:k=j):EP X ak σ Q (.bool j) s:=by subst e;show⟨.bl k,H,I,rb,q⟩
def jD:gJ X (compareOp .Eq) rEq:=by
 intro ak s σ H x y v u Q I F D h;let⟨hs,q⟩:=h;cases x with
 | non=>
  cases F;cases y with
  | non=>cases D;show PySem.EqNone.eq_none_none (d8 I q t7)
  | bl j=>cases D;show PySem.EqNone.eq_none_bool (d8 I q t7)
  | int j=>let⟨t',rfl⟩:=D;show PySem.EqNone.eq_none_int (d8 I q t7)
  | str j=>let⟨t',rfl⟩:=D;show PySem.EqNone.eq_none_str (d8 I q t7)
  | _=>show absurd (show false=true from hs) cp
 | bl i=>
  cases F;cases y with
  | non=>cases D;show PySem.EqNone.eq_bool_none (d8 I q t7)
  | bl j=>cases D;show eq_bool (d8 I q aaD)
  | str j=>let⟨t',rfl⟩:=D;show PySem.EqMixed.eq_bool_str (d8 I q t7)
  | _=>show absurd (show false=true from hs) cp
 | int i=>
  let⟨t,rfl⟩:=F;cases y with
  | non=>cases D;show PySem.EqNone.eq_int_none (d8 I q t7)
  | int j=>let⟨t',rfl⟩:=D;show eq_int (d8 I q Wz)
  | str j=>let⟨t',rfl⟩:=D;show PySem.EqMixed.eq_int_str (d8 I q t7)
  | _=>show absurd (show false=true from hs) cp
 | str i=>
  let⟨t,rfl⟩:=F;cases y with
  | non=>cases D;show PySem.EqNone.eq_str_none (d8 I q t7)
  | bl j=>cases D;show PySem.EqMixed.eq_str_bool (d8 I q t7)
  | int j=>let⟨t',rfl⟩:=D;show PySem.EqMixed.eq_str_int (d8 I q t7)
  | str j=>let⟨t',rfl⟩:=D;show eq_str (d8 I q WK)
  | _=>show absurd (show false=true from hs) cp
 | Dk i=>
  let⟨t,rfl⟩:=F;cases y with
  | Dk j=>let⟨t',rfl⟩:=D;show W.eq_bytes (d8 I q WL)
  | _=>show absurd (show false=true from hs) cp
 | _=>cases y <;> show absurd (show false=true from hs) cp
def GC:gJ X (compareOp .NotEq) rNe:=by
 intro ak s σ H x y v u Q I F D h;let⟨hs,q⟩:=h;cases x with
 | non=>
  cases F;cases y with
  | non=>cases D;show PySem.EqNone.ne_none_none (d8 I q t7)
  | bl j=>cases D;show PySem.EqNone.ne_none_bool (d8 I q t7)
  | int j=>let⟨t',rfl⟩:=D;show PySem.EqNone.ne_none_int (d8 I q t7)
  | str j=>let⟨t',rfl⟩:=D;show PySem.EqNone.ne_none_str (d8 I q t7)
  | _=>show absurd (show false=true from hs) cp
 | bl i=>
  cases F;cases y with
  | non=>cases D;show PySem.EqNone.ne_bool_none (d8 I q t7)
  | bl j=>cases D;show ne_bool (d8 I q (congrArg not aaD))
  | str j=>let⟨t',rfl⟩:=D;show PySem.EqMixed.ne_bool_str (d8 I q t7)
  | _=>show absurd (show false=true from hs) cp
 | int i=>
  let⟨t,rfl⟩:=F;cases y with
  | non=>cases D;show PySem.EqNone.ne_int_none (d8 I q t7)
  | int j=>let⟨t',rfl⟩:=D;show ne_int (d8 I q (congrArg not Wz))
  | str j=>let⟨t',rfl⟩:=D;show PySem.EqMixed.ne_int_str (d8 I q t7)
  | _=>show absurd (show false=true from hs) cp
 | str i=>
  let⟨t,rfl⟩:=F;cases y with
  | non=>cases D;show PySem.EqNone.ne_str_none (d8 I q t7)
  | bl j=>cases D;show PySem.EqMixed.ne_str_bool (d8 I q t7)
  | int j=>let⟨t',rfl⟩:=D;show PySem.EqMixed.ne_str_int (d8 I q t7)
  | str j=>let⟨t',rfl⟩:=D;show ne_str (d8 I q (congrArg not WK))
  | _=>show absurd (show false=true from hs) cp
 | Dk i=>
  let⟨t,rfl⟩:=F;cases y with
  | Dk j=>let⟨t',rfl⟩:=D;show W.ne_bytes (d8 I q (congrArg not WL))
  | _=>show absurd (show false=true from hs) cp
 | _=>cases y <;> show absurd (show false=true from hs) cp
def uM:gJ X (compareOp .Lt) (Oa λi j=>.bl (decide (i<j))):=YJ λ_ _ _ _ _ _ _ q=>lt_int q
def qT:gJ X (compareOp .LtE) (Oa λi j=>.bl (decide (i<=j))):=YJ λ_ _ _ _ _ _ _ q=>le_int q
def aei:gJ X (compareOp .Gt) (Oa λi j=>.bl (decide (j<i))):=YJ λ_ _ _ _ _ _ _ q=>gt_int q
def JH:gJ X (compareOp .GtE) (Oa λi j=>.bl (decide (j<=i))):=YJ λ_ _ _ _ _ _ _ q=>ge_int q
def aaE:gJ X (compareOp .In) (λx y H Q=>∃i j,x=.str i/\y=.str j/\Q (.bl (!(Builtin.Str.occurrences j i 0 j.length 1).isEmpty)) H):=by intro ak s σ H x y v u Q I F D h;let⟨i,j,rfl,rfl,q⟩:=h;let⟨t,rfl⟩:=F;let⟨t',rfl⟩:=D;show in_str (d8 I q rb)
def bO (b)(h:op≠.In:=by decide)(h2:op≠.NotIn:=by decide):behindInMarks op b=false:=by
 let e1:(op==CmpOp.In)=false:=by cases op <;> first|rfl|show absurd rb h
 let e2:(op==CmpOp.NotIn)=false:=by cases op <;> first|rfl|show absurd rb h2
 cases b <;> simp[behindInMarks,e1,e2]
def aeV (F:gJ X (compareOp op) r)(ha:PE X a ta)(hb:PE X b tb)(hm:behindInMarks op b=false):PE X (.Compare a [op] [b] pos) (Ht r ta tb):=by intro ak s σ H Q I h;show wpAny_Compare1 (acy ha hb I h λv u s2 x y G j D J q=>F ak s2 σ G x y v u Q j D J q) hm
def Qs (t:TE):TT:=λσ H Q=>t σ H λx H'=>N7 x λk=>Q k H'
def aeW (F:gJ X (compareOp op) r)(ha:PE X a ta)(hb:PE X b tb)(hm:behindInMarks op b=false):PT X (.Compare a [op] [b] pos) (Qs (Ht r ta tb)):=by
 intro ak s σ H Q I h;refine wpAny_isTrue_Compare1 (cD (ha ak s σ H _ I h) λv s1 ⟨x,H1,G,r1,q1⟩=>cD (hb ak s1 σ H1 _ G q1) λu s2 ⟨y,J,j,D,q2⟩=>cD (F ak s2 σ J x y v u _ j r1 D q2) λc s3 ⟨z,Y,Z,O,q3⟩=>?_) hm
 let⟨k,e,q3⟩:=su q3;subst e;cases O;show fS ⟨Y,Z,q3⟩
def DR (r F:R2)(ta tb tc:TE):TE:=λσ H Q=>ta σ H λx H1=>tb σ H1 λy G=>r x y G λz j=>N7 z λk=>(if k=true then tc σ j λD I=>F y D I Q else Q (.bl false) j)
def acz (Y:gJ X (compareOp op) r)(j:gJ X (compareOp op') r')(ha:PE X a ta)(hb:PE X b tb)(hc:PE X c tc)(hm:lastMarks [op,op'] [b,c]=false:=by with_unfolding_all rfl):PE X (.Compare a [op,op'] [b,c] pos) (DR r r' ta tb tc):=by
 intro ak s σ H Q I h;refine Compare_chain (cD (ha ak s σ H _ I h) λv s1 ⟨x,H1,Z,r1,q1⟩=>chain_link (cD (hb ak s1 σ H1 _ Z q1) λu s2 ⟨y,H2,J,D,q2⟩=>cD (Y ak s2 σ H2 x y v u _ J r1 D q2) λd O ⟨z,F,G,r3,q3⟩=>?_)) hm
 let⟨k,e,q3⟩:=su q3;subst e;cases r3;calc fS ?_;cases k with| false=>show ite_ff ⟨.bl false,F,G,rb,q3⟩| true=>show ite_tt (chain_last (cD (hc ak O σ F _ G q3) λw' s4 ⟨z',H4,I4,r4,q4⟩=>j ak s4 σ H4 y z' u w' Q I4 D r4 q4))
def acA (Z:gJ X (compareOp op) r)(j:gJ X (compareOp op') r')(ha:PE X a ta)(hb:PE X b tb)(hc:PE X c tc)(hm:lastMarks [op,op'] [b,c]=false:=by with_unfolding_all rfl):PT X (.Compare a [op,op'] [b,c] pos) (Qs (DR r r' ta tb tc)):=by
 intro ak s σ H Q I h;refine isTrue_chain (cD (ha ak s σ H _ I h) λv s1 ⟨x,H1,I1,r1,q1⟩=>test_link (cD (hb ak s1 σ H1 _ I1 q1) λu s2 ⟨y,H2,O,F,q2⟩=>cD (Z ak s2 σ H2 x y v u _ O r1 F q2) λd Y ⟨z,G,J,r3,q3⟩=>?_)) hm
 let⟨k,e,q3⟩:=su q3;subst e;cases r3;calc fS ?_;cases k with
 | false=>let⟨k',e',q'⟩:=su q3;cases e';show ite_ff ⟨G,J,q'⟩
 | true=>calc ite_tt (test_last (cD (hc ak Y σ G _ J q3) λw' s4 D=>?_));let⟨z',H4,I4,r4,q4⟩:=D;calc cD (j ak s4 σ H4 y z' u w' _ I4 F r4 q4) λd' s5 D=>?_;let⟨z2,H5,I5,r5,q5⟩:=D;let⟨k2,e2,q5⟩:=su q5;subst e2;cases r5;show fS ⟨H5,I5,q5⟩
def z9:(sizeLine:Nat)<2^63:=by rw[sizeLine_eq];decide
def YL:gJ X (binaryOp .Add) (λx y H Q=>∃i j,x=.str i/\y=.str j/\i.length+j.length<=sizeLine/\Q (.str (i++j)) H):=by intro ak s σ H x y v u Q I D F h;let⟨i,j,rfl,rfl,hz,q⟩:=h;let⟨t,rfl⟩:=D;let⟨t',rfl⟩:=F;show add_str (λt' tk=>⟨.str (i++j),H,I.tok _,⟨_,rb⟩,q⟩) hz
def vals1 (r:Vals [x] us):∃u,us=[u]/\cH x u:=by
 cases r with| cons r1 r2=>cases r2;show⟨_,rb,r1⟩
def vals2 (r:Vals [x,y] us):∃u j,us=[u,j]/\cH x u/\cH y j:=by
 cases r with
 | cons r1 r2=>
  cases r2 with| cons r3 r4=>cases r4;show⟨_,_,rb,r1,r3⟩
def aaF (F:X.calm=true):iV X (.builtin "max") (λxs H Q=>∃i j,xs=[.int i,.int j]/\Q (.int (if j > i then j else i)) H):=by
 intro ak s σ H xs us Q I r h;let⟨i,j,rfl,q⟩:=h;obtain⟨u,G,rfl,⟨t,rfl⟩,⟨t',rfl⟩⟩:=vals2 r;refine max_two_ints (I.ok.hd F) λh' tk k=>⟨_,H,I.kept k,?_,q⟩
 by_cases D:j > i;.rw[if_pos D,if_pos D];show⟨_,rb⟩
 .rw[if_neg D,if_neg D];show⟨_,rb⟩
def Ob (F:X.calm=true):iV X (.builtin "min") (λxs H Q=>∃i j,xs=[.int i,.int j]/\Q (.int (if j<i then j else i)) H):=by
 intro ak s σ H xs us Q I r h;let⟨i,j,rfl,q⟩:=h;obtain⟨u,G,rfl,⟨t,rfl⟩,⟨t',rfl⟩⟩:=vals2 r;refine min_two_ints (I.ok.hd F) λh' tk k=>⟨_,H,I.kept k,?_,q⟩
 by_cases D:j<i;.rw[if_pos D,if_pos D];show⟨_,rb⟩
 .rw[if_neg D,if_neg D];show⟨_,rb⟩
def Oc:iV X (.type "int") (λxs H Q=>(∃i,xs=[.int i]/\Q (.int i) H)\/∃k,xs=[.bl k]/\Q (.int (if k then 1 else 0)) H):=by
 intro ak s σ H xs us Q I r h;rcases h with⟨i,rfl,q⟩|⟨k,rfl,q⟩
 .let⟨u,rfl,t,rfl⟩:=vals1 r;show call_int_int ⟨.int i,H,I,⟨_,rb⟩,q⟩
 .let⟨u,rfl,r1⟩:=vals1 r;cases r1;show call_int_bool ⟨.int (if k then 1 else 0),H,I.tok _,⟨_,rb⟩,q⟩
end
structure Ig (h:Heap)(x dx C:Addr)(mA:Str->Option Value):Prop where
 obj:h.get? x=some (W.instObj C dx)
 ns:h.Ns1 dx mA
 ne:dx≠x
def aaG {h:Heap}(n:h.Ns1 dx mA):∃od,h.get? dx=some od/\∀name,W.lookIn name od=some (mA name):=by
 let⟨o,es,ep,D,hd,G,_,hm⟩:=n;calc⟨o,D,λname=>?_⟩;let e:=hm name;unfold nsFind findBy at e;rw[<-Array.find?_toList]at e;unfold W.lookIn;rw[hd];dsimp only;split
 .rename_i y q;rw[q]at e;show congrArg some e
 .rename_i q;rw[q]at e;let a:es.toList.any (·.refKey)=false:=by
   rw[List.any_eq_false];intro y hy;let⟨z,t,j⟩:=G y (Array.mem_toList_iff.mp hy);simp[DictEntry.refKey,j]
  let F:¬es.toList.any (·.refKey)=true:=by rw[a];show cp
  rw[if_neg F];show congrArg some e
def Ig.look (I:Ig h x dx C mA):∃od,W.InstAt h x (W.instObj C dx) C (some od)/\∀name,W.lookIn name od=some (mA name):=let ⟨od,ho,hl⟩:=aaG I.ns
 ⟨od,⟨I.obj,rb,rb,ho⟩,hl⟩
section
variable {prog:Program}{w:World}{A:Around}{E:AD}{s:Shared}{K:W.Frag}{x dx C f:Addr}{mA:Str->Option Value}{name:Str}{v:Value}
def get_map (X:K.In s.heap)(I:Ig s.heap x dx C mA)(G:W.plainGet K C name=true)(D:W.hasDictIn K C=true)(ha:W.findIn K (.ref C) name=some none)(F:mA name=some v)(j:W.handedIn v=true)(h:Q v {s with toks:=s.toks+1}):wpAny (model prog w) A (getAttr (.ref x) name expr) Q E s:=by let⟨od,J,hl⟩:=I.look;show W.get_value X J (rl G).1 (W.findObj_own D ha rb (by rw[hl,F])) j h
def acB (X:K.In s.heap)(I:Ig s.heap x dx C mA)(j:W.plainGet K C name=true)(F:W.findIn K (.ref C) name=some (some (.ref f)))(ht:W.isFn K (.ref f)=true)(D:mA name=none)(h:Q (.ref f,[.ref x]) s):wpAny (model prog w) A (getMethod (.ref x) name pl) Q E s:=by let⟨od,J,hl⟩:=I.look;show W.method_fn X J (rl j).1 (rl j).2 F (beq_iff_eq.mp ht) (by show (W.lookIn name od).map (·.isSome)=some false;rw[hl,D];rfl) h
def aeX (X:K.In s.heap)(I:Ig s.heap x dx C mA)(hs:W.findIn K (.ref C) "__setattr__"=some (some (.builtin "object.__setattr__")))(hp:W.plainOver K C=true)(ht:W.takerIn K C name=some none)(hh:W.hasDictIn K C=true)(hw:PySem.Within mA ns)(hsz:ns.length<=sizeLine)(h:∀h',Ig h' x dx C (λy=>if y=name then some v else mA y)->Heap.SameBut dx s.heap h'->Q () {s with heap:=h',toks:=s.toks+2}):wpAny (model prog w) A (setAttr (.ref x) name v) Q E s:=by let⟨od,J,hl⟩:=I.look;calc W.set_plain X J hs (W.osa_open (s:={s with toks:=s.toks+1}) (r:=none) X J hp ht λb=>?_);let⟨cd,hc,Y⟩:=W.any_some hh;let hx:s.heap.get? x=some ⟨.ref C,some dx,.plain,#[]⟩:=I.obj;calc af (ax (af (af (wpAny_loadPart hx (af (W.Looks.here (s:={s with toks:=s.toks+1}) (W.looks_clsIn X hc) ?_))))));rw[Y];calc ax (a:=some dx) (af (ax (af ?_)));calc wpAny_nsSet1 (s:={s with toks:=s.toks+1}) I.ns λh' j D=>?_;let⟨oD,Z,epD,F,O,G⟩:=j.count (sv name v hw);calc af (wpAny_lookBehind F (by rw[O];show pastItsLine_dict (bS G (by rw[dA];show iX hsz))) ?_);show ax (h _ ⟨(D.2 _ (iE I.ne)).trans I.obj,j,I.ne⟩ D)
def acC (X:K.In s.heap)(hm:W.makesIn K C=true)(hi:W.findIn K (.ref C) "__init__"=some (some (.ref f)))(j:W.typeIn K (.ref f)=some (.type "function"))(h:codeAny (model prog w) (A.under (.builtin "type.__call__" ⟨.ref C::vs,kw⟩)) (.call (.ref f) ⟨.ref (s.heap.objs.size+1)::vs,kw⟩) (W.InitBack (s.heap.objs.size+1) R) {s with heap:=(s.heap.push W.emptyDict).push (W.instObj C s.heap.objs.size)}):codeAny (model prog w) A (.call (.ref C) ⟨vs,kw⟩) R s:=by let⟨D,g,d,t,os⟩:=s;show W.make_core (W.makes_of X hm) (W.looks_findIn X hi) (λself=>W.bind_fn X self j) (.inl rb) h
end
noncomputable def iT (f:Str)(v:V):List (Str×V)->List (Str×V)
 | []=>[(f,v)]
 | (g,x)::r=>if g=f then (g,v)::r else (g,x)::iT f v r
theorem zB (f g)(v):∀fs:List (Str×V),(iT f v fs).lookup g=if g=f then some v else fs.lookup g
 | []=>by
  show List.lookup g [(f,v)]=_;by_cases h:g=f
  .let hb:(g==f)=true:=beq_iff_eq.mpr h;simp only[List.lookup,hb,if_pos h]
  .let hb:(g==f)=false:=beq_eq_false_iff_ne.mpr h;simp only[List.lookup,hb,if_neg h]
 | (k,x)::r=>by
  let D:=zB f g v r;rw[show iT f v ((k,x)::r)=(if k=f then (k,v)::r else (k,x)::iT f v r) from rfl];by_cases j:k=f
  .rw[if_pos j];by_cases h:g=k
   .let hb:(g==k)=true:=beq_iff_eq.mpr h;simp only[List.lookup,hb,if_pos (h.trans j)]
   .let hb:(g==k)=false:=beq_eq_false_iff_ne.mpr h;simp only[List.lookup,hb,if_neg (λe:g=f=>h (e.trans j.symm))]
  .rw[if_neg j];by_cases h:g=k
   .let hb:(g==k)=true:=beq_iff_eq.mpr h;simp only[List.lookup,hb,if_neg (λe:g=f=>j (h.symm.trans e))]
   .let hb:(g==k)=false:=beq_eq_false_iff_ne.mpr h;simp only[List.lookup,hb];show D
theorem vq (f)(v):∀fs:List (Str×V),f∈(iT f v fs).map (·.1)/\∀g,g∈fs.map (·.1)->g∈(iT f v fs).map (·.1)
 | []=>⟨by simp[iT],λg h=>by simp at h⟩
 | (k,x)::r=>by
  let⟨i1,i2⟩:=vq f v r;rw[show iT f v ((k,x)::r)=(if k=f then (k,v)::r else (k,x)::iT f v r) from rfl];by_cases j:k=f
  .rw[if_pos j];subst j;show⟨t7,λg h=>by simpa using h⟩
  .rw[if_neg j];refine⟨?_,λg h=>?_⟩
   .rw[ce];show bq _ i1
   .rw[ce]at h ⊢;rcases b9.mp h with e|e;.show b9.mpr (.inl e)
    .show bq _ (i2 g e)
theorem zE (f)(v):∀fs:List (Str×V),(iT f v fs).length<=fs.length+1
 | []=>by simp[iT]
 | (k,x)::r=>by
  let D:=zE f v r;rw[show iT f v ((k,x)::r)=(if k=f then (k,v)::r else (k,x)::iT f v r) from rfl];by_cases j:k=f;.rw[if_pos j,dA,dA];lia
  .rw[if_neg j,dA,dA];show iX D
def ni.some_of (r:ni (some v) o):∃u,o=some u/\cH v u:=by
 cases o with| none=>show(show False from r).elim| some u=>show⟨u,rb,r⟩
def ni.none_of (r:ni none o):o=none:=by
 cases o with| none=>rfl| some u=>show(show False from r).elim
def Od (r:cH v u):W.handedIn u=true:=by
 cases v with
 | non=>cases(show u=Value.none from r);rfl
 | bl b=>cases(show u=Value.bool b from r);rfl
 | int i=>let⟨t,e⟩:=(show ∃t,u=Value.int i t from r);cases e;rfl
 | str x=>let⟨t,e⟩:=(show ∃t,u=Value.str x t from r);cases e;rfl
 | Dk b=>let⟨t,e⟩:=(show ∃t,u=Value.bytes b t from r);cases e;rfl
 | flt b=>let⟨t,e⟩:=(show ∃t,u=Value.float b t from r);cases e;rfl
 | ref a=>cases(show u=Value.ref a from r);rfl
 | ty n=>cases(show u=Value.type n from r);rfl
section
variable {P:Program}{w:World}{H:Hp}{h:Heap}{a C dx:Addr}{fs:List (Str×V)}
def z_ (hok:k_ P w H h)(e:H a=some (.ins C dx fs)):∃mA,Ig h a dx C mA/\(∀f,ni (fs.lookup f) (mA f))/\PySem.Within mA (fs.map (·.1))/\fs.length<=1000/\H dx=some (.own a):=by
 let⟨d,z,ne,ob,mA,n,r,q⟩:=(show f9 P w H h a (.ins C dx fs) from hok a _ e)
 show⟨mA,⟨ob,n,ne⟩,r,q,z,d⟩
end
structure Cls (K:W.Frag)(C:Addr):Prop where
 pg:W.plainGet K C Str.empty=true
 hd:W.hasDictIn K C=true
 po:W.plainOver K C=true
 sa:W.findIn K (.ref C) "__setattr__"=some (some (.builtin "object.__setattr__"))
def Cls.get {K:W.Frag}(c:Cls K C)(f:Str):W.plainGet K C f=true:=c.pg
def jh (K:W.Frag)(C:Addr)(f:Str):Prop:=W.findIn K (.ref C) f=some none
def jh.taker {K:W.Frag}{f:Str}(n:jh K C f):W.takerIn K C f=some none:=by unfold W.takerIn;rw[show W.findIn K (.ref C) f=some none from n];rfl
structure Meth (K:W.Frag)(C:Addr)(m:Str)(f:Addr):Prop where
 at_:W.findIn K (.ref C) m=some (some (.ref f))
 fn:W.isFn K (.ref f)=true
 kp:W.keepIn K (.ref f)=true
section
variable {X:Cx}{ak:AE}{σ:St}{H:Hp}{s:Shared}{a C dx:Addr}{fs:List (Str×V)}{f:Str}{v:V}{A:Around}{E:AD}
def YM (I:aP X ak σ H s)(e:H a=some (.ins C dx fs))(c:Cls X.K C)(n:jh X.K C f)(l:fs.lookup f=some v)(h:∀u s',aP X ak σ H s'->cH v u->Q u s'):wpAny (model X.prog X.w) A (getAttr (.ref a) f b) Q E s:=by let⟨mA,O,r,_,_,_⟩:=z_ I.hok e;let⟨u,D,j⟩:=ni.some_of (v:=v) (o:=mA f) (by rw[<-l];show r f);show get_map I.jC O (c.get f) c.hd n D (Od j) (h u _ (I.tok _) j)
def JK (I:aP X ak σ H s)(e:H a=some (.ins C dx fs))(c:Cls X.K C)(k:Meth X.K C m g)(l:fs.lookup m=none)(h:Q (.ref g,[.ref a]) s):wpAny (model X.prog X.w) A (getMethod (.ref a) m pl) Q E s:=by let⟨mA,O,r,_,_,_⟩:=z_ I.hok e;let hn:mA m=none:=ni.none_of (by rw[<-l];show r m);show acB I.jC O (c.get m) k.at_ k.fn hn h
def YQ (I:aP X ak σ H s)(e:H a=some (.ins C dx fs))(c:Cls X.K C)(n:jh X.K C f)(hl:fs.length<1000)(G:cH y u)(h:∀s',aP X ak σ (upd H a (.ins C dx (iT f y fs))) s'->Q () s'):wpAny (model X.prog X.w) A (setAttr (.ref a) f u) Q E s:=by
 let⟨mA,O,r,wi,_,D⟩:=z_ I.hok e;let hz:(fs.map (·.1)).length<=sizeLine:=by rw[aa,sizeLine_eq];lia
 calc aeX I.jC O c.sa c.po n.taker c.hd wi hz λh' j F=>h _ ?_;let hd:∃o,h'.get? dx=some o:=let ⟨o,_,_,e',_⟩:=j.ns;⟨o,e'⟩
 calc I.write (x:=a) (e:=dx) (by rw[e];show True.intro) (.inr D) (λb q hb z=>(F.2 b hb).trans z) hd ?_;calc⟨by rw[aY O.ne];show D,?_,O.ne,j.obj,_,j.ns,λg=>?_,λg J=>?_⟩;.have:=zE f y fs;lia
 .show ni ((iT f y fs).lookup g) (if g=f then some u else mA g);rw[zB];by_cases q:g=f;.rw[if_pos q,if_pos q];show G
  .rw[if_neg q,if_neg q];show r g
 .by_cases q:g=f;.rw[q];show(vq f y fs).1
  .calc(vq f y fs).2 g (wi g λz=>J ?_);show (if g=f then some u else mA g)=none;rw[if_neg q];show z
def aP.made (I:aP X ak σ H s):aP X ak σ (upd (upd H s.heap.objs.size (.own (s.heap.objs.size+1))) (s.heap.objs.size+1) (.ins C s.heap.objs.size [])) {s with heap:=(s.heap.push W.emptyDict).push (W.instObj C s.heap.objs.size)}:=by
 let e1:(s.heap.push W.emptyDict).get? s.heap.objs.size=some W.emptyDict:=bo s.heap rfl;let e2:((s.heap.push W.emptyDict).push (W.instObj C s.heap.objs.size)).get? (s.heap.objs.size+1)=some (W.instObj C s.heap.objs.size):=by
  have:=bo (s.heap.push W.emptyDict) (o:=W.instObj C s.heap.objs.size) rfl
  rwa [fw]at this
 let e3:(s.heap.push W.emptyDict).Ns s.heap.objs.size (λ_=>none):=⟨W.emptyDict,#[],_,e1,rb,(λe j=>absurd j t7),λ_=>rfl⟩
 let D:=I.laid (a:=s.heap.objs.size) (o:=.own (s.heap.objs.size+1)) (h':=s.heap.push W.emptyDict) (t':=s.toks) (λb u q=>ag _ q) (ai _) ⟨_,e1⟩;calc D.laid (a:=s.heap.objs.size+1) (o:=.ins C s.heap.objs.size []) (t':=s.toks) (λb u q=>ag _ q) (iq (fw _ _)) ?_;let ne:s.heap.objs.size≠s.heap.objs.size+1:=cf (ii _);refine⟨by rw[aY ne,au],eD _,ne,e2,λ_=>none,(Heap.Ns1.of_empty e3).at λo q=>ag _ q,λ_=>True.intro,λy hy=>absurd rb hy⟩
def WM (hb:attributeBase e f env (eval e env)=eval e env)(h:wpAny (model prog w) A (eval e env) (λo j=>wpAny (model prog w) A (getAttr o f true) Q E j) E s):wpAny (model prog w) A (eval (.Attribute e f pos) env) Q E s:=Attribute_any_ h (by rw[arm_eval_Attribute,hb])
end
def YS (K:W.Frag)(ta:TE)(f:Str):TE:=λσ H Q=>ta σ H λx H1=>∃a C dx fs v,x=.ref a/\H1 a=some (.ins C dx fs)/\Cls K C/\jh K C f/\fs.lookup f=some v/\Q v H1
def ag8 (K:W.Frag)(ta tv:TE)(f:Str):TS:=λD σ H=>tv σ H λy H1=>ta σ H1 λx j=>∃a C dx fs,x=.ref a/\j a=some (.ins C dx fs)/\Cls K C/\jh K C f/\fs.length<1000/\
 D.nx σ (upd j a (.ins C dx (iT f y fs)))
section
variable {X:Cx}{o e value:Expr}{f:Str}{pos pos':Pos}{ta tv:TE}
variable {ak:AE}{σ:St}{H:Hp}{s:Shared}{A:Around}{E Q:AD}{c:Value}{b:Bool}
def ag9 (D:PE X e ta)(hb:attributeBase e f X.env (eval e X.env)=eval e X.env):PE X (.Attribute e f pos) (YS X.K ta f):=by intro ak s σ H Q I h;calc WM hb (cD (D ak s σ H _ I h) λu s1 Y=>?_);let⟨x,H1,G,F,a,C,dx,fs,v,ex,O,c,n,l,q⟩:=Y;subst ex;obtain rfl:u=Value.ref a:=F;show YM G O c n l λZ s2 j J=>⟨v,H1,j,J,q⟩
def aha (ha:PE X o ta)(Y:PE X value tv)(hs:swapsWith value (some (.Attribute o f pos')) pos.line X.env=pure false):PS X (.Assign [.Attribute o f pos'] value pos) (ag8 X.K ta tv f):=by intro ak s σ H D I h;calc plainObj_wpAny_Assign_Attribute (cD (Y ak s σ H _ I h) λu s1 j=>?_) hs;let⟨y,H1,J,O,q⟩:=j;calc cD (ha ak s1 σ H1 _ J q) λov s2 j=>?_;let⟨x,H2,F,G,a,C,dx,fs,ex,Z,c,n,l,q2⟩:=j;subst ex;obtain rfl:ov=Value.ref a:=G;show YQ F Z c n l O λs3 I3=>⟨σ,_,I3,q2⟩
inductive nj (K:W.Frag) (H:Hp):V->Value->Prop where
 | non:nj K H .non (.type "NoneType")
 | bl (x:Bool):nj K H (.bl x) (.type "bool")
 | int (i:Int):nj K H (.int i) (.type "int")
 | str (x:Str):nj K H (.str x) (.type "str")
 | flt (x:UInt64):nj K H (.flt x) (.type "float")
 | lst {a:Addr} {xs:List V} (e:H a=some (.lst xs)):nj K H (.ref a) (.type "list")
 | qH {a:Addr} {o:Obj} {xs:List V} (e:H a=some (.qH o (.lst xs))):nj K H (.ref a) (.type "list")
 | tup {a:Addr} {xs:List V} (e:H a=some (.tup xs)):nj K H (.ref a) (.type "tuple")
 | dK {a:Addr} {kvs:List (Key×V)} (e:H a=some (.dK kvs)):nj K H (.ref a) (.type "dict")
 | dT {a:Addr} {kvs:List (List Key×V)} (e:H a=some (.dT kvs)):nj K H (.ref a) (.type "dict")
 | ins {a C dx:Addr} {fs:List (Str×V)} (e:H a=some (.ins C dx fs)) (cl:Cls K C) (ha:W.findIn K (.ref C) "__class__"=some (some (.builtin "object.__class__")))
   (hn:W.specialIn K (.builtin "object.__class__") "__get__"=some (some (.builtin "getset_descriptor.__get__"))) (htk:W.takesIn K (.builtin "object.__class__")=some true)
   (hm:W.mroIn K C (.type "object")=some true):nj K H (.ref a) (.ref C)
def aaH (I:aP X ak σ H s)(j:cH x u)(ty:nj X.K H x t)(e:W.kitOne X.K t c=some b)(h:∀tk,Q (.bool b) {s with toks:=tk}):wpAny (model X.prog X.w) A (call (.builtin "isinstance") [u,c]) Q E s:=by
 cases ty with
 | non=>cases(show u=Value.none from j);show gc W.kitx_none I.jC True.intro e (λz=>nomatch z) h
 | bl y=>cases(show u=Value.bool y from j);show gc W.kitx_bool I.jC True.intro e (λz=>nomatch z) h
 | int i=>let⟨t,q⟩:=(show ∃t,u=Value.int i t from j);cases q;show gc W.kitx_int I.jC True.intro e (λz=>nomatch z) h
 | str y=>let⟨t,q⟩:=(show ∃t,u=Value.str y t from j);cases q;show gc W.kitx_str I.jC True.intro e (λz=>nomatch z) h
 | flt y=>let⟨t,q⟩:=(show ∃t,u=Value.float y t from j);cases q;show gc W.kitx_float I.jC True.intro e (λz=>nomatch z) h
 | @lst a xs ea=>
  cases(show u=Value.ref a from j);let⟨_,_,n,_,h1⟩:=(show f9 X.prog X.w H s.heap a (.lst xs) from I.hok a _ ea)
  show gc W.kitx_list I.jC ⟨_,h1,rb⟩ e (λz=>nomatch z) h
 | @qH a ob xs ea=>
  cases(show u=Value.ref a from j);let⟨_,_,_,n,_,h1⟩:=(show f9 X.prog X.w H s.heap a (.qH ob (.lst xs)) from I.hok a _ ea)
  show gc W.kitx_list I.jC ⟨_,h1,rb⟩ e (λz=>nomatch z) h
 | @tup a xs ea=>
  cases(show u=Value.ref a from j);let⟨_,_,_,p⟩:=(show f9 X.prog X.w H s.heap a (.tup xs) from I.hok a _ ea)
  let⟨o,h1,h2,_⟩:=p;show gc W.kitx_tuple I.jC ⟨o,h1,h2⟩ e (λz=>nomatch z) h
 | @dK a kvs ea=>
  cases(show u=Value.ref a from j);let⟨_,_,vs,_,p⟩:=(show f9 X.prog X.w H s.heap a (.dK kvs) from I.hok a _ ea)
  let⟨o,es,ep,h1,h2,_⟩:=p;show gc W.kitx_dict I.jC ⟨o,h1,h2.1⟩ e (λz=>nomatch z) h
 | @dT a kvs ea=>
  cases(show u=Value.ref a from j);let⟨_,_,xs,_,o,es,ep,h1,h2,_⟩:=(show f9 X.prog X.w H s.heap a (.dT kvs) from I.hok a _ ea)
  show gc W.kitx_dict I.jC ⟨o,h1,h2.1⟩ e (λz=>nomatch z) h
 | @ins a C dx fs ea cl ha hn htk hm=>cases(show u=Value.ref a from j);let⟨mA,O,_⟩:=z_ I.hok ea;let⟨od,J,_⟩:=O.look;show gc (W.kitx_own (cl.get _) cl.hd ha hn htk hm) I.jC J e (λz=>nomatch z) h
end
structure fO (k:Nat)(A:Around):Prop where
 hd:A.handled=none
 dp:A.depth+3*k+5<recursionLimit
 un:A.units+16*k+200<cLine
def fO.mono (r:fO k A)(h:j<=k:=by decide):fO j A:=⟨r.hd,by have:=r.dp;lia,by have:=r.un;lia⟩
def fO.deeper (r:fO (k+1) A)(env):fO k (A.deeper env):=⟨r.hd,by have:=r.dp;show A.depth+1+3*k+5<_;lia,by have:=r.un;show A.units+3+16*k+200<_;lia⟩
def YT {A:Around}:(A.under (.builtin "type.__call__" ⟨.ref C::us,kw⟩)).depth=A.depth+1:=by first|rfl|simp[Around.under,Code.weight,Code.isCreation,Code.isGuard,Code.isCaller,Code.frames,Code.isFrame,guardIds]
def YW {A:Around}:(A.under (.builtin "type.__call__" ⟨.ref C::us,kw⟩)).units=A.units+1:=by first|rfl|simp[Around.under,Code.cUnits,Code.frames,Code.isFrame]
def fO.make (r:fO (k+1) A)(C)(us)(kw):fO k (A.under (.builtin "type.__call__" ⟨.ref C::us,kw⟩)):=⟨r.hd,by have:=r.dp;rw[YT];(simp_all;lia),by have:=r.un;rw[YW];(simp_all;lia)⟩
def fO.depth (r:fO k A):A.depth<recursionLimit:=by have:=r.dp;lia
def fO.units (r:fO k A):A.units+64<cLine:=by have:=r.un;lia
def fO.ahb (r:fO k A):A.units<cLine:=by have:=r.un;lia
def Ih:TA:=λ_ H Q=>Q [] H
def Bm (ta:TE)(tr:TA):TA:=λσ H Q=>ta σ H λx H1=>tr σ H1 λxs j=>Q (x::xs) j
section
variable {X:Cx}{e:Expr}{es:List Expr}{te:TE}{t:TA}{pos:Pos}
def ahc:PA X [] Ih:=λ_ _ _ _ H Q I h=>ko ⟨[],H,I,.nil,h⟩
def aeY (ha:PE X e te)(J:PA X es t)(hs:starEach (e::es) X.env=(false,eval e X.env)::starEach es X.env:=by rfl):PA X (e::es) (Bm te t):=by intro pos ak s σ H Q I h;rw[hs];show wpAny _ _ (spliced ((false,eval e X.env)::backTo pos (starEach es X.env))) _ _ s;calc gm (cD (ha ak s σ H _ I h) λu s1 O=>?_);let⟨x,H1,F,r1,q1⟩:=O;show cD (J pos ak s1 σ H1 _ F q1) λus s2 ⟨xs,G,j,D,q2⟩=>⟨x::xs,G,j,.cons r1 D,q2⟩
def ahd (t:TA):TE:=λσ H Q=>t σ H λxs H1=>xs.length<=sizeLine/\∀p,H1 p=none->Q (.ref p) (upd H1 p (.tup xs))
def ahe (t:TA):TE:=λσ H Q=>t σ H λxs H1=>xs.length<=sizeLine/\∀p,H1 p=none->Q (.ref p) (upd H1 p (.lst xs))
def ahf {x1}(h:PA X es t):PE X (.Tuple es x1 pos) (ahd t):=by intro ak s σ H Q I D;calc wpAny_Tuple_spliced (cD (h pos ak s σ H _ I D) λus s1 ⟨xs,H1,j,r,z,q⟩=>⟨by rw[<-r.length];show z,?_⟩);let F:H1 s1.heap.objs.size=none:=j.hok.fresh (ai _);calc⟨.ref s1.heap.objs.size,upd H1 s1.heap.objs.size (.tup xs),j.laid (t':=s1.toks) (λb u e=>ag _ e) (ai _) ?_,rb,q _ F⟩;show⟨z,us,r,⟨_,bo _ rb,rb,_,rb⟩⟩
def ahg (h:PA X es t):PE X (.List es pos) (ahe t):=by intro ak s σ H Q I D;calc wpAny_List_spliced (cD (h pos ak s σ H _ I D) λus s1 ⟨xs,H1,j,r,z,q⟩=>⟨by rw[<-r.length];show z,?_⟩);let F:H1 s1.heap.objs.size=none:=j.hok.fresh (ai _);calc⟨.ref s1.heap.objs.size,upd H1 s1.heap.objs.size (.lst xs),j.laid (t':=s1.toks) (λb u e=>ag _ e) (ai _) ?_,rb,q _ F⟩;show⟨z,us,0,r,bo _ rb⟩
end
abbrev Sp:=List V->Hp->VK->XK->Prop
abbrev vA:=List Env->Hp->Shared->XK->Value->Shared->Prop
structure Ii (P:Program)(w:World)(K:W.Frag)(mg:Str->Option Value)(base:Heap)(A:Around)(outer:List Env)(s:Shared)(H:Hp):Prop where
 frames:A.frames=some outer
 mod:Mod K mg base
 bs:∀b o,base.get? b=some o->s.heap.get? b=some o/\H b=none
 Dl:base.objs.size<=s.heap.objs.size
 qF:s.heap.FunFrames base outer
 DP:∀b∈frs outer,H b=none
 hok:k_ P w H s.heap
 bare:AllBare s.gens
def CE (outer:List Env)(P:Program)(w:World)(H:Hp)(s:Shared)(Q:VK)(u:Value)(s':Shared):Prop:=∃v H',s'.os=s.os/\AllBare s'.gens/\Un (frs outer) [] H H' s.heap s'.heap/\k_ P w H' s'.heap/\cH v u/\Q v H'
def CR (CX:vA)(outer:List Env)(P:Program)(w:World)(H:Hp)(s:Shared)(Q:VK)(E:XK)(r:Result)(s':Shared):Prop:=match r with| .ok (.ret u)=>CE outer P w H s Q u s'| .ok _=>False| .error e=>CX outer H s E e s'
structure cB (P:Program)(w:World)(K:W.Frag)(mg:Str->Option Value)(base:Heap)(CX:vA)(k:Nat)(f:Addr)(fd:FuncData)(ps:List Str)(sp:Sp):Prop where
 len:∀vs H Q E,sp vs H Q E->vs.length=ps.length
 run:∀(A:Around) (outer:List Env) (s:Shared) (H:Hp) (args:Args) (us:List Value) (vs:List V) (Q:VK) (E:XK),fO k A->Ii P w K mg base A outer s H->BindsTo s fd args (ps.zip us)->Vals vs us->sp vs H Q E->
  codeAny (model P w) A (.call (.ref f) args) (CR CX outer P w H s Q E) s
def Ii.make {K:W.Frag}{mg:Str->Option Value}{outer:List Env}(e:Ii P w K mg base A outer s H)(C:Addr)(us:List Value)(j:List (Str×Value)):Ii P w K mg base (A.under (.builtin "type.__call__" ⟨.ref C::us,j⟩)) outer s H:=⟨by first|show e.frames|(simpa [Around.under,Code.envs,Code.isFrame,pushEnvs] using e.frames),e.mod,e.bs,e.Dl,e.qF,e.DP,e.hok,e.bare⟩
section
variable {X:Cx}{ak:AE}{σ:St}{H:Hp}{s s':Shared}
def aP.env0 (I:aP X ak σ H s):Ii X.prog X.w X.K X.mg X.base X.A X.stack s H:=⟨I.ok.frames,I.ok.mod,I.bs,bS I.ok.Dl I.sz,I.stack,I.zZ,I.hok,I.bare⟩
def aP.after (I:aP X ak σ H s)(h:CE X.stack X.prog X.w H s Q u s'):EP X ak σ Q u s':=by let⟨v,H',os,bare,un,hok,r,q⟩:=h;let⟨D,g,d,t,j⟩:=s';obtain rfl:j=s.os:=os;show⟨v,H',I.call (h':=D) (g':=g) (d':=d) (t':=t) (ch:=[]) un hok bare (λb z=>absurd z t7),r,q⟩
end
def YX (sp:Sp)(lg:List V)(E:XK)(t:TA):TE:=λσ H Q=>t σ H λvs H1=>sp (vs++lg) H1 Q E
def Qt (C:Addr)(m:Str)(sp:Sp)(lg:List V)(E:XK)(ta:TE)(t:TA):TE:=λσ H Q=>ta σ H λx H1=>∃a dx fs,x=.ref a/\H1 a=some (.ins C dx fs)/\fs.lookup m=none/\
 t σ H1 λvs j=>sp (x::(vs++lg)) j Q E
def aej (C:Addr)(sp:Sp)(lg:List V)(E:XK)(t:TA):TE:=λσ H Q=>t σ H λvs H1=>∀x dx,H1 x=none->H1 dx=none->dx≠x->
 sp (.ref x::(vs++lg)) (upd (upd H1 dx (.own x)) x (.ins C dx [])) (λv j=>v=.non/\Q (.ref x) j) E
def bT (K:W.Frag)(fd:FuncData)(ps:List Str)(ds:List Value):Prop:=∀(s:Shared) (us:List Value),K.In s.heap->(us++ds).length=ps.length->BindsTo s fd ⟨us,[]⟩ (ps.zip (us++ds))
def bT.all {K:W.Frag}{ps:List Str}(h:∀us:List Value,us.length=ps.length->bindArgs fd ⟨us,[]⟩=pure (ps.zip us)):bT K fd ps []:=λs us _ hl=>by rw[fk]at hl ⊢;show .of_eq (h us hl)
def Passes (CX:vA)(X:Cx)(E:XK):Prop:=∀(ak:AE) (σ:St) (H:Hp) (s:Shared) (e:Value) (s':Shared),aP X ak σ H s->CX X.stack H s E e s'->X.xe e s'
section
variable {X:Cx}{CX:vA}{k:Nat}{f C:Addr}{fd:FuncData}{ps:List Str}{sp:Sp}{lg:List V}{ds:List Value}{E:XK}{x m:Str}{p pos apos:Pos}{e o:Expr}{es:List Expr}{ta:TE}{t:TA}
def Ri {ak:AE}{σ:St}{H:Hp}{s:Shared}{Q:VK}{us:List Value}{vs:List V}(F:cB X.prog X.w X.K X.mg X.base CX k f fd ps sp)(G:fO k X.A)(hb:bT X.K fd ps ds)(hd:Vals lg ds)(hx:Passes CX X E)(I:aP X ak σ H s)(r:Vals vs us)(h:sp (vs++lg) H Q E):wpAny (model X.prog X.w) X.A (call (.ref f) us) (EP X ak σ Q) X.xe s:=by
 let D:Vals (vs++lg) (us++ds):=r.append hd;let hl:(us++ds).length=ps.length:=by rw[<-D.length];show F.len _ _ _ _ h
 calc nS (nv (F.run X.A X.stack s H ⟨us,[]⟩ (us++ds) (vs++lg) Q E G I.env0 (hb s us I.jC hl) D h) λr s' j=>?_);cases r with
 | error e=>show hx ak σ H s e s' I j
 | ok fl=>
  cases fl with| ret u=>show I.after j| next=>show False.elim j| brk=>show False.elim j| cont=>show False.elim j
def aeZ (F:cB X.prog X.w X.K X.mg X.base CX k f fd ps sp)(Z:fO k X.A)(Y:Gl X x)(hm:X.mg x=some (.ref f))(O:W.keepIn X.K (.ref f)=true)(hb:bT X.K fd ps ds)(hd:Vals lg ds)(hx:Passes CX X E)(ha:PA X (e::es) t)(D:(x==("__debug__":Str))=false:=by decide)(J:starEach (e::es) X.env=(false,eval e X.env)::starEach es X.env:=by rfl)(j:(backTo pos (starEach es X.env)).any (·.1)=false:=by rfl):PE X (.Call (.Name x p) (e::es) [] pos) (YX sp lg E t):=by intro ak s σ H Q I h;calc jn (qg I Y hm ?_ D);calc kX (h₀:=X.base) I.ok.mod.JC O (cD (ha pos ak s σ H _ I h) λus s1 ⟨vs,H1,G,r,q⟩=>⟨G.jC,?_⟩) J j;show Ri F Z hb hd hx G r q
def ae0 {pl:Sem Bool}(O:PE X o ta)(c:Cls X.K C)(hm:Meth X.K C m f)(F:cB X.prog X.w X.K X.mg X.base CX k f fd ps sp)(hr:fO k X.A)(hb:bT X.K fd ps ds)(hd:Vals lg ds)(hx:Passes CX X E)(ha:PA X (e::es) t)(j:starEach (e::es) X.env=(false,eval e X.env)::starEach es X.env:=by rfl)(D:(backTo pos (starEach es X.env)).any (·.1)=false:=by rfl)(ht:eval (.Call (.Attribute o m apos) (e::es) [] pos) X.env=(do
   let ov <- eval o X.env
   standAt apos.atName
   let (f,first) <- holding [ov] (getMethod ov m pl)
   callWith pos f first (backTo pos (starEach (e::es) X.env)) (backToKw pos (keywordEach [] X.env))):=by rfl) :
  PE X (.Call (.Attribute o m apos) (e::es) [] pos) (Qt C m sp lg E ta t):=by
 intro ak s σ H Q I h;calc W.methodCall_KW (pl:=pl) (cD (O ak s σ H _ I h) λu s1 zz=>?_) ht;let⟨x,H1,J,Y,a,dx,fs,ex,Z,l,q⟩:=zz;subst ex;obtain rfl:u=Value.ref a:=Y;calc JK J Z c hm l ?_;calc kX (first:=[.ref a]) (h₀:=X.base) I.ok.mod.JC hm.kp (cD (ha pos ak s1 σ H1 _ J q) λus s2 ⟨vs,H2,G,r,q2⟩=>⟨G.jC,?_⟩) j D;show Ri (us:=.ref a::us) (vs:=.ref a::vs) F hr hb hd hx G (.cons rb r) q2
def acD (D:PE X o ta)(c:Cls X.K C)(hm:Meth X.K C m f)(F:cB X.prog X.w X.K X.mg X.base CX k f fd ps sp)(O:fO k X.A)(hb:bT X.K fd ps ds)(hd:Vals lg ds)(hx:Passes CX X E)(ht:eval (.Call (.Attribute o m apos) [] [] pos) X.env=(do
   let ov <- eval o X.env
   standAt apos.atName
   let (f,first) <- holding [ov] (getMethod ov m pl)
   callWith pos f first (backTo pos (starEach [] X.env)) (backToKw pos (keywordEach [] X.env))):=by rfl) :
  PE X (.Call (.Attribute o m apos) [] [] pos) (Qt C m sp lg E ta Ih):=by
 intro ak s σ H Q I h;calc W.methodCall_KW (pl:=pl) (cD (D ak s σ H _ I h) λu s1 Y=>?_) ht;let⟨x,H1,j,G,a,dx,fs,ex,J,l,q⟩:=Y;subst ex;obtain rfl:u=Value.ref a:=G;calc JK j J c hm l ?_;show W.callWith_K0 (first:=[.ref a]) j.jC hm.kp (Ri (us:=[.ref a]) (vs:=[.ref a]) F O hb hd hx j (.cons rb .nil) q)
structure Mk (K:W.Frag)(C f:Addr):Prop where
 makes:W.makesIn K C=true
 init:W.findIn K (.ref C) "__init__"=some (some (.ref f))
 fn:W.isFn K (.ref f)=true
 kp:W.keepIn K (.ref C)=true
def acE {ak:AE}{σ:St}{H:Hp}{s:Shared}{Q:VK}{us:List Value}{vs:List V}(M:Mk X.K C f)(F:cB X.prog X.w X.K X.mg X.base CX k f fd ps sp)(hr:fO (k+1) X.A)(hb:bT X.K fd ps ds)(hd:Vals lg ds)(hx:Passes CX X E)(I:aP X ak σ H s)(r:Vals vs us)(h:∀x dx,H x=none->H dx=none->dx≠x->sp (.ref x::(vs++lg)) (upd (upd H dx (.own x)) x (.ins C dx [])) (λv Y=>v=.non/\Q (.ref x) Y) E):wpAny (model X.prog X.w) X.A (call (.ref C) us) (EP X ak σ Q) X.xe s:=by
 let J:=h (s.heap.objs.size+1) s.heap.objs.size (I.hok.fresh (mB _)) (I.hok.fresh (ai _)) (cf (ii _));let D:=aP.made (C:=C) I;let G:Vals (V.ref (s.heap.objs.size+1)::(vs++lg)) (Value.ref (s.heap.objs.size+1)::(us++ds)):=.cons rb (r.append hd);let hl:(Value.ref (s.heap.objs.size+1)::us++ds).length=ps.length:=by let e:=G.length;rw[F.len _ _ _ _ J]at e;show e.symm
 refine nS (acC (f:=f) I.jC M.makes M.init (beq_iff_eq.mp M.fn) (nv (F.run _ X.stack _ _ ⟨Value.ref (s.heap.objs.size+1)::us,[]⟩ (Value.ref (s.heap.objs.size+1)::(us++ds)) _ _ E (hr.make C us [])
  (D.env0.make C us []) (hb _ (Value.ref (s.heap.objs.size+1)::us) D.jC hl) G J) λr s' j=>?_))
 cases r with
 | error e=>show hx ak σ _ _ e s' D j
 | ok fl=>
  cases fl with
  | ret u=>let⟨v,H',I3,Z,O,q3⟩:=D.after j;subst O;show⟨Z,⟨V.ref (s.heap.objs.size+1),H',I3,rb,q3⟩⟩
  | next=>show False.elim j
  | brk=>show False.elim j
  | cont=>show False.elim j
def ae1 (M:Mk X.K C f)(F:cB X.prog X.w X.K X.mg X.base CX k f fd ps sp)(Y:fO (k+1) X.A)(O:Gl X x)(hm:X.mg x=some (.ref C))(hb:bT X.K fd ps ds)(hd:Vals lg ds)(hx:Passes CX X E)(ha:PA X (e::es) t)(D:(x==("__debug__":Str))=false:=by decide)(J:starEach (e::es) X.env=(false,eval e X.env)::starEach es X.env:=by rfl)(j:(backTo pos (starEach es X.env)).any (·.1)=false:=by rfl):PE X (.Call (.Name x p) (e::es) [] pos) (aej C sp lg E t):=by intro ak s σ H Q I h;calc jn (qg I O hm ?_ D);calc kX (h₀:=X.base) I.ok.mod.JC M.kp (cD (ha pos ak s σ H _ I h) λus s1 ⟨vs,H1,G,r,q⟩=>⟨G.jC,?_⟩) J j;show acE M F Y hb hd hx G r q
end
structure bw (N P:List Str)(sc:Scope):Prop where
 kind:sc.kind=.function:=by rfl
 co:sc.isCoroutine=false:=by rfl
 gen:sc.isGenerator=false:=by rfl
 nd:N.Nodup:=by decide +kernel
 pre:N.take P.length=P:=by rfl
 par:∀x∈P,sc.names.lookup x=some .local\/sc.names.lookup x=some .cell:=by decide +kernel
 ahh:∀y∈sc.names,y.2≠.free:=by decide +kernel
theorem Oe {kindOf:Str->Option NameKind}{x:Str}:∀{binds:List (Str×Value)} {m:Str->Option Value},(∀v,(x,v)∉binds)->bindL kindOf binds m x=m x
 | [],_,_=>rfl
 | (n,v)::r,m,h=>by
  unfold bindL;rw[Oe λw hw=>h w (bq _ hw)];split
  .have:x≠n:=by rintro rfl;show h v bX
   simp[this]
  .rfl
theorem Og {kindOf:Str->Option NameKind}{x:Str}:∀{binds:List (Str×Value)} {m:Str->Option Value},(∀v,(x,v)∉binds)->bindC kindOf binds m x=m x
 | [],_,_=>rfl
 | (n,v)::r,m,h=>by
  unfold bindC;rw[Og λw hw=>h w (bq _ hw)];split;.rfl
  .have:x≠n:=by rintro rfl;show h v bX
   simp[this]
theorem Oh {kindOf:Str->Option NameKind}{x:Str}:∀{P:List Str} {vs:List Value} {i:Nat} {m:Str->Option Value},P.Nodup->P[i]?=some x->vs[i]?=some v->kindOf x=some .local->
  bindL kindOf (P.zip vs) m x=some v
 | [],_,_,_,_,h,_,_=>by simp at h
 | _::_,[],_,_,_,_,h,_=>by simp at h
 | p::P,w::vs,0,m,nd,h1,h2,hk=>by simp at h1 h2;subst h1;subst h2;show bindL kindOf ((p,w)::P.zip vs) m p=_;unfold bindL;rw[Oe λv j=>(jS.mp nd).1 (tF j).1,if_pos hk];simp
 | p::P,w::vs,i+1,m,nd,h1,h2,hk=>by show bindL kindOf ((p,w)::P.zip vs) m x=_;unfold bindL;show Oh (i:=i) (jS.mp nd).2 (by simpa using h1) (by simpa using h2) hk
theorem Oi {kindOf:Str->Option NameKind}{x:Str}:∀{P:List Str} {vs:List Value} {i:Nat} {m:Str->Option Value},P.Nodup->P[i]?=some x->vs[i]?=some v->kindOf x≠some .local->
  bindC kindOf (P.zip vs) m x=some v
 | [],_,_,_,_,h,_,_=>by simp at h
 | _::_,[],_,_,_,_,h,_=>by simp at h
 | p::P,w::vs,0,m,nd,h1,h2,hk=>by simp at h1 h2;subst h1;subst h2;show bindC kindOf ((p,w)::P.zip vs) m p=_;unfold bindC;rw[Og λv j=>(jS.mp nd).1 (tF j).1,if_neg hk];simp
 | p::P,w::vs,i+1,m,nd,h1,h2,hk=>by show bindC kindOf ((p,w)::P.zip vs) m x=_;unfold bindC;show Oi (i:=i) (jS.mp nd).2 (by simpa using h1) (by simpa using h2) hk
def start (N:List Str)(vs:List V):St:=vs.map some++List.replicate (N.length-vs.length) none
noncomputable def ud (CX:vA)(P:Program)(w:World)(K:W.Frag)(mg:Str->Option Value)(base:Heap)(N:List Str)(qual:Str)(scope:Scope)(f:Addr)(cd:Value)(A:Around)(outer:List Env)(s:Shared)(H:Hp)(E:XK):Cx where
 prog:=P
 w:=w
 K:=K
 mg:=mg
 base:=base
 A:=A.deeper (envOfC qual scope s.heap.objs.size f cd)
 N:=N
 s₀:=s
 H₀:=H
 env:=envOfC qual scope s.heap.objs.size f cd
 outer:=outer
 stack:=envOfC qual scope s.heap.objs.size f cd::outer
 ex:=[]
 calm:=true
 fn:=λ_=>true
 pn:=[]
 xe:=λe s'=>wpAny (model P w) (A.deeper (envOfC qual scope s.heap.objs.size f cd)) (leaving (envOfC qual scope s.heap.objs.size f cd) e) (λ_ j=>CX outer H s E e j) (λD j=>CX outer H s E D j) s'
def Rj {sc:Scope}(h:sc.names.lookup x=some .cell):∃c,(cellsFrom n sc.names []).lookup x=some c:=by let q:=W.cellsFrom_some sc.names n [] (.inl h);show Option.isSome_iff_exists.mp q
def aaI {CX:vA}{K:W.Frag}{mg:Str->Option Value}{N ps:List Str}{qual:Str}{scope:Scope}{A:Around}{outer:List Env}{E:XK}{vs:List V}(S:bw N ps scope)(hd:A.handled=none)(j:Ii P w K mg base A outer s H)(hl:vs.length=ps.length)(r:Vals vs us)(x:InCallC s s.heap.objs.size (bindL (envOfC qual scope s.heap.objs.size f cd).kindOf (ps.zip us) λ_=>none) (cellsFrom (s.heap.objs.size+1) scope.names []) (bindC (envOfC qual scope s.heap.objs.size f cd).kindOf (ps.zip us) λ_=>none) s1):aP (ud CX P w K mg base N qual scope f cd A outer s H E) [] (start N vs) H s1:=by
 let O:ps.length<=N.length:=by have:=congrArg List.length S.pre;rw[ay]at this;lia
 let⟨h1,tk,rfl,I⟩:=x.done;let D:∀b:Addr,b∉(ud CX P w K mg base N qual scope f cd A outer s H E).ex:=λb z=>absurd (show b∈([]:List Addr) from z) t7;refine⟨⟨j.mod,S.kind,rb,rb,ai _,λy z c h1 h2=>?_,λy hy=>?_,λy c _ h=>?_,λ_=>hd,Around.frames_deeper j.frames,.inr ⟨rb,rb⟩,λb z=>absurd z (D b),j.bs,j.Dl,λb _ _=>D b,λb z=>absurd z (D b),j.qF,j.DP⟩,
  rfl,j.bare,Un.kept I,⟨_,x.toInCall.ns,λi y v h1 h2 h3=>?_⟩,λy c h=>⟨_,x.cell y c h⟩,j.hok.fresh (ai _),λy c h=>?_,λp hp=>absurd (show p∈([]:AE) from hp) t7,j.hok.kept I,?_⟩
 .show name_of_addr x.apart (kP h1) (kP h2)
 .let hy:scope.names.lookup y=some .cell\/scope.names.lookup y=some .free:=hy;rcases hy with hy|hy;.show Rj hy
  .show absurd rb (S.ahh _ (kP hy))
 .show am (x.above y c (kP h))
 .let hi:i<vs.length:=by
   unfold start at h2;by_cases hi:i<vs.length;.show hi
   .rw[dP (by simpa using hi)]at h2;rw[List.getElem?_replicate]at h2;split at h2 <;> cases h2
  let ha:vs[i]?=some v:=by
   unfold start at h2;rw[eW (by simpa using hi),cz]at h2;cases e:vs[i]? with
   | none=>rw[e]at h2;cases h2
   | some a=>rw[e]at h2;cases h2;rfl
  let⟨u,G,J⟩:=r.get ha;let hp:ps[i]?=some y:=by rw[<-S.pre,ny (by simp_all)];show h1
  let F:ps.Nodup:=by rw[<-S.pre];show S.nd.sublist (sw _ _)
  calc⟨u,J,?_⟩;rcases S.par y (b8 hp) with k|k;.show .inl ⟨k,Oh F hp G k⟩
  .let⟨c,e⟩:=Rj (n:=s.heap.objs.size+1) k;calc .inr ⟨.inl k,c,e,?_⟩;let q:=x.cell y c e;rw[Oi F hp G (by show scope.names.lookup y≠_;rw[k];decide)]at q;show q
 .show j.hok.fresh (am (x.above y c (kP h)))
 .unfold start;show _=N.length;rw[av,aa,dL];simp_all
def aek {CX:vA}{P:Program}{w:World}{K:W.Frag}{mg:Str->Option Value}{base:Heap}{k:Nat}{f:Addr}{name qual:Str}{j:Arguments}{body:List Stmt}{scope:Scope}{dV kV doc pm bN ct oc:Value}{an od:Option Addr}{osl:Array (Option Value)}{N ps:List Str}{sp:Sp}(lk:K.lookup f=some ⟨oc,od,.func (W.fnOf name qual j body scope dV kV doc pm an bN ct),osl⟩)(hcd:W.codeIn K bN qual=true)(S:bw N ps scope)(len:∀vs H Q E,sp vs H Q E->vs.length=ps.length)(D:∀(A:Around) (outer:List Env) (s:Shared) (H:Hp) (vs:List V) (Q:VK) (E:XK),fO k (A.deeper (envOfC qual scope s.heap.objs.size f bN))->sp vs H Q E->
   ∃t,xJ (ud CX P w K mg base N qual scope f bN A outer s H E) body t/\t {nx:=λ_ H'=>Q .non H',rt:=Q} (start N vs) H) :
  cB P w K mg base CX (k+1) f (W.fnOf name qual j body scope dV kV doc pm an bN ct) ps sp:=by
 calc⟨len,λA outer s H args us vs Q E hr G hb r O=>?_⟩;let hl:=len _ _ _ _ O;let KX:K.In s.heap:=G.mod.JC.keeps λb o e=>(G.bs b o e).1;let lim:s.heap.NoLimit:=G.mod.nolimit.keeps λb o e=>(G.bs b o e).1;let F:∀y∈ps.zip us,scope.names.lookup y.1=some .local\/(scope.names.lookup y.1=some .cell/\((cellsFrom (s.heap.objs.size+1) scope.names []).lookup y.1).isSome=true):=λ⟨n,v⟩ hy=>by
  rcases S.par n (tF hy).1 with q|q;.show .inl q
  .show .inr ⟨q,W.cellsFrom_some _ _ _ (.inl q)⟩
 calc codeAny_call_function hr.depth (KX _ _ lk) rb S.co S.gen rb (W.codeRec_of KX hcd) (hb _ _ _ _ ?_);calc wpAny_newFunctionEnv_cells S.kind F λenv he s1 x=>?_;subst he;calc⟨lim.keeps x.toInCall.keep,codeAny_func ?_⟩;let⟨t,ht,hq⟩:=D A outer s H vs Q E (hr.deeper _) O;let I:aP (ud CX P w K mg base N qual scope f bN A outer s H E) [] (start N vs) H s1:=aaI S hr.hd G hl r x;calc fA (ht [] s1 (start N vs) H _ I hq) (λfl s' hs=>?_) λe s' hs=>hs;let Y:∀{σ':St} {H':Hp} {v:V} {u:Value},aP (ud CX P w K mg base N qual scope f bN A outer s H E) [] σ' H' s'->cH v u->Q v H'->CE outer P w H s Q u s':=λ{σ' H' v u} J Z q=>⟨v,H',J.os,J.bare,J.base,J.hok,Z,q⟩
 cases fl with
 | ret u=>let⟨v,σ',H',J,Z,q⟩:=hs;show Y J Z q
 | next=>let⟨σ',H',J,q⟩:=hs;show Y (v:=V.non) (u:=Value.none) J rb q
 | brk=>let⟨_,_,_,q⟩:=hs;show False.elim q
 | cont=>let⟨_,_,_,q⟩:=hs;show False.elim q
section
variable {X:Cx}{x:Str}{p pos:Pos}{e:Expr}{es:List Expr}{t:TA}{id T:String}{r:List V->Hp->VK->Prop}
def tCB (r:List V->Hp->VK->Prop)(t:TA):TE:=λσ H Q=>t σ H λvs H1=>r vs H1 Q
def acF (J:iV X (.builtin id) r)(Y:Gl X x)(hm:X.mg x=none)(O:bootBuiltins x=some (.builtin id))(ha:PA X (e::es) t)(hn:x≠"__name__":=by decide)(D:(x==("__debug__":Str))=false:=by decide)(F:starEach (e::es) X.env=(false,eval e X.env)::starEach es X.env:=by rfl)(j:(backTo pos (starEach es X.env)).any (·.1)=false:=by rfl):PE X (.Call (.Name x p) (e::es) [] pos) (tCB r t):=by intro ak s σ H Q I h;calc jn (vo I Y hm O ?_ hn D);show qk (cD (ha pos ak s σ H _ I h) λus s1 ⟨vs,H1,G,r1,q1⟩=>J ak s1 σ H1 vs us Q G r1 q1) F j
def aaJ (J:iV X (.type T) r)(Y:Gl X x)(hm:X.mg x=none)(O:bootBuiltins x=some (.type T))(ha:PA X (e::es) t)(hn:x≠"__name__":=by decide)(D:(x==("__debug__":Str))=false:=by decide)(F:starEach (e::es) X.env=(false,eval e X.env)::starEach es X.env:=by rfl)(j:(backTo pos (starEach es X.env)).any (·.1)=false:=by rfl):PE X (.Call (.Name x p) (e::es) [] pos) (tCB r t):=by intro ak s σ H Q I h;calc jn (vo I Y hm O ?_ hn D);show gh (cD (ha pos ak s σ H _ I h) λus s1 ⟨vs,H1,G,r1,q1⟩=>J ak s1 σ H1 vs us Q G r1 q1) F j
end
end L2
namespace HT
open PySem PyProof.Rows
section
variable {prog:Program}{w:World}{A:Around}{E:AD}{s:Shared}
def ae2 {vs ws:List Value}(ht:IsTup s.heap t vs.toArray)(hb:IsTup s.heap b ws.toArray)(hv:vs≠[])(h1:ws=[]->Q (.ref t) s)(h2:ws≠[]->Q (.ref s.heap.objs.size) {s with heap:=s.heap.push {cls:=.type "tuple",data:=.seq (vs++ws).toArray} })(hsz:vs.length+ws.length<=sizeLine):wpAny (model prog w) A (binaryOp .Add (.ref t) (.ref b)) Q E s:=by
 obtain⟨⟨cls,dd,data,sl⟩,J,hc,n,hd⟩:=id ht;obtain⟨⟨Y,F,O,G⟩,j,I,Z,D⟩:=id hb;simp only at hc hd I D;subst hc hd I D;let e:vs.toArray++ws.toArray=(vs++ws).toArray:=t7;by_cases hw:ws=[]
 .show concat_meets ⟨_,J,rb⟩ ⟨_,j,rb⟩ noFill_tuple_add seq_tuple_add oz og (nB _ _)
   (tuple_addW1 t b vs.toArray ws.toArray n Z dd F sl G (by simpa using hv) (by simp[hw])) ⟨J,j,h1 hw⟩
 .refine concat_meets ⟨_,J,rb⟩ ⟨_,j,rb⟩ noFill_tuple_add seq_tuple_add oz og (nB _ _)
   (tuple_addW2 t b vs.toArray ws.toArray n Z dd F sl G (by simpa using hv) (by simpa using hw) (by rw[bE,bE];show hsz)) ⟨J,j,?_⟩
  rw[e];show h2 hw
def dj (n d:Nat):Option Int->Nat
 | none=>d
 | some v=>if v<0 then (v+(n:Int)).toNat else min v.toNat n
def uf (n d):dj n d none=d:=rfl
def lO (n d k:Nat):dj n d (some (k:Int))=min k n:=by show (if (k:Int)<0 then ((k:Int)+(n:Int)).toNat else min (k:Int).toNat n)=min k n;rw[if_neg t6,c9]
def aaK (n d)(hd:d<=n)(o):dj n d o<=n:=by
 cases o with
 | none=>show hd
 | some v=>
  show (if v<0 then (v+(n:Int)).toNat else min v.toNat n)<=n;by_cases j:v<0;.rw[if_pos j];lia
  .rw[if_neg j];show Nat.min_le_right _ _
def Ly (v:Int)(n d:Nat):(if v<0 then max (v+(n:Int)) 0 else min v (n:Int))=((dj n d (some v):Nat):Int):=by
 show (if v<0 then max (v+(n:Int)) 0 else min v (n:Int))=(((if v<0 then (v+(n:Int)).toNat else min v.toNat n):Nat):Int)
 by_cases j:v<0;.simp only[if_pos j];lia
 .simp only[if_neg j];grind
def YZ (lo hi:Option Int)(n:Nat):Builtin.Slice.sliceAdjust lo hi 1 (n:Int)=(((dj n 0 lo:Nat):Int),((dj n n hi:Nat):Int)):=by
 let h1:¬((1:Int)<0):=t6;unfold Builtin.Slice.sliceAdjust;simp only[h1,if_false];refine Prod.ext ?_ ?_
 .cases lo with| none=>rfl| some v=>show Ly v n 0
 .cases hi with| none=>rfl| some v=>show Ly v n n
def Y4 (i j:Nat):Builtin.Slice.slicePlaces (i:Int) (j:Int) 1=j-i:=by unfold Builtin.Slice.slicePlaces;let h1:(1:Int) > 0:=t6;simp only[h1,if_true,Int.ediv_one];split <;> simp_all
def JL (p:IsPart v o)(h:Q o s):wpAny (model prog w) A (Builtin.Slice.slicePartIndex v) Q E s:=by
 cases p with| none=>show slicePart_none h| int i t=>show slicePart_int h
def xM {sl:Addr}{G F:Value}{lo hi:Option Int}{n:Nat}{Q:Int×Int×Nat->Shared->Prop}(hs:s.heap.IsSliceOf sl G F .none)(pl:IsPart G lo)(I:IsPart F hi)(h:Q (((dj n 0 lo:Nat):Int),1,dj n n hi-dj n 0 lo) s):wpAny (model prog w) A (Builtin.Slice.sliceApplied (.ref sl) (pure (n:Int))) Q E s:=by let⟨os,D,J,j⟩:=id hs;unfold Builtin.Slice.sliceApplied Builtin.Slice.sliceFields;calc af (af (gd D j (x:=G) rb (af (gd D j (x:=F) rb (af (gd D j (x:=.none) rb (ax ?_)))))));calc af (slicePart_none ?_);show wpAny _ _ (if ((1:Int)==0)=true then _ else _) _ _ s;rw[if_neg t9];calc af (JL pl (af (JL I (af (ax ?_)))));show wpAny _ _ (match Builtin.Slice.sliceAdjust lo hi 1 (n:Int) with|(lo,hi)=>pure (lo,(1:Int),Builtin.Slice.slicePlaces lo hi 1)) _ _ s;rw[YZ lo hi n];show wpAny _ _ (pure (((dj n 0 lo:Nat):Int),(1:Int),Builtin.Slice.slicePlaces ((dj n 0 lo:Nat):Int) ((dj n n hi:Nat):Int) 1)) _ _ s;rw[Y4];show ax h
def acG (xs:Array Value)(i k:Nat):((List.range k).filterMap λ(m:Nat)=>xs[((i:Int)+(m:Int)*1).toNat]?).toArray=((xs.toList.drop i).take k).toArray:=by
 let e:(λ(m:Nat)=>xs[((i:Int)+(m:Int)*1).toNat]?)=λm=>xs[i+m]?:=by
  funext m;have:((i:Int)+(m:Int)*1).toNat=i+m:=by lia
  rw[this]
 rw[e];have:=pick_run xs i k;rw[List.filterMap_map]at this;let e2:((λx=>xs[x]?) ∘ λx=>i+x)=λm=>xs[i+m]?:=rfl;rw[e2]at this;rw[this]
def Hj {lo hi:Option Int}(ht:IsTup s.heap t items)(hs:s.heap.IsSliceOf sl vl vu .none)(pl:IsPart vl lo)(O:IsPart vu hi)(hw:¬(dj items.size 0 lo=0/\dj items.size items.size hi=items.size))(h:Q (.ref s.heap.objs.size) {s with heap:=s.heap.push {cls:=.type "tuple",data:=.seq ((items.toList.drop (dj items.size 0 lo)).take (dj items.size items.size hi-dj items.size 0 lo)).toArray} })(hsz:items.size<=sizeLine):wpAny (model prog w) A (getItem (.ref t) (.ref sl)) Q E s:=by
 let j:sizeOk (.seq ((items.toList.drop (dj items.size 0 lo)).take (dj items.size items.size hi-dj items.size 0 lo)).toArray):=by show ((items.toList.drop (dj items.size 0 lo)).take (dj items.size items.size hi-dj items.size 0 lo)).toArray.size<=sizeLine;rw[bE,ay,bv,cy];lia
 let Y:dj items.size items.size hi<=items.size:=aaK _ _ (ai _) hi;let⟨os,F,D,J⟩:=id hs;let G:s.TypeIs (.ref sl) "slice":=⟨os,F,D⟩
 unfold getItem
 try with_reducible refine ib ?_
 first|refine af (ax ?_)|skip
 calc af (wpAny_sequenceKey ht.typeIs t9 ?_);refine af (kS (name:=Str.ofString "__getitem__") ht.typeIs gv
  (ij gv ht.typeIs entry_tuple_getitem ?_ (args_tuple_getitem _ _)))
 show wpAny _ _ (Builtin.Tuple.tupleItemsOf (.ref t) >>= _) _ _ s;calc af (tupleItemsOf_ ht ?_);calc af (wpAny_typeOf G ?_);rw[if_pos t9];calc af (xM hs pl O ?_);let I:¬((((dj items.size 0 lo:Nat):Int)==0&&(1:Int)==1&&(dj items.size items.size hi-dj items.size 0 lo)==items.size)=true):=by intro q;rw[cn,cn]at q;let q1:((dj items.size 0 lo:Nat):Int)=0:=eq_of_beq q.1.1;let q2:dj items.size items.size hi-dj items.size 0 lo=items.size:=eq_of_beq q.2;show hw ⟨Iff.mp Int.ofNat_inj q1,by simp_all⟩
 show wpAny _ _ (if (((dj items.size 0 lo:Nat):Int)==0&&(1:Int)==1&&(dj items.size items.size hi-dj items.size 0 lo)==items.size)=true then _ else _) _ _ s;rw[if_neg I,acG]
 first| show af (m:=Builtin.Tuple.tupleExact _) (iL (ax ⟨_,rb,ax h⟩) j)| show af (m:=Builtin.Tuple.tupleExact _) (iL (af (ax (ax ⟨_,rb,ax h⟩))) j)| show af (af (m:=Builtin.Tuple.tupleExact _) (iL (ax (ax ⟨_,rb,ax h⟩)) j))| show af (af (m:=Builtin.Tuple.tupleExact _) (iL (ax ⟨_,rb,ax h⟩) j))
end
end HT
namespace L2
open PySem PySem.Spec PyProof.Rows
abbrev TO:=St->Hp->(Option Int->Hp->Prop)->Prop
def PO (X:Cx)(e:Option Expr)(t:TO):Prop:=∀(ak:AE) (s:Shared) (σ:St) (H:Hp) (Q:Option Int->Hp->Prop),aP X ak σ H s->t σ H Q->
  wpAny (model X.prog X.w) X.A (evalPart e X.env) (λu s'=>∃o H',aP X ak σ H' s'/\IsPart u o/\Q o H') X.xe s
def WQ:TO:=λ_ H Q=>Q none H
def ael (t:TE):TO:=λσ H Q=>t σ H λx H1=>∃i,x=.int i/\Q (some i) H1
section
variable {X:Cx}{e:Expr}{te:TE}{lo hi:Option Expr}{tl th:TO}{pos p2:Pos}
def ae3:PO X none WQ:=by intro ak s σ H Q I h;rw[evalPart_none];show ax ⟨none,H,I,.none,h⟩
def ae4 (h:PE X e te):PO X (some e) (ael te):=by intro ak s σ H Q I hw;rw[evalPart_some];calc cD (h ak s σ H _ I hw) λu s1 D=>?_;let⟨x,H1,j,r1,q1⟩:=D;let⟨i,rfl,q⟩:=q1;let⟨t,rfl⟩:=r1;show⟨some i,H1,j,.int i t,q⟩
def WR (X:Cx)(r:V->Option Int->Option Int->Hp->VK->Prop):Prop:=∀(ak:AE) (s:Shared) (σ:St) (H:Hp) (x:V) (v j D:Value) (lo hi:Option Int) (sl:Addr) (Q:VK),aP X ak σ H s->cH x v->s.heap.IsSliceOf sl j D .none->IsPart j lo->IsPart D hi->r x lo hi H Q->
  ∃T id,typeLookup (.type T) "__getitem__"=pure (some (.builtin id))/\s.TypeIs v T/\wpAny (model X.prog X.w) X.A (getItem v (.ref sl)) (EP X ak σ Q) X.xe s
def tSl (r:V->Option Int->Option Int->Hp->VK->Prop)(te:TE)(tl th:TO):TE:=λσ H Q=>te σ H λx H1=>tl σ H1 λl D=>th σ D λu j=>r x l u j Q
def acH (hr:WR X r)(Y:PE X e te)(hl:PO X lo tl)(hu:PO X hi th):PE X (.Subscript e (.Slice lo hi none p2) pos) (tSl r te tl th):=by intro ak s σ H Q I h;calc Subscript_ (cD (Y ak s σ H _ I h) λv s1 D=>?_);let⟨x,H1,I1,r1,q1⟩:=D;calc wpAny_Slice (cD (hl ak s1 σ H1 _ I1 q1) λF s2 D=>?_);let⟨l,H2,O,pl,q2⟩:=D;calc cD (hu ak s2 σ H2 _ O q2) λG j D=>?_;let⟨u,J,I3,Z,q3⟩:=D;rw[evalPart_none];calc ax ?_;let I4:aP X ak σ J {j with heap:=j.heap.push {cls:=.type "slice",data:=.fields #[F,G,.none]} }:=I3.kept (t':=j.toks) λb ob q=>ag _ q;let⟨T,id,hT,ht,hg⟩:=hr ak {j with heap:=j.heap.push {cls:=.type "slice",data:=.fields #[F,G,.none]} } σ J x v F G l u j.heap.objs.size Q I4 r1 (Heap.IsSliceOf.new ..) pl Z q3;show wpAny (model X.prog X.w) X.A (subscriptTail e (.Slice lo hi none p2) v (.ref j.heap.objs.size)) (EP X ak σ Q) X.xe {j with heap:=j.heap.push {cls:=.type "slice",data:=.fields #[F,G,.none]} };show tail_any (ops:=[.ref j.heap.objs.size,v]) ht hT hg (by with_unfolding_all rfl)
noncomputable def jo (xs:List V)(lo hi:Option Int):List V:=(xs.drop (HT.dj xs.length 0 lo)).take (HT.dj xs.length xs.length hi-HT.dj xs.length 0 lo)
def Hu (xs)(lo hi):(jo xs lo hi).length<=xs.length:=by unfold jo;rw[ay,bv];lia
def Vals.Aa (r:Vals xs us):us=[]↔xs=[]:=by
 cases r with| nil=>simp| cons _ _=>simp
end
noncomputable def yI (n:Nat)(i:Int):Option Nat:=if 0<=i then (if i<n then some i.toNat else none) else if -(n:Int)<=i then some (i+n).toNat else none
def rH {α:Type}(xs:List α)(i:Int):Option α:=(yI xs.length i).bind λj=>xs[j]?
def WT (h:yI n i=some j):seqIndex? i n=some j/\j<n/\-(n:Int)<=i/\i<n:=by
 unfold yI at h;by_cases h0:0<=i
 .rw[if_pos h0]at h;by_cases h1:i<n
  .rw[if_pos h1]at h;let e:i.toNat=j:=bP h;show⟨by rw[seqIndex_of h0 h1,e],t6,t6,h1⟩
  .rw[if_neg h1]at h;cases h
 .rw[if_neg h0]at h;by_cases h1:-(n:Int)<=i
  .rw[if_pos h1]at h;let e:(i+n).toNat=j:=bP h;show⟨by rw[seqIndex_neg t6 h1,e],t6,h1,t6⟩
  .rw[if_neg h1]at h;cases h
def Lz {α:Type}{xs:List α}{v:α}(h:rH xs i=some v):∃j,seqIndex? i xs.length=some j/\xs[j]?=some v/\j<xs.length/\-(xs.length:Int)<=i/\i<xs.length:=by
 unfold rH at h;cases e:yI xs.length i with
 | none=>rw[e]at h;cases h
 | some j=>rw[e]at h;let⟨h1,h2,h3,h4⟩:=WT e;show⟨j,h1,h,h2,h3,h4⟩
def aV {α:Type}{xs:List α}{j:Nat}{v:α}(h:xs[j]?=some v):rH xs (j:Int)=some v:=by
 let D:j<xs.length:=(al.mp h).1;let e:yI xs.length (j:Int)=some j:=by unfold yI;rw[if_pos t6,if_pos (Iff.mpr qo D)];simp
 unfold rH;rw[e];show h
def Ij {α:Type}(xs:List α)(v:α):rH (xs++[v]) (-1)=some v:=by
 let hl:(xs++[v]).length=xs.length+1:=t7;let e:yI (xs++[v]).length (-1)=some xs.length:=by unfold yI;rw[hl,if_neg t9,if_pos t6];congr 1;simp +arith
 unfold rH;rw[e];show (xs++[v])[xs.length]?=some v;simp
def GD (b:Expr):Prop:=∀o i,subscripted b false o i=operate [o,i] (getItem o i)
def JM (X:Cx)(r:R2):Prop:=∀(value j:Expr) (ak:AE) (s:Shared) (σ:St) (H:Hp) (x y:V) (v u:Value) (Q:VK),aP X ak σ H s->cH x v->cH y u->r x y H Q->
  subscripted j false v u=operate [v,u] (getItem v u)->wpAny (model X.prog X.w) X.A (subscriptTail value j v u) (EP X ak σ Q) X.xe s
def Ab (X:Cx)(id:String)(r:V->List V->Hp->VK->Prop):Prop:=∀(ak:AE) (s:Shared) (σ:St) (H:Hp) (x:V) (xs:List V) (v:Value) (us:List Value) (Q:VK),aP X ak σ H s->cH x v->Vals xs us->r x xs H Q->
  wpAny (model X.prog X.w) X.A (call (.builtin id) (v::us)) (EP X ak σ Q) X.xe s
section
variable {X:Cx}{a b:Expr}{ta tb:TE}{pos:Pos}
def ai5 (J:JM X r)(ha:PE X a ta)(hb:PE X b tb)(hs:GD b):PE X (.Subscript a b pos) (Ht r ta tb):=by intro ak s σ H Q I h;show Subscript_ (acy ha hb I h λv u s2 x y F j D G q=>J a b ak s2 σ F x y v u Q j D G q (hs _ _))
def ajO (K:W.Frag):R2:=λx y H Q=>∃p xs i v,x=.ref p/\y=.int i/\bI K H p xs/\rH xs i=some v/\Q v H
def ahi (K:W.Frag):R2:=λx y H Q=>∃p xs i v,x=.ref p/\y=.int i/\aU K H p xs/\rH xs i=some v/\Q v H
def ajP:R2:=λx y H Q=>∃z i c,x=.str z/\y=.int i/\z.length<=sizeLine/\rH z.cps.toList i=some c/\Q (.str ⟨#[c]⟩) H
def iQ:JM X (ajO X.K):=by
 intro value G ak s σ H x y v u Q I Y ry h hs;let⟨p,xs,i,z,rfl,rfl,Z,O,q⟩:=h;cases Y;let⟨t,rfl⟩:=ry;let⟨its,r,pl,hz⟩:=I.list Z;let⟨j,h1,h2,h3,h4,h5⟩:=Lz O;let⟨w,ew,J⟩:=r.get h2;let hl:=r.length;let hn:=z9;let D:EP X ak σ Q w s:=⟨z,H,I,J,q⟩
 by_cases h0:0<=i
 .let F:i.toNat=j:=by
   rw[seqIndex_of h0 h5]at h1;show bP h1
  show item_listR pl.isList h0 t6 (by rw[F];simpa using ew) D hs
 .let F:(i+(its.toArray.size:Int)).toNat=j:=by
   rw[seqIndex_neg t6 h4]at h1;rw[bE,<-hl];show bP h1
  show subscriptTail_builtinR (x:=w) pl.isList.typeIs slot_list_getitem.lookup
   (wpAny_getItem_list_neg (Q:=λr s'=>r=w/\EP X ak σ Q r s') pl.isList t6 (by rw[bE] <;> lia) t6 (by rw[F];simpa using ew) ⟨rb,D⟩) hs
def bF:JM X (ahi X.K):=by
 intro value D ak s σ H x y v u Q I O Z h hs;let⟨p,xs,i,z,rfl,rfl,Y,J,q⟩:=h;cases O;let⟨t,rfl⟩:=Z;let⟨its,r,pl,hz⟩:=I.tuple Y;let⟨j,h1,h2,h3,h4,h5⟩:=Lz J;let⟨w,ew,F⟩:=r.get h2;let hl:=r.length;let hn:=z9;let G:EP X ak σ Q w s:=⟨z,H,I,F,q⟩
 show subscriptTail_builtinR (x:=w) pl.typeIs slot_tuple_getitem.lookup
  (getItem_tuple (j:=j) (Q:=λr s'=>r=w/\EP X ak σ Q r s') pl t6 t6 (by rw[bE,<-hl];show h1) (by simpa using ew) ⟨rb,G⟩) hs
def ahj:JM X ajP:=by
 intro value D ak s σ H x y v u Q I G J h hs;let⟨z,i,c,rfl,rfl,hz,F,q⟩:=h;let⟨t,rfl⟩:=G;let⟨t',rfl⟩:=J;let⟨j,h1,h2,h3,h4,h5⟩:=Lz F;let hl:z.cps.toList.length=z.length:=by simp[Str.length]
 rw[hl]at h1 h4 h5;let hn:=z9;show tail_any (typeIs_str s z t) slot_str_getitem.lookup (getItem_str (c:=c) (by
  let e1:decide (i < -(2^63:Int))=false:=ah t6;let e2:decide (i>=2^63)=false:=ah t6;rw[e1,e2,Bool.or_false]) (by rw[h1];simpa using h2) ⟨.str ⟨#[c]⟩,H,I.tok _,⟨_,rb⟩,q⟩) hs
def Y5 (its:List Value)(n j)(u):Obj.mapSeq (·.setIfInBounds j u) {cls:=.type "list",data:=.seq its.toArray n}={cls:=.type "list",data:=.seq (its.set j u).toArray n}:=by simp[Obj.mapSeq]
def aP.lst {ak:AE}{σ:St}{H:Hp}{s:Shared}{p:Addr}{xs:List V}(I:aP X ak σ H s)(h:H p=some (.lst xs)):∃(its:List Value) (n:Nat),Vals xs its/\s.heap.get? p=some {cls:=.type "list",data:=.seq its.toArray n}/\xs.length<=sizeLine:=by let⟨z,its,n,r,e⟩:=I.hok p _ h;show⟨its,n,r,e,z⟩
def aP.ahk {ak:AE}{σ:St}{H:Hp}{s:Shared}{p:Addr}{xs ys:List V}{its its':List Value}{n j:Nat}{f:Obj->Obj}(I:aP X ak σ H s)(h:H p=some (.lst xs))(F:s.heap.get? p=some {cls:=.type "list",data:=.seq its.toArray n})(D:f {cls:=.type "list",data:=.seq its.toArray n}={cls:=.type "list",data:=.seq its'.toArray j })(r:Vals ys its')(hz:ys.length<=sizeLine)(t:Nat):aP X ak σ (upd H p (.lst ys)) {s with heap:=s.heap.update p f,toks:=t}:=by
 let e:(s.heap.update p f).get? p=some {cls:=.type "list",data:=.seq its'.toArray j }:=by rw[j3 f F (by rw[D] <;> rfl),D]
 calc I.write (x:=p) (e:=p) (by rw[h];trivial) (.inl rb) (λb u hb q=>(gz _ _ (iE hb)).trans q) ⟨_,e⟩ ?_;show⟨hz,its',j,r,e⟩
def ai6:V->V->V->Hp->(Hp->Prop)->Prop:=λo i v H Q=>∃p xs k j,o=.ref p/\i=.int k/\H p=some (.lst xs)/\yI xs.length k=some j/\Q (upd H p (.lst (xs.set j v)))
def set_list:acw X ai6:=by
 intro ak s σ H o i v ov Z u Q I Y ri O h;let⟨p,xs,k,j,rfl,rfl,hp,J,q⟩:=h;cases Y;let⟨t,rfl⟩:=ri;let⟨its,n,r,D,hz⟩:=I.lst hp;let⟨h1,h2,h3,h4⟩:=WT J;let hl:=r.length;let hn:=z9;let G:aP X ak σ (upd H p (.lst (xs.set j v))) {s with heap:=s.heap.update p (Obj.mapSeq (·.setIfInBounds j u))}:=I.ahk hp D (Y5 its n j u) (r.set O j) (by rw[gf];show hz) s.toks
 by_cases h0:0<=k
 .let F:k.toNat=j:=by
   rw[seqIndex_of h0 h4]at h1;show bP h1
  show W.ki_setAt D h0 t6 (by rw[bE,<-hl];show h4) (by rw[F];show⟨_,G,q⟩)
 .let F:(k+(its.toArray.size:Int)).toNat=j:=by
   rw[seqIndex_neg t6 h3]at h1;rw[bE,<-hl];show bP h1
  show W.ki_setBack D t6 (by rw[bE,<-hl];show h3) t6 (by rw[F];show⟨_,G,q⟩)
def Rk (lo hi)(n):(sliceBounds lo hi none n).1=((HT.dj n 0 lo:Nat):Int)/\(sliceBounds lo hi none n).2.1=((HT.dj n n hi:Nat):Int)/\(sliceBounds lo hi none n).2.2=1:=by
 refine⟨?_,?_,rb⟩
 .cases lo with
  | none=>simp[sliceBounds,HT.dj]
  | some i=>
   simp only[sliceBounds,HT.dj,Option.getD_none,show (1:Int) > 0 by decide,if_true];by_cases h:i<0
   .simp only[h,if_true] <;> grind
   .simp only[h,if_false] <;> grind
 .cases hi with
  | none=>simp[sliceBounds,HT.dj]
  | some i=>
   simp only[sliceBounds,HT.dj,Option.getD_none,show (1:Int) > 0 by decide,if_true];by_cases h:i<0
   .simp only[h,if_true] <;> lia
   .simp only[h,if_false] <;> lia
def PL (its:List Value)(lo hi):slicePick its.toArray lo hi none=((its.drop (HT.dj its.length 0 lo)).take (HT.dj its.length its.length hi-HT.dj its.length 0 lo)).toArray:=by let⟨h1,h2,h3⟩:=Rk lo hi its.toArray.size;unfold slicePick;rw[h1,h2,h3];simp only[sliceRange_one,pick_run,bE] <;> rfl
def ahl (K:W.Frag):V->Option Int->Option Int->Hp->VK->Prop:=λx lo hi H Q=>∃a xs,x=.ref a/\bI K H a xs/\∀p,H p=none->Q (.ref p) (upd H p (.lst (jo xs lo hi)))
def w5:WR X (ahl X.K):=by intro ak s σ H x v G J lo hi sl Q I D hs pl j h;let⟨a,xs,rfl,hx,q⟩:=h;cases D;let⟨its,r,ht,hz⟩:=I.list hx;let F:=r.length;calc⟨"list",_,slot_list_getitem.lookup,ht.isList.typeIs,?_⟩;calc wpAny_getItem_list_slice ht.isList hs pl j .none t7 ?_ (by rw[bE] <;> simp_all);rw[PL,<-F];calc⟨.ref s.heap.objs.size,_,I.laid (t':=s.toks) (o:=.lst (jo xs lo hi)) (λb ob q=>ag _ q) (ai _) ?_,rb,q _ (I.hok.fresh (ai _))⟩;show⟨bS (Hu xs lo hi) hz,_,0,(r.drop (HT.dj xs.length 0 lo)).take (HT.dj xs.length xs.length hi-HT.dj xs.length 0 lo),bo _ rb⟩
def wG:V->Bool
 | .non=>true
 | .bl _=>true
 | .int _=>true
 | .str _=>true
 | _=>false
noncomputable def Hv:V->V->Bool
 | .non,.non=>true
 | .bl a,.bl b=>a==b
 | .bl a,.int b=>(if a then 1 else 0)==b
 | .int a,.bl b=>a==(if b then 1 else 0)
 | .int a,.int b=>a==b
 | .str a,.str b=>a==b
 | _,_=>false
def ahm (D:cH y u)(j:cH x v)(G:wG y=true)(F:wG x=true):SeqAt.EqAt A s u v (Hv y x):=by
 cases y with
 | non=>
  cases D;cases x with
  | non=>cases j;show SeqAt.EqAt.same _
  | bl b=>cases j;show SeqAt.EqAt.none_bool b
  | int b=>let⟨t,rfl⟩:=j;show SeqAt.EqAt.none_int b t
  | str b=>let⟨t,rfl⟩:=j;show SeqAt.EqAt.none_str b t
  | _=>show absurd (show false=true from F) cp
 | bl a=>
  cases D;cases x with
  | non=>cases j;show SeqAt.EqAt.bool_none a
  | bl b=>cases j;show SeqAt.EqAt.bool_bool a b
  | int b=>let⟨t,rfl⟩:=j;show SeqAt.EqAt.bool_int a b t
  | str b=>let⟨t,rfl⟩:=j;show SeqAt.EqAt.bool_str a b t
  | _=>show absurd (show false=true from F) cp
 | int a=>
  let⟨t',rfl⟩:=D;cases x with
  | non=>cases j;show SeqAt.EqAt.int_none a t'
  | bl b=>cases j;show SeqAt.EqAt.int_bool a t' b
  | int b=>let⟨t,rfl⟩:=j;show k9 a t' b t
  | str b=>let⟨t,rfl⟩:=j;show SeqAt.EqAt.int_str a t' b t
  | _=>show absurd (show false=true from F) cp
 | str a=>
  let⟨t',rfl⟩:=D;cases x with
  | non=>cases j;show SeqAt.EqAt.str_none a t'
  | bl b=>cases j;show SeqAt.EqAt.str_bool a t' b
  | int b=>let⟨t,rfl⟩:=j;show SeqAt.EqAt.str_int a t' b t
  | str b=>let⟨t,rfl⟩:=j;show SeqAt.EqAt.str_str a t' b t
  | _=>show absurd (show false=true from F) cp
 | _=>show absurd (show false=true from G) cp
noncomputable def JN (x:V)(u:Value):Bool:=match u with| .none=>Hv .non x| .bool b=>Hv (.bl b) x| .int i _=>Hv (.int i) x| .str z _=>Hv (.str z) x| _=>false
def aaL (r:cH y u)(f:wG y=true):JN x u=Hv y x:=by
 cases y with
 | non=>cases r;rfl
 | bl b=>cases r;rfl
 | int i=>let⟨t,rfl⟩:=r;rfl
 | str z=>let⟨t,rfl⟩:=r;rfl
 | _=>show absurd (show false=true from f) cp
theorem LC:∀{xs:List V} {us:List Value},Vals xs us->xs.all wG=true->us.any (JN x)=xs.any λy=>Hv y x
 | _,_,.nil,_=>rfl
 | y::xs,u::us,.cons r t,f=>by rw[List.all_cons,cn]at f;rw[mx,mx,aaL r f.1,LC t f.2]
theorem Ik (D:cH x v)(F:wG x=true):∀{xs:List V} {us:List Value},Vals xs us->xs.all wG=true->∀u∈us,SeqAt.EqAt A s u v (JN x u)
 | _,_,.nil,_=>λu j=>by cases j
 | y::xs,u::us,.cons r t,f=>λG j=>by
  rw[List.all_cons,cn]at f;rcases b9.mp j with rfl|j;.rw[aaL r f.1];show ahm r D f.1 F
  .show Ik D F t f.2 G j
def inV (x:V)(xs:List V):Bool:=xs.any λy=>Hv y x
def rIn (K:W.Frag)(j:Bool):R2:=λx y H Q=>∃p xs,y=.ref p/\(bI K H p xs\/aU K H p xs)/\wG x=true/\xs.all wG=true/\Q (.bl (if j then !inV x xs else inV x xs)) H
def xO:gJ X (compareOp .NotIn) (rIn X.K true):=by
 intro ak s σ H x y v u Q I F G h;let⟨p,xs,rfl,j,D,fs,q⟩:=h;cases G;rcases j with j|j
 .let⟨its,r,pl,hz⟩:=I.list j;calc SeqAt.notIn_listAt (JN x) pl.isList (λw hw=>Ik F D r fs w (by simpa using hw)) ⟨.bl _,H,I,rb,?_⟩;rw[show its.toArray.any (JN x)=its.any (JN x) by simp,LC r fs];show q
 .let⟨its,r,pl,hz⟩:=I.tuple j;calc SeqAt.notIn_tupleAt (JN x) pl (λw hw=>Ik F D r fs w (by simpa using hw)) ⟨.bl _,H,I,rb,?_⟩;rw[show its.toArray.any (JN x)=its.any (JN x) by simp,LC r fs];show q
def bZ:iV X (.builtin "len") (λxs H Q=>∃p ys,xs=[.ref p]/\(bI X.K H p ys\/aU X.K H p ys)/\Q (.int ys.length) H):=by
 intro ak s σ H xs us Q I r h;let⟨p,ys,rfl,j,q⟩:=h;let⟨u,rfl,G⟩:=vals1 r;cases G;let hn:=z9;rcases j with j|j
 .let⟨its,F,pl,hz⟩:=I.list j;let D:=F.length;show Calls.call_len_list pl.isList (by simp only[bE] <;> lia) ⟨.int ys.length,H,I.tok _,⟨s.toks+1,by rw[bE,D]⟩,q⟩
 .let⟨its,F,pl,hz⟩:=I.tuple j;let D:=F.length;show len_tuple pl (by simp only[bE] <;> lia) ⟨.int ys.length,H,I.tok _,⟨s.toks+1,by rw[bE,D]⟩,q⟩
def Rm:iV X (.builtin "len") (λxs H Q=>∃z,xs=[.str z]/\z.length<=sizeLine/\Q (.int z.length) H):=by intro ak s σ H xs us Q I r h;let⟨z,rfl,hz,q⟩:=h;let⟨u,rfl,t,rfl⟩:=vals1 r;let hn:=z9;show len_str t6 ⟨.int z.length,H,I.tok _,⟨_,rb⟩,q⟩
def iW:iV X (.type "tuple") (λxs H Q=>∃p ys,xs=[.ref p]/\((bI X.K H p ys/\∀l,H l=none->Q (.ref l) (upd H l (.tup ys)))\/(aU X.K H p ys/\Q (.ref p) H))):=by
 intro ak s σ H xs us Q I r h;let⟨p,ys,rfl,h⟩:=h;let⟨u,rfl,J⟩:=vals1 r;cases J;rcases h with⟨j,q⟩|⟨j,q⟩
 .let⟨its,D,pl,hz⟩:=I.list j;let O:=D.length;calc call_tuple_list pl.isList (λh' kp=>?_) (by simp only[bE] <;> lia);let F:aP X ak σ H {s with heap:=h' }:=I.kept (t':=s.toks) kp;let G:aP X ak σ (upd H h'.objs.size (.tup ys)) {s with heap:=h'.push {cls:=.type "tuple",data:=.seq its.toArray} }:=
   F.laid (t':=s.toks) (λb o e=>ag _ e) (ai _) (show f9 X.prog X.w _ _ _ (.tup ys) from ⟨hz,its,D,IsTup.new _ _⟩)
  show⟨.ref h'.objs.size,_,G,rb,q _ (F.hok.fresh (ai _))⟩
 .let⟨its,D,pl,hz⟩:=I.tuple j;show call_tuple_same pl ⟨.ref p,H,I,rb,q⟩
def tyV (K:W.Frag)(T:String)(x:V)(H:Hp):Prop:=match x with
 | .str _=>T="str"
 | .int _=>T="int"
 | .ref p=>(T="list"/\∃xs,bI K H p xs)\/(T="tuple"/\∃o,K.lookup p=some o/\o.cls=.type "tuple"/\o.dict=none)\/
   (T="dict"/\((∃kvs,H p=some (.dK kvs))\/∃kvs,H p=some (.dT kvs)))\/(T="set"/\∃S n,H p=some (.set S n))
 | _=>False
def aaM {ak:AE}{σ:St}{H:Hp}{s:Shared}{T:String}{x:V}{v:Value}(I:aP X ak σ H s)(r:cH x v)(ty:tyV X.K T x H):s.TypeIs v T/\∀a,v=.ref a->∃ob,s.heap.get? a=some ob/\ob.dict=none:=by
 cases x with
 | str z=>let⟨t,rfl⟩:=r;cases(show T="str" from ty);show⟨typeIs_str s z t,λ_ e=>nomatch e⟩
 | int i=>let⟨t,rfl⟩:=r;cases(show T="int" from ty);show⟨typeIs_int s i t,λ_ e=>nomatch e⟩
 | ref p=>
  cases r;rcases ty with⟨rfl,xs,D⟩|⟨rfl,o,j,F,hd⟩|⟨rfl,j⟩|⟨rfl,S,n,j⟩
  .let⟨its,_,pl,_⟩:=I.list D;calc⟨pl.isList.typeIs,λa e=>?_⟩;cases e;let⟨o,n,e,c,hd,_⟩:=pl;show⟨o,e,hd⟩
  .calc⟨⟨o,I.jC p o j,F⟩,λa e=>?_⟩;cases e;show⟨o,I.jC _ o j,hd⟩
  .let z:∃o,s.heap.get? p=some o/\o.ExactDict:=by
    rcases j with⟨kvs,j⟩|⟨kvs,j⟩
    .let⟨_,_,_,_,o,_,_,e,ex,_⟩:=I.hok p _ j;show⟨o,e,ex⟩
    .let⟨_,_,_,_,o,_,_,e,ex,_⟩:=I.hok p _ j;show⟨o,e,ex⟩
   let⟨o,e,ex⟩:=z;calc⟨⟨o,e,ex.1⟩,λa e2=>?_⟩;cases e2;show⟨o,e,ex.2.1⟩
  .let⟨o,_,_,_,e,ex,_⟩:=I.hok p _ j;calc⟨⟨o,e,ex.1⟩,λa e2=>?_⟩;cases e2;show⟨o,e,ex.2.1⟩
 | _=>show False.elim ty
def ahn (K:W.Frag)(T:String)(r:V->List V->Hp->VK->Prop)(to:TE):TE:=λσ H Q=>to σ H λx H1=>tyV K T x H1/\r x [] H1 Q
def tBM (K:W.Frag)(T:String)(r:V->List V->Hp->VK->Prop)(to:TE)(t:TA):TE:=λσ H Q=>to σ H λx H1=>tyV K T x H1/\t σ H1 λxs j=>r x xs j Q
variable {o e:Expr}{es:List Expr}{to:TE}{t:TA}{name:Str}{apos cpos:Pos}{T id:String}{r:V->List V->Hp->VK->Prop}
def aho (Y:PlainAttrs T)(slot:Slot T name id)(F:typeOf (.builtin id)=pure (.type "method_descriptor"))(hm:Ab X id r)(J:PE X o to)(D:attributeBase o name X.env (eval o X.env)=eval o X.env:=by rfl)(j:(apos.endLine==cpos.line)=true:=by rfl):PE X (.Call (.Attribute o name apos) [] [] cpos) (ahn X.K T r to):=by intro ak s σ H Q I h;calc wpAny_Call_method0_late D j (cD (J ak s σ H _ I h) λv s1 O=>?_);let⟨x,H1,G,r1,ty,q1⟩:=O;let⟨h1,h2⟩:=aaM G r1 ty;show⟨T,id,Y,slot,F,h1,h2,i9 rb (PySem.evalArgs_none (hm ak s1 σ H1 x [] v [] Q G r1 .nil q1))⟩
def ai7 (pa:PlainAttrs T)(slot:Slot T name id)(J:typeOf (.builtin id)=pure (.type "method_descriptor"))(hm:Ab X id r)(ho:PE X o to)(ha:PA X (e::es) t)(F:attributeBase o name X.env (eval o X.env)=eval o X.env:=by rfl)(G:((backTo cpos (starEach (e::es) X.env)).all (λx=>!x.1)&&(backToKw cpos (keywordEach [] X.env)).all (λx=>x.1.isSome)
   && decide ((e::es).length+([]:List Keyword).length+(if ([]:List Keyword).isEmpty then 0 else 1)<30))=true:=by rfl)
  (D:(apos.endLine==cpos.line)=true:=by rfl) (hs:starEach (e::es) X.env=(false,eval e X.env)::starEach es X.env:=by rfl) (j:(backTo cpos (starEach es X.env)).any (·.1)=false:=by rfl) :
  PE X (.Call (.Attribute o name apos) (e::es) [] cpos) (tBM X.K T r to t):=by
 intro ak s σ H Q I h;calc wpAny_Call_method_late F G D rb (cD (ho ak s σ H _ I h) λv s1 zz=>?_);let⟨x,H1,O,r1,ty,q1⟩:=zz;let⟨h1,h2⟩:=aaM O r1 ty;calc⟨T,id,pa,slot,J,h1,h2,?_⟩;let Y:=ha cpos ak s1 σ H1 _ O q1;rw[hs]at Y ⊢;calc i9 (by show (false||(backTo cpos (starEach es X.env)).any (·.1))=false;rw[j] <;> rfl) (kz ?_);show cD Y λus s2 ⟨vs,H2,Z,r2,q2⟩=>hm ak s2 σ H2 x vs v us Q Z r1 r2 q2
end
def MtM (X:Cx)(id:String)(r:V->List V->Hp->VK->Prop):Prop:=∀(ak:AE) (s:Shared) (σ:St) (H:Hp) (x:V) (xs:List V) (v:Value) (us:List Value) (Q:VK),aP X ak σ H s->cH x v->Vals xs us->r x xs H Q->
  wpAny (model X.prog X.w) X.A (call (.builtin id) (v::us)) (EP X ak σ Q) X.xe s
theorem Vals.one:∀{x:V} {us:List Value},Vals [x] us->∃u,us=[u]/\cH x u
 | _,_,.cons r .nil=>⟨_,rb,r⟩
theorem Vals.zero:∀{us:List Value},Vals [] us->us=[]
 | _,.nil=>rfl
theorem Vals.eraseIdx:∀{xs:List V} {us:List Value} (i:Nat),Vals xs us->Vals (xs.eraseIdx i) (us.eraseIdx i)
 | _,_,_,.nil=>.nil
 | _,_,0,.cons _ t=>t
 | _,_,i+1,.cons r t=>.cons r (Vals.eraseIdx i t)
theorem Vals.rep (h:Vals xs us):∀k:Nat,Vals (List.replicate k xs).flatten (List.replicate k us).flatten
 | 0=>.nil
 | k+1=>by rw[fi,fi,ed,ed];show Vals.append h (Vals.rep h k)
theorem foldl_rep (its:List Value):∀(k:Nat) (j:List Value),
  List.foldl (λx1 D=>x1++D) j.toArray (List.replicate k its.toArray)=(j++(List.replicate k its).flatten).toArray
 | 0,j=>by simp
 | k+1,j=>by
  let e:j.toArray++its.toArray=(j++its).toArray:=t7;let e2:(j++its)++(List.replicate k its).flatten=j++(List.replicate (k+1) its).flatten:=by rw[fi,ed,bd]
  rw[<-e2,<-foldl_rep its k (j++its),<-e,fi,mS]
section
variable {X:Cx}{ak:AE}{σ:St}{H:Hp}{s:Shared}{l:Addr}{xs ys:List V}
def aP.acI {its its':List Value}(I:aP X ak σ H s)(F:H l=some (.lst xs))(e:s.heap.get? l=some {cls:=.type "list",data:=.seq its.toArray n})(G:f its.toArray=its'.toArray)(D:Vals ys its')(hz:ys.length<=sizeLine):aP X ak σ (upd H l (.lst ys)) {s with heap:=s.heap.update l (Obj.mapSeq f),toks:=t' }:=by let q:=PySem.IsL.update e f;rw[G]at q;calc I.write (x:=l) (e:=l) (by rw[F];show trivial) (.inl rb) (λJ u hb j=>(gz s.heap (Obj.mapSeq f) (iE hb)).trans j) ⟨_,q⟩ ?_;show⟨hz,its',_,D,q⟩
def aP.ahp (I:aP X ak σ H s)(j:Vals ys its)(hz:ys.length<=sizeLine):aP X ak σ (upd H s.heap.objs.size (.lst ys)) {s with heap:=s.heap.push {cls:=.type "list",data:=.seq its.toArray},toks:=t' }:=I.laid (λ_ _ q=>ag _ q) (ai _) ⟨hz,its,0,j,bo _ rb⟩
def aP.fresh (I:aP X ak σ H s):H s.heap.objs.size=none:=I.hok.fresh (ai _)
def aP.Rn (I:aP X ak σ H s)(j:H l=some (.lst xs)):xs.length<=sizeLine/\∃(its:List Value) (n:Nat),Vals xs its/\xs.length=its.length/\s.heap.get? l=some {cls:=.type "list",data:=.seq its.toArray n}:=by let⟨z,its,n,r,e⟩:=I.hok l _ j;show⟨z,its,n,r,r.length,e⟩
def Ro (h:n<=sizeLine):Builtin.List.listTooLong n=false:=by unfold Builtin.List.listTooLong;show ah t6
end
section
variable {X:Cx}
def ae5:V->List V->Hp->VK->Prop:=λx vs H Q=>∃l xs y,x=.ref l/\vs=[y]/\H l=some (.lst xs)/\xs.length<sizeLine/\Q .non (upd H l (.lst (xs++[y])))
def jT:MtM X "list.append" ae5:=by intro ak s σ H x vs v us Q I D J h;let⟨l,xs,y,rfl,rfl,j,hz,q⟩:=h;cases D;let⟨u,rfl,G⟩:=J.one;let⟨z,its,n,r,hl,e⟩:=I.Rn j;calc call_meets F.slot_list_append ⟨_,e,rb⟩ F.entry_list_append (F.args_list_append_2 _ _) (PySem.list_append l its.toArray n u (by rw[bE];simp_all)) ⟨e,?_⟩;calc⟨.non,_,I.acI (its':=its++[u]) j e t7 (r.append (.cons G .nil)) ?_,rb,q⟩;rw[av,List.length_singleton];show hz
def ae6:V->List V->Hp->VK->Prop:=λx vs H Q=>∃l b xs zs,x=.ref l/\vs=[.ref b]/\H l=some (.lst xs)/\H b=some (.lst zs)/\xs.length+zs.length<=sizeLine/\Q .non (upd H l (.lst (xs++zs)))
def aaN:MtM X "list.extend" ae6:=by
 intro ak s σ H x vs v us Q I O rv h;let⟨l,b,xs,zs,rfl,rfl,D,hB,hz,q⟩:=h;cases O;let⟨u,rfl,Z⟩:=rv.one;cases Z;let⟨z,its,n,r,hl,e⟩:=I.Rn D;let⟨z2,j,Y,G,hl2,e2⟩:=I.Rn hB;let hsz:its.toArray.size+j.toArray.size<=sizeLine:=by rw[bE,bE];simp_all
 let J:¬(!its.toArray.isEmpty&&Builtin.List.listTooLong (its.toArray.size+j.toArray.size))=true:=by rw[Ro hsz,Bool.and_false];show cp
 refine call_meets F.slot_list_extend ⟨_,e,rb⟩ F.entry_list_extend (F.args_list_extend_2 _ _)
  (AutoSeq1.list_extend_list_list_0 l its.toArray n b j.toArray Y J (by rw[bE];simp_all) (ly hsz)) ⟨e,e2,?_⟩
 calc⟨.non,_,I.acI (its':=its++j) D e t7 (r.append G) ?_,rb,q⟩;rw[av];show hz
def ajQ:R2:=λx y H Q=>∃l k xs,x=.ref l/\y=.int k/\H l=some (.lst xs)/\-(2^63)<=k/\k<2^63/\xs.length*k.toNat<=sizeLine/\
 ∀p,H p=none->Q (.ref p) (upd H p (.lst (List.replicate k.toNat xs).flatten))
def len_rep {α:Type}(xs:List α)(k):(List.replicate k xs).flatten.length=k*xs.length:=by
 induction k with| zero=>simp| succ k ih=>rw[fi,ed,av,ih,qr,Nat.add_comm]
def Rp:gJ X (binaryOp .Mult) ajQ:=by
 intro ak s σ H x y v u Q I Y Z h;let⟨l,k,xs,rfl,rfl,hH,h1,h2,hz,q⟩:=h;cases Y;let⟨t,rfl⟩:=Z;let⟨z,its,n,r,hl,e⟩:=I.Rn hH;let cU:its.toArray.size*k.toNat<=sizeLine:=by rw[bE,<-hl];show hz
 let D:¬its.toArray.size*k.toNat > (2^63-1)/8:=by
  have:(sizeLine:Nat)<=(2^63-1)/8:=by decide
  lia
 let j:¬(!Builtin.List.listFitsIndex k)=true:=by rw[fitsIndex_both h1 h2];show cp
 let O:¬Builtin.List.listTooLong (its.toArray.size*k.toNat)=true:=by rw[Ro cU];show cp
 let G:List.foldl (λx1 J=>x1++J) #[] (List.replicate (if its.toArray.isEmpty=true then 0 else k.toNat) its.toArray)=(List.replicate k.toNat its).flatten.toArray:=by
  let f0:∀m:Nat,List.foldl (λx1 J=>x1++J) #[] (List.replicate m its.toArray)=(List.replicate m its).flatten.toArray:=λm=>by have:=foldl_rep its m [];rw[List.nil_append]at this;show this
  rw[f0];cases its with| nil=>simp| cons a r'=>rw[if_neg t7]
 refine mT (T:="list") (U:="int") t9 ⟨_,e,rb⟩ (λs'=>typeIs_int s' k t) noFill_list_mul F.fills_int_mul F.slot_int_rmul repeat_list F.slot_int_index.lookup
  (call_meets F.slot_int_rmul (typeIs_int s k t) F.entry_int_rmul (F.args_int_rmul_2 _ _) (int___rmul___int_list k t l its.toArray n)
   ⟨e,rb,⟨_,e,rb⟩,call_meets F.slot_list_mul ⟨_,e,rb⟩ F.entry_list_mul (F.args_list_mul_2 _ _) (AutoListH.list___mul___list_int_3 l its.toArray n k t j D O) ⟨e,?_⟩⟩)
 rw[G];show⟨.ref _,_,I.ahp (t':=s.toks) (r.rep k.toNat) (by rw[len_rep,Nat.mul_comm];show hz),rb,q _ I.fresh⟩
end
section
variable {κ:Type}[DecidableEq κ]
def fY (kvs:List (κ×V))(k:κ):Option V:=(kvs.find? λj=>decide (j.1=k)).map (·.2)
noncomputable def putK (kvs:List (κ×V))(k:κ)(v:V):List (κ×V):=if (kvs.any λj=>decide (j.1=k))=true then kvs.map (λj=>if j.1=k then (j.1,v) else j) else kvs++[(k,v)]
def j4 {p:κ×V}(e:p.1=k):fY (p::r) k=some p.2:=by simp[fY,ir,e]
def j5 {p:κ×V}(e:¬p.1=k):fY (p::r) k=fY r k:=by simp[fY,ir,e]
theorem ug (k:κ):∀kvs:List (κ×V),(kvs.any λj=>decide (j.1=k))=(fY kvs k).isSome
 | []=>rfl
 | p::r=>by
  rw[mx];by_cases e:p.1=k;.simp only[j4 e,aw e,Bool.true_or,Option.isSome_some]
  .rw[j5 e,ah e,Bool.false_or];show ug k r
theorem Rq (k j:κ)(y):∀kvs:List (κ×V),fY (kvs.map λD=>if D.1=k then (D.1,y) else D) j=(fY kvs j).map λx=>if j=k then y else x
 | []=>rfl
 | p::r=>by
  let F:=Rq k j y r;rw[ce];by_cases h:p.1=k
  .rw[if_pos h];by_cases e:p.1=j;.rw[j4 (p:=(p.1,y)) e,j4 e,nc,if_pos (e.symm.trans h)]
   .rw[j5 (p:=(p.1,y)) e,j5 e,F]
  .rw[if_neg h];by_cases e:p.1=j;.rw[j4 (p:=p) e,j4 e,nc,if_neg (λz=>h (e.trans z))]
   .rw[j5 (p:=p) e,j5 e,F]
theorem Oj (k j:κ)(y):∀kvs:List (κ×V),fY kvs k=none->fY (kvs++[(k,y)]) j=if j=k then some y else fY kvs j
 | [],_=>by
  by_cases e:k=j;.rw[if_pos e.symm];show j4 (p:=(k,y)) e
  .rw[if_neg (λz=>e z.symm)];show j5 (p:=(k,y)) e
 | p::r,hn=>by
  rw[pk];let D:¬p.1=k:=λz=>by rw[j4 z]at hn;cases hn
  rw[j5 D]at hn;let F:=Oj k j y r hn;by_cases e:p.1=j;.rw[j4 e,j4 e,if_neg (λz=>D (e.trans z))]
  .rw[j5 e,j5 e,F]
def acJ (kvs:List (κ×V))(k j:κ)(y):fY (putK kvs k y) j=if j=k then some y else fY kvs j:=by
 unfold putK;by_cases a:(kvs.any λD=>decide (D.1=k))=true
 .rw[if_pos a,Rq];rw[ug]at a;by_cases e:j=k
  .let⟨x,hx⟩:=Option.isSome_iff_exists.mp a;rw[if_pos e,e,hx,nc,if_pos rfl]
  .rw[if_neg e];cases fY kvs j with| none=>rfl| some x=>rw[nc,if_neg e]
 .rw[if_neg a];calc Oj k j y kvs ?_;rw[ug]at a;cases q:fY kvs k with| none=>rfl| some x=>rw[q]at a;show(a rb).elim
def zF (kvs:List (κ×V))(k:κ)(v):(putK kvs k v).length<=kvs.length+1:=by
 unfold putK;split;.rw[aa];lia
 .rw[av,dA,nl];lia
def acK {kvs:List (κ×V)}{k:κ}(v:V)(h:fY kvs k=none):putK kvs k v=kvs++[(k,v)]:=by unfold putK;rw[ug,h];show if_neg t9
def ni.DW (r:ni o u):o.isSome=u.isSome:=by
 cases o with
 | none=>cases u with| none=>rfl| some _=>show(show False from r).elim
 | some _=>cases u with| none=>show(show False from r).elim| some _=>rfl
def ni.getD (r:ni o u)(rd:cH d d'):cH (o.getD d) (u.getD d'):=by
 cases o with
 | none=>cases u with| none=>show rd| some _=>show(show False from r).elim
 | some _=>cases u with| none=>show(show False from r).elim| some _=>show r
def KV.val (r:KV kvs vs)(k:κ):ni (fY kvs k) (valueAt vs k):=by
 unfold KV at r
 induction r with
 | nil=>show True.intro
 | @cons p q ps qs h t ih=>
  let⟨h1,h2⟩:=h;by_cases e:p.1=k
  .let j:q.1=k:=h1.symm.trans e;let b:valueAt (q::qs) k=some q.2:=by simp[valueAt,ir,j]
   rw[j4 e,b];show h2
  .let j:¬q.1=k:=λz=>e (h1.trans z)
   let b:valueAt (q::qs) k=valueAt qs k:=by simp[valueAt,ir,j]
   rw[j5 e,b];show ih
def KV.any (r:KV kvs vs)(k:κ):(kvs.any λj=>decide (j.1=k))=vs.any λj=>decide (j.1=k):=by
 unfold KV at r
 induction r with| nil=>rfl| cons h t ih=>rw[mx,mx,ih,h.1]
def KV.repl (r:KV kvs vs)(k:κ)(D:cH y u):KV (kvs.map λj=>if j.1=k then (j.1,y) else j) (vs.map λj=>if j.1=k then (j.1,u) else j):=by
 unfold KV at r ⊢
 induction r with
 | nil=>show .nil
 | @cons p q ps qs h t ih=>
  rw[ce,ce];calc .cons ?_ ih;let⟨h1,h2⟩:=h;by_cases e:p.1=k;.rw[if_pos e,if_pos (h1.symm.trans e)];show⟨h1,D⟩
  .rw[if_neg e,if_neg (λz=>e (h1.trans z))];show⟨h1,h2⟩
def KV.put (r:KV kvs vs)(k:κ)(j:cH y u):KV (putK kvs k y) (stored vs k u):=by
 unfold putK stored;rw[r.any k];by_cases e:(vs.any λD=>decide (D.1=k))=true;.rw[if_pos e,if_pos e];show r.repl k j
 .rw[if_neg e,if_neg e];show Paired.snoc r ⟨rb,j⟩
def KV.keys {kvs:List (κ×V)}{vs:List (κ×Value)}(r:KV kvs vs):kvs.map (·.1)=vs.map (·.1):=by
 unfold KV at r
 induction r with| nil=>rfl| cons h t ih=>rw[ce,ce,ih,h.1]
def KV.length {kvs:List (κ×V)}{vs:List (κ×Value)}(r:KV kvs vs):kvs.length=vs.length:=Paired.length r
end
def JR (r:cH (kV k) u):(iw P w).is k u=true:=by
 cases k with
 | inl i=>let⟨t,e⟩:=(show ∃t,u=Value.int i t from r);subst e;show Vx P w i t
 | inr x=>let⟨t,e⟩:=(show ∃t,u=Value.str x t from r);subst e;show mG P w x t
theorem Ol:∀{j:List Key} {us:List Value},Vals (j.map kV) us->ItemsAre (iw P w) j us
 | [],_,r=>by rw[qA]at r;cases r;show .nil
 | k::j,_,r=>by
  rw[ce]at r;cases r with| cons h t=>show .cons (JR h) (Ol t)
abbrev KT (H:Hp):List (List Key×V)->List (List Key×Addr×Value)->Prop:=Paired λp q=>p.1=q.1/\H q.2.1=some (.tup (p.1.map kV))/\cH p.2 q.2.2
def KT.val (r:KT H kvs xs)(k:List Key):ni (fY kvs k) ((atKey xs k).map (·.2)):=by
 induction r with
 | nil=>show True.intro
 | @cons p q ps qs h t ih=>
  let⟨h1,_,h2⟩:=h;by_cases e:p.1=k
  .let j:q.1=k:=h1.symm.trans e;let b:atKey (q::qs) k=some q.2:=by simp[atKey,ir,j]
   rw[j4 e,b];show h2
  .let j:¬q.1=k:=λz=>e (h1.trans z)
   let b:atKey (q::qs) k=atKey qs k:=by simp[atKey,ir,j]
   rw[j5 e,b];show ih
def KT.repl (r:KT H kvs xs)(k:List Key)(D:cH y u):KT H (kvs.map λj=>if j.1=k then (j.1,y) else j) (xs.map (putAt k u)):=by
 induction r with
 | nil=>show .nil
 | @cons p q ps qs h t ih=>
  rw[ce,ce];calc .cons ?_ ih;let⟨h1,h2,h3⟩:=h;unfold putAt;by_cases e:p.1=k;.rw[if_pos e,if_pos (h1.symm.trans e)];show⟨h1,h2,D⟩
  .rw[if_neg e,if_neg (λz=>e (h1.trans z))];show⟨h1,h2,h3⟩
def KT.put (r:KT H kvs xs)(k:List Key)(hb:H b=some (.tup (k.map kV)))(j:cH y u):KT H (putK kvs k y) (storedH xs k b u):=by
 let e:(kvs.any λD=>decide (D.1=k))=(atKey xs k).isSome:=by rw[ug,(r.val k).DW,Option.isSome_map]
 unfold putK storedH;rw[e];by_cases q:(atKey xs k).isSome=true;.rw[if_pos q,if_pos q];show r.repl k j
 .rw[if_neg q,if_neg q];show Paired.snoc r ⟨rb,hb,j⟩
def KT.keeps (r:KT H kvs xs)(ht:∀b ys,H b=some (.tup ys)->H' b=some (.tup ys)):KT H' kvs xs:=Paired.acq r λ_ _ z=>⟨z.1,ht _ _ z.2.1,z.2.2⟩
section
variable {P:Program}{w:World}{H:Hp}{h:Heap}{a:Addr}
def aem (ok:k_ P w H h)(e:Rd H a u):f9 P w H h a u:=e.ok ok
def JT (ok:k_ P w H h)(e:Rd H a (.dK kvs)):kvs.length<=sizeLine/\(a==sysModules)=false/\∃vs,KV kvs vs/\h.DictOf (iw P w) a vs:=show f9 P w H h a (.dK kvs) from aem ok e
def Y6 (ok:k_ P w H h)(e:H a=some (.dK kvs)):kvs.length<=sizeLine/\(a==sysModules)=false/\∃vs,KV kvs vs/\h.DictOf (iw P w) a vs:=JT ok (.inl e)
def JV {j:List Key}(ok:k_ P w H h)(e:H a=some (.tup (j.map kV))):(tupleKind (iw P w)).is h j a:=by
 let⟨_,its,r,o,h1,h2,n,h3⟩:=(show f9 P w H h a (.tup (j.map kV)) from ok a _ e)
 show⟨o,its.toArray,n,h1,h2,h3,by simpa using Ol r⟩
def Qv (ok:k_ P w H h)(e:Rd H a (.dT kvs)):kvs.length<=sizeLine/\(a==sysModules)=false/\
  ∃xs,KT H kvs xs/\h.DictOfH (tupleKind (iw P w)) a xs:=by
 let⟨z,y,xs,r,o,es,ep,h1,h2,h3,h4,h5⟩:=(show f9 P w H h a (.dT kvs) from aem ok e)
 calc⟨z,y,xs,r,o,es,ep,h1,h2,h3,h4,λx hx=>?_,h5⟩;let all:∀{l:List (List Key×V)} {m:List (List Key×Addr×Value)},KT H l m->∀x∈m,(tupleKind (iw P w)).is h x.1 x.2.1:=by
  intro l m q
  induction q with
  | nil=>intro x hx;show nomatch hx
  | @cons p q ps qs hq t ih=>
   intro x hx;rcases b9.mp hx with e|hx
   .subst e;show JV ok (by rw[<-hq.1];show hq.2.1)
   .show ih x hx
 show all r x hx
def ai8 (ok:k_ P w H h)(e:H a=some (.dT kvs)):kvs.length<=sizeLine/\(a==sysModules)=false/\
  ∃xs,KT H kvs xs/\h.DictOfH (tupleKind (iw P w)) a xs:=Qv ok (.inl e)
end
def zG (H:Hp)(a:Addr)(y:V)(r:Option V):Prop:=(∃kvs k,Rd H a (.dK kvs)/\y=kV k/\r=fY kvs k)\/∃kvs k b,Rd H a (.dT kvs)/\y=.ref b/\H b=some (.tup (k.map kV))/\r=fY kvs k
def Il (H:Hp)(a:Addr)(y v:V)(H':Hp):Prop:=(∃kvs k,H a=some (.dK kvs)/\y=kV k/\kvs.length<sizeLine/\H'=upd H a (.dK (putK kvs k v)))\/
 ∃kvs k b,H a=some (.dT kvs)/\y=.ref b/\H b=some (.tup (k.map kV))/\kvs.length<sizeLine/\H'=upd H a (.dT (putK kvs k v))
theorem zG.k {kvs:List (Key×V)}{k:Key}(e:H a=some (.dK kvs)):zG H a (kV k) (fY kvs k):=.inl ⟨kvs,k,.inl e,rb,rb⟩
theorem Il.k {kvs:List (Key×V)}{k:Key}{v:V}(e:H a=some (.dK kvs))(hl:kvs.length<sizeLine):Il H a (kV k) v (upd H a (.dK (putK kvs k v))):=.inl ⟨kvs,k,e,rb,hl,rb⟩
section
variable {X:Cx}{ak:AE}{σ:St}{H:Hp}{s:Shared}{a:Addr}{y v:V}{u r:Value}{o:Option V}{A:Around}{E:AD}
variable {kvs:List (Key×V)}
def aP.big (I:aP X ak σ H s):sysModules<s.heap.objs.size:=by let h:mainGlobals<s.heap.objs.size:=(I.mod.glob.keeps I.bk).lt;show tq t9 h
def ajR (J:A.units+1<cLine)(I:aP X ak σ H s)(g:zG H a y o)(F:cH y u)(h:∀s',aP X ak σ H s'->Q (.bool o.isSome) s'):wpAny (model X.prog X.w) A (compareOp .In u (.ref a)) Q E s:=by
 rcases g with⟨kvs,k,e,D,l⟩|⟨kvs,k,b,e,D,G,l⟩
 .subst D;let⟨z,hd,vs,j,dd⟩:=JT I.hok e;calc wpAny_in_of (JR F) hd dd.mapOf ?_;rw[<-(j.val k).DW,<-l];show h _ (I.tok _)
 .subst D;cases(show u=Value.ref b from F);let⟨z,hd,xs,j,dd⟩:=Qv I.hok e;calc wpAny_in_heap (tupleKind_room_in1 J) (JV I.hok G) hd dd ?_;let q:=(j.val k).DW;rw[Option.isSome_map]at q;rw[<-q,<-l];show h _ (I.tok _)
def WW (I:aP X ak σ H s)(j:Mut (H a))(hs:Heap.SameBut a s.heap h')(D:∃q,h'.get? a=some q)(new:f9 X.prog X.w (upd H a ob) h' a ob):aP X ak σ (upd H a ob) {s with heap:=h',toks:=t' }:=I.write (x:=a) (e:=a) j (.inl rb) (λb q hb z=>(hs.2 b hb).trans z) D new
def ahq {h':Heap}{kvs:List (Key×V)}(z:kvs.length<=sizeLine)(hd:(a==sysModules)=false)(j:KV kvs vs)(dd:h'.DictOf (iw P w) a vs):f9 P w H' h' a (.dK kvs):=⟨z,hd,vs,j,dd⟩
def aaO (hu:A.units+1<cLine)(I:aP X ak σ H s)(g:Il H a y v H')(Z:cH y u)(Y:cH v r)(h:∀s',aP X ak σ H' s'->Q () s'):wpAny (model X.prog X.w) A (setItem (.ref a) u r) Q E s:=by
 rcases g with⟨kvs,k,e,J,l,G⟩|⟨kvs,k,b,e,J,O,l,G⟩
 .subst J G;let⟨z,hd,vs,j,dd⟩:=Y6 I.hok e;let hz:vs.length<=sizeLine:=by rw[<-j.length];show z
  let hl:(putK kvs k v).length<=sizeLine:=by have:=zF kvs k v;lia
  calc wpAny_setItem_pairs (hsz:=hz) (JR Z) dd λh' D hs=>h _ ?_;let he:∃q,h'.get? a=some q:=let ⟨q,_,_,F,_⟩:=D;⟨q,F⟩
  show WW I (by rw[e];show True.intro) hs he (ahq hl hd (j.put k Y) D)
 .subst J G;cases(show u=Value.ref b from Z);let⟨z,hd,xs,j,dd⟩:=ai8 I.hok e;let hz:xs.length<=sizeLine:=by rw[<-Paired.length j];show z
  let hl:(putK kvs k v).length<=sizeLine:=by have:=zF kvs k v;lia
  calc wpAny_setItem_heap (hsz:=hz) (tupleKind_room_in1 hu) (JV I.hok O) dd λh' D hs=>h _ ?_;let⟨q,es,ep,F,h2,h3,h4,_,h5⟩:=D;calc WW I (by rw[e];show True.intro) hs ⟨q,F⟩ ⟨hl,hd,_,(j.put k O Y).keeps λc ys ec=>?_,q,es,ep,F,h2,h3,h4,h5⟩;rw[aY (Bh ec e (λz=>nomatch z))];show ec
def ai9 (I:aP X ak σ H s)(e:Rd H a (.dK kvs))(h:∀t s',aP X ak σ H s'->Q (.int kvs.length t) s'):wpAny (model X.prog X.w) A (call (.builtin "len") [.ref a]) Q E s:=by let⟨z,hd,vs,j,dd⟩:=JT I.hok e;calc call_len_dict hd dd (by rw[<-j.length];rw[sizeLine_eq]at z;lia) ?_;rw[<-j.length];show h _ _ (I.tok _)
end
def ahr (ty td:TE):TE:=λσ H Q=>ty σ H λy H1=>td σ H1 λx j=>∃a o,x=.ref a/\zG j a y o/\Q (.bl o.isSome) j
def aen (td ty tv:TE):TS:=λD σ H=>tv σ H λv H1=>td σ H1 λx G=>ty σ G λy F=>∃a j,x=.ref a/\Il F a y v j/\D.nx σ j
section
variable {X:Cx}{o i value:Expr}{pos pos':Pos}{td ty tv:TE}
def ahs (Y:X.A.units+1<cLine)(hi:PE X i ty)(G:PE X o td):PC X .In i o (ahr ty td):=by intro ak s σ H Q I h;calc cD (hi ak s σ H _ I h) λiv s1 j=>?_;let⟨y,H1,J,Z,q1⟩:=j;calc cD (G ak s1 σ H1 _ J q1) λu s2 j=>?_;let⟨x,O,D,F,a,ov,ex,g,q2⟩:=j;subst ex;obtain rfl:u=Value.ref a:=F;show ajR Y D g Z λs3 I3=>⟨.bl ov.isSome,O,I3,rb,q2⟩
def ae7 (hu:X.A.units+1<cLine)(J:PE X o td)(hi:PE X i ty)(hv:PE X value tv)(hs:swapsWith value (some (.Subscript o i pos')) pos.line X.env=pure false):PS X (.Assign [.Subscript o i pos'] value pos) (aen td ty tv):=by intro ak s σ H D I h;calc wpAny_Assign_Subscript (cD (hv ak s σ H _ I h) λr s1 j=>?_) hs;let⟨v,H1,O,rv,q1⟩:=j;calc cD (J ak s1 σ H1 _ O q1) λu s2 j=>?_;let⟨x,Y,F,G,q2⟩:=j;calc cD (hi ak s2 σ Y _ F q2) λiv s3 j=>?_;let⟨y,H3,I3,ry,a,Z,ex,g,q3⟩:=j;subst ex;obtain rfl:u=Value.ref a:=G;show aaO hu I3 g ry rv λs4 I4=>⟨σ,Z,I4,q3⟩
end
def acL (h:Heap)(hb:sysModules<h.objs.size):f9 P w H (h.push {cls:=.type "dict",data:=.dict #[]}) h.objs.size (.dK []):=⟨eD _,beq_eq_false_iff_ne.mpr (iE (cf hb)),[],.nil,Heap.DictOf.new h⟩
def aaP:TE:=λ_ H Q=>∀p,H p=none->Q (.ref p) (upd H p (.dK []))
section
variable {X:Cx}{pos:Pos}
def acM:PE X (.Dict [] [] pos) aaP:=λak s σ H Q I h=>wpAny_Dict_empty ⟨.ref s.heap.objs.size,_,I.laid (a:=s.heap.objs.size) (o:=.dK []) (t':=s.toks) (λ_ _ q=>ag _ q) (ai _) (acL s.heap I.big),rb,h _ (I.hok.fresh (ai _))⟩
end
structure M2 (X:Cx)(o:Expr)(m:Str)(apos:Pos)(e f:Expr)(cpos:Pos):Prop where
 base:attributeBase o m X.env (eval o X.env)=eval o X.env
 few:((backTo cpos (starEach [e,f] X.env)).all (λx=>!x.1)&&(backToKw cpos (keywordEach [] X.env)).all (λx=>x.1.isSome)
  && decide (([e,f]:List Expr).length+([]:List Keyword).length+(if ([]:List Keyword).isEmpty then 0 else 1)<30))=true
 line:(apos.endLine==cpos.line)=true
 trees:backTo cpos (starEach [e,f] X.env)=[(false,eval e X.env),(false,eval f X.env)]
def IsD (H:Hp)(a:Addr):Prop:=(∃kvs,Rd H a (.dK kvs))\/∃kvs,Rd H a (.dT kvs)
def aht {X:Cx}{ak:AE}{σ:St}{H:Hp}{s:Shared}{a:Addr}(I:aP X ak σ H s)(d:IsD H a):s.TypeIs (.ref a) "dict"/\(∀b,Value.ref a=.ref b->∃ob,s.heap.get? b=some ob/\ob.dict=none)/\(a==sysModules)=false:=by
 rcases d with⟨kvs,e⟩|⟨kvs,e⟩
 .let⟨_,hd,vs,_,dd⟩:=JT I.hok e;calc⟨dd.typeIs,λb q=>?_,hd⟩;cases q;let⟨ob,_,_,h1,h2,_⟩:=dd;show⟨ob,h1,h2.2.1⟩
 .let⟨_,hd,xs,_,dd⟩:=Qv I.hok e;calc⟨dd.typeIs,λb q=>?_,hd⟩;cases q;let⟨ob,_,_,h1,h2,_⟩:=dd;show⟨ob,h1,h2.2.1⟩
section
variable {X:Cx}{ak:AE}{σ:St}{H:Hp}{s:Shared}{a:Addr}{y d:V}{u r:Value}{o:Option V}{A:Around}{E:AD}
def ahu (O:A.units+1<cLine)(I:aP X ak σ H s)(g:zG H a y o)(G:cH y u)(rd:cH d r)(h:∀F s',aP X ak σ H s'->cH (o.getD d) F->Q F s'):wpAny (model X.prog X.w) A (call (.builtin "dict.get") [.ref a,u,r]) Q E s:=by
 rcases g with⟨kvs,k,e,D,l⟩|⟨kvs,k,b,e,D,J,l⟩
 .subst D;let⟨z,hd,vs,j,dd⟩:=JT I.hok e;calc call_meetsIn ka dd.typeIs oB (om _ _ _) (meets_dict_get_default (iw X.prog X.w) a (JR G) hd r) ⟨_,dd.mapOf,h _ _ (I.tok _) ?_⟩;rw[l];show(j.val k).getD rd
 .subst D;cases(show u=Value.ref b from G);let⟨z,hd,xs,j,dd⟩:=Qv I.hok e;calc call_meetsIn ka dd.typeIs oB (om _ _ _) (meetsH_dict_get_default (tupleKind (iw X.prog X.w)) a b hd r) ⟨tupleKind_room_in1 O,k,xs,JV I.hok J,dd,h _ _ (I.tok _) ?_⟩;rw[l];show(j.val k).getD rd
end
def aaQ (td ty tx:TE):TE:=λσ H Q=>td σ H λx H1=>∃a,x=.ref a/\IsD H1 a/\ty σ H1 λy D=>tx σ D λz j=>∃o,zG j a y o/\Q (o.getD z) j
section
variable {X:Cx}{o e f:Expr}{apos cpos:Pos}{td ty tx:TE}
def acN (hu:X.A.units+1<cLine)(Y:PE X o td)(J:PE X e ty)(hf:PE X f tx)(m:M2 X o "get" apos e f cpos):PE X (.Call (.Attribute o "get" apos) [e,f] [] cpos) (aaQ td ty tx):=by
 intro ak s σ H Q I h;calc wpAny_Call_method m.base m.few m.line PySem.F.plainAttrs_dict ka PySem.F.type_dict_get (cD (Y ak s σ H _ I h) λu s1 ⟨x,H1,D,O,a,ex,d,q1⟩=>?_);subst ex;obtain rfl:u=Value.ref a:=O;let⟨t1,G,_⟩:=aht D d;calc⟨t1,G,?_⟩;rw[m.trees];refine i9 rb (kz (gm (cD (J ak s1 σ H1 _ D q1) λiv s2 ⟨y,Z,F,ry,q2⟩=>gm (cD (hf ak s2 σ Z _ F q2) λfv s3 ⟨z,H3,I3,rz,ov,g,q3⟩=>ko ?_))))
 show ahu hu I3 g ry rz λw' s4 I4 j=>⟨_,H3,I4,j,q3⟩
end
end L2
namespace Att
open PySem PySem.W PySem.Calls PyProof.Rows
def JW:∀(ns:List Int) (vs:List Value),WellAll P h vs (ns.map WData.int)->IntsAre vs ns:=by
 intro ns
 induction ns with
 | nil=>intro vs w;rw[qA]at w;cases w;show .nil
 | cons n ns ih=>
  intro vs w;rw[ce]at w;cases w with| cons a b=>cases a;show .cons _ _ (ih _ b)
def aaR {l:OpenLaw}(hn:l.most=some n)(j:l.row.toRowW.claim.pre args=true)(F:WellAll P h vals args):∃a vs ns,vals=[Value.ref a]/\args=[WData.list (ns.map WData.int)]/\h.get? a=some {cls:=.type "list",data:=.seq vs.toArray}/\IntsAre vs ns/\ns.length<=n:=by
 let D:WShape.hasAll [] args [.list .int]=true:=(pre_splitW j).1;let G:l.pre.holds [] {args:=args}=true:=(pre_splitW j).2;let⟨d,r,rfl,h1,h2⟩:=hasAllW_cons D;obtain rfl:=hasAllW_nil h2;let⟨xs,rfl,h3⟩:=hasW_list h1;let⟨ns,rfl⟩:=items_int h3;let J:ns.length<=n:=by
  unfold OpenLaw.pre at G;let h4:(WTm.not (.lt (.lit (.int (n:Int))) (.len (.arg 0)))).holds [] {args:=[.list (ns.map .int)]}=true:=by let h4:=(holds_andW G).1;rw[hn]at h4;show h4
  let h5:=condW_of h4 (w_not (w_lt w_lit (w_len_list (w_arg rb))));rw[aa]at h5;calc Nat.le_of_not_lt λq=>?_;let I:(n:Int)<((ns.length:Nat):Int):=Iff.mpr qo q
  first| (rw[aw I]at h5;show absurd h5 t9)| (simp at h5;lia)
 cases F with
 | cons w1 w2=>
  cases w2;cases w1 with| list ho hall=>show⟨_,_,ns,rb,rb,ho,JW ns _ hall,J⟩
def aaS (l:OpenLaw)(args:List WData):l.row.toRowW.claim.post args (.bool true) args=true:=postW_of (r:=l.row.toRowW) (X:=(true==true))
  (show WShape.has [] (.bool true) .bool=true by first|rfl|decide|simp[WShape.has,WShape.arms,WShape.armsAll])
  (show (WTm.eq .res (.lit (.bool true))).value [] {args:=args,res:=some (.bool true),after:=args}=some (.bool (true==true)) from w_eq_bool (w_res rb) w_lit) rfl
def Vy {l:OpenLaw}{d:DefRec}(hn:l.most=some n)(O:d.params.defaults=[])(call:∀(w:World) (s₀ j:Shared) (mg mb:Str->Option Value) (F:Addr) (o:Obj) (pm cd doc:Value) (a:Addr) (vs:List Value) (ns:List Int),
   Ground q loose [] XP w s₀ mg mb j.heap->YP w j.heap->
   j.heap.get? F=some o->o.data=.func (docDef d.name d.params d.body d.scope pm cd doc)->j.heap.CodeRec cd d.name->mg d.name=some (.ref F)->
   j.heap.get? a=some {cls:=.type "list",data:=.seq vs.toArray}->IntsAre vs ns->ns.length<=n->j.gens=#[]->
   codeAny (model l.prog w) callerA (.call (.ref F) ⟨[.ref a],[]⟩) (λr s'=>r=.ok (.ret (.bool true))/\OldK j.heap s'.heap/\s'.os=j.os/\AllBare s'.gens) j) :
  WalkO q loose XP YP l.row.toRowW d [] (λf vs=>PySem.call f vs):=by
 intro w s₀ j mg mb G Y F o pm cd doc dV kV ho hd Z hD hmg hg args vals as J hlay hrd hwl hlo;obtain rfl:dV=.none:=Dflts.none hD O;obtain rfl:kV=.none:=Dflts.noKw hD;let⟨a,vs,ns,rfl,rfl,I,D,cU⟩:=aaR hn J hwl;calc enter_call (nv (call w s₀ j mg mb F o pm cd doc a vs ns G Y ho (fd_plain hd) Z hmg I D cU hg) λr s' hq=>?_);let⟨rfl,h2,h3,h4⟩:=hq;show⟨.inl ⟨.bool true,.bool true,[],rb,λ_=>rfl,.bool true,aaS l _,λ_=>⟨List.Pairwise.nil,λ_ hm=>(nomatch hm)⟩⟩,h2,h3,h4⟩
end Att
namespace L2
open PySem PySem.Spec PyProof.Rows
theorem Om:∀{vs:List Value} {ns:List Int},IntsAre vs ns->Vals (ns.map V.int) vs
 | _,_,.nil=>.nil
 | _,_,.cons n t h=>.cons ⟨t,rb⟩ (Om h)
def Only (H:Hp):Prop:=∀b,H b=none\/∃o xs,H b=some (.qH o (.lst xs))
def acO {K:W.Frag}{j:Shared}{vs:List Value}(KX:K.In j.heap)(Y:j.heap.Ns mainGlobals mg)(hb:j.heap.Ns builtinsNs mb)(hbb:∀x:Str,x≠"__name__"->mb x=bootBuiltins x)(hlim:j.heap.NoLimit)(hg:j.gens=#[])(ha:j.heap.get? a=some {cls:=.type "list",data:=.seq vs.toArray})(hi:IntsAre vs ns)(hl:ns.length<=sizeLine)(hr:fO k callerA)(F:∀base:Heap,K.In base->base.Ns mainGlobals mg->cB P w K mg base CX k fa fd [x] sp)(I:∀(s:Shared) (u:Value),BindsTo s fd ⟨[u],[]⟩ [(x,u)])(hsp:∀H:Hp,Only H->bI K H a (ns.map V.int)->sp [.ref a] H (λv _=>v=.bl true) λ_ _ _=>False)(hCX:∀H e s',CX [] H j (λ_ _ _=>False) e s'->False):codeAny (model P w) callerA (.call (.ref fa) ⟨[.ref a],[]⟩) (λr s'=>r=.ok (.ret (.bool true))/\OldK j.heap s'.heap/\s'.os=j.os/\AllBare s'.gens) j:=by
 let rv:=Om hi;let O:=hi.length;let G:∀H:Hp,Only H->bI K H a (ns.map V.int)->k_ P w H j.heap->(∀b,H b≠none->b=a)->(H a≠none->K.lookup a=none)->
   codeAny (model P w) callerA (.call (.ref fa) ⟨[.ref a],[]⟩) (λr s'=>r=.ok (.ret (.bool true))/\OldK j.heap s'.heap/\s'.os=j.os/\AllBare s'.gens) j:=by
  intro H hO hS hok hA hK;let WX:∀{b:Addr} {o:Obj},j.heap.get? b=some o->H b=none->(Bj j.heap H).get? b=some o:=λe n=>acr e n;let noA:∀{b:Addr} {o:Obj} {es:Array DictEntry} {ep:Nat},j.heap.get? b=some o->o.data=.dict es ep->H b=none:=λ{b o es ep} e d=>by
   cases q:H b with| none=>rfl| some u=>have e':b=a:=hA b (by rw[q];simp);subst e';rw[ha]at e;cases e;let d':Data.seq vs.toArray _=Data.dict es ep:=d;cases d'
  let D:∀{b:Addr} {m:Str->Option Value},j.heap.Ns b m->(Bj j.heap H).Ns b m:=λ{b m} ⟨o,es,ep,e,d,r⟩=>⟨o,es,ep,WX e (noA e d),d,r⟩
  let J:K.In (Bj j.heap H):=λb o e=>WX (KX b o e) (by
   cases q:H b with
   | none=>rfl
   | some u=>have e':b=a:=hA b (by rw[q];simp);subst e';rw[hK (by rw[q];simp)]at e;cases e)
  let hM:Mod K mg (Bj j.heap H):=⟨J,D Y,⟨mb,D hb,hbb⟩,let ⟨mc,h1,h2⟩:=hlim;⟨mc,D h1,h2⟩⟩
  let e0:Ii P w K mg (Bj j.heap H) callerA [] j H:=⟨rb,hM,λb o e=>aeN e,iq (aav _ _),trivial,λb hb=>absurd (show b∈([]:List Addr) from hb) t7,hok,.of_eq hg⟩
  calc nv ((F _ J (D Y)).run callerA [] j H ⟨[.ref a],[]⟩ [.ref a] [.ref a] _ _ hr e0 (I j (.ref a)) (.cons rb .nil) (hsp H hO hS)) λr s' h=>?_;cases r with
  | error e=>show(hCX H e s' h).elim
  | ok fl=>
   cases fl with
   | next=>show False.elim h
   | brk=>show False.elim h
   | cont=>show False.elim h
   | ret u=>
    let⟨v,H',os,bare,un,Z,r',q⟩:=h;let q':v=.bl true:=q;subst q';obtain rfl:u=Value.bool true:=r';calc⟨rb,OldK.of_keep λb o e=>?_,os,bare⟩;cases q:H b with
    | none=>show un.keep b o e q (by intro z;show absurd (show b∈([]:List Addr) from z) t7) t7
    | some u=>
     rcases hO b with z|⟨ob,xs,z⟩;.rw[q]at z;cases z
     .let z2:=un.rE b ob _ z;let⟨e1,_⟩:=hok b _ z;let⟨e2,_⟩:=Z b _ z2;rw[e]at e1;cases e1;show e2
 cases hk:K.lookup a with
 | some o=>have e:=KX a o hk;rw[ha]at e;cases e;refine G (λ_=>none) (λ_=>.inl rb) (.inr ⟨_,vs.toArray,_,hk,rb,rb,rb,by rw[bE,O];show hl,by simpa using rv⟩) (λb u z=>by let z':(none:Option HO)=some u:=z;cases z') (λb z=>absurd rb z) λz=>absurd rb z
 | none=>
  refine G (λb=>if b=a then some (.qH {cls:=.type "list",data:=.seq vs.toArray} (.lst (ns.map V.int))) else none) (λb=>?_) (.inl (.inr ⟨{cls:=.type "list",data:=.seq vs.toArray},if_pos rb⟩)) (λb u z=>?_) (λb z=>?_) λ_=>hk
  .by_cases hb:b=a;.show .inr ⟨_,_,if_pos hb⟩
   .show .inl (if_neg hb)
  .by_cases hb:b=a
   .let z':=(if_pos hb).symm.trans z;cases z';subst hb;show⟨ha,by rw[aa];show hl,vs,_,rv,ha⟩
   .let z':=(if_neg hb).symm.trans z;cases z'
  .by_cases hb:b=a;.show hb
   .show absurd (if_neg hb) z
abbrev KOf {K:W.Frag}{h:Heap}(_:K.In h):W.Frag:=K
def ae8 {l:W.OpenLaw}{n k:Nat}{j:List Str}{XP:(Str->Option Value)->Heap->Prop}{YP:World->Heap->Prop}{d:DefRec}{K:Params->W.Frag}{CX:World->vA}{sp:World->Sp}{x:Str}(hn:l.most=some n)(Z:n<=sizeLine)(hdf:d.params.defaults=[])(hr:fO k callerA)(hY:∀(w:World) (h:Heap),YP w h->(K w.params).In h)(F:∀(w:World) (mg:Str->Option Value) (J:Addr) (h:Heap),(K w.params).In h->h.Ns mainGlobals mg->mg d.name=some (.ref J)->
   ∃fd:FuncData,(∀(s:Shared) (u:Value),BindsTo s fd ⟨[u],[]⟩ [(x,u)])/\
    ∀base:Heap,(K w.params).In base->base.Ns mainGlobals mg->cB l.prog w (K w.params) mg base (CX w) k J fd [x] (sp w))
  (hsp:∀(w:World) (H:Hp) (a:Addr) (ns:List Int),ns.length<=n->Only H->bI (K w.params) H a (ns.map V.int)->sp w [.ref a] H (λv _=>v=.bl true) λ_ _ _=>False)
  (O:∀(w:World) (H:Hp) (s:Shared) (e:Value) (s':Shared),CX w [] H s (λ_ _ _=>False) e s'->False) :
  W.WalkO q j XP YP l.row.toRowW d [] (λf vs=>PySem.call f vs):=by
 calc Att.Vy hn hdf λw s₀ s₁ mg mb J o pm cd doc a vs ns G Y ho hd hcd hmg I D cU hg=>?_;let KX:=hY w _ Y;let⟨fd,hb,hF⟩:=F w mg J _ KX G.T.g hmg;show acO KX G.T.g G.T.b G.T.builtins G.T.nolimit hg I D (bS cU Z) hr hF hb (λH hO hS=>hsp w H a ns cU hO hS) λH e s'=>O w H s₁ e s'
def inClass (s:Stmt)(j:Nat):Stmt:=match s with| .ClassDef _ _ _ body _ _ _ _ _ _ _=>body.getD j (.Pass ⟨0,0,0,0⟩)| _=>.Pass ⟨0,0,0,0⟩
noncomputable def dD (s:Stmt):Arguments:=match s with| .FunctionDef _ a _ _ _ _ _ _ _ _=>a| _=>{posonlyargs:=[],args:=[],vararg:=none,kwonlyargs:=[],kw_defaults:=[],kwarg:=none,defaults:=[]}
def cT (s:Stmt):List Stmt:=match s with| .FunctionDef _ _ b _ _ _ _ _ _ _=>b| _=>[]
noncomputable def aH (s:Stmt):Scope:=match s with| .FunctionDef _ _ _ _ _ _ sc _ _ _=>sc| _=>{kind:=.function,names:=[],isGenerator:=false,isCoroutine:=false}
abbrev dH:vA:=λ_ _ _ _ _ _=>False
abbrev E0:XK:=λ_ _ _=>False
def dO:Passes dH X E0:=λ_ _ _ _ _ _ _ h=>h.elim
structure fu (K:W.Frag)(x qual:Str)(st:Stmt)(f:Addr)(fd:FuncData):Prop where
 ex:∃(oc:Value) (od:Option Addr) (kV doc pm:Value) (an:Option Addr) (bN ct:Value) (osl:Array (Option Value)),
  fd=W.fnOf x qual (dD st) (cT st) (aH st) .none kV doc pm an bN ct/\K.lookup f=some ⟨oc,od,.func fd,osl⟩/\W.codeIn K bN qual=true
 kp:W.keepIn K (.ref f)=true
section
variable {P:Program}{w:World}{K:W.Frag}{mg:Str->Option Value}{base:Heap}
def fu.ok {x qual:Str}{st:Stmt}{N ps:List Str}{k:Nat}{sp:Sp}(F:fu K x qual st f fd)(S:bw N ps (aH st))(len:∀vs H Q E,sp vs H Q E->vs.length=ps.length)(j:∀(bN:Value) (A:Around) (outer:List Env) (s:Shared) (H:Hp) (vs:List V) (Q:VK) (E:XK),fO k (A.deeper (envOfC qual (aH st) s.heap.objs.size f bN))->sp vs H Q E->
   ∃t,xJ (ud dH P w K mg base N qual (aH st) f bN A outer s H E).Rb (cT st) t/\t {nx:=λ_ H'=>Q .non H',rt:=Q} (start N vs) H):cB P w K mg base dH (k+1) f fd ps sp:=by
 let⟨oc,od,kV,doc,pm,an,bN,ct,osl,rfl,I,G⟩:=F.ex;calc aek I G S len λA outer s H vs Q E J D=>?_;let⟨t,h,q⟩:=j bN A outer s H vs Q E J D;show⟨t,h.Rb,q⟩
def fu.binds {x qual:Str}{st:Stmt}{ps:List Str}(F:fu K x qual st f fd)(h:∀(kV doc pm:Value) (an:Option Addr) (bN ct:Value) (us:List Value),us.length=ps.length->bindArgs (W.fnOf x qual (dD st) (cT st) (aH st) .none kV doc pm an bN ct) ⟨us,[]⟩=pure (ps.zip us)):bT K fd ps []:=by let⟨oc,od,kV,doc,pm,an,bN,ct,osl,rfl,D,j⟩:=F.ex;show .all (h kV doc pm an bN ct)
def fZ {x qual:Str}{st:Stmt}{f:Addr}{oc:Value}{od an:Option Addr}{osl:Array (Option Value)}{kV doc pm bN ct:Value}(l:K.lookup f=some ⟨oc,od,.func (W.fnOf x qual (dD st) (cT st) (aH st) .none kV doc pm an bN ct),osl⟩)(c:W.codeIn K bN qual=true)(k:W.keepIn K (.ref f)=true):fu K x qual st f (W.fnOf x qual (dD st) (cT st) (aH st) .none kV doc pm an bN ct):=⟨⟨oc,od,kV,doc,pm,an,bN,ct,osl,rb,l,c⟩,k⟩
end
def Qw (j:fO k A):A.units+1<cLine:=gp (kQ (by decide:1<=64) _) j.units
def aJ (h:n<=1000):n<sizeLine:=gp h t9
section
variable {X:Cx}
def pv (i:Nat){x:Str}{pos:Pos}(D:X.N[i]?=some x:=by rfl)(F:Wx X.env.scope x:=by first|show Or.inl rfl|show Or.inr (Or.inl rb)|show Or.inr (Or.inr rb))(hd:(x==("__debug__":Str))=false:=by decide)(j:(x==("__classdict__":Str))=false:=by decide):PE X (.Name x pos) (YB i):=agF D F hd j
end
def cM {A B:Prop}(h:B):if false=true then A else B:=by rw[if_neg cp];show h
def cR {A B:Prop}(h:A):if true=true then A else B:=by rw[if_pos rfl];show h
def jt {c A B:Prop} [Decidable c] (h1:c->A)(h2:¬c->B):if c then A else B:=by
 by_cases h:c
 .rw[if_pos h];show h1 h
 .rw[if_neg h];show h2 h
def Qx {c A B:Prop} [Decidable c] (j:c)(h:B):if (!decide c)=true then A else B:=by rw[aw j];show cM h
def aD (H H':Hp):Prop:=∀b o,H b=some o->H' b=some o
def aD.refl (H):aD H H:=λ_ _ h=>h
def aD.trans (a:aD H H1)(b:aD H1 H2):aD H H2:=λc o h=>b c o (a c o h)
def aD.free (e:aD H H')(h:H' l=Option.none):H l=Option.none:=by
 cases q:H l with| none=>rfl| some o=>rw[e l o q]at h;cases h
def aD.seq {K:W.Frag}{xs:List V}(e:aD H H')(h:bI K H a xs):bI K H' a xs:=by
 rcases h with(h|⟨o,h⟩)|h;.show .inl (.inl (e _ _ h))
 .show .inl (.inr ⟨o,e _ _ h⟩)
 .show .inr h
section
variable {X:Cx}
def aaT:iV X (.builtin "len") (λxs H Q=>∃a kvs,xs=[V.ref a]/\H a=some (.dK kvs)/\Q (.int kvs.length) H):=by intro ak s σ H xs us Q I r h;let⟨a,kvs,rfl,ha,q⟩:=h;let⟨u,rfl,j⟩:=vals1 r;cases j;show ai9 I (.inl ha) λt s' D=>⟨.int kvs.length,H,D,⟨t,rb⟩,q⟩
end
section
variable {κ:Type}[DecidableEq κ]
theorem WY:∀{l:List κ} {k:κ},l.Nodup->¬k∈l->(l++[k]).Nodup
 | [],k,_,_=>by simp
 | a::r,k,h,hk=>by
  let⟨h1,h2⟩:=jS.mp h;show (a::(r++[k])).Nodup;calc jS.mpr ⟨λm=>?_,WY h2 λm=>hk (b9.mpr (Or.inr m))⟩;rcases be.mp m with q|q;.show h1 q
  .show hk (b9.mpr (Or.inl (a_.mp q).symm))
end
noncomputable def blk (X:Cx)(scope:Scope)(cl:List (Str×Addr))(C:Addr)(x:Str)(s₀:Shared)(H₀:Hp)(fp:List Addr):Cx:={X with N:=x::X.N,s₀:=s₀,H₀:=H₀,env:=compEnvC scope cl C X.env,outer:=X.stack,ex:=fp,fn:=λ_=>false,pn:=[],xe:=λ_ _=>False}
structure ju (X:Cx)(scope:Scope)(x:Str):Prop where
 kind:scope.kind=.function
 JX:∀y∈scope.names,y.2≠.cell
 names:∀y∈scope.names,y.2=.local->scope.names.lookup y.1=some .local
 hx:scope.names.lookup x=some .local
 free:∀y∈scope.names,y.2=.free->X.env.kindOf y.1=some .cell\/X.env.kindOf y.1=some .free
 out:∀y∈X.N,scope.names.lookup y≠some .local
 nd:X.N.Nodup
noncomputable def W0 (sc:Scope)(N:List Str)(scope:Scope)(x:Str):Bool:=scope.kind == .function&&scope.names.all (λy=>y.2 != .cell)&&scope.names.all (λy=>y.2 != .local||scope.names.lookup y.1==some .local)&&scope.names.lookup x==some .local &&
 scope.names.all (λy=>y.2 != .free||sc.names.lookup y.1==some .cell||sc.names.lookup y.1==some .free)&&N.all (λy=>scope.names.lookup y != some .local)
def ju.of {X:Cx}(j:X.N.Nodup)(h:W0 X.env.scope X.N scope x=true):ju X scope x:=by
 unfold W0 at h;simp only[cn,gt,tI,bne_iff_ne,beq_iff_eq,ne_eq]at h;obtain⟨⟨⟨⟨⟨h1,h2⟩,h3⟩,h4⟩,h5⟩,D⟩:=h;calc⟨h1,λy hy=>h2 y hy,λy hy e=>(h3 y hy).resolve_left λz=>z e,h4,λy hy e=>?_,λy hy=>D y hy,j⟩;rcases h5 y hy with(z|z)|z;.show absurd e z
 .show .inl z
 .show .inr z
theorem mH {α:Type}:∀{l:List (Str×α)} {x:Str} {a:α},l.lookup x=some a->(x,a)∈l
 | [],_,_,h=>by simp at h
 | (y,b)::r,x,a,h=>by
  rw[ik]at h;split at h
  .rename_i e;let j:x=y:=by simpa using e
   cases h;subst j;show bX
  .show bq _ (mH h)
theorem Bo {env:Env}:∀(names:List (Str×NameKind)),(∀y∈names,y.2=.free->∃c,env.cells.lookup y.1=some c)->∀j:List (Str×Addr),(∀n c,j.lookup n=some c->env.cells.lookup n=some c)->
  ∃cl,(forIn names j (λ(p:Str×NameKind) (cs:List (Str×Addr))=>if (p.2==NameKind.free)=true then (do let a <- cellOf env p.1;pure (ForInStep.yield ((p.1,a)::cs))) else (pure (ForInStep.yield cs):Sem _)):Sem (List (Str×Addr)))=pure cl/\
   (∀n c,cl.lookup n=some c->env.cells.lookup n=some c)/\(∀n,(∃c,j.lookup n=some c)->∃c,cl.lookup n=some c)/\∀n,(n,NameKind.free)∈names->∃c,cl.lookup n=some c
 | [],_,j,ha=>⟨j,t7,ha,λ_ h=>h,λ_ h=>by simp at h⟩
 | (n,k)::r,hf,j,ha=>by
  let O:∀y∈r,y.2=.free->∃c,env.cells.lookup y.1=some c:=λy hy=>hf y (bq _ hy);by_cases I:k=.free
  .subst I;let⟨c,J⟩:=hf (n,.free) bX rfl;let⟨cl,e,h1,h2,h3⟩:=Bo r O ((n,c)::j) (λD G h=>by
    rw[ik]at h;split at h
    .rename_i q;let Y:D=n:=by simpa using q
     cases h;subst Y;show J
    .show ha D G h)
   refine⟨cl,?_,h1,λD h=>h2 D ?_,λD h=>?_⟩
   .rw[iA];simp only[beq_self_eq_true,if_true];let e2:cellOf env n=pure c:=by unfold cellOf;rw[J]
    rw[e2];simp only[pure_bind];show e
   .let⟨G,F⟩:=h;rw[ik];split;.show⟨c,rb⟩
    .show⟨G,F⟩
   .rcases b9.mp h with q|q
    .calc h2 D ⟨c,?_⟩;cases q;rw[ik,beq_self_eq_true]
    .show h3 D q
  .let hb:(k==NameKind.free)=false:=by simpa using I
   let⟨cl,e,h1,h2,h3⟩:=Bo r O j ha;refine⟨cl,?_,h1,h2,λD h=>?_⟩
   .rw[iA];simp only[hb,gr,if_false,pure_bind];show e
   .rcases b9.mp h with q|q;.cases q;show absurd rb I
    .show h3 D q
theorem kY {env:Env}:∀{names:List (Str×NameKind)} {x:Str} {k:NameKind},
  (names.map λ(n,k)=>if (k==NameKind.free&&env.scope.kind == .function&&env.kindOf n==some .cell) then (n,NameKind.cell) else (n,k)).lookup x=some k->names.lookup x=some k\/(k=.cell/\names.lookup x=some .free)
 | [],_,_,h=>by simp at h
 | (n,j)::r,x,k,h=>by
  let F:=@kY env r x k;let h':List.lookup x ((if (j==NameKind.free&&env.scope.kind == .function&&env.kindOf n==some .cell)=true then (n,NameKind.cell) else (n,j))::_)=some k:=h;by_cases D:(j==NameKind.free&&env.scope.kind == .function&&env.kindOf n==some .cell)=true
  .rw[if_pos D]at h';cases hx:x==n with
   | true=>
    simp only[ik,hx]at h' ⊢;cases h';have:j=.free:=by simp at D;show D.1.1
    show .inr ⟨rb,by rw[this]⟩
   | false=>simp only[ik,hx]at h' ⊢;show F h'
  .rw[if_neg D]at h';cases hx:x==n with| true=>simp only[ik,hx]at h' ⊢;show .inl h'| false=>simp only[ik,hx]at h' ⊢;show F h'
def Y7 (I:Nat->Shared->Prop)(turn:∀n s,I n s->wpAny (model prog w) A (pyNext it) (λr D=>match r with
   | none=>R (.ok .next) D
   | some v=>wpAny (model prog w) A (letOwnedTupleGo target it v) (λ_ s₀=>wpAny (model prog w) A (assign target env v) (λ_ O=>
     wpAny (model prog w) A (forIn ifs true λc r=>if r=true then do let ok <- isTrue c env (eval c env);pure (ForInStep.yield ok) else pure (ForInStep.yield r)) (λok j=>
      if ok=true then wpAny (model prog w) A (eval elt env) (λx Y=>wpAny (model prog w) A (call (.builtin "list.append") [acc,x]) (λ_ F=>∃m,m<n/\I m F) (λ_ _=>False) Y) (λ_ _=>False) j
      else ∃m,m<n/\I m j) (λ_ _=>False) O) (λ_ _=>False) s₀) (λ_ _=>False) D) (λ_ _=>False) s)
  (n) (h:I n s) :
  codeAny (model prog w) A (.compLoop (.ListComp elt [⟨target,iter,ifs,0⟩] scope pos) 0 it acc env) R s:=by
 calc codeAny_loop rb I (λn s hI=>?_) n h;show wpAny _ A ((compTurn (.ListComp elt [⟨target,iter,ifs,0⟩] scope pos) 0 it acc env).onRaise (λx=>do noteFrame x env;theTreesLotGoes x)) _ _ s;calc wpAny_noted ?_;rw[compTurn_list];calc af (o6 (af (fA (turn n s hI) (λr D G=>?_) λ_ _ h'=>h'.elim)));cases r with
 | none=>show ax G
 | some v=>
  calc af (fA G (λ_ s₀ h₀=>?_) λ_ _ h'=>h'.elim);calc af (fA h₀ (λ_ O Z=>af (fA Z (λok j J=>?_) λ_ _ h'=>h'.elim)) λ_ _ h'=>h'.elim);cases ok with| false=>show ax ⟨rb,J⟩| true=>show af (af (fA J (λx Y h₄=>af (fA h₄ (λ_ F h₅=>ax (ax ⟨rb,h₅⟩)) λ_ _ h'=>h'.elim)) λ_ _ h'=>h'.elim))
def W2 (X:Cx)(ifs:List Expr)(t:TT):Prop:=∀(ak:AE) (s:Shared) (σ:St) (H:Hp) (Q:Bool->Hp->Prop),aP X ak σ H s->t σ H Q->
  wpAny (model X.prog X.w) X.A (forIn ifs true λc r=>if r=true then do let ok <- isTrue c X.env (eval c X.env);pure (ForInStep.yield ok) else pure (ForInStep.yield r)) (TP X ak σ Q) X.xe s
def nu:TT:=λ_ H Q=>Q true H
def ae9:W2 X [] nu:=λ_ _ _ H _ I h=>wpAny_tests_nil ⟨H,I,h⟩
def iK (n i:Nat)(P:Prop):Prop:=∃j,j<n-i/\j=n-(i+1)/\i+1<=n/\P
abbrev LK (n i:Nat)(D:Addr)(ys:List V)(P:List V->Hp->Prop)(y:V)(H3:Hp):Prop:=H3 D=some (.lst ys)/\ys.length<sizeLine/\iK n i (P (ys++[y]) (upd H3 D (.lst (ys++[y]))))
abbrev DX (J:It)(D:Addr)(H:Hp)(R:Hp->Prop)(B:V->Hp->VK->(Hp->Prop)->Prop):Prop:=∃W:Nat->Nat->List V->Hp->Prop,(∃m,W 0 m [] (upd H D (.lst [])))/\
 ∀i m ys H,W i m ys H->(J.stop i H/\R H)\/(J.go i H/\∀x H',J.N_ i H x H'->B x H' (λy H3=>H3 D=some (.lst ys)/\ys.length<sizeLine/\∃m',m'<m/\W (i+1) m' (ys++[y]) (upd H3 D (.lst (ys++[y])))) λH2=>∃m',m'<m/\W (i+1) m' ys H2)
def acP {J:It}{D:Addr}{H:Hp}{R:Hp->Prop}{B:V->Hp->VK->(Hp->Prop)->Prop}(n:Nat)(j:Nat->List V->Hp->Prop)(h0:j 0 [] (upd H D (.lst [])))(O:∀i ys H,i<n->j i ys H->J.go i H/\∀x H',J.N_ i H x H'->B x H' (LK n i D ys (j (i+1))) λI=>iK n i (j (i+1) ys I))(G:∀ys H,j n ys H->J.stop n H/\R H):DX J D H R B:=by
 calc⟨λi m ys H=>m=n-i/\i<=n/\j i ys H,⟨n,t7,eD _,h0⟩,?_⟩;intro i m ys H z;let⟨rfl,hi,p⟩:=z;by_cases F:i<n;.show .inr (O i ys H F p)
 .let e:i=n:=t6;subst e;show .inl (G ys H p)
def Qy {F:Hp->List V->Prop}{B:V->Hp->VK->(Hp->Prop)->Prop}{xs:List V}{D:Addr}{H:Hp}{R:Hp->Prop}(j:Nat->List V->Hp->Prop)(h0:j 0 [] (upd H D (.lst [])))(hl:∀i ys H,i<=xs.length->j i ys H->F H xs)(hs:∀i x ys H,xs[i]?=some x->j i ys H->B x H (LK xs.length i D ys (j (i+1))) λG=>iK xs.length i (j (i+1) ys G))(hd:∀ys H,j xs.length ys H->R H):DX (ItS F) D H R B:=acP xs.length j h0 (λi ys H h p=>⟨⟨xs,xs[i],hl i ys H (am h) p,by simp[h]⟩,λx H' ⟨e,y⟩=>by subst e;show hs i x ys _ (y xs (hl i ys _ (am h) p)) p⟩) λys H p=>⟨⟨xs,hl _ ys H (ai _) p,ai _⟩,hd ys H p⟩
abbrev Y8 (σ:St)(tt:TT)(te:TE)(x:V)(H:Hp)(k:VK)(l:Hp->Prop):Prop:=tt (some x::σ) H λb H2=>if b=true then te (some x::σ) H2 k else l H2
def aeo (wi:TI)(tt:TT)(te:TE):TE:=λσ H Q=>wi σ H λJ H1=>∀D,H1 D=none->DX J D H1 (Q (.ref D)) (Y8 σ tt te)
noncomputable def gQ (X:Cx)(scope:Scope)(cl:List (Str×Addr))(C:Addr)(N:List Str)(s₀:Shared)(H₀:Hp)(fp:List Addr):Cx:={X with N:=N,s₀:=s₀,H₀:=H₀,env:=compEnvC scope cl C X.env,outer:=X.stack,ex:=fp,fn:=λ_=>false,pn:=[],xe:=λ_ _=>False}
structure kh (X:Cx)(scope:Scope)(ns N2:List Str)(f:St->St):Prop where
 kind:scope.kind=.function
 JX:∀y∈scope.names,y.2≠.cell
 names:∀y∈scope.names,y.2=.local->scope.names.lookup y.1=some .local
 free:∀y∈scope.names,y.2=.free->X.env.kindOf y.1=some .cell\/X.env.kindOf y.1=some .free
 ajS:∀σ:St,(f σ).length=σ.length
 ajT:N2.length=X.N.length
 out:∀(σ:St) (i:Nat) (y:Str) (v:V),N2[i]?=some y->(f σ)[i]?=some (some v)->X.N[i]?=some y/\σ[i]?=some (some v)/\scope.names.lookup y≠some .local
def Oo (X:Cx)(tg:Expr)(k:Nat)(TP:V->Hp->(St->Prop)->Prop):Prop:=∀(ak:AE) (s:Shared) (pre rest:St) (H:Hp) (v:V) (u:Value) (Q:St->Prop),pre.length=k->aP X ak (pre++rest) H s->cH v u->TP v H Q->
  wpAny (model X.prog X.w) X.A (assign tg X.env u) (λ_ s'=>∃j,j.length=k/\aP X ak (j++rest) H s'/\Q j) (λ_ _=>False) s
def TgB (TP:V->Hp->(St->Prop)->Prop)(f:St->St)(σ:St)(tt:TT)(te:TE)(x:V)(H:Hp)(k:VK)(l:Hp->Prop):Prop:=TP x H λpre=>tt (pre++f σ) H λb j=>if b=true then te (pre++f σ) j k else l j
def DY (f:St->St)(k:Nat)(wi:TI)(TP:V->Hp->(St->Prop)->Prop)(tt:TT)(te:TE):TE:=λσ H Q=>wi σ H λJ H1=>∀D,H1 D=none->DX J D H1 (Q (.ref D)) (TgB TP f σ tt te)
def D_ {X:Cx}{elt iter tg:Expr}{ns N2:List Str}{f:St->St}{TP:V->Hp->(St->Prop)->Prop}{ifs:List Expr}{scope:Scope}{pos:Pos}{wi:TI}{tt:TT}{te:TE}(hc:X.calm=true)(ok:kh X scope ns N2 f)(hi:PI X tg iter wi)(hg:∀cl C s₀ H₀ fp,Oo (gQ X scope cl C (ns++N2) s₀ H₀ fp) tg ns.length TP)(ht:∀cl C s₀ H₀ fp,W2 (gQ X scope cl C (ns++N2) s₀ H₀ fp) ifs tt)(he:∀cl C s₀ H₀ fp,PE (gQ X scope cl C (ns++N2) s₀ H₀ fp) elt te)(hs:∀x,foldedSetIterable iter X.env x=pure x:=by intro _;rfl){use:Option (Value->Sem Unit)}{RR:AD}{p1:Pos}{ak:AE}{s:Shared}{σ:St}{H:Hp}{Q:V->Hp->Prop}(I:aP X ak σ H s)(h:DY f ns.length wi TP tt te σ H Q)(fin:∀(D C:Addr) (H4:Hp) (s5:Shared) (m:Str->Option Value),s5.heap.Ns C m->(∀h',Heap.SameBut C s5.heap h'->aP X ak σ H4 {s5 with heap:=h' })->vP X ak H4 C->Q (.ref D) H4->compPost (model X.prog X.w) X.A X.xe use RR (.ref D) C (.ok .next) s5):wpAny (model X.prog X.w) X.A (comprehension (.ListComp elt [⟨tg,iter,ifs,0⟩] scope pos) scope X.env p1 (newList []) false (eval iter X.env) use) RR X.xe s:=by
 let⟨cl,hcl,j,_,hall⟩:=Bo (env:=X.env) scope.names (λy hy e=>I.ok.has y.1 (ok.free y hy e)) [] (λ_ _ z=>by simp at z);let hclos:closureFor scope X.env=pure cl:=by unfold closureFor;simp only[bind_pure];show hcl
 calc wpAny_comprehension_free (use:=use) (E:=X.xe) (cl:=cl) rb hs hclos ok.kind ok.names (cD (hi ak s σ H _ I h) λv s1 h1=>cD h1 λitv s2 h2=>?_);let⟨it,fp,tn,J,H2,e,I2,T,st2,f2,R⟩:=h2;subst e;obtain⟨W,⟨m0,w0⟩,turn⟩:=R s2.heap.objs.size I2.fresh;calc iL (wpAny_newFunctionEnv ok.JX (by intro y hy;simp at hy) (λh₁ hns₁ hsb₁=>?_) ok.kind);dsimp only at hns₁ hsb₁ ⊢;let F:aP X ak σ (upd H2 s2.heap.objs.size (.lst [])) {s2 with heap:=s2.heap.push {cls:=.type "list",data:=.seq ([]:List Value).toArray} }:=I2.ahp (t':=s2.toks) (ys:=[]) (its:=[]) .nil (eD _);generalize hH3:upd H2 s2.heap.objs.size (HO.lst [])=H3 at *
 generalize hs3:s2.heap.push {cls:=.type "list",data:=.seq ([]:List Value).toArray}=hp3 at *
 generalize hD:s2.heap.objs.size=D at *
 generalize hC:hp3.objs.size=C at *
 let hDC:D<C:=by rw[<-hC,<-hs3,fw,hD];show ii _
 let G:∀b o,hp3.get? b=some o->h₁.get? b=some o:=λb o e=>(hsb₁.2 b (by rw[<-hC];show cf (aI e))).trans (ag _ e);let fpl:∀b∈fp,b<C:=λb hb=>by let⟨o,e,_⟩:=T.obj _ _ st2 b hb;rw[<-hC,<-hs3,fw];show iN (aI e)
 let f3:∀b∈fp,vP X ak H3 b:=λb hb=>by let⟨o,e,_⟩:=T.obj _ _ st2 b hb;calc⟨?_,(f2 b hb).2⟩;rw[<-hH3,aY (by rw[<-hD];show cf (aI e))];show(f2 b hb).1
 let ahv:∀b∈fp,b∉frs X.stack:=λb hb z=>by
  let⟨_,g1,g2,_⟩:=f3 b hb;rcases b9.mp (F.JD b z) with q|q;.show g1 q
  .show g2 q
 let YOk:(gQ X scope cl C (ns++N2) {s2 with heap:=hp3} H3 fp).Ok:=by
  calc⟨I.ok.mod,?_,I.ok.glob,I.ok.blt,iq hC,?_,?_,?_,I.ok.hd,I.ok.frames,.inl rb,?_,?_,?_,?_,?_,?_,?_⟩;.show ok.kind
  .show λa b c h1 h2=>I.ok.inj a b c (j a c h1) (j b c h2)
  .intro a ha;calc hall a ?_;rcases ha with z|z
   .rcases kY (env:=X.env) z with q|⟨_,q⟩;.show absurd rb (ok.JX _ (mH q))
    .show mH q
   .rcases kY (env:=X.env) z with q|⟨q,_⟩;.show mH q
    .cases q
  .intro a c hf;cases hf
  .intro b hb;refine⟨cf (fpl b hb),λa c h1=>(f3 b hb).2.2.2.2.1 a c (j a c h1)⟩
  .show F.bs
  .show bS I.ok.Dl F.sz
  .intro b o e hb;rcases(f3 b hb).2.2.2.1 with z|z;.show I.ok.DN b o e z
   .show absurd (cv (aI e) (bS I.ok.Dl z)) (fF _)
  .show ahv
  .show F.stack
  .show F.zZ
 let Y0:aP (gQ X scope cl C (ns++N2) {s2 with heap:=hp3} H3 fp) [] (List.replicate ns.length none++f σ) H3 {s2 with heap:=h₁,toks:=s2.toks+([]:List (Str×Value)).length}:=by
  refine⟨YOk,rb,F.bare,Un.kept G,⟨_,hns₁,?_⟩,?_,?_,?_,λp hp=>by simp[gQ]at hp,F.hok.kept G,?_⟩
  .intro i y v e1 e2 e3;by_cases dZ:i<ns.length
   .rw[eW (by rw[dL];show dZ),List.getElem?_replicate,if_pos dZ]at e2;simp at e2
   .obtain⟨i,rfl⟩:∃k,i=ns.length+k:=⟨i-ns.length,by simp_all⟩
    let e1a:(ns++N2)[ns.length+i]?=some y:=e1;rw[dP t6,iP]at e1a;rw[dP (by rw[dL];lia),dL,iP]at e2;let⟨e1',e2',hout⟩:=ok.out σ i y v e1a e2;let Y:(y,NameKind.free)∈scope.names:=by
     let key:∀k,(relabel scope X.env).names.lookup y=some k->k≠.local->k=.cell\/k=.free->(y,NameKind.free)∈scope.names:=λk q n hk=>by
      rcases kY (env:=X.env) q with z|⟨_,z⟩
      .rcases hk with rfl|rfl;.show absurd rb (ok.JX _ (mH z))
       .show mH z
      .show mH z
     rcases e3 with z|z|z
     .rcases kY (env:=X.env) z with q|⟨q,_⟩;.show absurd q hout
      .cases q
     .show key _ z t9 (.inl rb)
     .show key _ z t9 (.inr rb)
    let hk:=ok.free _ Y rfl;let⟨m,hn,hl⟩:=F.loc;let⟨u,r,q⟩:=hl i y v e1' e2' (by rcases hk with z|z;show .inr (.inl z);show .inr (.inr z));refine⟨u,r,.inr ⟨?_,?_⟩⟩
    .rcases e3 with z|z|z
     .rcases kY (env:=X.env) z with q|⟨q,_⟩;.show absurd q hout
      .cases q
     .show .inl z
     .show .inr z
    .rcases q with⟨z,_⟩|⟨_,c,hc',hcell⟩
     .rcases hk with q|q <;> (rw[z]at q;cases q)
     .let⟨c',hc2⟩:=hall y Y;have:c'=c:=by have:=j y c' hc2;rw[hc']at this;show(bP this).symm
      subst this;let⟨o,ho,hd⟩:=hcell;show⟨c',hc2,o,G _ _ ho,hd⟩
  .intro a c h1;let⟨v,o,ho,hd⟩:=F.cell a c (j a c h1);show⟨v,o,G _ _ ho,hd⟩
  .show H3 C=none;show F.hok.fresh (iq hC)
  .show λa c h1=>F.n_ a c (j a c h1)
  .show (List.replicate ns.length none++f σ).length=(ns++N2).length;rw[av,av,dL,ok.ajS,I.len,ok.ajT]
 let back:∀(s':Shared) (v:St) (H':Hp) (h':Heap),aP (gQ X scope cl C (ns++N2) {s2 with heap:=hp3} H3 fp) [] v H' s'->Heap.SameBut C s'.heap h'->(∀b∈fp,H' b=none)->aP X ak σ H' {s' with heap:=h' }:=by
  intro s' v H' h' I' sb fr;let N5:∀b o,hp3.get? b=some o->b≠C:=λb o e=>by rw[<-hC];show cf (aI e)
  let U:Un (frs X.stack) fp H3 H' hp3 s'.heap:=I'.base;refine F.call' (ch:=fp) (H':=H') (s':={s' with heap:=h' }) I'.os ⟨λb o e n h1 h2=>(sb.2 b (N5 b o e)).trans (U.keep b o e n h1 h2),λb o e n h1 h2=>?_,U.free,λb o e h2=>?_,U.tups,U.rE,U.rZ⟩ (λb ob e=>?_) I'.bare λb hb=>?_
  .let⟨sl,q⟩:=U.slot b o e n h1 h2;show⟨sl,(sb.2 b (N5 b o e)).trans q⟩
  .let⟨o',q⟩:=U.there b o e h2;show⟨o',(sb.2 b (N5 b o e)).trans q⟩
  .let fC:H' C=none:=I'.free;calc(I'.hok b ob e).stay (λc w' hc q=>(sb.2 c ?_).trans q) (λ_ q=>q) λ_ _ q=>q;rintro rfl;rcases hc with rfl|hc
   .rw[fC]at e;cases e
   .rw[fC]at hc;cases hc
  .let⟨_,g1,_,g3,g4,g5⟩:=f3 b hb;show⟨g3,g1,g4,g5⟩
 let O:∀{H':Hp},(∀b∈fp,H' b=none)->∀b∈fp,vP (gQ X scope cl C (ns++N2) {s2 with heap:=hp3} H3 fp) [] H' b:=λhn b hb=>⟨hn b hb,cf (fpl b hb),ahv b hb,.inl hb,λa c h1=>(f3 b hb).2.2.2.2.1 a c (j a c h1),λp hp=>by simp[gQ]at hp⟩
 let st₁:tn 0 h₁:=T.keep _ _ _ st2 λb _ o e=>G b o (by rw[<-hs3];show ag _ e);let loop:codeAny (model X.prog X.w) X.A (.compLoop (.ListComp elt [⟨tg,iter,ifs,0⟩] scope pos) 0 (.ref it) (.ref D) (compEnvC scope cl C X.env)) (compPost (model X.prog X.w) X.A X.xe use RR (.ref D) C)
   {s2 with heap:=h₁,toks:=s2.toks+([]:List (Str×Value)).length}:=by
  calc Y7 (λn s'=>∃i v ys H',v.length=ns.length/\aP (gQ X scope cl C (ns++N2) {s2 with heap:=hp3} H3 fp) [] (v++f σ) H' s'/\tn i s'.heap/\(∀b∈fp,H' b=none)/\W i n ys H') ?_ m0 ⟨0,List.replicate ns.length none,[],H3,dL,Y0,st₁,λb hb=>(f3 b hb).1,w0⟩;intro n s4 z;let⟨i,v,ys,H4,hv4,I4,iU,fr4,w4⟩:=z;rcases turn i n ys H4 w4 with⟨stop,qn⟩|⟨go,step⟩
  .refine cD (T.done (gQ X scope cl C (ns++N2) {s2 with heap:=hp3} H3 fp) rb rb rb hc i [] s4 (v++f σ) H4 _ I4 (O fr4) iU stop) λr s5 ⟨hr,I5⟩=>?_
   subst hr;let⟨m,hn,_⟩:=id I5.loc;show fin D C H4 s5 m hn (λh' sb=>back s5 (v++f σ) H4 h' I5 sb fr4) ⟨I5.free,(F.Bl (H':=H3) (iq hC) (F.hok.fresh (iq hC))).2⟩ qn
  .calc cD (T.item (gQ X scope cl C (ns++N2) {s2 with heap:=hp3} H3 fp) rb rb rb hc i [] s4 (v++f σ) H4 _ I4 (O fr4) iU go) λr s5 Z=>?_;let⟨u,hr,h5⟩:=Z
   subst hr;calc cD h5 λ_ s6 Z=>?_;let⟨y,H6,I6,r6,y6,st6,fr6⟩:=Z;let I6':=I6.pinned (O fr6) (T.obj _ _ st6);calc cD (hg cl C {s2 with heap:=hp3} H3 fp _ s6 v (f σ) H6 y u _ hv4 I6' r6 (step y H6 y6)) λ_ s7 Z=>?_;let⟨pre,hpre,I7',q7⟩:=Z;calc cD (ht cl C {s2 with heap:=hp3} H3 fp _ s7 _ H6 _ I7' q7) λb s8 Z=>?_;let⟨H8,I8,q8⟩:=Z;let aaU:∀{σ':St} {H':Hp} {s':Shared},aP (gQ X scope cl C (ns++N2) {s2 with heap:=hp3} H3 fp) ([]++DQ fp s6.heap) σ' H' s'->tn (i+1) s'.heap/\∀b∈fp,H' b=none:=λ{σ' H' s'} I9=>by calc⟨T.keep _ _ _ st6 λb hb o e=>(I9.pin (b,o) (fo _ (fo _ (wF hb e)))).1,λb hb=>?_⟩;let⟨o,e,d⟩:=T.obj _ _ st6 b hb;show(I9.pin (b,o) (fo _ (fo _ (wF hb e)))).2.1
   cases b with
   | false=>let⟨m',hm,w'⟩:=q8;let⟨k1,k2⟩:=aaU I8;show⟨m',hm,i+1,pre,ys,H8,hpre,I8.xK,k1,k2,w'⟩
   | true=>have q8':te (pre++f σ) H8 _:=q8;show wpAny _ _ (eval elt _) _ _ _;calc cD (he cl C {s2 with heap:=hp3} H3 fp _ s8 _ H8 _ I8 q8') λz s9 Z=>?_;let⟨zv,H9,I9,r9,hD9,hz9,m',hm,w'⟩:=Z;calc cD (jT (X:=gQ X scope cl C (ns++N2) {s2 with heap:=hp3} H3 fp) _ s9 _ H9 (.ref D) [zv] (.ref D) [z] (λ_ H'=>H'=upd H9 D (.lst (ys++[zv]))) I9 rb (.cons r9 .nil) ⟨D,ys,zv,rb,rb,hD9,hz9,rb⟩) λ_ s10 Z=>?_;let⟨_,H10,I10,_,e10⟩:=Z;subst e10;let⟨k1,k2⟩:=aaU I10;show⟨m',hm,i+1,pre,ys++[zv],_,hpre,I10.xK,k1,k2,w'⟩
 show codeAny_compStart_list loop (T.self X.A 0 _ _ _ st₁ loop)
def LQ {scope:Scope}{N:List Str}(j:N.Nodup)(h0:N[0]?=some x)(hx:scope.names.lookup x=some .local):Oo (gQ X scope cl C N s₀ H₀ fp) (.Name x pos) 1 (λv _ Q=>Q [some v]):=by intro ak s pre rest H v u Q hp I r q;let⟨G,rfl⟩:=List.length_eq_one_iff.mp hp;calc cD (t_ (X:=gQ X scope cl C N s₀ H₀ fp) (i:=0) j h0 (.inl (lookup_relabel_local hx)) (.inr (lookup_relabel_local hx)) ak s _ H v u (λσ' H'=>H'=H/\σ'=some v::rest) I r ⟨rb,rb⟩) λ_ s' F=>?_;let⟨σ',H',D,e1,e2⟩:=F;subst e1 e2;show⟨[some v],rb,D,q⟩
def ae_ {X:Cx}(O:X.calm=true)(ok:ju X scope x)(hi:PI X (.Name x px) iter wi)(ht:∀cl C s₀ H₀ fp,W2 (blk X scope cl C x s₀ H₀ fp) ifs tt)(j:∀cl C s₀ H₀ fp,PE (blk X scope cl C x s₀ H₀ fp) elt te)(hs:∀x,foldedSetIterable iter X.env x=pure x:=by intro _;rfl):PE X (.ListComp elt [⟨.Name x px,iter,ifs,0⟩] scope pos) (aeo wi tt te):=λak s σ H Q I h=>by
 let e:∀cl C s₀ H₀ fp,gQ X scope cl C ([x]++X.N) s₀ H₀ fp=blk X scope cl C x s₀ H₀ fp:=λ_ _ _ _ _=>rfl;let nd:([x]++X.N).Nodup:=jS.mpr ⟨λz=>ok.out x z ok.hx,ok.nd⟩;let G:kh X scope [x] X.N id:=⟨ok.kind,ok.JX,ok.names,ok.free,λ_=>rfl,rb,λσ i y v e1 e2=>⟨e1,e2,ok.out y (b8 e1)⟩⟩
 rw[eval_ListComp];show D_ O G hi (λcl C s₀ H₀ fp=>LQ nd rb ok.hx) (λcl C s₀ H₀ fp=>ht cl C s₀ H₀ fp) (λcl C s₀ H₀ fp=>j cl C s₀ H₀ fp) hs I h λD C F Y m hn bk _ q=>⟨m,hn,λh' J=>⟨.ref D,F,bk h' J,rb,q⟩⟩
def iK.mk {P:Prop}(h:i<n)(p:P):iK n i P:=⟨_,Nat.sub_lt_sub_left h (ii _),rb,h,p⟩
def aaV {K:W.Frag}{a D:Addr}{xs:List V}{te:TE}{σ:St}{H:Hp}{R:Hp->Prop}(j:Nat->List V->Hp->Prop)(h0:j 0 [] (upd H D (.lst [])))(hl:∀i ys H,i<=xs.length->j i ys H->bI K H a xs)(hs:∀i x ys H,xs[i]?=some x->j i ys H->te (some x::σ) H (LK xs.length i D ys (j (i+1))))(hd:∀ys H,j xs.length ys H->R H):DX (Itl K a) D H R (Y8 σ nu te):=Qy j h0 hl hs hd
def S (l:List Nat):Str:=⟨l.toArray⟩
def Y9 (l):(S l).cps.toList=l:=rfl
def sJ (l):(S l).length=l.length:=rfl
def yJ (h:S a=S b):a=b:=congrArg (λs:Str=>s.cps.toList) h
def ahw (z:Str):S z.cps.toList=z:=by cases z;rfl
def ai_ (a b):S a++S b=S (a++b):=by
 show (⟨a.toArray++b.toArray⟩:Str)=⟨(a++b).toArray⟩
 simp
def aep (a b):decide (V.str (S a)=V.str (S b))=decide (a=b):=by
 by_cases e:a=b;.subst e;simp
 .rw[ah e,ah];intro z;injection z with z;show e (yJ z)
section
variable {X:Cx}{a b c e o:Expr}{pos:Pos}
def afa (l){j pos}(h:x=S l):PE X (.Constant (.str x) j pos) (tC (.str (S l))):=by rw[h];show agH
def aja:R2:=λx y H Q=>∃i j,x=.str (S i)/\y=.str (S j)/\i.length+j.length<=sizeLine/\Q (.str (S (i++j))) H
def kZ:gJ X (binaryOp .Add) aja:=by intro ak s σ H x y v u Q I F D h;let⟨i,j,rfl,rfl,hz,q⟩:=h;show YL ak s σ H _ _ v u Q I F D ⟨S i,S j,rb,rb,hz,by rw[ai_];show q⟩
def ajb:R2:=λx y H Q=>∃l i c,x=.str (S l)/\y=.int i/\l.length<=sizeLine/\rH l i=some c/\Q (.str (S [c])) H
def sO:JM X ajb:=by intro value j ak s σ H x y v u Q I D G h hs;let⟨l,i,c,rfl,rfl,hz,F,q⟩:=h;show ahj value j ak s σ H _ _ v u Q I D G ⟨S l,i,c,rb,rb,hz,F,q⟩ hs
def ajc:List V->Hp->VK->Prop:=λxs H Q=>∃l,xs=[.str (S l)]/\l.length<=sizeLine/\Q (.int l.length) H
def dw:iV X (.builtin "len") ajc:=by intro ak s σ H xs us Q I r h;let⟨l,rfl,hz,q⟩:=h;show Rm ak s σ H _ us Q I r ⟨S l,rb,hz,q⟩
def ajU:R2:=λx y H Q=>∃i j,x=.str (S i)/\y=.str (S j)/\Q (.bl (decide (i=j))) H
def lU:gJ X (compareOp .Eq) ajU:=by intro ak s σ H x y v u Q I F D h;let⟨i,j,rfl,rfl,q⟩:=h;show jD ak s σ H _ _ v u Q I F D ⟨rb,by rw[aep];show q⟩
def ajV:R2:=λx y H Q=>∃i j,x=.str (S i)/\y=.str (S j)/\Q (.bl (!decide (i=j))) H
def vB:gJ X (compareOp .NotEq) ajV:=by intro ak s σ H x y v u Q I F D h;let⟨i,j,rfl,rfl,q⟩:=h;show GC ak s σ H _ _ v u Q I F D ⟨rb,by rw[aep];show q⟩
def ajW:R2:=λx y H Q=>∃c l,x=.str (S [c])/\y=.str (S l)/\Q (.bl (decide (c∈l))) H
def ahx:gJ X (compareOp .In) ajW:=by
 intro ak s σ H x y v u Q I D j h;let⟨c,l,rfl,rfl,q⟩:=h;show aaE ak s σ H _ _ v u Q I D j ⟨S [c],S l,rb,rb,by
  let e:=StrLaws.found_one (S l) c;rw[Y9]at e;rw[show (S [c])=(⟨#[c]⟩:Str) from rb,e];show q⟩
noncomputable def jd (l:List Nat)(lo hi:Option Int):List Nat:=(l.drop (HT.dj l.length 0 lo)).take (HT.dj l.length l.length hi-HT.dj l.length 0 lo)
def W3 (lo hi)(n):Builtin.Str.strSliceIndices lo hi 1 n=(List.range (HT.dj n n hi-HT.dj n 0 lo)).map (λk=>HT.dj n 0 lo+k):=by
 let D:∀(v:Int) (d:Nat),max (0:Int) (min (if v<0 then v+(n:Int) else v) (n:Int))=((HT.dj n d (some v):Nat):Int):=λv d=>by rw[<-HT.Ly];split <;> grind
 let F:∀a b:Nat,sliceRange (a:Int) (b:Int) 1=(List.range (b-a)).map (λk=>a+k):=λa b=>by
  simp only[sliceRange,show ((1:Int) > 0)=True from by simp,if_true];by_cases G:(a:Int)<b
  .let e3:(((b:Int)-a+1-1)/1).toNat=b-a:=by first|simp|(simp;done)|(simp;lia)
   simp only[G,if_true,e3];calc fE λk _=>?_;lia
  .have:b-a=0:=by simp_all
   simp[G,this]
 unfold Builtin.Str.strSliceIndices;simp only[show ((1:Int) > 0)=True from by simp,if_true];cases lo with
 | none=>
  cases hi with| none=>show F 0 n| some j=>dsimp only;rw[D j n];show F 0 _
 | some i=>
  cases hi with| none=>dsimp only;rw[D i 0];show F _ n| some j=>dsimp only;rw[D i 0,D j n];show F _ _
def aaW (l)(lo hi):Txt.slice (S l) lo hi=S (jd l lo hi):=by
 let I:HT.dj l.length l.length hi<=l.length:=HT.aaK _ _ (ai _) _;let j:((Builtin.Str.strSliceIndices lo hi 1 (S l).length).filterMap ((S l).cps[·]?))=jd l lo hi:=by
  rw[W3];let h:=StrLaws.picks l (HT.dj l.length l.length hi-HT.dj l.length 0 lo) (HT.dj l.length 0 lo);unfold jd;by_cases D:HT.dj l.length 0 lo<=HT.dj l.length l.length hi
  .let h2:=h (by simp_all);rw[sJ];simpa [S] using h2
  .let e:HT.dj l.length l.length hi-HT.dj l.length 0 lo=0:=Nat.sub_eq_zero_of_le t6;rw[sJ,e];simp
 unfold Txt.slice;split
 .rename_i D;let G:(Builtin.Str.strSliceIndices lo hi 1 (S l).length).length=l.length:=by
   simp at D;simpa [sJ] using D
  let F:HT.dj l.length l.length hi-HT.dj l.length 0 lo=l.length:=by rw[W3,sJ]at G;simpa using G
  let h0:HT.dj l.length 0 lo=0\/l.length=0:=t6;let e:jd l lo hi=l:=by
   unfold jd;rw[F];rcases h0 with z|z;.rw[z];simp
   .have:l=[]:=iS.mp z;subst this;simp
  rw[e]
 .rw[j];rfl
def ajX:V->Option Int->Option Int->Hp->VK->Prop:=λx lo hi H Q=>∃l,x=.str (S l)/\l.length<=sizeLine/\Q (.str (S (jd l lo hi))) H
def part_of {o:Option Int}(p:IsPart v o):∃l:Option (Int×Tok),v=partValue l/\l.map (·.1)=o:=by
 cases p with| none=>show⟨none,rb,rb⟩| int i t=>show⟨some (i,t),rb,rb⟩
def vQ:WR X ajX:=by intro ak s σ H x v O Y lo hi sl Q I G hs pl D h;let⟨l,rfl,hz,q⟩:=h;let⟨t,rfl⟩:=G;let⟨p1,rfl,rfl⟩:=part_of pl;let⟨p2,rfl,rfl⟩:=part_of D;calc⟨"str",_,F.slot_str_getitem.lookup,typeIs_str _ _ _,?_⟩;calc wpAny_getItem_str_slice (l:=p1) (u:=p2) (st:=none) hs rb ?_;let e:=aaW l (p1.map (·.1)) (p2.map (·.1));let j:(Txt.slice (S l) (p1.map (·.1)) (p2.map (·.1))).length<=sizeLine:=bS (Txt.slice_le _ _ _) hz;calc post_val_or_str ⟨j,λt' k=>?_⟩;let J:(if ((Option.map (λx:Int×Tok=>x.1) none).getD 1==1&&(slicePicked (S l) p1 p2 none).length==(S l).length)=true then S l else ⟨((slicePicked (S l) p1 p2 none).filterMap ((S l).cps[·]?)).toArray⟩)=S (jd l (p1.map (·.1)) (p2.map (·.1))):=e;show⟨.str (S (jd l (p1.map (·.1)) (p2.map (·.1)))),H,I.tok _,⟨t',congrArg (λz=>Value.str z t') J⟩,q⟩
abbrev Ts (ls:AA):List V:=ls.map λl=>V.str (S l)
def aer (K:W.Frag):List V->Hp->VK->Prop:=λxs H Q=>∃x n t b,xs=[x,.ty n]/\nj K H x t/\W.kitOne K t (.type n)=some b/\Q (.bl b) H
def iu:iV X (.builtin "isinstance") (aer X.K):=by intro ak s σ H xs us Q I r h;let⟨x,n,t,b,rfl,ty,k,q⟩:=h;let⟨u,D,rfl,r1,j⟩:=vals2 r;cases j;show aaH I r1 ty k λtk=>⟨.bl b,H,I.tok tk,rb,q⟩
def ajd:R2:=λx y H Q=>∃l n,x=.str (S l)/\y=.int (n:Nat)/\1<=n/\n<1000/\l.length<1000/\Q (.str (S (List.replicate n l).flatten)) H
theorem Rr (l:List Nat):∀(n:Nat) (j:Array Nat),((List.replicate n l.toArray).foldl (· ++ ·) j).toList=j.toList++(List.replicate n l).flatten
 | 0,j=>by simp
 | n+1,j=>by rw[fi,mS,Rr l n,fi];simp
def afb:gJ X (binaryOp .Mult) ajd:=by
 intro ak s σ H x y v u Q I J O h;let⟨l,n,rfl,rfl,h1,h2,h3,q⟩:=h;let⟨t,rfl⟩:=J;let⟨t',rfl⟩:=O;let j:l.length*n<=1000*1000:=io (am h3) (am h2);let F:(1000*1000:Nat)<=sizeLine:=by decide
 calc PySem.P.mul_str ?_ ?_ ?_ ?_;.rw[ah t7,ah t6];rfl
 .intro _ _;let e:(2^63-1:Int)/(n:Int)>=1000:=by
   calc Int.le_ediv_of_mul_le (Iff.mpr qo h1) ?_;have:(1000:Int)*(n:Int)<=1000*1000:=by lia
   lia
  rw[sJ];lia
 .intro _ _;show decide (_ > _)=false;rw[ah];rw[sJ,c9];lia
 .rw[if_neg t6];let D:(⟨(List.replicate (n:Int).toNat (S l).cps).foldl (· ++ ·) #[]⟩:Str)=S (List.replicate n l).flatten:=by
   let e:=Rr l n #[];rw[c9];unfold S;congr 1;apply mi.mp;simpa using e
  rw[D];split
  .rename_i G;let e:(List.replicate n l).flatten=l:=by
    simp at G;rcases G with z|z
    .have:n=1:=by lia
     subst this;simp
    .have:l=[]:=by simpa [S,Str.length] using z
     subst this;simp
   rw[e]at q;show⟨.str (S l),H,I,⟨t,rb⟩,q⟩
  .calc⟨?_,.str (S (List.replicate n l).flatten),H,I.tok _,⟨_,rb⟩,q⟩;rw[sJ,len_rep,Nat.mul_comm];show bS j F
def W4 (ls:AA):Txt.join (S []) (ls.map S)=S ls.flatten:=by
 unfold Txt.join Builtin.Str.glued;let D:∀(ls:AA) (j:Array Nat),((ls.map S).foldl (λj p=>j++(S []).cps++p.cps) j).toList=j.toList++ls.flatten:=by
  intro ls
  induction ls with| nil=>intro j;simp| cons l r ih=>intro j;rw[ce,mS,ih];simp[S]
 unfold S;congr 1;apply mi.mp;cases ls with| nil=>rfl| cons l r=>have:=D r (S l).cps;let e:(List.map S (l::r)).drop 1=List.map S r:=rfl;show (((List.map S (l::r)).drop 1).foldl _ (S l).cps).toList=_;rw[e];show this.trans (by simp[S])
def rJoin (K:W.Frag):V->List V->Hp->VK->Prop:=λx vs H Q=>∃p ls,x=.str (S [])/\vs=[.ref p]/\bI K H p (Ts ls)/\ls.flatten.length<=1000/\Q (.str (S ls.flatten)) H
theorem GJ:∀{ls:AA} {us:List Value},Vals (Ts ls) us->StrsAre us (ls.map S)
 | [],_,.nil=>.nil
 | l::r,_,.cons q t=>by let⟨t',rfl⟩:=q;show .cons (S l) t' (GJ t)
def W5 (ls:AA):((ls.map S).map (·.length)).sum=ls.flatten.length:=by
 induction ls with| nil=>rfl| cons l r ih=>rw[ce,ce,pi,ih,ed,av,sJ]
def rJ:Ab X "str.join" (rJoin X.K):=by
 intro ak s σ H x vs v us Q I j G h;let⟨p,ls,rfl,rfl,D,hz,q⟩:=h;let⟨t,rfl⟩:=j;let⟨u,rfl,F⟩:=vals1 G;cases F;let⟨its,r,pl,_⟩:=I.list D;refine join_list pl.isList (ys:=ls.map S) (by simpa using GJ r) ?_ λt' k=>?_
 .rw[W5];show _+_*0<=_;lia
 .show⟨.str (S ls.flatten),H,I.tok k,⟨t',congrArg (λz=>Value.str z t') (W4 ls)⟩,q⟩
end
structure aO (K:W.Frag)(mg:Str->Option Value)(name:Str)(st:Stmt)(ps:List Str):Prop where
 ex:∃f fd,fu K name name st f fd/\bT K fd ps []/\mg name=some (.ref f)
structure cu (P:Program)(w:World)(K:W.Frag)(mg:Str->Option Value)(base:Heap)(name:Str)(k:Nat)(ps:List Str)(sp:Sp):Prop where
 ex:∃f fd,cB P w K mg base dH k f fd ps sp/\bT K fd ps []/\mg name=some (.ref f)/\W.keepIn K (.ref f)=true
def aO.ok {K:W.Frag}{mg:Str->Option Value}{name:Str}{st:Stmt}{N ps:List Str}{k:Nat}{sp:Sp}(D:aO K mg name st ps)(S:bw N ps (aH st))(len:∀vs H Q E,sp vs H Q E->vs.length=ps.length)(j:∀(f:Addr) (bN:Value) (A:Around) (outer:List Env) (s:Shared) (H:Hp) (vs:List V) (Q:VK) (E:XK),fO k (A.deeper (envOfC name (aH st) s.heap.objs.size f bN))->sp vs H Q E->
   ∃t,xJ (ud dH P w K mg base N name (aH st) f bN A outer s H E).Rb (cT st) t/\t {nx:=λ_ H'=>Q .non H',rt:=Q} (start N vs) H):cu P w K mg base name (k+1) ps sp:=by
 let⟨f,fd,F,b,g⟩:=D.ex;show⟨f,fd,F.ok S len (j f),b,g,F.kp⟩
section
variable {X:Cx}{x:Str}{p pos:Pos}{e:Expr}{es:List Expr}{t:TA}
def ahy (D:cu X.prog X.w X.K X.mg X.base x k ps sp)(I:fO k X.A)(J:Gl X x)(ha:PA X (e::es) t)(F:(x==("__debug__":Str))=false:=by decide)(hs:starEach (e::es) X.env=(false,eval e X.env)::starEach es X.env:=by rfl)(j:(backTo pos (starEach es X.env)).any (·.1)=false:=by rfl):PE X (.Call (.Name x p) (e::es) [] pos) (YX sp [] E0 t):=by let⟨f,fd,G,b,g,kp⟩:=D.ex;show aeZ G I J g kp b .nil dO ha F hs j
end
theorem aD.upd (h:H p=none):aD H (upd H p o):=λb o' e=>by rw[aY (bB e h)];show e
def aD.dU (s:aD H H')(h:H p=none):aD H (L2.upd H' p o):=λb o' e=>by rw[aY (bB e h)];show s b o' e
def acQ {K:W.Frag}{h:Heap}{mg:Str->Option Value}{name:Str}{st:Stmt}{ps:List Str}{f:Addr}{oc:Value}{od an:Option Addr}{osl:Array (Option Value)}{kV doc pm bN ct:Value}(X:K.In h)(G:h.Ns mainGlobals mg)(a:W.nsIn K mainGlobals name=some (some (.ref f)))(l:K.lookup f=some ⟨oc,od,.func (W.fnOf name name (dD st) (cT st) (aH st) .none kV doc pm an bN ct),osl⟩)(c:W.codeIn K bN name=true)(k:W.keepIn K (.ref f)=true)(hb:∀(kV doc pm:Value) (an:Option Addr) (bN ct:Value) (us:List Value),us.length=ps.length->bindArgs (W.fnOf name name (dD st) (cT st) (aH st) .none kV doc pm an bN ct) ⟨us,[]⟩=pure (ps.zip us)):aO K mg name st ps:=⟨f,_,fZ l c k,(fZ l c k).binds hb,dS X G a⟩
def ahz {K:W.Frag}{h:Heap}{mg:Str->Option Value}{st:Stmt}{x:Str}{f D:Addr}{oc:Value}{od an:Option Addr}{osl:Array (Option Value)}{kV doc pm bN ct:Value}(X:K.In h)(G:h.Ns mainGlobals mg)(j:mg "law"=some (.ref D))(a:W.nsIn K mainGlobals "law"=some (some (.ref f)))(l:K.lookup f=some ⟨oc,od,.func (W.fnOf "law" "law" (dD st) (cT st) (aH st) .none kV doc pm an bN ct),osl⟩)(c:W.codeIn K bN "law"=true)(k:W.keepIn K (.ref f)=true)(hb:∀(kV doc pm:Value) (an:Option Addr) (bN ct v:Value),bindArgs (W.fnOf "law" "law" (dD st) (cT st) (aH st) .none kV doc pm an bN ct) ⟨[v],[]⟩=pure [(x,v)]):∃fd:FuncData,fu K "law" "law" st D fd/\∀(s:Shared) (v:Value),BindsTo s fd ⟨[v],[]⟩ [(x,v)]:=by let e:=j.symm.trans (dS X G a);cases e;show⟨_,fZ l c k,λs v=>.of_eq (hb kV doc pm an bN ct v)⟩
def Qz (K:W.Frag):Sp:=λvs H Q _=>∃(a:Addr) (ns:List Int),vs=[.ref a]/\bI K H a (ns.map V.int)/\ns.length<=63/\∀H',Q (.bl true) H'
def afc {x:Str}{l:W.OpenLaw}{j:List Str}{O:(Str->Option Value)->Heap->Prop}{Y:World->Heap->Prop}{d:DefRec}{K:Params->W.Frag}(hn:l.most=some 63)(D:d.params.defaults=[])(I:∀(w:World) (h:Heap),Y w h->(K w.params).In h)(F:∀(w:World) (mg:Str->Option Value) (G:Addr) (h:Heap),(K w.params).In h->h.Ns mainGlobals mg->mg d.name=some (.ref G)->
   ∃fd:FuncData,(∀(s:Shared) (u:Value),BindsTo s fd ⟨[u],[]⟩ [(x,u)])/\∀base:Heap,(K w.params).In base->base.Ns mainGlobals mg->cB l.prog w (K w.params) mg base dH 20 G fd [x] (Qz (K w.params))) :
  W.WalkO q j O Y l.row.toRowW d [] (λf vs=>PySem.call f vs):=
 L2.ae8 (n:=63) (k:=20) (x:=x) (CX:=λ_=>dH) (sp:=λw=>Qz (K w.params)) hn t9 D ⟨rb,t9,t9⟩ I F (λ_ _ a ns hl _ J=>⟨a,ns,rb,J,hl,λ_=>rfl⟩) λ_ _ _ _ _ z=>z
namespace RV
end RV
structure QE (X:Cx)(e:Expr)(t:TE):Prop where
 out:PE X e t
structure QT (X:Cx)(e:Expr)(t:TT):Prop where
 out:PT X e t
structure QW (X:Cx)(e:Expr)(t:TT):Prop where
 out:PW X e t
structure QA (X:Cx)(es:List Expr)(t:TA):Prop where
 out:PA X es t
structure QS (X:Cx)(st:Stmt)(t:TS):Prop where
 out:PS X st t
structure yK (X:Cx)(st:List Stmt)(t:TS):Prop where
 out:xJ X st t
structure QG (X:Cx)(e:Expr)(t:TG):Prop where
 out:PG X e t
structure QGs (X:Cx)(es:List Expr)(t:N8):Prop where
 out:PGs X es t
structure QI (X:Cx)(tg iter:Expr)(wi:TI):Prop where
 out:PI X tg iter wi
structure QO (X:Cx)(e:Option Expr)(t:TO):Prop where
 out:PO X e t
structure QC (X:Cx)(op:CmpOp)(a b:Expr)(t:TE):Prop where
 out:PC X op a b t
structure QTs (X:Cx)(ifs:List Expr)(t:TT):Prop where
 out:W2 X ifs t
def QW.qt (h:QW X e t):QT X e t:=⟨h.out.pt⟩
section
variable {X:Cx}{st:Stmt}{rest:List Stmt}{t u:TS}
variable {pos:Pos}
variable {e:Expr}{te:TE}
def bR  : yK X [] aec:=⟨aeR⟩
def aB (h1:QS X st t)(h2:yK X rest u):yK X (st::rest) (agT t u):=⟨acv h1.out h2.out⟩
def aF (h1:QS X st t):yK X [st] t:=⟨aeS h1.out⟩
def cJ (j:QT X c tc)(ha:yK X a t)(hb:yK X b u):QS X (.If c a b pos) (agW tc t u):=⟨ai2 j.out ha.out hb.out⟩
def bD (j:QE X e te):QS X (.Return (some e) pos) (agU te):=⟨agV j.out⟩
def eE (j:QE X e te)(hs:swapsWith e none pos.line X.env=pure false:=by rfl):QS X (.Expr e pos) (aed te):=⟨aeT j.out hs⟩
end
section
variable {X:Cx}{tg:Expr}
def fP (hp:PassesOwn (model X.prog X.w) X.A X.env X.xe)(j:X.calm=true)(hi:QI X tg iter wi)(D:QG X tg g)(hb:yK X body tb)(hs:∀x,foldedSetIterable iter X.env x=pure x:=by intro _;rfl):QS X (.For tg iter body [] pos) (ag4 wi g tb):=⟨ag5 hp j hi.out D.out hb.out hs⟩
end
section
variable {X:Cx}{o value:Expr}{f:Str}{pos pos':Pos}{ta tv:TE}
def aX (D:X.N.Nodup)(hi:X.N[i]?=some x)(hx:Loc X.env.scope x)(j:QE X e te)(hs:swapsWith e (some (.Name x pos')) pos.line X.env=pure false:=by rfl)(F:X.fn x=true\/X.env.scope.names.lookup x=some .local:=by first|show .inl rfl|show .inr rfl|assumption):QS X (.Assign [.Name x pos'] e pos) (Lw te (sH i)):=⟨ag1 D hi hx j.out hs F⟩
def vC:yK X sts aax:=⟨aay⟩
def lV (ha:QE X o ta)(j:QE X value tv)(hs:swapsWith value (some (.Attribute o f pos')) pos.line X.env=pure false):QS X (.Assign [.Attribute o f pos'] value pos) (ag8 X.K ta tv f):=⟨aha ha.out j.out hs⟩
def xP (j:QE X e te)(D:QG X tg g)(hs:swapsWithSole [tg] e pos.line X.env=pure false:=by rfl)(hw:swappedStores [tg] e X.env=pure none:=by rfl)(h1:(assignEach [tg] X.env).map (·.2)=[assign tg X.env]:=by rfl):QS X (.Assign [tg] e pos) (Lw te g):=⟨ag0 j.out D.out hs hw h1⟩
def cj (j:X.N.Nodup)(hi:X.N[i]?=some x)(hx:Loc X.env.scope x)(D:X.fn x=true\/X.env.scope.names.lookup x=some .local:=by first|show .inl rfl|show .inr rfl|assumption):QG X (.Name x pos) (sH i):=⟨t_ j hi hx D⟩
def vD {es:List Expr}{k:Nat}{t:N8}{n:Nat}(D:X.calm=true)(h:QGs X es t)(hn:(assignEach es X.env).length=n:=by rfl)(j:(assignEach es X.env).findIdx? (·.1)=none:=by rfl):QG X (.Tuple es k pos) (YD X.K n t):=⟨Rc D h.out hn j⟩
def rK  : QGs X [] YC:=⟨Lr⟩
def dz (h1:QG X e t)(h2:QGs X es u)(hs:(assignEach (e::es) X.env).map (·.2)=assign e X.env::(assignEach es X.env).map (·.2):=by rfl):QGs X (e::es) (Bk t u):=⟨uc h1.out h2.out hs⟩
end
section
variable {X:Cx}
def aq {i j pos}:QE X (.Constant (.int i) j pos) (tC (.int i)):=⟨agG⟩
def iY {b j pos}:QE X (.Constant (.bool b) j pos) (tC (.bl b)):=⟨aiZ⟩
end
section
variable {X:Cx}{a b c:Expr}{ta tb tc:TE}{pos:Pos}
variable {tA:TT}
variable {qI:TT}{rest:List Expr}
def aL (j:gJ X (binaryOp op) r)(ha:QE X a ta)(hb:QE X b tb):QE X (.BinOp a op b pos) (Ht r ta tb):=⟨ai3 j ha.out hb.out⟩
def wH (j:UnR X (unaryOp op) r)(ha:QE X a ta):QE X (.UnaryOp op a pos) (tUn r ta):=⟨ai4 j ha.out⟩
def gK (j:gJ X (compareOp op) r)(ha:QE X a ta)(hb:QE X b tb)(hm:behindInMarks op b=false):QE X (.Compare a [op] [b] pos) (Ht r ta tb):=⟨aeV j ha.out hb.out hm⟩
def bU (j:gJ X (compareOp op) r)(ha:QE X a ta)(hb:QE X b tb)(hm:behindInMarks op b=false):QT X (.Compare a [op] [b] pos) (Qs (Ht r ta tb)):=⟨aeW j ha.out hb.out hm⟩
def mJ (F:gJ X (compareOp op) r)(j:gJ X (compareOp op') r')(ha:QE X a ta)(hb:QE X b tb)(D:QE X c tc)(hm:lastMarks [op,op'] [b,c]=false:=by with_unfolding_all rfl):QE X (.Compare a [op,op'] [b,c] pos) (DR r r' ta tb tc):=⟨acz F j ha.out hb.out D.out hm⟩
def Bp (F:gJ X (compareOp op) r)(j:gJ X (compareOp op') r')(ha:QE X a ta)(hb:QE X b tb)(D:QE X c tc)(hm:lastMarks [op,op'] [b,c]=false:=by with_unfolding_all rfl):QT X (.Compare a [op,op'] [b,c] pos) (Qs (DR r r' ta tb tc)):=⟨acA F j ha.out hb.out D.out hm⟩
def eO (h:QE X e t)(D:∀j,isTrue e X.env j=(do let v <- j;standAt e.pos;holding [v] (truthy v)):=by intro _;rfl):QT X e (tB t):=⟨agJ h.out D⟩
def fQ (ha:QT X a tA):QT X (.UnaryOp .Not a pos) (agL tA):=⟨agO ha.out⟩
def vG (ha:QT X a tA)(hb:QW X (.BoolOp .And (b::rest) pos) qI):QW X (.BoolOp .And (a::b::rest) pos) (agK tA qI):=⟨agN ha.out hb.out⟩
def w6 (ha:QT X a tA):QW X (.BoolOp .And [a] pos) tA:=⟨aeQ ha.out⟩
def oW (ha:QT X a tA)(hb:QW X (.BoolOp .Or (b::rest) pos) qI):QW X (.BoolOp .Or (a::b::rest) pos) (tOr tA qI):=⟨ai0 ha.out hb.out⟩
def nC (ha:QT X a tA):QW X (.BoolOp .Or [a] pos) tA:=⟨agM ha.out⟩
def lW (ha:QE X a ta)(hb:QE X (.BoolOp .And (b::rest) pos) tb):QE X (.BoolOp .And (a::b::rest) pos) (aea ta tb):=⟨agR ha.out hb.out⟩
def QB (ha:QE X a ta)(hb:QE X (.BoolOp .Or (b::rest) pos) tb):QE X (.BoolOp .Or (a::b::rest) pos) (agP ta tb):=⟨ai1 ha.out hb.out⟩
def j8 {op}(h:QE X a t):QE X (.BoolOp op [a] pos) t:=⟨agQ h.out⟩
def aaX (ha:QE X a ta):QE X (.UnaryOp .Not a pos) (aeb ta):=⟨agS ha.out⟩
def oh (j:QT X c tA)(ha:QE X a ta)(hb:QE X b tb):QE X (.IfExp c a b pos) (tIf tA ta tb):=⟨acu j.out ha.out hb.out⟩
def bf (j:JM X r)(ha:QE X a ta)(hb:QE X b tb)(hs:GD b):QE X (.Subscript a b pos) (Ht r ta tb):=⟨ai5 j ha.out hb.out hs⟩
end
section
variable {X:Cx}{e:Expr}{te:TE}{lo hi:Option Expr}{tl th:TO}{pos p2:Pos}
variable {es:List Expr}{t:TA}
variable {x:Str}{p:Pos}{id:String}{r:List V->Hp->VK->Prop}
variable {T:String}
def fD {r:V->Option Int->Option Int->Hp->VK->Prop}(D:WR X r)(F:QE X e te)(hl:QO X lo tl)(j:QO X hi th):QE X (.Subscript e (.Slice lo hi none p2) pos) (tSl r te tl th):=⟨acH D F.out hl.out j.out⟩
def ji  : QO X none WQ:=⟨ae3⟩
def fG (h:QE X e te):QO X (some e) (ael te):=⟨ae4 h.out⟩
def jU (h:QA X es t):QE X (.List es pos) (ahe t):=⟨ahg h.out⟩
def dJ {x1}(h:QA X es t):QE X (.Tuple es x1 pos) (ahd t):=⟨ahf h.out⟩
def ao  : QA X [] Ih:=⟨ahc⟩
def aj (ha:QE X e te)(j:QA X es t)(hs:starEach (e::es) X.env=(false,eval e X.env)::starEach es X.env:=by rfl):QA X (e::es) (Bm te t):=⟨aeY ha.out j.out hs⟩
def aW (G:iV X (.builtin id) r)(J:Gl X x)(hm:X.mg x=none)(I:bootBuiltins x=some (.builtin id))(ha:QA X (e::es) t)(hn:x≠"__name__":=by decide)(D:(x==("__debug__":Str))=false:=by decide)(F:starEach (e::es) X.env=(false,eval e X.env)::starEach es X.env:=by rfl)(j:(backTo pos (starEach es X.env)).any (·.1)=false:=by rfl):QE X (.Call (.Name x p) (e::es) [] pos) (tCB r t):=⟨acF G J hm I ha.out hn D F j⟩
def gR (G:iV X (.type T) r)(J:Gl X x)(hm:X.mg x=none)(I:bootBuiltins x=some (.type T))(ha:QA X (e::es) t)(hn:x≠"__name__":=by decide)(D:(x==("__debug__":Str))=false:=by decide)(F:starEach (e::es) X.env=(false,eval e X.env)::starEach es X.env:=by rfl)(j:(backTo pos (starEach es X.env)).any (·.1)=false:=by rfl):QE X (.Call (.Name x p) (e::es) [] pos) (tCB r t):=⟨aaJ G J hm I ha.out hn D F j⟩
end
section
variable {X:Cx}{o e:Expr}{es:List Expr}{to:TE}{t:TA}{name:Str}{apos cpos:Pos}{T id:String}{r:V->List V->Hp->VK->Prop}
variable {tg:Expr}
def gq (J:PlainAttrs T)(slot:Slot T name id)(I:typeOf (.builtin id)=pure (.type "method_descriptor"))(hm:Ab X id r)(O:QE X o to)(ha:QA X (e::es) t)(F:attributeBase o name X.env (eval o X.env)=eval o X.env:=by rfl)(G:((backTo cpos (starEach (e::es) X.env)).all (λx=>!x.1)&&(backToKw cpos (keywordEach [] X.env)).all (λx=>x.1.isSome)
   && decide ((e::es).length+([]:List Keyword).length+(if ([]:List Keyword).isEmpty then 0 else 1)<30))=true:=by rfl) (D:(apos.endLine==cpos.line)=true:=by rfl) (hs:starEach (e::es) X.env=(false,eval e X.env)::starEach es X.env:=by rfl) (j:(backTo cpos (starEach es X.env)).any (·.1)=false:=by rfl):QE X (.Call (.Attribute o name apos) (e::es) [] cpos) (tBM X.K T r to t):=
 ⟨ai7 J slot I hm O.out ha.out F G D hs j⟩
def Ea (G:PlainAttrs T)(slot:Slot T name id)(F:typeOf (.builtin id)=pure (.type "method_descriptor"))(hm:Ab X id r)(I:QE X o to)(D:attributeBase o name X.env (eval o X.env)=eval o X.env:=by rfl)(j:(apos.endLine==cpos.line)=true:=by rfl):QE X (.Call (.Attribute o name apos) [] [] cpos) (ahn X.K T r to):=⟨aho G slot F hm I.out D j⟩
def lQ {x:Str}{v:V}{u:Value}{pos:Pos}(D:Gl X x)(hm:X.mg x=none)(j:bootBuiltins x=some u)(r:cH v u)(hn:x≠"__name__":=by decide)(hd:(x==("__debug__":Str))=false:=by decide):QE X (.Name x pos) (tC v):=⟨aeP D hm j r hn hd⟩
def GP (j:Gl X x)(hm:X.mg x=some u)(r:cH v u)(hd:(x==("__debug__":Str))=false:=by decide):QE X (.Name x pos) (tC v):=⟨aeO j hm r hd⟩
def qj (hl:QE X l tl):QI X tg l (aee X.K tl):=⟨aeU hl.out⟩
def iB (hl:QE X l tl):QI X tg l (ag2 X.K tl):=⟨ag3 hl.out⟩
def lZ (j:Gl X "range")(hm:X.mg "range"=none)(ha:QA X [a] ta)(hs:starEach [a] X.env=[(false,eval a X.env)]:=by rfl):QI X tg (.Call (.Name "range" p) [a] [] pos) (aef ta):=⟨aaA j hm ha.out hs⟩
def Oq {a b:Expr}{ta:TA}{p pos:Pos}(D:Gl X "range")(hm:X.mg "range"=none)(ha:QA X [a,b] ta)(hs:starEach [a,b] X.env=[(false,eval a X.env),(false,eval b X.env)]:=by rfl)(j:starEach [b] X.env=[(false,eval b X.env)]:=by rfl):QI X tg (.Call (.Name "range" p) [a,b] [] pos) (aeg ta):=⟨aaB D hm ha.out hs j⟩
end
section
variable {X:Cx}{e:Expr}{f:Str}{pos:Pos}{ta:TE}
def cg (j:QE X e ta)(hb:attributeBase e f X.env (eval e X.env)=eval e X.env):QE X (.Attribute e f pos) (YS X.K ta f):=⟨ag9 j.out hb⟩
end
section
variable {X:Cx}{CX:vA}{k:Nat}{f C:Addr}{fd:FuncData}{ps:List Str}{sp:Sp}{lg:List V}{ds:List Value}{E:XK}{m:Str}{pos apos:Pos}{e o:Expr}{es:List Expr}{ta:TE}{t:TA}
variable {x:Str}{p:Pos}
variable {i:Expr}{td ty:TE}
variable {value:Expr}{tv:TE}{pos':Pos}
def ql {pl:Sem Bool}(I:QE X o ta)(c:Cls X.K C)(hm:Meth X.K C m f)(F:cB X.prog X.w X.K X.mg X.base CX k f fd ps sp)(G:fO k X.A)(hb:bT X.K fd ps ds)(hd:Vals lg ds)(hx:Passes CX X E)(ha:QA X (e::es) t)(D:starEach (e::es) X.env=(false,eval e X.env)::starEach es X.env:=by rfl)(j:(backTo pos (starEach es X.env)).any (·.1)=false:=by rfl)(ht:eval (.Call (.Attribute o m apos) (e::es) [] pos) X.env=(do
   let ov <- eval o X.env
   standAt apos.atName
   let (f,first) <- holding [ov] (getMethod ov m pl)
   callWith pos f first (backTo pos (starEach (e::es) X.env)) (backToKw pos (keywordEach [] X.env))):=by rfl):QE X (.Call (.Attribute o m apos) (e::es) [] pos) (Qt C m sp lg E ta t):=
 ⟨ae0 I.out c hm F G hb hd hx ha.out D j ht⟩
def dX (D:QE X o ta)(c:Cls X.K C)(hm:Meth X.K C m f)(F:cB X.prog X.w X.K X.mg X.base CX k f fd ps sp)(j:fO k X.A)(hb:bT X.K fd ps ds)(hd:Vals lg ds)(hx:Passes CX X E)(ht:eval (.Call (.Attribute o m apos) [] [] pos) X.env=(do
   let ov <- eval o X.env
   standAt apos.atName
   let (f,first) <- holding [ov] (getMethod ov m pl)
   callWith pos f first (backTo pos (starEach [] X.env)) (backToKw pos (keywordEach [] X.env))):=by rfl):QE X (.Call (.Attribute o m apos) [] [] pos) (Qt C m sp lg E ta Ih):=
 ⟨acD D.out c hm F j hb hd hx ht⟩
def rM (M:Mk X.K C f)(F:cB X.prog X.w X.K X.mg X.base CX k f fd ps sp)(G:fO (k+1) X.A)(J:Gl X x)(hm:X.mg x=some (.ref C))(hb:bT X.K fd ps ds)(hd:Vals lg ds)(hx:Passes CX X E)(ha:QA X (e::es) t)(D:(x==("__debug__":Str))=false:=by decide)(I:starEach (e::es) X.env=(false,eval e X.env)::starEach es X.env:=by rfl)(j:(backTo pos (starEach es X.env)).any (·.1)=false:=by rfl):QE X (.Call (.Name x p) (e::es) [] pos) (aej C sp lg E t):=⟨ae1 M F G J hm hb hd hx ha.out D I j⟩
def Rt  : QE X (.Dict [] [] pos) aaP:=⟨acM⟩
def ahA (j:X.A.units+1<cLine)(hi:QE X i ty)(D:QE X o td):QC X .In i o (ahr ty td):=⟨ahs j hi.out D.out⟩
def W6 (j:X.A.units+1<cLine)(F:QE X o td)(hi:QE X i ty)(D:QE X value tv)(hs:swapsWith value (some (.Subscript o i pos')) pos.line X.env=pure false):QS X (.Assign [.Subscript o i pos'] value pos) (aen td ty tv):=⟨ae7 j F.out hi.out D.out hs⟩
end
section
variable {X:Cx}{a b:Expr}{pos:Pos}
def ahB (h:QC X op a b t)(h1:behindInMarks op b=false:=by first|show acs _ t9 t9|rfl):QE X (.Compare a [op] [b] pos) t:=⟨agI h.out h1⟩
def qv (i:Nat){x:Str}{pos:Pos}(D:X.N[i]?=some x:=by rfl)(F:Wx X.env.scope x:=by first|show Or.inl rfl|show Or.inr (Or.inl rb)|show Or.inr (Or.inr rb))(hd:(x==("__debug__":Str))=false:=by decide)(j:(x==("__classdict__":Str))=false:=by decide):QE X (.Name x pos) (YB i):=⟨pv i D F hd j⟩
def aG {X:Cx}{x:Str}{pos:Pos}:=@qv X 0 x pos
def aZ {X:Cx}{x:Str}{pos:Pos}:=@qv X 1 x pos
def bG {X:Cx}{x:Str}{pos:Pos}:=@qv X 2 x pos
def bJ {X:Cx}{x:Str}{pos:Pos}:=@qv X 3 x pos
def dI {X:Cx}{x:Str}{pos:Pos}:=@qv X 4 x pos
def fj {X:Cx}{x:Str}{pos:Pos}:=@qv X 5 x pos
def fU {X:Cx}{x:Str}{pos:Pos}:=@qv X 6 x pos
def jl {X:Cx}{x:Str}{pos:Pos}:=@qv X 7 x pos
def mX {X:Cx}{x:Str}{pos:Pos}:=@qv X 8 x pos
def mY {X:Cx}{x:Str}{pos:Pos}:=@qv X 9 x pos
def nD {X:Cx}{x:Str}{pos:Pos}:=@qv X 10 x pos
def pC {X:Cx}{x:Str}{pos:Pos}:=@qv X 11 x pos
def eG:QTs X [] nu:=⟨ae9⟩
end
section
variable {X:Cx}
def bL (l){j pos}(h:x=S l):QE X (.Constant (.str x) j pos) (tC (.str (S l))):=⟨afa l h⟩
end
section
variable {X:Cx}{x:Str}{p pos:Pos}{e:Expr}{es:List Expr}{t:TA}
def bK (D:cu X.prog X.w X.K X.mg X.base x k ps sp)(G:fO k X.A)(I:Gl X x)(ha:QA X (e::es) t)(F:(x==("__debug__":Str))=false:=by decide)(hs:starEach (e::es) X.env=(false,eval e X.env)::starEach es X.env:=by rfl)(j:(backTo pos (starEach es X.env)).any (·.1)=false:=by rfl):QE X (.Call (.Name x p) (e::es) [] pos) (YX sp [] E0 t):=⟨ahy D G I ha.out F hs j⟩
end
def jG {X:Cx}(j:X.calm=true)(ok:ju X scope x)(hi:QI X (.Name x px) iter wi)(ht:∀cl C s₀ H₀ fp,QTs (blk X scope cl C x s₀ H₀ fp) ifs tt)(D:∀cl C s₀ H₀ fp,QE (blk X scope cl C x s₀ H₀ fp) elt te)(hs:∀x,foldedSetIterable iter X.env x=pure x:=by intro _;rfl):QE X (.ListComp elt [⟨.Name x px,iter,ifs,0⟩] scope pos) (aeo wi tt te):=⟨ae_ j ok hi.out (λcl C s₀ H₀ fp=>(ht cl C s₀ H₀ fp).out) (λcl C s₀ H₀ fp=>(D cl C s₀ H₀ fp).out) hs⟩
def rfg {as:List Addr}{n:Nat}{x:V}(h:(as.map V.ref)[n]?=some x):∃h:n<as.length,V.ref as[n]=x:=by
 let hn:n<as.length:=by have:=(al.mp h).1;simpa using this
 rw[cz,ae hn]at h;show⟨hn,bP h⟩
def aO.dM {K:W.Frag}{mg:Str->Option Value}{name:Str}{st:Stmt}{N ps:List Str}{k:Nat}{sp:Sp}(D:aO K mg name st ps)(S:bw N ps (aH st))(j:∀(f:Addr) (bN:Value) (A:Around) (outer:List Env) (s:Shared) (H:Hp) (vs:List V) (Q:VK) (E:XK),fO k (A.deeper (envOfC name (aH st) s.heap.objs.size f bN))->sp vs H Q E->
   ∃t,yK (ud dH P w K mg base N name (aH st) f bN A outer s H E).Rb (cT st) t/\t {nx:=λ_ H'=>Q .non H',rt:=Q} (start N vs) H) (len:∀vs H Q E,sp vs H Q E->vs.length=ps.length:=by intro _ _ _ _ h;repeat (first|(let⟨rfl,_⟩:=h;rfl)|let⟨_,h⟩:=h)):cu P w K mg base name (k+1) ps sp:=
 D.ok S len λf bN A outer s H vs Q E F h=>let ⟨t,a,b⟩:=j f bN A outer s H vs Q E F h;⟨t,a.out,b⟩
def fu.dM {K:W.Frag}{mg:Str->Option Value}{x qual:Str}{st:Stmt}{N ps:List Str}{k:Nat}{sp:Sp}(F:fu K x qual st f fd)(S:bw N ps (aH st))(j:∀(bN:Value) (A:Around) (outer:List Env) (s:Shared) (H:Hp) (vs:List V) (Q:VK) (E:XK),fO k (A.deeper (envOfC qual (aH st) s.heap.objs.size f bN))->sp vs H Q E->
   ∃t,yK (ud dH P w K mg base N qual (aH st) f bN A outer s H E).Rb (cT st) t/\t {nx:=λ_ H'=>Q .non H',rt:=Q} (start N vs) H) (len:∀vs H Q E,sp vs H Q E->vs.length=ps.length:=by intro _ _ _ _ h;repeat (first|(let⟨rfl,_⟩:=h;rfl)|let⟨_,h⟩:=h)):cB P w K mg base dH (k+1) f fd ps sp:=
 F.ok S len λbN A outer s H vs Q E D h=>let ⟨t,a,b⟩:=j bN A outer s H vs Q E D h;⟨t,a.out,b⟩
section
variable {prog:Program}{w:World}{A:Around}{E:AD}{s:Shared}
def JZ (G:wpAny (model prog w) A.in1 (collect v) (λvs s1=>∃I,StrsAre vs I/\vs.length<64/\
   ∀(h':Heap) (F:List Value) (j:List Str) (e:Nat),(∀b o,s1.heap.get? b=some o->h'.get? b=some o)->h'.get? s1.heap.objs.size=some (seqObj "list" F.toArray e)->StrsAre F j->j.Perm I->sortedS j=true->
    Q (.ref s1.heap.objs.size) {s1 with heap:=h' }) E s):wpAny (model prog w) A (call (.builtin "sorted") [v]) Q E s:=by
 calc Calls.call_function_entry kind_sorted plain_sorted entry_sorted (args_sorted1 _) ?_;unfold Builtin.«sorted»;calc af (m:=checkCount "sorted" 1 1 _) (ax ?_);calc af (cD G λvs s1 ⟨I,J,O,h⟩=>?_);calc af (wpAny_newList ?_);let D:(s1.heap.push (seqObj "list" vs.toArray 0)).get? s1.heap.objs.size=some (seqObj "list" vs.toArray 0):=bo _ rfl;refine af (ib (ij slot_list_sort (s:={s1 with heap:=s1.heap.push (seqObj "list" vs.toArray 0)}) ⟨_,D,rb⟩ entry_list_sort
  (list_sort_treeK (s:={s1 with heap:=s1.heap.push (seqObj "list" vs.toArray 0)}) strKind_oneLt D J.keysOf (λv₁ Z rest e=>keyKind_strs (by rw[<-e];show J)) O λst' hp hs=>⟨_,rb,?_⟩) (args_list_sort _)))
 let⟨j,h1,h2,h3⟩:=sorted_out_str J hp hs;let⟨e,Y⟩:=sortedHeap_at (vs:=vs) (out:=(arrOf st').map (·.2)) D;calc ax ⟨_,rb,h _ ((arrOf st').map (·.2)).toList j e (λb o z=>?_) (by rw[qB];show Y) h1 h2 h3⟩;let hb:b<s1.heap.objs.size:=aI z;rw[sortedHeap_old (cf hb) (by rw[fw];show iN hb)];show ag _ z
end
def Ru (h:ItemsOf (SignAt x) vs x.cps.size):StrsAre vs.toList (x.cps.toList.map λc=>(⟨#[c]⟩:Str)):=by
 let F:∀(l:List Value) (m:List Nat),l.length=m.length->(∀(j:Nat) v,l[j]?=some v->∃c u,m[j]?=some c/\v=.str ⟨#[c]⟩ u)->StrsAre l (m.map λc=>(⟨#[c]⟩:Str)):=by
  intro l
  induction l with
  | nil=>
   intro m hl _;cases m with| nil=>show .nil| cons c r=>simp at hl
  | cons a r ih=>
   intro m hl G;cases m with
   | nil=>simp at hl
   | cons c m=>
    let⟨J,u,e,rfl⟩:=G 0 a rfl;let I:c=J:=by simpa using e
    subst I;show .cons _ u (ih m (by simpa using hl) λj v D=>G (j+1) v D)
 calc F _ _ (by simpa using h.1) λj v D=>?_;let⟨c,u,e1,e2⟩:=h.2 j v (by simpa using D);show⟨c,u,by simpa using e1,e2⟩
section
theorem pG:∀{j:List Str} {us:List Value},StrsAre us j->Vals (j.map V.str) us
 | _,_,.nil=>.nil
 | _,_,.cons x t r=>.cons ⟨t,rb⟩ (pG r)
end
def Its (l:List Nat):It:=⟨λi _=>i<l.length,λi H x H'=>H'=H/\∃c,l[i]?=some c/\x=.str (S [c]),λi _=>l.length<=i⟩
def acS {P:Program}{w:World}{K:W.Frag}{tg:Expr}{ty:String}(j:ty="str_ascii_iterator"\/ty="str_iterator")(l:List Nat)(t:Tok)(it:Addr):Turn P w K tg (Its l) [it] it (λi h=>i<=l.length/\h.IsStrIter it ty (S l) t i) where
 mem:=by simp
 obj:=λi h st b hb=>by
  let e:b=it:=by simpa using hb
  subst e;let⟨_,o,e,c,d⟩:=st;show⟨o,e,λv z=>by rw[d]at z;cases z⟩
 keep:=λi h h' st k=>⟨st.1,let ⟨o,ho,r⟩:=st.2;⟨o,k it t7 o ho,r⟩⟩
 item:=by
  intro X hP hw hK G i ak s σ H E I Y st Z;subst hP hw hK;let⟨f0,f1,f2,f3,f4,f5⟩:=Y it t7;let F:i<(S l).cps.size:=Z;let O:∀(v:Value) (h':Heap) (tk:Nat),SignAt (S l) i v->h'.IsStrIter it ty (S l) t (i+1)->(∀b o,b∉[it]->s.heap.get? b=some o->h'.get? b=some o)->
    ∃u,some v=some u/\wpAny (model X.prog X.w) X.A (letOwnedTupleGo tg (.ref it) u) (λ_ s2=>∃x H',aP X ak σ H' s2/\cH x u/\(Its l).N_ i H x H'/\(i+1<=l.length/\s2.heap.IsStrIter it ty (S l) t (i+1))/\∀b∈[it],H' b=none) E {s with heap:=h',toks:=tk}:=by
   intro v h' tk J st' D;let⟨c,u,hc',rfl⟩:=J;let I1:aP X ak σ H {s with heap:=h',toks:=tk}:=I.turned (λb o hb e=>D b o (by simpa using hb) e) f0 f1 f3 f4 f5;let⟨o,e,c2,d2⟩:=id st';refine⟨_,rb,JG (s:={s with heap:=h',toks:=tk}) e c2 d2 (by rcases j with rfl|rfl <;> decide) ⟨.str (S [c]),H,I1,⟨u,rb⟩,⟨rb,c,by simpa [S] using hc',rb⟩,⟨Z,st'⟩,λb hb=>(Y b hb).1⟩⟩
  rcases j with rfl|rfl;.show(Walks.strAscii (prog:=X.prog) (w:=X.w) (I.ok.hd G) it (S l) t).item i s _ _ F st.2 λv h' tk J st' D=>O v h' tk J st' D
  .show(Walks.strWide (prog:=X.prog) (w:=X.w) (I.ok.hd G) it (S l) t).item i s _ _ F st.2 λv h' tk J st' D=>O v h' tk J st' D
 done:=by
  intro X hP hw hK G i ak s σ H E I Y st Z;subst hP hw hK;let⟨f0,f1,f2,f3,f4,f5⟩:=Y it t7;let hi:i=(S l).cps.size:=Nat.le_antisymm st.1 Z;let st':=st.2;rw[hi]at st';rcases j with rfl|rfl
  .show(Walks.strAscii (prog:=X.prog) (w:=X.w) (I.ok.hd G) it (S l) t).done s _ _ st' λh' tk D=>⟨rb,I.turned (λb o hb e=>D b o (by simpa using hb) e) f0 f1 f3 f4 f5⟩
  .show(Walks.strWide (prog:=X.prog) (w:=X.w) (I.ok.hd G) it (S l) t).done s _ _ st' λh' tk D=>⟨rb,I.turned (λb o hb e=>D b o (by simpa using hb) e) f0 f1 f3 f4 f5⟩
 self:=λA i s Q E st h=>by
  rcases j with rfl|rfl;.show wpAny_pyIter_striter_ascii st.2 h
  .show wpAny_pyIter_striter_wide st.2 h
def aaY {a b c:List Nat}(h1:¬b<a)(h2:¬c<b):¬c<a:=by let D:a<=b:=h1;let j:b<=c:=h2;show List.le_trans D j
theorem Ot:∀(r:List Str) (p:Str),risingS p r=true->(∀x∈r,¬x.cps.toList<p.cps.toList)/\(r.map λy=>y.cps.toList).Pairwise (λa b=>decide (b<a)=false)
 | [],_,_=>⟨λ_ h=>by simp at h,List.Pairwise.nil⟩
 | y::r,p,h=>by
  rw[risingS,cn]at h;let h0:¬y.cps.toList<p.cps.toList:=by have:=h.1;simpa [ltCps_eq] using this
  let⟨h1,h2⟩:=Ot r y h.2;refine⟨λx hx=>?_,?_⟩
  .rcases b9.mp hx with e|e;.rw[e];show h0
   .show aaY h0 (h1 x e)
  .rw[ce];calc List.Pairwise.cons (λb hb=>?_) h2;let⟨x,hx,rfl⟩:=bu.mp hb;show ah (h1 x hx)
def yL (ss)(h:sortedS ss=true):(ss.map λy=>y.cps.toList).Pairwise (λa b=>decide (b<a)=false):=by
 cases ss with| nil=>show List.Pairwise.nil| cons x r=>let⟨h1,h2⟩:=Ot r x h;rw[ce];calc List.Pairwise.cons (λb hb=>?_) h2;let⟨y,hy,rfl⟩:=bu.mp hb;show ah (h1 y hy)
section
variable {X:Cx}{tg:Expr}
def ajY (tl:TE):TI:=λσ H R=>tl σ H λx H1=>∃l,x=.str (S l)/\R (Its l) H1
def vH (hl:QE X l tl):QI X tg l (ajY tl):=⟨by
 intro ak s σ H R I h;calc cD (hl.out ak s σ H _ I h) λv s1 F=>?_;let⟨x,H1,j,r1,q1⟩:=F;let⟨l,e,q⟩:=q1;subst e;let⟨t,rfl⟩:=r1;calc wpAny_pyIter_strU ?_;let D:strIterType (S l)="str_ascii_iterator"\/strIterType (S l)="str_iterator":=by unfold strIterType;split <;> simp
 calc⟨s1.heap.objs.size,[s1.heap.objs.size],_,_,H1,rb,j.kept (t':=s1.toks) λb o e=>ag _ e,acS D l t _,⟨eD _,_,bo _ rb,rb,rb⟩,λb hb=>?_,q⟩;let e:b=s1.heap.objs.size:=by simpa using hb
 subst e;show j.Bl (ai _) (j.hok.fresh (ai _))⟩
def xQ {l:List Nat}{D:Addr}{te:TE}{σ:St}{H:Hp}{R:Hp->Prop}(j:Nat->List V->Hp->Prop)(h0:j 0 [] (upd H D (.lst [])))(hs:∀i c ys H,l[i]?=some c->j i ys H->te (some (.str (S [c]))::σ) H (LK l.length i D ys (j (i+1))))(hd:∀ys H,j l.length ys H->R H):DX (Its l) D H R (Y8 σ nu te):=acP l.length j h0 (λi ys H h p=>⟨h,λx H' y=>by let⟨rfl,c,F,rfl⟩:=y;show hs i c ys _ F p⟩) λys H p=>⟨ai _,hd ys H p⟩
def j6 (hc:X.calm=true):iV X (.builtin "all") (λxs H Q=>∃(p:Addr) (bs:List Bool),xs=[.ref p]/\bI X.K H p (bs.map V.bl)/\Q (.bl (bs.all id)) H):=by
 intro ak s σ H xs us Q I r h;let⟨p,bs,rfl,hq,q⟩:=h;let⟨u,rfl,F⟩:=vals1 r;cases F;let⟨its,O,pl,hz⟩:=I.list hq;let G:p≠s.heap.objs.size:=by let⟨o,ho,_⟩:=pl.isList;show cf (aI ho)
 let hb:∀(i:Nat) (v:Value),its[i]?=some v->v=.bool (bs.getD i true):=λi v j=>by
  let Z:=O.length;let hi:i<bs.length:=by have:=(al.mp j).1;simp at Z;simp_all
  let⟨u,hu,F⟩:=O.get (i:=i) (x:=.bl bs[i]) (by simp[hi]);rw[j]at hu;cases hu;cases F;simp[List.getD,hi]
 calc call_all_walk (iF pl.isList ?_);refine⟨s.heap.objs.size,_,_,_,_,_,λi=>bs.getD i true,rb,Walks.list (A:=X.A.in1) (I.ok.hd hc) s.heap.objs.size p G its.toArray,⟨⟨_,bo _ rb,rb,rb⟩,pl.isList.at λo e=>ag _ e⟩,?_,λh' tk kk=>?_⟩
 .intro i v s' Q' E' j J;let e:=hb i v (by simpa using j);subst e;show fS J
 .let I1:aP X ak σ H {s with heap:=h',toks:=tk}:=I.kept λb o e=>kk b o (by
   intro hm;have:b=s.heap.objs.size:=by simpa using hm
   subst this;show absurd (aI e) (fF _)) (ag _ e)
  calc⟨.bl (bs.all id),H,I1,?_,q⟩;show Value.bool _=Value.bool _;let Z:its.toArray.size=bs.length:=by have:=O.length;simp at this;simp[this]
  rw[Z];congr 1;let D:∀bs:List Bool,(List.range bs.length).all (λi=>bs.getD i true)=bs.all id:=λbs=>by
   rw[jI,gt,gt];constructor
   .intro h x hx;let⟨i,hi,rfl⟩:=dC.mp hx;have:=h i (im.mpr hi);simpa [List.getD,hi] using this
   .intro h i hi;let Y:=im.mp hi;have:=h bs[i] (a9 _);simpa [List.getD,Y] using this
  show D bs
def acT:R2:=λx y H Q=>∃i j,x=.str (S i)/\y=.str (S j)/\Q (.bl (!decide (j<i))) H
def oN:gJ X (compareOp .LtE) acT:=by intro ak s σ H x y v u Q I F D h;let⟨i,j,rfl,rfl,q⟩:=h;let⟨t,rfl⟩:=F;let⟨t',rfl⟩:=D;show PySem.P.le_str ⟨.bl _,H,I,rb,q⟩
abbrev cZ (l:List Nat):Key:=Sum.inr (S l)
def Rv (hc:X.calm=true):iV X (.builtin "sorted") (λxs H Q=>∃(d:Addr) (kvs:List (Key×V)) (ws:AA),xs=[.ref d]/\H d=some (.dK kvs)/\kvs.map (·.1)=ws.map cZ/\ws.length<64/\
  ∀(p:Addr) (J:AA),H p=none->J.Perm ws->J.Pairwise (λa b=>decide (b<a)=false)->Q (.ref p) (upd H p (.lst (Ts J)))):=by
 intro ak s σ H xs us Q I r h;let⟨d,kvs,ws,rfl,hd,hk,h64,q⟩:=h;let⟨u,rfl,ru⟩:=vals1 r;cases ru;let⟨hz,lo,vs,Z,dd⟩:=Y6 I.hok hd;let⟨ep,hat⟩:=dd.dictAt;let hkv:=KV.keys Z;let O:vs.length=ws.length:=by let h1:=KV.length Z;let h2:=congrArg List.length hk;simp at h2;lia
 calc JZ (W.kdu_collect (A:=X.A.in1) (W.kdl_dict (knd:=iw X.prog X.w) (kvs:=vs) (ep:=ep) lo) (I.ok.hd hc) hat (by rw[O];show am (aJ t6)) λh' tk acc kk G=>?_);let hS:StrsAre acc.toList (ws.map S):=by
  let key:∀(l:List Value) (m:AA),l.length=m.length->(∀(j:Nat) v,l[j]?=some v->∃c,m[j]?=some c/\∃u,v=.str (S c) u)->StrsAre l (m.map S):=by
   intro l
   induction l with
   | nil=>intro m hl _;cases m with|nil=>show .nil|cons c r=>simp at hl
   | cons a r ih=>
    intro m hl hv;cases m with
    | nil=>simp at hl
    | cons c m=>
     let⟨c',e,u,rfl⟩:=hv 0 a rfl;let e':c=c':=by simpa using e
     subst e';show .cons _ u (ih m (by simpa using hl) λj v hj=>hv (j+1) v hj)
  calc key _ _ (by rw[cy,G.1,O]) λj v hj=>?_;let⟨k,x,hx,hi⟩:=G.2 j v (by simpa using hj);let F:(ws.map cZ)[j]?=some k:=by rw[<-hk,hkv,cz,hx];rfl
  rw[cz]at F;cases hw:ws[j]? with
  | none=>rw[hw]at F;cases F
  | some c=>
   rw[hw]at F;let e:cZ c=k:=by simpa using F
   subst e;calc⟨c,rb,?_⟩;rcases jr (show Bg (Sum.inr (S c)) v=true from hi) with⟨i,t,e1,_⟩|⟨y,t,e1,e2⟩;.cases e1
   .cases e1;show⟨t,e2⟩
 let I1:aP X ak σ H {s with heap:=h',toks:=tk}:=I.kept kk;calc⟨_,hS,by rw[cy,G.1,O];show h64,λh2 Y D e k2 he hS' pm so=>?_⟩;let es:D=(D.map λy=>y.cps.toList).map S:=by rw[f_];calc(kK _).symm.trans (fE λy _=>?_);show(ahw y).symm
 let Eb:(D.map λy=>y.cps.toList).Perm ws:=by have:=pm.map λy:Str=>y.cps.toList;rw[f_]at this;let e:((λy:Str=>y.cps.toList) ∘ S)=id:=rfl;rw[e,kK]at this;show this
 let hv:Vals (Ts (D.map λy=>y.cps.toList)) Y:=by have:=pG hS';rw[es]at this;simpa [Ts,oq] using this
 let hl:(Ts (D.map λy=>y.cps.toList)).length<=sizeLine:=by rw[aa,Eb.length_eq];show am (aJ t6)
 refine⟨.ref h'.objs.size,_,I1.laid (o:=.lst _) (t':=tk) k2 (ai _) ⟨hl,Y,e,hv,he⟩,rb,q _ _ I1.fresh Eb (yL D so)⟩
def QI.or (h1:QI X tg iter w1)(h2:QI X tg iter w2):QI X tg iter (λσ H R=>w1 σ H R\/w2 σ H R):=⟨λak s σ H R I h=>by
 rcases h with h|h;.show h1.out ak s σ H R I h
 .show h2.out ak s σ H R I h⟩
end
def bI.keep {K:W.Frag}{xs:List V}(k:∀b o,H b=some o->b≠p->H' b=some o)(hp:∀o,H p=some o->(∀ys,o≠.lst ys)/\∀u ys,o≠.qH u (.lst ys))(h:bI K H a xs):bI K H' a xs:=by
 rcases h with(h|⟨o,h⟩)|h;.show .inl (.inl (k _ _ h λe=>(hp _ (e ▸ h)).1 _ rb))
 .show .inl (.inr ⟨o,k _ _ h λe=>(hp _ (e ▸ h)).2 _ _ rb⟩)
 .show .inr h
def aU.keep {K:W.Frag}{xs:List V}(k:∀b o,H b=some o->b≠p->H' b=some o)(hp:∀o,H p=some o->(∀ys,o≠.tup ys)/\∀u ys,o≠.qH u (.tup ys))(h:aU K H a xs):aU K H' a xs:=by
 rcases h with(h|⟨o,h⟩)|h;.show .inl (.inl (k _ _ h λe=>(hp _ (e ▸ h)).1 _ rb))
 .show .inl (.inr ⟨o,k _ _ h λe=>(hp _ (e ▸ h)).2 _ _ rb⟩)
 .show .inr h
end L2
namespace L2
open PySem PySem.Spec PyProof.Rows PySem.W
def afd:List V->Hp->VK->Prop:=λxs H Q=>∃l,xs=[.str (S l)]/\l.length<64/\∀(p:Addr) (j:List Nat),H p=none->j.Perm l->(j.map λc=>[c]).Pairwise (λa b=>decide (b<a)=false)->Q (.ref p) (upd H p (.lst (Ts (j.map λc=>[c]))))
section
variable {X:Cx}
def Dm (hc:X.calm=true):iV X (.builtin "sorted") afd:=by
 intro ak s σ H xs us Q I r h;let⟨l,rfl,G,q⟩:=h;let⟨u,rfl,ru⟩:=vals1 r;let⟨t,rfl⟩:=ru;let hz:(S l).cps.size<=sizeLine:=by show l.length<=sizeLine;show am (aJ t6)
 calc JZ (wpAny_collect_str (A:=X.A.in1) (I.ok.hd hc) (S l) t (λs1 acc k1 k2 k3 k4 D=>?_) hz);let hS:=Ru D;calc⟨_,hS,?_,λh' F j e kk he O pm J=>?_⟩;.rw[cy,D.1];show G
 let Y:aP X ak σ H s1:=by let I5:=I.kept (h':=s1.heap) (t':=s1.toks) k1;let⟨h',g',d',t'',o'⟩:=s1;simp only at k2 k3 k4;subst k2 k3 k4;show I5
 let Z:(j.map λy=>y.cps.toList.headD 0).Perm l:=by have:=pm.map λy:Str=>y.cps.toList.headD 0;rw[f_]at this;let e:((λy:Str=>y.cps.toList.headD 0) ∘ λc=>(⟨#[c]⟩:Str))=id:=rfl;rw[e,kK,Y9]at this;show this
 let es:j=(j.map λy=>y.cps.toList.headD 0).map λc=>(⟨#[c]⟩:Str):=by rw[f_];calc(kK _).symm.trans (fE λy hy=>?_);let⟨c,_,rfl⟩:=bu.mp (pm.mem_iff.mp hy);rfl
 let hn:H s1.heap.objs.size=none:=Y.fresh;let hv:Vals (Ts ((j.map λy=>y.cps.toList.headD 0).map λc=>[c])) F:=by have:=pG O;rw[es]at this;simpa [Ts,S,oq] using this
 let hl:(Ts ((j.map λy=>y.cps.toList.headD 0).map λc=>[c])).length<=sizeLine:=by rw[aa,aa,Z.length_eq];show am (aJ t6)
 calc⟨.ref s1.heap.objs.size,_,Y.laid (o:=.lst _) (t':=s1.toks) kk (ai _) ⟨hl,F,e,hv,he⟩,rb,q _ _ hn Z ?_⟩;let pw:=yL j J;rw[es,f_]at pw;show pw
end
end L2
namespace L2
open PySem PySem.Spec PyProof.Rows
section
variable {X:Cx}
def aje (i j:Int):Prop:=0<j/\j.natAbs.log2<9000
def Im:gJ X (binaryOp .FloorDiv) (rI aje λi j=>.int (i/j)):=opI λi j _ _ _ _ _ D q=>by let e:i.fdiv j=i/j:=sh _ (Int.le_of_lt D.1);rw[<-e]at q;show floordiv_int (Int.ne_of_gt D.1) q (.inl (PyProof.noPylong_of_log2 D.2))
def ajZ:V->List V->Hp->VK->Prop:=λx vs H Q=>∃l,x=.str (S l)/\vs=[]/\l.length<=1000/\(∀c∈l,c<128)/\Q (.str (S (l.map up1))) H
def aaZ:Ab X "str.upper" ajZ:=by
 intro ak s σ H x vs v us Q I G J h;let⟨l,rfl,rfl,hz,ha,q⟩:=h;let⟨t,rfl⟩:=G;let D:=J.zero;subst D;let j:Builtin.Str.tooLong (Txt.upper (S l)).length=false:=fit_upper (by rw[sJ];lia);calc call_gives F.slot_str_upper (typeIs_str s _ t) F.entry_str_upper (F.args_str_upper_1 _) (gives_str_upper (S l) t j) ⟨fit_le j,?_⟩;let e:Txt.upper (S l)=S (l.map up1):=by rw[upper_ascii (x:=S l) ha];simp[S]
 show⟨.str (S (l.map up1)),H,I.tok _,⟨s.toks,congrArg (λz=>Value.str z s.toks) e⟩,q⟩
def aj0:V->List V->Hp->VK->Prop:=λx vs H Q=>∃l,x=.str (S l)/\vs=[]/\l.length<=1000/\(∀c∈l,c<128)/\Q (.str (S (l.map lo1))) H
def Rw:Ab X "str.lower" aj0:=by
 intro ak s σ H x vs v us Q I G J h;let⟨l,rfl,rfl,hz,ha,q⟩:=h;let⟨t,rfl⟩:=G;let D:=J.zero;subst D;let j:Builtin.Str.tooLong (Txt.lower (S l)).length=false:=fit_lower (by rw[sJ];lia);calc call_gives F.slot_str_lower (typeIs_str s _ t) F.entry_str_lower (F.args_str_lower_1 _) (gives_str_lower (S l) t j) ⟨fit_le j,?_⟩;let e:Txt.lower (S l)=S (l.map lo1):=by rw[lower_ascii (x:=S l) ha];simp[S]
 show⟨.str (S (l.map lo1)),H,I.tok _,⟨s.toks,congrArg (λz=>Value.str z s.toks) e⟩,q⟩
end
def LR {l:List Nat}{g:TG}{tb:TS}{D:Ends}{σ:St}{H:Hp}(j:Nat->St->Hp->Prop)(h0:j 0 σ H)(hs:∀i c σ H,l[i]?=some c->j i σ H->g (.str (S [c])) σ H λσ2 F=>tb {D with nx:=j (i+1),ct:=j (i+1),bk:=D.nx} σ2 F)(hd:∀σ H,j l.length σ H->D.nx σ H):Lx (Its l) g tb D σ H:=YH l.length j h0 (λi σ H h p=>⟨h,λx H' y=>by let⟨rfl,c,G,rfl⟩:=y;show hs i c σ _ G p⟩) λσ H p=>⟨ai _,hd σ H p⟩
def AL:List Nat:=(List.range 26).map (97 + ·)
def xq {α:Type}{xs:List α}(hn:xs.length=n)(h:0<n)(c):∃v,rH xs (c%(n:Int))=some v/\v∈xs:=by
 let h0:0<=c%(n:Int):=ej _ t6;let h1:c%(n:Int)<n:=eQ _ (Iff.mpr qo h);obtain⟨k,hk⟩:∃k:Nat,c%(n:Int)=(k:Int):=⟨(c%(n:Int)).toNat,t6⟩
 rw[hk];let hl:k<xs.length:=by simp_all
 show⟨xs[k],aV (by simp[hl]),a9 _⟩
inductive Dt where
 | non|int (i:Int)|str (l:List Nat)|tup (ds:List Dt)|lst (ds:List Dt)
mutual
def toP:Dt->PyData
 | .non=>.none
 | .int i=>.int i
 | .str l=>.str (S l)
 | .tup ds=>.tuple (nF ds)
 | .lst ds=>.list (nF ds)
def nF:List Dt->List PyData
 | []=>[]
 | d::ds=>toP d::nF ds
end
mutual
theorem Y_:∀d e:Dt,PyData.eqv (toP d) (toP e)=true↔d=e
 | .non,.non=>by simp[toP,PyData.eqv]
 | .non,.int _=>by simp[toP,PyData.eqv]
 | .non,.str _=>by simp[toP,PyData.eqv]
 | .non,.tup _=>by simp[toP,PyData.eqv]
 | .non,.lst _=>by simp[toP,PyData.eqv]
 | .int _,.non=>by simp[toP,PyData.eqv]
 | .int _,.int _=>by simp[toP,PyData.eqv]
 | .int _,.str _=>by simp[toP,PyData.eqv]
 | .int _,.tup _=>by simp[toP,PyData.eqv]
 | .int _,.lst _=>by simp[toP,PyData.eqv]
 | .str _,.non=>by simp[toP,PyData.eqv]
 | .str _,.int _=>by simp[toP,PyData.eqv]
 | .str a,.str b=>by simp only[toP,PyData.eqv,beq_iff_eq,Dt.str.injEq];show⟨yJ,λz=>by rw[z]⟩
 | .str _,.tup _=>by simp[toP,PyData.eqv]
 | .str _,.lst _=>by simp[toP,PyData.eqv]
 | .tup _,.non=>by simp[toP,PyData.eqv]
 | .tup _,.int _=>by simp[toP,PyData.eqv]
 | .tup _,.str _=>by simp[toP,PyData.eqv]
 | .tup ds,.tup es=>by simp only[toP,PyData.eqv,Dt.tup.injEq];show Rx ds es
 | .tup _,.lst _=>by simp[toP,PyData.eqv]
 | .lst _,.non=>by simp[toP,PyData.eqv]
 | .lst _,.int _=>by simp[toP,PyData.eqv]
 | .lst _,.str _=>by simp[toP,PyData.eqv]
 | .lst _,.tup _=>by simp[toP,PyData.eqv]
 | .lst ds,.lst es=>by simp only[toP,PyData.eqv,Dt.lst.injEq];show Rx ds es
theorem Rx:∀ds es:List Dt,PyData.eqvAll (nF ds) (nF es)=true↔ds=es
 | [],[]=>by simp[nF,PyData.eqvAll]
 | [],_::_=>by simp[nF,PyData.eqvAll]
 | _::_,[]=>by simp[nF,PyData.eqvAll]
 | d::ds,e::es=>by simp only[nF,PyData.eqvAll,cn,List.cons.injEq];rw[Y_ d e,Rx ds es]
end
open Classical in
def L_ (d e:Dt):PyData.eqv (toP d) (toP e)=decide (d=e):=by
 by_cases h:d=e;.rw[aw h];show(Y_ d e).mpr h
 .rw[ah h];cases z:PyData.eqv (toP d) (toP e) with| false=>rfl| true=>show absurd ((Y_ d e).mp z) h
mutual
inductive lq (K:W.Frag) (H:Hp):Nat->Dt->V->Prop
 | non {n}:lq K H n .non .non
 | int {n} (i:Int):lq K H n (.int i) (.int i)
 | str {n} (l:List Nat) (h:∀c∈l,c<128):lq K H n (.str l) (.str (S l))
 | tup {n a ds xs} (h:aU K H a xs) (hs:d_ K H n ds xs):lq K H (n+1) (.tup ds) (.ref a)
 | lst {n a ds xs} (h:bI K H a xs) (hs:d_ K H n ds xs):lq K H (n+1) (.lst ds) (.ref a)
inductive d_ (K:W.Frag) (H:Hp):Nat->List Dt->List V->Prop
 | nil {n}:d_ K H n [] []
 | cons {n d ds x xs} (h:lq K H n d x) (hs:d_ K H n ds xs):d_ K H n (d::ds) (x::xs)
end
def W7 (h:∀c∈l,c<128):PyData.strOk (S l)=true:=by unfold PyData.strOk;show l.toArray.all _=true;rw[Array.all_eq_true_iff_forall_mem];intro x hx;have:=h x (by simpa using hx);show aw t6
mutual
theorem lq.lay {K:W.Frag}:∀{n:Nat} {d:Dt} {x:V},lq K H n d x->(toP d).canLay0=true/\(toP d).depth<=n
 | _,_,_,.non=>by simp[toP,PyData.canLay0,PyData.depth]
 | _,_,_,.int _=>by simp[toP,PyData.canLay0,PyData.depth]
 | _,_,_,.str l h=>by simp only[toP,PyData.canLay0,PyData.depth];show⟨W7 h,eD _⟩
 | _,_,_,.tup _ hs=>by simp only[toP,PyData.canLay0,PyData.depth];have:=hs.lay;show⟨this.1,iX this.2⟩
 | _,_,_,.lst _ hs=>by simp only[toP,PyData.canLay0,PyData.depth];have:=hs.lay;show⟨this.1,iX this.2⟩
theorem d_.lay {K:W.Frag}:∀{n:Nat} {ds:List Dt} {xs:List V},d_ K H n ds xs->PyData.canLayAll0 (nF ds)=true/\PyData.depthAll (nF ds)<=n
 | _,_,_,.nil=>by simp[nF,PyData.canLayAll0,PyData.depthAll]
 | _,_,_,.cons h hs=>by let a:=h.lay;let b:=hs.lay;simp only[nF,PyData.canLayAll0,PyData.depthAll,cn];show⟨⟨a.1,b.1⟩,Nat.max_le.mpr ⟨a.2,b.2⟩⟩
end
mutual
theorem lq.same {K:W.Frag}(sm:aD H H')(st:∀a xs,aU K H a xs->aU K H' a xs):∀{n:Nat} {d:Dt} {x:V},lq K H n d x->lq K H' n d x
 | _,_,_,.non=>.non
 | _,_,_,.int i=>.int i
 | _,_,_,.str l h=>.str l h
 | _,_,_,.tup h hs=>.tup (st _ _ h) (hs.same sm st)
 | _,_,_,.lst h hs=>.lst (sm.seq h) (hs.same sm st)
theorem d_.same {K:W.Frag}(sm:aD H H')(st:∀a xs,aU K H a xs->aU K H' a xs):∀{n:Nat} {ds:List Dt} {xs:List V},d_ K H n ds xs->d_ K H' n ds xs
 | _,_,_,.nil=>.nil
 | _,_,_,.cons h hs=>.cons (h.same sm st) (hs.same sm st)
end
section
variable {X:Cx}
mutual
theorem lq.reads {ak:AE}{σ:St}{H:Hp}{s:Shared}(I:aP X ak σ H s):∀{n:Nat} {d:Dt} {x:V} {u:Value},lq X.K H n d x->cH x u->∃as,Reads s.heap u (toP d) as
 | _,_,_,u,.non,r=>by cases r;show⟨[],by rw[toP];show .none⟩
 | _,_,_,u,.int i,r=>by let⟨t,rfl⟩:=r;show⟨[],by rw[toP];show .int i t⟩
 | _,_,_,u,.str l h,r=>by let⟨t,rfl⟩:=r;show⟨[],by rw[toP];show .str _ t⟩
 | _,_,_,u,.tup h hs,r=>by cases r;let⟨its,D,pl,_⟩:=I.tuple h;let⟨as,G⟩:=hs.reads I D;let⟨o,j,F,n,hd⟩:=pl;show⟨as,by rw[toP];show .tuple j F hd (by simpa using G)⟩
 | _,_,_,u,.lst h hs,r=>by cases r;let⟨its,D,pl,_⟩:=I.list h;let⟨as,G⟩:=hs.reads I D;let⟨o,j,F,n,hd⟩:=pl.isList;show⟨_::as,by rw[toP];show .list j F hd (by simpa using G)⟩
theorem d_.reads {ak:AE}{σ:St}{H:Hp}{s:Shared}(I:aP X ak σ H s):∀{n:Nat} {ds:List Dt} {xs:List V} {us:List Value},d_ X.K H n ds xs->Vals xs us->∃as,ReadsAll s.heap us (nF ds) as
 | _,_,_,us,.nil,r=>by cases r;show⟨[],by rw[nF];show .nil⟩
 | _,_,_,us,.cons h hs,r=>by
  cases r with| cons q t=>let⟨as,a⟩:=h.reads I q;let⟨bs,b⟩:=hs.reads I t;show⟨as++bs,by rw[nF];show .cons a b⟩
end
def lq.shaped {K:W.Frag}{n:Nat}{d:Dt}{x:V}(h:lq K H n d x)(hn:n<=64):SeqAt.shaped (toP d)=true:=by unfold SeqAt.shaped;rw[h.lay.1,aw (bS h.lay.2 hn)];rfl
open Classical in
def ahC (K:W.Frag)(j:Bool):R2:=λx y H Q=>∃n d e,n<=64/\lq K H n d x/\lq K H n e y/\Q (.bl (if j then !decide (d=e) else decide (d=e))) H
def J0 (F:X.A.units+64<cLine):gJ X (compareOp .Eq) (ahC X.K false):=by intro ak s σ H x y v u Q I D O h;let⟨n,d,e,hn,hd,j,q⟩:=h;let⟨as,J⟩:=hd.reads I D;let⟨bs,G⟩:=j.reads I O;calc SeqAt.compareEq_shaped J G (hd.shaped hn) (j.shaped hn) F ⟨.bl _,H,I,rb,?_⟩;rw[L_];show q
def Ry (F:X.A.units+64<cLine):gJ X (compareOp .NotEq) (ahC X.K true):=by intro ak s σ H x y v u Q I D O h;let⟨n,d,e,hn,hd,j,q⟩:=h;let⟨as,J⟩:=hd.reads I D;let⟨bs,G⟩:=j.reads I O;calc SeqAt.compareNe_shaped J G (hd.shaped hn) (j.shaped hn) F ⟨.bl _,H,I,rb,?_⟩;rw[L_];show q
def ahD (K:W.Frag):V->List V->Hp->VK->Prop:=λx vs H Q=>∃p ls,x=.str (S [])/\vs=[.ref p]/\aU K H p (Ts ls)/\ls.flatten.length<=1000/\Q (.str (S ls.flatten)) H
def xR:Ab X "str.join" (ahD X.K):=by
 intro ak s σ H x vs v us Q I j G h;let⟨p,ls,rfl,rfl,D,hz,q⟩:=h;let⟨t,rfl⟩:=j;let⟨u,rfl,F⟩:=vals1 G;cases F;let⟨its,r,pl,_⟩:=I.tuple D;refine join_tuple pl (ys:=ls.map S) (by simpa using GJ r) ?_ λt' k=>?_
 .rw[W5];show _+_*0<=_;lia
 .show⟨.str (S ls.flatten),H,I.tok k,⟨t',congrArg (λz=>Value.str z t') (W4 ls)⟩,q⟩
def Rz (lo c:Int)(n:Nat):It:=⟨λi _=>i<n,λi H x H'=>H'=H/\x=.int (lo+i*c),λi _=>n<=i⟩
def Vz {P:Program}{w:World}{K:W.Frag}{tg:Expr}(it:Addr)(lo c:Int)(n:Nat):Turn P w K tg (Rz lo c n) [it] it (λi h=>IsRangeIter h it (lo+(i:Nat)*c) ((n:Int)-(i:Nat)) c) where
 mem:=by simp
 obj:=λi h st b hb=>by
  let e:b=it:=by simpa using hb
  subst e;show⟨_,st,λv z=>by let z':Data.fields _=Data.cell v:=z;cases z'⟩
 keep:=λi h h' st k=>k it t7 _ st
 item:=by intro X D hw F G i ak s σ H E I j st J;subst D hw F;let⟨f0,f1,f2,f3,f4,f5⟩:=j it t7;let W:=Walks.range (prog:=X.prog) (w:=X.w) (I.ok.hd G) it lo c n;calc W.item i s _ _ J st λv h' tk Z st' kk=>?_;let⟨t,rfl⟩:=Z;let O:aP X ak σ H {s with heap:=h',toks:=tk}:=I.turned (λb o hb e=>kk b o (by simpa using hb) e) f0 f1 f3 f4 f5;show⟨_,rb,JG (s:={s with heap:=h',toks:=tk}) (n:="range_iterator") st' rb rb t9 ⟨.int (lo+i*c),H,O,⟨t,rb⟩,⟨rb,rb⟩,st',λb hb=>(j b hb).1⟩⟩
 done:=by intro X D hw F G i ak s σ H E I j st J;subst D hw F;let⟨f0,f1,f2,f3,f4,f5⟩:=j it t7;show wpAny_pyNext_range_end (I.ok.hd G) st (by have:n<=i:=J;lia) λh' Y=>⟨rb,I.turned (t':=s.toks) (λb o hb e=>Y b o hb e) f0 f1 f3 f4 f5⟩
 self:=λ_ _ _ _ _ st h=>wpAny_pyIter_rangeiter st h
variable {tg:Expr}
def ajf (ta:TA):TI:=λσ H R=>ta σ H λvs H1=>∃r c:Nat,vs=[.int 0,.int ((r*c:Nat):Int),.int (c:Int)]/\1<=r/\r<=9/\1<=c/\c<=9/\R (Rz 0 c r) H1
def ahE:∀r c:Fin 10,1<=r.val->1<=c.val->Builtin.Range.small 0 ((r.val*c.val:Nat):Int) (c.val:Int)=true/\Builtin.Range.rangeSize 0 ((r.val*c.val:Nat):Int) (c.val:Int)=(r.val:Int):=by decide +kernel
def aa0 {a b c:Expr}{ta:TA}{p pos:Pos}(Y:Gl X "range")(hm:X.mg "range"=none)(ha:QA X [a,b,c] ta)(hs:starEach [a,b,c] X.env=[(false,eval a X.env),(false,eval b X.env),(false,eval c X.env)]:=by rfl)(j:starEach [b,c] X.env=[(false,eval b X.env),(false,eval c X.env)]:=by rfl):QI X tg (.Call (.Name "range" p) [a,b,c] [] pos) (ajf ta):=⟨by
 intro ak s σ H R I h;calc Call_ (vo I Y hm boot_range (gh (cD (ha.out pos ak s σ H _ I h) λus s1 Z=>?_) (by rw[hs,j]) (by rw[j];rfl)));let⟨vs,H1,O,r1,q1⟩:=Z;let⟨r,c,e,q1,q2,q3,q4,q⟩:=q1;subst e;cases r1 with
 | cons r1 rr=>
  cases rr with
  | cons r2 rr=>
   cases rr with
   | cons r3 rr=>
    cases rr;let⟨F,rfl⟩:=r1;let⟨D,rfl⟩:=r2;let⟨G,rfl⟩:=r3;let⟨sm,sz⟩:=ahE ⟨r,Nat.lt_succ_of_le q2⟩ ⟨c,t6⟩ q1 q3;calc call_range_3 t6 ?_ (.inl (PyProof.noPylong_small (by simp_all;lia)));calc wpAny_pyIter_range (IsRange.new ..) sm ?_;let J:aP X ak σ H1 {s1 with heap:=s1.heap.push {cls:=.type "range",data:=.fields #[.int 0 F,.int ((r*c:Nat):Int) D,.int (c:Int) G]},toks:=s1.toks}:=O.kept λb o e=>ag _ e;refine⟨(s1.heap.push {cls:=.type "range",data:=.fields #[.int 0 F,.int ((r*c:Nat):Int) D,.int (c:Int) G]}).objs.size,[(s1.heap.push {cls:=.type "range",data:=.fields #[.int 0 F,.int ((r*c:Nat):Int) D,.int (c:Int) G]}).objs.size],_,_,H1,rb,
     J.kept (t':=s1.toks) λb o e=>ag _ e,Vz _ 0 (c:Int) r,?_,λb hb=>?_,q⟩
    .let e1:(0:Int)+((0:Nat):Int)*(c:Int)=0:=t7;let e2:(r:Int)-((0:Nat):Int)=Builtin.Range.rangeSize 0 ((r*c:Nat):Int) (c:Int):=by rw[sz];simp
     show IsRangeIter _ _ ((0:Int)+((0:Nat):Int)*(c:Int)) ((r:Int)-((0:Nat):Int)) (c:Int);rw[e1,e2];show bo _ rfl
    .let e:b=(s1.heap.push {cls:=.type "range",data:=.fields #[.int 0 F,.int ((r*c:Nat):Int) D,.int (c:Int) G]}).objs.size:=by simpa using hb
     subst e;show J.Bl (ai _) (J.hok.fresh (ai _))⟩
end
def VB {lo c:Int}{n:Nat}{D:Addr}{te:TE}{σ:St}{H:Hp}{R:Hp->Prop}(F:Nat->List V->Hp->Prop)(h0:F 0 [] (upd H D (.lst [])))(hs:∀i ys H,i<n->F i ys H->te (some (.int (lo+i*c))::σ) H λy I=>I D=some (.lst ys)/\ys.length<sizeLine/\iK n i (F (i+1) (ys++[y]) (upd I D (.lst (ys++[y])))))(hd:∀ys H,F n ys H->R H):∃W:Nat->Nat->List V->Hp->Prop,(∃m,W 0 m [] (upd H D (.lst [])))/\
   ∀i m ys H,W i m ys H->((Rz lo c n).stop i H/\R H)\/((Rz lo c n).go i H/\∀x H',(Rz lo c n).N_ i H x H'->nu (some x::σ) H' λb J=>
    if b=true then te (some x::σ) J λy I=>I D=some (.lst ys)/\ys.length<sizeLine/\∃j,j<m/\W (i+1) j (ys++[y]) (upd I D (.lst (ys++[y])))
    else ∃j,j<m/\W (i+1) j ys J):=by
 calc⟨λi m ys H=>m=n-i/\i<=n/\F i ys H,⟨n,t7,eD _,h0⟩,?_⟩;intro i m ys H z;let⟨rfl,hi,p⟩:=z;by_cases G:i<n
 .calc .inr ⟨G,λx H' y=>?_⟩;let⟨e,y⟩:=y;subst e y;show hs i ys H' G p
 .let e:i=n:=t6;subst e;show .inl ⟨ai _,hd ys H p⟩
def pH {K:W.Frag}{a D:Addr}{xs:List V}{te:TE}{σ:St}{H:Hp}{R:Hp->Prop}(j:Nat->List V->Hp->Prop)(h0:j 0 [] (upd H D (.lst [])))(hl:∀i ys H,i<=xs.length->j i ys H->aU K H a xs)(hs:∀i x ys H,xs[i]?=some x->j i ys H->te (some x::σ) H (LK xs.length i D ys (j (i+1))))(hd:∀ys H,j xs.length ys H->R H):DX (Itt K a) D H R (Y8 σ nu te):=Qy j h0 hl hs hd
section
variable {X:Cx}{x:Str}{pos:Pos}
def uN (j:Gl X x)(hm:∃t,X.mg x=some (.str (S l) t))(hd:(x==("__debug__":Str))=false:=by decide):QE X (.Name x pos) (tC (.str (S l))):=let ⟨t,e⟩:=hm;GP j e ⟨t,rb⟩ hd
def Za (j:Gl X x)(hm:∃t,X.mg x=some (.int i t))(hd:(x==("__debug__":Str))=false:=by decide):QE X (.Name x pos) (tC (.int i)):=let ⟨t,e⟩:=hm;GP j e ⟨t,rb⟩ hd
def J1 (j:QE X o to)(hi:QE X i ti)(hs:acw X t)(ha:∀v,assign (.Subscript o i pos) X.env v=(do
   let ov <- holding [v] (eval o X.env)
   let iv <- holding [v,ov] (eval i X.env)
   standAt pos
   holding [v,ov,iv] (setItem ov iv v)
   release [v,ov,iv] []):=by intro _;rfl):QG X (.Subscript o i pos) (agY to ti t):=⟨agZ j.out hi.out hs ha⟩
end
def jV:bootBuiltins "all"=some (.builtin "all"):=by decide +kernel
def Ou:bootBuiltins "any"=some (.builtin "any"):=by decide +kernel
def RB {K:W.Frag}(X:K.In h)(G:h.Ns mainGlobals mg)(a:W.nsIn K mainGlobals x=some (some (.str (S l) t))):∃t,mg x=some (.str (S l) t):=⟨t,dS X G a⟩
def RD {K:W.Frag}(X:K.In h)(G:h.Ns mainGlobals mg)(a:W.nsIn K mainGlobals x=some (some (.int i t))):∃t,mg x=some (.int i t):=⟨t,dS X G a⟩
section
variable {X:Cx}
def rN (K:W.Frag)  (h:X.K=K:=by rfl):JM X (ahi K):=by subst h;show bF
def acU (K:W.Frag)  (h:X.K=K:=by rfl):WR X (ahl K):=by subst h;show w5
def RG (K:W.Frag)  (h:X.K=K:=by rfl):iV X (.builtin "isinstance") (aer K):=by subst h;show iu
def Io (K:W.Frag)  (h:X.K=K:=by rfl):Ab X "str.join" (rJoin K):=by subst h;show rJ
def RJ {name:Str}{apos cpos:Pos}{T id:String}(K:W.Frag)(O:PlainAttrs T)(slot:Slot T name id)(I:typeOf (.builtin id)=pure (.type "method_descriptor"))(hm:Ab X id r)(J:QE X o to)(ha:QA X (e::es) t)(F:attributeBase o name X.env (eval o X.env)=eval o X.env:=by rfl)(G:((backTo cpos (starEach (e::es) X.env)).all (λx=>!x.1)&&(backToKw cpos (keywordEach [] X.env)).all (λx=>x.1.isSome)
   && decide ((e::es).length+([]:List Keyword).length+(if ([]:List Keyword).isEmpty then 0 else 1)<30))=true:=by rfl) (D:(apos.endLine==cpos.line)=true:=by rfl) (hs:starEach (e::es) X.env=(false,eval e X.env)::starEach es X.env:=by rfl) (j:(backTo cpos (starEach es X.env)).any (·.1)=false:=by rfl) (h:X.K=K:=by rfl):QE X (.Call (.Attribute o name apos) (e::es) [] cpos) (tBM K T r to t):=by subst h;show gq O slot I hm J ha F G D hs j
end
def jQ (l:List Nat):List Nat:=l.takeWhile λc=>c != 46
def iZ (l:List Nat):List Nat:=(l.reverse.takeWhile λc=>c != 46).reverse
theorem Ip:∀{l:List Nat} {i:Nat},l[i]?=some 46->(∀k,k<i->l[k]?≠some 46)->jQ l=l.take i
 | [],i,h,_=>by simp at h
 | c::l,0,h,_=>by
  have:c=46:=by simpa using h
  subst this;simp[jQ]
 | c::l,i+1,h,hk=>by let F:c≠46:=λe=>hk 0 t6 (by simp[e]);let D:=Ip (l:=l) (i:=i) (by simpa using h) (λk j=>by have:=hk (k+1) (Nat.succ_lt_succ j);simpa using this);unfold jQ at D ⊢;rw[si (by simpa using F),D,rn]
def Ov (h:46∉l):jQ l=l:=by
 unfold jQ
 induction l with| nil=>rfl| cons c r ih=>have j:c≠46:=λe=>h (by rw[e];show bX);rw[si (by simpa using j),ih λz=>h (bq _ z)]
def aa1 (h:46∉l):iZ l=l:=by have:=Ov (l:=l.reverse) (by simpa using h);unfold jQ at this;unfold iZ;rw[this,List.reverse_reverse]
def acV (h:l[i]?=some 46)(j:∀k,i<k->l[k]?≠some 46):iZ l=l.drop (i+1):=by
 let hi:i<l.length:=(al.mp h).1;let e:jQ l.reverse=l.reverse.take (l.length-(i+1)):=by
  refine Ip ?_ λk D=>?_
  .rw[List.getElem?_reverse (cE t6 t6),show l.length-1-(l.length-(i+1))=i by lia];show h
  .rw[List.getElem?_reverse (by simp[ke,lS]at *;lia)];show j _ (by simp[ke,lS]at *;lia)
 unfold jQ at e;unfold iZ;rw[e,List.take_reverse,List.reverse_reverse,show l.length-(l.length-(i+1))=i+1 by rw[gS (by assumption)]]
def aa2 (l:List Nat)(n:Nat):jd l none (some (n:Int))=l.take n:=by
 unfold jd;rw[HT.lO];show (l.drop 0).take (min n l.length-0)=_;rw[r0,Nat.sub_zero];by_cases h:n<=l.length;.rw[gg h]
 .rw[pE t6,ck (ai _),ck t6]
def RK (l:List Nat)(n:Nat):jd l (some (n:Int)) none=l.drop n:=by
 unfold jd;rw[HT.lO];show (l.drop (min n l.length)).take (l.length-min n l.length)=_;rw[ck (by rw[bv];lia)];by_cases h:n<=l.length;.rw[gg h]
 .rw[pE t6,oC (ai _),oC t6]
def aes (l)(i j):Builtin.Str.strSub (S l) i j=S ((l.take j).drop i):=by unfold Builtin.Str.strSub S;congr 1;apply mi.mp;simp[List.drop_take]
section
variable {X:Cx}
def aa3 (l):(Txt.partition (S l) (S [46])).1=S (jQ l):=by
 rcases partition_head (S l) (S [46]) with⟨e,h⟩|⟨i,e,h,D⟩
 .rw[e,Ov λhm=>?_];let⟨i,hi⟩:=List.mem_iff_getElem?.mp hm;show h i ((kq (S l) 46 i).mpr hi)
 .rw[e,aes,r0,Ip (l:=l) ((kq (S l) 46 i).mp h) λk j z=>D k j ((kq (S l) 46 k).mpr z)]
def Zb (l):(Txt.rpartition (S l) (S [46])).2.2=S (iZ l):=by
 unfold Txt.rpartition;rcases StrLaws.last_spec (S l) (S [46]) with⟨e,h⟩|⟨i,e,h,D⟩
 .rw[e];show S l=_;rw[aa1 λhm=>?_];let⟨i,hi⟩:=List.mem_iff_getElem?.mp hm;show h i ((kq (S l) 46 i).mpr hi)
 .rw[e];show Builtin.Str.strSub (S l) (i+1) l.length=_;rw[aes,ck (ai _),acV (l:=l) ((kq (S l) 46 i).mp h) λk j z=>D k j ((kq (S l) 46 k).mpr z)]
def ajg:V->List V->Hp->VK->Prop:=λx vs H Q=>∃l,x=.str (S l)/\vs=[.str (S [46])]/\l.length<=1000/\∀(p:Addr) (b c:Str),H p=none->Q (.ref p) (upd H p (.tup [.str (S (jQ l)),.str b,.str c]))
def afe:Ab X "str.partition" ajg:=by
 intro ak s σ H x vs v us Q I G O h;let⟨l,rfl,rfl,hz,q⟩:=h;let⟨t,rfl⟩:=G;let⟨u,rfl,J⟩:=vals1 O;let⟨D,rfl⟩:=J;let hsz:(S l).length<=sizeLine:=am (aJ hz);calc call_meets F.slot_str_partition (typeIs_str _ _ _) F.entry_str_partition (F.args_str_partition_2 _ _) (meets_str_partition (S l) (S [46]) t D rb hsz) ?_;let e:=aa3 l;let j:=λb c=>q s.heap.objs.size b c (I.hok.fresh (ai _));rw[<-e]at j;unfold Txt.partition at j
 revert j
 cases Builtin.Str.occurrences (S l) (S [46]) 0 (S l).length 1 with| nil=>intro j;calc⟨.ref s.heap.objs.size,_,I.laid (o:=.tup _) (t':=s.toks+1) (λb ob z=>ag _ z) (ai _) ?_,rb,j Str.empty Str.empty⟩;show⟨zsz 3,_,.cons ⟨_,rb⟩ (.cons ⟨_,rb⟩ (.cons ⟨_,rb⟩ .nil)),⟨_,bo _ rb,rb,0,rb⟩⟩| cons i r=>intro j;calc⟨.ref s.heap.objs.size,_,I.laid (o:=.tup _) (t':=s.toks+1+1) (λb ob z=>ag _ z) (ai _) ?_,rb,j (S [46]) (Builtin.Str.strSub (S l) (i+(S [46]).length) (S l).length)⟩;show⟨zsz 3,_,.cons ⟨_,rb⟩ (.cons ⟨_,rb⟩ (.cons ⟨_,rb⟩ .nil)),⟨_,bo _ rb,rb,0,rb⟩⟩
def ahF:V->List V->Hp->VK->Prop:=λx vs H Q=>∃l,x=.str (S l)/\vs=[.str (S [46])]/\l.length<=1000/\∀(p:Addr) (a b:Str),H p=none->Q (.ref p) (upd H p (.tup [.str a,.str b,.str (S (iZ l))]))
def acW:Ab X "str.rpartition" ahF:=by
 intro ak s σ H x vs v us Q I G O h;let⟨l,rfl,rfl,hz,q⟩:=h;let⟨t,rfl⟩:=G;let⟨u,rfl,J⟩:=vals1 O;let⟨D,rfl⟩:=J;let hsz:(S l).length<=sizeLine:=am (aJ hz);calc call_meets F.slot_str_rpartition (typeIs_str _ _ _) F.entry_str_rpartition (F.args_str_rpartition_2 _ _) (meets_str_rpartition (S l) (S [46]) t D rb hsz) ?_;let e:=Zb l;let j:=λb c=>q s.heap.objs.size b c (I.hok.fresh (ai _));rw[<-e]at j;unfold Txt.rpartition at j
 revert j
 cases Builtin.Str.lastOccurrence (S l) (S [46]) 0 (S l).length with| none=>intro j;calc⟨.ref s.heap.objs.size,_,I.laid (o:=.tup _) (t':=s.toks+1) (λb ob z=>ag _ z) (ai _) ?_,rb,j Str.empty Str.empty⟩;show⟨zsz 3,_,.cons ⟨_,rb⟩ (.cons ⟨_,rb⟩ (.cons ⟨_,rb⟩ .nil)),⟨_,bo _ rb,rb,0,rb⟩⟩| some i=>intro j;calc⟨.ref s.heap.objs.size,_,I.laid (o:=.tup _) (t':=s.toks+1+1) (λb ob z=>ag _ z) (ai _) ?_,rb,j (Builtin.Str.strSub (S l) 0 i) (S [46])⟩;show⟨zsz 3,_,.cons ⟨_,rb⟩ (.cons ⟨_,rb⟩ (.cons ⟨_,rb⟩ .nil)),⟨_,bo _ rb,rb,0,rb⟩⟩
end
def acX {X:Cx}{j iter tg:Expr}{ns N2:List Str}{f:St->St}{TP:V->Hp->(St->Prop)->Prop}{ifs:List Expr}{scope:Scope}{wi:TI}(O:X.calm=true)(ok:kh X scope ns N2 f)(hi:PI X tg iter wi)(Y:∀cl C s₀ H₀ fp,Oo (gQ X scope cl C (ns++N2) s₀ H₀ fp) tg ns.length TP)(ht:∀cl C s₀ H₀ fp,W2 (gQ X scope cl C (ns++N2) s₀ H₀ fp) ifs tt)(F:∀cl C s₀ H₀ fp,PE (gQ X scope cl C (ns++N2) s₀ H₀ fp) j te)(hs:∀x,foldedSetIterable iter X.env x=pure x:=by intro _;rfl):PE X (.ListComp j [⟨tg,iter,ifs,0⟩] scope pos) (DY f ns.length wi TP tt te):=λak s σ H Q I h=>by rw[eval_ListComp];show D_ O ok hi Y ht F hs I h λD C G Z m hn bk _ q=>⟨m,hn,λh' J=>⟨.ref D,G,bk h' J,rb,q⟩⟩
def kj (j:List Nat):Nat->St->St
 | _,[]=>[]
 | i,v::r=>(if j.contains i=true then none else v)::kj j (i+1) r
theorem Ow (ks):∀(i:Nat) (σ:St),(kj ks i σ).length=σ.length
 | _,[]=>rfl
 | i,_::r=>by rw[kj,dA,dA,Ow ks (i+1) r]
theorem Ox (ks):∀(i:Nat) (σ:St) (j:Nat) (v:V),(kj ks i σ)[j]?=some (some v)->ks.contains (i+j)=false/\σ[j]?=some (some v)
 | _,[],j,v,h=>by simp[kj]at h
 | i,x::r,0,v,h=>by
  rw[kj]at h;cases e:ks.contains i with| true=>rw[e]at h;simp at h| false=>rw[e]at h;show⟨by first|rfl|show e,by simpa using h⟩
 | i,x::r,j+1,v,h=>by rw[kj,List.getElem?_cons_succ]at h;let⟨a,b⟩:=Ox ks (i+1) r j v h;show⟨by rw[show i+(j+1)=i+1+j by lia];show a,by rw[List.getElem?_cons_succ];show b⟩
noncomputable def ahG (sc:Scope)(N:List Str)(scope:Scope)(N2:List Str)(j:List Nat):Bool:=scope.kind == .function&&scope.names.all (λy=>y.2 != .cell)&&scope.names.all (λy=>y.2 != .local||scope.names.lookup y.1==some .local) &&
 scope.names.all (λy=>y.2 != .free||sc.names.lookup y.1==some .cell||sc.names.lookup y.1==some .free)&&N2.length==N.length &&
 (List.range N.length).all (λi=>j.contains i||(N2[i]? == N[i]? && (N[i]?.map λy=>scope.names.lookup y != some .local)==some true))
def kh.of {X:Cx}(N2)(ks)(h:ahG X.env.scope X.N scope N2 ks=true):kh X scope ns N2 (kj ks 0):=by
 unfold ahG at h;simp only[cn,gt,tI,bne_iff_ne,beq_iff_eq,ne_eq]at h;obtain⟨⟨⟨⟨⟨h1,h2⟩,h3⟩,h5⟩,F⟩,h7⟩:=h;refine⟨h1,λy hy=>h2 y hy,λy hy e=>(h3 y hy).resolve_left λz=>z e,λy hy e=>?_,Ow ks 0,F,λσ i y v e1 e2=>?_⟩
 .rcases h5 y hy with(z|z)|z;.show absurd e z
  .show .inl z
  .show .inr z
 .let⟨a,b⟩:=Ox ks 0 σ i v e2;rw[lT]at a;let hi:i<X.N.length:=by rw[<-F];show(al.mp e1).1
  rcases h7 i (im.mpr hi) with z|⟨j,D⟩;.rw[a]at z;cases z
  .rw[<-j,e1]at D;rw[j]at e1;show⟨e1,b,by simpa using D⟩
def afg {X:Cx}{scope:Scope}{N:List Str}(K:W.Frag)(Y:X.calm=true)(F:N.Nodup)(h0:N[0]?=some x)(h1:N[1]?=some y)(hx:scope.names.lookup x=some .local)(hy:scope.names.lookup y=some .local)(J:X.K=K:=by rfl):Oo (gQ X scope cl C N s₀ H₀ fp) (.Tuple [.Name x px,.Name y py] k pos) 2 (λv H Q=>∃a p q,v=.ref a/\aU K H a [p,q]/\Q [some p,some q]):=by
 subst J;intro ak s pre rest H v u Q hp I r q;let⟨a,p,j,rfl,G,q⟩:=q;obtain⟨D,p1,rfl⟩:∃D p1,pre=[D,p1]:=by
  match pre,hp with| [D,p1],_=>show⟨D,p1,rb⟩
 let P:PG (gQ X scope cl C N s₀ H₀ fp) (.Tuple [.Name x px,.Name y py] k pos) (YD X.K 2 (Bk (sH 0) (Bk (sH 1) YC))):=Rc (X:=gQ X scope cl C N s₀ H₀ fp) Y (uc (t_ (i:=0) F h0 (.inl (lookup_relabel_local hx)) (.inr (lookup_relabel_local hx))) (uc (t_ (i:=1) F h1 (.inl (lookup_relabel_local hy)) (.inr (lookup_relabel_local hy))) Lr));refine cD (P ak s _ H (.ref a) u (λσ' H'=>H'=H/\σ'=some p::some j::rest) I r
  ⟨a,[p,j],rb,G,rb,p,[j],rb,j,[],rb,rb,rb,rb⟩) λ_ s' ⟨σ',H',O,e1,e2⟩=>?_
 subst e1 e2;show⟨[some p,some j],rb,O,q⟩
def rO {X:Cx}{scope:Scope}{N:List Str}(K:W.Frag)(Z:X.calm=true)(G:N.Nodup)(h0:N[0]?=some x)(h1:N[1]?=some y)(h2:N[2]?=some z)(hx:scope.names.lookup x=some .local)(hy:scope.names.lookup y=some .local)(hz:scope.names.lookup z=some .local)(O:X.K=K:=by rfl):Oo (gQ X scope cl C N s₀ H₀ fp) (.Tuple [.Name x px,.Name y py,.Name z pz] k pos) 3 (λv H Q=>∃a p q r,v=.ref a/\aU K H a [p,q,r]/\Q [some p,some q,some r]):=by
 subst O;intro ak s pre rest H v u Q hp I r q;let⟨a,p,D,j,rfl,J,q⟩:=q;obtain⟨F,p1,p2,rfl⟩:∃F p1 p2,pre=[F,p1,p2]:=by
  match pre,hp with| [F,p1,p2],_=>show⟨F,p1,p2,rb⟩
 let P:PG (gQ X scope cl C N s₀ H₀ fp) (.Tuple [.Name x px,.Name y py,.Name z pz] k pos) (YD X.K 3 (Bk (sH 0) (Bk (sH 1) (Bk (sH 2) YC)))):=Rc (X:=gQ X scope cl C N s₀ H₀ fp) Z (uc (t_ (i:=0) G h0 (.inl (lookup_relabel_local hx)) (.inr (lookup_relabel_local hx))) (uc (t_ (i:=1) G h1 (.inl (lookup_relabel_local hy)) (.inr (lookup_relabel_local hy))) (uc (t_ (i:=2) G h2 (.inl (lookup_relabel_local hz)) (.inr (lookup_relabel_local hz))) Lr)));refine cD (P ak s _ H (.ref a) u (λσ' H'=>H'=H/\σ'=some p::some D::some j::rest) I r
  ⟨a,[p,D,j],rb,J,rb,p,[D,j],rb,D,[j],rb,j,[],rb,rb,rb,rb⟩) λ_ s' ⟨σ',H',Y,e1,e2⟩=>?_
 subst e1 e2;show⟨[some p,some D,some j],rb,Y,q⟩
def ou {X:Cx}{j iter tg:Expr}{ns N2:List Str}{f:St->St}{TP:V->Hp->(St->Prop)->Prop}{ifs:List Expr}{scope:Scope}{wi:TI}(F:X.calm=true)(ok:kh X scope ns N2 f)(hi:QI X tg iter wi)(G:∀cl C s₀ H₀ fp,Oo (gQ X scope cl C (ns++N2) s₀ H₀ fp) tg ns.length TP)(ht:∀cl C s₀ H₀ fp,QTs (gQ X scope cl C (ns++N2) s₀ H₀ fp) ifs tt)(D:∀cl C s₀ H₀ fp,QE (gQ X scope cl C (ns++N2) s₀ H₀ fp) j te)(hs:∀x,foldedSetIterable iter X.env x=pure x:=by intro _;rfl):QE X (.ListComp j [⟨tg,iter,ifs,0⟩] scope pos) (DY f ns.length wi TP tt te):=⟨acX F ok hi.out G (λcl C s₀ H₀ fp=>(ht cl C s₀ H₀ fp).out) (λcl C s₀ H₀ fp=>(D cl C s₀ H₀ fp).out) hs⟩
def QD (n i:Nat)(D:Addr)(TP:V->Hp->(St->Prop)->Prop)(f:St->St)(σ:St)(tt:TT)(te:TE)(x:V)(H:Hp)(ys:List V)(P:List V->Hp->Prop):Prop:=TgB TP f σ tt te x H (LK n i D ys P) λj=>iK n i (P ys j)
noncomputable def J2 {K:W.Frag}{a:Addr}{f:St->St}{σ:St}{tt:TT}{te:TE}:=@Qy (λH=>aU K H a) (TgB (λv _ Q=>Q [some v]) f σ tt te)
noncomputable def mj {K KT:W.Frag}{a:Addr}{f:St->St}{σ:St}{tt:TT}{te:TE}:=@Qy (λH=>aU K H a) (TgB (λv H Q=>∃a p q r,v=.ref a/\aU KT H a [p,q,r]/\Q [some p,some q,some r]) f σ tt te)
def aeu (h:te ([some x]++f σ) H λy j=>j D=some (.lst ys)/\ys.length<sizeLine/\iK n i (P (ys++[y]) (upd j D (.lst (ys++[y]))))):QD n i D (λv _ Q=>Q [some v]) f σ nu te x H ys P:=by show (if true=true then (te ([some x]++f σ) H λy j=>j D=some (.lst ys)/\ys.length<sizeLine/\iK n i (P (ys++[y]) (upd j D (.lst (ys++[y]))))) else iK n i (P ys H));rw[if_pos rfl];show h
def ajh {KT:W.Frag}{n i:Nat}{p q:V}{f:St->St}{x:V}{ys:List V}{P:List V->Hp->Prop}(hx:x=.ref a)(F:aU KT H a [p,q])(h:te ([some p,some q]++f σ) H λy j=>j D=some (.lst ys)/\ys.length<sizeLine/\iK n i (P (ys++[y]) (upd j D (.lst (ys++[y]))))):QD n i D (λv H Q=>∃a p q,v=.ref a/\aU KT H a [p,q]/\Q [some p,some q]) f σ nu te x H ys P:=by calc⟨a,p,q,hx,F,?_⟩;show (if true=true then (te ([some p,some q]++f σ) H λy j=>j D=some (.lst ys)/\ys.length<sizeLine/\iK n i (P (ys++[y]) (upd j D (.lst (ys++[y]))))) else iK n i (P ys H));rw[if_pos rfl];show h
def yM {KT:W.Frag}{n i:Nat}{p q r:V}{f:St->St}{x:V}{ys:List V}{P:List V->Hp->Prop}(hx:x=.ref a)(F:aU KT H a [p,q,r])(h:te ([some p,some q,some r]++f σ) H λy j=>j D=some (.lst ys)/\ys.length<sizeLine/\iK n i (P (ys++[y]) (upd j D (.lst (ys++[y]))))):QD n i D (λv H Q=>∃a p q r,v=.ref a/\aU KT H a [p,q,r]/\Q [some p,some q,some r]) f σ nu te x H ys P:=by calc⟨a,p,q,r,hx,F,?_⟩;show (if true=true then (te ([some p,some q,some r]++f σ) H λy j=>j D=some (.lst ys)/\ys.length<sizeLine/\iK n i (P (ys++[y]) (upd j D (.lst (ys++[y]))))) else iK n i (P ys H));rw[if_pos rfl];show h
section
variable {X:Cx}
def afh:V->List V->Hp->VK->Prop:=λx vs H Q=>∃(l:Addr) (us:AA) (w:List Nat),x=.ref l/\vs=[.str (S w)]/\H l=some (.lst (Ts us))/\w∈us/\us.length<=1000/\Q .non (upd H l (.lst (Ts (us.erase w))))
def strEq (w:List Nat)(u:Value):Bool:=match u with| .str z _=>z.cps.toList==w| _=>false
def aa4 {us:AA}:us.erase w=us.eraseIdx (us.idxOf w):=by
 induction us with
 | nil=>rfl
 | cons a r ih=>
  by_cases h:a=w;.subst h;simp
  .rw[List.erase_cons_tail (by simpa using h),List.idxOf_cons,cond_eq_ite,if_neg (by simpa using h),on,ih]
def Oz:MtM X "list.remove" afh:=by
 intro ak s σ H x vs v us Q I O Z h;let⟨l,ls,w,rfl,rfl,G,hw,hz,q⟩:=h;cases O;let⟨u,rfl,Y⟩:=Z.one;let⟨t,rfl⟩:=Y;let⟨z,its,n,r,hl,e⟩:=I.Rn G;let cU:its.length=ls.length:=by rw[<-hl,aa]
 let hj:ls.idxOf w<ls.length:=List.idxOf_lt_length_of_mem hw;let get:∀(m:Nat) (hm:m<its.toArray.size),∃(tk:Tok) (j:m<ls.length),its.toArray[m]=.str (S ls[m]) tk:=λm hm=>by
  let j:m<ls.length:=by simp at hm;simp_all
  let⟨u1,e1,s1⟩:=r.get (i:=m) (x:=.str (S ls[m])) (by simp[j]);let⟨tk,rfl⟩:=s1;calc⟨tk,j,?_⟩;rw[ae hm]at e1;simpa using e1
 refine call_meets F.slot_list_remove ⟨_,e,rb⟩ F.entry_list_remove (F.args_list_remove_2 _ _) (PySem.MeetsSeq.list_remove l its.toArray n (.str (S w) t) (strEq w) (λy hy=>?_) (ls.idxOf w) (by rw[bE];simp_all) ?_ (λm hm D=>?_) (by rw[bE,cU];show am (aJ hz))) ⟨e,?_⟩
 .let⟨m,hm,rfl⟩:=Array.mem_iff_getElem.mp hy;let⟨tk,_,e1⟩:=get m hm;rw[e1];show PySem.SeqRoads2.EqGives.str _ _ _ _
 .let⟨tk,j,e1⟩:=get (ls.idxOf w) (by rw[bE];lia);rw[e1];show (ls[ls.idxOf w]==w)=true;rw[List.getElem_idxOf];simp
 .let⟨tk,j,e1⟩:=get m hm;rw[e1];show (ls[m]==w)=false;have:=List.not_of_lt_findIdx (p:=λa=>a==w) (xs:=ls) (show m<ls.findIdx (λa=>a==w) from D);simpa using this
 .refine⟨.non,_,I.acI (its':=its.eraseIdx (ls.idxOf w)) G e ?_ ?_ ?_,rb,q⟩
  .rw[Array.eraseIdxIfInBounds,dif_pos (by rw[bE];lia)];simp
  .rw[aa4];let hv:=Vals.eraseIdx (ls.idxOf w) r;let J:∀(xs:AA) (i:Nat),Ts (xs.eraseIdx i)=(Ts xs).eraseIdx i:=by
    intro xs
    induction xs with
    | nil=>intro i;rfl
    | cons a r ih=>
     intro i;cases i with| zero=>rfl| succ i=>rw[on,Ts,ce,Ts,ce,on];congr 1;show ih i
   rw[J];show hv
  .rw[aa];show bS (List.length_erase_le ..) (am (aJ hz))
def ahH (K:W.Frag):List V->Hp->VK->Prop:=λxs H Q=>∃(a:Addr) (ws:AA),xs=[.ref a]/\bI K H a (Ts ws)/\ws.length<64/\∀(p:Addr) (j:AA),H p=none->j.Perm ws->j.Pairwise (λa b=>decide (b<a)=false)->Q (.ref p) (upd H p (.lst (Ts j)))
def RL:iV X (.builtin "sorted") (ahH X.K):=by
 intro ak s σ H xs us Q I r h;let⟨a,ws,rfl,O,Z,q⟩:=h;let⟨u,rfl,J⟩:=vals1 r;cases J;let⟨its,D,pl,_⟩:=I.list O;let cU:its.length=ws.length:=by have:=D.length;simpa using this.symm
 calc sorted_strs pl.isList (GJ D) (by simp_all) λout j a1 a2 a3=>?_;let⟨e,G⟩:=sortedAll_at s.heap its out;let F:(j.map λy=>y.cps.toList).Perm ws:=by have:=a2.map λy:Str=>y.cps.toList;rw[f_]at this;let e:((λy:Str=>y.cps.toList) ∘ S)=id:=rfl;rw[e,kK]at this;show this
 let Y:Vals (Ts (j.map λy=>y.cps.toList)) out.toList:=by
  have:=pG a1;let es:(j.map V.str)=Ts (j.map λy=>y.cps.toList):=by rw[Ts,f_];show fE λy _=>by simp[oq,ahw]
  rw[es]at this;show this
 let hl:(Ts (j.map λy=>y.cps.toList)).length<=sizeLine:=by rw[aa,F.length_eq];show am (aJ t6)
 refine⟨.ref (s.heap.objs.size+1),_,I.laid (o:=.lst _) (t':=s.toks) (λb o z=>sortedAll_old z) (mB _) ⟨hl,out.toList,e,Y,by rw[qB];show G⟩,rb,q _ _ (I.hok.fresh (mB _)) F (yL j a3)⟩
def aj1 (t:TS):TS:=λD σ H=>∃I:St->Hp->Prop,t {D with nx:=I} σ H/\∀σ' H',I σ' H'->D.nx σ' H'
def jj {st:Stmt}(h:QS X st t):QS X st (aj1 t):=⟨λak s σ H D I ⟨J,a,b⟩=>by
 calc cD (h.out ak s σ H _ I a) λf s' q=>?_;cases f with
 | next=>let⟨σ7,G,j,F⟩:=q;show⟨σ7,G,j,b _ _ F⟩
 | cont=>show q
 | brk=>show q
 | ret v=>show q⟩
end
end L2
namespace L2
open PySem PySem.Spec PyProof.Rows PySem.W
section
variable {prog:Program}{w:World}{A:Around}{E:AD}{s:Shared}
variable {X:Cx}
open Classical in
theorem W8 (d:Dt):∀es:List Dt,((nF es).any λy=>PyData.eqv y (toP d))=decide (d∈es)
 | []=>by simp[nF]
 | e::es=>by
  rw[nF,mx,W8 d es,L_];by_cases z:e=d;.subst z;simp
  .let z':¬d=e:=λy=>z y.symm
   simp[z,z']
def ahI {a b:Addr}{I ob:Obj}{na nb:Nat}{x1 G j D:Nat}{t1 J t3 Y:Tok}{r1 O:List Value}{Q:AD}(ha:s.heap.get? a=some I)(ca:I.cls=.type "tuple")(da:I.data=.seq (Value.int x1 t1::Value.int G J::r1).toArray na)(hb:s.heap.get? b=some ob)(cb:ob.cls=.type "tuple")(db:ob.data=.seq (Value.int j t3::Value.int D Y::O).toArray nb)(l1:G<1000)(l2:D<1000)(hu:A.units<cLine)(hne:x1*1000+G≠j*1000+D)(q:Q (.bool (decide (x1*1000+G<j*1000+D))) s):wpAny (model prog w) A (compareOp .Lt (.ref a) (.ref b)) Q E s:=by
 let Ta:s.TypeIs (.ref a) "tuple":=⟨I,ha,ca⟩
 let Tb:s.TypeIs (.ref b) "tuple":=⟨ob,hb,cb⟩
 show wpAny _ _ (richCompare .Lt (.ref a) (.ref b)) Q E s;calc wpAny_richCompare_same_room (op:=.Lt) (T:="tuple") Ta Tb qS (ij qS Ta F.entry_tuple_lt ?_ (F.args_tuple_lt_2 _ _)) hu;show wpAny _ _ (isInstance (.ref b) (.type "tuple") >>= _) _ _ s;calc af (wpAny_isInstance Tb isSubtype_tuple_tuple ?_);simp only[pj,gr,if_false];calc af (nE ha da (af (nE hb db (af ?_))));rw[show (Value.int (x1:Int) t1::Value.int (G:Int) J::r1).toArray.toList.zip (Value.int (j:Int) t3::Value.int (D:Int) Y::O).toArray.toList=(Value.int (x1:Int) t1,Value.int (j:Int) t3)::(Value.int (G:Int) J,Value.int (D:Int) Y)::r1.zip O from rfl];rw[iA];calc af ?_;dsimp only;calc af (k9 _ _ _ _ prog w _ _ ?_);by_cases ex:x1=j
 .subst ex;simp only[beq_self_eq_true,pj,gr,if_false];calc ax ?_;dsimp only;rw[iA];calc af ?_;dsimp only;calc af (k9 _ _ _ _ prog w _ _ ?_);let Z:((G:Int)==(D:Int))=false:=by
   apply beq_eq_false_iff_ne.mpr;intro z;show hne t6
  simp only[Z,Bool.not_false,if_true];calc af (ja (af (lt_int ?_)));calc af (ax (ax (ax (ax ⟨_,rb,t7,?_⟩))));rw[show decide ((G:Int)<(D:Int))=decide (x1*1000+G<x1*1000+D) by simp];show q
 .let Z:((x1:Int)==(j:Int))=false:=by
   apply beq_eq_false_iff_ne.mpr;intro z;show ex t6
  simp only[Z,Bool.not_false,if_true];calc af (ja (af (lt_int ?_)));calc af (ax (ax (ax (ax ⟨_,rb,t7,?_⟩))));rw[show decide ((x1:Int)<(j:Int))=decide (x1*1000+G<j*1000+D) by
    by_cases z:x1<j;.rw[aw (Iff.mpr qo z),aw t6]
    .rw[ah (by simp[*]),ah t6]]
  show q
def aj2:R2:=λx y H Q=>∃(a b:Addr) (x1 j F D:Nat) (r1 G:List V),x=.ref a/\y=.ref b/\H a=some (.tup (.int x1 :: .int j::r1))/\H b=some (.tup (.int F :: .int D::G))/\j<1000/\D<1000/\x1*1000+j≠F*1000+D/\
 Q (.bl (decide (x1*1000+j<F*1000+D))) H
def ahJ (hu:X.A.units<cLine):gJ X (compareOp .Lt) aj2:=by
 intro ak s σ H x y v u Q I Z ry h;let⟨a,b,x1,y1,x2,y2,r1,r2,rfl,rfl,ea,eb,l1,l2,G,q⟩:=h;cases Z;cases ry;let⟨_,tv,j,o,O,hc,n,hd⟩:=I.hok _ _ ea;let⟨_,tv',Y,o',F,D,n',J⟩:=I.hok _ _ eb;cases j with
 | cons q1 rr=>
  cases rr with
  | cons q2 rr=>
   cases Y with
   | cons q3 rr'=>
    cases rr' with| cons q4 rr'=>let⟨t1,rfl⟩:=q1;let⟨t2,rfl⟩:=q2;let⟨t3,rfl⟩:=q3;let⟨t4,rfl⟩:=q4;show ahI O hc hd F D J l1 l2 hu G ⟨.bl _,H,I,rb,q⟩
def ahK:List V->Hp->VK->Prop:=λxs H Q=>∃l:List Nat,xs=[.str (S l)]/\l.length<=1000/\∀p,H p=none->Q (.ref p) (upd H p (.lst (Ts (l.map λc=>[c]))))
theorem OD:∀(l:List Nat) (us:List Value),us.length=l.length->(∀(i c:Nat),l[i]?=some c->∃t,us[i]?=some (.str (S [c]) t))->Vals (Ts (l.map λc=>[c])) us
 | [],[],_,_=>.nil
 | [],_::_,h,_=>by simp at h
 | _::_,[],h,_=>by simp at h
 | c::l,u::us,h,k=>by let⟨t,e⟩:=k 0 c rfl;let e:u=.str (S [c]) t:=bP e;show .cons ⟨t,e⟩ (OD l us (by simpa using h) λi d hd=>k (i+1) d hd)
def Bq (F:X.calm=true):iV X (.type "list") ahK:=by
 intro ak s σ H xs us Q I r h;let⟨l,rfl,hl,q⟩:=h;let⟨u,rfl,Y⟩:=vals1 r;let⟨t,rfl⟩:=Y;let hz:l.length<=sizeLine:=am (aJ hl);calc call_list_str (I.ok.hd F) (S l) t (λh' tk j O Z J D=>?_) (by show l.toArray.size<=_;simpa using hz);let hsz:j.size=l.length:=by rw[D.1];show l.toArray.size=_;simp
 calc⟨.ref s.heap.objs.size,_,I.laid (o:=.lst (Ts (l.map λc=>[c]))) (t':=tk) Z (ai _) ⟨by rw[aa,aa];show hz,j.toList,O,?_,by simpa using J⟩,rb,q _ (I.hok.fresh (ai _))⟩;calc OD l j.toList (by rw[cy];show hsz) λi c F=>?_;let hi:i<j.size:=by rw[hsz];show(al.mp F).1
 let⟨c2,G,e1,e2⟩:=D.2 i j[i] (by simp[hi]);let e1:l.toArray[i]?=some c2:=e1;rw[List.getElem?_toArray,F]at e1;let e1:=bP e1;show⟨G,by rw[fq,fm hi,e2,e1];rfl⟩
end
end L2
namespace L2
open PySem PySem.Spec PyProof.Rows
def afi {X:Cx}{ix:Nat}{F:Str}{Ma j:Pos}{G iter tg:Expr}{ns N2:List Str}{f:St->St}{TP:V->Hp->(St->Prop)->Prop}{ifs:List Expr}{scope:Scope}{pos:Pos}{wi:TI}{tt:TT}{te:TE}(hN:X.N.Nodup)(O:X.N[ix]?=some F)(hxl:Loc X.env.scope F)(hc:X.calm=true)(ok:kh X scope ns N2 f)(hi:PI X tg iter wi)(hg:∀cl C s₀ H₀ fp,Oo (gQ X scope cl C (ns++N2) s₀ H₀ fp) tg ns.length TP)(ht:∀cl C s₀ H₀ fp,W2 (gQ X scope cl C (ns++N2) s₀ H₀ fp) ifs tt)(he:∀cl C s₀ H₀ fp,PE (gQ X scope cl C (ns++N2) s₀ H₀ fp) G te)(hs:∀x,foldedSetIterable iter X.env x=pure x:=by intro _;rfl)(hsw:swapsWith (.ListComp G [⟨tg,iter,ifs,0⟩] scope pos) (some (.Name F Ma)) j.line X.env=pure true:=by rfl)(hf:X.fn F=true\/X.env.scope.names.lookup F=some .local:=by first|show .inl rfl|show .inr rfl|assumption):PS X (.Assign [.Name F Ma] (.ListComp G [⟨tg,iter,ifs,0⟩] scope pos) j) (Lw (DY f ns.length wi TP tt te) (sH ix)):=λak s σ H De I h=>by
 rw[exec_Assign_Name_used _ _ _ _ hsw];calc af (o6 (af (af ?_)));calc cD (Q:=λ_ s'=>∃σ' H',aP X ak σ' H' s'/\De.nx σ' H') ?_ λ_ s' hq=>ax (ax hq);calc D_ (use:=some (assign (.Name F Ma) X.env)) hc ok hi hg ht he hs I h λD C H4 s5 m hn bk J qn=>?_;calc wpAny_assign_Name (N6 (bk s5.heap (Heap.SameBut.refl _ _)) hN O hxl (show cH (.ref D) (.ref D) from rb) (λs6 I6 ⟨a,Z,ha⟩ _=>?_) hf);let Y:C≠a:=by
  rcases ha with z|z;.rw[z];show J.2.1
  .show λy=>J.2.2.2.2.1 _ _ z y.symm
 let⟨o,es,ep,e1,e2⟩:=hn;refine⟨m,⟨o,es,ep,(Z.2 C Y).trans e1,e2⟩,λh' sb=>⟨_,H4,I6.turned (t':=s6.toks) (λb o hb e=>(sb.2 b hb).trans e) J.1 J.2.1 J.2.2.2.1 J.2.2.2.2.1 J.2.2.2.2.2,qn⟩⟩
def W9 {X:Cx}{ix:Nat}{F:Str}{O j:Pos}{D iter tg:Expr}{ns N2:List Str}{f:St->St}{TP:V->Hp->(St->Prop)->Prop}{ifs:List Expr}{scope:Scope}{pos:Pos}{wi:TI}{tt:TT}{te:TE}(Z:X.N.Nodup)(G:X.N[ix]?=some F)(J:Loc X.env.scope F)(hc:X.calm=true)(ok:kh X scope ns N2 f)(hi:QI X tg iter wi)(hg:∀cl C s₀ H₀ fp,Oo (gQ X scope cl C (ns++N2) s₀ H₀ fp) tg ns.length TP)(ht:∀cl C s₀ H₀ fp,QTs (gQ X scope cl C (ns++N2) s₀ H₀ fp) ifs tt)(Y:∀cl C s₀ H₀ fp,QE (gQ X scope cl C (ns++N2) s₀ H₀ fp) D te)(hs:∀x,foldedSetIterable iter X.env x=pure x:=by intro _;rfl)(I:swapsWith (.ListComp D [⟨tg,iter,ifs,0⟩] scope pos) (some (.Name F O)) j.line X.env=pure true:=by rfl)(hf:X.fn F=true\/X.env.scope.names.lookup F=some .local:=by first|show .inl rfl|show .inr rfl|assumption):QS X (.Assign [.Name F O] (.ListComp D [⟨tg,iter,ifs,0⟩] scope pos) j) (Lw (DY f ns.length wi TP tt te) (sH ix)):=⟨afi Z G J hc ok hi.out hg (λa b c d e=>(ht a b c d e).out) (λa b c d e=>(Y a b c d e).out) hs I hf⟩
section
variable {X:Cx}
def afj:V->List V->Hp->VK->Prop:=λx vs H Q=>∃l w,x=.str (S l)/\vs=[.str (S w)]/\∀n:Nat,Q (.int n) H
def aa5:Ab X "str.count" afj:=by intro ak s σ H x vs v us Q I j G h;let⟨l,w,rfl,rfl,q⟩:=h;let⟨t,rfl⟩:=j;let⟨u,rfl,D⟩:=G.one;let⟨t',rfl⟩:=D;calc call_gives F.slot_str_count (typeIs_str s _ t) F.entry_str_count (F.args_str_count_2 _ _) (gives_str_count (S l) (S w) t t') ?_;show EP X ak σ Q _ _;show⟨.int (Builtin.Str.occurrences (S l) (S w) 0 (S l).length ((S l).length+1)).length,H,I.tok _,⟨s.toks,rb⟩,q _⟩
end
end L2
namespace L2
open PySem PySem.Spec PyProof.Rows PySem.W
open AutoSeq1 (wpAny_loadPart')
section
variable {X:Cx}{ak:AE}{σ:St}{H:Hp}{s:Shared}{h':Heap}
def aP.Mf {t':Nat}{fp:List Addr}(I:aP X ak σ H s)(k:∀b o,b∉fp->s.heap.get? b=some o->h'.get? b=some o)(F:∀b∈fp,vP X ak H b):aP X ak σ H {s with heap:=h',toks:=t' }:=by
 let D:∀b u,H b=some u->b∉fp:=λb u e z=>by rw[(F b z).1]at e;cases e
 refine I.step (g':=s.gens) (d':=s.drawn) (ch:=fp) (λb hb=>?_) (λb o _ _ j e _=>k b o j e) (λb o _ _ j e _=>⟨o.slots,k b o j e⟩) (λ_ _ _ _ n=>n)
  (λb o j e=>⟨o,k b o j e⟩) (λ_ _ e=>e) (λ_ _ _ e=>e) (λb ps e=>⟨#[],by rw[e];simp⟩) (λm hm=>?_) (λb u e=>?_) I.bare
 .let⟨f0,f1,f2,f3,f4,f5⟩:=F b hb;show⟨f3,f1,f4,f5⟩
 .let⟨o,es,ep,G,r⟩:=hm;show⟨o,es,ep,k _ o (λz=>(F _ z).2.1 rb) G,r⟩
 .refine(I.hok b u e).stay (λc v j q=>k c v ?_ q) (λ_ q=>q) λ_ _ q=>q
  rcases j with z|z;.rw[z];show D b u e
  .show D c _ z
def aP.pair {e it:Addr}{i tk:Nat}{x:V}{u:Value}{h1 h2:Heap}(I:aP X ak σ H s)(F:∀b∈[e,it],vP X ak H b)(le:e<s.heap.objs.size)(Z:it<s.heap.objs.size)(J:cH x u)(hT:h1.get? s.heap.objs.size=some {cls:=.type "tuple",data:=.seq #[.int i tk,u]})(O:∀b o,b≠e->b≠it->s.heap.get? b=some o->h1.get? b=some o)(hs:Heap.SameBut e h1 h2):aP X ak σ (upd H s.heap.objs.size (.tup [.int i,x])) {s with heap:=h2,toks:=tk+1}/\∀b∈[e,it],upd H s.heap.objs.size (.tup [.int i,x]) b=none:=by
 let G:aP X ak σ (upd H s.heap.objs.size (.tup [.int i,x])) {s with heap:=s.heap.push {cls:=.type "tuple",data:=.seq #[.int i tk,u]},toks:=tk+1}:=I.laid (λb v e=>ag _ e) (ai _) ⟨zsz 2,[.int i tk,u],.cons ⟨tk,rb⟩ (.cons J .nil),⟨_,bo _ rb,rb,_,rb⟩⟩
 let ne:∀b∈[e,it],b≠s.heap.objs.size:=λb hb=>by
  rcases b9.mp hb with z|z;.rw[z];show cf le
  .rw[a_.mp z];show cf Z
 let fr:∀b∈[e,it],upd H s.heap.objs.size (.tup [.int i,x]) b=none:=λb hb=>by rw[aY (ne b hb)];show(F b hb).1
 let I3:=aP.Mf (s:={s with heap:=s.heap.push {cls:=.type "tuple",data:=.seq #[.int i tk,u]},toks:=tk+1}) (h':=h2) (fp:=[e,it]) (t':=tk+1) G (λb o hb g=>?_) λb hb=>?_
 .show⟨I3,fr⟩
 .let j:b≠e:=λz=>hb (by simp[z])
  let D:b≠it:=λz=>hb (by simp[z]);rw[hs.2 b j];rcases Heap.get?_push_cases g with⟨Y,z2⟩|z
  .rw[Y,z2];show hT
  .show O b o j D z
 .let⟨f0,f1,f2,f3,f4,f5⟩:=F b hb;show⟨fr b hb,f1,f2,f3,f4,f5⟩
end
def RM (l:List Nat):It:=⟨λi _=>i<l.length,λi H v H'=>∃T c,H T=none/\v=.ref T/\l[i]?=some c/\H'=upd H T (.tup [.int i,.str (S [c])]),λi _=>l.length<=i⟩
section
variable {prog:Program}{w:World}{A:Around}{E:AD}{s:Shared}
def VD {it:Addr}{fp:List Addr}{n:Nat}{G:Nat->Value->Prop}{St:Nat->Heap->Prop}(D:Draws prog w A it fp n G St)(k:Nat):Draws prog w A it fp (k+n) (λj v=>∃i,j=k+i/\G i v) (λj h=>∃i,j=k+i/\St i h) where
 live:=λj h ⟨i,_,st⟩=>D.live i h st
 frame:=λj h h' ⟨i,e,st⟩ J=>⟨i,e,D.frame i h h' st J⟩
 item:=λj s Q E Y ⟨i,e,st⟩ I=>by subst e;show D.item i s Q E (by simp_all) st λv h' tk hp st' F=>I v h' tk ⟨i,rb,hp⟩ ⟨i+1,rb,st'⟩ F
 done:=λs Q E ⟨i,e,st⟩ O=>by
  have:i=n:=by lia
  subst this;show D.done s Q E st O
end
def Zd (l:List Nat)(k:Nat):It:=⟨λi _=>i<l.length,λi H v H'=>∃T c,H T=none/\v=.ref T/\l[i]?=some c/\H'=upd H T (.tup [.int ((k+i:Nat):Int),.str (S [c])]),λi _=>l.length<=i⟩
def Ze {P:Program}{w:World}{K:W.Frag}{elts:List Expr}{x1}{pos:Pos}{ty:String}(hty:ty="str_ascii_iterator"\/ty="str_iterator")(l:List Nat)(k:Nat)(t:Tok)(it e:Addr):Turn P w K (.Tuple elts x1 pos) (Zd l k) [e,it] e (λi h=>e≠it/\i<=l.length/\(∃j,IsEnum h e it ((k+i:Nat):Int) j)/\h.IsStrIter it ty (S l) t i) where
 mem:=by simp
 obj:=λi h st b hb=>by
  obtain⟨_,_,⟨j,G⟩,o,ho,_,hd⟩:=st;rcases b9.mp hb with z|z;.show⟨_,by rw[z];show G,λv y=>by cases y⟩
  .show⟨o,by rw[a_.mp z];show ho,λv y=>by rw[hd]at y;cases y⟩
 keep:=λi h h' st k=>by obtain⟨n,le,⟨j,G⟩,o,ho,r⟩:=st;show⟨n,le,⟨j,k e t7 _ G⟩,o,k it t7 o ho,r⟩
 item:=by
  intro X Y hw hK hc i ak s σ H E I hf st hg;subst Y hw hK;obtain⟨ne,le,⟨j,G⟩,hs⟩:=st;let Z:X.A.in1.handled=none:=by simp[I.ok.hd hc]
  let hg':k+i<k+(S l).cps.size:=Nat.add_lt_add_left hg k;let O:∀(D:Draws X.prog X.w X.A.in1 it [it] (S l).cps.size (λi v=>∃c u,(S l).cps[i]?=some c/\v=.str ⟨#[c]⟩ u) (λi h=>h.IsStrIter it ty (S l) t i)),
    wpAny (model X.prog X.w) X.A (pyNext (.ref e)) (λr s1=>∃u,r=some u/\wpAny (model X.prog X.w) X.A (letOwnedTupleGo (.Tuple elts x1 pos) (.ref e) u) (λ_ s2=>∃x H',aP X ak σ H' s2/\cH x u/\(Zd l k).N_ i H x H'/\(e≠it/\i+1<=l.length/\(∃j,IsEnum s2.heap e it ((k+(i+1):Nat):Int) j)/\s2.heap.IsStrIter it ty (S l) t (i+1))/\∀b∈[e,it],H' b=none) E s1) E s:=by
   intro D;calc wpAny_pyNext_enum_itemD (VD D k) G ⟨i,rb,hs⟩ hg' ne (by simp[ne]) λx h' tk Y ho F hT hsz hk=>?_;let⟨i',ei,c,u,hc',rfl⟩:=Y;let⟨i'',ei2,F⟩:=F;obtain rfl:i'=i:=by lia
   obtain rfl:i''=i'+1:=by lia
   calc⟨_,rb,wpAny_letOwnedTupleGo_enum ho λh2 he2 J=>?_⟩;let⟨o,ho2,r2⟩:=F;let⟨oi,hoi,_⟩:=id hs;let⟨I3,fr⟩:=aP.pair (i:=k+i') (x:=.str (S [c])) I hf (aI G) (aI hoi) ⟨u,rb⟩ hT hk J;refine⟨.ref s.heap.objs.size,_,I3,rb,⟨s.heap.objs.size,c,I.hok.fresh (ai _),rb,by simpa [S] using hc',rb⟩,⟨ne,hg,⟨_,by simpa [Int.add_assoc] using he2⟩,o,(J.2 it (iE ne)).trans ho2,r2⟩,fr⟩
  rcases hty with rfl|rfl;.show O (Draws.strAscii Z it (S l) t)
  .show O (Draws.strWide Z it (S l) t)
 done:=by
  intro X Y hw hK hc i ak s σ H E I hf st hg;subst Y hw hK;obtain⟨ne,le,⟨j,G⟩,hs⟩:=st;let Z:X.A.in1.handled=none:=by simp[I.ok.hd hc]
  let hi:i=(S l).cps.size:=Nat.le_antisymm le hg;let F:=hs;rw[hi]at F;let⟨f0,f1,f2,f3,f4,f5⟩:=hf it t7;rcases hty with rfl|rfl
  .show wpAny_pyNext_enum_endD (Draws.strAscii Z it (S l) t) G F λh' eb=>⟨rb,I.turned (t':=s.toks) (λb o hb e=>eb b o hb e) f0 f1 f3 f4 f5⟩
  .show wpAny_pyNext_enum_endD (Draws.strWide Z it (S l) t) G F λh' eb=>⟨rb,I.turned (t':=s.toks) (λb o hb e=>eb b o hb e) f0 f1 f3 f4 f5⟩
 self:=λA i s Q E st h=>by obtain⟨_,_,⟨j,G⟩,_⟩:=st;show wpAny_pyIter_enum G h
def Zf {K:W.Frag}{elts:List Expr}{x1}{ty:String}(D:ty="str_ascii_iterator"\/ty="str_iterator")(l:List Nat)(t:Tok)(it e:Addr):Turn P w K (.Tuple elts x1 pos) (RM l) [e,it] e (λi h=>e≠it/\i<=l.length/\(∃j,IsEnum h e it i j)/\h.IsStrIter it ty (S l) t i):=by
 let h:=Ze (P:=P) (w:=w) (K:=K) (elts:=elts) (x1:=x1) (pos:=pos) D l 0 t it e;let e1:Zd l 0=RM l:=by unfold Zd RM;simp only[lT]
 simp only[lT]at h;rw[e1]at h;show h
section
variable {X:Cx}{elts:List Expr}{x1:Nat}{tp:Pos}
def ahL (ta:TA):TI:=λσ H R=>ta σ H λvs H1=>∃l,vs=[.str (S l)]/\R (RM l) H1
def acZ (O:Gl X "enumerate")(hm:X.mg "enumerate"=none)(ha:QA X [a] ta)(hs:starEach [a] X.env=[(false,eval a X.env)]:=by rfl):QI X (.Tuple elts x1 tp) (.Call (.Name "enumerate" p) [a] [] pos) (ahL ta):=⟨by
 intro ak s σ H R I h;calc Call_ (vo I O hm boot_enumerate (gh (cD (ha.out pos ak s σ H _ I h) λus s1 Y=>?_) hs rb));let⟨vs,H1,j,r1,q1⟩:=Y;let⟨l,e,q⟩:=q1;subst e;cases r1 with
 | cons r rr=>
  cases rr;let⟨t,rfl⟩:=r;let D:strIterType (S l)="str_ascii_iterator"\/strIterType (S l)="str_iterator":=by unfold strIterType;split <;> simp
  calc call_enumerate_str λh' G F hsz J=>wpAny_pyIter_enum G ?_;calc⟨s1.heap.objs.size+1,[s1.heap.objs.size+1,s1.heap.objs.size],_,_,H1,rb,j.kept (t':=s1.toks) J,Zf D l t s1.heap.objs.size _,⟨Nat.succ_ne_self _,eD _,⟨_,G⟩,F⟩,λb hb=>?_,q⟩;rcases b9.mp hb with z|z
  .rw[z];show j.Bl (mB _) (j.hok.fresh (mB _))
  .rw[a_.mp z];show j.Bl (ai _) (j.hok.fresh (ai _))⟩
def RN (hc:X.calm=true):iV X (.builtin "any") (λxs H Q=>∃(p:Addr) (bs:List Bool),xs=[.ref p]/\bI X.K H p (bs.map V.bl)/\Q (.bl (bs.any id)) H):=by
 intro ak s σ H xs us Q I r h;let⟨p,bs,rfl,hq,q⟩:=h;let⟨u,rfl,F⟩:=vals1 r;cases F;let⟨its,O,pl,hz⟩:=I.list hq;let G:p≠s.heap.objs.size:=by let⟨o,ho,_⟩:=pl.isList;show cf (aI ho)
 let hb:∀(i:Nat) (v:Value),its[i]?=some v->v=.bool (bs.getD i false):=λi v j=>by
  let Z:=O.length;let hi:i<bs.length:=by have:=(al.mp j).1;simp at Z;simp_all
  let⟨u,hu,F⟩:=O.get (i:=i) (x:=.bl bs[i]) (by simp[hi]);rw[j]at hu;cases hu;cases F;simp[List.getD,hi]
 calc call_any_walk (iF pl.isList ?_);refine⟨s.heap.objs.size,_,_,_,_,_,λi=>bs.getD i false,rb,Walks.list (A:=X.A.in1) (I.ok.hd hc) s.heap.objs.size p G its.toArray,⟨⟨_,bo _ rb,rb,rb⟩,pl.isList.at λo e=>ag _ e⟩,?_,λh' tk kk=>?_⟩
 .intro i v s' Q' E' j J;let e:=hb i v (by simpa using j);subst e;show fS J
 .let I1:aP X ak σ H {s with heap:=h',toks:=tk}:=I.kept λb o e=>kk b o (by
   intro hm;have:b=s.heap.objs.size:=by simpa using hm
   subst this;show absurd (aI e) (fF _)) (ag _ e)
  calc⟨.bl (bs.any id),H,I1,?_,q⟩;show Value.bool _=Value.bool _;let Z:its.toArray.size=bs.length:=by have:=O.length;simp at this;simp[this]
  rw[Z];congr 1;let D:∀bs:List Bool,(List.range bs.length).any (λi=>bs.getD i false)=bs.any id:=λbs=>by
   rw[jI,List.any_eq_true,List.any_eq_true];constructor
   .intro z;let⟨i,hi,h⟩:=z;let Y:=im.mp hi;show⟨bs[i],a9 _,by simpa [List.getD,Y] using h⟩
   .intro z;let⟨x,hx,h⟩:=z;let⟨i,hi,rfl⟩:=dC.mp hx;show⟨i,im.mpr hi,by simpa [List.getD,hi] using h⟩
  show D bs
end
structure ZA (z ti to u v a b:Addr):Prop where
 q1:ti≠z
 q2:to≠z
 q3:u≠z
 q4:v≠z
 q5:ti≠to
 q6:ti≠u
 q7:ti≠v
 q8:to≠u
 q9:to≠v
 p1:u≠v
 p2:a≠z
 p3:a≠to
 p4:a≠u
 p5:a≠v
 p6:b≠z
 p7:b≠to
 p8:b≠u
 p9:b≠v
section
variable {X:Cx}{ak:AE}{σ:St}{H:Hp}{s:Shared}
def aP.aji {fp:List Addr}{tk:Nat}{x y:V}{p q:Value}{h2:Heap}(I:aP X ak σ H s)(j:∀b∈fp,vP X ak H b)(lt:∀b∈fp,b<s.heap.objs.size)(F:cH x p)(O:cH y q)(Y:h2.get? s.heap.objs.size=some {cls:=.type "tuple",data:=.seq #[p,q]})(G:∀b o,b∉fp->s.heap.get? b=some o->h2.get? b=some o):aP X ak σ (upd H s.heap.objs.size (.tup [x,y])) {s with heap:=h2,toks:=tk}/\∀b∈fp,upd H s.heap.objs.size (.tup [x,y]) b=none:=by
 let D:aP X ak σ (upd H s.heap.objs.size (.tup [x,y])) {s with heap:=s.heap.push {cls:=.type "tuple",data:=.seq #[p,q]},toks:=tk}:=I.laid (λb v e=>ag _ e) (ai _) ⟨zsz 2,[p,q],.cons F (.cons O .nil),⟨_,bo _ rb,rb,_,rb⟩⟩
 let fr:∀b∈fp,upd H s.heap.objs.size (.tup [x,y]) b=none:=λb hb=>by rw[aY (cf (lt b hb))];show(j b hb).1
 let Z:=aP.Mf (s:={s with heap:=s.heap.push {cls:=.type "tuple",data:=.seq #[p,q]},toks:=tk}) (h':=h2) (fp:=fp) (t':=tk) D (λb o hb g=>?_) λb hb=>?_
 .show⟨Z,fr⟩
 .rcases Heap.get?_push_cases g with⟨J,z2⟩|z;.rw[J,z2];show Y
  .show G b o hb z
 .let⟨f0,f1,f2,f3,f4,f5⟩:=j b hb;show⟨fr b hb,f1,f2,f3,f4,f5⟩
def aa6:bootBuiltins "zip"=some (.type "zip"):=by decide +kernel
end
structure xT (B:Heap)(l:List Env)(e:Addr)(cls:Value)(dd:Option Addr)(fl:Value)(h:Heap):Prop where
 stays:B.StaysIn h
 new:B.get? e=none
 frames:h.FunFrames B l
 tr:∃oe vs T oT ts,h.get? e=some oe/\oe.cls=cls/\oe.dict=dd/\oe.data=.fields vs/\vs[1]?=some (.ref T)/\vs[2]?=some .none/\B.get? T=none/\T≠e/\h.get? T=some oT/\oT.data=.fields ts/\ts[3]?=some fl
def xT.outer (x:xT B (env::l) e cls dd fl h):xT B l e cls dd fl h:=⟨x.stays,x.new,x.frames.2.2,x.tr⟩
def OJ (o:Obj)(f):(o.mapFields f).dict=o.dict:=by let⟨c,d,j,sl⟩:=o;cases j <;> rfl
section
variable {M:Model}{A:Around}{E:AD}{s:Shared}{B:Heap}{env:Env}{outer l:List Env}{L e:Addr}{oe:Obj}{vs:Array Value}{head cls fl:Value}{dd:Option Addr}{hadNext:Bool}{Q:Unit->Shared->Prop}
def J3 (J:A.frames=some (env::outer))(hl:s.heap.FunFrames B (env::outer))(hf:env.frame=some L)(I:s.heap.get? e=some oe)(kb:B.StaysIn s.heap)(en:B.get? e=none)(hd:oe.data=.fields vs)(hz:1<vs.size)(h2:vs[2]?=some .none)(h:∀h',xT B (env::outer) e oe.cls oe.dict (rawInt L) h'->s.heap.UpToSlots h'->Q () {s with heap:=h' }):wpAny M A (do let a <- frameOf env;let pl <- entryPlaceOf L hadNext;let b <- EntryCells.newEntry head a .none (rawInt L) .none pl;setField (.ref e) 1 b) Q E s:=by
 let out:e∉(env::outer).filterMap (·.frame):=λz=>by let⟨_,u,hu,j⟩:=hl.mem z;rw[I]at hu;cases hu;show j vs hd
 calc af (wpAny_frameOf_fun J hl hf λg G=>af (wpAny_entryPlaceOf λpl F=>?_));unfold EntryCells.newEntry newFields;calc af (iL ?_ (F.sizeOk5 _ _ _ _ _));generalize hO:({cls:=.type "traceback",dict:=none,data:=.fields ([head,.ref L,.none,rawInt L,.none]++(if pl.isEmpty then List.replicate 6 Value.none else pl)).toArray}:Obj)=O;let Y:∃ts,O.data=.fields ts/\ts[3]?=some (rawInt L):=⟨_,by rw[<-hO],by first|(simp;done)|(rcases F with rfl|⟨_,_,_,_,_,_,_,rfl⟩ <;> simp)⟩
 let ge:g.get? e=some oe:=(G.2.1 e out).trans I;let Z:B.StaysIn g:=λb o q=>(G.2.1 b λz=>by rw[(hl.mem z).1]at q;cases q).trans (kb b o q);let Te:g.objs.size≠e:=kM (aI ge);let pe:(g.push O).get? e=some oe:=ag O ge;let⟨ts,D,h3⟩:=Y;let pT:(g.push O).get? g.objs.size=some O:=bo g (l_ D);let mv:∀b o,b≠e->g.get? b=some o->((g.push O).update e (Obj.mapFields (·.setIfInBounds 1 (Value.ref g.objs.size)))).get? b=some o:=λb o nb q=>(gz _ _ (iE nb)).trans (ag O q)
 let nr:∀b o,s.heap.get? b=some o->(∀vs,o.data≠.fields vs)->b≠e:=λb o q j z=>by rw[z,I]at q;cases q;show j vs hd
 refine r8 pe hd hz (h _ ⟨λb o q=>mv b o (λz=>by rw[z,en]at q;cases q) (Z b o q),en,hl.of_keeps λb o q j=>?_,?_⟩ λb o q j=>?_)
 .let⟨sl,z⟩:=G.2.2 b o q;show⟨_,mv b _ (nr b o q j) z,rb⟩
 .let dd:=se hd (·.setIfInBounds 1 (Value.ref g.objs.size));refine⟨_,_,g.objs.size,O,ts,j3 _ pe (l_ dd),Obj.cls_mapFields _ _,OJ _ _,dd,by simp[hz],by rw[kR t9];show h2,Z.fresh,Te,(gz _ _ (iE Te)).trans pT,D,h3⟩
 .let⟨sl,z⟩:=G.2.2 b o q;show⟨sl,mv b _ (nr b o q j) z⟩
def wI (x:xT B l e cls dd fl s.heap)(h:∀h',xT B l e cls dd .none h'->s.heap.UpToSlots h'->Q () {s with heap:=h' }):wpAny M A (setFlight (.ref e) none) Q E s:=by
 let⟨st,en,fr,oe,vs,T,oT,ts,I,hc,F,hd,h1,h2,J,O,G,j,h3⟩:=x;let Z:3<ts.size:=(ic.mp h3).1;let mv:∀b,b≠T->(s.heap.update T (Obj.mapFields (·.setIfInBounds 3 ((none:Option Addr).elim Value.none λf=>rawInt f)))).get? b=s.heap.get? b:=λb nb=>gz _ _ (iE nb);let nr:∀b o,s.heap.get? b=some o->(∀vs,o.data≠.fields vs)->b≠T:=λb o q D z=>by rw[z,G]at q;cases q;show D ts j
 unfold setFlight;calc af (gd I hd h1 ?_);rw[if_pos (show (Value.ref T != Value.none)=true by simp)];calc r8 G j Z (h _ ⟨λb o q=>(mv b λz=>by rw[z,J]at q;cases q).trans (st b o q),en,fr.of_keeps λb o q D=>⟨o,(mv b (nr b o q D)).trans q,rb⟩,?_⟩ λb o q D=>⟨o.slots,(mv b (nr b o q D)).trans q⟩);let Y:=se j (·.setIfInBounds 3 ((none:Option Addr).elim Value.none λf=>rawInt f));show⟨oe,vs,T,_,_,(mv e (iE O)).trans I,hc,F,hd,h1,h2,J,O,j3 _ G (l_ Y),Y,by simp[Z]⟩
def ac0 (j:A.frames=some (env::outer))(hl:s.heap.FunFrames B (env::outer))(F:env.frame=some L)(D:s.heap.get? e=some oe)(G:B.StaysIn s.heap)(I:B.get? e=none)(hd:oe.data=.fields vs)(h1:vs[1]?=some .none)(h2:vs[2]?=some .none)(h:∀h',xT B (env::outer) e oe.cls oe.dict (rawInt L) h'->s.heap.UpToSlots h'->Q () {s with heap:=h' }):wpAny M A (noteFrame (.ref e) env) Q E s:=by unfold noteFrame;simp only[F];calc af (gd D hd h1 ?_);rw[if_neg t9];show J3 j hl F D G I hd (ic.mp h1).1 h2 h
def W_ (F:A.frames=some (env::outer))(O:env.frame=some L)(x:xT B (env::outer) e cls dd .none s.heap)(h:∀h',xT B (env::outer) e cls dd (rawInt L) h'->s.heap.UpToSlots h'->Q () {s with heap:=h' }):wpAny M A (noteFrame (.ref e) env) Q E s:=by
 let⟨st,en,fr,oe,vs,T,oT,ts,J,hc,G,hd,h1,h2,Y,Z,I,j,h3⟩:=x;subst hc G;let mv:∀b,b≠T->(s.heap.update T (Obj.mapFields (·.setIfInBounds 3 Value.none))).get? b=s.heap.get? b:=λb nb=>gz _ _ (iE nb);let nr:∀b o,s.heap.get? b=some o->(∀vs,o.data≠.fields vs)->b≠T:=λb o q D z=>by rw[z,I]at q;cases q;show D ts j
 unfold noteFrame;simp only[O];calc af (gd J hd h1 ?_);rw[if_pos (show (Value.ref T != Value.none)=true by simp)];calc af (gd I j h3 ?_);rw[if_neg (show ¬((Value.none==rawInt L)=true) by simp[rawInt])];calc af (r8 I j (ic.mp h3).1 ?_);refine J3 F (fr.of_keeps λb o q D=>⟨o,(mv b (nr b o q D)).trans q,rb⟩) O ((mv e (iE Z)).trans J) (λb o q=>(mv b λz=>by rw[z,Y]at q;cases q).trans (st b o q)) en hd (ic.mp h1).1 h2
  λh' y k=>h h' y λb o q D=>k b o ((mv b (nr b o q D)).trans q) D
def leave_new (j:A.frames=some (env::outer))(hl:s.heap.FunFrames B (env::outer))(F:env.frame=some L)(D:s.heap.get? e=some oe)(I:B.StaysIn s.heap)(G:B.get? e=none)(hd:oe.data=.fields vs)(h1:vs[1]?=some .none)(h2:vs[2]?=some .none)(h:∀h',xT B outer e oe.cls oe.dict .none h'->s.heap.UpToSlots h'->Q () {s with heap:=h' }):wpAny M A (leaving env (.ref e)) Q E s:=by unfold leaving;show af (ac0 j hl F D I G hd h1 h2 λh1 x k=>wI x λh2 y k2=>h h2 y.outer (k.trans k2))
def ac1 (j:A.frames=some (env::outer))(D:env.frame=some L)(x:xT B (env::outer) e cls dd .none s.heap)(h:∀h',xT B outer e cls dd .none h'->s.heap.UpToSlots h'->Q () {s with heap:=h' }):wpAny M A (leaving env (.ref e)) Q E s:=by unfold leaving;show af (W_ j D x λh1 x k=>wI x λh2 y k2=>h h2 y.outer (k.trans k2))
end
def f9.there (x:f9 P w H h a o):∃u,h.get? a=some u:=by
 cases o with
 | lst xs=>let⟨_,_,_,_,e⟩:=x;show⟨_,e⟩
 | tup xs=>let⟨_,_,_,_,e,_⟩:=x;show⟨_,e⟩
 | dK kvs=>let⟨_,_,_,_,o,_,_,e,_⟩:=x;show⟨_,e⟩
 | dT kvs=>let⟨_,_,_,_,o,_,_,e,_⟩:=x;show⟨_,e⟩
 | set S n=>let⟨o,_,_,_,e,_⟩:=x;show⟨_,e⟩
 | ins C dx fs=>let⟨_,_,_,e,_⟩:=x;show⟨_,e⟩
 | own y=>show x
 | xd fs=>obtain⟨_,⟨_,_,_,e,_⟩,_⟩:=x;show⟨_,e⟩
 | rng lo hi=>let⟨_,_,_,e⟩:=x;show⟨_,e⟩
 | qH ob u=>let⟨e,_⟩:=x;show⟨_,e⟩
 | NQ ps=>show⟨_,(show h.get? a=some _ from x)⟩
 | met f y=>show⟨_,(show h.get? a=some _ from x)⟩
 | ext φ=>let⟨_,e,_⟩:=x;show e
structure ExB (P:Program)(w:World)(outer:List Env)(H:Hp)(s:Shared)(a:Addr)(cls:Value)(dd:Option Addr)(H':Hp)(s':Shared)(B:Heap):Prop where
 os:s'.os=s.os
 bare:AllBare s'.gens
 un:Un (frs outer) [] H H' s.heap s'.heap
 hok:k_ P w H' s'.heap
 fly:xT B outer a cls dd .none s'.heap
 na:H' a=none
 NT:∀b u,H' b=some u->∃o,B.get? b=some o
 kp:∀b o,s.heap.get? b=some o->b∉frs outer->H b=none->B.get? b=some o
 th:∀b o,s.heap.get? b=some o->b∉frs outer->∃o',B.get? b=some o'
noncomputable def Ec (P:Program)(w:World):vA:=λouter H s E e s'=>∃(a:Addr) (cls:Value) (dd:Option Addr) (H':Hp) (B:Heap),e=.ref a/\ExB P w outer H s a cls dd H' s' B/\E cls dd H'
section
variable {X:Cx}{ak:AE}{σ:St}{H1 H':Hp}{s1 s2:Shared}{e:Addr}{oe:Obj}{vs:Array Value}{Q:Unit->Shared->Prop}{E:AD}{cls:Value}{dd:Option Addr}{B:Heap}
def aP.J4 (I:aP X ak σ H1 s1)(q:X.s₀.heap.get? b=some o)(nb:b∉frs X.outer):b∉frs X.stack:=λz=>by
 rcases b9.mp (I.JD b z) with z|z;.show absurd (cv (aI q) I.ok.above) (by rw[z];show fF _)
 .show nb z
def aP.ac2 (I:aP X ak σ H1 s1)(z:b∈frs X.outer):b∈frs X.stack:=by
 rcases I.ok.stk with e|⟨e,j⟩;.rw[e];show z
 .rw[e];unfold frs;rw[mI,j];show bq _ z
def aP.raised (I:aP X ak σ H1 s1)(F:X.stack=X.env::X.outer)(hf:X.env.frame=some X.env.locals)(hex:X.ex=[])(Y:s1.heap.get? e=some oe)(hd:oe.data=.fields vs)(h1:vs[1]?=some .none)(h2:vs[2]?=some .none)(ne:H1 e=none)(O:∀b o,X.s₀.heap.get? b=some o->b≠e)(q:∀s2 B,ExB X.prog X.w X.outer X.H₀ X.s₀ e oe.cls oe.dict H1 s2 B->Q () s2):wpAny (model X.prog X.w) X.A (leaving X.env (.ref e)) Q E s1:=by
 let hfr:X.A.frames=some (X.env::X.outer):=by rw[<-F];show I.ok.frames
 let hl:s1.heap.FunFrames (hideAll s1.heap (e::frs X.stack)) (X.env::X.outer):=by rw[<-F];show funFrames_hide I.stack λenv Y b hb=>bq _ (sd.mpr ⟨env,Y,hb⟩)
 let j:∀b:Addr,b∉X.ex:=λb=>by rw[hex];simp
 calc leave_new hfr hl hf Y (λb o z=>of_hideAll _ z) (hideAll_none _ (.head _)) hd h1 h2 λh' x k=>q _ (hideAll s1.heap (e::frs X.stack)) ?_;let G:∀b o,s1.heap.get? b=some o->b≠e->b∉frs X.stack->(hideAll s1.heap (e::frs X.stack)).get? b=some o:=λb o z n1 n2=>hideAll_get _ z λm=>by
  rcases b9.mp m with m|m;.show n1 m
  .show n2 m
 let kF:∀b o,s1.heap.get? b=some o->b∈frs X.stack->∃sl,h'.get? b=some {o with slots:=sl}:=λb o z m=>by let⟨_,u,hu,nf⟩:=I.stack.mem m;rw[z]at hu;cases hu;show k b _ z nf
 let Z:∀b u,H1 b=some u->∀o,s1.heap.get? b=some o->(hideAll s1.heap (e::frs X.stack)).get? b=some o:=λb u t o z=>G b o z (λm=>by rw[m,ne]at t;cases t) λm=>by rw[I.zZ b m]at t;cases t
 calc⟨I.os,I.bare,⟨λb o z n hb _=>?_,λb o z n hb _=>?_,λb o z n _=>I.base.free b o z n (j b),λb o z _=>?_,I.base.tups,I.base.rE,I.base.rZ⟩,λb o t=>?_,x,ne,λb u t=>?_,λb o z hb n=>?_,λb o z hb=>?_⟩;.show x.stays b o (G b o (I.base.keep b o z n hb (j b)) (O b o z) (I.J4 z hb))
 .let⟨sl,e1⟩:=I.base.slot b o z n hb (j b);let⟨J,e2⟩:=kF b _ e1 (I.ac2 hb);show⟨J,e2⟩
 .let⟨D,e1⟩:=I.base.there b o z (j b);by_cases m:b∈frs X.stack
  .let⟨J,e2⟩:=kF b _ e1 m;show⟨_,e2⟩
  .show⟨D,x.stays b D (G b D e1 (O b o z) m)⟩
 .refine(I.hok b o t).stay (λc u hc z=>x.stays c u ?_) (λ_ r=>r) λ_ _ r=>r
  rcases hc with rfl|hc;.show Z c _ t u z
  .show Z c _ hc u z
 .let⟨o,z⟩:=(I.hok b u t).there;show⟨o,Z b u t o z⟩
 .show G b o (I.base.keep b o z n hb (j b)) (O b o z) (I.J4 z hb)
 .let⟨D,e1⟩:=I.base.there b o z (j b);show⟨D,G b D e1 (O b o z) (I.J4 z hb)⟩
def aP.passed (I:aP X ak σ H1 s1)(D:X.stack=X.env::X.outer)(hf:X.env.frame=some X.env.locals)(G:X.ex=[])(x:ExB X.prog X.w X.stack H1 s1 e cls dd H' s2 B)(q:∀Y,ExB X.prog X.w X.outer X.H₀ X.s₀ e cls dd H' Y B->Q () Y):wpAny (model X.prog X.w) X.A (leaving X.env (.ref e)) Q E s2:=by
 let F:X.A.frames=some (X.env::X.outer):=by rw[<-D];show I.ok.frames
 let j:∀b:Addr,b∉X.ex:=λb=>by rw[G];simp
 let n0:∀b:Addr,b∉([]:List Addr):=λb=>by simp
 calc ac1 F hf (by rw[<-D];show x.fly) λh' y k=>q _ ?_;let kp:∀b o,X.s₀.heap.get? b=some o->b∉frs X.outer->X.H₀ b=none->B.get? b=some o:=λb o z hb n=>x.kp b o (I.base.keep b o z n hb (j b)) (I.J4 z hb) (I.base.free b o z n (j b));let th:∀b o,X.s₀.heap.get? b=some o->b∉frs X.outer->∃o',B.get? b=some o':=λb o z hb=>by let⟨O,e1⟩:=I.base.there b o z (j b);show x.th b O e1 (I.J4 z hb)
 let Z:∀b o,X.s₀.heap.get? b=some o->b∈frs X.outer->∃sl,h'.get? b=some {o with slots:=sl}:=λb o z m=>by let⟨sl,e1⟩:=I.base.slot b o z (I.ok.DP b m) m (j b);let⟨sl2,e2⟩:=x.un.slot b _ e1 (I.zZ b (I.ac2 m)) (I.ac2 m) (n0 b);let⟨_,u,hu,nf⟩:=I.ok.qF.mem m;rw[z]at hu;cases hu;let⟨J5,e3⟩:=k b _ e2 nf;show⟨J5,e3⟩
 refine⟨x.os.trans I.os,x.bare,⟨λb o z n hb _=>y.stays b o (kp b o z hb n),λb o z n hb _=>Z b o z hb,λb o z n _=>?_,λb o z _=>?_,λb xs t=>x.un.tups b xs (I.base.tups b xs t),λb o u t=>x.un.rE b o u (I.base.rE b o u t),λb ps t=>?_⟩,λb o t=>?_,y,x.na,x.NT,kp,th⟩
 .let⟨O,e1⟩:=I.base.there b o z (j b);show x.un.free b O e1 (I.base.free b o z n (j b)) (n0 b)
 .by_cases m:b∈frs X.outer
  .let⟨sl,e3⟩:=Z b o z m;show⟨_,e3⟩
  .let⟨o',e1⟩:=th b o z m;show⟨o',y.stays b o' e1⟩
 .let⟨m1,e1⟩:=I.base.rZ b ps t;let⟨m2,e2⟩:=x.un.rZ b _ e1;show⟨m1++m2,by rw[e2,Array.append_assoc]⟩
 .refine(x.hok b o t).stay (λc u J z=>?_) (λ_ r=>r) λ_ _ r=>r
  have:∃v,H' c=some v:=by
   rcases J with rfl|J;.show⟨_,t⟩
   .show⟨_,J⟩
  let⟨v,hv⟩:=this;let⟨o',hB⟩:=x.NT c v hv;have:=x.fly.stays c o' hB;rw[z]at this;cases this;show y.stays c u hB
end
def Lets (X:Cx)(E:XK):Prop:=∀(ak:AE) (σ:St) (H:Hp) (s:Shared) (e:Addr) (oe:Obj) (vs:Array Value),aP X ak σ H s->s.heap.get? e=some oe->oe.data=.fields vs->vs[1]?=some .none->vs[2]?=some .none->H e=none->
 (∀b o,X.s₀.heap.get? b=some o->b≠e)->E oe.cls oe.dict H->X.xe (.ref e) s
section
variable {P:Program}{w:World}{K:W.Frag}{mg:Str->Option Value}{base:Heap}{N:List Str}{qual:Str}{scope:Scope}{f:Addr}{cd:Value}{A:Around}{outer:List Env}{s:Shared}{H:Hp}{E:XK}
def rP:Lets (ud (Ec P w) P w K mg base N qual scope f cd A outer s H E) E:=λak σ H1 s1 e oe vs I j hd h1 h2 ne D q=>I.raised rb rb rb j hd h1 h2 ne D λs2 B x=>⟨e,_,_,_,B,rb,x,q⟩
def xr:Passes (Ec P w) (ud (Ec P w) P w K mg base N qual scope f cd A outer s H E) E:=λak σ H1 s1 e s2 I ⟨a,cls,dd,H',B,z,x,q⟩=>by subst z;show I.passed rb rb rb x λj y=>⟨a,cls,dd,H',B,rb,y,q⟩
end
structure DefX (P:Program)(w:World)(K:W.Frag)(mg:Str->Option Value)(base:Heap)(name:Str)(k:Nat)(ps:List Str)(sp:Sp):Prop where
 ex:∃f fd,cB P w K mg base (Ec P w) k f fd ps sp/\bT K fd ps []/\mg name=some (.ref f)/\W.keepIn K (.ref f)=true
def fu.Br {K:W.Frag}{mg:Str->Option Value}{x qual:Str}{st:Stmt}{N ps:List Str}{k:Nat}{sp:Sp}(F:fu K x qual st f fd)(S:bw N ps (aH st))(len:∀vs H Q E,sp vs H Q E->vs.length=ps.length)(j:∀(bN:Value) (A:Around) (outer:List Env) (s:Shared) (H:Hp) (vs:List V) (Q:VK) (E:XK),fO k (A.deeper (envOfC qual (aH st) s.heap.objs.size f bN))->sp vs H Q E->
   ∃t,yK (ud (Ec P w) P w K mg base N qual (aH st) f bN A outer s H E) (cT st) t/\t {nx:=λ_ H'=>Q .non H',rt:=Q} (start N vs) H):cB P w K mg base (Ec P w) (k+1) f fd ps sp:=by
 let⟨oc,od,kV,doc,pm,an,bN,ct,osl,rfl,I,G⟩:=F.ex;calc aek I G S len λA outer s H vs Q E J D=>?_;let⟨t,h,q⟩:=j bN A outer s H vs Q E J D;show⟨t,h.out,q⟩
def aO.Br {K:W.Frag}{mg:Str->Option Value}{name:Str}{st:Stmt}{N ps:List Str}{k:Nat}{sp:Sp}(D:aO K mg name st ps)(S:bw N ps (aH st))(len:∀vs H Q E,sp vs H Q E->vs.length=ps.length)(j:∀(f:Addr) (bN:Value) (A:Around) (outer:List Env) (s:Shared) (H:Hp) (vs:List V) (Q:VK) (E:XK),fO k (A.deeper (envOfC name (aH st) s.heap.objs.size f bN))->sp vs H Q E->
   ∃t,yK (ud (Ec P w) P w K mg base N name (aH st) f bN A outer s H E) (cT st) t/\t {nx:=λ_ H'=>Q .non H',rt:=Q} (start N vs) H):DefX P w K mg base name (k+1) ps sp:=by
 let⟨f,fd,F,b,g⟩:=D.ex;show⟨f,fd,F.Br S len (j f),b,g,F.kp⟩
def Ac (CX:vA)(X:Cx)(E:XK)(S:St->Prop):Prop:=∀(ak:AE) (σ:St) (H:Hp) (s:Shared) (e:Value) (s':Shared),aP X ak σ H s->S σ->CX X.stack H s E e s'->X.xe e s'
def Passes.all (h:Passes CX X E):Ac CX X E λ_=>True:=λak σ H s e s' I _ q=>h ak σ H s e s' I q
def ahM (sp:Sp)(E:XK)(S:St->Prop)(t:TA):TE:=λσ H Q=>S σ/\t σ H λvs H1=>sp vs H1 Q E
section
variable {X:Cx}{k:Nat}{f:Addr}{fd:FuncData}{ps:List Str}{sp:Sp}{E:XK}{S:St->Prop}{x:Str}{p pos:Pos}{e:Expr}{es:List Expr}{t:TA}
def oO (D:DefX X.prog X.w X.K X.mg X.base x k ps sp)(hr:fO k X.A)(hg:Gl X x)(hx:Ac (Ec X.prog X.w) X E S)(ha:QA X (e::es) t)(O:(x==("__debug__":Str))=false:=by decide)(hs:starEach (e::es) X.env=(false,eval e X.env)::starEach es X.env:=by rfl)(J:(backTo pos (starEach es X.env)).any (·.1)=false:=by rfl):QE X (.Call (.Name x p) (e::es) [] pos) (ahM sp E S t):=⟨by
 let⟨f,fd,F,hb,hm,hk⟩:=D.ex;intro ak s σ H Q I h;let⟨Z,h⟩:=h;calc jn (qg I hg hm ?_ O);calc kX (h₀:=X.base) I.ok.mod.JC hk (cD (ha.out pos ak s σ H _ I h) λus s1 ⟨vs,H1,j,r,q⟩=>⟨j.jC,?_⟩) hs J;let hl:us.length=ps.length:=by rw[<-r.length];show F.len _ _ _ _ q
 let Y:=hb s1 us j.jC (by rw[fk];show hl);rw[fk]at Y;calc nS (nv (F.run X.A X.stack s1 H1 ⟨us,[]⟩ us vs Q E hr j.env0 Y r q) λr s' G=>?_);cases r with
 | error e=>show hx ak σ H1 s1 e s' j Z G
 | ok fl=>
  cases fl with
  | ret u=>show j.after G
  | next=>show False.elim G
  | brk=>show False.elim G
  | cont=>show False.elim G⟩
end
def afk {K:W.Frag}(X:K.In h)(q:excIn K C bmB newId=true):∃bm N nm q bs hdct sn sub ab col dd k0 k1 k2 k3 k5 mN,h.get? C=some (excClassObj nm q C N bs bm hdct sn sub ab col dd k0 k1 k2 k3 k5 newId)/\h.Ns N mN/\mN "__init__"=none/\OwnTail h bmB bm:=by
 unfold excIn at q;split at q
 .next dd cd sl ho=>
  split at q
  .next C' bm k0 k1 k2 k3 n k5 hm hs=>
   simp only[cn,beq_iff_eq,Bool.not_eq_true']at q;obtain⟨⟨⟨⟨⟨e1,e2⟩,j⟩,ht⟩,hok⟩,D⟩:=q;subst e1 e2;let⟨nm,bs,mro,ns,I,hd,sn,sub,ab,col,G⟩:=cd;dsimp only at hm j hok D;subst hm j;let F:sl=#[k0,k1,k2,k3,some (.builtin n),k5]:=by cases sl;simp only at hs;rw[hs]
   subst F;show⟨bm,ns,nm,I,bs,hd,sn,sub,ab,col,dd,k0,k1,k2,k3,k5,_,X _ _ ho,.of_isNs (isNs_of_in X hok),nsMap_none_of_in X hok D,tail_of_in X ht⟩
  .cases q
 .cases q
abbrev kE:List Value:=[.type "ValueError",.type "Exception",.type "BaseException",.type "object"]
def ahN (C:Addr)(E:XK)(t:TA):TS:=λ_ σ H=>t σ H λvs H1=>vs.length<=sizeLine/\E (.ref C) none H1
section
variable {X:Cx}{C:Addr}{E:XK}{x:Str}{np cpos pos:Pos}{e:Expr}{es:List Expr}{t:TA}
def Ir (hl:Lets X E)(hc:X.calm=true)(J:X.ex=[])(hg:Gl X x)(hm:X.mg x=some (.ref C))(hC:excIn X.K C kE "ValueError.__new__"=true)(ha:QA X (e::es) t)(Y:(x==("__debug__":Str))=false:=by decide)(hs:starEach (e::es) X.env=(false,eval e X.env)::starEach es X.env:=by rfl)(O:(backTo cpos (starEach es X.env)).any (·.1)=false:=by rfl):QS X (.Raise (some (.Call (.Name x np) (e::es) [] cpos)) none pos) (ahN C E t):=⟨by
 intro ak s σ H D I h;let⟨tl,N,nm,q,bs,hdct,sn,sub,ab,col,dd,k0,k1,k2,k3,k5,mN,cC,cN,G,T⟩:=afk I.ok.mod.JC hC;let ar:=ha.out cpos ak s σ H _ I h;rw[hs]at ar;refine wpAny_Raise_call_subT (C:=C) (nm:=nm) (q:=q) (N:=N) (bs:=bs) (bm:=tl) (hdct:=hdct) (sn:=sn) (sub:=sub) (ab:=ab) (col:=col) (dd:=dd) (k0:=k0) (k1:=k1) (k2:=k2) (k3:=k3) (k5:=k5) ie (mN:=mN)
  (T.hasType ie.hasBase) (I.ok.hd hc) (by rw[hs];show (false||(backTo cpos (starEach es X.env)).any (·.1))=false;rw[O];rfl) G (qg I hg hm ⟨rb,?_⟩ Y)
 rw[hs];calc kz (fA ar (λus s2 z=>?_) λ_ _ y=>y);let⟨vs,H1,j,r,hv,hE⟩:=z;calc⟨rb,by rw[<-r.length];show hv,j.bk _ _ cC,cN.keeps j.bk,T.keeps j.bk,λh' a hx=>?_⟩;let⟨tt,Z,_,_⟩:=hx.there;refine hl ak σ H1 _ a _ _ (j.kept (t':=s2.toks) hx.keeps) Z rb rb rb ?_ (λb o z y=>?_) hE
 .cases z:H1 a with| none=>rfl| some u=>let⟨o,F⟩:=(j.hok a u z).there;rw[hx.new]at F;cases F
 .let⟨o',F⟩:=j.base.there b o z (by rw[J];simp);rw[y,hx.new]at F;cases F⟩
end
def ahO (a:Addr)(cls:Value)(dd:Option Addr):Heap->Prop:=λh=>∃oe vs,h.get? a=some oe/\oe.cls=cls/\oe.dict=dd/\oe.data=.fields vs/\vs[2]?=some .none
section
variable {X:Cx}{ak:AE}{σ:St}{H H':Hp}{s s':Shared}{a:Addr}{cls fl:Value}{dd:Option Addr}{B h3:Heap}
def aP.caught (I:aP X ak σ H s)(x:ExB X.prog X.w X.stack H s a cls dd H' s' B)(y:xT B X.stack a cls dd fl h3)(k:s'.heap.UpToSlots h3):aP X ak σ (upd H' a (.ext (ahO a cls dd))) {s' with heap:=h3}:=by
 let n0:∀b:Addr,b∉([]:List Addr):=λb=>by simp
 let⟨oe,vs,T,oT,ts,G,j,O,hd,_,h2,_⟩:=y.tr;let J:∀b o,s.heap.get? b=some o->b∈frs X.stack->(∃sl,h3.get? b=some {o with slots:=sl})/\∀vs,o.data≠.fields vs:=λb o z m=>by let⟨_,u,hu,F⟩:=I.stack.mem m;rw[z]at hu;cases hu;let⟨sl2,e2⟩:=x.un.slot b _ z (I.zZ b m) m (n0 b);let⟨J5,e3⟩:=k b _ e2 F;show⟨⟨J5,e3⟩,F⟩
 let na:∀b o,s.heap.get? b=some o->b≠a:=λb o z m=>by
  by_cases hb:b∈frs X.stack
  .obtain⟨⟨sl,e3⟩,F⟩:=J b o z hb;rw[m,G]at e3;cases e3;show F vs hd
  .let⟨o',Z⟩:=x.th b o z hb;rw[m,y.new]at Z;cases Z
 let D:∀b u,H' b=some u->b≠a:=λb u z m=>by rw[m,x.na]at z;cases z
 let Y:∀c u v,H' c=some v->s'.heap.get? c=some u->h3.get? c=some u:=λc u v t z=>by let⟨o',hB⟩:=x.NT c v t;have:=x.fly.stays c o' hB;rw[z]at this;cases this;show y.stays c u hB
 refine I.call' (s':={s' with heap:=h3}) (ch:=[]) x.os ⟨λb o z n hb _=>y.stays b o (x.kp b o z hb n),λb o z n hb _=>(J b o z hb).1,λb o z n _=>?_,λb o z _=>?_,λb xs t=>?_,λb o u t=>?_,λb ps t=>?_⟩ (λb o t=>?_) x.bare λb z=>absurd z t7
 .rw[aY (na b o z)];show x.un.free b o z n (n0 b)
 .by_cases m:b∈frs X.stack
  .obtain⟨⟨sl,e3⟩,_⟩:=J b o z m;show⟨_,e3⟩
  .let⟨o',e1⟩:=x.th b o z m;show⟨o',y.stays b o' e1⟩
 .let t':=x.un.tups b xs t;rw[aY (D b _ t')];show t'
 .let t':=x.un.rE b o u t;rw[aY (D b _ t')];show t'
 .let⟨more,t'⟩:=x.un.rZ b ps t;show⟨more,by rw[aY (D b _ t')];show t'⟩
 .by_cases hb:b=a
  .subst hb;rw[au]at t;cases t;show⟨⟨oe,vs,G,j,O,hd,h2⟩,⟨oe,G⟩,λh h' ⟨oe,vs,e1,e2,e3,e4⟩ q=>⟨oe,vs,q oe e1,e2,e3,e4⟩⟩
  .rw[aY hb]at t;refine(x.hok b o t).stay (λc u j z=>?_) (λc r=>by rw[aY (D c _ r)];show r) λc xs r=>by rw[aY (D c _ r)];show r
   rcases j with rfl|j;.show Y c u _ t z
   .show Y c u _ j z
end
abbrev Cx.tried (X:Cx)(pn:AE)(xe:AD):Cx:={X with pn:=pn,xe:=xe}
abbrev Cx.held (X:Cx)(a:Addr):Cx:={X with A:=X.A.mark (some (.ref a)),calm:=false,xe:=λ_ _=>False}
section
variable {X:Cx}{ak JF pn:AE}{σ:St}{H:Hp}{s:Shared}{xe:AD}{a:Addr}
def aP.tried (I:aP X ak σ H s)(xe:AD):aP (X.tried (X.pn++ak) xe) [] σ H s:=⟨⟨I.ok.mod,I.ok.kind,I.ok.glob,I.ok.blt,I.ok.above,I.ok.inj,I.ok.has,I.ok.cab,I.ok.hd,I.ok.frames,I.ok.stk,I.ok.exf,I.ok.bs,I.ok.Dl,I.ok.DN,I.ok.Ib,I.ok.qF,I.ok.DP⟩,I.os,I.bare,I.base,I.loc,I.cell,I.free,I.n_,λp hp=>I.pin p (by simpa using hp),I.hok,I.len⟩
def aP.uh (I:aP (X.tried (X.pn++ak) xe) JF σ H s):aP X ak σ H s:=⟨⟨I.ok.mod,I.ok.kind,I.ok.glob,I.ok.blt,I.ok.above,I.ok.inj,I.ok.has,I.ok.cab,I.ok.hd,I.ok.frames,I.ok.stk,I.ok.exf,I.ok.bs,I.ok.Dl,I.ok.DN,I.ok.Ib,I.ok.qF,I.ok.DP⟩,I.os,I.bare,I.base,I.loc,I.cell,I.free,I.n_,λp hp=>I.pin p (qh _ hp),I.hok,I.len⟩
def SP.uh (h:SP (X.tried (X.pn++ak) xe) JF D f s):SP X ak D f s:=by
 cases f with
 | next=>let⟨σ',H',I,q⟩:=h;show⟨σ',H',I.uh,q⟩
 | brk=>let⟨σ',H',I,q⟩:=h;show⟨σ',H',I.uh,q⟩
 | cont=>let⟨σ',H',I,q⟩:=h;show⟨σ',H',I.uh,q⟩
 | ret u=>let⟨v,σ',H',I,r,q⟩:=h;show⟨v,σ',H',I.uh,r,q⟩
def aP.held (I:aP X ak σ H s)(a):aP (X.held a) ak σ H s:=⟨⟨I.ok.mod,I.ok.kind,I.ok.glob,I.ok.blt,I.ok.above,I.ok.inj,I.ok.has,I.ok.cab,(λz=>nomatch z),I.ok.frames,I.ok.stk,I.ok.exf,I.ok.bs,I.ok.Dl,I.ok.DN,I.ok.Ib,I.ok.qF,I.ok.DP⟩,I.os,I.bare,I.base,I.loc,I.cell,I.free,I.n_,I.pin,I.hok,I.len⟩
def aP.J6 (I:aP (X.held a) ak σ H s)(ok:X.Ok):aP X ak σ H s:=⟨ok,I.os,I.bare,I.base,I.loc,I.cell,I.free,I.n_,I.pin,I.hok,I.len⟩
end
structure ajj (K:W.Frag)(C:Addr):Prop where
 cl:(clsIn K C).isSome=true
 ga:findIn K (.ref C) "__getattribute__"=some (some (.builtin "BaseException.__getattribute__"))
 gx:findIn K (.ref C) "__getattr__"=some none
 ha:findIn K (.ref C) "__class__"=some (some (.builtin "object.__class__"))
 hn:specialIn K (.builtin "object.__class__") "__get__"=some (some (.builtin "getset_descriptor.__get__"))
 ht:takesIn K (.builtin "object.__class__")=some true
 hm:mroIn K C (.type "object")=some true
 hb:mroIn K C (.type "BaseException")=some true
end L2
namespace HT
open PySem PySem.Spec PyProof.Rows
section
variable {prog:Program}{w:World}{A:Around}{E:AD}{s:Shared}
def Hl {lo hi:Option Int}(ht:IsTup s.heap t items)(hs:s.heap.IsSliceOf sl vl vu .none)(pl:IsPart vl lo)(F:IsPart vu hi)(hw:dj items.size 0 lo=0/\dj items.size items.size hi=items.size)(h:Q (.ref t) s):wpAny (model prog w) A (getItem (.ref t) (.ref sl)) Q E s:=by
 let⟨D,h1,h2,h3⟩:=id hs;let ty:s.TypeIs (.ref sl) "slice":=⟨D,h1,h2⟩
 unfold getItem
 try with_reducible refine ib ?_
 first|refine af (ax ?_)|skip
 calc af (wpAny_sequenceKey ht.typeIs t9 (af (kS (name:=Str.ofString "__getitem__") ht.typeIs gv (ij gv ht.typeIs entry_tuple_getitem ?_ (args_tuple_getitem _ _)))));show wpAny _ _ (Builtin.Tuple.tupleItemsOf (.ref t) >>= _) _ _ s;calc af (tupleItemsOf_ ht (af (wpAny_typeOf ty ?_)));rw[if_pos t9];calc af (xM hs pl F ?_);let j:((((dj items.size 0 lo:Nat):Int)==0&&(1:Int)==1&&(dj items.size items.size hi-dj items.size 0 lo)==items.size)=true):=by rw[hw.1,hw.2];simp
 show wpAny _ _ (if (((dj items.size 0 lo:Nat):Int)==0&&(1:Int)==1&&(dj items.size items.size hi-dj items.size 0 lo)==items.size)=true then _ else _) _ _ s;rw[if_pos j];calc af ?_;unfold Builtin.Tuple.tupleIsExact;calc af (wpAny_typeOf ht.typeIs (ax ?_));rw[if_pos t9];show af (ja (ax ⟨_,rb,ax h⟩))
end
end HT
namespace L2
open PySem PySem.Spec PyProof.Rows PySem.W
section
variable {X:Cx}
def ajk (K:W.Frag):R2:=λx y H Q=>∃a b xs ys,x=.ref a/\y=.ref b/\aU K H a xs/\aU K H b ys/\xs.length+ys.length<=sizeLine/\(xs=[]->H b=some (.tup ys))/\(ys=[]->xs≠[]->H a=some (.tup xs))/\
 ∀p H',aD H H'->H' p=some (.tup (xs++ys))->Q (.ref p) H'
def Xa:gJ X (binaryOp .Add) (ajk X.K):=by
 intro ak s σ H x y v u Q I rx ry h;let⟨a,b,xs,ys,rfl,rfl,ha,hb,hz,e1,e2,q⟩:=h;cases rx;cases ry;let⟨its,r1,p1,_⟩:=I.tuple ha;let⟨F,J,p2,_⟩:=I.tuple hb;by_cases hx:xs=[]
 .let hi:its=[]:=r1.Aa.mpr hx;obtain⟨⟨cls,dd,data,sl⟩,ho,hc,n,hd⟩:=id p1;obtain⟨⟨cls2,Y,O,Z⟩,D,G,n2,j⟩:=id p2;simp only at hc hd G j;subst hc hd G j;show concat_meets ⟨_,ho,rb⟩ ⟨_,D,rb⟩ noFill_tuple_add seq_tuple_add oz og (nB _ _)
   (tuple_addW0 a b its.toArray F.toArray n n2 dd Y sl Z (by simp[hi])) ⟨ho,D,⟨.ref b,H,I,rb,q b H (aD.refl _) (by rw[hx];show e1 hx)⟩⟩
 .refine HT.ae2 p1 p2 (λz=>hx (r1.Aa.mp z)) (λz=>⟨.ref a,H,I,rb,?_⟩) (λz=>?_) (by rw[<-r1.length,<-J.length];show hz)
  .let hy:=J.Aa.mp z;show q a H (aD.refl _) (by rw[hy,fk];show e2 hy hx)
  .calc⟨.ref s.heap.objs.size,_,I.laid (t':=s.toks) (o:=.tup (xs++ys)) (λb ob q=>ag _ q) (ai _) ?_,rb,q _ _ (aD.upd (I.hok.fresh (ai _))) au⟩;show⟨by rw[av];show hz,_,r1.append J,IsTup.new _ _⟩
def aj3 (K:W.Frag):V->Option Int->Option Int->Hp->VK->Prop:=λx lo hi H Q=>∃a xs,x=.ref a/\H a=some (.tup xs)/\∀p H',aD H H'->H' p=some (.tup (jo xs lo hi))->Q (.ref p) H'
def Xb:WR X (aj3 X.K):=by
 intro ak s σ H x v G J lo hi sl Q I F hs pl D h;let⟨a,xs,rfl,hx,q⟩:=h;cases F;let⟨its,r,ht,hz⟩:=I.tuple (aU.of hx);let j:its.toArray.size=xs.length:=by rw[bE];show r.length.symm
 calc⟨"tuple",_,gv.lookup,ht.typeIs,?_⟩;by_cases hw:HT.dj xs.length 0 lo=0/\HT.dj xs.length xs.length hi=xs.length
 .calc HT.Hl ht hs pl D (by rw[j];show hw) ⟨.ref a,H,I,rb,q a H (aD.refl _) ?_⟩;unfold jo;rw[hw.1,hw.2];simpa using hx
 .calc HT.Hj ht hs pl D (by rw[j];show hw) ?_ (by rw[j];show hz);rw[j];calc⟨.ref s.heap.objs.size,_,I.laid (t':=s.toks) (o:=.tup (jo xs lo hi)) (λb ob q=>ag _ q) (ai _) ?_,rb,q _ _ (aD.upd (I.hok.fresh (ai _))) au⟩;show⟨bS (Hu xs lo hi) hz,_,(r.drop (HT.dj xs.length 0 lo)).take (HT.dj xs.length xs.length hi-HT.dj xs.length 0 lo),IsTup.new _ _⟩
def xV:fillsNumberSlot (.type "tuple") "mul"=pure false:=PySem.fillsNumberSlot_seq (id:="tuple.__mul__") (r:=some (.builtin "tuple.__rmul__")) lx.lookup uj (by rw[typeLookup_type,builtinLookup_eq_fast];kernel_rfl) uj
def Ed:seqRepeat? (.type "tuple")=pure (some (.builtin "tuple.__mul__")):=by unfold seqRepeat?;rw[PySem.seqSlot_of (T:="tuple") (name:="__mul__") (id:="tuple.__mul__") lx.lookup uj,PySem.seqSlot_of (T:="tuple") (name:="__rmul__") (id:="tuple.__rmul__") (by rw[typeLookup_type,builtinLookup_eq_fast];kernel_rfl) uj];rfl
def J7 (a)(t:Tok)(l)(items)(n)(dd)(sl):Meets (Builtin.«int.__rmul__» ⟨[.int a t,.ref l],[]⟩) (λ_ R s=>s.heap.get? l=some {cls:=.type "tuple",dict:=dd,data:=.seq items n,slots:=sl}/\R (.ok (.ret Value.notImplemented)) s):=
 .of_wp λprog w A R s h=>by
  let⟨hp,g,d,tk,os⟩:=s;let⟨hl,h⟩:=h
  wp_walk
  show⟨_,rb,h⟩
def Xc {α:Type}(n)(l:List α):(List.replicate n l).flatten.length=n*l.length:=by
 induction n with| zero=>simp| succ n ih=>rw[fi,ed,av,ih,qr];lia
theorem Xd:∀(n:Nat) (a j:Array Value),List.foldl (λx1 D=>x1++D) j (List.replicate n a)=(j.toList++(List.replicate n a.toList).flatten).toArray
 | 0,a,j=>by simp
 | n+1,a,j=>by rw[fi,mS,Xd n a (j++a)];simp[fi]
def O1 (n:Nat)(a:Array Value):List.foldl (λx1 j=>x1++j) #[] (List.replicate n a)=((List.replicate n a.toList).flatten).toArray:=by rw[Xd];simp
def Zg (l)(j:Array Value)(n)(dd)(sl)(x)(u:Tok)(h0:¬j.isEmpty=true)(h1:2<=x)(h2:x<=100)(h3:j.size<=100):Meets (Builtin.«tuple.__mul__» ⟨[.ref l,.int x u],[]⟩) (λ_ R s=>s.heap.get? l=some {cls:=.type "tuple",dict:=dd,data:=.seq j n,slots:=sl}/\R (.ok (.ret (.ref s.heap.objs.size))) {s with heap:=s.heap.push {cls:=.type "tuple",data:=.seq (List.foldl (λx1 D=>x1++D) #[] (List.replicate x.toNat j))} }):=
 .of_wp λprog w A R s h=>by
  let⟨hp,g,d,tk,os⟩:=s;let⟨hl,h⟩:=h;let f1:=AutoSeq1.idx_int;let f2:=AutoSeq1.sub_tuple_tuple;let c1:(decide (x < -(2^63))||decide (x>=2^63))=false:=by simp;lia
  let c2:(j.isEmpty||x==1)=false:=by simp at h0;simp[h0];lia
  let c3:(decide (x<=0)||j.isEmpty)=false:=by simp at h0;simp[h0];show Int.le_of_lt h1
  wp_walk using lh hl
  rw[if_neg (by rw[c1];decide)]
  wp_walk using lh hl
  rw[if_neg (by rw[c2];decide)]
  try wp_walk using lh hl
  rw[if_neg (by rw[c3];decide)];let c4:(j.size:Int)*x<=10000:=nV (show (j.size:Int)<=100 by lia) h2 t6 t6
  try wp_walk using lh hl
  rw[if_neg t6]
  try wp_walk using lh hl
  rw[if_neg (by unfold Builtin.Tuple.tupleTooMany;simp[sizeLine];lia)];let hz:(List.foldl (λx1 D=>x1++D) #[] (List.replicate x.toNat j)).size<=sizeLine:=by rw[O1,bE,Xc,cy];have:x.toNat*j.size<=100*100:=io (by simp_all) h3;show bS this t9
  calc af ?_;unfold Builtin.Tuple.tupleExact;calc iL ?_ hz;show ax ⟨_,rb,h⟩
def ajl (K:W.Frag):R2:=λx y H Q=>∃a xs,∃n:Nat,x=.ref a/\y=.int n/\aU K H a xs/\xs≠[]/\2<=n/\n<=100/\xs.length<=100/\∀p,H p=none->Q (.ref p) (upd H p (.tup (List.replicate n xs).flatten))
theorem RP (r:Vals xs us):∀n,Vals (List.replicate n xs).flatten (List.replicate n us).flatten
 | 0=>.nil
 | n+1=>by rw[fi,fi,ed,ed];show r.append (RP r n)
def afl:gJ X (binaryOp .Mult) (ajl X.K):=by
 intro ak s σ H x y v u Q I G J h;let⟨a,xs,n,rfl,rfl,ha,hx,O,D,Z,q⟩:=h;cases G;let⟨tk,rfl⟩:=J;let⟨its,r1,p1,_⟩:=I.tuple ha;let hl:=r1.length;obtain⟨⟨cls,dd,data,sl⟩,j,F,m,hd⟩:=id p1;simp only at F hd;subst F hd;let h0:¬its.toArray.isEmpty=true:=λz=>hx (r1.Aa.mp (by simpa using z));refine mT (T:="tuple") (U:="int") t9 ⟨_,j,rb⟩ (λs'=>typeIs_int s' _ _) xV PySem.F.fills_int_mul ma Ed PySem.F.slot_int_index.lookup
  (call_meets ma (typeIs_int s _ _) PySem.F.entry_int_rmul (PySem.F.args_int_rmul_2 _ _) (J7 _ _ a its.toArray m dd sl) ⟨j,rb,⟨_,j,rb⟩,?_⟩)
 calc call_meets lx ⟨_,j,rb⟩ PySem.F.entry_tuple_mul (PySem.F.args_tuple_mul_2 _ _) (Zg a its.toArray m dd sl (n:Int) _ h0 t6 t6 (by rw[bE,<-hl];show Z)) ⟨j,?_⟩;calc⟨.ref s.heap.objs.size,_,I.laid (t':=s.toks) (o:=.tup (List.replicate n xs).flatten) (λb ob q=>ag _ q) (ai _) ?_,rb,q _ (I.hok.fresh (ai _))⟩;refine⟨?_,(List.replicate n its).flatten,RP r1 n,?_⟩
 .rw[Xc];have:n*xs.length<=100*100:=io D Z;show bS this t9
 .rw[O1,show ((n:Int)).toNat=n from rb,show its.toArray.toList=its by simp];show IsTup.new _ _
end
def yN (K:Frag)(C fI:Addr):Bool:=match K.lookup C with
 | some ⟨.type "type",_,.cls cd,sl⟩=>(match cd.mro,sl.toList with
  | .ref D::tl,[_,_,_,_,some (.builtin n),_]=>(D==C)&&(n=="ValueError.__new__")&&(!cd.hasDel)&&(cd.hasDict&&(tailIn K kE tl&&(nsOkIn K cd.ns&&(nsIn K cd.ns "__init__" == some (some (.ref fI))))))
  | _,_=>false)
 | _=>false
def aj4 {K:Frag}(X:K.In h)(G:h.Ns N m)(e:nsIn K N n=some (some v)):m n=some v:=by
 let⟨o,es,ep,D,hd,_,j⟩:=G;unfold nsIn at e;split at e
 .next c0 d0 es0 n0 O2 q=>
  let z:=X _ _ q;rw[D]at z;cases z;cases hd;split at e
  .next en he=>cases e;rw[<-j];unfold nsFind findBy;rw[<-Array.find?_toList,he];rfl
  .split at e <;> cases e
 .cases e
def Mh {K:Frag}(X:K.In h)(q:yN K C fI=true):∃bm N nm q bs sn sub ab col dd k0 k1 k2 k3 k5 mN,h.get? C=some (excClassObj nm q C N bs bm true sn sub ab col dd k0 k1 k2 k3 k5 "ValueError.__new__")/\h.Ns N mN/\mN "__init__"=some (.ref fI)/\OwnTail h kE bm:=by
 unfold yN at q;split at q
 .next dd cd sl ho=>
  split at q
  .next D tl k0 k1 k2 k3 n k5 hm hs=>rw[cn,cn,cn,cn,cn,cn,beq_iff_eq,beq_iff_eq,beq_iff_eq,Bool.not_eq_true']at q;obtain⟨⟨⟨e1,e2⟩,e3⟩,e4,ht,hok,hi⟩:=q;subst e1 e2;let⟨nm,bs,mro,ns,F,hd,sn,sub,ab,col,j⟩:=cd;dsimp only at hm e3 e4 hok hi;subst hm e3 e4;let⟨G⟩:=sl;dsimp only at hs;subst hs;show⟨tl,ns,nm,F,bs,sn,sub,ab,col,dd,k0,k1,k2,k3,k5,_,X _ _ ho,.of_isNs (isNs_of_in X hok),aj4 X (.of_isNs (isNs_of_in X hok)) hi,tail_of_in X ht⟩
  .cases q
 .cases q
section
variable {prog:Program}{w:World}{A:Around}{E:AD}{h:Heap}{g:Array GenState}{d:Drawn}{t:Nat}{os:OsState}
variable {nm q:Str}{C N fI:Addr}{bs bm:List Value}{sn:List Str}{sub:List Value}{ab:Bool}{col:Option Bool}{dd:Option Addr}{k0 k1 k2 k3 k5:Option Value}{oI:Obj}{mN:Str->Option Value}{rest:List Value}
abbrev newArgs (rest:List Value):Obj:={cls:=.type "tuple",data:=.seq rest.toArray}
abbrev newExc (C a:Addr):Obj:={cls:=.ref C,data:=.fields #[.ref a,.none,.none,.none,.bool false,.none]}
def RQ (T:OwnTail h kE bm)(j:h.get? C=some (excClassObj nm q C N bs bm true sn sub ab col dd k0 k1 k2 k3 k5 "ValueError.__new__"))(hn:h.Ns N mN)(hi:mN "__init__"=some (.ref fI))(Z:h.get? fI=some oI)(D:oI.cls=.type "function")(hz:rest.length<=sizeLine)(O:wpAny (model prog w) A (call (.ref fI) (.ref (h.objs.size+1)::rest)) (λr s'=>r=.none/\Q (.done (.ret (.ref (h.objs.size+1)))) s') E ⟨(h.push (newArgs rest)).push (newExc C h.objs.size),g,d,t,os⟩):wpAny (model prog w) A (Builtin.«type.__call__» ⟨.ref C::rest,[]⟩) Q E ⟨h,g,d,t,os⟩:=by
 let F:=ie
 repeat (first|with_reducible refine kr j ?_|with_reducible refine wpAny_madeBy_exc j ?_|wp_step)
 calc codeAny_call_builtin_code (Code.quiet_builtin _ F.quiet) (wpAny_check_new_subT F T j (codeAny_exc_new_subT F T j ?_ hz));show wpAny _ _ _ _ _ _;let up:∀b o,h.get? b=some o->((h.push (newArgs rest)).push (newExc C h.objs.size)).get? b=some o:=λb o z=>ag _ (ag _ z);let I:=up _ _ j;let eF:=up _ _ Z;let eN:=hn.keeps up;let J:=T.keeps up;let Y:((h.push (newArgs rest)).push (newExc C h.objs.size)).get? (h.objs.size+1)=some (newExc C h.objs.size):=by heap_get
 let G:(Value.ref C::bm).contains (.ref C)=true:=t7;unfold isInstance
 repeat (first|with_reducible refine kr Y ?_|(with_reducible calc wpAny_isSubtype_exc I ?_;rw[G])|wp_step)
 show wpAny _ _ (typeLookup (.ref C) "__init__") _ _ _;calc wpAny_typeLookup_tail I eN J F.mroIs F.init.lookup ?_;rw[hi];calc ib (af ?_);unfold bindSpecial;calc af (wpAny_typeOf (T:="function") ⟨_,eF,D⟩ ?_);rw[if_pos t9];calc ax (af (fA O (λr s' z=>?_) λ_ _ y=>y));let⟨rfl,z⟩:=z
 wp_walk
 show z
def ac4 (T:OwnTail h kE bm)(j:h.get? C=some (excClassObj nm q C N bs bm true sn sub ab col dd k0 k1 k2 k3 k5 "ValueError.__new__"))(hn:h.Ns N mN)(hi:mN "__init__"=some (.ref fI))(G:h.get? fI=some oI)(D:oI.cls=.type "function")(hz:rest.length<=sizeLine)(F:wpAny (model prog w) (A.under (.builtin "type.__call__" ⟨.ref C::rest,[]⟩)) (call (.ref fI) (.ref (h.objs.size+1)::rest)) (λr s'=>r=.none/\Q (.ref (h.objs.size+1)) s') E ⟨(h.push (newArgs rest)).push (newExc C h.objs.size),g,d,t,os⟩):wpAny (model prog w) A (call (.ref C) rest) Q E ⟨h,g,d,t,os⟩:=by
 let f1:=tc_lookup;let f2:=tc_bind (.ref C);let I:(⟨h,g,d,t,os⟩:Shared).TypeIs (.ref C) "type":=⟨_,j,rb⟩
 calc nS (codeAny_of_tree ?_);show wpAny _ _ (callAny (.ref C) _) _ _ _
 repeat (any_goals (first|assumption|with_reducible refine kr j ?_|wp_step))
 show⟨rb,codeAny_call_builtin_at (Code.quiet_builtin _ uj) entry_typeCall (wpAny_check_type_call_sub j (RQ T j hn hi G D hz F))⟩
end
section
variable {M:Model}{A:Around}{E:AD}{s:Shared}{env:Env}{x:Sem Value}{Q:Flow->Shared->Prop}
variable {nm q:Str}{C N:Addr}{bs bm:List Value}{hdct:Bool}{sn:List Str}{sub:List Value}{ab:Bool}{col:Option Bool}{dd:Option Addr}{k0 k1 k2 k3 k5:Option Value}{newId:String}
def aa7 (hb:bm.contains (.type "BaseException")=true)(G:A.handled=none)(hx:wpAny M A x (λv s1=>∃e oe vs,v=.ref e/\s1.heap.get? C=some (excClassObj nm q C N bs bm hdct sn sub ab col dd k0 k1 k2 k3 k5 newId)/\s1.heap.get? e=some oe/\oe.cls=.ref C/\oe.data=.fields vs/\vs[1]?=some .none/\E (.ref e) s1) E s):wpAny M A (raiseStmt env (some x) none) Q E s:=by
 let inB:(Value.ref C::bm).contains (.type "BaseException")=true:=by rw[List.contains_cons,hb,Bool.or_true]
 unfold raiseStmt;calc af (fA hx (λv s1 z=>?_) λ_ _ y=>y);let⟨e,oe,vs,rfl,D,F,j,hd,h1,J⟩:=z;let⟨oc,od,I,osl⟩:=oe;dsimp only at j hd;subst j hd;let⟨hp,g,d,tk,os⟩:=s1
 repeat (first|with_reducible refine kr F ?_|with_reducible refine kr D ?_|(with_reducible calc wpAny_isSubtype_exc D ?_;rw[inB])|wp_step)
 rw[h1];calc ax ?_;rw[if_neg t9];show ax (wpAny_raiseNew_none G J)
end
def jw (a:Addr)(cls:Value)(dd:Option Addr):Heap->Prop:=λh=>∃oe vs,h.get? a=some oe/\oe.cls=cls/\oe.dict=dd/\oe.data=.fields vs/\vs[1]?=some .none/\vs[2]?=some .none/\dd≠some a
def jw.at {h h':Heap}(x:jw a cls dd h)(k:∀o,h.get? a=some o->h'.get? a=some o):jw a cls dd h':=let ⟨oe,vs,e,r⟩:=x;⟨oe,vs,k oe e,r⟩
def jw.ok (x:jw a cls dd h):f9 P w H h a (.ext (jw a cls dd)):=⟨x,let ⟨oe,_,e,_⟩:=x;⟨oe,e⟩,λ_ _ y k=>y.at k⟩
def drop (H:Hp)(a:Addr):Hp:=λb=>if b=a then none else H b
def rQ:drop H a a=none:=by unfold drop;rw[if_pos rfl]
def jW (h:b≠a):drop H a b=H b:=by unfold drop;rw[if_neg h]
section
variable {X:Cx}{ak:AE}{σ:St}{H:Hp}{s:Shared}{a:Addr}{φ:Heap->Prop}
def aP.drop (I:aP X ak σ H s)(ha:H a=some (.ext φ))(J4:∀b o,X.s₀.heap.get? b=some o->b≠a):aP X ak σ (L2.drop H a) s:=by
 let ne:∀b u,H b=some u->(∀φ,u≠.ext φ)->b≠a:=λb u e n z=>by rw[z,ha]at e;cases e;show n φ rfl
 refine⟨I.ok,I.os,I.bare,⟨I.base.keep,I.base.slot,λb o e n hx=>?_,I.base.there,λb xs e=>?_,λb o u e=>?_,λb ps e=>?_⟩,I.loc,I.cell,?_,λx c e=>?_,λp hp=>?_,λb o e=>?_,I.len⟩
 .by_cases hb:b=a;.rw[hb];show rQ
  .rw[jW hb];show I.base.free b o e n hx
 .let z:=I.base.tups b xs e;rw[jW (ne b _ z λφ=>by simp)];show z
 .let z:=I.base.rE b o u e;rw[jW (ne b _ z λφ=>by simp)];show z
 .let⟨more,z⟩:=I.base.rZ b ps e;show⟨more,by rw[jW (ne b _ z λφ=>by simp)];show z⟩
 .by_cases hb:X.env.locals=a;.rw[hb];show rQ
  .rw[jW hb];show I.free
 .by_cases hb:c=a;.rw[hb];show rQ
  .rw[jW hb];show I.n_ x c e
 .let⟨e1,e2,e3⟩:=I.pin p hp;calc⟨e1,?_,e3⟩;by_cases hb:p.1=a;.rw[hb];show rQ
  .rw[jW hb];show e2
 .by_cases hb:b=a;.rw[hb,rQ]at e;cases e
  .rw[jW hb]at e;refine(I.hok b o e).stay (λc u _ z=>z) (λc r=>?_) λc xs r=>?_
   .rw[jW (ne c _ r λφ=>by simp)];show r
   .rw[jW (ne c _ r λφ=>by simp)];show r
end
structure MkX (K:Frag)(C f:Addr):Prop where
 ini:yN K C f=true
 fn:W.isFn K (.ref f)=true
 kp:W.keepIn K (.ref C)=true
def afm (C:Addr)(sp:Sp)(E:XK)(t:TA):TS:=λ_ σ H=>t σ H λvs H1=>vs.length<=sizeLine/\∀a,H1 a=none->sp (.ref a::vs) (upd H1 a (.ext (jw a (.ref C) none))) (λv j=>v=.non/\∃dd,j a=some (.ext (jw a (.ref C) dd))/\E (.ref C) dd (drop j a)) E0
section
variable {X:Cx}{k:Nat}{f C:Addr}{fd:FuncData}{ps:List Str}{sp:Sp}{x:Str}{p pos cpos:Pos}{e:Expr}{es:List Expr}{t:TA}{E:XK}
def afn {ak:AE}{s:Shared}{σ:St}{H:Hp}{G:Addr->Hp->Prop}(M:MkX X.K C f)(F:cB X.prog X.w X.K X.mg X.base dH k f fd ps sp)(hr:fO (k+1) X.A)(hg:Gl X x)(hm:X.mg x=some (.ref C))(hb:bT X.K fd ps [])(ha:QA X (e::es) t)(I:aP X ak σ H s)(h:t σ H λvs H1=>vs.length<=sizeLine/\∀a,H1 a=none->sp (.ref a::vs) (upd H1 a (.ext (jw a (.ref C) none))) (λv Y=>v=.non/\G a Y) E0)(hdb:(x==("__debug__":Str))=false)(hs:starEach (e::es) X.env=(false,eval e X.env)::starEach es X.env)(Z:(backTo cpos (starEach es X.env)).any (·.1)=false):wpAny (model X.prog X.w) X.A (eval (.Call (.Name x p) (e::es) [] cpos) X.env) (λv s'=>∃a Y,v=.ref a/\aP X ak σ Y s'/\X.s₀.heap.objs.size<=a/\G a Y) X.xe s:=by
 calc jn (qg I hg hm ?_ hdb);calc kX (h₀:=X.base) I.ok.mod.JC M.kp (cD (ha.out cpos ak s σ H _ I h) λus s1 ⟨vs,H1,O,r,hz,q⟩=>⟨O.jC,?_⟩) hs Z;let⟨bm,N,nm,qn,bs,sn,sub,ab,col,dd,k0,k1,k2,k3,k5,mN,cC,cN,ci,T⟩:=Mh O.jC M.ini;obtain⟨oI,hoI,hcI⟩:∃oI,s1.heap.get? f=some oI/\oI.cls=.type "function":=by
  let z:(X.K.lookup f).map (·.cls)=some (.type "function"):=beq_iff_eq.mp M.fn;cases y:X.K.lookup f with
  | none=>rw[y]at z;cases z
  | some of=>rw[y]at z;show⟨of,O.jC _ _ y,bP z⟩
 let J:X.s₀.heap.objs.size<=s1.heap.objs.size+1:=ly O.sz;let⟨j,g,d,tk,os⟩:=s1;let I2:aP X ak σ H1 ⟨j.push (newArgs us),g,d,tk,os⟩:=O.kept (t':=tk) λb u z=>ag _ z;let hsz:(j.push (newArgs us)).objs.size=j.objs.size+1:=fw _ _;let eX:((j.push (newArgs us)).push (newExc C j.objs.size)).get? (j.objs.size+1)=some (newExc C j.objs.size):=by heap_get
 let I3:aP X ak σ (upd H1 (j.objs.size+1) (.ext (jw (j.objs.size+1) (.ref C) none))) ⟨(j.push (newArgs us)).push (newExc C j.objs.size),g,d,tk,os⟩:=I2.laid (t':=tk) (λb u z=>ag _ z) (iq hsz) (jw.ok ⟨_,_,eX,rb,rb,rb,rb,rb,t7⟩)
 let hq:=q (j.objs.size+1) (I2.hok.fresh (iq hsz));let r2:Vals (V.ref (j.objs.size+1)::vs) (Value.ref (j.objs.size+1)::us):=.cons rb r;let hl:(Value.ref (j.objs.size+1)::us).length=ps.length:=by rw[<-r2.length];show F.len _ _ _ _ hq
 let hB:=hb ⟨(j.push (newArgs us)).push (newExc C j.objs.size),g,d,tk,os⟩ (Value.ref (j.objs.size+1)::us) I3.jC (by rw[fk];show hl);rw[fk]at hB;calc ac4 T cC cN ci hoI hcI (by show us.length<=sizeLine;rw[<-r.length];show hz) (nS (nv (F.run _ X.stack _ _ ⟨Value.ref (j.objs.size+1)::us,[]⟩ (Value.ref (j.objs.size+1)::us) _ _ E0 (hr.make C us []) (I3.env0.make C us []) hB r2 hq) λr s' D=>?_));cases r with
 | error e=>show False.elim D
 | ok fl=>
  cases fl with
  | ret u=>let⟨v,H',I4,rv,ev,q3⟩:=I3.after D;subst ev;show⟨rv,_,H',rb,I4,J,q3⟩
  | next=>show False.elim D
  | brk=>show False.elim D
  | cont=>show False.elim D
def vI (hl:Lets X E)(hc:X.calm=true)(M:MkX X.K C f)(F:cB X.prog X.w X.K X.mg X.base dH k f fd ps sp)(hr:fO (k+1) X.A)(hg:Gl X x)(hm:X.mg x=some (.ref C))(hb:bT X.K fd ps [])(ha:QA X (e::es) t)(Y:(x==("__debug__":Str))=false:=by decide)(hs:starEach (e::es) X.env=(false,eval e X.env)::starEach es X.env:=by rfl)(O:(backTo cpos (starEach es X.env)).any (·.1)=false:=by rfl):QS X (.Raise (some (.Call (.Name x p) (e::es) [] cpos)) none pos) (afm C sp E t):=⟨by
 intro ak s σ H D I h;let run:=afn (p:=p) M F hr hg hm hb ha I h Y hs O;let⟨bm,N,nm,qn,bs,sn,sub,ab,col,dd,k0,k1,k2,k3,k5,mN,cC,cN,ci,T⟩:=Mh I.ok.mod.JC M.ini;rw[arm_exec_Raise];refine af (o6 (aa7 (C:=C) (nm:=nm) (q:=qn) (N:=N) (bs:=bs) (bm:=bm) (hdct:=true) (sn:=sn) (sub:=sub) (ab:=ab) (col:=col) (dd:=dd) (k0:=k0) (k1:=k1) (k2:=k2) (k3:=k3) (k5:=k5) (newId:="ValueError.__new__")
  (T.hasType ie.hasBase) (I.ok.hd hc) (af (fA run (λv s1 z=>af (o6 (ax ?_))) λ_ _ y=>y))))
 let⟨a,H2,rfl,G,J,dd2,j,hE⟩:=z;obtain⟨⟨oe,vs,he,h1,h2,h3,h4,Z,_⟩,_⟩:=G.hok a _ j;let J4:∀b o,X.s₀.heap.get? b=some o->b≠a:=λb o z y=>absurd (aI z) (by rw[y];show Nat.not_lt.mpr J);let I3:=G.drop j J4;calc⟨a,oe,vs,rb,G.bk _ _ cC,he,h1,h3,h4,hl ak σ _ _ a oe vs I3 he h3 h4 Z rQ J4 ?_⟩;rw[h1,h2];show hE⟩
end
section
variable {prog:Program}{w:World}{A:Around}{E:AD}{h:Heap}{g:Array GenState}{d:Drawn}{t:Nat}{os:OsState}
variable {nm q:Str}{C N a:Addr}{bs bm:List Value}{sn:List Str}{sub:List Value}{ab:Bool}{col:Option Bool}{dd:Option Addr}{k0 k1 k2 k3 k5:Option Value}{rest:List Value}{Q:AD}{oe:Obj}{vs:Array Value}
def aa8 (T:OwnTail h kE bm)(O:h.get? C=some (excClassObj nm q C N bs bm true sn sub ab col dd k0 k1 k2 k3 k5 "ValueError.__new__"))(G:h.get? a=some oe)(I:oe.cls=.ref C)(hd:oe.data=.fields vs)(hz:0<vs.size)(Z:rest.length<=sizeLine)(J:Q .none ⟨(h.push (newArgs rest)).update a (Obj.mapFields (·.setIfInBounds 0 (.ref h.objs.size))),g,d,t,os⟩):wpAny (model prog w) A (call (.builtin "ValueError.__init__") (.ref a::rest)) Q E ⟨h,g,d,t,os⟩:=by
 let F:=ie;let⟨oc,od,Y,osl⟩:=oe;dsimp only at I hd;subst I hd;calc nS (codeAny_call_builtin F.init.plain F.initEntry (wpAny_check_init_subT F T O G rb ?_));let j:(h.push (newArgs rest)).get? a=some ⟨.ref C,od,.fields vs,osl⟩:=ag _ G;unfold Builtin.«BaseException.__init__»
 repeat (first|with_reducible refine kr j ?_|wp_step)
 obtain⟨D,e0⟩:∃D,vs[0]?=some D:=⟨_,fm hz⟩
 rw[e0];calc ax (af (r8 j rb hz ?_));cases D <;> first|show wpAny_letGo (ax J)|show ax (ax J)
end
def um:List Value->Bool
 | .ref _::r=>um r
 | l=>l==kE
theorem Ef (self):∀{l:List Value},um l=true->refuseLoop self "__setattr__" l=pure ()
 | .ref _::r,e=>(refuseLoop_ref self "__setattr__" _ r).trans (Ef self (l:=r) e)
 | [],e=>by cases e
 | .type n::r,e=>by rw[beq_iff_eq.mp (show (Value.type n::r==kE)=true from e)];show PySem.F.store_ValueError.passes self
 | .none::r,e=>by cases(beq_iff_eq.mp (show (Value.none::r==kE)=true from e))
 | .bool b::r,e=>by cases(beq_iff_eq.mp (show (Value.bool b::r==kE)=true from e))
 | .int i t::r,e=>by cases(beq_iff_eq.mp (show (Value.int i t::r==kE)=true from e))
 | .float i t::r,e=>by cases(beq_iff_eq.mp (show (Value.float i t::r==kE)=true from e))
 | .str i t::r,e=>by cases(beq_iff_eq.mp (show (Value.str i t::r==kE)=true from e))
 | .bytes i t::r,e=>by cases(beq_iff_eq.mp (show (Value.bytes i t::r==kE)=true from e))
 | .builtin n::r,e=>by cases(beq_iff_eq.mp (show (Value.builtin n::r==kE)=true from e))
structure Eh (K:Frag)(C:Addr):Prop where
 ln:((clsIn K C).any λcd=>cd.hasDict&&um cd.mro)=true
 ob:mroIn K C (.type "object")=some true
 sa:findIn K (.ref C) "__setattr__"=some (some (.builtin "object.__setattr__"))
section
open Builtin Builtin.ObjectAttr
variable {prog:Program}{w:World}{A:Around}{E:AD}{s:Shared}{K:Frag}{x C:Addr}{ox:Obj}{od:Option Obj}{name:Str}{v:Value}
def O4 (X:K.In s.heap)(T:Eh K C)(hn:findIn K (.ref C) name=some none)(I:InstAt s.heap x ox C od)(h:wpAny (model prog w) A.in1 (storeInOwnDict (.ref x) (.ref C) (.str name s.toks) name v false) (λj s'=>match j with|.done (.ret _)=>Q () s'|_=>False) (λ_ _=>False) {s with toks:=s.toks+1}):wpAny (model prog w) A (setAttr (.ref x) name v) Q E s:=by
 let F:=PySem.F.store_ValueError;let⟨cd,O,G⟩:=any_some T.ln;rw[cn]at G;let D:=I.type (M:=model prog w);let J:Looks (model prog w) s.heap (mroOf (.ref C)) cd.mro:=(looks_clsIn X O).andThen .now;let Y:Looks (model prog w) s.heap (isInstance (.ref x) (.type "object")) true:=D.andThen (looks_mroIn X T.ob);let Z:=looks_findIn (M:=model prog w) X hn;let⟨hh,g,d,t,os⟩:=s;unfold setAttr;calc af (wpAny_mkText (af (af (af (D.at ((looks_findIn X T.sa).at (ib (af ?_))))))));rw[F.slot.bind (.ref x)];calc ax (af (nS (codeAny_call_builtin F.slot.plain F.entry (@check_slot (model prog w) _ _ _ "object.__setattr__" "object" "__setattr__" (.ref x) [.str name t,v] [] _ F.kind F.split Y (F.args (.ref x) (.str name t) v) ?_))));show wpAny (model prog w) A.in1 (Builtin.«object.__setattr__» ⟨[.ref x,.str name t,v],[]⟩) _ _ _;rw[osa_eq,refuse_eq];calc af (af (D.at (af (J.at ?_))));rw[Ef _ G.2];calc ax (af (D.at (af (Z.at (af (ax ?_))))));calc fA h (λj s' z=>?_) λ_ _ z=>z.elim;cases j with
 | done f=>cases f with| ret u=>show ax (ax z)| next=>show z.elim| brk=>show z.elim| cont=>show z.elim
 | again c=>show z.elim
end
section
open Builtin Builtin.ObjectAttr
variable {prog:Program}{w:World}{A:Around}{E:AD}{h:Heap}{g:Array GenState}{d:Drawn}{t:Nat}{os:OsState}{K:Frag}{x C dx:Addr}{vs:Array Value}{sl:Array (Option Value)}{name:Str}{v:Value}{Q:Fin->Shared->Prop}{b:Bool}{tk:Tok}
def Zi (X:K.In h)(T:Eh K C)(hx:h.get? x=some ⟨.ref C,none,.fields vs,sl⟩)(hq:∀h' t',h'.Ns1 h.objs.size (λy=>if y=name then some v else none)->h'.get? x=some ⟨.ref C,some h.objs.size,.fields vs,sl⟩->(∀c o,c≠x->h.get? c=some o->h'.get? c=some o)->Q (.done (.ret .none)) ⟨h',g,d,t',os⟩):wpAny (model prog w) A (storeInOwnDict (.ref x) (.ref C) (.str name tk) name v b) Q E ⟨h,g,d,t,os⟩:=by
 let⟨cd,hc,I⟩:=any_some T.ln;rw[cn]at I;let xs:x≠h.objs.size:=cf (aI hx);calc af (ax (af (af (wpAny_loadPart hx (af ((looks_clsIn X hc).here ?_))))));rw[I.1];let j:(h.push {cls:=.type "dict",data:=.dict #[]}).get? x=some ⟨.ref C,none,.fields vs,sl⟩:=ag _ hx;calc af (wpAny_alloc' ?_);calc af (wpAny_update' j ?_);calc ax ?_;generalize e1:((h.push {cls:=.type "dict",data:=.dict #[]}).update x λo=>{cls:=o.cls,dict:=some h.objs.size,data:=o.data,slots:=o.slots})=h1;let g1:h1.get? h.objs.size=some {cls:=.type "dict",data:=.dict #[]}:=by rw[<-e1];show(Heap.get?_update_ne _ _ _ _ xs.symm).trans (Heap.get?_push_at rb rb)
 let g2:h1.get? x=some ⟨.ref C,some h.objs.size,.fields vs,sl⟩:=by rw[<-e1];show j3 _ j rfl
 let g3:∀c o,c≠x->h.get? c=some o->h1.get? c=some o:=λc o n z=>by rw[<-e1];show(Heap.get?_update_ne _ _ _ _ n).trans (ag _ z)
 let n1:h1.Ns h.objs.size (λ_=>none):=⟨_,#[],_,g1,rb,(λe O=>absurd O t7),λ_=>rfl⟩
 show wpAny _ _ (storeInDict h.objs.size (.str name tk) name v) _ _ _;unfold storeInDict newKeyGuard;calc af (ax (af (wpAny_nsSet1 (Heap.Ns1.of_empty n1) λh2 J k2=>?_)));let⟨oD,Y,Z,D,G,F⟩:=J.count (sv name v PySem.Within.nil);calc af (wpAny_lookBehind D (by rw[G];show pastItsLine_dict (bS F (by rw[dA,nl,sizeLine_eq];lia))) (ax ?_));show hq h2 _ J ((k2.2 x xs).trans g2) λc o n z=>(k2.2 c (cf (aI z))).trans (g3 c o n z)
def VF (X:K.In h)(T:Eh K C)(hx:h.get? x=some ⟨.ref C,some dx,.fields vs,sl⟩)(hn:h.Ns1 dx mA)(hw:PySem.Within mA ns)(hl:ns.length<=100)(Y:∀h' t',h'.Ns1 dx (λy=>if y=name then some v else mA y)->(∀c o,c≠dx->h.get? c=some o->h'.get? c=some o)->Q (.done (.ret .none)) ⟨h',g,d,t',os⟩):wpAny (model prog w) A (storeInOwnDict (.ref x) (.ref C) (.str name tk) name v b) Q E ⟨h,g,d,t,os⟩:=by let⟨cd,Z,G⟩:=any_some T.ln;rw[cn]at G;calc af (ax (af (af (wpAny_loadPart hx (af ((looks_clsIn X Z).here ?_))))));rw[G.1];calc ax ?_;show wpAny _ _ (storeInDict dx (.str name tk) name v) _ _ _;unfold storeInDict newKeyGuard;calc af (ax (af (wpAny_nsSet1 hn λh2 I k2=>?_)));let⟨oD,J,O,D,F,j⟩:=I.count (sv name v hw);calc af (wpAny_lookBehind D (by rw[F];show pastItsLine_dict (bS j (by rw[dA,sizeLine_eq];lia))) (ax ?_));show Y h2 _ I λc o n z=>(k2.2 c n).trans z
end
def XD (a:Addr)(fs:List (Str×V)):Heap->Prop:=λh=>∃mA,h.Ns1 a mA/\(∀f,ni (fs.lookup f) (mA f))/\PySem.Within mA (fs.map (·.1))/\fs.length<=50
def XD.at {h h':Heap}(x:XD a fs h)(k:∀o,h.get? a=some o->h'.get? a=some o):XD a fs h':=let ⟨mA,n,r⟩:=x;⟨mA,n.at k,r⟩
def XD.ok (x:XD a fs h):f9 P w H h a (.ext (XD a fs)):=⟨x,let ⟨_,⟨o,_,_,e,_⟩,_⟩:=x;⟨o,e⟩,λ_ _ y k=>y.at k⟩
def ajm (K : Frag)(ta tv : TE)(f : Str) : TS := λD σ H => tv σ H λy H1 => ta σ H1 λx j => ∃a C dd, x = .ref a /\ j a = some (.ext (jw a (.ref C) dd)) /\ Eh K C /\ findIn K (.ref C) f = some none /\
  ((dd = none /\ ∀dx, dx ≠ a -> j dx = none -> D.nx σ (upd (upd j dx (.ext (XD dx [(f, y)]))) a (.ext (jw a (.ref C) (some dx))))) \/
   ∃dx fs, dd = some dx /\ j dx = some (.ext (XD dx fs)) /\ fs.length<50 /\ D.nx σ (upd j dx (.ext (XD dx (iT f y fs)))))
section
variable {X:Cx}{o value:Expr}{f:Str}{pos pos':Pos}{ta tv:TE}
def xu (ha:QE X o ta)(hv:QE X value tv)(hs:swapsWith value (some (.Attribute o f pos')) pos.line X.env=pure false):QS X (.Assign [.Attribute o f pos'] value pos) (ajm X.K ta tv f):=⟨by
 intro ak s σ H D I h;calc plainObj_wpAny_Assign_Attribute (cD (hv.out ak s σ H _ I h) λu s1 zz=>?_) hs;let⟨y,H1,I1,ry,q⟩:=zz;calc cD (ha.out ak s1 σ H1 _ I1 q) λov s2 zz=>?_;let⟨x,J,G,rx,a,C,dd,ex,ea,T,hn,q2⟩:=zz;subst ex;obtain rfl:ov=Value.ref a:=rx;obtain⟨⟨oe,vs,he,h1,h2,h3,h4,h42,h5⟩,_⟩:=G.hok a _ ea;let⟨oc,od,oda,osl⟩:=oe;dsimp only at h1 h2 h3;subst h1 h2 h3;let hk:X.K.In s2.heap:=G.jC;let⟨j,g,d,t,os⟩:=s2;rcases q2 with⟨rfl,q2⟩|⟨dx,fs,rfl,Z,hl,q2⟩
 .calc O4 hk T hn (od:=none) ⟨he,rb,rb,True.intro⟩ (Zi hk T he λh' t' n' e' O=>?_);let xs:a≠j.objs.size:=cf (aI he);let nN:J j.objs.size=none:=G.hok.fresh (ai _);let na:∀b,J b=none->b≠a:=λb n z=>by rw[z,ea]at n;cases n
  let ne:∀b w,J b=some w->(∀φ,w≠.ext φ)->b≠a/\b≠j.objs.size:=λb w e n=>⟨λz=>by rw[z,ea]at e;cases e;show n _ rb,λz=>by rw[z,nN]at e;cases e⟩
  let up:∀b,b≠a->b≠j.objs.size->upd (upd J j.objs.size (.ext (XD j.objs.size [(f,y)]))) a (.ext (jw a (.ref C) (some j.objs.size))) b=J b:=λb n1 F=>by rw[aY n1,aY F]
  let lt:∀b o,j.get? b=some o->b≠j.objs.size:=λb o z=>cf (aI z);let hD:XD j.objs.size [(f,y)] h':=⟨_,n',λg'=>by
    show ni (List.lookup g' [(f,y)]) (if g'=f then some u else none);by_cases q:g'=f;.rw[if_pos q,q];simp only[List.lookup,beq_self_eq_true];show ry
    .rw[if_neg q];have:(g'==f)=false:=beq_false_of_ne q;simp only[List.lookup,this];trivial,λg' hg=>by
    by_cases q:g'=f;.rw[q];simp
    .show absurd (show (if g'=f then some u else none)=none by rw[if_neg q]) hg,by show 1<=50;decide⟩
  let I3:aP X ak σ (upd (upd J j.objs.size (.ext (XD j.objs.size [(f,y)]))) a (.ext (jw a (.ref C) (some j.objs.size)))) ⟨h',g,d,t',os⟩:=G.un (t':=t')
   ⟨λb o z n _ _=>O b o (na b n) z,λb o z n _ _=>⟨o.slots,O b o (na b n) z⟩,λb o z n _=>(up b (na b n) (lt b o z)).trans n,λb o z _=>by
    by_cases hb:b=a;.show⟨_,by rw[hb];show e'⟩
    .show⟨o,O b o hb z⟩,λb xs e=>by
    let⟨n1,F⟩:=ne b _ e λφ=>by simp
    show(up b n1 F).trans e,λb o xs e=>by
    let⟨n1,F⟩:=ne b _ e λφ=>by simp
    show(up b n1 F).trans e,λb ps e=>by
    let⟨n1,F⟩:=ne b _ e λφ=>by simp
    show⟨#[],by rw[up b n1 F,e];simp⟩⟩ λb o e=>by
   by_cases hb:b=a
   .subst hb;rw[au]at e;cases e;show jw.ok ⟨_,_,e',rb,rb,rb,h4,h42,λz=>xs (bP z).symm⟩
   .rw[aY hb]at e;by_cases hn:b=j.objs.size
    .subst hn;rw[au]at e;cases e;show hD.ok
    .rw[aY hn]at e;refine(G.hok b o e).stay (λc w Y z=>O c w (λy=>?_) z) (λc r=>?_) λc xs r=>?_
     .rcases Y with Y|Y;.show hb (Y.symm.trans y)
      .rw[y,ea]at Y;cases Y
     .let⟨n1,F⟩:=ne c _ r λφ=>by simp
      show(up c n1 F).trans r
     .let⟨n1,F⟩:=ne c _ r λφ=>by simp
      show(up c n1 F).trans r
  show⟨σ,_,I3,q2 _ xs.symm nN⟩
 .obtain⟨⟨mA,nA,rA,wA,lA⟩,⟨od,hod⟩,_⟩:=G.hok dx _ Z;calc O4 hk T hn (od:=some od) ⟨he,rb,rb,hod⟩ (VF (ns:=fs.map (·.1)) hk T he nA wA (by rw[aa];lia) λh' t' n' O=>?_);let I3:aP X ak σ (upd J dx (.ext (XD dx (iT f y fs)))) ⟨h',g,d,t',os⟩:=G.write (t':=t') (e:=dx) (by rw[Z];trivial) (.inl rb) (λb o n z=>O b o n z) (let ⟨o,_,_,e,_⟩:=n';⟨o,e⟩)
   (XD.ok ⟨_,n',λg'=>?_,λg' hg=>?_,?_⟩)
  .show⟨σ,_,I3,q2⟩
  .show ni ((iT f y fs).lookup g') (if g'=f then some u else mA g');rw[zB];by_cases q:g'=f;.rw[if_pos q,if_pos q];show ry
   .rw[if_neg q,if_neg q];show rA g'
  .by_cases q:g'=f;.rw[q];show(vq f y fs).1
   .calc(vq f y fs).2 g' (wA g' λz=>hg ?_);show (if g'=f then some u else mA g')=none;rw[if_neg q];show z
  .have:=zE f y fs;lia⟩
end
structure InitOf (K:Frag)(R:Addr):Prop where
 ga:specialIn K (.ref R) "__getattribute__"=some (some (.builtin "type.__getattribute__"))
 rd:readsIn K R (.type "type")=true
 fc:findCls K (.ref R) (.type "type") "__init__"=some (.val (.builtin "ValueError.__init__"))
def ac5 (K:Frag)(t:TA):TE:=λσ H Q=>t σ H λvs H1=>∃a C f dd rest,vs=.ref a::rest/\H1 a=some (.ext (jw a (.ref C) dd))/\yN K C f=true/\rest.length<=sizeLine/\Q .non H1
section
variable {X:Cx}{R:Addr}{x:Str}{np apos pos:Pos}{e:Expr}{es:List Expr}{t:TA}
def wJ {pl:Sem Bool}(hg:Gl X x)(hm:X.mg x=some (.ref R))(F:InitOf X.K R)(ha:QA X (e::es) t)(J:(x==("__debug__":Str))=false:=by decide)(hs:starEach (e::es) X.env=(false,eval e X.env)::starEach es X.env:=by rfl)(hpl:(backTo pos (starEach es X.env)).any (·.1)=false:=by rfl)(ht:eval (.Call (.Attribute (.Name x np) "__init__" apos) (e::es) [] pos) X.env=(do
   let ov <- eval (.Name x np) X.env
   standAt apos.atName
   let (f,first) <- holding [ov] (getMethod ov "__init__" pl)
   callWith pos f first (backTo pos (starEach (e::es) X.env)) (backToKw pos (keywordEach [] X.env))):=by rfl) :
  QE X (.Call (.Attribute (.Name x np) "__init__" apos) (e::es) [] pos) (ac5 X.K t):=⟨by
 intro ak s σ H Q I h;calc methodCall_KW (pl:=pl) (qg I hg hm ?_ J) ht;calc method_cls I.jC F.ga (cls_value I.jC F.rd F.fc rb ?_);let I0:=I.tok (s.toks+1);calc qk (cD (ha.out pos ak _ σ H _ I0 h) λus s1 zz=>?_) hs hpl;let⟨vs,H1,Y,r1,a,C,f,dd,rest,ev,Z,hC,hz,q⟩:=zz;subst ev;let⟨bm,N,nm,qn,bs,sn,sub,ab,col,dd',k0,k1,k2,k3,k5,mN,cC,cN,ci,T⟩:=Mh Y.jC hC;obtain⟨⟨oe,ws,he,h1,h2,h3,h4,O,h5⟩,_⟩:=Y.hok a _ Z;obtain⟨u,j,rfl,ra,rr⟩:∃u j,us=u::j/\cH (.ref a) u/\Vals rest j:=by
  cases r1 with| cons ra rr=>show⟨_,_,rb,ra,rr⟩
 obtain rfl:u=Value.ref a:=ra;let⟨D,g,d,tk,os⟩:=s1;let hsz:0<ws.size:=gp (eD 1) (ic.mp h4).1;calc aa8 T cC he h1 h3 hsz (by rw[<-rr.length];show hz) ?_;let e1:(D.push (newArgs j)).get? a=some oe:=ag _ he;let I2:aP X ak σ H1 ⟨D.push (newArgs j),g,d,tk,os⟩:=Y.kept (t':=tk) λb u z=>ag _ z;let G:=se h3 (·.setIfInBounds 0 (Value.ref D.objs.size));let e2:((D.push (newArgs j)).update a (Obj.mapFields (·.setIfInBounds 0 (.ref D.objs.size)))).get? a=some (oe.mapFields (·.setIfInBounds 0 (.ref D.objs.size))):=j3 _ e1 (l_ G);let I3:aP X ak σ (upd H1 a (.ext (jw a (.ref C) dd))) ⟨(D.push (newArgs j)).update a (Obj.mapFields (·.setIfInBounds 0 (.ref D.objs.size))),g,d,tk,os⟩:=I2.write (t':=tk) (e:=a) (by rw[Z];trivial) (.inl rb)
  (λb u n z=>(gz _ _ (iE n)).trans z) ⟨_,e2⟩ (jw.ok ⟨_,_,e2,(Obj.cls_mapFields _ _).trans h1,(OJ _ _).trans h2,G,by rw[kR t9];show h4,by rw[kR t9];show O,h5⟩)
 rw[show upd H1 a (.ext (jw a (.ref C) dd))=H1 from funext λb=>by
  by_cases hb:b=a;.rw[hb,au,Z]
  .rw[aY hb]]at I3
 show⟨.non,H1,I3,rb,q⟩⟩
end
def drop_new (na:H a=none)(ne:dx≠a)(nd:upd H a o dx=none):aD H (drop (upd (upd (upd H a o) dx p) a q) a)/\drop (upd (upd (upd H a o) dx p) a q) a dx=some p:=by
 rw[aY ne]at nd;refine⟨λb u e=>?_,?_⟩
 .let h1:b≠a:=bB e na;let h2:b≠dx:=bB e nd;rw[jW h1,aY h1,aY h2,aY h1];show e
 .rw[jW ne,aY ne,au]
structure qG (K:Frag)(mg:Str->Option Value)(name:Str)(C f:Addr)(fs:List Str):Prop where
 wj:mg name=some (.ref C)
 M:MkX K C f
 T:Eh K C
 is:ajj K C
 hd:hasDictIn K C=true
 no:∀g∈fs,findIn K (.ref C) g=some none
def J8 (C:Addr)(nm:Str):Sp:=λvs H Q _=>∃(a:Addr) (v:V),vs=[.ref a,v]/\H a=some (.ext (jw a (.ref C) none))/\∀dx,dx≠a->H dx=none->Q .non (upd (upd H dx (.ext (XD dx [(nm,v)]))) a (.ext (jw a (.ref C) (some dx))))
def J9 (C:Addr)(n1 j:Str):Sp:=λvs H Q _=>∃(a:Addr) (v w:V),vs=[.ref a,v,w]/\H a=some (.ext (jw a (.ref C) none))/\∀dx,dx≠a->H dx=none->Q .non (upd (upd (upd H dx (.ext (XD dx [(n1,v)]))) a (.ext (jw a (.ref C) (some dx)))) dx (.ext (XD dx (iT j w [(n1,v)]))))
section
variable {prog:Program}{w:World}{A:Around}{E:AD}{s:Shared}{z ti to u v a b:Addr}{i:Nat}{f g:Array Value}{x y m n:Value}
def aa9 {Q:AD}(D:ZA z ti to u v a b)(hz:IsZip s.heap z ti to .none)(hi:IsPair s.heap ti (.ref u) (.ref v))(ho:IsPair s.heap to m n)(hu:s.heap.IsListIter u a i)(hv:s.heap.IsListIter v b i)(ha:s.heap.IsList a f)(hb:s.heap.IsList b g)(hx:f[i]?=some x)(hy:g[i]?=some y)(q:∀h',IsZip h' z ti to (rawInt s.heap.objs.size)->IsPair h' to x y->h'.IsListIter u a (i+1)->h'.IsListIter v b (i+1)->IsPair h' s.heap.objs.size x y->
   (∀c o,c≠z->c≠to->c≠u->c≠v->s.heap.get? c=some o->h'.get? c=some o)->Q (.ref s.heap.objs.size) {s with heap:=h' }) :
  wpAny (model prog w) A (Builtin.«zip.__next__» ⟨[.ref z],[]⟩) (λZ s'=>∃r,Z=.done (.ret r)/\Q r s') E s:=by
 show wpAny _ _ (field (.ref z) 2 >>= _) _ _ _;calc af (gd hz rb (x:=.bool false) rb ?_);show wpAny _ _ (field (.ref z) 3 >>= _) _ _ _;calc af (gd hz rb (x:=.ref ti) rb (af (md hi rb ?_)));show wpAny _ _ (Builtin.SmallTypes.ownedTupleIsFree (.ref z) >>= _) _ _ _;calc af ?_;unfold Builtin.SmallTypes.ownedTupleIsFree;calc af (gd hz rb (x:=.none) rb (ax ?_));simp only[if_true];calc af (ja (af (gd hz rb (x:=.ref to) rb (af (lj hz t7 λg1 Y k1=>?_)))));replace Y:IsZip g1 z ti to .ellipsis:=Y;calc af ?_;simp only[tw,List.zipIdx_nil,iA,tN];calc af (af (sj ?_));show wpAny _ _ (Builtin.SmallTypes.nextOf (.ref u) >>= _) _ _ _;calc af (oP (hu.at λo e=>k1.extBut _ o D.q3 e) (n5 ha λo e=>k1.extBut _ o D.p2 e) hx λg2 u2 k2=>ax ?_);let o2:IsPair g2 to m n:=k2.extBut _ _ D.q8 (k1.extBut _ _ D.q2 ho);calc af (md o2 rb (af (qV o2 λg3 J k3=>?_)));replace J:IsPair g3 to x n:=J;calc af (wpAny_letGo (ax ?_));calc af (af (sj ?_));show wpAny _ _ (Builtin.SmallTypes.nextOf (.ref v) >>= _) _ _ _;calc af (oP (hv.at λo e=>k3.extBut _ o D.q9.symm (k2.extBut _ o D.p1.symm (k1.extBut _ o D.q4 e))) (n5 hb λo e=>k3.extBut _ o D.p7 (k2.extBut _ o D.p8 (k1.extBut _ o D.p6 e))) hy λg4 v4 k4=>ax ?_);let o4:IsPair g4 to x n:=k4.extBut _ _ D.q9 J;calc af (md o4 rb (af (qV o4 λj I k5=>?_)));replace I:IsPair j to x y:=I;calc af (wpAny_letGo (ax (ax ?_)));calc af (md I rb (af (wpAny_newTuple ?_)));let sz:j.objs.size=s.heap.objs.size:=by rw[k5.1,k4.1,k3.1,k2.1,k1.1]
 let z5:IsZip j z ti to .ellipsis:=k5.extBut _ _ D.q2.symm (k4.extBut _ _ D.q4.symm (k3.extBut _ _ D.q2.symm (k2.extBut _ _ D.q3.symm Y)));let kk:∀c o,c≠z->c≠to->c≠u->c≠v->s.heap.get? c=some o->j.get? c=some o:=λc o c1 c2 c3 c4 e=>k5.extBut _ _ c2 (k4.extBut _ _ c4 (k3.extBut _ _ c2 (k2.extBut _ _ c3 (k1.extBut _ _ c1 e))));let u5:j.IsListIter u a (i+1):=u2.at λo e=>k5.extBut _ o D.q8.symm (k4.extBut _ o D.p1 (k3.extBut _ o D.q8.symm e));let v5:j.IsListIter v b (i+1):=v4.at λo e=>k5.extBut _ o D.q9.symm e;let lz:z<j.objs.size:=aI z5;show wpAny _ _ (Builtin.SmallTypes.ownedTupleHandOut (.ref z) (.ref j.objs.size) >>= _) _ _ _;calc af ?_;unfold Builtin.SmallTypes.ownedTupleHandOut;let z6:IsZip (j.push {cls:=.type "tuple",data:=.seq #[x,y]}) z ti to .ellipsis:=ag _ z5;refine af (lj z6 t7 λg7 O k7=>?_)
 replace O:IsZip g7 z ti to (rawInt j.objs.size):=O;refine lj O t7 λG F k8=>?_
 replace F:IsZip G z ti to (rawInt j.objs.size):=F;let up:∀c o,c≠z->j.get? c=some o->G.get? c=some o:=λc o c1 e=>k8.extBut _ _ c1 (k7.extBut _ _ c1 (ag _ e));let t8:IsPair G j.objs.size x y:=k8.extBut _ _ (kM lz) (k7.extBut _ _ (kM lz) (bo _ rb));rw[sz]at F t8;calc ax ⟨_,rb,?_⟩;show Q (.ref j.objs.size) _;rw[sz];show q G F (up _ _ D.q2 I) (u5.at λo e=>up _ o D.q3 e) (v5.at λo e=>up _ o D.q4 e) t8 λc o c1 c2 c3 c4 e=>up c o c1 (kk c o c1 c2 c3 c4 e)
def ac6 (Z:A.handled=none)(D:ZA z ti to u v a b)(hz:IsZip s.heap z ti to .none)(hi:IsPair s.heap ti (.ref u) (.ref v))(Y:IsPair s.heap to m n)(hu:s.heap.IsListIter u a i)(hv:s.heap.IsListIter v b i)(ha:s.heap.IsList a f)(hb:s.heap.IsList b g)(hx:f[i]?=some x)(hy:g[i]?=none)(q:∀h' e,(∀c o,c≠z->c≠to->c≠u->c≠v->s.heap.get? c=some o->h'.get? c=some o)->(∃o,h'.get? e=some o/\o.cls=.type "StopIteration")->E (.ref e) {s with heap:=h' }):wpAny (model prog w) A (Builtin.«zip.__next__» ⟨[.ref z],[]⟩) Q E s:=by
 show wpAny _ _ (field (.ref z) 2 >>= _) _ _ _;calc af (gd hz rb (x:=.bool false) rb ?_);show wpAny _ _ (field (.ref z) 3 >>= _) _ _ _;calc af (gd hz rb (x:=.ref ti) rb (af (md hi rb ?_)));show wpAny _ _ (Builtin.SmallTypes.ownedTupleIsFree (.ref z) >>= _) _ _ _;calc af ?_;unfold Builtin.SmallTypes.ownedTupleIsFree;calc af (gd hz rb (x:=.none) rb (ax ?_));simp only[if_true];calc af (ja (af (gd hz rb (x:=.ref to) rb (af (lj hz t7 λg1 j k1=>?_)))));replace j:IsZip g1 z ti to .ellipsis:=j;calc af ?_;simp only[tw,List.zipIdx_nil,iA,tN];calc af (af (sj ?_));show wpAny _ _ (Builtin.SmallTypes.nextOf (.ref u) >>= _) _ _ _;calc af (oP (hu.at λo e=>k1.extBut _ o D.q3 e) (n5 ha λo e=>k1.extBut _ o D.p2 e) hx λg2 u2 k2=>ax ?_);let G:IsPair g2 to m n:=k2.extBut _ _ D.q8 (k1.extBut _ _ D.q2 Y);calc af (md G rb (af (qV G λg3 F k3=>?_)));replace F:IsPair g3 to x n:=F;calc af (wpAny_letGo (ax ?_));calc af (af (sj ?_));show wpAny _ _ (Builtin.SmallTypes.nextOf (.ref v) >>= _) _ _ _;calc af (wpAny_nextOf_list_end Z (hv.at λo e=>k3.extBut _ o D.q9.symm (k2.extBut _ o D.p1.symm (k1.extBut _ o D.q4 e))) (n5 hb λo e=>k3.extBut _ o D.p7 (k2.extBut _ o D.p8 (k1.extBut _ o D.p6 e))) hy λO e k4 J=>?_);let⟨oe,e1,e2⟩:=J;let I:IsZip O z ti to .ellipsis:=k4 _ _ D.q4.symm (k3.extBut _ _ D.q2.symm (k2.extBut _ _ D.q3.symm j));let ez:e≠z:=λt=>by subst t;rw[I]at e1;cases e1;simp at e2
 show lj I t7 λg5 _ k5=>q g5 e (λc o c1 c2 c3 c4 t=>k5.extBut _ _ c1 (k4 _ _ c4 (k3.extBut _ _ c2 (k2.extBut _ _ c3 (k1.extBut _ _ c1 t))))) ⟨oe,k5.extBut _ _ ez e1,e2⟩
abbrev zl1 (h:Heap)(a:Addr):Heap:=h.push {cls:=.type "list_iterator",data:=.fields #[.ref a,.int 0 0]}
abbrev zl2 (h:Heap)(a b:Addr):Heap:=(zl1 h a).push {cls:=.type "list_iterator",data:=.fields #[.ref b,.int 0 0]}
abbrev zl3 (h:Heap)(a b:Addr):Heap:=(zl2 h a b).push {cls:=.type "tuple",data:=.seq #[.ref h.objs.size,.ref (zl1 h a).objs.size]}
abbrev zl4 (h:Heap)(a b:Addr):Heap:=(zl3 h a b).push {cls:=.type "tuple",data:=.seq #[.none,.none]}
abbrev Xe (h:Heap)(a b:Addr):Heap:=(zl4 h a b).push {cls:=.type "zip",data:=.fields #[.none,.bool false,.bool false,.ref (zl2 h a b).objs.size,.ref (zl3 h a b).objs.size]}
def afo (a b)(f g):Meets (Builtin.«zip.__new__» ⟨[.type "zip",.ref a,.ref b],[]⟩) (λ_ R s=>s.heap.IsList a f/\s.heap.IsList b g/\R (.ok (.ret (.ref (zl4 s.heap a b).objs.size))) {s with heap:=Xe s.heap a b}):=
 .of_wp λprog w A R s h=>by
  let⟨hp,j,d,tk,os⟩:=s;let⟨h1,h2,h⟩:=h;let D:=sub_zip;let j1:Heap.IsList (Shared.heap ⟨hp,j,d,tk,os⟩) a f:=h1;let j2:Heap.IsList (Shared.heap ⟨hp.push {cls:=.type "list_iterator",data:=.fields #[.ref a,.int 0 0]},j,d,tk,os⟩) b g:=n5 h2 λo e=>ag _ e
  wp_walk using iF j1,iF j2
  show⟨_,rb,h⟩
def aj5 (ha:s.heap.IsList a f)(hb:s.heap.IsList b g)(q:∀h',IsZip h' (s.heap.objs.size+4) (s.heap.objs.size+2) (s.heap.objs.size+3) .none->IsPair h' (s.heap.objs.size+2) (.ref s.heap.objs.size) (.ref (s.heap.objs.size+1))->IsPair h' (s.heap.objs.size+3) .none .none->
   h'.IsListIter s.heap.objs.size a 0->h'.IsListIter (s.heap.objs.size+1) b 0->(∀c o,s.heap.get? c=some o->h'.get? c=some o)->Q (.ref (s.heap.objs.size+4)) {s with heap:=h' }) :
  wpAny (model prog w) A (call (.type "zip") [.ref a,.ref b]) Q E s:=by
 calc callType_new F.called_zip t9 (F.typeCall_zip_2 _ _) (F.newCall_zip_2 _ _) (λobj=>F.args_object_init_3 obj _ _) F.entry_zip_new (afo a b f g) ⟨ha,hb,?_⟩;let n1:(zl1 s.heap a).objs.size=s.heap.objs.size+1:=fw ..;let j:(zl2 s.heap a b).objs.size=s.heap.objs.size+2:=by rw[fw,n1]
 let D:(zl3 s.heap a b).objs.size=s.heap.objs.size+3:=by rw[fw,j]
 let n4:(zl4 s.heap a b).objs.size=s.heap.objs.size+4:=by rw[fw,D]
 let e5:(Xe s.heap a b).get? (zl4 s.heap a b).objs.size=some _:=bo _ rfl;let e4:(Xe s.heap a b).get? (zl3 s.heap a b).objs.size=some _:=ag _ (bo _ rb);let e3:(Xe s.heap a b).get? (zl2 s.heap a b).objs.size=some _:=ag _ (ag _ (bo _ rb));let e2:(Xe s.heap a b).get? (zl1 s.heap a).objs.size=some _:=ag _ (ag _ (ag _ (bo _ rb)));let e1:(Xe s.heap a b).get? s.heap.objs.size=some _:=ag _ (ag _ (ag _ (ag _ (bo _ rb))));show _/\_;rw[j,D,n4]at e5;rw[n1,j]at e3;rw[D]at e4;rw[n1]at e2;rw[n4];show⟨⟨_,e5,rb⟩,q _ e5 e3 e4 ⟨_,e1,rb,rb⟩ ⟨_,e2,rb,rb⟩ λc o t=>ag _ (ag _ (ag _ (ag _ (ag _ t))))⟩
end
def ac7 (K:W.Frag)(a b:Addr):It:=⟨λi H=>∃xs ys x y,bI K H a xs/\bI K H b ys/\xs[i]?=some x/\ys[i]?=some y,λi H t H'=>∃T x y,H T=none/\t=.ref T/\(∀xs,bI K H a xs->xs[i]?=some x)/\(∀ys,bI K H b ys->ys[i]?=some y)/\H'=upd H T (.tup [x,y]),λi H=>∃xs ys,bI K H a xs/\bI K H b ys/\i<xs.length/\ys.length<=i⟩
def aa_ {P:Program}{w:World}{K:W.Frag}{elts:List Expr}{x1:Nat}{pos:Pos}{z ti to u v a b:Addr}(D:ZA z ti to u v a b):Turn P w K (.Tuple elts x1 pos) (ac7 K a b) [z,ti,to,u,v] z (λi h=>IsZip h z ti to .none/\IsPair h ti (.ref u) (.ref v)/\(∃m n,IsPair h to m n)/\h.IsListIter u a i/\h.IsListIter v b i) where
 mem:=by simp
 obj:=λi h st c j=>by
  obtain⟨h1,h2,⟨m,n,h3⟩,⟨o4,h4,_,d4⟩,⟨o5,h5,_,d5⟩⟩:=st;simp only[b9,ml,or_false]at j;rcases j with e|e|e|e|e <;> subst e
  .show⟨_,h1,λv y=>by cases y⟩
  .show⟨_,h2,λv y=>by cases y⟩
  .show⟨_,h3,λv y=>by cases y⟩
  .show⟨o4,h4,λv y=>by rw[d4]at y;cases y⟩
  .show⟨o5,h5,λv y=>by rw[d5]at y;cases y⟩
 keep:=λi h h' st k=>by obtain⟨h1,h2,⟨m,n,h3⟩,h4,h5⟩:=st;show⟨k z t7 _ h1,k ti t7 _ h2,⟨m,n,k to t7 _ h3⟩,h4.at λo e=>k u t7 o e,h5.at λo e=>k v t7 o e⟩
 item:=by
  intro X hP hw hK j i ak s σ H E I hf st hg;subst hP hw hK;obtain⟨h1,h2,⟨m,n,h3⟩,h4,h5⟩:=st;let⟨xs,ys,x,y,J,G,hx,hy⟩:=hg;let⟨fs,rf,pf,_⟩:=I.list J;let⟨gs,Z,pg,_⟩:=I.list G;let⟨p,ep,rp⟩:=rf.get hx;let⟨q,eq,rq⟩:=Z.get hy;let lt:∀c∈[z,ti,to,u,v],c<s.heap.objs.size:=λc j=>by
   simp only[b9,ml,or_false]at j;rcases j with e|e|e|e|e <;> subst e
   .show aI h1
   .show aI h2
   .show aI h3
   .let⟨o,e,_⟩:=h4;show aI e
   .let⟨o,e,_⟩:=h5;show aI e
  let Y:s.TypeIs (.ref z) "zip":=⟨_,h1,rb⟩
  unfold pyNext;calc af (wpAny_attempt (kS (name:=Str.ofString "__next__") Y rc (ij rc Y F.entry_zip_next ?_ (F.args_zip_next_1 _))));calc aa9 D h1 h2 h3 h4 h5 (show s.heap.IsList a fs.toArray from pf.isList) (show s.heap.IsList b gs.toArray from pg.isList) (x:=p) (y:=q) (by simpa using ep) (by simpa using eq) λh' k1 k2 k3 k4 k5 k6=>ax ?_;calc⟨_,rb,wpAny_letOwnedTupleGo_zip k1 λh2' e2 O=>?_⟩;let up:∀c o,c∉[z,ti,to,u,v]->s.heap.get? c=some o->h2'.get? c=some o:=λc o j e=>by simp only[b9,ml,or_false,not_or]at j;show O.extBut _ _ j.1 (k6 c o j.1 j.2.2.1 j.2.2.2.1 j.2.2.2.2 e)
  let nz:s.heap.objs.size≠z:=kM (lt z t7);let⟨I3,fr⟩:=aP.aji (tk:=s.toks) I hf lt rp rq (O.extBut _ _ nz k5) up;show⟨.ref s.heap.objs.size,_,I3,rb,⟨s.heap.objs.size,x,y,I.hok.fresh (ai _),rb,λzs hz=>by rw[I.Ie hz J];show hx,λzs hz=>by rw[I.Ie hz G];show hy,rb⟩,
   ⟨e2,O.extBut _ _ D.q1 (k6 _ _ D.q1 D.q5 D.q6 D.q7 h2),⟨_,_,O.extBut _ _ D.q2 k2⟩,k3.at λo e=>O.extBut _ o D.q3 e,k4.at λo e=>O.extBut _ o D.q4 e⟩,fr⟩
 done:=by
  intro X hP hw hK j i ak s σ H E I hf st hg;subst hP hw hK;obtain⟨h1,h2,⟨m,n,h3⟩,h4,h5⟩:=st;let⟨xs,ys,J,G,hx,hl⟩:=hg;let⟨fs,rf,pf,_⟩:=I.list J;let⟨gs,Z,pg,_⟩:=I.list G;let cU:=Z.length;let⟨p,ep,rp⟩:=rf.get (ae hx);let hh:X.A.in1.handled=none:=by simp[I.ok.hd j]
  let Y:s.TypeIs (.ref z) "zip":=⟨_,h1,rb⟩
  unfold pyNext;calc af (wpAny_attempt (kS (name:=Str.ofString "__next__") Y rc (ij rc Y F.entry_zip_next ?_ (F.args_zip_next_1 _))));calc ac6 hh D h1 h2 h3 h4 h5 (show s.heap.IsList a fs.toArray from pf.isList) (show s.heap.IsList b gs.toArray from pg.isList) (x:=p) (by simpa using ep) (by simp;simp_all) λh' e k zz=>?_;let⟨o,e1,e2⟩:=zz;calc af (wpAny_isInstance (T:="StopIteration") (b:=true) ⟨o,e1,e2⟩ isSubtype_stop ?_);calc ax ⟨rb,aP.Mf (fp:=[z,ti,to,u,v]) (t':=s.toks) I (λc o j e=>?_) hf⟩;simp only[b9,ml,or_false,not_or]at j;show k c o j.1 j.2.2.1 j.2.2.2.1 j.2.2.2.2 e
 self:=λA i s Q E st h=>wpAny_pyIter_zip st.1 h
section
variable {X:Cx}{elts:List Expr}{x1:Nat}{tp:Pos}
def ajn (K:W.Frag)(ta:TA):TI:=λσ H R=>ta σ H λvs H1=>∃a b,vs=[.ref a,.ref b]/\(∃xs,bI K H1 a xs)/\(∃ys,bI K H1 b ys)/\R (ac7 K a b) H1
def afp {a b:Expr}{ta:TA}{p pos:Pos}(hg:Gl X "zip")(hm:X.mg "zip"=none)(ha:QA X [a,b] ta)(hs:starEach [a,b] X.env=[(false,eval a X.env),(false,eval b X.env)]:=by rfl)(J:starEach [b] X.env=[(false,eval b X.env)]:=by rfl):QI X (.Tuple elts x1 tp) (.Call (.Name "zip" p) [a,b] [] pos) (ajn X.K ta):=⟨by
 intro ak s σ H R I h;calc Call_ (vo I hg hm aa6 (gh (cD (ha.out pos ak s σ H _ I h) λus s1 zz=>?_) (by rw[hs,J]) (by rw[J];rfl)));let⟨vs,H1,G,r1,q1⟩:=zz;obtain⟨a,b,e,⟨xs,O⟩,⟨ys,Z⟩,q⟩:=q1;subst e;cases r1 with
 | cons r rr=>
  cases rr with
  | cons r' rr=>
   cases rr;cases r;cases r';let⟨fs,rf,pf,_⟩:=G.list O;let⟨gs,rg,pg,_⟩:=G.list Z;let la:a<s1.heap.objs.size:=by
    let⟨o,Y,_⟩:=(show s1.heap.IsList a fs.toArray from pf.isList)
    show aI Y
   let lb:b<s1.heap.objs.size:=by
    let⟨o,Y,_⟩:=(show s1.heap.IsList b gs.toArray from pg.isList)
    show aI Y
   calc aj5 (show s1.heap.IsList a fs.toArray from pf.isList) (show s1.heap.IsList b gs.toArray from pg.isList) λh' k1 k2 k3 k4 k5 kk=>wpAny_pyIter_zip k1 ?_;let D:ZA (s1.heap.objs.size+4) (s1.heap.objs.size+2) (s1.heap.objs.size+3) s1.heap.objs.size (s1.heap.objs.size+1) a b:=by
    let j:∀N a b:Nat,a<N->b<N->ZA (N+4) (N+2) (N+3) N (N+1) a b:=λN a b la lb=>by constructor <;> (show (_:Nat)≠_) <;> lia
    show j _ _ _ la lb
   calc⟨s1.heap.objs.size+4,[s1.heap.objs.size+4,s1.heap.objs.size+2,s1.heap.objs.size+3,s1.heap.objs.size,s1.heap.objs.size+1],_,_,H1,rb,G.kept (t':=s1.toks) kk,aa_ D,⟨k1,k2,⟨_,_,k3⟩,k4,k5⟩,λc hc=>?_,q⟩;let F:s1.heap.objs.size<=c:=by
    simp only[b9,ml,or_false]at hc;let j:∀N c:Nat,(c=N+4\/c=N+2\/c=N+3\/c=N\/c=N+1)->N<=c:=λN c h=>by lia
    show j _ _ hc
   show G.Bl F (G.hok.fresh F)⟩
end
def ahP {K KT:W.Frag}{a b D:Addr}{xs ys:List V}{f:St->St}{tt:TT}{te:TE}{σ:St}{H:Hp}{R:Hp->Prop}(G:xs.length=ys.length+1)(j:Nat->List V->Hp->Prop)(h0:j 0 [] (upd H D (.lst [])))(hl:∀i zs H,i<=ys.length->j i zs H->bI K H a xs/\bI K H b ys)(hs:∀i x y zs H T,xs[i]?=some x->ys[i]?=some y->j i zs H->H T=none->QD ys.length i D (λv H Q=>∃a p q,v=.ref a/\aU KT H a [p,q]/\Q [some p,some q]) f σ tt te (.ref T) (upd H T (.tup [x,y])) zs (j (i+1)))(hd:∀zs H,j ys.length zs H->R H):DX (ac7 K a b) D H R (TgB (λv H Q=>∃a p q,v=.ref a/\aU KT H a [p,q]/\Q [some p,some q]) f σ tt te):=
 acP ys.length j h0 (λi zs H h p=>by let⟨q1,q2⟩:=hl i zs H (am h) p;show⟨⟨xs,ys,xs[i],ys[i],q1,q2,by simp[show i<xs.length by lia],by simp[h]⟩,λt H' y=>by let⟨T,x,y,F,rfl,hx,hy,rfl⟩:=y;show hs i x y zs H T (hx xs q1) (hy ys q2) p F⟩) λzs H p=>⟨⟨xs,ys,(hl _ zs H (ai _) p).1,(hl _ zs H (ai _) p).2,t6,ai _⟩,hd zs H p⟩
section
variable {prog:Program}{w:World}{A:Around}{E:AD}{s:Shared}
variable {X:Cx}
variable {o e f:Expr}{apos cpos:Pos}{td ty tx:TE}
def afq {a b:Addr}{D ob:Obj}{na nb:Nat}{x1 j:Nat}{J G O I:Tok}{Q:AD}(ha:s.heap.get? a=some D)(ca:D.cls=.type "tuple")(da:D.data=.seq [Value.int x1 J,Value.int j G].toArray na)(hb:s.heap.get? b=some ob)(cb:ob.cls=.type "tuple")(db:ob.data=.seq [Value.int x1 O,Value.int j I].toArray nb)(hu:A.units<cLine)(q:Q (.bool false) s):wpAny (model prog w) A (compareOp .Lt (.ref a) (.ref b)) Q E s:=by
 let Z:s.TypeIs (.ref a) "tuple":=⟨D,ha,ca⟩
 let Y:s.TypeIs (.ref b) "tuple":=⟨ob,hb,cb⟩
 show wpAny _ _ (richCompare .Lt (.ref a) (.ref b)) Q E s;calc wpAny_richCompare_same_room (op:=.Lt) (T:="tuple") Z Y qS (ij qS Z F.entry_tuple_lt ?_ (F.args_tuple_lt_2 _ _)) hu;show wpAny _ _ (isInstance (.ref b) (.type "tuple") >>= _) _ _ s;calc af (wpAny_isInstance Y isSubtype_tuple_tuple ?_);simp only[pj,gr,if_false];calc af (nE ha da (af (nE hb db (af ?_))));rw[show [Value.int (x1:Int) J,Value.int (j:Int) G].toArray.toList.zip [Value.int (x1:Int) O,Value.int (j:Int) I].toArray.toList=[(Value.int (x1:Int) J,Value.int (x1:Int) O),(Value.int (j:Int) G,Value.int (j:Int) I)] from rfl];rw[iA];calc af ?_;dsimp only;calc af (k9 _ _ _ _ prog w _ _ ?_);simp only[beq_self_eq_true,pj,gr,if_false];calc ax ?_;dsimp only;rw[iA];calc af ?_;dsimp only;calc af (k9 _ _ _ _ prog w _ _ ?_);simp only[beq_self_eq_true,pj,gr,if_false];calc ax ?_;dsimp only;rw[tN];calc ax ?_;dsimp only;show ax ⟨_,rb,by show Builtin.Tuple.tupleCompareSizes CmpOp.Lt 2 2≠_;decide,q⟩
def aj6:R2:=λx y H Q=>∃(a b:Addr) (x1 j F D:Nat),x=.ref a/\y=.ref b/\H a=some (.tup [.int x1,.int j])/\H b=some (.tup [.int F,.int D])/\j<1000/\D<1000/\
 Q (.bl (decide (x1*1000+j<F*1000+D))) H
def ahQ (hu:X.A.units<cLine):gJ X (compareOp .Lt) aj6:=by
 intro ak s σ H x y v u Q I rx ry h;let⟨a,b,x1,Z,G,O,rfl,rfl,ea,eb,l1,l2,q⟩:=h;by_cases J:x1*1000+Z=G*1000+O
 .let e1:x1=G:=t6;let e2:Z=O:=by simp_all
  subst e1 e2;rw[ah (fF _)]at q;cases rx;cases ry;let⟨_,tv,j,o,ho,hc,n,hd⟩:=I.hok _ _ ea;let⟨_,tv',Y,o',F,D,n',hd'⟩:=I.hok _ _ eb;cases j with
  | cons q1 rr=>
   cases rr with
   | cons q2 rr=>
    cases rr;cases Y with
    | cons q3 rr'=>
     cases rr' with| cons q4 rr'=>cases rr';let⟨t1,rfl⟩:=q1;let⟨t2,rfl⟩:=q2;let⟨t3,rfl⟩:=q3;let⟨t4,rfl⟩:=q4;show afq ho hc hd F D hd' hu ⟨.bl _,H,I,rb,q⟩
 .show ahJ hu ak s σ H _ _ _ _ Q I rx ry ⟨a,b,x1,Z,G,O,[],[],rb,rb,ea,eb,l1,l2,J,q⟩
open Classical in
def ajo (K:W.Frag)(j:Bool):R2:=λx y H Q=>∃n d es,n<=60/\lq K H n d x/\lq K H n (.lst es) y/\Q (.bl (if j then !decide (d∈es) else decide (d∈es))) H
def Xf (O:X.A.units+64<cLine):gJ X (compareOp .In) (ajo X.K false):=by intro ak s σ H x y v u Q I F J h;let⟨n,d,es,hn,hd,j,q⟩:=h;let⟨as,G⟩:=hd.reads I F;let⟨bs,D⟩:=j.reads I J;let l1:=hd.lay;let l2:=j.lay;rw[toP]at D;simp only[toP,PyData.canLay0,PyData.depth]at l2;calc SeqAt.in_list_reads D G l2.1 l1.1 (by have:=Nat.min_le_right (PyData.depthAll (nF es)) (toP d).depth;lia) ⟨.bl _,H,I,rb,?_⟩;rw[W8];show q
def abb (hc:X.calm=true):iV X (.builtin "max") (λxs H Q=>∃(p:Addr) (ns:List Int),xs=[.ref p]/\bI X.K H p (ns.map V.int)/\0<ns.length/\∀m∈ns,(∀x∈ns,m>=x)->Q (.int m) H):=by
 intro ak s σ H xs us Q I r h;let⟨p,ns,rfl,hq,h0,q⟩:=h;let⟨u,rfl,G⟩:=vals1 r;cases G;let⟨its,Y,pl,hz⟩:=I.list hq;let Z:=Y.length;rw[aa]at Z;let J:p≠s.heap.objs.size:=by let⟨o,F,_⟩:=pl.isList;show cf (aI F)
 let hb:∀(i:Nat) (v:Value),its.toArray[i]?=some v->∃t,v=.int (ns.getD i 0) t:=λi v D=>by
  let D:its[i]?=some v:=by simpa using D
  let hi:i<ns.length:=by have:=(al.mp D).1;lia
  let⟨u,O,G⟩:=Y.get (i:=i) (x:=.int ns[i]) (by simp[hi]);rw[D]at O;cases O;let⟨t,e⟩:=G;show⟨t,by rw[e];simp[List.getD,hi]⟩
 calc call_max_walk (iF pl.isList ?_);refine⟨s.heap.objs.size,_,_,_,_,_,_,rb,Walks.list (A:=X.A.in1) (I.ok.hd hc) s.heap.objs.size p J its.toArray,⟨⟨_,bo _ rb,rb,rb⟩,pl.isList.at λo e=>ag _ e⟩,?_,by simp;lia,CmpOf.ints_gt (λi=>ns.getD i 0) hb,λv h' tk hP kk=>?_⟩
 .intro b hb;have:b=s.heap.objs.size\/b=p:=by simpa using hb
  rw[fw];rcases this with e|e;.rw[e];show ii _
  .rw[e];let⟨o,F,_⟩:=pl.isList;show iN (aI F)
 .let I1:aP X ak σ H {s with heap:=h',toks:=tk}:=I.kept λb o e=>kk b o (by
   intro hm;have:b=s.heap.objs.size:=by simpa using hm
   subst this;show absurd (aI e) (fF _)) (ag _ e)
  let⟨k1,k2⟩:=argBest_gt (λi=>ns.getD i 0) (its.toArray.size-1);let hsz:its.toArray.size=ns.length:=by simp[Z]
  let⟨t,e⟩:=hb _ v hP;generalize argBest _ _=j at k1 k2 e;let hj:j<ns.length:=t6;calc⟨.int (ns.getD j 0),H,I1,⟨t,e⟩,q _ (by simp[List.getD,hj]) λx hx=>?_⟩;let⟨i,hi,rfl⟩:=dC.mp hx;have:=k2 i t6;simpa [List.getD,hi] using this
def ac8 (j:X.A.units+1<cLine)(G:QE X o td)(D:QE X e ty)(F:QE X f tx)(m:M2 X o "get" apos e f cpos):QE X (.Call (.Attribute o "get" apos) [e,f] [] cpos) (aaQ td ty tx):=⟨acN j G.out D.out F.out m⟩
structure KDict (P:Program)(w:World)(K:W.Frag)(a:Addr)(kvs:List (Key×V)):Prop where
 z:(a==sysModules)=false
 ex:∃o vs,K.lookup a=some o/\KV kvs vs/\o.IsDictOf (iw P w) vs
def ahR (P:Program)(w:World)(K:W.Frag)(td ty tx:TE):TE:=λσ H Q=>td σ H λx H1=>∃a kvs,x=.ref a/\KDict P w K a kvs/\ty σ H1 λy D=>tx σ D λz j=>∃k,y=kV k/\Q ((fY kvs k).getD z) j
def RT (ho:QE X o td)(Y:QE X e ty)(hf:QE X f tx)(m:M2 X o "get" apos e f cpos):QE X (.Call (.Attribute o "get" apos) [e,f] [] cpos) (ahR X.prog X.w X.K td ty tx):=⟨by
 intro ak s σ H Q I h;calc wpAny_Call_method m.base m.few m.line PySem.F.plainAttrs_dict ka PySem.F.type_dict_get (cD (ho.out ak s σ H _ I h) λu s1 zz=>?_);let⟨x,H1,D,Z,a,kvs,ex,d,q1⟩:=zz;subst ex;obtain rfl:u=Value.ref a:=Z;let⟨ob,vs,hk,j,hd⟩:=d.ex;let dd:∀{s':Shared} {σ':St} {H':Hp},aP X ak σ' H' s'->s'.heap.DictOf (iw X.prog X.w) a vs:=λJ=>Heap.dictOf_iff.mpr ⟨ob,J.jC a ob hk,hd⟩;refine⟨(dd D).typeIs,λb q=>?_,?_⟩
 .cases q;let⟨ob,_,_,h1,h2,_⟩:=dd D;show⟨ob,h1,h2.2.1⟩
 rw[m.trees];refine i9 rb (kz (gm (cD (Y.out ak s1 σ H1 _ D q1) λiv s2 ⟨y,H2,O,ry,q2⟩=>gm (cD (hf.out ak s2 σ H2 _ O q2) λG s3 ⟨z,H3,F,rz,k,ey,q3⟩=>ko ?_))))
 subst ey;calc call_meetsIn ka (dd F).typeIs oB (om _ _ _) (meets_dict_get_default (iw X.prog X.w) a (JR ry) d.z G) ⟨_,(dd F).mapOf,?_⟩;show⟨_,H3,F.tok _,(j.val k).getD rz,q3⟩⟩
def ahS:List V->Hp->VK->Prop:=λxs H Q=>∃(d:Addr) (kvs:List (Key×V)),xs=[.ref d]/\H d=some (.dK kvs)/\∀p:Addr,H p=none->Q (.ref p) (upd H p (.dK kvs))
def Zj:iV X (.type "dict") ahS:=by
 intro ak s σ H xs us Q I r h;let⟨d,kvs,rfl,hd,q⟩:=h;let⟨u,rfl,F⟩:=vals1 r;cases F;let⟨hz,lo,vs,j,dd⟩:=Y6 I.hok hd;calc kt_call_dict lo dd (by rw[<-j.length];show hz) λh' D hs=>?_;let lt:sysModules<s.heap.objs.size:=I.big;refine⟨.ref s.heap.objs.size,_,I.laid (o:=.dK kvs) (t':=s.toks) (λb u e=>?_) (ai _) ⟨hz,?_,vs,j,D⟩,rb,q _ (I.hok.fresh (ai _))⟩
 .show hs.extBut b u (cf (aI e)) (ag _ e)
 .show beq_eq_false_iff_ne.mpr (kM lt)
end
def abd {l:List Nat}{g:TG}{tb:TS}{D:Ends}{σ:St}{H:Hp}(j:Nat->St->Hp->Prop)(h0:j 0 σ H)(hs:∀i c σ H T,l[i]?=some c->j i σ H->H T=none->g (.ref T) σ (upd H T (.tup [.int i,.str (S [c])])) λσ2 F=>tb {D with nx:=j (i+1),ct:=j (i+1),bk:=D.nx} σ2 F)(hd:∀σ H,j l.length σ H->D.nx σ H):Lx (RM l) g tb D σ H:=YH l.length j h0 (λi σ H h p=>⟨h,λx H' y=>by let⟨T,c,I,rfl,G,rfl⟩:=y;show hs i c σ _ T G p I⟩) λσ H p=>⟨ai _,hd σ H p⟩
end L2
namespace PySem.F
end PySem.F
namespace L2
open PySem PySem.Spec PyProof.Rows PySem.W
section
variable {X:Cx}
def ac9 (a:List Int)(x:Int):(a++[x]).sum=a.sum+x:=by
 induction a with| nil=>simp| cons y r ih=>rw[pk,pi,pi,ih];lia
theorem Bs (ns:List Int):∀k,k<=ns.length->preSum (λi=>ns.getD i 0) k=(ns.take k).sum
 | 0,_=>by simp[preSum]
 | k+1,h=>by
  show preSum (λi=>ns.getD i 0) k+ns.getD k 0=_;let e:ns.take (k+1)=ns.take k++[ns[k]]:=by rw[du,ae h];rfl
  rw[Bs ns k (am h),e,ac9];simp[List.getD,show k<ns.length by lia]
def ahT (ns:List Int)(b:Int)(hb:0<=b)(h:∀x∈ns,-b<=x/\x<=b):-(b*ns.length)<=ns.sum/\ns.sum<=b*ns.length:=by
 induction ns with
 | nil=>simp
 | cons a r ih=>
  let h1:=h a bX;let h2:=ih λx hx=>h x (bq _ hx);rw[pi,dA];let e:b*((r.length+1:Nat):Int)=b*r.length+b:=by rw[Int.natCast_add,Int.mul_add];simp
  rw[e];lia
def ajp (K:W.Frag):List V->Hp->VK->Prop:=λxs H Q=>∃(p:Addr) (ns:List Int),xs=[.ref p]/\bI K H p (ns.map V.int)/\ns.length<=1000/\(∀x∈ns,-1000000000000000<=x/\x<=1000000000000000)/\Q (.int ns.sum) H
def abe (hc:X.calm=true):iV X (.builtin "sum") (ajp X.K):=by
 intro ak s σ H xs us Q I r h;let⟨p,ns,rfl,hq,hn,hb,q⟩:=h;let⟨u,rfl,J⟩:=vals1 r;cases J;let⟨its,Z,pl,hz⟩:=I.list hq;let cU:=Z.length;rw[aa]at cU;let O:p≠s.heap.objs.size:=by let⟨o,G,_⟩:=pl.isList;show cf (aI G)
 let F:∀(i:Nat) (v:Value),its.toArray[i]?=some v->∃t,v=.int (ns.getD i 0) t:=λi v F=>by
  let F:its[i]?=some v:=by simpa using F
  let hi:i<ns.length:=by have:=(al.mp F).1;simp_all
  let⟨u,Y,J⟩:=Z.get (i:=i) (x:=.int ns[i]) (by simp[hi]);rw[F]at Y;cases Y;let⟨t,e⟩:=J;show⟨t,by rw[e];simp[List.getD,hi]⟩
 let hsz:its.toArray.size=ns.length:=by simp[cU]
 calc call_sum_walk (iF pl.isList ?_);refine⟨s.heap.objs.size,_,_,_,_,_,_,rb,Walks.list (A:=X.A.in1) (I.ok.hd hc) s.heap.objs.size p O its.toArray,⟨⟨_,bo _ rb,rb,rb⟩,pl.isList.at λo e=>ag _ e⟩,?_,F,λj hj=>?_,λh' tk t' kk=>?_⟩
 .intro b hb;have:b=s.heap.objs.size\/b=p:=by simpa using hb
  rw[fw];rcases this with e|e;.rw[e];show ii _
  .rw[e];let⟨o,G,_⟩:=pl.isList;show iN (aI G)
 .let D:j<ns.length:=by simp_all
  let h1:=hb _ (a9 D);let e1:ns.getD j 0=ns[j]:=by simp[List.getD,D]
  let h2:=ahT (ns.take (j+1)) 1000000000000000 t9 λx hx=>hb x (de hx);let hl:(ns.take (j+1)).length<=1000:=by rw[ay];lia
  rw[Bs ns (j+1) D,e1];unfold InLong;lia
 .let I1:aP X ak σ H {s with heap:=h',toks:=tk}:=I.kept λb o e=>kk b o (by
   intro hm;have:b=s.heap.objs.size:=by simpa using hm
   subst this;show absurd (aI e) (fF _)) (ag _ e)
  rw[hsz,Bs ns ns.length (ai _),cS];show⟨.int _,H,I1,⟨t',rb⟩,q⟩
def zG.rd {kvs:List (Key×V)}{k:Key}(e:Rd H a (.dK kvs)):zG H a (kV k) (fY kvs k):=.inl ⟨kvs,k,e,rb,rb⟩
def Rd.mv (k:aD H H')(r:Rd H a u):Rd H' a u:=by
 rcases r with r|⟨o,r⟩;.show .inl (k _ _ r)
 .show .inr ⟨o,k _ _ r⟩
end
end L2
namespace L2
open PySem PySem.Spec PyProof.Rows
def oA (prog:Program)(w:World)(A:Around)(s:Shared)(κ:PyProof.Rows.KeyKind)(kn:SortKind):Prop:=∀(E:AD) (x y:Value) (a b:κ.α) (Q:Bool->Shared->Prop),κ.keyOf x=some a->κ.keyOf y=some b->Q (κ.blt a b) s->wpAny (model prog w) A (keyLt' kn x y) Q E s
def oA.one {κ:PyProof.Rows.KeyKind}(h:κ.OneLt):oA prog w A s κ oneType':=λE x y a b Q ha hb q=>by rw[keyLt'_oneType];show h prog w A E s x y a b ha hb q
section
variable {prog:Program}{w:World}{A:Around}{E:AD}{s:Shared}{κ:PyProof.Rows.KeyKind}{kn:SortKind}
variable {α:Type}{le:α->α->Prop}
def bV {α:Type}{c:Prop}{d:Decidable c}{a b:StateT SortSt Sem α}{Q:α->SortSt->Prop}{st:SortSt}(j:c)(h:wpS (model prog w) A E s a Q st):wpS (model prog w) A E s (@ite _ c d a b) Q st:=by rw[if_pos j];show h
def bM {α:Type}{c:Prop}{d:Decidable c}{a b:StateT SortSt Sem α}{Q:α->SortSt->Prop}{st:SortSt}(j:¬c)(h:wpS (model prog w) A E s b Q st):wpS (model prog w) A E s (@ite _ c d a b) Q st:=by rw[if_neg j];show h
def Ei {st:SortSt}{x y:Keyed}{a b:κ.α}{Q:Option Bool->SortSt->Prop}(O:oA prog w A s κ kn)(j:kindOf st=kn)(ha:κ.keyOf x.1=some a)(hb:κ.keyOf y.1=some b)(h:Q (some (κ.blt a b)) st):wpS (model prog w) A E s (lt' x y) Q st:=by rw[lt'_eq];calc aS (n9 ?_);rw[j];calc aS (wpS_lift (wpAny_attempt (O _ x.1 y.1 a b _ ha hb ⟨rb,?_⟩)));show ba h
def d9 {st:SortSt}{arr:Array Keyed}{i:Nat}(hi:i<arr.size){Q:Keyed->SortSt->Prop}(h:Q arr[i] st):wpS (model prog w) A E s (elem' arr i) Q st:=by rw[elem'_eq,fm hi];show ba h
noncomputable def nG (κ:PyProof.Rows.KeyKind)(left:Bool)(j:κ.α)(arr:Array Keyed)(i:Nat):Bool:=if left=true then κ.blt (KK κ arr i) j else !κ.blt j (KK κ arr i)
def xW (j:KeysOf κ arr)(hi:i<arr.size):κ.keyOf arr[i].1=some (KK κ arr i):=by let⟨a,ha⟩:=j arr[i] t7;unfold KK;rw[fm hi];simp[ha]
def Ad {left:Bool}{D:Keyed}{I:κ.α}{arr:Array Keyed}{i:Nat}{st:SortSt}{Q:Option Bool->SortSt->Prop}(O:oA prog w A s κ kn)(G:kindOf st=kn)(j:κ.keyOf D.1=some I)(F:KeysOf κ arr)(hi:i<arr.size)(h:Q (some (nG κ left I arr i)) st):wpS (model prog w) A E s (do
   let p <- elem' arr i
   if left=true then lt' p D
   else do
    let r <- lt' D p
    pure (r.map λb=>!b)) Q st:=by
 calc aS (d9 hi ?_);unfold nG at h;cases left with| true=>show Ei O G (xW F hi) j h| false=>show aS (Ei O G j (xW F hi) (ba h))
def qm {left:Bool}{key:Keyed}{kk:κ.α}{arr:Array Keyed}{lo n D:Nat}{st:SortSt}{Q:Option Nat->SortSt->Prop}(hO:oA prog w A s κ kn)(hk:kindOf st=kn)(G:κ.keyOf key.1=some kk)(J:KeysOf κ arr)(hn:D<n)(hsz:lo+n<=arr.size)(mono:∀i j,i<=j->j<n->nG κ left kk arr (lo+j)=true->nG κ left kk arr (lo+i)=true)(h:∀k,k<=n->(∀i,i<k->nG κ left kk arr (lo+i)=true)->(∀i,k<=i->i<n->nG κ left kk arr (lo+i)=false)->Q (some k) st):wpS (model prog w) A E s ((sortPriv% PySem.Builtin.gallop) left key arr lo n D) Q st:=by
 show wpS _ _ _ _ (_ >>= _) _ _;dsimp only;generalize hbp:(λi=>nG κ left kk arr (lo+i))=bp;let Y:∀i,nG κ left kk arr (lo+i)=bp i:=λi=>by rw[<-hbp]
 let aev:∀i j,i<=j->j<n->bp j=false\/bp i=true:=λi j h1 h2=>by
  cases e:bp j with| false=>show .inl rfl| true=>show .inr (by rw[<-Y];show mono i j h1 h2 (by rw[Y];show e))
 let h':∀k,k<=n->(∀i,i<k->bp i=true)->(∀i,k<=i->i<n->bp i=false)->Q (some k) st:=λk h1 h2 h3=>h k h1 (λi hi=>by rw[Y];show h2 i hi) λi hi Z=>by rw[Y];show h3 i hi Z
 let up:∀i j,i<=j->j<n->bp j=true->bp i=true:=λi j h1 h2 h3=>by
  rcases aev i j h1 h2 with z|z;.rw[z]at h3;cases h3
  .show z
 let dn:∀i j,i<=j->j<n->bp i=false->bp j=false:=λi j h1 h2 h3=>by
  rcases aev i j h1 h2 with z|z;.show z
  .rw[z]at h3;cases h3
 calc aS (Ad hO hk G J (i:=lo+D) t6 ?_);rw[Y];dsimp only;let fin:∀l0 h0,l0<=h0->h0<=n->(∀i,i<l0->bp i=true)->(∀i,h0<=i->i<n->bp i=false)->∀(f:Nat->(Option (Option Nat)×Nat×Nat)->StateT SortSt Sem (ForInStep (Option (Option Nat)×Nat×Nat))) (F:(Option (Option Nat)×Nat×Nat)->StateT SortSt Sem (Option Nat)),
   (∀x l u (Q':ForInStep (Option (Option Nat)×Nat×Nat)->SortSt->Prop),u<=n->(u<=l->Q' (.done (none,l,u)) st)->(l<u->Q' (.yield (if bp (l+(u-l)/2)=true then (none,l+(u-l)/2+1,u) else (none,l,l+(u-l)/2))) st)->wpS (model prog w) A E s (f x (none,l,u)) Q' st)->
   (∀l u,Q (some u) st->wpS (model prog w) A E s (F (none,l,u)) Q st)->
   wpS (model prog w) A E s (forIn [0:n] ((none:Option (Option Nat)),l0,h0) f >>= F) Q st:=by
  intro l0 h0 hle hh t1 t2 f F hf hF;refine aS (hV (fz (I:=λ(x:Nat) (c:Option (Option Nat)×Nat×Nat) (st':SortSt)=>∃l u,c=(none,l,u)/\st'=st/\l<=u/\u<=n/\(∀i,i<l->bp i=true)/\(∀i,u<=i->i<n->bp i=false)/\u-l<=n-x)
   (Q:=λ(c:Option (Option Nat)×Nat×Nat) (st':SortSt)=>∃l u,c=(none,l,u)/\st'=st/\u<=l/\u<=n/\(∀i,i<l->bp i=true)/\(∀i,u<=i->i<n->bp i=false)) ?_ ?_ ⟨l0,h0,rb,rb,hle,hh,t1,t2,mm t6⟩) ?_)
  .intro x c st' _ hx z;let⟨l,u,rfl,rfl,h2,h3,h4,h5,h6⟩:=z;calc hf x l u _ h3 (λz=>⟨l,u,rb,rb,z,h3,h4,h5⟩) λz=>?_;cases e:bp (l+(u-l)/2) with| true=>rw[if_pos rfl];show⟨_,_,rb,rb,by grind,h3,λi hi=>up i _ (ot hi) (by grind) e,h5,fb (cE t6 t6)⟩| false=>rw[if_neg t7];show⟨_,_,rb,rb,t6,by grind,h4,λi hi Z=>dn _ i hi Z e,fb (cE t6 t6)⟩
  .intro c st' z;let⟨l,u,O,h1,h2,h3,h4,h5,h6⟩:=z;show⟨l,u,O,h1,t6,h3,h4,h5⟩
  .intro c st' z;let⟨l,u,rfl,rfl,h2,h3,h4,h5⟩:=z;show hF l u (h' _ h3 (λi hi=>h4 i (cv hi h2)) h5)
 cases e0:bp D with
 | true=>
  rw[if_pos rfl];refine aS (hV (fz (I:=λ(x:Nat) (c:Option (Option Nat)×Nat×Nat) (st':SortSt)=>st'=st/\c.1=none/\c.2.1<n-D/\c.2.1<c.2.2/\x+1<=c.2.2/\bp (D+c.2.1)=true)
   (Q:=λ(c:Option (Option Nat)×Nat×Nat) (st':SortSt)=>st'=st/\c.1=none/\c.2.1<n-D/\c.2.1<c.2.2/\bp (D+c.2.1)=true/\(c.2.2>=n-D\/bp (D+c.2.2)=false)) ?_ ?_ ⟨rb,rb,by dsimp only;show Nat.sub_pos_of_lt hn,by dsimp only;lia,by dsimp only;lia,e0⟩) ?_)
  .intro x c st' _ hx z;let⟨rfl,h1,h2,h3,h4,h5⟩:=z;by_cases z:c.2.2>=n-D
   .rw[if_pos z];show ba ⟨rb,rb,h2,h3,h5,.inl z⟩
   .rw[if_neg z];calc aS (Ad hO hk G J (i:=lo+(D+c.2.2)) t6 ?_);rw[Y];dsimp only;cases e:bp (D+c.2.2) with| true=>rw[if_neg t7];show ba ⟨rb,rb,by dsimp only;show Nat.lt_of_not_le z,by dsimp only;lia,by dsimp only;lia,e⟩| false=>rw[if_pos t7];show ba ⟨rb,rb,h2,h3,h5,.inr e⟩
  .intro c st' z;let⟨O,h1,h2,h3,h4,h5⟩:=z;show⟨O,h1,h2,h3,h5,.inl (mm t6)⟩
  .intro c st' z;let⟨rfl,h1,h2,h3,h4,h5⟩:=z;rw[h1];dsimp only;refine fin (D+c.2.1+1) (D+min c.2.2 (n-D)) t6 t6 (λi hi=>up i (D+c.2.1) (ot hi) t6 h4) (λi hi Z=>?_) _ _ ?_ ?_
   .rcases h5 with z|z;.lia
    .show dn (D+c.2.2) i t6 Z z
   .intro x l u Q' hun q1 q2;dsimp only;by_cases z:l>=u
    .rw[if_pos z];show ba (q1 z)
    .rw[if_neg z];calc aS (Ad hO hk G J (i:=lo+(l+(u-l)/2)) (by grind) ?_);rw[Y];dsimp only;let q2:=q2 (Nat.lt_of_not_le z);cases e:bp (l+(u-l)/2) with| true=>rw[e,if_pos rfl]at q2;rw[if_pos rfl];show ba q2| false=>rw[e,if_neg t7]at q2;rw[if_neg t7];show ba q2
   .show λl u q=>ba q
 | false=>
  rw[if_neg t7];refine aS (hV (fz (I:=λ(x:Nat) (c:Option (Option Nat)×Nat×Nat) (st':SortSt)=>st'=st/\c.1=none/\c.2.1<=D/\c.2.1<c.2.2/\x+1<=c.2.2/\bp (D-c.2.1)=false)
   (Q:=λ(c:Option (Option Nat)×Nat×Nat) (st':SortSt)=>st'=st/\c.1=none/\c.2.1<=D/\c.2.1<c.2.2/\bp (D-c.2.1)=false/\(c.2.2>=D+1\/bp (D-c.2.2)=true)) ?_ ?_ ⟨rb,rb,by dsimp only;lia,by dsimp only;lia,by dsimp only;lia,e0⟩) ?_)
  .intro x c st' _ hx z;let⟨rfl,h1,h2,h3,h4,h5⟩:=z;by_cases z:c.2.2>=D+1
   .rw[if_pos z];show ba ⟨rb,rb,h2,h3,h5,.inl z⟩
   .rw[if_neg z];calc aS (Ad hO hk G J (i:=lo+(D-c.2.2)) (by grind) ?_);rw[Y];dsimp only;cases e:bp (D-c.2.2) with| true=>rw[if_pos rfl];show ba ⟨rb,rb,h2,h3,h5,.inr e⟩| false=>rw[if_neg t7];show ba ⟨rb,rb,by dsimp only;show Nat.ge_of_not_lt z,by dsimp only;lia,by dsimp only;lia,e⟩
  .intro c st' z;let⟨O,h1,h2,h3,h4,h5⟩:=z;show⟨O,h1,h2,h3,h5,.inl t6⟩
  .intro c st' z;let⟨rfl,h1,h2,h3,h4,h5⟩:=z;rw[h1];dsimp only;refine fin (D+1-min c.2.2 (D+1)) (D-c.2.1) (mm t6) (mm t6) (λi hi=>?_) (λi hi Z=>dn (D-c.2.1) i hi Z h4) _ _ ?_ ?_
   .rcases h5 with z|z;.lia
    .show up i (D-c.2.2) (gu t6) (gp (Nat.sub_le _ _) hn) z
   .intro x l u Q' hun q1 q2;dsimp only;by_cases z:l>=u
    .rw[if_pos z];show ba (q1 z)
    .rw[if_neg z];calc aS (Ad hO hk G J (i:=lo+(l+(u-l)/2)) t6 ?_);rw[Y];dsimp only;let q2:=q2 t6;cases e:bp (l+(u-l)/2) with| true=>rw[e,if_pos rfl]at q2;rw[if_pos rfl];show ba q2| false=>rw[e,if_neg t7]at q2;rw[if_neg t7];show ba q2
   .show λl u q=>ba q
structure Mg (le:α->α->Prop)(a b out:List α)(i j:Nat):Prop where
 ia:i<=a.length
 jb:j<=b.length
 perm:out.Perm (a.take i++b.take j)
 up:out.Pairwise le
 RW:∀x∈out,∀y∈a.drop i,le x y
 RX:∀x∈out,∀y∈b.drop j,le x y
def Bt (le:α->α->Prop)(a b r:List α):Prop:=r.Perm (a++b)/\r.Pairwise le
def Xg {out:List α}(h:out.Pairwise le)(l:∀y∈out,le y x):(out++[x]).Pairwise le:=by rw[g9];calc⟨h,List.pairwise_singleton _ _,λy hy z hz=>?_⟩;rw[a_.mp hz];show l y hy
def nH {a:List α}(h:i<a.length):a.drop i=a[i]::a.drop (i+1):=(kD h)
def Xh {a:List α}(h:i<a.length):a.take (i+1)=a.take i++[a[i]]:=by rw[du,ae h];rfl
def Xi {a:List α}(h:a.Pairwise le)(hi:i<a.length):∀y∈a.drop (i+1),le a[i] y:=λy hy=>by let h2:(a.drop i).Pairwise le:=h.sublist (iO i a);rw[nH hi]at h2;show(List.pairwise_cons.mp h2).1 y hy
def Mg.yO (m:Mg le a b out i j)(ha:a.Pairwise le)(hi:i<a.length)(h:∀y∈b.drop j,le a[i] y):Mg le a b (out++[a[i]]) (i+1) j:=by
 refine⟨hi,m.jb,?_,Xg m.up λy hy=>m.RW y hy _ (by rw[nH hi];show bX),λx hx y hy=>?_,λx hx y hy=>?_⟩
 .rw[Xh hi];calc(m.perm.append_right _).trans ?_;rw[bd,bd];show gL _ gN
 .rcases be.mp hx with z|z;.show m.RW x z y (by rw[nH hi];show bq _ hy)
  .rw[a_.mp z];show Xi ha hi y hy
 .rcases be.mp hx with z|z;.show m.RX x z y hy
  .rw[a_.mp z];show h y hy
def Mg.Bu (m:Mg le a b out i j)(hb:b.Pairwise le)(D:j<b.length)(h:∀y∈a.drop i,le b[j] y):Mg le a b (out++[b[j]]) i (j+1):=by
 refine⟨m.ia,D,?_,Xg m.up λy hy=>m.RX y hy _ (by rw[nH D];show bX),λx hx y hy=>?_,λx hx y hy=>?_⟩
 .rw[Xh D,<-bd];show m.perm.append_right _
 .rcases be.mp hx with z|z;.show m.RW x z y hy
  .rw[a_.mp z];show h y hy
 .rcases be.mp hx with z|z;.show m.RX x z y (by rw[nH D];show bq _ hy)
  .rw[a_.mp z];show Xi hb D y hy
theorem Mg.Ej {a b:List α}(ha:a.Pairwise le):∀(k:Nat) {out:List α} {i:Nat},Mg le a b out i j->i+k<=a.length->(∀t (ht:t<a.length),i<=t->t<i+k->∀y∈b.drop j,le a[t] y)->Mg le a b (out++(a.drop i).take k) (i+k) j
 | 0,out,i,m,_,_=>by simpa using m
 | k+1,out,i,m,hk,h=>by let hi:i<a.length:=t6;let m2:=Mg.Ej ha k (m.yO ha hi (h i hi (ai _) t6)) t6 λt ht h1 h2=>h t ht (am h1) t6;rw[nH hi,rn];rw[bd,show i+1+k=i+(k+1) by lia]at m2;show m2
theorem Mg.Ek {a b:List α}(hb:b.Pairwise le):∀(k:Nat) {out:List α} {j:Nat},Mg le a b out i j->j+k<=b.length->(∀t (ht:t<b.length),j<=t->t<j+k->∀y∈a.drop i,le b[t] y)->Mg le a b (out++(b.drop j).take k) i (j+k)
 | 0,out,j,m,_,_=>by simpa using m
 | k+1,out,j,m,hk,h=>by let D:j<b.length:=t6;let m2:=Mg.Ek hb k (m.Bu hb D (h j D (ai _) t6)) t6 λt ht h1 h2=>h t ht t6 t6;rw[nH D,rn];rw[bd,show j+1+k=j+(k+1) by lia]at m2;show m2
def Mg.done (m:Mg le a b out i j)(ha:a.Pairwise le)(hb:b.Pairwise le)(h:i=a.length\/j=b.length):Bt le a b (out++a.drop i++b.drop j):=by
 refine⟨?_,?_⟩
 .let p:(out++(a.drop i++b.drop j)).Perm ((a.take i++b.take j)++(a.drop i++b.drop j)):=m.perm.append_right _;rw[bd];calc p.trans ?_;let e:a++b=(a.take i++a.drop i)++(b.take j++b.drop j):=by rw[cw,cw]
  rw[e,bd,bd];calc gL _ ?_;rw[<-bd,<-bd];show List.Perm.append_right _ gN
 .rw[bd,g9];refine⟨m.up,?_,λx hx y hy=>?_⟩
  .rcases h with z|z;.rw[z,pS,List.nil_append];show hb.sublist (iO _ _)
   .rw[z,pS,fk];show ha.sublist (iO _ _)
  .rcases be.mp hy with z|z;.show m.RW x hx y z
   .show m.RX x hx y z
def Mg.aew (m:Mg le a b out i j)(ha:a.Pairwise le)(hb:b.Pairwise le)(h:∀x∈b.drop j,∀y∈a.drop i,le x y):Bt le a b (out++b.drop j++a.drop i):=by
 refine⟨?_,?_⟩
 .let p:(out++(b.drop j++a.drop i)).Perm ((a.take i++b.take j)++(b.drop j++a.drop i)):=m.perm.append_right _;rw[bd];calc p.trans ?_;let e:a++b=(a.take i++a.drop i)++(b.take j++b.drop j):=by rw[cw,cw]
  rw[e,bd,bd];calc gL _ ?_;rw[<-bd];show gN
 .rw[bd,g9];refine⟨m.up,?_,λx hx y hy=>?_⟩
  .rw[g9];show⟨hb.sublist (iO _ _),ha.sublist (iO _ _),h⟩
  .rcases be.mp hy with z|z;.show m.RX x hx y z
   .show m.RW x hx y z
def Mg.zero:Mg le a b [] 0 0:=⟨eD _,eD _,t7,.nil,λx h=>by simp at h,λx h=>by simp at h⟩
def kf (κ:PyProof.Rows.KeyKind)(p:Keyed):κ.α:=(κ.keyOf p.1).getD κ.dflt
def kL (κ:PyProof.Rows.KeyKind)(p q:Keyed):Prop:=κ.kle (kf κ p) (kf κ q)
def wK {arr:Array Keyed}(h:i<arr.size):KK κ arr i=kf κ arr[i]:=by unfold KK kf;rw[fm h]
def qK (j:KeysOf κ arr)(h:i<arr.size):κ.keyOf arr[i].1=some (kf κ arr[i]):=by rw[xW j h,wK h]
structure jq (st st':SortSt):Prop where
 kind:kindOf st'=kindOf st
 arr:arrOf st'=arrOf st
 pend:pendingOf st'=pendingOf st
 fail:failedOf st'=failedOf st
def jq.refl (st):jq st st:=⟨rb,rb,rb,rb⟩
def qp {a:Array Keyed}(h:a.toList.Pairwise (kL κ))(D:i<=j)(F:j<a.size):κ.kle (kf κ a[i]) (kf κ a[j]):=by
 rcases Nat.eq_or_lt_of_le D with z|z;.subst z;show gI _
 .have:=(fN.mp h) i j (by simpa using (by show tq z F:i<a.size)) (by simpa using F) z;show(by simpa using this:kL κ a[i] a[j])
def Ae {a:Array Keyed}(h:y∈a.toList.drop i):∃t,∃(ht:t<a.size),i<=t/\a[t]=y:=by
 let⟨t,ht,e⟩:=dC.mp h;let j:t<a.size-i:=by simpa using ht
 show⟨i+t,by grind,t6,by rw[<-e];simp⟩
def qU {g:Nat}{st0 st:SortSt}{Q:Unit->SortSt->Prop}(h0:jq st0 st)(h:∀st',jq st0 st'->Q () st'):wpS (model prog w) A E s ((sortPriv% PySem.Builtin.setMinGallop) g) Q st:=by show re (h _ ⟨h0.kind,h0.arr,h0.pend,h0.fail⟩)
def Af {β α:Type}{J:β->StateT SortSt Sem α}{C:β->Prop}{m:StateT SortSt Sem α}{R:α->SortSt->Prop}{st:SortSt}(h1:∀o,C o->wpS (model prog w) A E s (J o) R st)(h2:(∀o,C o->wpS (model prog w) A E s (J o) R st)->wpS (model prog w) A E s m R st):wpS (model prog w) A E s m R st:=h2 h1
def GQ {arr:Array Keyed}(hx:x<arr.size):nG κ false kk arr x=true↔κ.kle (kf κ arr[x]) kk:=by unfold nG;rw[if_neg t7,wK hx];unfold KeyOrd.kle;simp
def RZ {arr:Array Keyed}(hx:x<arr.size):nG κ false kk arr x=false↔κ.klt kk (kf κ arr[x]):=by unfold nG;rw[if_neg t7,wK hx];unfold KeyOrd.klt;simp
def GR {arr:Array Keyed}(hx:x<arr.size):nG κ true kk arr x=true↔κ.klt (kf κ arr[x]) kk:=by unfold nG;rw[if_pos rb,wK hx];rfl
def R6 {arr:Array Keyed}(hx:x<arr.size):nG κ true kk arr x=false↔κ.kle kk (kf κ arr[x]):=by unfold nG;rw[if_pos rb,wK hx];rfl
def abf {arr:Array Keyed}(F:arr.toList.Pairwise (kL κ)){lo n:Nat}(hn:lo+n<=arr.size):∀i j,i<=j->j<n->nG κ false kk arr (lo+j)=true->nG κ false kk arr (lo+i)=true:=λi j D G h=>by rw[GQ t6]at h ⊢;show df (qp F (kQ D _) t6) h
def abg {arr:Array Keyed}(D:arr.toList.Pairwise (kL κ)){lo n:Nat}(hn:lo+n<=arr.size):∀i j,i<=j->j<n->nG κ true kk arr (lo+j)=true->nG κ true kk arr (lo+i)=true:=λi j F G h=>by rw[GR t6]at h ⊢;show KeyOrd.klt_of_kle_of_klt (qp D t6 t6) h
def VG {a b:Array Keyed}{st:SortSt}{Q:Array Keyed->SortSt->Prop}(hO:oA prog w A s κ kn)(hk:kindOf st=kn)(hka:KeysOf κ a)(hkb:KeysOf κ b)(ha:a.toList.Pairwise (kL κ))(hb:b.toList.Pairwise (kL κ))(a0:0<a.size)(b0:0<b.size)(hlo:κ.kle (kf κ b[0]) (kf κ a[0]))(hhi:∀j (F:j<b.size),κ.klt (kf κ b[j]) (kf κ a[a.size-1]))(h:∀r st',Bt (kL κ) a.toList b.toList r.toList->jq st st'->Q r st'):wpS (model prog w) A E s ((sortPriv% PySem.Builtin.mergeLo) a b) Q st:=by
 let lA:∀{i},(a.extract i).toList=a.toList.drop i:=by intro i;simp;show ck t7
 let lB:∀{i},(b.extract i).toList=b.toList.drop i:=by intro i;simp;show ck t7
 let sA:a.toList.length=a.size:=t7;let sB:b.toList.length=b.size:=t7;let gA:∀i (hi:i<a.size),a.toList[i]'(by simpa using hi)=a[i]:=λi hi=>by simp
 let gB:∀i (hi:i<b.size),b.toList[i]'(by simpa using hi)=b[i]:=λi hi=>by simp
 let QF:∀{i j},i+1=a.size->∀x∈b.toList.drop j,∀y∈a.toList.drop i,kL κ x y:=λ{i j} hi x hx y hy=>by
  let⟨t,ht,_,rfl⟩:=Ae hx;let⟨u,D,h1,rfl⟩:=Ae hy;obtain rfl:u=a.size-1:=by first|lia|((try dsimp only);lia)
  show eh (hhi t ht)
 let mpA:∀{out:Array Keyed} {i j:Nat},Mg (kL κ) a.toList b.toList out.toList i j->(hi:i<a.size)->(∀u (D:u<b.size),j<=u->κ.kle (kf κ a[i]) (kf κ b[u]))->Mg (kL κ) a.toList b.toList (out.push a[i]).toList (i+1) j:=λ{out i j} m hi q=>by
  have:=m.yO ha (by simpa using hi) λy hy=>by let⟨u,D,h1,rfl⟩:=Ae hy;rw[gA i hi];show q u D h1
  rw[gA i hi]at this;simpa using this
 let mpB:∀{out:Array Keyed} {i j:Nat},Mg (kL κ) a.toList b.toList out.toList i j->(F:j<b.size)->(∀u (D:u<a.size),i<=u->κ.kle (kf κ b[j]) (kf κ a[u]))->Mg (kL κ) a.toList b.toList (out.push b[j]).toList i (j+1):=λ{out i j} m F q=>by
  have:=m.Bu hb (by simpa using F) λy hy=>by let⟨u,D,h1,rfl⟩:=Ae hy;rw[gB j F];show q u D h1
  rw[gB j F]at this;simpa using this
 let mbA:∀{out:Array Keyed} {i j k:Nat},Mg (kL κ) a.toList b.toList out.toList i j->i+k<=a.size->(∀t (ht:t<a.size),i<=t->t<i+k->∀u (D:u<b.size),j<=u->κ.kle (kf κ a[t]) (kf κ b[u]))->Mg (kL κ) a.toList b.toList (out++a.extract i (i+k)).toList (i+k) j:=λ{out i j k} m hk q=>by
  have:=Mg.Ej ha k m (by simpa using hk) λt ht h1 h2 y hy=>by
   let⟨u,D,h3,rfl⟩:=Ae hy;let Y:t<a.size:=by simpa using ht
   rw[gA t Y];show q t Y h1 h2 u D h3
  rw[ft];let e:(a.extract i (i+k)).toList=(a.toList.drop i).take k:=t7;rw[e];show this
 let mbB:∀{out:Array Keyed} {i j k:Nat},Mg (kL κ) a.toList b.toList out.toList i j->j+k<=b.size->(∀t (ht:t<b.size),j<=t->t<j+k->∀u (D:u<a.size),i<=u->κ.kle (kf κ b[t]) (kf κ a[u]))->Mg (kL κ) a.toList b.toList (out++b.extract j (j+k)).toList i (j+k):=λ{out i j k} m hk q=>by
  have:=Mg.Ek hb k m (by simpa using hk) λt ht h1 h2 y hy=>by
   let⟨u,D,h3,rfl⟩:=Ae hy;let Y:t<b.size:=by simpa using ht
   rw[gB t Y];show q t Y h1 h2 u D h3
  rw[ft];let e:(b.extract j (j+k)).toList=(b.toList.drop j).take k:=t7;rw[e];show this
 let Bv:∀{out:Array Keyed} {i j:Nat} {st':SortSt},jq st st'->Mg (kL κ) a.toList b.toList out.toList i j->(i=a.size\/j=b.size)->Q (out++a.extract i++b.extract j) st':=λ{out i j st'} e m z=>by calc h _ _ ?_ e;rw[ft,ft,lA,lB];show m.done ha hb (by rw[sA,sB];show z)
 let G:∀{out:Array Keyed} {i j:Nat} {st':SortSt},jq st st'->Mg (kL κ) a.toList b.toList out.toList i j->i+1=a.size->Q (out++b.extract j++a.extract i) st':=λ{out i j st'} e m z=>by calc h _ _ ?_ e;rw[ft,ft,lA,lB];show m.aew ha hb (QF z)
 show wpS _ _ _ _ (_ >>= _) _ _;refine aS (wpS_lift (ja ⟨rb,?_⟩))
 skip
 calc aS (d9 b0 ?_);let m0:Mg (kL κ) a.toList b.toList (#[b[0]]:Array Keyed).toList 0 1:=by have:=mpB (out:=#[]) (i:=0) (j:=0) Mg.zero b0 λu D _=>df hlo (qp ha (eD _) D);simpa using this
 skip
 by_cases z1:1=b.size
 .calc bV (by simpa using z1) ?_;show ba (Bv (jq.refl _) m0 (.inr z1))
 calc bM (by simpa using z1) ?_;by_cases z2:0+1=a.size
 .calc bV (by simpa using z2) ?_;show ba (G (jq.refl _) m0 z2)
 calc bM (by simpa using z2) ?_;refine aS (n9 ?_)
 skip
 refine aS (hV (fz (I:=λ(x:Nat) (c:Option (Array Keyed)×Array Keyed×Nat×Nat×Nat) (st':SortSt)=>∃out i j g,c=(none,out,i,j,g)/\jq st st'/\Mg (kL κ) a.toList b.toList out.toList i j/\i+1<a.size/\j<b.size/\x+1<=i+j)
  (Q:=λ(c:Option (Array Keyed)×Array Keyed×Nat×Nat×Nat) (st':SortSt)=>∃r q,c=(some r,q)/\Q r st') ?_ ?_ ⟨_,_,_,_,rb,jq.refl _,m0,uk,uk,uk⟩) ?_)
 .intro x c st1 _ hx z;let⟨out,i,j,g,rfl,e1,m1,hi,F,hc⟩:=z
  try conv=>arg 5;dsimp -zeta only
  refine aS (hV (fz (I:=λ(y:Nat) (c:Option (Array Keyed)×Array Keyed×Nat×Nat×Nat×Nat) (st':SortSt)=>∃out i' j' p q,c=(none,out,i',j',p,q)/\jq st st'/\Mg (kL κ) a.toList b.toList out.toList i' j'/\i'+1<a.size/\j'<b.size/\i+j+y<=i'+j')
   (Q:=λ(c:Option (Array Keyed)×Array Keyed×Nat×Nat×Nat×Nat) (st':SortSt)=>(∃r q,c=(some r,q)/\Q r st')\/∃out i' j' p q,c=(none,out,i',j',p,q)/\jq st st'/\Mg (kL κ) a.toList b.toList out.toList i' j'/\i'+1<a.size/\j'<b.size/\i+j+1<=i'+j') ?_ ?_ ⟨_,_,_,_,_,rb,e1,m1,hi,F,uk⟩) ?_)
  .intro y c st2 _ hy z;let⟨out,i,j,p,q,rfl,e2,m2,hi,F,hc⟩:=z
   try conv=>arg 5;dsimp -zeta only
   calc aS (d9 F (aS (d9 (show i<a.size from am hi) ?_)));refine aS (Ei hO (by rw[e2.kind];show hk) (qK hkb F) (qK hka uk) ?_)
   try conv=>arg 5;dsimp -zeta only
   cases e:κ.blt (kf κ b[j]) (kf κ a[i]) with
   | true=>
    calc bV rb ?_;refine aS (d9 F ?_)
    try conv=>arg 5;dsimp -zeta only
    let m3:=mpB m2 F λu D h1=>df (eh e) (qp ha h1 D);by_cases z:j+1=b.size
    .calc bV (by simpa using z) ?_;show ba (.inl ⟨_,_,rb,Bv e2 m3 (.inr z)⟩)
    .calc bM (by simpa using z) ?_;by_cases z':q+1>=g
     .calc bV z' ?_;show ba (.inr ⟨_,_,_,_,_,rb,e2,m3,hi,uk,uk⟩)
     .calc bM z' ?_;show ba ⟨_,_,_,_,_,rb,e2,m3,hi,uk,uk⟩
   | false=>
    calc bM t7 ?_;refine aS (d9 (show i<a.size by first|lia|((try dsimp only);lia)) ?_)
    try conv=>arg 5;dsimp -zeta only
    let m3:=mpA m2 (show i<a.size by first|lia|((try dsimp only);lia)) λu D h1=>df (show κ.kle _ _ from e) (qp hb h1 D);by_cases z:i+1+1=a.size
    .calc bV (by simpa using z) ?_;show ba (.inl ⟨_,_,rb,G e2 m3 z⟩)
    .calc bM (by simpa using z) ?_;by_cases z':p+1>=g
     .calc bV z' ?_;show ba (.inr ⟨_,_,_,_,_,rb,e2,m3,uk,F,uk⟩)
     .calc bM z' ?_;show ba ⟨_,_,_,_,_,rb,e2,m3,uk,F,uk⟩
  .intro c st2 z;let⟨out,i',j',p,q,rfl,e2,m2,hi',hj',hc'⟩:=z;exfalso;lia
  .rintro c st2 (⟨r,q,rfl,hq⟩|⟨out,i',j',p,q,rfl,e2,m2,hi',hj',hc'⟩)
   .try conv=>arg 5;dsimp -zeta only
    show ba ⟨_,_,rb,hq⟩
   .try conv=>arg 5;dsimp -zeta only
    refine aS (wpS_lift (ja ⟨rb,?_⟩))
    try conv=>arg 5;dsimp -zeta only
    refine aS (hV (fz (I:=λ(y:Nat) (c:Option (Array Keyed)×Array Keyed×Nat×Nat×Nat×Nat×Nat) (st':SortSt)=>∃out i2 j2 g p q,c=(none,out,i2,j2,g,p,q)/\jq st st'/\Mg (kL κ) a.toList b.toList out.toList i2 j2/\i2+1<a.size/\j2<b.size/\i'+j'+y<=i2+j2)
     (Q:=λ(c:Option (Array Keyed)×Array Keyed×Nat×Nat×Nat×Nat×Nat) (st':SortSt)=>(∃r q,c=(some r,q)/\Q r st')\/∃out i2 j2 g p q,c=(none,out,i2,j2,g,p,q)/\jq st st'/\Mg (kL κ) a.toList b.toList out.toList i2 j2/\i2+1<a.size/\j2<b.size/\i'+j'<=i2+j2) ?_ ?_ ⟨_,_,_,_,_,_,rb,e2,m2,hi',hj',uk⟩) ?_)
    .intro y c st3 _ hy z;let⟨out,i,j,g,p,q,rfl,e3,m3,hi,F,hc⟩:=z
     try conv=>arg 5;dsimp -zeta only
     extract_lets -underBinder +onlyGivenNames l1 l2 l3 l4 l5 l6 l7 l8 l9 l10 l11 jp1
     let q4:l4=i:=rfl;let q4b:l3.fst=i:=rfl;let q6:l6=j:=rfl;let q6b:l5.fst=j:=rfl;let q8:l8=g:=rfl;let q8b:l7.fst=g:=rfl;refine Af (J:=λg':Nat=>jp1 () g') (C:=λ_=>True) (λg' _=>?_) (λZ=>?_)
     rotate_left
     .by_cases z:g > 1
      .calc bV z ?_;show Z (g-1) trivial
      .calc bM z ?_;show Z g trivial
     try conv=>arg 5;dsimp -zeta only
     calc aS (qU e3 λiU e4=>?_);calc aS (d9 F ?_);calc aS (qm hO (by rw[e4.kind];show hk) (qK hkb F) hka (Nat.sub_pos_of_lt t6) (by grind) (abf ha uk) λk hk1 hk2 hk3=>?_);let kA:∀t (ht:t<a.size),i<=t->t<i+k->κ.kle (kf κ a[t]) (kf κ b[j]):=λt ht h1 h2=>by have:=hk2 (t-i) (by grind);rw[show i+(t-i)=t from rL h1,GQ ht]at this;show this
     let kB:∀t (ht:t<a.size),i+k<=t->κ.klt (kf κ b[j]) (kf κ a[t]):=λt ht h1=>by have:=hk3 (t-i) (by show gu (by simp +arith [*])) uk;rw[show i+(t-i)=t by first|lia|((try dsimp only);lia),RZ ht]at this;show this
     let O:i+k<a.size:=by
      rcases js (i+k) a.size with z|z;.show z
      .let h1:=kA (a.size-1) (by grind) (gu t6) (by grind);show absurd (hhi j F) (pV h1)
     try conv=>arg 5;dsimp -zeta only
     extract_lets -underBinder +onlyGivenNames ac jp2
     refine Af (J:=λo:Array Keyed×Nat=>jp2 () o.1 o.2) (C:=λo=>Mg (kL κ) a.toList b.toList o.1.toList o.2 j/\o.2=i+k/\o.2+1<a.size) (λo ho=>?_) (λZ=>?_)
     .let⟨o1,o2⟩:=o;let⟨mo,eo,El⟩:=ho;let eo:o2=i+k:=eo;subst eo;let mo:Mg (kL κ) a.toList b.toList o1.toList (i+k) j:=mo;let El:i+k+1<a.size:=El
      try conv=>arg 5;dsimp -zeta only
      refine aS (d9 F ?_)
      try conv=>arg 5;dsimp -zeta only
      let m5:=mpB mo F λu D h1=>eh (kB u D h1);by_cases z:j+1=b.size
      .calc bV (by simpa using z) ?_;show ba (.inl ⟨_,_,rb,Bv e4 m5 (.inr z)⟩)
      calc bM (by simpa using z) ?_;calc aS (d9 O ?_);calc aS (qm hO (by rw[e4.kind];show hk) (qK hka O) hkb (gu t6) (by grind) (abg hb uk) λk2 h1 h2 h3=>?_);let lb:∀t (ht:t<b.size),j+1<=t->t<j+1+k2->κ.klt (kf κ b[t]) (kf κ a[i+k]):=λt ht q1 q2=>by have:=h2 (t-(j+1)) (by grind);rw[show j+1+(t-(j+1))=t from rL q1,GR ht]at this;show this
      let la:∀t (ht:t<b.size),j+1+k2<=t->κ.kle (kf κ a[i+k]) (kf κ b[t]):=λt ht q1=>by have:=h3 (t-(j+1)) uk uk;rw[show j+1+(t-(j+1))=t by first|lia|((try dsimp only);lia),R6 ht]at this;show this
      try conv=>arg 5;dsimp -zeta only
      extract_lets -underBinder +onlyGivenNames bc jp3
      refine Af (J:=λo:Array Keyed×Nat=>jp3 () o.1 o.2) (C:=λo=>Mg (kL κ) a.toList b.toList o.1.toList (i+k) o.2/\o.2=j+1+k2/\o.2<b.size) (λo ho=>?_) (λZ=>?_)
      .let⟨o1,o2⟩:=o;let⟨mo,eo,El⟩:=ho;let eo:o2=j+1+k2:=eo;subst eo;let mo:Mg (kL κ) a.toList b.toList o1.toList (i+k) (j+1+k2):=mo;let El:j+1+k2<b.size:=El
       try conv=>arg 5;dsimp -zeta only
       refine aS (d9 O ?_)
       try conv=>arg 5;dsimp -zeta only
       let m6:=mpA mo O λu D h1=>la u D h1;by_cases z:i+k+1+1=a.size
       .calc bV (by simpa using z) ?_;show ba (.inl ⟨_,_,rb,G e4 m6 z⟩)
       calc bM (by simpa using z) ?_;by_cases z':(decide (k<7)&&decide (k2<7))=true
       .calc bV z' ?_;show ba (.inr ⟨_,_,_,_,_,_,rb,e4,m6,uk,El,uk⟩)
       .calc bM z' ?_;show ba ⟨_,_,_,_,_,_,rb,e4,m6,uk,El,uk⟩
      .by_cases z3:k2 > 0
       .refine bV z3 ?_
        try conv=>arg 5;dsimp -zeta only
        let m6:=mbB (k:=k2) m5 uk λt ht q1 q2 u D q3=>eh (nI (lb t ht q1 q2) (qp ha q3 D));by_cases z4:j+1+k2=b.size
        .calc bV (by simpa using z4) ?_;show ba (.inl ⟨_,_,rb,Bv e4 m6 (.inr z4)⟩)
        .calc bM (by simpa using z4) ?_;show Z (_,_) ⟨m6,rb,by dsimp only;lia⟩
       .calc bM z3 ?_;obtain rfl:k2=0:=Nat.eq_zero_of_not_pos z3;show Z (_,_) ⟨m5,rb,by dsimp only;lia⟩
     .by_cases z3:k > 0
      .refine bV z3 ?_
       try conv=>arg 5;dsimp -zeta only
       let m6:=mbA (k:=k) m3 (am O) λt ht q1 q2 u D q3=>df (kA t ht q1 q2) (qp hb q3 D);by_cases z4:i+k+1=a.size
       .calc bV (by simpa using z4) ?_;show ba (.inl ⟨_,_,rb,G e4 m6 z4⟩)
       .calc bM (by simpa using z4) ?_;calc bM (by simp;show cf O) ?_;show Z (_,_) ⟨m6,rb,by dsimp only;lia⟩
      .calc bM z3 ?_;obtain rfl:k=0:=by first|lia|((try dsimp only);lia)
       show Z (_,_) ⟨m3,rb,by dsimp only;lia⟩
    .intro c st3 z;let⟨out,i2,j2,g,p,q,rfl,e3,m3,hi2,hj2,hc2⟩:=z;exfalso;lia
    .rintro c st3 (⟨r,q,rfl,hq⟩|⟨out,i2,j2,g,p,q,rfl,e3,m3,hi2,hj2,hc2⟩)
     .try conv=>arg 5;dsimp -zeta only
      show ba ⟨_,_,rb,hq⟩
     .try conv=>arg 5;dsimp -zeta only
      calc aS (qU e3 λiU e4=>?_);show ba ⟨_,_,_,_,rb,e4,m3,hi2,hj2,uk⟩
 .intro c st1 z;let⟨out,i,j,g,rfl,e1,m1,hi,F,hc⟩:=z;exfalso;lia
 .intro c st1 z;let⟨r,q,rfl,hq⟩:=z;show ba hq
structure jP (κ:PyProof.Rows.KeyKind)(a b out:Array Keyed)(n m:Nat):Prop where
 na:n<=a.size
 mb:m<=b.size
 mg:Mg (λx y=>kL κ y x) b.toList.reverse a.toList.reverse out.toList (b.size-m) (a.size-n)
def Ag {a:Array Keyed}(h:a.toList.Pairwise (kL κ)):a.toList.reverse.Pairwise (λx y=>kL κ y x):=by rw[List.pairwise_reverse];show h
def xX {a:Array Keyed}(h:n<=a.size):a.toList.reverse.drop (a.size-n)=(a.toList.take n).reverse:=by rw[List.drop_reverse];congr 2;simp;show gS h
def J_ {a:Array Keyed}(hn:n<=a.size)(h:y∈a.toList.reverse.drop (a.size-n)):∃u,∃(D:u<a.size),u<n/\a[u]=y:=by
 rw[xX hn,tz]at h;let⟨t,ht,e⟩:=dC.mp h;let j:t<n:=by have:=ht;simp at this;simp_all
 show⟨t,cv j hn,j,by rw[<-e];simp⟩
def abh {a:Array Keyed}(h0:0<n)(hn:n<=a.size):∃h:a.size-n<a.toList.reverse.length,a.toList.reverse[a.size-n]=a[n-1]:=by calc⟨by simp;show cE t6 t6,?_⟩;rw[List.getElem_reverse];simp only[Array.getElem_toList,cy];congr 1;lia
def jP.yO (g:jP κ a b out n m)(ha:a.toList.Pairwise (kL κ))(h0:0<n)(hl:n-1<a.size)(h:∀u (j:u<b.size),u<m->κ.kle (kf κ b[u]) (kf κ a[n-1])):jP κ a b (out.push a[n-1]) (n-1) m:=by
 let⟨h1,e1⟩:=abh h0 g.na;have:=g.mg.Bu (Ag ha) h1 λy hy=>by let⟨u,j,h2,rfl⟩:=J_ g.mb hy;rw[e1];show h u j h2
 rw[e1]at this;let hn:=g.na;calc⟨am hl,g.mb,?_⟩;rw[show a.size-(n-1)=a.size-n+1 from kH t6];simpa using this
def jP.Bu (g:jP κ a b out n m)(hb:b.toList.Pairwise (kL κ))(h0:0<m)(hl:m-1<b.size)(h:∀u (j:u<a.size),u<n->κ.kle (kf κ a[u]) (kf κ b[m-1])):jP κ a b (out.push b[m-1]) n (m-1):=by
 let⟨h1,e1⟩:=abh h0 g.mb;have:=g.mg.yO (Ag hb) h1 λy hy=>by let⟨u,j,h2,rfl⟩:=J_ g.na hy;rw[e1];show h u j h2
 rw[e1]at this;let hm:=g.mb;calc⟨g.na,t6,?_⟩;rw[show b.size-(m-1)=b.size-m+1 by lia];simpa using this
theorem jP.Ej {a b:Array Keyed}(ha:a.toList.Pairwise (kL κ)):∀(k:Nat) {out:Array Keyed} {n:Nat},jP κ a b out n m->k<=n->(∀t (ht:t<a.size),n-k<=t->t<n->∀u (j:u<b.size),u<m->κ.kle (kf κ b[u]) (kf κ a[t]))->jP κ a b (out++(a.extract (n-k) n).reverse) (n-k) m
 | 0,out,n,g,_,_=>by
  let e:(a.extract (n-0) n).reverse=#[]:=by simp;show Nat.min_le_left _ _
  rw[e];simpa using g
 | k+1,out,n,g,hk,h=>by
  let hn:=g.na;let g2:=jP.Ej ha k (g.yO ha t6 (cE t6 t6) (h (n-1) t6 (Nat.sub_le_sub_left t6 _) (sQ t6 t6))) (Nat.le_pred_of_lt hk) λt ht h1 h2=>h t ht t6 t6;let e:out++(a.extract (n-(k+1)) n).reverse=out.push a[n-1]++(a.extract (n-1-k) (n-1)).reverse:=by
   apply mi.mp;rw[ft,ft,lI,bd];congr 1;rw[mw,mw,show n-1-k=n-(k+1) by lia];let e2:a.extract (n-(k+1)) n=(a.extract (n-(k+1)) (n-1)).push a[n-1]:=by
    apply Array.ext;.simp;lia
    .intro i h1 h2;simp at h1 h2;rw[Array.getElem_push];split;.simp
     .rename_i z;simp at z;simp;congr 1
      (simp[ke,lS]at *;lia)
   rw[e2,lI,rS];rfl
  rw[e,show n-(k+1)=n-1-k by lia];show g2
theorem jP.Ek {a b:Array Keyed}(hb:b.toList.Pairwise (kL κ)):∀(k:Nat) {out:Array Keyed} {m:Nat},jP κ a b out n m->k<=m->(∀t (ht:t<b.size),m-k<=t->t<m->∀u (j:u<a.size),u<n->κ.kle (kf κ a[u]) (kf κ b[t]))->jP κ a b (out++(b.extract (m-k) m).reverse) n (m-k)
 | 0,out,m,g,_,_=>by
  let e:(b.extract (m-0) m).reverse=#[]:=by simp;lia
  rw[e];simpa using g
 | k+1,out,m,g,hk,h=>by
  let hm:=g.mb;let g2:=jP.Ek hb k (g.Bu hb t6 t6 (h (m-1) t6 t6 t6)) t6 λt ht h1 h2=>h t ht t6 t6;let e:out++(b.extract (m-(k+1)) m).reverse=out.push b[m-1]++(b.extract (m-1-k) (m-1)).reverse:=by
   apply mi.mp;rw[ft,ft,lI,bd];congr 1;rw[mw,mw,show m-1-k=m-(k+1) by lia];let e2:b.extract (m-(k+1)) m=(b.extract (m-(k+1)) (m-1)).push b[m-1]:=by
    apply Array.ext;.simp;lia
    .intro i h1 h2;simp at h1 h2;rw[Array.getElem_push];split;.simp
     .rename_i z;simp at z;simp;congr 1;lia
   rw[e2,lI,rS];rfl
  rw[e,show m-(k+1)=m-1-k by lia];show g2
def Xj {a b r:Array Keyed}(h:Bt (λx y=>kL κ y x) b.toList.reverse a.toList.reverse r.toList.reverse):Bt (kL κ) a.toList b.toList r.toList:=by calc⟨?_,List.pairwise_reverse.mp h.2⟩;calc(List.reverse_perm r.toList).symm.trans (h.1.trans ?_);rw[<-rS];show List.reverse_perm _
def jP.done (g:jP κ a b out n m)(ha:a.toList.Pairwise (kL κ))(hb:b.toList.Pairwise (kL κ))(h:n=0\/m=0):Bt (kL κ) a.toList b.toList (a.extract 0 n++b.extract 0 m++out.reverse).toList:=by calc Xj ?_;have:=g.mg.done (Ag hb) (Ag ha) (by simp;lia);rw[xX g.na,xX g.mb]at this;simpa using this
def jP.ahU (g:jP κ a b out n m)(ha:a.toList.Pairwise (kL κ))(hb:b.toList.Pairwise (kL κ))(h:∀u (j:u<b.size),u<m->∀t (ht:t<a.size),t<n->κ.kle (kf κ b[u]) (kf κ a[t])):Bt (kL κ) a.toList b.toList (b.extract 0 m++a.extract 0 n++out.reverse).toList:=by
 calc Xj ?_;have:=g.mg.aew (Ag hb) (Ag ha) λx hx y hy=>by let⟨t,ht,h2,rfl⟩:=J_ g.na hx;let⟨u,j,h1,rfl⟩:=J_ g.mb hy;show h u j h1 t ht h2
 rw[xX g.na,xX g.mb]at this;simpa using this
def jP.zero:jP κ a b #[] a.size b.size:=⟨ai _,ai _,by rw[me,me];show Mg.zero⟩
def VH {a b:Array Keyed}{st:SortSt}{Q:Array Keyed->SortSt->Prop}(hO:oA prog w A s κ kn)(hk:kindOf st=kn)(hka:KeysOf κ a)(hkb:KeysOf κ b)(ha:a.toList.Pairwise (kL κ))(hb:b.toList.Pairwise (kL κ))(a0:0<a.size)(b0:0<b.size)(hlo:κ.klt (kf κ b[0]) (kf κ a[0]))(hhi:∀j (hj:j<b.size),κ.kle (kf κ b[j]) (kf κ a[a.size-1]))(h:∀r st',Bt (kL κ) a.toList b.toList r.toList->jq st st'->Q r st'):wpS (model prog w) A E s ((sortPriv% PySem.Builtin.mergeHi) a b) Q st:=by
 let hlow:∀t (ht:t<a.size),κ.klt (kf κ b[0]) (kf κ a[t]):=λt ht=>nI hlo (qp ha (eD _) ht);let Bv:∀{out:Array Keyed} {n m:Nat} {st':SortSt},jq st st'->jP κ a b out n m->(n=0\/m=0)->Q (a.extract 0 n++b.extract 0 m++out.reverse) st':=λ{out n m st'} e g z=>h _ _ (g.done ha hb z) e;let D:∀{out:Array Keyed} {n m:Nat} {st':SortSt},jq st st'->jP κ a b out n m->m=1->Q (b.extract 0 m++a.extract 0 n++out.reverse) st':=λ{out n m st'} e g z=>h _ _ (g.ahU ha hb λu hu h1 t ht h2=>by
  obtain rfl:u=0:=by first|lia|((try dsimp only);lia)
  show eh (hlow t ht)) e
 show wpS _ _ _ _ (_ >>= _) _ _;refine aS (wpS_lift (ja ⟨rb,?_⟩))
 skip
 try conv=>arg 5;dsimp -zeta only
 calc aS (d9 (show a.size-1<a.size by first|lia|((try dsimp only);lia)) ?_);let m0:jP κ a b (#[a[a.size-1]]:Array Keyed) (a.size-1) b.size:=by have:=jP.yO (jP.zero (κ:=κ) (a:=a) (b:=b)) ha a0 uk λu hu _=>hhi u hu;simpa using this
 try conv=>arg 5;dsimp -zeta only
 by_cases z1:a.size-1=0
 .calc bV (by simpa using z1) ?_;show ba (Bv (jq.refl _) m0 (.inl z1))
 calc bM (by simpa using z1) ?_;by_cases z2:b.size=1
 .calc bV (by simpa using z2) ?_;show ba (D (jq.refl _) m0 z2)
 calc bM (by simpa using z2) ?_;refine aS (n9 ?_)
 try conv=>arg 5;dsimp -zeta only
 refine aS (hV (fz (I:=λ(x:Nat) (c:Option (Array Keyed)×Nat×Nat×Array Keyed×Nat) (st':SortSt)=>∃n m out g,c=(none,n,m,out,g)/\jq st st'/\jP κ a b out n m/\1<=n/\2<=m/\n+m+x+1<=a.size+b.size)
  (Q:=λ(c:Option (Array Keyed)×Nat×Nat×Array Keyed×Nat) (st':SortSt)=>∃r q,c=(some r,q)/\Q r st') ?_ ?_ ⟨_,_,_,_,rb,jq.refl _,m0,uk,uk,uk⟩) ?_)
 .intro x c st1 _ hx z;let⟨n,m,out,g,rfl,e1,m1,hn,hm,hc⟩:=z
  try conv=>arg 5;dsimp -zeta only
  refine aS (hV (fz (I:=λ(y:Nat) (c:Option (Array Keyed)×Nat×Nat×Array Keyed×Nat×Nat) (st':SortSt)=>∃G F out p q,c=(none,G,F,out,p,q)/\jq st st'/\jP κ a b out G F/\1<=G/\2<=F/\G+F+y<=n+m)
   (Q:=λ(c:Option (Array Keyed)×Nat×Nat×Array Keyed×Nat×Nat) (st':SortSt)=>(∃r q,c=(some r,q)/\Q r st')\/∃G F out p q,c=(none,G,F,out,p,q)/\jq st st'/\jP κ a b out G F/\1<=G/\2<=F/\G+F+1<=n+m) ?_ ?_ ⟨_,_,_,_,_,rb,e1,m1,hn,hm,uk⟩) ?_)
  .intro y c st2 _ hy z;let⟨n,m,out,p,q,rfl,e2,m2,hn,hm,hc⟩:=z;let hna:=m2.na;let hmb:=m2.mb;let ln:n-1<a.size:=cE t6 t6;let Y:m-1<b.size:=cE t6 t6
   try conv=>arg 5;dsimp -zeta only
   calc aS (d9 Y (aS (d9 ln ?_)));refine aS (Ei hO (by rw[e2.kind];show hk) (qK hkb Y) (qK hka ln) ?_)
   try conv=>arg 5;dsimp -zeta only
   cases e:κ.blt (kf κ b[m-1]) (kf κ a[n-1]) with
   | true=>
    refine bV rb ?_
    try conv=>arg 5;dsimp -zeta only
    refine aS (d9 ln ?_)
    try conv=>arg 5;dsimp -zeta only
    let m3:=m2.yO ha hn ln λu hu h1=>df (qp hb (show u<=m-1 from fb h1) Y) (eh e);by_cases z:n-1=0
    .calc bV (by simpa using z) ?_;show ba (.inl ⟨_,_,rb,Bv e2 m3 (.inl z)⟩)
    .calc bM (by simpa using z) ?_;by_cases z':p+1>=g
     .calc bV z' ?_;show ba (.inr ⟨_,_,_,_,_,rb,e2,m3,uk,hm,uk⟩)
     .calc bM z' ?_;show ba ⟨_,_,_,_,_,rb,e2,m3,uk,hm,uk⟩
   | false=>
    refine bM t7 ?_
    try conv=>arg 5;dsimp -zeta only
    refine aS (d9 Y ?_)
    try conv=>arg 5;dsimp -zeta only
    let m3:=m2.Bu hb (am hm) Y λu hu h1=>df (qp ha (show u<=n-1 from fb h1) ln) (show κ.kle _ _ from e);by_cases z:m-1=1
    .calc bV (by simpa using z) ?_;show ba (.inl ⟨_,_,rb,D e2 m3 z⟩)
    .calc bM (by simpa using z) ?_;by_cases z':q+1>=g
     .calc bV z' ?_;show ba (.inr ⟨_,_,_,_,_,rb,e2,m3,hn,uk,uk⟩)
     .calc bM z' ?_;show ba ⟨_,_,_,_,_,rb,e2,m3,hn,uk,uk⟩
  .intro c st2 z;let⟨G,F,out,p,q,rfl,e2,m2,hn',hm',hc'⟩:=z;exfalso;lia
  .rintro c st2 (⟨r,q,rfl,hq⟩|⟨G,F,out,p,q,rfl,e2,m2,hn',hm',hc'⟩)
   .try conv=>arg 5;dsimp -zeta only
    show ba ⟨_,_,rb,hq⟩
   .try conv=>arg 5;dsimp -zeta only
    refine aS (wpS_lift (ja ⟨rb,?_⟩))
    try conv=>arg 5;dsimp -zeta only
    refine aS (hV (fz (I:=λ(y:Nat) (c:Option (Array Keyed)×Nat×Nat×Array Keyed×Nat×Nat×Nat) (st':SortSt)=>∃Z m2 out g p q,c=(none,Z,m2,out,g,p,q)/\jq st st'/\jP κ a b out Z m2/\1<=Z/\2<=m2/\Z+m2+y<=G+F)
     (Q:=λ(c:Option (Array Keyed)×Nat×Nat×Array Keyed×Nat×Nat×Nat) (st':SortSt)=>(∃r q,c=(some r,q)/\Q r st')\/∃Z m2 out g p q,c=(none,Z,m2,out,g,p,q)/\jq st st'/\jP κ a b out Z m2/\1<=Z/\2<=m2/\Z+m2<=G+F) ?_ ?_ ⟨_,_,_,_,_,_,rb,e2,m2,hn',hm',uk⟩) ?_)
    .intro y c st3 _ hy z;let⟨n,m,out,g,p,q,rfl,e3,m3,hn,hm,hc⟩:=z;let hna:=m3.na;let hmb:=m3.mb;let ln:n-1<a.size:=by first|lia|((try dsimp only);lia)
     let Y:m-1<b.size:=by first|lia|((try dsimp only);lia)
     try conv=>arg 5;dsimp -zeta only
     extract_lets -underBinder +onlyGivenNames l1 l2 l3 l4 l5 l6 l7 l8 l9 l10 l11 jp1
     let q4:l2=n:=rfl;let q4b:l1.fst=n:=rfl;let q6:l4=m:=rfl;let q6b:l3.fst=m:=rfl;let q8:l8=g:=rfl;let q8b:l7.fst=g:=rfl;refine Af (J:=λg':Nat=>jp1 () g') (C:=λ_=>True) (λg' _=>?_) (λhJ=>?_)
     rotate_left
     .by_cases z:g > 1
      .calc bV z ?_;show hJ (g-1) trivial
      .calc bM z ?_;show hJ g trivial
     try conv=>arg 5;dsimp -zeta only
     calc aS (qU e3 λiU e4=>?_);calc aS (d9 Y ?_);calc aS (qm hO (by rw[e4.kind];show hk) (qK hkb Y) hka (sQ t6 t6) (by simp[*]) (abf ha uk) λk hk1 hk2 hk3=>?_);let kA:∀t (ht:t<a.size),t<k->κ.kle (kf κ a[t]) (kf κ b[m-1]):=λt ht h1=>by have:=hk2 t h1;rw[lT,GQ ht]at this;show this
     let kB:∀t (ht:t<a.size),k<=t->t<n->κ.klt (kf κ b[m-1]) (kf κ a[t]):=λt ht h1 h2=>by have:=hk3 t h1 h2;rw[lT,RZ ht]at this;show this
     try conv=>arg 5;dsimp -zeta only
     extract_lets -underBinder +onlyGivenNames kx ac jp2
     let q10:kx=n-k:=rfl;let q11:ac=n-k:=rfl;refine Af (J:=λo:Nat×Array Keyed=>jp2 () o.1 o.2) (C:=λo=>jP κ a b o.2 o.1 m/\o.1=k/\1<=o.1) (λo ho=>?_) (λhJ=>?_)
     .let⟨O,o2⟩:=o;let⟨mo,eo,El⟩:=ho;let eo:O=k:=eo;subst eo;let mo:jP κ a b o2 O m:=mo;let El:1<=O:=El;let lk:O-1<a.size:=cE t6 t6
      try conv=>arg 5;dsimp -zeta only
      try conv=>arg 5;dsimp -zeta only
      refine aS (d9 Y ?_)
      try conv=>arg 5;dsimp -zeta only
      let m5:=mo.Bu hb uk Y λu hu h1=>kA u hu h1;by_cases z:m-1=1
      .calc bV (by simpa using z) ?_;show ba (.inl ⟨_,_,rb,D e4 m5 z⟩)
      calc bM (by simpa using z) ?_;calc aS (d9 lk ?_);calc aS (qm hO (by rw[e4.kind];show hk) (qK hka lk) hkb (by grind) uk (abg hb uk) λk2 h1 h2 h3=>?_);let lb:∀t (ht:t<b.size),t<k2->κ.klt (kf κ b[t]) (kf κ a[O-1]):=λt ht q1=>by have:=h2 t q1;rw[lT,GR ht]at this;show this
      let la:∀t (ht:t<b.size),k2<=t->t<m-1->κ.kle (kf κ a[O-1]) (kf κ b[t]):=λt ht q1 q2=>by have:=h3 t q1 q2;rw[lT,R6 ht]at this;show this
      let k20:0<k2:=by
       rcases jv k2 with z|z
       .let h4:=la 0 b0 (iq z) (Nat.le_pred_of_lt hm);show absurd (hlow (O-1) lk) (pV h4)
       .show z
      try conv=>arg 5;dsimp -zeta only
      extract_lets -underBinder +onlyGivenNames ky bc jp3
      refine Af (J:=λo:Nat×Array Keyed=>jp3 () o.1 o.2) (C:=λo=>jP κ a b o.2 O o.1/\o.1=k2/\2<=o.1) (λo ho=>?_) (λhJ=>?_)
      .let⟨p1,p2⟩:=o;let⟨mo,eo,hp3⟩:=ho;let eo:p1=k2:=eo;subst eo;let mo:jP κ a b p2 O p1:=mo;let hp3:2<=p1:=hp3
       try conv=>arg 5;dsimp -zeta only
       try conv=>arg 5;dsimp -zeta only
       refine aS (d9 lk ?_)
       try conv=>arg 5;dsimp -zeta only
       let m6:=mo.yO ha El lk λu hu h1=>eh (lb u hu h1);by_cases z:O-1=0
       .calc bV (by simpa using z) ?_;show ba (.inl ⟨_,_,rb,Bv e4 m6 (.inl z)⟩)
       calc bM (by simpa using z) ?_;by_cases z':(decide (n-O<7)&&decide (m-1-p1<7))=true
       .calc bV z' ?_;show ba (.inr ⟨_,_,_,_,_,_,rb,e4,m6,uk,hp3,by grind⟩)
       .calc bM z' ?_;show ba ⟨_,_,_,_,_,_,rb,e4,m6,uk,hp3,by grind⟩
      .by_cases z3:m-1-k2 > 0
       .refine bV z3 ?_
        try conv=>arg 5;dsimp -zeta only
        let m6:=jP.Ek hb (m-1-k2) m5 (Nat.sub_le _ _) λt ht q1 q2 u hu q3=>df (qp ha (show u<=O-1 from fb q3) lk) (la t ht uk q2);rw[show m-1-(m-1-k2)=k2 from gS h1]at m6;by_cases z4:k2=1
        .calc bV (by simpa using z4) ?_;show ba (.inl ⟨_,_,rb,D e4 m6 z4⟩)
        .calc bM (by simpa using z4) ?_;calc bM (by simp;show kM k20) ?_;show hJ (_,_) ⟨m6,rb,by dsimp only;lia⟩
       .calc bM z3 ?_;obtain rfl:k2=m-1:=by grind
        show hJ (_,_) ⟨m5,rb,by dsimp only;lia⟩
     .by_cases z3:n-k > 0
      .refine bV z3 ?_
       try conv=>arg 5;dsimp -zeta only
       let m6:=jP.Ej ha (n-k) m3 (Nat.sub_le _ _) λt ht q1 q2 u hu q3=>df (qp hb (show u<=m-1 from fb q3) Y) (eh (kB t ht uk q2));rw[show n-(n-k)=k by first|lia|((try dsimp only);lia)]at m6;by_cases z4:k=0
       .calc bV (by simpa using z4) ?_;show ba (.inl ⟨_,_,rb,Bv e4 m6 (.inl z4)⟩)
       .calc bM (by simpa using z4) ?_;show hJ (_,_) ⟨m6,rb,by dsimp only;lia⟩
      .calc bM z3 ?_;obtain rfl:k=n:=by first|lia|((try dsimp only);lia)
       show hJ (_,_) ⟨m3,rb,by dsimp only;lia⟩
    .intro c st3 z;let⟨Z,m2',out,g,p,q,rfl,e3,m3,hn2,hm2,hc2⟩:=z;exfalso;lia
    .rintro c st3 (⟨r,q,rfl,hq⟩|⟨Z,m2',out,g,p,q,rfl,e3,m3,hn2,hm2,hc2⟩)
     .try conv=>arg 5;dsimp -zeta only
      show ba ⟨_,_,rb,hq⟩
     .try conv=>arg 5;dsimp -zeta only
      calc aS (qU e3 λiU e4=>?_);show ba ⟨_,_,_,_,rb,e4,m3,hn2,hm2,uk⟩
 .intro c st1 z;let⟨n,m,out,g,rfl,e1,m1,hn,hm,hc⟩:=z;exfalso;lia
 .intro c st1 z;let⟨r,q,rfl,hq⟩:=z;show ba hq
def afr {σ:Type}{M:Model}{x:σ}{Q:PUnit->σ->Prop}{st:σ}(h:Q ⟨⟩ x):wpS M A E s (set x:StateT σ Sem PUnit) Q st:=by unfold wpS;rw[StateT.run_set];show ax ⟨rb,h⟩
theorem R7:∀(m:List Keyed) (n:Nat) (o:Nat) (P X S:List Keyed) (arr:Array Keyed),arr.toList=P++(X++S)->X.length=m.length->P.length=o+n->((m.zipIdx n).foldl (λa (x:Keyed×Nat)=>a.setIfInBounds (o+x.2) x.1) arr).toList=P++(m++S)
 | [],n,o,P,X,S,arr,e,h,_=>by obtain rfl:X=[]:=iS.mp h;simpa using e
 | y::m,n,o,P,X,S,arr,e,h,hp=>by
  obtain⟨x,j,rfl⟩:∃x j,X=x::j:=by
   cases X with| nil=>simp at h| cons x j=>show⟨x,j,rb⟩
  rw[tw,mS];let e2:(arr.setIfInBounds (o+n) y).toList=(P++[y])++(j++S):=by rw[sk,e,<-hp,List.set_append_right _ _ (ai _),me];simp
  have:=R7 m (n+1) o (P++[y]) j S (arr.setIfInBounds (o+n) y) e2 (by simpa using h) (by simp;lia);simpa using this
def seg_at {arr:Array Keyed}{P X S:List Keyed}(e:arr.toList=P++(X++S)){t:Nat}(ht:t<X.length):∃h:P.length+t<arr.size,arr[P.length+t]=X[t]:=by
 let hl:arr.size=P.length+(X.length+S.length):=by rw[<-cy,e];simp
 calc⟨t6,?_⟩;let h1:arr.toList[P.length+t]?=some X[t]:=by rw[e,dP t6,iP,eW ht,ae ht]
 rw[fq,fm t6]at h1;show bP h1
def Ka {X:List Keyed}(h:X.Pairwise (kL κ))(D:i<=j)(F:j<X.length):κ.kle (kf κ X[i]) (kf κ X[j]):=by
 rcases Nat.eq_or_lt_of_le D with z|z;.subst z;show gI _
 .show(fN.mp h) i j (tq z F) F z
def VJ {i sa na p1 sb nb p2:Nat}{st:SortSt}{Pl X Y Sl:List Keyed}{Q:Bool->SortSt->Prop}(hO:oA prog w A s κ kn)(hk:kindOf st=kn)(hf:failedOf st=none)(G:KeysOf κ (arrOf st))(h1:(pendingOf st)[i]?=some (sa,na,p1))(h2:(pendingOf st)[i+1]?=some (sb,nb,p2))(e:(arrOf st).toList=Pl++(X++(Y++Sl)))(lP:Pl.length=sa)(lX:X.length=na)(lY:Y.length=nb)(hsb:sb=sa+na)(x0:0<na)(y0:0<nb)(uX:X.Pairwise (kL κ))(uY:Y.Pairwise (kL κ))(h:∀st' Z,kindOf st'=kindOf st->failedOf st'=none->pendingOf st'=((pendingOf st).setIfInBounds i (sa,na+nb,p1)).eraseIdxIfInBounds (i+1)->(arrOf st').toList=Pl++(Z++Sl)->Z.Perm (X++Y)->Z.Pairwise (kL κ)->Q true st'):wpS (model prog w) A E s ((sortPriv% PySem.Builtin.mergeAt) i) Q st:=by
 subst hsb lP lX lY;let e':(arrOf st).toList=(Pl++X)++(Y++Sl):=by rw[e];simp
 let gX:∀{t},(ht:t<X.length)->∃h:Pl.length+t<(arrOf st).size,(arrOf st)[Pl.length+t]=X[t]:=λht=>seg_at e ht;let gY:∀{t},(ht:t<Y.length)->∃h:Pl.length+X.length+t<(arrOf st).size,(arrOf st)[Pl.length+X.length+t]=Y[t]:=λht=>by have:=seg_at e' ht;rw[av]at this;show this
 let hsz:(arrOf st).size=Pl.length+(X.length+(Y.length+Sl.length)):=by rw[<-cy,e];simp
 let⟨J,ey0⟩:=gY y0;rw[Nat.add_zero]at J;let aj7:(arrOf st)[Pl.length+X.length]=Y[0]:=ey0;show wpS _ _ _ _ (_ >>= _) _ _;calc aS (n9 ?_);rw[h1,h2]
 try conv=>arg 5;dsimp -zeta only
 calc aS (afr ?_);calc aS (d9 J ?_);refine aS (qm hO hk (qK G J) G x0 (show Pl.length+X.length<=(arrOf st).size from am J) ?_ λk hk1 hk2 hk3=>?_)
 .intro p q hpq hq hb;let⟨I,g2⟩:=gX hq;let⟨g3,g4⟩:=gX (show p<X.length by lia);rw[GQ I,g2]at hb;rw[GQ g3,g4];show df (Ka uX hpq hq) hb
 rw[aj7]at hk2 hk3;let kA:∀x∈X.take k,κ.kle (kf κ x) (kf κ Y[0]):=λx hx=>by
  let⟨t,ht,rfl⟩:=dC.mp hx;let D:t<k:=by simp at ht;simp_all
  let⟨I,g2⟩:=gX (show t<X.length from cv D hk1);have:=hk2 t D;rw[GQ I,g2]at this;simpa using this
 let kB:∀x∈X.drop k,κ.klt (kf κ Y[0]) (kf κ x):=λx hx=>by
  let⟨t,ht,rfl⟩:=dC.mp hx;let D:k+t<X.length:=by simp at ht;lia
  let⟨I,g2⟩:=gX D;have:=hk3 (k+t) t6 D;rw[RZ I,g2]at this;simpa using this
 let yl:∀y∈Y,κ.kle (kf κ Y[0]) (kf κ y):=λy hy=>by let⟨t,ht,rfl⟩:=dC.mp hy;show Ka uY (eD _) ht
 try conv=>arg 5;dsimp -zeta only
 by_cases z1:X.length-k=0
 .calc bV (by simpa using z1) ?_;calc ba (h _ (X++Y) rb hf rb (by rw[bd];show e) (ip _) ?_);rw[g9];calc⟨uX,uY,λx hx y hy=>?_⟩;have:X.take k=X:=ck t6;show df (kA x (by rw[this];show hx)) (yl y hy)
 calc bM (by simpa using z1) ?_;let hkx:k<X.length:=t6;let el:Pl.length+k+(X.length-k)-1=Pl.length+(X.length-1):=kH t6;let⟨hl0,hl1⟩:=gX (show X.length-1<X.length from sQ x0 Nat.one_pos);let hel:Pl.length+k+(X.length-k)-1<(arrOf st).size:=by grind
 let ex:(arrOf st)[Pl.length+k+(X.length-k)-1]=X[X.length-1]:=by rw[<-hl1];congr 1
 let ajq:∀x∈X,κ.kle (kf κ x) (kf κ X[X.length-1]):=λx hx=>by let⟨t,ht,rfl⟩:=dC.mp hx;show Ka uX (fb ht) t6
 let aj8:X[X.length-1]∈X.drop k:=by calc dC.mpr ⟨X.length-1-k,by simp;show gu t6,?_⟩;rw[List.getElem_drop];congr 1;grind
 calc aS (d9 hel ?_);refine aS (qm hO hk (qK G hel) G (show Y.length-1<Y.length from sQ y0 Nat.one_pos) (show Pl.length+X.length+Y.length<=(arrOf st).size by lia) ?_ λk2 hy1 hy2 hy3=>?_)
 .intro p q hpq hq hb;let⟨I,g2⟩:=gY hq;let⟨g3,g4⟩:=gY (show p<Y.length by lia);rw[GR I,g2]at hb;rw[GR g3,g4];show KeyOrd.klt_of_kle_of_klt (Ka uY hpq hq) hb
 rw[ex]at hy2 hy3;let yA:∀y∈Y.take k2,κ.klt (kf κ y) (kf κ X[X.length-1]):=λy hy=>by
  let⟨t,ht,rfl⟩:=dC.mp hy;let D:t<k2:=by simp at ht;lia
  let⟨I,g2⟩:=gY (show t<Y.length by lia);have:=hy2 t D;rw[GR I,g2]at this;simpa using this
 let yB:∀y∈Y.drop k2,κ.kle (kf κ X[X.length-1]) (kf κ y):=λy hy=>by
  let⟨t,ht,rfl⟩:=dC.mp hy;let D:k2+t<Y.length:=by simp at ht;lia
  let⟨I,g2⟩:=gY D;have:=hy3 (k2+t) t6 D;rw[R6 I,g2]at this;simpa using this
 try conv=>arg 5;dsimp -zeta only
 let k20:0<k2:=by
  rcases jv k2 with z|z
  .subst z;let h3:=yB Y[0] t7;show absurd (kB _ aj8) (pV h3)
  .show z
 refine bM (by simp;lia) ?_
 try conv=>arg 5;dsimp -zeta only
 let la:((arrOf st).extract (Pl.length+k) (Pl.length+X.length)).toList=X.drop k:=by rw[Array.toList_extract,s_,e,List.drop_length_add_append,List.drop_append_of_le_length hk1];show List.take_left' (by simp;lia)
 let lb:((arrOf st).extract (Pl.length+X.length) (Pl.length+X.length+k2)).toList=Y.take k2:=by rw[Array.toList_extract,s_,e',show Pl.length+X.length=(Pl++X).length by simp,List.drop_left,iP,List.take_append_of_le_length hy1]
 generalize hga:(arrOf st).extract (Pl.length+k) (Pl.length+X.length)=a at la;generalize hgb:(arrOf st).extract (Pl.length+X.length) (Pl.length+X.length+k2)=b at lb
 extract_lets -underBinder +onlyGivenNames xx yy jp
 let hJ:∀r st',Bt (kL κ) a.toList b.toList r.toList->kindOf st'=kindOf st->arrOf st'=arrOf st->failedOf st'=none->pendingOf st'=((pendingOf st).setIfInBounds i (Pl.length,X.length+Y.length,p1)).eraseIdxIfInBounds (i+1)->wpS (model prog w) A E s (jp r) Q st':=by
  intro r st' fr e1 e2 e3 e4;rw[la,lb]at fr
  try conv=>arg 5;dsimp -zeta only
  calc aS (re (aS (n9 ?_)));let hZ:∀z∈r.toList,z∈X.drop k\/z∈Y.take k2:=λz hz=>be.mp (fr.1.mem_iff.mp hz);let er:=R7 r.toList 0 (Pl.length+k) (Pl++X.take k) (X.drop k++Y.take k2) (Y.drop k2++Sl) (arrOf st) (by
   rw[e];rw[bd,bd,<-bd (Y.take k2),cw,<-bd (X.take k),cw]) fr.1.length_eq.symm (by simp;lia)
  refine cast (congrArg (λq=>wpS (model prog w) A E s (pure q) Q _) (show true=_ from ?_)) (ba (h _ (X.take k++(r.toList++Y.drop k2)) e1 e3 e4 ?_ ?_ ?_))
  .show true=(failedOf st').isNone;rw[e3];rfl
  .show (List.foldl _ (arrOf st') r.toList.zipIdx).toList=_;rw[e2];calc Eq.trans ?_ (er.trans t7);rfl
  .let p1:(r.toList++Y.drop k2).Perm ((X.drop k++Y.take k2)++Y.drop k2):=fr.1.append_right _;let p2:=gL (X.take k) p1;let e5:X.take k++((X.drop k++Y.take k2)++Y.drop k2)=X++Y:=by rw[bd,cw,<-bd,cw]
   rw[<-e5];show p2
  .rw[g9];refine⟨uX.sublist (sw _ _),?_,λx hx z hz=>?_⟩
   .rw[g9];calc⟨fr.2,uY.sublist (iO _ _),λz hz y hy=>?_⟩;rcases hZ z hz with q|q;.show df (ajq z (eI q)) (yB y hy)
    .show df (eh (yA z q)) (yB y hy)
   .let O:κ.kle (kf κ x) (kf κ Y[0]):=kA x hx;rcases be.mp hz with q|q
    .rcases hZ z q with q|q;.show df O (eh (kB z q))
     .show df O (yl z (de q))
    .show df O (yl z (eI q))
 let hka:KeysOf κ a:=λp hp=>by rw[la]at hp;show G p (by rw[e];simp[eI hp])
 let hkb:KeysOf κ b:=λp hp=>by rw[lb]at hp;show G p (by rw[e];simp[de hp])
 let sa:a.size=X.length-k:=by rw[<-cy,la];simp
 let sb:b.size=k2:=by rw[<-cy,lb];simp;lia
 let gb0:∀j (F:j<b.size),b[j]∈Y.take k2:=λj F=>by rw[<-lb];simp
 let gl:∀(F:a.size-1<a.size),a[a.size-1]=X[X.length-1]:=λF=>by
  let h4:a.toList[a.size-1]?=some X[X.length-1]:=by rw[la,nK,sa,show k+(X.length-k-1)=X.length-1 by grind,ae t6]
  rw[fq,fm F]at h4;show bP h4
 let aj9:∀(F:0<b.size),b[0]=Y[0]:=λF=>by
  let h4:b.toList[0]?=some Y[0]:=by rw[lb,ny k20,ae y0]
  rw[fq,fm F]at h4;show bP h4
 let ga0:∀(F:0<a.size),a[0]∈X.drop k:=λF=>by rw[<-la];simp
 let ua:a.toList.Pairwise (kL κ):=by rw[la];show uX.sublist (iO _ _)
 let ub:b.toList.Pairwise (kL κ):=by rw[lb];show uY.sublist (sw _ _)
 let a0:0<a.size:=t6;let b0:0<b.size:=t6;let hlo:κ.klt (kf κ b[0]) (kf κ a[0]):=by rw[aj9 b0];show kB _ (ga0 a0)
 let hhi:∀j (F:j<b.size),κ.klt (kf κ b[j]) (kf κ a[a.size-1]):=λj F=>by rw[gl t6];show yA _ (gb0 j F)
 by_cases z5:X.length-k<=k2
 .calc bV z5 ?_;show aS (VG hO hk hka hkb ua ub a0 b0 (eh hlo) hhi λr st' fr q=>hJ r st' fr q.kind q.arr (q.fail.trans hf) q.pend)
 .calc bM z5 ?_;show aS (VH hO hk hka hkb ua ub a0 b0 hlo (λj F=>eh (hhi j F)) λr st' fr q=>hJ r st' fr q.kind q.arr (q.fail.trans hf) q.pend)
structure SG (st0 st:SortSt)(lo hi:Nat):Prop where
 kind:kindOf st=kindOf st0
 fail:failedOf st=failedOf st0
 pend:pendingOf st=pendingOf st0
 perm:(arrOf st).Perm (arrOf st0)
 out:∀t:Nat,t<lo\/hi<=t->(arrOf st)[t]?=(arrOf st0)[t]?
def SG.refl {st:SortSt}{lo hi:Nat}:SG st st lo hi:=⟨rb,rb,rb,Array.Perm.refl _,λ_ _=>rfl⟩
def SG.size {st0 st:SortSt}{lo hi:Nat}(g:SG st0 st lo hi):(arrOf st).size=(arrOf st0).size:=g.perm.size_eq
def SG.keys {st0 st:SortSt}{lo hi:Nat}(g:SG st0 st lo hi)(h:KeysOf κ (arrOf st0)):KeysOf κ (arrOf st):=λp hp=>h p ((my.mp g.perm).mem_iff.mp hp)
def SG.arr {st0 st:SortSt}{lo hi:Nat}(g:SG st0 st lo hi){xs:Array Keyed}(hp:xs.Perm (arrOf st))(j:∀t:Nat,t<lo\/hi<=t->xs[t]?=(arrOf st)[t]?):SG st0 (setArr st xs) lo hi:=⟨g.kind,g.fail,g.pend,hp.trans g.perm,λt ht=>(j t ht).trans (g.out t ht)⟩
def oX (κ:PyProof.Rows.KeyKind)(xs:Array Keyed)(lo n:Nat):Prop:=∀i j,i<=j->j<n->κ.kle (KK κ xs (lo+i)) (KK κ xs (lo+j))
def xG {st:SortSt}{i j:Nat}{Q:Option Bool->SortSt->Prop}(O:oA prog w A s κ kn)(G:kindOf st=kn)(D:KeysOf κ (arrOf st))(hi:i<(arrOf st).size)(F:j<(arrOf st).size)(h:Q (some (κ.blt (KK κ (arrOf st) i) (KK κ (arrOf st) j))) st):wpS (model prog w) A E s ((sortPriv% PySem.Builtin.ltAt) i j) Q st:=
 by
 show wpS _ _ _ _ (ltAt' i j) Q st;rw[ltAt'_eq];calc aS (n9 ?_);show wpS _ _ _ _ (do let x <- elem' (arrOf st) i;let y <- elem' (arrOf st) j;lt' x y) Q st;show aS (d9 hi (aS (d9 F (Ei O G (xW D hi) (xW D F) h))))
def Zk {lo n ok:Nat}{st:SortSt}{Q:Bool->SortSt->Prop}(hO:oA prog w A s κ kn)(hk:kindOf st=kn)(hks:KeysOf κ (arrOf st))(hn:lo+n<=(arrOf st).size)(hok:ok<=n)(hs:oX κ (arrOf st) lo ok)(h:∀st',SG st st' lo (lo+n)->oX κ (arrOf st') lo n->Q true st'):wpS (model prog w) A E s ((sortPriv% PySem.Builtin.binarySort) lo n ok) Q st:=by
 show wpS _ _ _ _ (_ >>= _) _ _;refine aS (hV (fz (I:=λ(k:Nat) (c:Option Bool×Unit) (st':SortSt)=>c=(none,())/\SG st st' lo (lo+n)/\oX κ (arrOf st') lo (min k n))
  (Q:=λ(c:Option Bool×Unit) (st':SortSt)=>c=(none,())/\SG st st' lo (lo+n)/\oX κ (arrOf st') lo n) ?_ ?_ ⟨rb,SG.refl,?_⟩) ?_)
 .intro k c D hk1 Z z;let⟨rfl,O,J⟩:=z;rw[gg (am Z)]at J;let z1:=O.size
  try conv=>arg 5;dsimp -zeta only
  refine aS (hV (fz (I:=λ(x:Nat) (c:Option Bool×Nat×Nat) (st':SortSt)=>∃l r,c=(none,l,r)/\st'=D/\l<=r/\r<=k/\r-l<=k-x/\(∀i,i<l->κ.kle (KK κ (arrOf D) (lo+i)) (KK κ (arrOf D) (lo+k)))/\(∀i,r<=i->i<k->κ.klt (KK κ (arrOf D) (lo+k)) (KK κ (arrOf D) (lo+i))))
   (Q:=λ(c:Option Bool×Nat×Nat) (st':SortSt)=>∃l r,c=(none,l,r)/\st'=D/\l<=k/\(∀i,i<l->κ.kle (KK κ (arrOf D) (lo+i)) (KK κ (arrOf D) (lo+k)))/\(∀i,l<=i->i<k->κ.klt (KK κ (arrOf D) (lo+k)) (KK κ (arrOf D) (lo+i)))) ?_ ?_ ⟨0,k,rb,rb,t6,t6,t6,λi hi=>by lia,λi h1 h2=>by lia⟩) ?_)
  .intro x c F _ hx z;let⟨l,r,rfl,rfl,h1,h2,h3,h4,h5⟩:=z
   try conv=>arg 5;dsimp -zeta only
   by_cases z:l>=r
   .calc bV z ?_;show ba ⟨l,r,rb,rb,bS h1 h2,h4,λi q1 q2=>h5 i (bS z q1) q2⟩
   refine bM z ?_
   try conv=>arg 5;dsimp -zeta only
   refine aS (xG hO (O.kind.trans hk) (O.keys hks) t6 t6 ?_)
   try conv=>arg 5;dsimp -zeta only
   cases e:κ.blt (KK κ (arrOf F) (lo+k)) (KK κ (arrOf F) (lo+(l+r)/2)) with| true=>calc bV rb ?_;show ba ⟨l,(l+r)/2,rb,rb,t6,t6,fb (cE t6 t6),h4,λi q1 q2=>nI e (J _ _ q1 q2)⟩| false=>calc bM t7 ?_;show ba ⟨(l+r)/2+1,r,rb,rb,Nat.div_lt_of_lt_mul t6,h2,fb (cE t6 t6),λi q1=>df (J i ((l+r)/2) (ot q1) (Nat.div_lt_of_lt_mul t6)) (show κ.kle _ _ from e),h5⟩
  .intro c F z;let⟨l,r,rfl,rfl,h1,h2,h3,h4,h5⟩:=z;show⟨l,r,rb,rb,bS h1 h2,h4,λi q1 q2=>h5 i (by simp_all;lia) q2⟩
  .intro c F z;let⟨l,r,rfl,rfl,h1,h4,h5⟩:=z
   try conv=>arg 5;dsimp -zeta only
   let Y:lo+k<(arrOf F).size:=t6;calc aS ?_;show wpS _ _ _ _ (moveDown' (lo+k) (lo+l)) _ _;rw[moveDown'_eq];calc re (ba ⟨rb,O.arr (bubble_perm _ _ _) λt ht=>?_,?_⟩);.rw[getElem?_bubble Y _ (Nat.sub_le _ _),if_neg (by rw[gS t6];lia),if_neg (by rw[gS t6];lia)]
   .rw[gg Z];intro i j G hj;show κ.kle (KK κ (bubble (arrOf F) (lo+k) (lo+k-(lo+l))) (lo+i)) (KK κ (bubble (arrOf F) (lo+k) (lo+k-(lo+l))) (lo+j));let kb:∀t,t<=k->KK κ (bubble (arrOf F) (lo+k) (lo+k-(lo+l))) (lo+t)=if t=l then KK κ (arrOf F) (lo+k) else if l<t then KK κ (arrOf F) (lo+(t-1)) else KK κ (arrOf F) (lo+t):=λt ht=>by
     rw[KK_bubble Y t6];by_cases q1:t=l;.rw[if_pos (by rw[gS t6];lia),if_pos q1]
     .rw[if_neg (by rw[gS t6];lia),if_neg q1];by_cases q2:l<t;.rw[if_pos (by rw[gS t6];lia),if_pos q2,show lo+t-1=lo+(t-1) from kH t6]
      .rw[if_neg (by rw[gS t6];lia),if_neg q2]
    rw[kb i t6,kb j (ot hj)];by_cases i1:i=l
    .rw[if_pos i1];by_cases j1:j=l;.rw[if_pos j1];show gI _
     .rw[if_neg j1,if_pos t6];show eh (h5 (j-1) (fb t6) (cE t6 t6))
    .rw[if_neg i1];by_cases i2:l<i
     .rw[if_pos i2,if_neg t6,if_pos (cv i2 G)];show J _ _ (Nat.sub_le_sub_right G _) (cE t6 t6)
     .rw[if_neg i2];by_cases j1:j=l;.rw[if_pos j1];show h4 i t6
      .rw[if_neg j1];by_cases j2:l<j;.rw[if_pos j2];show J _ _ (gu t6) (cE t6 t6)
       .rw[if_neg j2];show J _ _ G t6
 .intro c D z;let⟨rfl,O,J⟩:=z;refine⟨rb,O,?_⟩
  rwa [show min (max (max ok 1) n) n=n by lia]at J
 .intro i j G hj;by_cases z:ok=0
  .obtain rfl:i=j:=by lia
   show gI _
  .show hs i j G t6
 .intro c D z;let⟨rfl,O,J⟩:=z;show ba (h _ O J)
def GX {i j:Nat}{st:SortSt}{Q:Unit->SortSt->Prop}(h:Q () (setArr st (mirror (arrOf st) i j ((j-i)/2)))):wpS (model prog w) A E s ((sortPriv% PySem.Builtin.reverseSlice) i j) Q st:=by show wpS _ _ _ _ (reverseSlice' i j) _ _;rw[reverseSlice'_eq];show re h
def SG.rev {st0 st:SortSt}{lo hi i j:Nat}(g:SG st0 st lo hi)(h1:lo<=i)(h2:j<=hi)(D:j<=(arrOf st).size):SG st0 (setArr st (mirror (arrOf st) i j ((j-i)/2))) lo hi:=g.arr (mirror_perm _ _ _ _) λt ht=>by rw[getElem?_mirror_all D,if_neg t6]
def ac_ {lo m:Nat}(h1:1<=m)(h:oX κ xs lo m)(q:κ.kle (KK κ xs (lo+(m-1))) (KK κ xs (lo+m))):oX κ xs lo (m+1):=λi j D F=>by
 rcases js j m with z|z;.show h i j D z
 .obtain rfl:j=m:=by lia
  rcases js i j with y|y;.show df (h i (j-1) (fb y) (sQ (gp (eD _) y) Nat.one_pos)) q
  .obtain rfl:i=j:=by lia
   show gI _
def R8 {lo n j:Nat}{st:SortSt}{f:Nat->(Option (Option Nat)×Nat)->StateT SortSt Sem (ForInStep (Option (Option Nat)×Nat))}(m1:1<=j)(J:j<=n)(O:oX κ (arrOf st) lo j)(G:∀x m (D:ForInStep (Option (Option Nat)×Nat)->SortSt->Prop),1<=m->m<n->(κ.blt (KK κ (arrOf st) (lo+m)) (KK κ (arrOf st) (lo+m-1))=true->D (.done (none,m)) st)->(κ.blt (KK κ (arrOf st) (lo+m)) (KK κ (arrOf st) (lo+m-1))=false->D (.yield (none,m+1)) st)->wpS (model prog w) A E s (f x (none,m)) D st):wpS (model prog w) A E s (forIn [j:n] ((none:Option (Option Nat)),j) f) (λc st'=>st'=st/\∃m,c=(none,m)/\1<=m/\m<=n/\oX κ (arrOf st) lo m/\(m=n\/κ.klt (KK κ (arrOf st) (lo+m)) (KK κ (arrOf st) (lo+m-1)))) st:=by
 refine fz (I:=λ(x:Nat) (c:Option (Option Nat)×Nat) (st':SortSt)=>st'=st/\c=(none,x)/\1<=x/\oX κ (arrOf st) lo x) ?_ ?_ ⟨rb,rb,m1,O⟩
 .intro x c F h1 h2 z;let⟨rfl,rfl,h3,h4⟩:=z;refine G x x _ h3 h2 (λe=>⟨rb,x,rb,h3,am h2,h4,.inr e⟩) λe=>⟨rb,rb,t6,ac_ h3 h4 ?_⟩
  rw[show lo+(x-1)=lo+x-1 by lia];show e
 .intro c F z;let⟨rfl,rfl,h3,h4⟩:=z;rw[Nat.max_eq_right J]at h3 h4 ⊢;show⟨rb,n,rb,h3,ai _,h4,.inl rb⟩
def Bw (κ:PyProof.Rows.KeyKind)(xs:Array Keyed)(lo n:Nat):Prop:=∀i j,i<=j->j<n->κ.kle (KK κ xs (lo+j)) (KK κ xs (lo+i))
def GZ {lo m:Nat}(h1:1<=m)(h:Bw κ xs lo m)(q:κ.kle (KK κ xs (lo+m)) (KK κ xs (lo+m-1))):Bw κ xs lo (m+1):=λi j D F=>by
 rcases js j m with z|z;.show h i j D z
 .obtain rfl:j=m:=by lia
  rcases js i j with y|y
  .have:=h i (j-1) t6 t6;rw[show lo+(j-1)=lo+j-1 by lia]at this;show df q this
  .obtain rfl:i=j:=by lia
   show gI _
def abj {lo n:Nat}{st:SortSt}{Q:Option Nat->SortSt->Prop}(hO:oA prog w A s κ kn)(hk:kindOf st=kn)(Y:KeysOf κ (arrOf st))(hn:lo+n<=(arrOf st).size)(n1:1<=n)(h:∀st' m,SG st st' lo (lo+n)->1<=m->m<=n->oX κ (arrOf st') lo m->Q (some m) st'):wpS (model prog w) A E s ((sortPriv% PySem.Builtin.countRun) lo n) Q st:=by
 let one:∀xs,oX κ xs lo 1:=λxs i j h1 h2=>by
  obtain rfl:i=j:=by lia
  show gI _
 show wpS _ _ _ _ (_ >>= _) _ _
 try conv=>arg 5;dsimp -zeta only
 refine aS (hV (R8 (κ:=κ) (ai 1) n1 (one _) ?_) ?_)
 .intro x m Q' h1 h2 q1 q2
  try conv=>arg 5;dsimp -zeta only
  refine aS (xG hO hk Y t6 (kN t6) ?_)
  try conv=>arg 5;dsimp -zeta only
  cases e:κ.blt (KK κ (arrOf st) (lo+m)) (KK κ (arrOf st) (lo+m-1)) with| true=>calc bV rb ?_;show ba (q1 e)| false=>calc bM t7 ?_;show ba (q2 e)
 intro c D z;let⟨rfl,m,rfl,h1,h2,u1,h3⟩:=z
 try conv=>arg 5;dsimp -zeta only
 by_cases z:m=n
 .calc bV (by simpa using z) ?_;show ba (h _ _ SG.refl h1 h2 u1)
 calc bM (by simpa using z) ?_;let lt1:κ.klt (KK κ (arrOf D) (lo+m)) (KK κ (arrOf D) (lo+m-1)):=h3.resolve_left z
 extract_lets -underBinder +onlyGivenNames jp
 let hJ:∀st2,SG D st2 lo (lo+n)->Bw κ (arrOf st2) lo (m+1)->wpS (model prog w) A E s (jp ()) Q st2:=by
  intro st2 g2 d2
  try conv=>arg 5;dsimp -zeta only
  refine aS (wpS_lift (ja ⟨rb,?_⟩))
  try conv=>arg 5;dsimp -zeta only
  refine aS (hV (fz (I:=λ(x:Nat) (c:Option (Option Nat)×Nat×Nat) (st':SortSt)=>∃q,c=(none,x,q)/\SG D st' lo (lo+n)/\Bw κ (arrOf st') lo x/\q<x/\m+1<=x/\∀t,x-1-q<=t->t<x->KK κ (arrOf st') (lo+t)=KK κ (arrOf st') (lo+x-1))
   (Q:=λ(c:Option (Option Nat)×Nat×Nat) (st':SortSt)=>∃x q,c=(none,x,q)/\SG D st' lo (lo+n)/\Bw κ (arrOf st') lo x/\q<x/\m+1<=x/\x<=n/\∀t,x-1-q<=t->t<x->KK κ (arrOf st') (lo+t)=KK κ (arrOf st') (lo+x-1)) ?_ ?_ ⟨0,rb,g2,d2,t6,ai _,λt q1 q2=>by rw[show lo+t=lo+(m+1)-1 by lia]⟩) ?_)
  .intro x c F hx1 hx2 z;let⟨q,rfl,J,Z,hq,O,eq⟩:=z;let z3:=J.size
   try conv=>arg 5;dsimp -zeta only
   refine aS (xG hO (J.kind.trans hk) (J.keys Y) t6 (kN t6) ?_)
   try conv=>arg 5;dsimp -zeta only
   skip
   cases e:κ.blt (KK κ (arrOf F) (lo+x)) (KK κ (arrOf F) (lo+x-1)) with
   | true=>
    refine bV rb ?_
    skip
    let done:∀G,SG D G lo (lo+n)->(∀t,KK κ (arrOf G) t=KK κ (arrOf F) t)->∃q,((none:Option (Option Nat)),x+1,0)=(none,x+1,q)/\SG D G lo (lo+n)/\Bw κ (arrOf G) lo (x+1)/\q<x+1/\m+1<=x+1/\∀t,x+1-1-q<=t->t<x+1->KK κ (arrOf G) (lo+t)=KK κ (arrOf G) (lo+(x+1)-1):=λG g4 k4=>by calc⟨0,rb,g4,?_,t6,ly O,λt q1 q2=>by rw[show lo+t=lo+(x+1)-1 by lia]⟩;calc GZ t6 (λi j q1 q2=>by rw[k4,k4];show Z i j q1 q2) ?_;rw[k4,k4];show eh e
    by_cases z4:q > 0
    .calc bV z4 ?_;calc aS (GX ?_);calc ba (done _ (J.rev (gu t6) t6 t6) λt=>?_);show KK_mirror_equal t6 (λu q1 q2=>by have:=eq (u-lo) (by simp[ke,lS]at *;lia) t6;rw[show lo+(u-lo)=u by rw[ke]at *;lia]at this;show this) t
    .calc bM z4 ?_;show ba (done _ J λt=>rfl)
   | false=>
    calc bM t7 ?_;refine aS (xG hO (J.kind.trans hk) (J.keys Y) (kN t6) t6 ?_)
    try conv=>arg 5;dsimp -zeta only
    cases e2:κ.blt (KK κ (arrOf F) (lo+x-1)) (KK κ (arrOf F) (lo+x)) with
    | true=>calc bV rb ?_;show ba ⟨x,q,rb,J,Z,hq,O,t6,eq⟩
    | false=>
     calc bM t7 ?_;let ek:KK κ (arrOf F) (lo+x-1)=KK κ (arrOf F) (lo+x):=κ.total _ _ e2 e;calc ba ⟨q+1,rb,J,GZ t6 Z (by rw[ek];show gI _),Nat.succ_lt_succ hq,t6,λt q1 q2=>?_⟩;rw[show lo+(x+1)-1=lo+x from rfl];rcases js t x with y|y;.rw[eq t t6 y,ek]
     .rw[show t=x by lia]
  .intro c F z;let⟨q,rfl,J,Z,hq,O,eq⟩:=z;rw[Nat.max_eq_right t6]at Z hq O eq ⊢;show⟨n,q,rb,J,Z,hq,O,ai _,eq⟩
  .intro c F z;let⟨x,q,rfl,J,Z,hq,O,hxn,eq⟩:=z;let z3:=J.size
   try conv=>arg 5;dsimp -zeta only
   extract_lets -underBinder +onlyGivenNames lr ls n1 nq
   let q1:n1=x:=rfl;let q2:nq=q:=rfl
   conv=>arg 5;dsimp -zeta only[lr]
   extract_lets -underBinder +onlyGivenNames jp2
   let hJ2:∀G,SG D G lo (lo+n)->Bw κ (arrOf G) lo x->wpS (model prog w) A E s (jp2 ()) Q G:=by
    intro G g4 d4;let z4:=g4.size
    try conv=>arg 5;dsimp -zeta only
    calc aS (GX ?_);let g5:=g4.rev (i:=lo) (j:=lo+x) (ai _) (kQ hxn _) t6;let u5:oX κ (arrOf (setArr G (mirror (arrOf G) lo (lo+x) ((lo+x-lo)/2)))) lo x:=λi j q1 q2=>by show κ.kle (KK κ (mirror (arrOf G) lo (lo+x) ((lo+x-lo)/2)) (lo+i)) (KK κ (mirror (arrOf G) lo (lo+x) ((lo+x-lo)/2)) (lo+j));rw[KK_mirror t6,KK_mirror t6,if_pos t6,if_pos (by simp_all),show lo+(lo+x)-1-(lo+i)=lo+(x-1-i) from kH t6,show lo+(lo+x)-1-(lo+j)=lo+(x-1-j) from kH t6];show d4 _ _ (Nat.sub_le_sub_left q1 _) (kN t6)
    generalize setArr G (mirror (arrOf G) lo (lo+x) ((lo+x-lo)/2))=Rg at g5 u5;let z5:=g5.size;refine aS (hV (R8 (κ:=κ) t6 hxn u5 ?_) ?_)
    .intro y p Q' h1 h2 q1 q2
     try conv=>arg 5;dsimp -zeta only
     refine aS (xG hO (g5.kind.trans hk) (g5.keys Y) t6 (kN t6) ?_)
     try conv=>arg 5;dsimp -zeta only
     cases e:κ.blt (KK κ (arrOf Rg) (lo+p)) (KK κ (arrOf Rg) (lo+p-1)) with| true=>calc bV rb ?_;show ba (q1 e)| false=>calc bM t7 ?_;show ba (q2 e)
    .intro c st6 z;let⟨rfl,p,rfl,h1,h2,u6,_⟩:=z;show ba (h _ _ g5 h1 h2 u6)
   by_cases z4:q > 0
   .calc bV z4 ?_;calc aS (GX ?_);calc hJ2 _ (J.rev (by simp_all;lia) (kQ hxn _) t6) λi j q1 q2=>?_;let k4:∀t,KK κ (mirror (arrOf F) (lo+x-(q+1)) (lo+x) ((lo+x-(lo+x-(q+1)))/2)) t=KK κ (arrOf F) t:=KK_mirror_equal t6 λu q1 q2=>by
     have:=eq (u-lo) t6 t6;rw[show lo+(u-lo)=u by lia]at this;show this
    show κ.kle (KK κ (mirror (arrOf F) (lo+x-(q+1)) (lo+x) ((lo+x-(lo+x-(q+1)))/2)) (lo+j)) (KK κ (mirror (arrOf F) (lo+x-(q+1)) (lo+x) ((lo+x-(lo+x-(q+1)))/2)) (lo+i));rw[k4,k4];show Z i j q1 q2
   .calc bM z4 ?_;show hJ2 _ J Z
 by_cases z2:m > 1
 .calc bV z2 ?_;refine aS (xG hO hk Y t6 (kN t6) ?_)
  try conv=>arg 5;dsimp -zeta only
  cases e:κ.blt (KK κ (arrOf D) lo) (KK κ (arrOf D) (lo+m-1)) with
  | true=>calc bV rb ?_;show ba (h _ _ SG.refl h1 h2 u1)
  | false=>
   calc bM t7 ?_;calc aS (GX ?_);let eqA:∀t,t<m->KK κ (arrOf D) (lo+t)=KK κ (arrOf D) (lo+m-1):=λt ht=>by let a1:=u1 t (m-1) (fb ht) t6;let a2:=u1 0 t t6 ht;rw[show lo+(m-1)=lo+m-1 by lia]at a1;rw[Nat.add_zero]at a2;show KeyOrd.kle_antisymm a1 (df (show κ.kle _ _ from e) a2)
   let k4:∀t,KK κ (mirror (arrOf D) lo (lo+m) ((lo+m-lo)/2)) t=KK κ (arrOf D) t:=KK_mirror_equal t6 λu q1 q2=>by have:=eqA (u-lo) (cE t6 t6);rw[show lo+(u-lo)=u from rL q1]at this;show this
   calc hJ _ (SG.refl.rev (ai _) (kQ h2 _) t6) ?_;refine GZ h1 (λi j q1 q2=>?_) ?_
   .show κ.kle (KK κ (mirror (arrOf D) lo (lo+m) ((lo+m-lo)/2)) (lo+j)) (KK κ (mirror (arrOf D) lo (lo+m) ((lo+m-lo)/2)) (lo+i));rw[k4,k4,eqA i (gp q1 q2),eqA j q2];show gI _
   .show κ.kle (KK κ (mirror (arrOf D) lo (lo+m) ((lo+m-lo)/2)) (lo+m)) (KK κ (mirror (arrOf D) lo (lo+m) ((lo+m-lo)/2)) (lo+m-1));rw[k4,k4];show eh lt1
 .calc bM z2 ?_;obtain rfl:m=1:=by lia
  calc hJ _ SG.refl (GZ h1 (λi j q1 q2=>?_) (eh lt1));obtain rfl:i=j:=by lia
  show gI _
def jx:Nat->List (List Keyed)->List (Nat×Nat×Nat)->Prop
 | _,[],[]=>True
 | o,r::rs,p::ps=>p.1=o/\p.2.1=r.length/\jx (o+r.length) rs ps
 | _,_,_=>False
theorem jx.len:∀{rs:List (List Keyed)} {ps:List (Nat×Nat×Nat)} {o:Nat},jx o rs ps->ps.length=rs.length
 | [],[],_,_=>rfl
 | r::rs,p::ps,o,h=>by rw[dA,dA,jx.len h.2.2]
theorem jx.app:∀{F G:List (List Keyed)} {f g:List (Nat×Nat×Nat)} {o:Nat},jx o F f->jx (o+F.flatten.length) G g->jx o (F++G) (f++g)
 | [],G,[],g,o,_,h=>by simpa using h
 | r::F,G,p::f,g,o,h1,h2=>⟨h1.1,h1.2.1,jx.app h1.2.2 (by rw[ed,av]at h2;rw[Nat.add_assoc];show h2)⟩
theorem jx.split:∀{F G:List (List Keyed)} {ps:List (Nat×Nat×Nat)} {o:Nat},jx o (F++G) ps->∃f g,ps=f++g/\f.length=F.length/\jx o F f/\jx (o+F.flatten.length) G g
 | [],G,ps,o,h=>⟨[],ps,rb,rb,trivial,by simpa using h⟩
 | r::F,G,p::ps,o,h=>by let⟨f,g,e,l,h1,h2⟩:=jx.split (F:=F) (G:=G) h.2.2;calc⟨p::f,g,by rw[e];rfl,by simp[l],⟨h.1,h.2.1,h1⟩,?_⟩;rw[ed,av];rw[Nat.add_assoc]at h2;show h2
structure jy (κ:PyProof.Rows.KeyKind)(kn:SortKind)(a0:List Keyed)(st:SortSt)(rs:List (List Keyed))(rest:List Keyed):Prop where
 kind:kindOf st=kn
 fail:failedOf st=none
 keys:KeysOf κ (arrOf st)
 perm:(arrOf st).toList.Perm a0
 arr:(arrOf st).toList=rs.flatten++rest
 pend:jx 0 rs (pendingOf st).toList
 up:∀r∈rs,r.Pairwise (kL κ)
 ne:∀r∈rs,r≠[]
def keys_perm {a b:Array Keyed}(p:a.toList.Perm b.toList)(h:KeysOf κ b):KeysOf κ a:=λx hx=>h x (p.mem_iff.mp hx)
def Dn {a0:List Keyed}{i:Nat}{st:SortSt}{F G:List (List Keyed)}{X Y rest:List Keyed}{Q:Bool->SortSt->Prop}(hO:oA prog w A s κ kn)(R:jy κ kn a0 st (F++X::Y::G) rest)(hi:F.length=i)(h:∀st' Z,jy κ kn a0 st' (F++Z::G) rest->Q true st'):wpS (model prog w) A E s ((sortPriv% PySem.Builtin.mergeAt) i) Q st:=by
 subst hi;let⟨f,g,ep,lf,h1,h2⟩:=R.pend.split;obtain⟨p,q,g',rfl⟩:∃p q g',g=p::q::g':=by
  match g,h2 with| p::q::g',_=>show⟨p,q,g',rb⟩
 let⟨O,pb,pc⟩:=p;let⟨qa,j,qc⟩:=q;let⟨e1,e2,e3,e4,h3⟩:=h2;let e1:O=0+F.flatten.length:=e1;let e2:pb=X.length:=e2;let e3:qa=0+F.flatten.length+X.length:=e3;let e4:j=Y.length:=e4;let h3:jx (0+F.flatten.length+X.length+Y.length) G g':=h3;let nX:0<X.length:=rV.mpr (R.ne X t7);let nY:0<Y.length:=rV.mpr (R.ne Y t7);let D:(pendingOf st)[F.length]?=some (O,pb,pc):=by rw[<-fq,ep,<-lf];simp
 let J:(pendingOf st)[F.length+1]?=some (qa,j,qc):=by rw[<-fq,ep,<-lf,dP t6];simp
 calc VJ (Pl:=F.flatten) (X:=X) (Y:=Y) (Sl:=G.flatten++rest) hO R.kind R.fail R.keys D J (by rw[R.arr];simp) t6 e2.symm e4.symm (by simp_all) (by simp_all) t6 (R.up X t7) (R.up Y t7) λst' Z k1 k2 k3 k4 k5 k6=>?_;let pm:(arrOf st').toList.Perm (arrOf st).toList:=by rw[k4,R.arr];simp only[rX,ed,bd];calc gL _ ?_;rw[<-bd X];show k5.append_right _
 refine h st' Z ⟨k1.trans R.kind,k2,keys_perm pm R.keys,pm.trans R.perm,by rw[k4];simp,?_,λr I=>?_,λr I=>?_⟩
 .let e5:(pendingOf st').toList=f++(O,pb+j,pc)::g':=by
   rw[k3,Array.toList_eraseIdxIfInBounds,sk,ep,<-lf];rw[List.set_append_right _ _ (ai _),me,List.eraseIdx_append_of_length_le t6];simp
  rw[e5];refine jx.app h1 ⟨e1,?_,?_⟩
  .show pb+j=Z.length;rw[k5.length_eq,e2,e4,av]
  .rw[k5.length_eq,av,<-Nat.add_assoc];show h3
 .rcases be.mp I with z|z;.show R.up r (by simp[z])
  .rcases b9.mp z with z|z;.rw[z];show k6
   .show R.up r (by simp[z])
 .rcases be.mp I with z|z;.show R.ne r (by simp[z])
  .rcases b9.mp z with z|z
   .rw[z];intro y;have:=k5.length_eq;rw[y,av]at this;simp at this;simp_all
   .show R.ne r (by simp[z])
def ada {α:Type}{l:List α}(h:2<=l.length):∃F x y,l=F++[x,y]:=by
 calc⟨l.take (l.length-2),l[l.length-2],l[l.length-1],?_⟩;let e1:l.drop (l.length-2)=[l[l.length-2],l[l.length-1]]:=by rw[nH (show l.length-2<l.length by lia),nH (show l.length-2+1<l.length by simp_all +arith),List.drop_eq_nil_of_le (by simp_all +arith)];congr 2;congr 1;lia
 rw[<-e1,cw]
def xY {rs:List (List Keyed)}(h:∀r∈rs,r≠[]):rs.length<=rs.flatten.length:=by
 induction rs with| nil=>simp| cons r rs ih=>have h1:=rV.mpr (h r bX);let h2:=ih λx hx=>h x (bq _ hx);rw[dA,ed,av];lia
def Xk {β α:Type}{J:β->StateT SortSt Sem α}{C:β->SortSt->Prop}{m:StateT SortSt Sem α}{R:α->SortSt->Prop}{st:SortSt}(h1:∀o st',C o st'->wpS (model prog w) A E s (J o) R st')(h2:(∀o st',C o st'->wpS (model prog w) A E s (J o) R st')->wpS (model prog w) A E s m R st):wpS (model prog w) A E s m R st:=h2 h1
theorem jx.congr:∀{rs:List (List Keyed)} {ps j:List (Nat×Nat×Nat)} {o:Nat},jx o rs ps->j.map (λp=>(p.1,p.2.1))=ps.map (λp=>(p.1,p.2.1))->jx o rs j
 | [],[],[],_,_,_=>trivial
 | [],[],_::_,_,_,e=>by simp at e
 | r::rs,p::ps,[],_,_,e=>by simp at e
 | r::rs,p::ps,q::j,o,h,e=>by rw[ce,ce]at e;injection e with e1 e2;injection e1 with e3 e4;show⟨e3.trans h.1,e4.trans h.2.1,jx.congr h.2.2 e2⟩
def jy.len {a0:List Keyed}{st:SortSt}{rs:List (List Keyed)}{rest:List Keyed}(R:jy κ kn a0 st rs rest):rs.flatten.length+rest.length=a0.length:=by rw[<-R.perm.length_eq,R.arr,av]
def jy.size {a0:List Keyed}{st:SortSt}{rs:List (List Keyed)}{rest:List Keyed}(R:jy κ kn a0 st rs rest):(arrOf st).size=a0.length:=by rw[<-R.perm.length_eq,cy]
def jy.seg {a0:List Keyed}{st st':SortSt}{rs:List (List Keyed)}{rest:List Keyed}{n hi:Nat}(R:jy κ kn a0 st rs rest)(g:SG st st' rs.flatten.length hi)(u:oX κ (arrOf st') rs.flatten.length n)(hn:n<=rest.length):∃D O,D.length=n/\D.Pairwise (kL κ)/\jy κ kn a0 st' rs (D++O):=by
 let z:=R.size;let z':=g.size;let ln:=R.len;let e1:(arrOf st').toList.take rs.flatten.length=rs.flatten:=by
  apply List.ext_getElem?;intro t;rcases js t rs.flatten.length with y|y;.rw[ny y,fq,g.out t (.inl y),<-fq,R.arr,eW y]
  .rw[mf (by rw[ay];lia),mf y]
 let pm:(arrOf st').toList.Perm (arrOf st).toList:=my.mp g.perm;calc⟨((arrOf st').toList.drop rs.flatten.length).take n,((arrOf st').toList.drop rs.flatten.length).drop n,?_,?_,⟨g.kind.trans R.kind,g.fail.trans R.fail,keys_perm pm R.keys,pm.trans R.perm,?_,by rw[g.pend];show R.pend,R.up,R.ne⟩⟩;.rw[ay,bv,cy];lia
 .rw[fN];intro i j hi J F;let I:j<n:=by simp at J;lia
  let G:rs.flatten.length+j<(arrOf st').size:=by simp at J;lia
  have:=u i j (am F) I;rw[wK (show rs.flatten.length+i<(arrOf st').size by lia),wK G]at this;show κ.kle _ _;simpa using this
 .rw[cw]
  conv=>lhs;rw[<-cw rs.flatten.length (arrOf st').toList]
  rw[e1]
def afs {c:Prop} [Decidable c] (h1:a+1<n)(h2:b+1<n):(if c then a else b)+1<n:=by split <;> assumption
def Mi {a0:List Keyed}{i:Nat}{st:SortSt}{rs:List (List Keyed)}{rest:List Keyed}{Q:Bool->SortSt->Prop}(O:oA prog w A s κ kn)(R:jy κ kn a0 st rs rest)(hi:i+1<rs.length)(h:∀st' j,jy κ kn a0 st' j rest->j.length+1=rs.length->Q true st'):wpS (model prog w) A E s ((sortPriv% PySem.Builtin.mergeAt) i) Q st:=by
 let e:rs=rs.take i++rs[i]::rs[i+1]::rs.drop (i+2):=by rw[<-nH hi,<-nH (show i<rs.length by lia),cw]
 let F:=R;rw[e]at F;calc Dn O F (by rw[ay];lia) λD Z G=>h D _ G ?_;rw[av,ay,dA,bv];lia
def adb {st:SortSt}{Q:Unit->SortSt->Prop}(hO:oA prog w A s κ kn)(hk:kindOf st=kn)(hf:failedOf st=none)(hp:pendingOf st=#[])(hks:KeysOf κ (arrOf st))(h:∀st',failedOf st'=none->(arrOf st').toList.Perm (arrOf st).toList->(arrOf st').toList.Pairwise (kL κ)->Q () st'):wpS (model prog w) A E s (sortPriv% PySem.Builtin.sortRuns) Q st:=by
 obtain⟨N,hN⟩:∃N,(arrOf st).size=N:=⟨_,rb⟩
 let hl:(arrOf st).toList.length=N:=by rw[cy,hN]
 let R0:jy κ kn (arrOf st).toList st [] (arrOf st).toList:=⟨hk,hf,hks,ip _,t7,by rw[hp];trivial,λr h=>by simp at h,λr h=>by simp at h⟩
 generalize (arrOf st).toList=a0 at hl R0 h;show wpS _ _ _ _ (_ >>= _) _ _;refine aS (n9 ?_)
 try conv=>arg 5;dsimp -zeta only
 rw[hN];refine aS (hV (fz (I:=λ(x:Nat) (c:Option Unit×Nat) (st':SortSt)=>∃rs rest,c=(none,rs.flatten.length)/\jy κ kn a0 st' rs rest/\(x<=rs.flatten.length\/rest=[]))
  (Q:=λ(c:Option Unit×Nat) (st':SortSt)=>∃rs l,c=(none,l)/\jy κ kn a0 st' rs []) ?_ ?_ ⟨[],a0,rb,R0,.inl t7⟩) ?_)
 .intro x c st1 _ hx z;let⟨rs,rest,rfl,R,hpr⟩:=z;let ln:=R.len
  try conv=>arg 5;dsimp -zeta only
  by_cases z:rs.flatten.length>=N
  .calc bV z ?_;obtain rfl:rest=[]:=iS.mp t6;show ba ⟨rs,_,rb,R⟩
  calc bM z ?_;let hxl:x<=rs.flatten.length:=by
   rcases hpr with y|y;.show y
   .rw[y,nl]at ln;lia
  let zs:=R.size;refine aS (abj hO R.kind R.keys (show rs.flatten.length+(N-rs.flatten.length)<=(arrOf st1).size by grind) (gu t6) λst2 m g2 m1 m2 u2=>?_)
  try conv=>arg 5;dsimp -zeta only
  extract_lets -underBinder +onlyGivenNames nn jp
  let qn:nn=m:=rfl;refine Xk (J:=λn:Nat=>jp () n) (C:=λn O=>SG st1 O rs.flatten.length (rs.flatten.length+(N-rs.flatten.length))/\oX κ (arrOf O) rs.flatten.length n/\1<=n/\n<=N-rs.flatten.length) (λn O hc=>?_) (λhJ=>?_)
  .let⟨g3,u3,n1,n2⟩:=hc;let⟨sg,G3,ls,us,R3⟩:=R.seg g3 u3 t6
   try conv=>arg 5;dsimp -zeta only
   refine aS (n9 ?_)
   try conv=>arg 5;dsimp -zeta only
   extract_lets -underBinder +onlyGivenNames jp2
   refine Xk (J:=λ_:Unit=>jp2 ()) (C:=λ_ iU=>∃j,jy κ kn a0 iU j (sg++G3)/\j.flatten.length=rs.flatten.length) (λ_ iU hc=>?_) (λhJ=>?_)
   .let⟨j,D,l4⟩:=hc
    try conv=>arg 5;dsimp -zeta only
    refine aS (re (ba ⟨j++[sg],G3,?_,⟨D.kind,D.fail,D.keys,D.perm,?_,?_,λr hr=>?_,λr hr=>?_⟩,.inl ?_⟩))
    .rw[rX,av];simp[ls,l4]
    .show (arrOf iU).toList=_;rw[D.arr];simp
    .show jx 0 (j++[sg]) ((pendingOf iU).push (rs.flatten.length,n,0)).toList;rw[lI];show jx.app D.pend ⟨by rw[l4];simp,ls.symm,trivial⟩
    .rcases be.mp hr with y|y;.show D.up r y
     .rw[a_.mp y];show us
    .rcases be.mp hr with y|y;.show D.ne r y
     .rw[a_.mp y];intro q;rw[q]at ls;simp at ls;lia
    .rw[rX,av,ed,List.flatten_nil,fk,l4,ls];grind
   .cases hb:(pendingOf O).back? with
    | none=>
     try conv=>arg 5;dsimp -zeta only
     show hJ () O ⟨rs,R3,rb⟩
    | some v=>
     let⟨v1,v2,v3⟩:=v
     try conv=>arg 5;dsimp -zeta only
     refine aS (hV (fz (I:=λ(y:Nat) (c:Option Unit×Unit) (st':SortSt)=>c=(none,())/\∃j,jy κ kn a0 st' j (sg++G3)/\j.flatten.length=rs.flatten.length)
      (Q:=λ(c:Option Unit×Unit) (st':SortSt)=>c=(none,())/\∃j,jy κ kn a0 st' j (sg++G3)/\j.flatten.length=rs.flatten.length) ?_ ?_ ⟨rb,rs,R3,rb⟩) ?_)
     .intro y c iU _ hy z;let⟨rfl,j,D,l4⟩:=z;refine aS (n9 ?_)
      conv=>arg 5;dsimp only
      let lp:(pendingOf iU).size=j.length:=by rw[<-cy];show D.pend.len
      by_cases z4:(pendingOf iU).size > 1
      .rw[if_pos z4];let⟨F,X,Y,rfl⟩:=ada (show 2<=j.length by lia);let lF:(pendingOf iU).size=F.length+2:=by rw[lp];simp
       rw[fm (show (pendingOf iU).size-2<(pendingOf iU).size by simp_all)];generalize (pendingOf iU)[(pendingOf iU).size-2]=v;let⟨v4,v5,v6⟩:=v
       try conv=>arg 5;dsimp -zeta only
       by_cases z5:v6<=(sortPriv% PySem.Builtin.power) N (2*v1+v2) (2*v1+v2+v2+n) N
       .calc bV z5 ?_;show ba ⟨rb,_,D,l4⟩
       .calc bM z5 ?_;calc aS (Dn hO (F:=F) (G:=[]) D (show F.length=(pendingOf iU).size-2 by simp_all) λRg Z R5=>?_);calc bM t7 ?_;let l5:=R5.len;let l6:=D.len;show ba ⟨rb,_,R5,t6⟩
      .rw[if_neg z4]
       try conv=>arg 5;dsimp -zeta only
       show ba ⟨rb,_,D,l4⟩
     .rintro c iU hc;show hc
     .intro c iU z;let⟨rfl,j,D,l4⟩:=z
      try conv=>arg 5;dsimp -zeta only
      calc aS (re ?_);calc hJ () _ ⟨j,⟨D.kind,D.fail,D.keys,D.perm,D.arr,?_,D.up,D.ne⟩,l4⟩;calc D.pend.congr ?_;apply List.ext_getElem?;intro t;rw[cz,cz,fq,fq];show Option.map _ ((pendingOf iU).modify _ _)[t]?=_;rw[Array.getElem?_modify];split
      .cases(pendingOf iU)[t]? <;> rfl
      .rfl
  .by_cases z2:m<(sortPriv% PySem.Builtin.minRun) N N 0
   .calc bV z2 ?_;refine aS (wpS_lift (ja ⟨rb,?_⟩))
    try conv=>arg 5;dsimp -zeta only
    let z2':=g2.size;calc aS (Zk hO (g2.kind.trans R.kind) (g2.keys R.keys) (by grind) (by grind) u2 λO g3 u3=>?_);refine bM t7 ?_
    try conv=>arg 5;dsimp -zeta only
    refine hJ _ O ⟨⟨g3.kind.trans g2.kind,g3.fail.trans g2.fail,g3.pend.trans g2.pend,g3.perm.trans g2.perm,λt ht=>(g3.out t (by grind)).trans (g2.out t ht)⟩,u3,by calc bS (by assumption) ?_;lia,Nat.min_le_left _ _⟩
   .calc bM z2 ?_;show hJ m st2 ⟨g2,u2,m1,m2⟩
 .intro c st1 z;let⟨rs,rest,rfl,R,hpr⟩:=z;let ln:=R.len;obtain rfl:rest=[]:=by
   rcases hpr with y|y;.show iS.mp t6
   .show y
  show⟨rs,_,rb,R⟩
 .intro c st1 z;let⟨rs,l,rfl,R⟩:=z
  try conv=>arg 5;dsimp -zeta only
  let ln:=R.len;rw[nl]at ln;let lr:=xY R.ne;refine aS (hV (fz (I:=λ(x:Nat) (c:Option Unit×Unit) (st':SortSt)=>c=(none,())/\∃j,jy κ kn a0 st' j []/\(j.length+x<=N\/j.length<=1))
   (Q:=λ(c:Option Unit×Unit) (st':SortSt)=>c=(none,())/\∃j,jy κ kn a0 st' j []/\j.length<=1) ?_ ?_ ⟨rb,rs,R,.inl (by simp_all)⟩) ?_)
  .intro x c st2 _ hx z;let⟨rfl,j,R2,h2⟩:=z
   try conv=>arg 5;dsimp -zeta only
   refine aS (n9 ?_)
   try conv=>arg 5;dsimp -zeta only
   let lp:(pendingOf st2).size=j.length:=by rw[<-cy];show R2.pend.len
   by_cases z:(pendingOf st2).size<=1
   .calc bV z ?_;show ba ⟨rb,j,R2,t6⟩
   refine bM z ?_
   try conv=>arg 5;dsimp -zeta only
   let lp':(pendingOf st2).size-2+1<j.length:=by simp_all +arith
   calc aS (Mi hO R2 ?_ λO rs3 R3 l3=>?_);.show afs (show (pendingOf st2).size-2-1+1<j.length by lia) lp'
   .calc bM t7 ?_;show ba ⟨rb,_,R3,t6⟩
  .intro c st2 z;let⟨rfl,j,R2,h2⟩:=z;show⟨rb,j,R2,t6⟩
  .intro c st2 z;let⟨rfl,j,R2,h2⟩:=z;calc ba (h _ R2.fail R2.perm ?_);rw[R2.arr,fk]
   match j,h2,R2.up with| [],_,_=>show List.Pairwise.nil| [r],_,u=>simpa using u r t7
def VL {κ:PyProof.Rows.KeyKind}(hO:κ.OneLt){vs:List Value}(Y:s.heap.get? a=some (seqObj "list" vs.toArray n))(h0:KeysOf κ (pairsOf vs))(hkk:∀G F rest,vs=G::F::rest->keyKind' (G::F::rest).toArray=pure oneType')(hz:vs.length<=1000)(h:∀st':SortSt,(arrOf st').Perm (pairsOf vs)->SortedToK κ (arrOf st') (pairsOf vs).size->P (.done (.ret .none)) {s with heap:=sortedHeap s.heap a vs ((arrOf st').map (·.2))}):wpAny (model prog w) A (Builtin.«list.sort» ⟨[.ref a],[]⟩) P E s:=by
 by_cases D:vs.length<64;.show list_sort_treeK hO Y h0 hkk D h
 let ha:a<s.heap.objs.size:=aI Y;let J:vs.length<=sizeLine:=am (aJ hz);rw[list_sort_plain];calc af (listItems_at Y rb (af (listUpdate_at Y rb ?_ (by rw[bE];show J) (eD _))));obtain⟨e1,O⟩:∃e1,(s.heap.update a (Obj.mapSeq λ_=>#[])).get? a=some (seqObj "list" #[] e1):=⟨_,get?_update_seq Y (λ_=>#[])⟩
 calc af (seqEpoch_at O rb (af (wpAny_newTuple (af (wpAny_newList (ib ?_) (eD _))) (by show vs.length<=_;show J))));let ho6:(((s.heap.update a (Obj.mapSeq λ_=>#[])).push (seqObj "tuple" vs.toArray 0)).push (seqObj "list" #[] 0)).get? a=some (seqObj "list" #[] e1):=by rw[Heap.get?_push_ne _ _ _ (by rw[size_push',Heap.size_update];show cf (iN ha)),Heap.get?_push_ne _ _ _ (by rw[Heap.size_update];show cf ha)];show O
 show wpAny (model prog w) A _ P E {s with heap:=((s.heap.update a (Obj.mapSeq λ_=>#[])).push (seqObj "tuple" vs.toArray 0)).push (seqObj "list" #[] 0)};dsimp only;let h2:¬vs.toArray.size<2:=by rw[bE];lia
 rw[if_neg h2,if_neg h2];obtain⟨G,F,rest,rfl⟩:∃G F rest,vs=G::F::rest:=by
  match vs,D with| [],D=>simp at D| [_],D=>simp at D| G::F::rest,_=>show⟨G,F,rest,rb⟩
 rw[hkk _ _ _ rfl];calc af (ax ?_);refine af (fA (adb (κ:=κ) (kn:=oneType') (oA.one hO) (st:=SortSt.mk' oneType' ((G::F::rest).toArray.zip (G::F::rest).toArray) #[] 7 none)
  (Q:=λ_ st'=>failedOf st'=none/\(arrOf st').toList.Perm (pairsOf (G::F::rest)).toList/\(arrOf st').toList.Pairwise (kL κ)) rb rb rb h0 λst' a1 a2 a3=>⟨a1,a2,a3⟩) ?_ λ_ _ e=>e)
 rintro⟨⟨⟩,st'⟩ s' ⟨rfl,hf,hp,hs⟩;let I:(arrOf st').Perm (pairsOf (G::F::rest)):=my.mpr hp;dsimp only;refine af (seqEpoch_at ho6 rb (af (listUpdate_at ho6 rb ?_ (eD _) (ly ?_))))
 .rw[hf];simp only[bne_self_eq_false,gr,if_false];calc ax (h st' I λi j Z hj=>?_);rw[<-I.size_eq]at hj;rw[wK hj,wK (show i<(arrOf st').size from gp Z hj)];show qp hs Z hj
 .show bS (iq ((Array.size_map ..).trans (I.size_eq.trans (pairsOf_size _)))) J
def VN (G:wpAny (model prog w) A.in1 (collect v) (λvs s1=>∃I,StrsAre vs I/\vs.length<=1000/\
   ∀(h':Heap) (F:List Value) (j:List Str) (e:Nat),(∀b o,s1.heap.get? b=some o->h'.get? b=some o)->h'.get? s1.heap.objs.size=some (seqObj "list" F.toArray e)->StrsAre F j->j.Perm I->sortedS j=true->
    Q (.ref s1.heap.objs.size) {s1 with heap:=h' }) E s):wpAny (model prog w) A (call (.builtin "sorted") [v]) Q E s:=by
 calc Calls.call_function_entry kind_sorted plain_sorted entry_sorted (args_sorted1 _) ?_;unfold Builtin.«sorted»;calc af (m:=checkCount "sorted" 1 1 _) (ax ?_);calc af (cD G λvs s1 ⟨I,J,hz,h⟩=>?_);calc af (wpAny_newList ?_ (am (aJ hz)));let D:(s1.heap.push (seqObj "list" vs.toArray 0)).get? s1.heap.objs.size=some (seqObj "list" vs.toArray 0):=bo _ rfl;refine af (ib (ij slot_list_sort (s:={s1 with heap:=s1.heap.push (seqObj "list" vs.toArray 0)}) ⟨_,D,rb⟩ entry_list_sort
  (VL (s:={s1 with heap:=s1.heap.push (seqObj "list" vs.toArray 0)}) strKind_oneLt D J.keysOf (λZ Y rest e=>keyKind_strs (by rw[<-e];show J)) hz λst' hp hs=>⟨_,rb,?_⟩) (args_list_sort _)))
 let⟨j,h1,h2,h3⟩:=sorted_out_str J hp hs;let⟨e,O⟩:=sortedHeap_at (vs:=vs) (out:=(arrOf st').map (·.2)) D;calc ax ⟨_,rb,h _ ((arrOf st').map (·.2)).toList j e (λb o z=>?_) (by rw[qB];show O) h1 h2 h3⟩;let hb:b<s1.heap.objs.size:=aI z;rw[sortedHeap_old (cf hb) (by rw[fw];show iN hb)];show ag _ z
end
end L2
namespace L2
open PySem PySem.Spec PyProof.Rows PySem.W
mutual
inductive uo (K:W.Frag) (H:Hp):Nat->PyData->V->Prop
 | non {n}:uo K H n .none .non
 | bl {n} (b:Bool):uo K H n (.bool b) (.bl b)
 | int {n} (i:Int):uo K H n (.int i) (.int i)
 | str {n} (l:List Nat) (h:∀c∈l,c<128):uo K H n (.str (S l)) (.str (S l))
 | tup {n a ds xs} (h:aU K H a xs) (hs:sS K H n ds xs):uo K H (n+1) (.tuple ds) (.ref a)
inductive sS (K:W.Frag) (H:Hp):Nat->List PyData->List V->Prop
 | nil {n}:sS K H n [] []
 | cons {n d ds x xs} (h:uo K H n d x) (hs:sS K H n ds xs):sS K H n (d::ds) (x::xs)
end
mutual
theorem uo.lay {K:W.Frag}:∀{n:Nat} {d:PyData} {x:V},uo K H n d x->d.canLay0=true/\d.depth<=n/\PyData.eqv d d=true
 | _,_,_,.non=>by simp[PyData.canLay0,PyData.depth,PyData.eqv]
 | _,_,_,.bl _=>by simp[PyData.canLay0,PyData.depth,PyData.eqv]
 | _,_,_,.int _=>by simp[PyData.canLay0,PyData.depth,PyData.eqv]
 | _,_,_,.str l h=>by simp only[PyData.canLay0,PyData.depth,PyData.eqv];show⟨W7 h,eD _,t7⟩
 | _,_,_,.tup _ hs=>by simp only[PyData.canLay0,PyData.depth,PyData.eqv];have:=hs.lay;show⟨this.1,iX this.2.1,this.2.2⟩
theorem sS.lay {K:W.Frag}:∀{n:Nat} {ds:List PyData} {xs:List V},sS K H n ds xs->PyData.canLayAll0 ds=true/\PyData.depthAll ds<=n/\PyData.eqvAll ds ds=true
 | _,_,_,.nil=>by simp[PyData.canLayAll0,PyData.depthAll,PyData.eqvAll]
 | _,_,_,.cons h hs=>by let a:=h.lay;let b:=hs.lay;simp only[PyData.canLayAll0,PyData.depthAll,PyData.eqvAll,cn];show⟨⟨a.1,b.1⟩,Nat.max_le.mpr ⟨a.2.1,b.2.1⟩,a.2.2,b.2.2⟩
end
mutual
theorem uo.Ah {K:W.Frag}(st:∀a xs,aU K H a xs->aU K H' a xs):∀{n:Nat} {d:PyData} {x:V},uo K H n d x->uo K H' n d x
 | _,_,_,.non=>.non
 | _,_,_,.bl b=>.bl b
 | _,_,_,.int i=>.int i
 | _,_,_,.str l h=>.str l h
 | _,_,_,.tup h hs=>.tup (st _ _ h) (hs.Ah st)
theorem sS.Ah {K:W.Frag}(st:∀a xs,aU K H a xs->aU K H' a xs):∀{n:Nat} {ds:List PyData} {xs:List V},sS K H n ds xs->sS K H' n ds xs
 | _,_,_,.nil=>.nil
 | _,_,_,.cons h hs=>.cons (h.Ah st) (hs.Ah st)
end
section
variable {X:Cx}
mutual
theorem uo.reads {ak:AE}{σ:St}{H:Hp}{s:Shared}(I:aP X ak σ H s):∀{n:Nat} {d:PyData} {x:V} {u:Value},uo X.K H n d x->cH x u->∃as,Reads s.heap u d as
 | _,_,_,u,.non,r=>by cases r;show⟨[],.none⟩
 | _,_,_,u,.bl b,r=>by cases r;show⟨[],.bool b⟩
 | _,_,_,u,.int i,r=>by let⟨t,rfl⟩:=r;show⟨[],.int i t⟩
 | _,_,_,u,.str l h,r=>by let⟨t,rfl⟩:=r;show⟨[],.str _ t⟩
 | _,_,_,u,.tup h hs,r=>by cases r;let⟨its,D,pl,_⟩:=I.tuple h;let⟨as,G⟩:=hs.reads I D;let⟨o,j,F,n,hd⟩:=pl;show⟨as,.tuple j F hd (by simpa using G)⟩
theorem sS.reads {ak:AE}{σ:St}{H:Hp}{s:Shared}(I:aP X ak σ H s):∀{n:Nat} {ds:List PyData} {xs:List V} {us:List Value},sS X.K H n ds xs->Vals xs us->∃as,ReadsAll s.heap us ds as
 | _,_,_,us,.nil,r=>by cases r;show⟨[],.nil⟩
 | _,_,_,us,.cons h hs,r=>by
  cases r with| cons q t=>let⟨as,a⟩:=h.reads I q;let⟨bs,b⟩:=hs.reads I t;show⟨as++bs,.cons a b⟩
end
end
end L2
namespace L2
open PySem PySem.Spec PyProof.Rows
section
variable {X:Cx}{ak:AE}{σ:St}{H:Hp}{s:Shared}
def ahW (X:Cx)(s:Shared)(x:Str)(u:Value):Prop:=∃m,s.heap.Ns X.env.locals m/\Look X.env s.heap m x u
def ade {E:AD}{x:Str}{u:Value}{pos:Pos}{Q:AD}(I:aP X ak σ H s)(h:ahW X s x u)(q:Q u s)(hd:(x==("__debug__":Str))=false:=by decide)(F:(x==("__classdict__":Str))=false:=by decide):wpAny (model X.prog X.w) X.A (eval (.Name x pos) X.env) Q E s:=by
 let⟨m,hn,l⟩:=h;rcases l with⟨D,hm⟩|⟨D,c,G,j⟩;.show qi (wpAny_loadName_local I.ok.kind D hn hm q) hd
 .rcases D with D|D;.show qi (wpAny_loadName_cell I.ok.kind D G j q) hd
  .show qi (wpAny_loadName_free I.ok.kind D G j q F) hd
end
end L2
namespace L2
open PySem PySem.Spec PyProof.Rows PySem.Builtin PySem.Builtin.Str
def Mj (x y z:Str)(t u v:Tok)(h0:(u==0||v==0)=false)(D:(y==z)=false)(hl:tooLong (x.length+(occurrences x y 0 x.length (x.length+1)).length*z.length)=false):Gives («str.replace» ⟨[.str x t,.str y u,.str z v],[]⟩) (if (((occurrences x y 0 x.length (x.length+1)).isEmpty||(y.length==0&&z.length==0))||u==v)=true then .val (.str x t) else .str (glued z (partsBetween x (occurrences x y 0 x.length (x.length+1)) y.length))):=by
 show Gives (if ((occurrences x y 0 x.length (x.length+1)).isEmpty||(y.length==0&&z.length==0))=true then (rule "str.replace.nothing" >>= λ_=>ret (.str x t)) else
     (isSame (.str y u) (.str z v) >>= λsame=>if same=true then (rule "str.replace.old-is-new" >>= λ_=>ret (.str x t)) else if tooLong (x.length+(occurrences x y 0 x.length (x.length+1)).length*z.length)=true then unsupported "str.replace:memory" else retStr (glued z (partsBetween x (occurrences x y 0 x.length (x.length+1)) y.length)))) _
 cases F:((occurrences x y 0 x.length (x.length+1)).isEmpty||(y.length==0&&z.length==0))
 .cases j:(u==v)
  .rw[isSame_str_other y z u v h0 j D,hl];show .of_eq rfl
  .let e:isSame (.str y u) (.str z v)=pure true:=by
    show isSame.created (y==z) u v=_;unfold isSame.created;rw[h0,j];rfl
   rw[e];show .rule (.of_eq rb)
 .show .rule (.of_eq rb)
def pI (c:Nat):Nat:=if 65<=c/\c<=90 then 63 else c
theorem Xl:∀j:List Str,(Str.join ⟨#[65]⟩ j).cps.toList.map pI=(Str.join ⟨#[63]⟩ j).cps.toList.map pI
 | []=>rfl
 | [a]=>rfl
 | a::b::r=>by let D:=Xl (b::r);show ((a++⟨#[65]⟩++Str.join ⟨#[65]⟩ (b::r)).cps.toList).map pI=((a++⟨#[63]⟩++Str.join ⟨#[63]⟩ (b::r)).cps.toList).map pI;simp only[Str.cps_append,ft,cq,D];rfl
def aft (l:List Nat)(n:Nat):((glued (S [65]) (partsBetween (S l) (occurrences (S l) (S [63]) 0 (S l).length n) (S [63]).length)).cps.toList).map pI=l.map pI:=by let e:=StrLaws.glued_between_self (S l) (S [63]) n;rw[StrLaws.glued_eq_join]at e ⊢;have:=Xl (partsBetween (S l) (occurrences (S l) (S [63]) 0 (S l).length n) (S [63]).length);rw[show (⟨#[65]⟩:Str)=S [65] from rb,show (⟨#[63]⟩:Str)=S [63] from rb,e]at this;show this
section
variable {X:Cx}
def PEt (X:Cx)(e:Expr)(t:TE):Prop:=∀(ak:AE) (s:Shared) (σ:St) (H:Hp) (Q:VK),aP X ak σ H s->t σ H Q->wpAny (model X.prog X.w) X.A (eval e X.env) (λu s'=>EP X ak σ Q u s'/\0<s'.toks) X.xe s
def afu {e:Expr}{ta:TE}{f:Str}{pos:Pos}(F:PE X e ta)(hb:attributeBase e f X.env (eval e X.env)=eval e X.env):PEt X (.Attribute e f pos) (YS X.K ta f):=by intro ak s σ H Q I h;calc WM hb (cD (F ak s σ H _ I h) λu s1 Z=>?_);let⟨x,H1,j,G,a,C,dx,fs,v,ex,Y,c,n,l,q⟩:=Z;subst ex;obtain rfl:u=Value.ref a:=G;let⟨mA,O,r,_,_,_⟩:=z_ j.hok Y;let⟨u,J,D⟩:=ni.some_of (v:=v) (o:=mA f) (by rw[<-l];show r f);show get_map j.jC O (c.get f) c.hd n J (Od D) ⟨⟨v,H1,j.tok _,D,q⟩,Nat.succ_pos _⟩
def ahX {a b:Expr}{ta tb:TE}{pos:Pos}{r:R2}(Y:JM X r)(ha:PEt X a ta)(hb:PE X b tb)(hs:GD b):PEt X (.Subscript a b pos) (Ht r ta tb):=by intro ak s σ H Q I h;calc Subscript_ (cD (ha ak s σ H _ I h) λv s1 z=>?_);obtain⟨⟨x,H1,G,r1,q1⟩,O⟩:=z;calc Q9 (fA (hb ak s1 σ H1 _ G q1) (λu s2 z ht=>?_) λ_ _ z _=>z);let⟨y,J,D,F,q2⟩:=z;show Q9 (fA (Y a b ak s2 σ J x y v u Q D r1 F q2 (hs _ _)) (λw Z z j=>⟨z,cv O (bS ht j)⟩) λ_ _ z _=>z)
def ahY (ix:Nat):TE:=λσ H Q=>∃l:List Nat,σ[ix]?=some (some (.str (S l)))/\l.length<=63/\∀j:List Nat,j.map pI=l.map pI->Q (.str (S j)) H
def ahZ {e1:Expr}{t1:TE}{x g:Str}{ix:Nat}{px pg apos cpos G:Pos}{j:Nat}{z:Str}(h1:PEt X e1 t1)(hN:X.N[ix]?=some x)(hv:Wx X.env.scope x)(hg:Gl X g)(hm:∃t,t≠0/\X.mg g=some (.str (S [63]) t))(hz:z=S [65])(hst:starEach [e1,.Call (.Attribute (.Name x px) "replace" apos) [.Name g pg,.Constant (.str z) j G] [] cpos] X.env=[(false,eval e1 X.env),(false,eval (.Call (.Attribute (.Name x px) "replace" apos) [.Name g pg,.Constant (.str z) j G] [] cpos) X.env)])(O:((backTo cpos (starEach [.Name g pg,.Constant (.str z) j G] X.env)).all (λx=>!x.1)&&(backToKw cpos (keywordEach [] X.env)).all (λx=>x.1.isSome)&&decide ([Expr.Name g pg,.Constant (.str z) j G].length+([]:List Keyword).length+(if ([]:List Keyword).isEmpty then 0 else 1)<30))=true)(D:(apos.endLine==cpos.line)=true)(hd:(x==("__debug__":Str))=false)(hcd:(x==("__classdict__":Str))=false)(hgd:(g==("__debug__":Str))=false):PA X [e1,.Call (.Attribute (.Name x px) "replace" apos) [.Name g pg,.Constant (.str z) j G] [] cpos] (Bm t1 (Bm (ahY ix) Ih)):=by
 subst hz;let⟨tB,hB,hm⟩:=hm;intro pos ak s σ H Q I h;rw[hst];show wpAny _ _ (spliced ((false,eval e1 X.env)::(false,eval _ X.env)::[])) _ _ s;calc gm (cD (h1 ak s σ H _ I h) λu s1 y=>?_);obtain⟨⟨x1,H1,Z,r1,l,hl,h63,q⟩,tk⟩:=y;let⟨m,hn,hlm⟩:=id Z.loc;obtain⟨ur,⟨tr,er⟩,lr⟩:=hlm ix x _ hN hl hv;subst er;let exr:ahW X s1 x (.str (S l) tr):=⟨m,hn,lr⟩
 calc gm (wpAny_Call_method_late rb O D rb (ade Z exr ?_ hd hcd));calc⟨"str","str.replace",bz,PySem.F.slot_str_replace,PySem.F.type_str_replace,typeIs_str s1 _ tr,λ_ e=>(nomatch e),?_⟩;calc i9 rb (kz ?_);show wpAny _ _ (spliced ((false,eval (.Name g pg) X.env)::(false,eval (.Constant (.str (S [65])) j G) X.env)::[])) _ _ _;calc gm (qg Z hg hm (gm (Calls.Constant_str (ko ?_))) hgd);let cU:=StrLaws.occ_length_le (S l) (S [63]) 0 (S l).length ((S l).length+1);let hsl:(S l).length=l.length:=sJ l;let JQ:tooLong ((S l).length+(occurrences (S l) (S [63]) 0 (S l).length ((S l).length+1)).length*(S [65]).length)=false:=by unfold tooLong sizeLine;rw[show (S [65]).length=1 from rfl];show ah t6
 refine call_gives F.slot_str_replace (typeIs_str _ _ tr) F.entry_str_replace (F.args_str_replace_3 _ _ _) (Mj (S l) (S [63]) (S [65]) tr tB s1.toks ?_ rb JQ) ?_
 .have:s1.toks≠0:=kM tk;simp[*]
 let Y:∀(J:List Nat) (t':Tok) (k:Nat),J.map pI=l.map pI->AP X ak σ Q [u,.str (S J) t'] {s1 with toks:=k}:=λJ t' k e=>⟨[x1,.str (S J)],H1,Z.tok _,.cons r1 (.cons ⟨_,rb⟩ .nil),q J e⟩
 split;.show ko (Y l _ _ rb)
 .calc⟨?_,ko ?_⟩;.show fits_replaced (S [63]) (by rw[hsl,show (S [65]).length=1 from rfl];lia)
  .show Y _ _ _ (aft l _)
end
structure QEt (X:Cx)(e:Expr)(t:TE):Prop where
 out:PEt X e t
end L2
namespace L2
open PySem PySem.Spec PyProof.Rows
section
variable {X:Cx}
def afv {e:Expr}{ta:TE}{f:Str}{pos:Pos}(j:QE X e ta)(hb:attributeBase e f X.env (eval e X.env)=eval e X.env):QEt X (.Attribute e f pos) (YS X.K ta f):=⟨afu j.out hb⟩
def ah0 {a b:Expr}{ta tb:TE}{pos:Pos}{r:R2}(j:JM X r)(ha:QEt X a ta)(hb:QE X b tb)(hs:GD b):QEt X (.Subscript a b pos) (Ht r ta tb):=⟨ahX j ha.out hb.out hs⟩
def ah1 {e1:Expr}{Z:TE}{x g:Str}(ix:Nat){O pg apos cpos F:Pos}{j:Nat}{z:Str}(h1:QEt X e1 Z)(hm:∃t,t≠0/\X.mg g=some (.str (S [63]) t))(hN:X.N[ix]?=some x)(hv:Wx X.env.scope x)(hg:Gl X g)(hz:z=S [65])(I:starEach [e1,.Call (.Attribute (.Name x O) "replace" apos) [.Name g pg,.Constant (.str z) j F] [] cpos] X.env=[(false,eval e1 X.env),(false,eval (.Call (.Attribute (.Name x O) "replace" apos) [.Name g pg,.Constant (.str z) j F] [] cpos) X.env)])(G:((backTo cpos (starEach [.Name g pg,.Constant (.str z) j F] X.env)).all (λx=>!x.1)&&(backToKw cpos (keywordEach [] X.env)).all (λx=>x.1.isSome)&&decide ([Expr.Name g pg,.Constant (.str z) j F].length+([]:List Keyword).length+(if ([]:List Keyword).isEmpty then 0 else 1)<30))=true)(D:(apos.endLine==cpos.line)=true)(hd:(x==("__debug__":Str))=false:=by decide)(Y:(x==("__classdict__":Str))=false:=by decide)(J:(g==("__debug__":Str))=false:=by decide):QA X [e1,.Call (.Attribute (.Name x O) "replace" apos) [.Name g pg,.Constant (.str z) j F] [] cpos] (Bm Z (Bm (ahY ix) Ih)):=⟨ahZ h1.out hN hv hg hm hz I G D hd Y J⟩
end
end L2
namespace L2
open PySem PySem.Spec PyProof.Rows PySem.W
def Zm (l)(j:Array Value)(n)(dd)(sl)(u:Tok)(h0:¬j.isEmpty=true):Meets (Builtin.«tuple.__mul__» ⟨[.ref l,.int 1 u],[]⟩) (λ_ R s=>s.heap.get? l=some {cls:=.type "tuple",dict:=dd,data:=.seq j n,slots:=sl}/\R (.ok (.ret (.ref l))) s):=
 .of_wp λprog w A R s h=>by
  let⟨hp,g,d,tk,os⟩:=s;let⟨hl,h⟩:=h;let f1:=AutoSeq1.idx_int;let f2:=AutoSeq1.sub_tuple_tuple
  wp_walk using lh hl
  show⟨_,rb,h⟩
section
variable {X:Cx}
def ajr (K:W.Frag):R2:=λx y H Q=>∃a xs,∃n:Nat,x=.ref a/\y=.int n/\H a=some (.tup xs)/\xs≠[]/\1<=n/\n<=100/\xs.length<=100/\∀p H',aD H H'->H' p=some (.tup (List.replicate n xs).flatten)->Q (.ref p) H'
def Xm:gJ X (binaryOp .Mult) (ajr X.K):=by
 intro ak s σ H x y v u Q I F J h;let⟨a,xs,n,rfl,rfl,ha,hx,n1,D,Z,q⟩:=h;by_cases h2:2<=n;.show afl ak s σ H _ _ v u Q I F J ⟨a,xs,n,rb,rb,aU.of ha,hx,h2,D,Z,λp hp=>q p _ (aD.upd hp) au⟩
 .let e:n=1:=t6;subst e;cases F;let⟨tk,rfl⟩:=J;let⟨its,r1,p1,_⟩:=I.tuple (aU.of ha);obtain⟨⟨cls,dd,data,sl⟩,j,G,m,hd⟩:=id p1;simp only at G hd;subst G hd;let h0:¬its.toArray.isEmpty=true:=λz=>hx (r1.Aa.mp (by simpa using z));refine mT (T:="tuple") (U:="int") t9 ⟨_,j,rb⟩ (λs'=>typeIs_int s' _ _) xV PySem.F.fills_int_mul ma Ed PySem.F.slot_int_index.lookup
   (call_meets ma (typeIs_int s _ _) PySem.F.entry_int_rmul (PySem.F.args_int_rmul_2 _ _) (J7 _ _ a its.toArray m dd sl) ⟨j,rb,⟨_,j,rb⟩,?_⟩)
  calc call_meets lx ⟨_,j,rb⟩ PySem.F.entry_tuple_mul (PySem.F.args_tuple_mul_2 _ _) (Zm a its.toArray m dd sl _ h0) ⟨j,?_⟩;show⟨.ref a,H,I,rb,q a H (aD.refl _) (by simpa using ha)⟩
end
def ajs (K:W.Frag)(C:Addr)(tb:XK->St->TS)(th:TS):TS:=λD σ H=>∃E:XK,tb E σ D σ H/\∀(a:Addr) (cls:Value) (dd:Option Addr) (H':Hp),E cls dd H'->H' a=none->
 exmOne K cls (.ref C)=some true/\th D σ (upd H' a (.ext (ahO a cls dd)))
section
variable {X:Cx}{C:Addr}{x:Str}{np hpos pos:Pos}{body suite:List Stmt}{b0:Stmt}{tb:XK->St->TS}{th:TS}
def afw (j:X.stack=X.env::X.outer)(hf:X.env.frame=some X.env.locals)(hg:Gl X x)(hm:X.mg x=some (.ref C))(hb:∀(pn:AE) (xe:AD) (E:XK) (σ0:St),PassesOwn (model X.prog X.w) X.A X.env xe->Ac (Ec X.prog X.w) (X.tried pn xe) E (·=σ0)->yK (X.tried pn xe) body (tb E σ0))(hh:∀a,yK (X.held a) (b0::suite) th)(hdb:(x==("__debug__":Str))=false:=by decide):QS X (.Try body [.ExceptHandler (some (.Name x np)) none (b0::suite) hpos] [] [] pos) (ajs X.K C tb th):=⟨by
 intro ak s σ H D I h;let⟨E,F,O⟩:=h;let hp:PassesOwn (model X.prog X.w) X.A X.env (λe s₁=>wpAny (model X.prog X.w) X.A (noteFrame e X.env) (λ_ s₂=>wpAny (model X.prog X.w) X.A (setFlight e none) (λ_ s₃=>wpAny (model X.prog X.w) X.A (handleBy e X.env [.ExceptHandler (some (.Name x np)) none (b0::suite) hpos]) (SP X ak D) X.xe s₃) X.xe s₂) X.xe s₁):=PassesOwn.looking;let hP:Ac (Ec X.prog X.w) (X.tried (X.pn++ak) (λe s₁=>wpAny (model X.prog X.w) X.A (noteFrame e X.env) (λ_ s₂=>wpAny (model X.prog X.w) X.A (setFlight e none) (λ_ s₃=>wpAny (model X.prog X.w) X.A (handleBy e X.env [.ExceptHandler (some (.Name x np)) none (b0::suite) hpos]) (SP X ak D) X.xe s₃) X.xe s₂) X.xe s₁)) E (·=σ):=by
  intro JF σ' H1 s1 e s2 I1 Y hq;let⟨a,cls,dd,H',B,ea,ex,q⟩:=hq;subst ea;let J:=I1.uh;let Y:σ'=σ:=Y;subst Y;let fl:xT B (X.env::X.outer) a cls dd .none s2.heap:=by rw[<-j];show ex.fly
  let Z:X.A.frames=some (X.env::X.outer):=by rw[<-j];show J.ok.frames
  let⟨hmt,hsu⟩:=O a cls dd H' q ex.na;calc W_ Z hf fl λh1 y1 k1=>wI y1 λh2 y2 k2=>?_;let I2:=J.caught ex (by rw[j];show y2) (k1.trans k2);calc wpAny_handleBy_cons (codeAny_handlers_test (qg (X:=X.held a) (I2.held a) hg hm ?_ hdb)) (by intro q;cases q);let LT:Looks (model X.prog X.w) h2 (typeOf (.ref a)) cls:=by let⟨oe,_,_,_,_,he,hc,_⟩:=y2.tr;show hc ▸ (Looks.ld he).andThen .now
  calc(exm_one (K:=X.K) I2.jC LT hmt).here ?_;calc codeAny_handlers_suite (wI y2 λh3 y3 k3=>?_);let I3:=J.caught ex (by rw[j];show y3) ((k1.trans k2).trans k3);calc fA ((hh a).out ak _ _ _ D (I3.held a) hsu) (λf s5 hs=>?_) λ_ _ z=>z.elim;cases f with
  | next=>let⟨σ5,H5,G,q5⟩:=hs;show⟨_,_,G.J6 J.ok,q5⟩
  | brk=>let⟨σ5,H5,G,q5⟩:=hs;show⟨_,_,G.J6 J.ok,q5⟩
  | cont=>let⟨σ5,H5,G,q5⟩:=hs;show⟨_,_,G.J6 J.ok,q5⟩
  | ret u=>let⟨v,σ5,H5,G,r5,q5⟩:=hs;show⟨v,_,_,G.J6 J.ok,r5,q5⟩
 calc wpAny_Try_except (fA ((hb _ _ E σ hp hP).out [] s σ H D (I.tried _) F) (λf s1 hs=>?_) λe s1 z=>z);let hs:=hs.uh;cases f with
 | next=>let⟨σ',H',I',q⟩:=hs;show(bR (X:=X)).out ak s1 σ' H' D I' q
 | brk=>show hs
 | cont=>show hs
 | ret u=>show hs⟩
end
section
variable {X:Cx}
def abk (hc:X.calm=true):iV X (.builtin "min") (λxs H Q=>∃(p:Addr) (ns:List Int),xs=[.ref p]/\aU X.K H p (ns.map V.int)/\0<ns.length/\∀m∈ns,(∀x∈ns,m<=x)->Q (.int m) H):=by
 intro ak s σ H xs us Q I r h;let⟨p,ns,rfl,hq,h0,q⟩:=h;let⟨u,rfl,G⟩:=vals1 r;cases G;let⟨its,Y,pl,hz⟩:=I.tuple hq;let Z:=Y.length;rw[aa]at Z;let J:p≠s.heap.objs.size:=by let⟨o,F,_⟩:=pl;show cf (aI F)
 let hb:∀(i:Nat) (v:Value),its.toArray[i]?=some v->∃t,v=.int (ns.getD i 0) t:=λi v D=>by
  let D:its[i]?=some v:=by simpa using D
  let hi:i<ns.length:=by have:=(al.mp D).1;lia
  let⟨u,O,G⟩:=Y.get (i:=i) (x:=.int ns[i]) (by simp[hi]);rw[D]at O;cases O;let⟨t,e⟩:=G;show⟨t,by rw[e];simp[List.getD,hi]⟩
 calc call_min_walk (wpAny_pyIter_tuple (show s.heap.IsTuple p its.toArray from pl) ?_);refine⟨s.heap.objs.size,_,_,_,_,_,_,rb,Walks.tuple (A:=X.A.in1) (I.ok.hd hc) s.heap.objs.size p J its.toArray,⟨⟨_,bo _ rb,rb,rb⟩,pl.push _⟩,?_,by simp;lia,CmpOf.ints_lt (λi=>ns.getD i 0) hb,λv h' tk hP kk=>?_⟩
 .intro b hb;have:b=s.heap.objs.size\/b=p:=by simpa using hb
  rw[fw];rcases this with e|e;.rw[e];show ii _
  .rw[e];let⟨o,F,_⟩:=pl;show iN (aI F)
 .let I1:aP X ak σ H {s with heap:=h',toks:=tk}:=I.kept λb o e=>kk b o (by
   intro hm;have:b=s.heap.objs.size:=by simpa using hm
   subst this;show absurd (aI e) (fF _)) (ag _ e)
  let⟨k1,k2⟩:=argBest_lt (λi=>ns.getD i 0) (its.toArray.size-1);let hsz:its.toArray.size=ns.length:=by simp[Z]
  let⟨t,e⟩:=hb _ v hP;generalize argBest _ _=j at k1 k2 e;let hj:j<ns.length:=t6;calc⟨.int (ns.getD j 0),H,I1,⟨t,e⟩,q _ (by simp[List.getD,hj]) λx hx=>?_⟩;let⟨i,hi,rfl⟩:=dC.mp hx;have:=k2 i t6;simpa [List.getD,hi] using this
end
def afx:List V->Hp->VK->Prop:=λxs H Q=>∃l,xs=[.str (S l)]/\l.length<=999/\∀(p:Addr) (j:List Nat),H p=none->j.Perm l->(j.map λc=>[c]).Pairwise (λa b=>decide (b<a)=false)->Q (.ref p) (upd H p (.lst (Ts (j.map λc=>[c]))))
section
variable {X:Cx}
def Dp (hc:X.calm=true):iV X (.builtin "sorted") afx:=by
 intro ak s σ H xs us Q I r h;let⟨l,rfl,G,q⟩:=h;let⟨u,rfl,ru⟩:=vals1 r;let⟨t,rfl⟩:=ru;let hz:(S l).cps.size<=sizeLine:=by show l.length<=sizeLine;show am (aJ t6)
 calc VN (wpAny_collect_str (A:=X.A.in1) (I.ok.hd hc) (S l) t (λs1 acc k1 k2 k3 k4 D=>?_) hz);let hS:=Ru D;calc⟨_,hS,?_,λh' F j e kk he O pm J=>?_⟩;.rw[cy,D.1];show ly G
 let Y:aP X ak σ H s1:=by let I5:=I.kept (h':=s1.heap) (t':=s1.toks) k1;let⟨h',g',d',t'',o'⟩:=s1;simp only at k2 k3 k4;subst k2 k3 k4;show I5
 let Z:(j.map λy=>y.cps.toList.headD 0).Perm l:=by have:=pm.map λy:Str=>y.cps.toList.headD 0;rw[f_]at this;let e:((λy:Str=>y.cps.toList.headD 0) ∘ λc=>(⟨#[c]⟩:Str))=id:=rfl;rw[e,kK,Y9]at this;show this
 let es:j=(j.map λy=>y.cps.toList.headD 0).map λc=>(⟨#[c]⟩:Str):=by rw[f_];calc(kK _).symm.trans (fE λy hy=>?_);let⟨c,_,rfl⟩:=bu.mp (pm.mem_iff.mp hy);rfl
 let hn:H s1.heap.objs.size=none:=Y.fresh;let hv:Vals (Ts ((j.map λy=>y.cps.toList.headD 0).map λc=>[c])) F:=by have:=pG O;rw[es]at this;simpa [Ts,S,oq] using this
 let hl:(Ts ((j.map λy=>y.cps.toList.headD 0).map λc=>[c])).length<=sizeLine:=by rw[aa,aa,Z.length_eq];show am (aJ t6)
 calc⟨.ref s1.heap.objs.size,_,Y.laid (o:=.lst _) (t':=s1.toks) kk (ai _) ⟨hl,F,e,hv,he⟩,rb,q _ _ hn Z ?_⟩;let pw:=yL j J;rw[es,f_]at pw;show pw
end
end L2
def L2.bY {o p q:Prop}(O:o)(P:p)(Q:q):o/\p/\q:=⟨O,P,Q⟩
def L2.Bx {o p q r:Prop}(O:o)(P:p)(Q:q)(R:r):o/\p/\q/\r:=⟨O,P,Q,R⟩
def L2.Kc {o p q r s t:A->B->C->D->E->F->G->H->I->J->Prop}(a b c d e f g h i j)(O:o a b c d e f g h i j)(P:p a b c d e f g h i j)(Q:q a b c d e f g h i j)(R:r a b c d e f g h i j)(S:s a b c d e f g h i j)(T:t a b c d e f g h i j):∃a b c d e f g h i j,o a b c d e f g h i j/\p a b c d e f g h i j/\q a b c d e f g h i j/\r a b c d e f g h i j/\s a b c d e f g h i j/\t a b c d e f g h i j:=⟨a,b,c,d,e,f,g,h,i,j,O,P,Q,R,S,T⟩
def L2.aM {o p:A->Prop}(a)(O:o a)(P:p a):∃a,o a/\p a:=⟨a,O,P⟩
def L2.bH {o p q:A->Prop}(a)(O:o a)(P:p a)(Q:q a):∃a,o a/\p a/\q a:=⟨a,O,P,Q⟩
def L2.iM {o p q r:A->Prop}(a)(O:o a)(P:p a)(Q:q a)(R:r a):∃a,o a/\p a/\q a/\r a:=⟨a,O,P,Q,R⟩
def L2.oY {o p q r s:A->Prop}(a)(O:o a)(P:p a)(Q:q a)(R:r a)(S:s a):∃a,o a/\p a/\q a/\r a/\s a:=⟨a,O,P,Q,R,S⟩
def L2.Kd {o:A->B->Prop}(a b)(O:o a b):∃a b,o a b:=⟨a,b,O⟩
def L2.eU {o p:A->B->Prop}(a b)(O:o a b)(P:p a b):∃a b,o a b/\p a b:=⟨a,b,O,P⟩
def L2.aK {o p q:A->B->Prop}(a b)(O:o a b)(P:p a b)(Q:q a b):∃a b,o a b/\p a b/\q a b:=⟨a,b,O,P,Q⟩
def L2.aQ {o p q r:A->B->Prop}(a b)(O:o a b)(P:p a b)(Q:q a b)(R:r a b):∃a b,o a b/\p a b/\q a b/\r a b:=⟨a,b,O,P,Q,R⟩
def L2.dF {o p q r s:A->B->Prop}(a b)(O:o a b)(P:p a b)(Q:q a b)(R:r a b)(S:s a b):∃a b,o a b/\p a b/\q a b/\r a b/\s a b:=⟨a,b,O,P,Q,R,S⟩
def L2.BJ {o p q r s t:A->B->Prop}(a b)(O:o a b)(P:p a b)(Q:q a b)(R:r a b)(S:s a b)(T:t a b):∃a b,o a b/\p a b/\q a b/\r a b/\s a b/\t a b:=⟨a,b,O,P,Q,R,S,T⟩
def L2.Ke {o p q r s t u:A->B->Prop}(a b)(O:o a b)(P:p a b)(Q:q a b)(R:r a b)(S:s a b)(T:t a b)(U:u a b):∃a b,o a b/\p a b/\q a b/\r a b/\s a b/\t a b/\u a b:=⟨a,b,O,P,Q,R,S,T,U⟩
def L2.BL {o p:A->B->C->Prop}(a b c)(O:o a b c)(P:p a b c):∃a b c,o a b c/\p a b c:=⟨a,b,c,O,P⟩
def L2.qW {o p q:A->B->C->Prop}(a b c)(O:o a b c)(P:p a b c)(Q:q a b c):∃a b c,o a b c/\p a b c/\q a b c:=⟨a,b,c,O,P,Q⟩
def L2.cW {o p q r:A->B->C->Prop}(a b c)(O:o a b c)(P:p a b c)(Q:q a b c)(R:r a b c):∃a b c,o a b c/\p a b c/\q a b c/\r a b c:=⟨a,b,c,O,P,Q,R⟩
def L2.d7 {o p q r s:A->B->C->Prop}(a b c)(O:o a b c)(P:p a b c)(Q:q a b c)(R:r a b c)(S:s a b c):∃a b c,o a b c/\p a b c/\q a b c/\r a b c/\s a b c:=⟨a,b,c,O,P,Q,R,S⟩
def L2.uO {o p q r s t:A->B->C->Prop}(a b c)(O:o a b c)(P:p a b c)(Q:q a b c)(R:r a b c)(S:s a b c)(T:t a b c):∃a b c,o a b c/\p a b c/\q a b c/\r a b c/\s a b c/\t a b c:=⟨a,b,c,O,P,Q,R,S,T⟩
def L2.G4 {o p q r s t u:A->B->C->Prop}(a b c)(O:o a b c)(P:p a b c)(Q:q a b c)(R:r a b c)(S:s a b c)(T:t a b c)(U:u a b c):∃a b c,o a b c/\p a b c/\q a b c/\r a b c/\s a b c/\t a b c/\u a b c:=⟨a,b,c,O,P,Q,R,S,T,U⟩
def L2.gC {o p q r:A->B->C->D->Prop}(a b c d)(O:o a b c d)(P:p a b c d)(Q:q a b c d)(R:r a b c d):∃a b c d,o a b c d/\p a b c d/\q a b c d/\r a b c d:=⟨a,b,c,d,O,P,Q,R⟩
def L2.bA {o p q r s:A->B->C->D->Prop}(a b c d)(O:o a b c d)(P:p a b c d)(Q:q a b c d)(R:r a b c d)(S:s a b c d):∃a b c d,o a b c d/\p a b c d/\q a b c d/\r a b c d/\s a b c d:=⟨a,b,c,d,O,P,Q,R,S⟩
def L2.iy {o p q r s t:A->B->C->D->Prop}(a b c d)(O:o a b c d)(P:p a b c d)(Q:q a b c d)(R:r a b c d)(S:s a b c d)(T:t a b c d):∃a b c d,o a b c d/\p a b c d/\q a b c d/\r a b c d/\s a b c d/\t a b c d:=⟨a,b,c,d,O,P,Q,R,S,T⟩
def L2.uP {o p q r s t u v:A->B->C->D->Prop}(a b c d)(O:o a b c d)(P:p a b c d)(Q:q a b c d)(R:r a b c d)(S:s a b c d)(T:t a b c d)(U:u a b c d)(V:v a b c d):∃a b c d,o a b c d/\p a b c d/\q a b c d/\r a b c d/\s a b c d/\t a b c d/\u a b c d/\v a b c d:=⟨a,b,c,d,O,P,Q,R,S,T,U,V⟩
def L2.Kf {o p q r:A->B->C->D->E->Prop}(a b c d e)(O:o a b c d e)(P:p a b c d e)(Q:q a b c d e)(R:r a b c d e):∃a b c d e,o a b c d e/\p a b c d e/\q a b c d e/\r a b c d e:=⟨a,b,c,d,e,O,P,Q,R⟩
def L2.BP {o p q r s:A->B->C->D->E->Prop}(a b c d e)(O:o a b c d e)(P:p a b c d e)(Q:q a b c d e)(R:r a b c d e)(S:s a b c d e):∃a b c d e,o a b c d e/\p a b c d e/\q a b c d e/\r a b c d e/\s a b c d e:=⟨a,b,c,d,e,O,P,Q,R,S⟩
def L2.cL {o p q r s t:A->B->C->D->E->Prop}(a b c d e)(O:o a b c d e)(P:p a b c d e)(Q:q a b c d e)(R:r a b c d e)(S:s a b c d e)(T:t a b c d e):∃a b c d e,o a b c d e/\p a b c d e/\q a b c d e/\r a b c d e/\s a b c d e/\t a b c d e:=⟨a,b,c,d,e,O,P,Q,R,S,T⟩
def L2.Zn {o p q r s t u:A->B->C->D->E->Prop}(a b c d e)(O:o a b c d e)(P:p a b c d e)(Q:q a b c d e)(R:r a b c d e)(S:s a b c d e)(T:t a b c d e)(U:u a b c d e):∃a b c d e,o a b c d e/\p a b c d e/\q a b c d e/\r a b c d e/\s a b c d e/\t a b c d e/\u a b c d e:=⟨a,b,c,d,e,O,P,Q,R,S,T,U⟩
def L2.oZ {o p q r:A->B->C->D->E->F->Prop}(a b c d e f)(O:o a b c d e f)(P:p a b c d e f)(Q:q a b c d e f)(R:r a b c d e f):∃a b c d e f,o a b c d e f/\p a b c d e f/\q a b c d e f/\r a b c d e f:=⟨a,b,c,d,e,f,O,P,Q,R⟩
def L2.Kg {o p q r s:A->B->C->D->E->F->Prop}(a b c d e f)(O:o a b c d e f)(P:p a b c d e f)(Q:q a b c d e f)(R:r a b c d e f)(S:s a b c d e f):∃a b c d e f,o a b c d e f/\p a b c d e f/\q a b c d e f/\r a b c d e f/\s a b c d e f:=⟨a,b,c,d,e,f,O,P,Q,R,S⟩
def L2.QH {o p q r s t u:A->B->C->D->E->F->Prop}(a b c d e f)(O:o a b c d e f)(P:p a b c d e f)(Q:q a b c d e f)(R:r a b c d e f)(S:s a b c d e f)(T:t a b c d e f)(U:u a b c d e f):∃a b c d e f,o a b c d e f/\p a b c d e f/\q a b c d e f/\r a b c d e f/\s a b c d e f/\t a b c d e f/\u a b c d e f:=⟨a,b,c,d,e,f,O,P,Q,R,S,T,U⟩
def L2.QJ {o p q:A->B->C->D->E->F->G->H->I->Prop}(a b c d e f g h i)(O:o a b c d e f g h i)(P:p a b c d e f g h i)(Q:q a b c d e f g h i):∃a b c d e f g h i,o a b c d e f g h i/\p a b c d e f g h i/\q a b c d e f g h i:=⟨a,b,c,d,e,f,g,h,i,O,P,Q⟩
namespace L2
open PySem
theorem eS {n:Nat}{P:List Value->Prop}(h:∀a us,us.length=n->P (a::us)):∀us,us.length=n+1->P us
 | a::us,e=>h a us (Nat.succ.inj e)
@[elab_as_elim] theorem e1 {P:List Value->Prop} (h:∀a,P [a]) (us:List Value) (hl:us.length=1):P us:=eS (λa us e=>(by rw[List.eq_nil_of_length_eq_zero e];show h a)) us hl
@[elab_as_elim] theorem e2 {P:List Value->Prop} (h:∀a b,P [a,b]) (us:List Value) (hl:us.length=2):P us:=eS (λa us e=>e1 (P:=λr=>P (a::r)) (h a) us e) us hl
@[elab_as_elim] theorem e3 {P:List Value->Prop} (h:∀a b c,P [a,b,c]) (us:List Value) (hl:us.length=3):P us:=eS (λa us e=>e2 (P:=λr=>P (a::r)) (h a) us e) us hl
@[elab_as_elim] theorem e4 {P:List Value->Prop} (h:∀a b c d,P [a,b,c,d]) (us:List Value) (hl:us.length=4):P us:=eS (λa us e=>e3 (P:=λr=>P (a::r)) (h a) us e) us hl
@[elab_as_elim] theorem e5 {P:List Value->Prop} (h:∀a b c d e,P [a,b,c,d,e]) (us:List Value) (hl:us.length=5):P us:=eS (λa us e=>e4 (P:=λr=>P (a::r)) (h a) us e) us hl
@[elab_as_elim] theorem e6 {P:List Value->Prop} (h:∀a b c d e f,P [a,b,c,d,e,f]) (us:List Value) (hl:us.length=6):P us:=eS (λa us e=>e5 (P:=λr=>P (a::r)) (h a) us e) us hl
@[elab_as_elim] theorem e7 {P:List Value->Prop} (h:∀a b c d e f g,P [a,b,c,d,e,f,g]) (us:List Value) (hl:us.length=7):P us:=eS (λa us e=>e6 (P:=λr=>P (a::r)) (h a) us e) us hl
@[elab_as_elim] theorem e8 {P:List Value->Prop} (h:∀a b c d e f g i,P [a,b,c,d,e,f,g,i]) (us:List Value) (hl:us.length=8):P us:=eS (λa us e=>e7 (P:=λr=>P (a::r)) (h a) us e) us hl
end L2
namespace My
open PySem L2
def top (i:Nat):Stmt:=PySem.Challenge.pw_letterrack_k65_whole_tiles_are_kept.main.body.getD i (.Pass ⟨0,0,0,0⟩)
noncomputable abbrev j7:Stmt:=inClass (top 4) 0
def Ml:bw ["self","word"] ["self","word"] (aH j7):={}
noncomputable abbrev lu:Stmt:=inClass (top 7) 0
def PN:bw ["self","row","column"] ["self","row","column"] (aH lu):={}
noncomputable abbrev oE:Stmt:=inClass (top 9) 0
def VP:bw ["self","row","column"] ["self","row","column"] (aH oE):={}
noncomputable abbrev jH:Stmt:=inClass (top 11) 0
def Kh:bw ["self","tile"] ["self","tile"] (aH jH):={}
noncomputable abbrev sU:Stmt:=top 16
def Hw:bw ["thing"] ["thing"] (aH sU):={}
noncomputable abbrev yP:Stmt:=top 17
def Zo:bw ["thing"] ["thing"] (aH yP):={}
noncomputable abbrev uQ:Stmt:=top 18
def R9:bw ["sign"] ["sign"] (aH uQ):={}
noncomputable abbrev yQ:Stmt:=top 19
def Zq:bw ["sign"] ["sign"] (aH yQ):={}
noncomputable abbrev yR:Stmt:=top 20
def wL:bw ["rack","signs","tiles","sign","tile"] ["rack","signs"] (aH yR):={}
noncomputable abbrev wM:Stmt:=top 25
def uR:bw ["thing","width"] ["thing"] (aH wM):={}
noncomputable abbrev wN:Stmt:=top 26
def Hx:bw ["thing"] ["thing"] (aH wN):={}
noncomputable abbrev uT:Stmt:=top 27
def Em:bw ["thing"] ["thing"] (aH uT):={}
noncomputable abbrev pJ:Stmt:=top 28
def Dq:bw ["rows","row","column"] ["rows","row","column"] (aH pJ):={}
noncomputable abbrev qX:Stmt:=top 29
def Mp:bw ["rows","thing"] ["rows","thing"] (aH qX):={}
noncomputable abbrev wO:Stmt:=top 30
def VR:bw ["rows","marks","begin"] ["rows","marks","begin"] (aH wO):={}
noncomputable abbrev qY:Stmt:=top 31
def Ai:bw ["rows","column"] ["rows","column"] (aH qY):={}
noncomputable abbrev lC:Stmt:=inClass (top 32) 0
def PX:bw ["self","rows","marks","begin"] ["self","rows","marks","begin"] (aH lC):={}
noncomputable abbrev oF:Stmt:=inClass (top 32) 1
def V0:bw ["self","row","column"] ["self","row","column"] (aH oF):={}
noncomputable abbrev jz:Stmt:=inClass (top 32) 2
def xZ:bw ["self"] ["self"] (aH jz):={}
noncomputable abbrev mK:Stmt:=inClass (top 32) 3
def nJ:bw ["self","row","column","way","line","place","ahead","signs","first"] ["self","row","column","way"] (aH mK):={}
noncomputable abbrev lD:Stmt:=inClass (top 32) 5
def lR:bw ["self","laying","lines","row","column","sign"] ["self","laying"] (aH lD):={}
noncomputable abbrev uU:Stmt:=top 35
def R_:bw ["board","thing"] ["board","thing"] (aH uU):={}
noncomputable abbrev uV:Stmt:=top 36
def yc:bw ["board","thing","cells"] ["board","thing"] (aH uV):={}
noncomputable abbrev wQ:Stmt:=top 37
def V1:bw ["laying"] ["laying"] (aH wQ):={}
noncomputable abbrev qL:Stmt:=top 38
def En:bw ["laying"] ["laying"] (aH qL):={}
noncomputable abbrev yS:Stmt:=top 39
def Zr:bw ["laying"] ["laying"] (aH yS):={}
noncomputable abbrev mq:Stmt:=top 40
def oR:bw ["board","row","column","around"] ["board","row","column"] (aH mq):={}
noncomputable abbrev BR:Stmt:=top 41
def mz:bw ["board","laying","after","way","asked","row","column","words","along","run"] ["board","laying"] (aH BR):={}
noncomputable abbrev sV:Stmt:=top 42
def qZ:bw ["board","laying","row","column","sign"] ["board","laying"] (aH sV):={}
noncomputable abbrev oG:Stmt:=top 43
def Ho:bw ["laying"] ["laying"] (aH oG):={}
noncomputable abbrev sW:Stmt:=top 44
def q_:bw ["board","laying","after","row","column"] ["board","laying"] (aH sW):={}
noncomputable abbrev qu:Stmt:=top 45
def sX:bw ["board","laying","joined"] ["board","laying"] (aH qu):={}
noncomputable abbrev rm:Stmt:=top 46
def jJ:bw ["board","book","laying","words","row","column","way","signs","word"] ["board","book","laying"] (aH rm):={}
noncomputable abbrev qw:Stmt:=top 47
def Km:bw ["board","book","rack","laying"] ["board","book","rack","laying"] (aH qw):={}
noncomputable abbrev wR:Stmt:=top 51
def V2:bw ["worths","sign"] ["worths","sign"] (aH wR):={}
noncomputable abbrev yU:Stmt:=top 52
def Zt:bw ["word","place"] ["word","place"] (aH yU):={}
noncomputable abbrev rB:Stmt:=top 53
def eY:bw ["board","worths","laying","word","cells","total","times","place","sign","cell","worth","mark"] ["board","worths","laying","word"] (aH rB):={}
noncomputable abbrev wU:Stmt:=top 54
def V3:bw ["bonus","laying"] ["bonus","laying"] (aH wU):={}
noncomputable abbrev uW:Stmt:=top 55
def Eo:bw ["board","worths","bonus","laying","counted"] ["board","worths","bonus","laying"] (aH uW):={}
noncomputable abbrev rC:Stmt:=top 57
def Mq:bw ["rack","laying"] ["rack","laying"] (aH rC):={}
noncomputable abbrev uZ:Stmt:=top 60
def Ep:bw ["thing"] ["thing"] (aH uZ):={}
noncomputable abbrev yV:Stmt:=top 61
def Zu:bw ["thing"] ["thing"] (aH yV):={}
noncomputable abbrev wV:Stmt:=top 62
def V4:bw ["tiles"] ["tiles"] (aH wV):={}
noncomputable abbrev u9:Stmt:=top 63
def Sd:bw ["things","place","thing"] ["things","place","thing"] (aH u9):={}
noncomputable abbrev lE:Stmt:=inClass (top 64) 0
def P0:bw ["self","board","racks","bag","points"] ["self","board","racks","bag","points"] (aH lE):={}
noncomputable abbrev o7:Stmt:=top 65
def jK:bw ["stand","turn","size","laying","points","left","many","rack","racks","sums"] ["stand","turn","size","laying","points"] (aH o7):={}
noncomputable abbrev rD:Stmt:=top 66
def nO:bw ["stand","turn","tiles","left","many","rack","bag"] ["stand","turn","tiles"] (aH rD):={}
noncomputable abbrev mL:Stmt:=inClass (top 67) 0
def Er:bw ["self","board","book","worths","bonus","size","racks","bag"] ["self","board","book","worths","bonus","size","racks","bag"] (aH mL):={}
noncomputable abbrev pK:Stmt:=inClass (top 67) 1
def oH:bw ["self","deed","stand","turn","points"] ["self","deed"] (aH pK):={}
noncomputable abbrev je:Stmt:=inClass (top 67) 3
def Hq:bw ["self"] ["self"] (aH je):={}
noncomputable abbrev jf:Stmt:=inClass (top 67) 4
def Hr:bw ["self"] ["self"] (aH jf):={}
noncomputable abbrev jL:Stmt:=inClass (top 67) 5
def Ko:bw ["self"] ["self"] (aH jL):={}
noncomputable abbrev iH:Stmt:=inClass (top 67) 6
def Es:bw ["self"] ["self"] (aH iH):={}
noncomputable abbrev mO:Stmt:=inClass (top 67) 7
def Sg:bw ["self"] ["self"] (aH mO):={}
noncomputable abbrev jM:Stmt:=inClass (top 67) 8
def o8:bw ["self","racks","many","last"] ["self"] (aH jM):={}
noncomputable abbrev yW:Stmt:=top 69
def Kp:bw ["text"] ["text"] (aH yW):={}
noncomputable abbrev sY:Stmt:=top 70
def P_:bw ["text"] ["text"] (aH sY):={}
noncomputable abbrev mQ:Stmt:=inClass (top 71) 0
def Et:bw ["self","words","word"] ["self","words"] (aH mQ):={}
noncomputable abbrev lG:Stmt:=inClass (top 71) 1
def Qa:bw ["self"] ["self"] (aH lG):={}
noncomputable abbrev oJ:Stmt:=inClass (top 71) 2
def V5:bw ["self","text"] ["self","text"] (aH oJ):={}
noncomputable abbrev mU:Stmt:=inClass (top 71) 6
def Sh:bw ["self"] ["self"] (aH mU):={}
noncomputable abbrev yX:Stmt:=top 73
def Zv:bw ["_law_script","_law_k"] ["_law_script","_law_k"] (aH yX):={}
noncomputable abbrev BW:Stmt:=top 74
def nU:bw ["_law_cell","_law_many","_law_found","_law_number","_law_k"] ["_law_cell","_law_many"] (aH BW):={}
noncomputable abbrev yZ:Stmt:=top 75
def tu:bw ["_law_cell","_law_letters_here","_law_found","_law_k"] ["_law_cell"] (aH yZ):={}
noncomputable abbrev G5:Stmt:=top 76
def mV:bw ["_law_cell","_law_letters_here","_law_words_here","_law_number","_law_size","_law_word","_law_rest","_law_k"] ["_law_cell","_law_letters_here"] (aH G5):={}
noncomputable abbrev Kq:Stmt:=top 77
def jX:bw ["_law_cell","_law_letters_here","_law_rows_here","_law_columns","_law_signs","_law_marks","_law_number","_law_sign","_law_begin","_law_texts","_law_some"] ["_law_cell","_law_letters_here"] (aH Kq):={}
noncomputable abbrev G6:Stmt:=top 78
def yd:bw ["_law_cell","_law_letters_here","_law_many","_law_blanks","_law_tiles_here","_law_number"] ["_law_cell","_law_letters_here","_law_many","_law_blanks"] (aH G6):={}
noncomputable abbrev G7:Stmt:=top 79
def fH:bw ["_law_script","_law_letters_here","_law_cell","_law_size","_law_many","_law_few","_law_tiles_here","_law_racks","_law_k","_law_less","_law_worths","_law_letter","_law_bonus","_law_rows_here","_law_marks","_law_begin","_law_board","_law_words_here"] ["_law_script"] (aH G7):={}
noncomputable abbrev G8:Stmt:=top 80
def Iu:bw ["_law_parts_here","_law_racks"] ["_law_parts_here"] (aH G8):={}
noncomputable abbrev u_:Stmt:=top 81
def gU:bw ["_law_rows_here","_law_word","_law_place","_law_rack","_law_row","_law_column","_law_way","_law_left","_law_laying_here","_law_letter","_law_tile"] ["_law_rows_here","_law_word","_law_place","_law_rack"] (aH u_):={}
noncomputable abbrev Kr:Stmt:=top 82
def afy:bw ["_law_board","_law_book","_law_rack","_law_laying_here"] ["_law_board","_law_book","_law_rack","_law_laying_here"] (aH Kr):={}
noncomputable abbrev BX:Stmt:=top 83
def vJ:bw ["_law_board","_law_book","_law_words_here","_law_rack","_law_cell","_law_number","_law_place","_law_laying_here"] ["_law_board","_law_book","_law_words_here","_law_rack","_law_cell"] (aH BX):={}
noncomputable abbrev Ks:Stmt:=top 84
def jY:bw ["_law_now","_law_book","_law_words_here","_law_cell","_law_board","_law_racks","_law_bag","_law_sums","_law_done","_law_passed","_law_over","_law_numbers","_law_rack","_law_laying_here","_law_many","_law_by"] ["_law_now","_law_book","_law_words_here","_law_cell"] (aH Ks):={}
noncomputable abbrev vf:Stmt:=top 88
def lH:bw ["_law_game","_law_first","_law_tiles_here","_law_rows_here","_law_row","_law_column","_law_sign"] ["_law_game","_law_first"] (aH vf):={}
noncomputable abbrev Ku:Stmt:=top 89
def Mr:bw ["_law_ahead","_law_behind","_law_row","_law_column"] ["_law_ahead","_law_behind"] (aH Ku):={}
noncomputable abbrev QK:Stmt:=top 90
def mC:bw ["_law_script","_law_parts_here","_law_book","_law_game","_law_now","_law_first","_law_tiles_here","_law_sums","_law_cell","_law_ahead","_law_here","_law_points"] ["_law_script"] (aH QK):={}
section
variable {P:Program}{w:World}{K:W.Frag}{mg:Str->Option Value}{base:Heap}
def Dr (c:Nat):Bool:=decide (97<=c)&&decide (c<=122)
def Eu (c:Nat):Bool:=decide (65<=c)&&decide (c<=90)
def Ds (l:List Nat):Bool:=match l with|[c]=>Dr c||Eu c|_=>false
def lt1 (a b:Nat):([a]<[b])↔a<b:=by simp[km]
def Ms (a b:Nat):(!decide ([a]<[b]))=decide (b<=a):=by
 by_cases h:a<b;.rw[aw ((lt1 a b).mpr h),ah t6];rfl
 .rw[ah (λz=>h ((lt1 a b).mp z)),aw t6];rfl
def aex (K:W.Frag)(H:Hp)(x:V):Prop:=∃t,nj K H x t/\W.kitOne K t (.type "str")=some false
def Ss (K:W.Frag):Sp:=λvs H Q _=>(∃x,vs=[x]/\aex K H x/\Q (.bl false) H)\/(∃l,vs=[.str (S l)]/\l.length<=1000/\Q (.bl (Ds l)) H)
def Zw (D:aO K mg "is_sign" yP ["thing"])(O:mg "len"=none)(F:mg "str"=none)(I:mg "isinstance"=none):cu P w K mg base "is_sign" 1 ["thing"] (Ss K):=by
 refine D.dM Zo (λf bN A outer s H vs Q E Y h=>?_) (λvs H Q E h=>?_)
 .refine(aM _ (aB (cJ (QW.qt (oW (fQ (eO (aW iu ue I c8 (aj aG (aj (lQ (v:=.ty "str") ue F p_ rb) ao)))))
     (nC (bU GC (aW dw ue O aE (aj aG ao)) aq (bO _))))) (aF (bD iY)) bR)
   (aF (bD (QB (mJ oN oN (bL [97] uj) aG (bL [122] uj))
    (j8 (mJ oN oN (bL [65] uj) aG (bL [90] uj))))))) ?_)
  rcases h with⟨x,rfl,⟨t,ty,J⟩,q⟩|⟨l,rfl,hl,q⟩;.show(gC _ _ _ false rb ty J (cR (cR q)))
  .let hz:l.length<=sizeLine:=am (aJ t6);calc(gC _ _ _ true rb (.str _) ui (cM (iM l rb hz rb (bh _ rb ?_))));by_cases h1:l.length=1
   .let⟨c,rfl⟩:=List.length_eq_one_iff.mp h1;calc Qx rb ?_;calc(aK [97] [c] rb rb (bh (decide (97<=c)) (by rw[Ms]) ?_));let G:Q (.bl (Dr c||Eu c)) H:=q;let j:(Eu c=(Dr c||Eu c))->DR acT acT (tC (.str (S [65]))) (YB 0) (tC (.str (S [90]))) [some (.str (S [c]))] H Q:=λe=>by
     calc(aK [65] [c] rb rb (bh (decide (65<=c)) (by rw[Ms]) ?_));rw[<-e]at G;by_cases h2:65<=c
     .rw[aw h2];calc cR (aK [c] [90] rb rb ?_);rw[Ms];simpa [Eu,h2] using G
     .rw[ah h2];calc cM ?_;simpa [Eu,h2] using G
    by_cases h2:97<=c
    .rw[aw h2];calc cR (aK [c] [122] rb rb (bh _ rb ?_));rw[Ms];by_cases h3:c<=122
     .rw[aw h3];calc cR ?_;simpa [Dr,h2,h3] using G
     .rw[ah h3];show cM (j (by simp[Dr,h2,h3]))
    .rw[ah h2];show cM (j (by simp[Dr,h2]))
   .let e:(!decide (V.int (l.length:Int)=V.int 1))=true:=by
     rw[ah];rfl;intro z;injection z with z;lia
    rw[e];let e2:Ds l=false:=by
     match l,h1 with| [],_=>rfl| [c],h=>show absurd rb h| _::_::_,_=>rfl
    rw[e2]at q;show cR q
 .rcases h with⟨x,rfl,_⟩|⟨x,rfl,_⟩ <;> rfl
def abl (K:W.Frag):Sp:=λvs H Q _=>∃(a:Addr) (ns:List Int) (k:Nat),vs=[.ref a,.int k]/\bI K H a (ns.map V.int)/\∀v:Int,Q (.int v) H
def isLet (c:Nat):Prop:=97<=c/\c<=122
structure Zx (ls:List Nat):Prop where
 lo:2<=ls.length
 hi:ls.length<=26
 az:∀c∈ls,isLet c
def Zy (D:aO K mg "_law_cell_at" yX ["_law_script","_law_k"])(I:mg "len"=none):cu P w K mg base "_law_cell_at" 1 ["_law_script","_law_k"] (abl K):=by
 calc D.dM Zv (λf bN A outer s H vs Q E J h=>?_);let⟨a,ns,k,rfl,j,q⟩:=h;calc(aM _ (aB (cJ (bU uM aZ (aW bZ ue I aE (aj aG ao)) (bO _)) (aF (bD (bf iQ aG aZ (λ_ _=>rfl)))) bR) (aF (bD aq))) ?_);calc(aK a _ rb (.inl j) (aK _ _ rb rb (bh _ rb ?_)));refine jt (λG=>?_) (λ_=>?_)
 .let F:k<ns.length:=by
   have:=fh G;rw[aa]at this;lia
  show(bA a _ _ (.int ns[k]) rb rb j (aV (by simp[F])) (q _))
 .show q _
def mD (l:List Nat):(l.map λc=>[c]).flatten=l:=by
 induction l with| nil=>rfl| cons c r ih=>rw[ce,ed,ih];rfl
def ajt:∀c∈AL,isLet c:=λc D=>by let⟨k,j,rfl⟩:=bu.mp D;have:=im.mp j;show⟨t6,t6⟩
def qz (c:Nat):Prop:=Ds [c]=true
def qz.lt {c:Nat}(h:qz c):c<128:=by unfold qz Ds Dr Eu at h;simp at h;lia
def abm {c:Nat}(h:isLet c):qz c:=by simp[qz,Ds,Dr,h.1,h.2]
def abn {c:Nat}(h:isLet c):qz (c-32):=by let h1:=h.1;let h2:=h.2;simp[qz,Ds,Dr,Eu];lia
def afz {xs:List V}{a b:Nat}(h1:a<=b)(h2:b<=xs.length):jo xs (some (a:Int)) (some (b:Int))=(xs.drop a).take (b-a):=by unfold jo;rw[HT.lO,HT.lO,gg h2,gg (show a<=xs.length by lia)]
abbrev ones (cs:List Nat):List (List Nat):=cs.map λc=>[c]
structure Blk (r w:Nat)(ls:AA):Prop where
 len:ls.length=r
 qC:∀l∈ls,l.length=w
def MK:List Nat:=[46,50,51,52,98,99,100]
def Ew (c:Nat):Prop:=c=46\/qz c
def O5 (c:Nat):Prop:=c∈MK
structure Xn (r w:Nat)(aA aN:AA)(i j:Nat):Prop where
 r1:1<=r
 r9:r<=9
 w1:1<=w
 w9:w<=9
 br:Blk r w aA
 bm:Blk r w aN
 cr:∀l∈aA,∀c∈l,Ew c
 cm:∀l∈aN,∀c∈l,O5 c
 bi:i<r
 bj:j<w
def Mt (ls:AA)(l:List Nat):Ts ls++[V.str (S l)]=Ts (ls++[l]):=by simp[Ts]
def abo (cs:List Nat)(c:Nat):ones cs++[[c]]=ones (cs++[c]):=by simp[ones]
def cell (R:AA)(i j:Nat):Nat:=(R.getD i []).getD j 0
def cell_eq {R:AA}{i j:Nat}(hi:i<R.length)(D:j<R[i].length):cell R i j=R[i][j]:=by unfold cell;rw[ap (l:=R),ae hi];show (R[i]).getD j 0=_;rw[ap,ae D];rfl
def Xo:Sp:=λvs H Q _=>∃i:Int,vs=[.int i]/\Q (.bl true) H
def V6 (D:aO K mg "is_whole" sU ["thing"])(G:mg "int"=none)(F:mg "bool"=none)(j:mg "isinstance"=none):cu P w K mg base "is_whole" 1 ["thing"] Xo:=by calc D.dM Hw (λf bN A outer s H vs Q E I h=>?_);let⟨i,rfl,q⟩:=h;calc(aM _ (aF (bD (lW (aW iu ue j c8 (aj aG (aj (lQ (v:=.ty "int") ue G mh rb) ao))) (j8 (aaX (aW iu ue j c8 (aj aG (aj (lQ (v:=.ty "bool") ue F PyProof.Rows.boot_bool rb) ao)))))))) ?_);show(gC _ _ _ true rb (.int _) ui (cR (gC _ _ _ false rb (.int _) ui q)))
def oK {ls:AA}{i:Nat}{l:List Nat}(h:ls[i]?=some l):(Ts ls)[i]?=some (.str (S l)):=by simp[Ts,h]
def yg {ls:AA}{i:Nat}{x:V}(h:(Ts ls)[i]?=some x):∃l,ls[i]?=some l/\x=.str (S l):=by rw[cz]at h;let⟨l,h1,h2⟩:=e_.mp h;show(aM l h1 h2.symm)
def Aj (n:Nat):((List.replicate n true).all id)=true:=by simp
def yh (n:Nat):(List.replicate n true).map V.bl++[V.bl true]=(List.replicate (n+1) true).map V.bl:=by rw[List.replicate_succ',cq];rfl
def Mu:Sp:=λvs H Q _=>∃(p:Addr) (ls:AA) (r w:Nat),vs=[.ref p]/\H p=some (.tup (Ts ls))/\Blk r w ls/\1<=r/\r<=9/\1<=w/\w<=9/\∀H',aD H H'->Q (.bl true) H'
def V7 (D:aO K mg "is_block" wM ["thing"])(bC:mg "len"=none)(cI:mg "tuple"=none)(wW:mg "str"=none)(fK:mg "all"=none)(bW:mg "isinstance"=none)(Ak:∃t,mg "MOST"=some (.int 9 t)):cu P w K mg base "is_block" 1 ["thing"] Mu:=by
 calc D.dM uR (λf bN A outer s H vs Q E hr h=>?_);let⟨p,ls,r,w,rfl,hp,hb,r1,r9,w1,w9,q⟩:=h;let qM:(Ts ls).length=r:=by rw[aa,hb.len]
 let h0:0<ls.length:=by rw[hb.len];lia
 calc(aM _ (aB (cJ (QW.qt (oW (fQ (eO (aW iu ue bW c8 (aj aG (aj (lQ (v:=.ty "tuple") ue cI c_ rb) ao))))) (nC (fQ (Bp qT qT aq (aW bZ ue bC aE (aj aG ao)) (Za ue Ak)))))) (aF (bD iY)) bR) (aB (cJ (fQ (eO (aW (j6 rb) ue fK jV (aj (jG rb (ju.of uR.nd ui) (iB aG) (λ_ _ _ _ _=>eG) (λ_ _ _ _ _=>(aW (RG K) ue bW c8 (aj aG (aj (lQ (v:=.ty "str") ue wW p_ rb) ao))))) ao)))) (aF (bD iY)) bR) (aB (aX (i:=1) uR.nd rb (Or.inr rb) (aW dw ue bC aE (aj (bf bF aG aq (λ_ _=>rfl)) ao))) (aF (bD (lW (mJ qT qT aq aZ (Za ue Ak)) (j8 (aW (j6 rb) ue fK jV (aj (jG rb (ju.of uR.nd ui) (iB aG) (λ_ _ _ _ _=>eG) (λ_ _ _ _ _=>(gK jD (aW dw ue bC aE (aj aG ao)) bG (bO _)))) ao))))))))) ?_);calc(gC _ _ _ true rb (.tup hp) ui (cM ?_));calc(aK p _ rb (.inr (aU.of hp)) (aK _ _ rb rb (bh true (by rw[qM];simp;lia) (cR (aK _ _ rb rb (bh true (by rw[qM];simp;lia) (cM ?_)))))));refine(bH p rb ⟨_,aU.of hp⟩ (λL hL=>pH (xs:=Ts ls) (λi ys O=>ys=(List.replicate i true).map V.bl/\O L=some (.lst ys)/\aD H O) (bY rb au (aD.upd hL)) (λi ys O _ h=>aU.of (h.2.2 _ _ hp)) ?_ ?_))
 .intro i x ys O hi z;let⟨rfl,J,sm⟩:=z;let⟨l,hl,rfl⟩:=yg hi;let F:i<(Ts ls).length:=(al.mp hi).1;refine(iy _ _ _ true rb (.str _) ui J (by rw[aa,dL];show aJ t6) (iK.mk F (bY (yh i) au (sm.dU hL))))
 .intro ys O z;let⟨rfl,J,sm⟩:=z;calc(aK L _ rb (bI.of J) ?_);rw[Aj];calc ?_;let G:ls[0].length=w:=hb.qC _ (a9 _);let hz:ls[0].length<=sizeLine:=am (aJ t6);calc(bA p _ _ (.str (S ls[0])) rb rb (aU.of (sm _ _ hp)) (aV (j:=0) (oK (by simp[h0]))) (bH _ rb hz ?_));calc(aK _ _ rb rb (bh true (by rw[G];simp;lia) (cR (aK _ _ rb rb (bh true (by rw[G];simp;lia) (cR ?_))))));refine(bH p rb ⟨_,aU.of (sm _ _ hp)⟩ (λL2 wk=>pH (xs:=Ts ls) (λi ys Y=>ys=(List.replicate i true).map V.bl/\Y L2=some (.lst ys)/\aD H Y) (bY rb au (sm.dU (sm.free wk))) (λi ys O _ h=>aU.of (h.2.2 _ _ hp)) ?_ ?_))
  .intro i x ys Y hi z;let⟨rfl,Al,I⟩:=z;let⟨l,hl,rfl⟩:=yg hi;let F:i<(Ts ls).length:=(al.mp hi).1;let Z:l.length=w:=hb.qC _ (b8 hl);calc⟨_,rb,am (aJ t6),rb,Al,by rw[aa,dL];show aJ t6,iK.mk F (bY ?_ au (I.dU (sm.free wk)))⟩;rw[Z,G,aw rfl];show yh i
  .intro ys Y z;let⟨rfl,Al,I⟩:=z;calc(aK L2 _ rb (bI.of Al) ?_);rw[Aj];show q Y I
def xY {r w:Nat}{ls:AA}(h:Blk r w ls):ls.flatten.length=r*w:=by
 rw[List.length_flatten];have:ls.map List.length=List.replicate r w:=by rw[<-h.len,List.eq_replicate_iff];show⟨t7,λb hb=>by let⟨l,hl,rfl⟩:=bu.mp hb;show h.qC l hl⟩
 rw[this,List.sum_replicate_nat]
def abp:Sp:=λvs H Q _=>∃(p:Addr) (ls:AA) (r w:Nat),vs=[.ref p]/\H p=some (.tup (Ts ls))/\Blk r w ls/\1<=r/\r<=9/\1<=w/\w<=9/\(∀l∈ls,∀c∈l,Ew c)/\∀H',aD H H'->Q (.bl true) H'
def V8 (D:aO K mg "are_rows" wN ["thing"])(fK:mg "all"=none)(gF:∃t,mg "FREE"=some (.str (S [46]) t))(BZ:cu P w K mg base "is_block" 1 ["thing"] Mu)(Ey:cu P w K mg base "is_sign" 1 ["thing"] (Ss K)):cu P w K mg base "are_rows" 2 ["thing"] abp:=by
 calc D.dM Hx (λf bN A outer s H vs Q E Y h=>?_);let⟨p,ls,r,w,rfl,hp,hb,r1,r9,w1,w9,hc,q⟩:=h;let hrw:r*w<=81:=io r9 w9;let hfl:=xY hb;calc(aM _ (aF (bD (lW (bK BZ Y.mono rb (aj aG ao)) (j8 (aW (j6 rb) ue fK jV (aj (jG rb (ju.of Hx.nd ui) (vH (gq bz di dq xR (bL [] uj) (aj aG ao))) (λ_ _ _ _ _=>eG) (λ_ _ _ _ _=>(QB (gK lU aG (uN ue gF) (bO _)) (j8 (bK Ey Y.mono rb (aj aG ao)))))) ao)))))) ?_);calc(uP p ls r w rb hp hb r1 r9 w1 w9 (λH1 s1=>?_));calc⟨rb,dF p ls rb rb (aU.of (s1 _ _ hp)) t6 (aM _ rb (λL Z=>?_))⟩;refine xQ (λi ys j=>ys=(List.replicate i true).map V.bl/\j L=some (.lst ys)/\aD H j) (bY rb au (s1.dU (s1.free Z))) ?_ ?_
 .intro i c ys j hi z;let⟨rfl,F,sm⟩:=z;let J:i<ls.flatten.length:=(al.mp hi).1;let⟨l,hl,O⟩:=List.mem_flatten.mp (b8 hi);let G:j L=some (.lst ((List.replicate i true).map V.bl))/\((List.replicate i true).map V.bl).length<sizeLine/\iK ls.flatten.length i ((List.replicate i true).map V.bl++[V.bl true]=(List.replicate (i+1) true).map V.bl/\upd j L (.lst ((List.replicate i true).map V.bl++[V.bl true])) L=some (.lst ((List.replicate i true).map V.bl++[V.bl true]))/\aD H (upd j L (.lst ((List.replicate i true).map V.bl++[V.bl true])))):=
   (bY F (by rw[aa,dL];show aJ t6) (iK.mk J (bY (yh i) au (sm.dU (s1.free Z)))))
  calc(aK [c] [46] rb rb (bh _ rb ?_));rcases hc l hl c O with e|e
  .subst e;rw[aw rfl];show cR G
  .by_cases I:[c]=[46]
   .rw[aw I];show cR G
   .rw[ah I];calc cM (.inr (bH [c] rb (by show 1<=1000;decide) ?_));rw[show Ds [c]=true from e];show G
 .intro ys j z;let⟨rfl,F,sm⟩:=z;calc(aK L _ rb (bI.of F) ?_);rw[Aj];show q j sm
def Xp:Sp:=λvs H Q _=>∃(p:Addr) (ls:AA) (r w:Nat),vs=[.ref p]/\H p=some (.tup (Ts ls))/\Blk r w ls/\1<=r/\r<=9/\1<=w/\w<=9/\(∀l∈ls,∀c∈l,O5 c)/\∀H',aD H H'->Q (.bl true) H'
def Sv (D:aO K mg "are_marks" uT ["thing"])(fK:mg "all"=none)(Am:∃t,mg "MARKS"=some (.str (S MK) t))(Z:cu P w K mg base "is_block" 1 ["thing"] Mu):cu P w K mg base "are_marks" 2 ["thing"] Xp:=by
 calc D.dM Em (λf bN A outer s H vs Q E hr h=>?_);let⟨p,ls,r,w,rfl,hp,hb,r1,r9,w1,w9,Y,q⟩:=h;let O:r*w<=81:=io r9 w9;let hfl:=xY hb;calc(aM _ (aF (bD (lW (bK Z hr.mono rb (aj aG ao)) (j8 (aW (j6 rb) ue fK jV (aj (jG rb (ju.of Em.nd ui) (vH (gq bz di dq xR (bL [] uj) (aj aG ao))) (λ_ _ _ _ _=>eG) (λ_ _ _ _ _=>(gK ahx aG (uN ue Am) rb))) ao)))))) ?_);calc(uP p ls r w rb hp hb r1 r9 w1 w9 (λH1 s1=>?_));calc⟨rb,dF p ls rb rb (aU.of (s1 _ _ hp)) t6 (aM _ rb (λL J=>?_))⟩;refine xQ (λi ys F=>ys=(List.replicate i true).map V.bl/\F L=some (.lst ys)/\aD H F) (bY rb au (s1.dU (s1.free J))) ?_ ?_
 .intro i c ys F hi z;let⟨rfl,j,sm⟩:=z;let G:i<ls.flatten.length:=(al.mp hi).1;let⟨l,hl,I⟩:=List.mem_flatten.mp (b8 hi);calc(dF c MK rb rb j (by rw[aa,dL];show aJ t6) (iK.mk G (bY ?_ au (sm.dU (s1.free J)))));rw[aw (show c∈MK from Y l hl c I)];show yh i
 .intro ys F z;let⟨rfl,j,sm⟩:=z;calc(aK L _ rb (bI.of j) ?_);rw[Aj];show q F sm
def Iw (K:W.Frag):Sp:=λvs H Q _=>∃(p:Addr) (ls:AA) (r w:Nat) (i j:Int),vs=[.ref p,.int i,.int j]/\aU K H p (Ts ls)/\Blk r w ls/\1<=r/\r<=9/\w<=9/\Q (.bl (decide (0<=i/\i<r/\0<=j/\j<w))) H
def Qc (D:aO K mg "is_cell_of" pJ ["rows","row","column"])(G:mg "len"=none)(I:cu P w K mg base "is_whole" 1 ["thing"] Xo):cu P w K mg base "is_cell_of" 2 ["rows","row","column"] (Iw K):=by
 calc D.dM Dq (λf bN A outer s H vs Q E J h=>?_);let⟨p,ls,r,w,i,j,rfl,hp,hb,r1,r9,w9,q⟩:=h;let O:(Ts ls).length=r:=by rw[aa,hb.len]
 let h0:0<ls.length:=by rw[hb.len];lia
 let F:ls[0].length=w:=hb.qC _ (a9 _);calc(aM _ (aB (cJ (QW.qt (oW (fQ (eO (bK I J.mono rb (aj aZ ao)))) (nC (fQ (eO (bK I J.mono rb (aj bG ao))))))) (aF (bD iY)) bR) (aF (bD (lW (mJ qT uM aq aZ (aW bZ ue G aE (aj aG ao))) (j8 (mJ qT uM aq bG (aW dw ue G aE (aj (bf bF aG aq (λ_ _=>rfl)) ao)))))))) ?_);calc(aM i rb (cM (aM j rb (cM ?_))));calc(aK _ _ rb rb (bh _ rb ?_));by_cases h1:0<=i
 .rw[aw h1];calc cR (aK p _ rb (.inr hp) (aK _ _ rb rb (bh _ rb ?_)));rw[O];by_cases h2:i<(r:Int)
  .rw[aw h2];calc cR (aK _ _ rb rb (bh _ rb ?_));by_cases h3:0<=j
   .rw[aw h3];calc cR (bA p _ _ (.str (S ls[0])) rb rb hp (aV (j:=0) (oK (by simp[h0]))) (bH _ rb (am (aJ t6)) (aK _ _ rb rb ?_)));rw[F];simpa [h1,h2,h3] using q
   .rw[ah h3];calc cM ?_;simpa [h1,h2,h3] using q
  .rw[ah h2];calc cM ?_;simpa [h1,h2] using q
 .rw[ah h1];calc cM ?_;show Q (.bl false) H;simpa [h1] using q
def Xq (K:W.Frag):Sp:=λvs H Q _=>∃(p b:Addr) (ls:AA) (r w:Nat) (i j:Nat),vs=[.ref p,.ref b]/\H p=some (.tup (Ts ls))/\H b=some (.tup [.int i,.int j])/\Blk r w ls/\1<=r/\r<=9/\w<=9/\i<r/\j<w/\Q (.bl true) H
def Mv (D:aO K mg "is_begin_of" qX ["rows","thing"])(I:mg "len"=none)(O:mg "tuple"=none)(G:mg "isinstance"=none)(F:cu P w K mg base "is_cell_of" 2 ["rows","row","column"] (Iw K)):cu P w K mg base "is_begin_of" 3 ["rows","thing"] (Xq K):=by calc D.dM Mp (λf bN A outer s H vs Q E Y h=>?_);let⟨p,b,ls,r,w,i,j,rfl,hp,hb,J,r1,r9,w9,hi,Z,q⟩:=h;calc(aM _ (aF (bD (lW (aW iu ue G c8 (aj aZ (aj (lQ (v:=.ty "tuple") ue O c_ rb) ao))) (lW (gK jD (aW bZ ue I aE (aj aZ ao)) aq (bO _)) (j8 (bK F Y.mono rb (aj aG (aj (bf bF aZ aq (λ_ _=>rfl)) (aj (bf bF aZ aq (λ_ _=>rfl)) ao))))))))) ?_);calc(gC _ _ _ true rb (.tup hb) ui (cR ?_));calc(aQ b _ rb (.inr (aU.of hb)) rb (cR ?_));calc(bA b _ _ (.int i) rb rb (aU.of hb) (aV (j:=0) rb) (bA b _ _ (.int j) rb rb (aU.of hb) (aV (j:=1) rb) ?_));calc(QH p ls r w i j rb (aU.of hp) J r1 r9 w9 ?_);rw[aw (Bx t6 t6 t6 t6)];show q
def Xr:Sp:=λvs H Q _=>∃(pr pm pb:Addr) (r w:Nat) (aA aN:AA) (i j:Nat),vs=[.ref pr,.ref pm,.ref pb]/\H pr=some (.tup (Ts aA))/\H pm=some (.tup (Ts aN))/\H pb=some (.tup [.int i,.int j])/\Xn r w aA aN i j/\∀H',aD H H'->Q (.bl true) H'
def V9 (D:aO K mg "is_board" wO ["rows","marks","begin"])(I:mg "len"=none)(Zz:cu P w K mg base "are_rows" 2 ["thing"] abp)(V_:cu P w K mg base "are_marks" 2 ["thing"] Xp)(Qd:cu P w K mg base "is_begin_of" 3 ["rows","thing"] (Xq K)):cu P w K mg base "is_board" 4 ["rows","marks","begin"] Xr:=by
 calc D.dM VR (λf bN A outer s H vs Q E O h=>?_);let⟨pr,pm,pb,r,w,aA,aN,i,j,rfl,G,hm,hb,B,q⟩:=h;let l1:(Ts aA).length=r:=by rw[aa,B.br.len]
 let l2:(Ts aN).length=r:=by rw[aa,B.bm.len]
 let h0:0<aA.length:=by rw[B.br.len];show B.r1
 let Y:0<aN.length:=by rw[B.bm.len];show B.r1
 let Z:aA[0].length=w:=B.br.qC _ (a9 _);let J:aN[0].length=w:=B.bm.qC _ (a9 _);let w9:=B.w9;calc(aM _ (aB (cJ (QW.qt (oW (fQ (eO (bK Zz O.mono rb (aj aG ao)))) (nC (fQ (eO (bK V_ O.mono rb (aj aZ ao))))))) (aF (bD iY)) bR) (aB (cJ (QW.qt (oW (bU GC (aW bZ ue I aE (aj aZ ao)) (aW bZ ue I aE (aj aG ao)) (bO _)) (nC (bU GC (aW dw ue I aE (aj (bf bF aZ aq (λ_ _=>rfl)) ao)) (aW dw ue I aE (aj (bf bF aG aq (λ_ _=>rfl)) ao)) (bO _))))) (aF (bD iY)) bR) (aF (bD (bK Qd O.mono rb (aj aG (aj bG ao))))))) ?_);calc⟨pr,aA,r,w,rb,G,B.br,B.r1,B.r9,B.w1,B.w9,B.cr,λH1 s1=>?_⟩;calc⟨pm,aN,r,w,rb,s1 _ _ hm,B.bm,B.r1,B.r9,B.w1,B.w9,B.cm,λH2 s2=>?_⟩;let F:=s1.trans s2;calc(aK pm _ rb (.inr (aU.of (F _ _ hm))) (aQ pr _ rb (.inr (aU.of (F _ _ G))) rb (bh _ rb ?_)));calc Qx (by rw[l1,l2]) ?_;calc(bA pm _ _ (.str (S aN[0])) rb rb (aU.of (F _ _ hm)) (aV (j:=0) (oK (by simp[Y]))) (bH _ rb (am (aJ t6)) (bA pr _ _ (.str (S aA[0])) rb rb (aU.of (F _ _ G)) (aV (j:=0) (oK (by simp[h0]))) (iM _ rb (am (aJ t6)) rb (bh _ rb ?_)))));calc Qx (by rw[Z,J]) ?_;calc⟨pr,pb,aA,r,w,i,j,rb,F _ _ G,F _ _ hb,B.br,B.r1,B.r9,B.w9,B.bi,B.bj,?_⟩;show q H2 F
structure gW (K:W.Frag)(C:Addr):Prop where
 cl:Cls K C
 nr:jh K C "rows"
 nm:jh K C "marks"
 nb:jh K C "begin"
structure cX (C:Addr)(H:Hp)(p:Addr)(r w:Nat)(aA aN:AA)(i j:Nat):Prop where
 ex:∃dx pr pm pb,H p=some (.ins C dx [("rows",.ref pr),("marks",.ref pm),("begin",.ref pb)])/\H pr=some (.tup (Ts aA))/\H pm=some (.tup (Ts aN))/\H pb=some (.tup [.int i,.int j])
 ok:Xn r w aA aN i j
def cX.mv {C:Addr}{H H':Hp}{p:Addr}{r w:Nat}{aA aN:AA}{i j:Nat}(B:cX C H p r w aA aN i j)(s:aD H H'):cX C H' p r w aA aN i j:=by obtain⟨⟨dx,pr,pm,pb,a,b,c,d⟩,o⟩:=B;show⟨(gC dx pr pm pb (s _ _ a) (s _ _ b) (s _ _ c) (s _ _ d)),o⟩
def Mw (C:Addr):Sp:=λvs H Q _=>∃(p dx pr pm pb:Addr) (r w:Nat) (aA aN:AA) (i j:Nat),vs=[.ref p,.ref pr,.ref pm,.ref pb]/\H p=some (.ins C dx [])/\H pr=some (.tup (Ts aA))/\H pm=some (.tup (Ts aN))/\H pb=some (.tup [.int i,.int j])/\Xn r w aA aN i j/\
 ∀H',(∀b o,H b=some o->b≠p->H' b=some o)->H' p=some (.ins C dx [("rows",.ref pr),("marks",.ref pm),("begin",.ref pb)])->Q .non H'
def Qe {f C:Addr}{fd:FuncData}(F:fu K "__init__" "Board.__init__" lC f fd)(T:gW K C)(Z:cu P w K mg base "is_board" 4 ["rows","marks","begin"] Xr):cB P w K mg base dH 5 f fd ["self","rows","marks","begin"] (Mw C):=by
 calc F.dM PX (λbN A outer s H vs Q E I h=>?_);let⟨p,dx,pr,pm,pb,r,w,aA,aN,i,j,rfl,hp,G,hm,hb,B,q⟩:=h;calc(aM _ (aB (cJ (fQ (eO (bK Z I.mono rb (aj aZ (aj bG (aj bJ ao)))))) vC bR) (aB (lV aG aZ rb) (aB (lV aG bG rb) (aF (lV aG bJ rb))))) ?_);calc⟨pr,pm,pb,r,w,aA,aN,i,j,rb,G,hm,hb,B,λH1 s1=>?_⟩;calc(iy p C dx _ rb (s1 _ _ hp) T.cl T.nr (by show 0<1000;decide) ?_);calc(iy p C dx _ rb au T.cl T.nm (by show 1<1000;decide) ?_);calc(iy p C dx _ rb au T.cl T.nb (by show 2<1000;decide) ?_);calc q _ (λb o e D=>?_) ?_;.rw[aY D,aY D,aY D];show s1 _ _ e
 .show au
noncomputable def atC (aA:AA)(r w:Nat)(i j:Int):Nat:=if 0<=i/\i<r/\0<=j/\j<w then (aA.getD i.toNat []).getD j.toNat 0 else 46
def ZD (C:Addr):Sp:=λvs H Q _=>∃(p:Addr) (r w:Nat) (aA aN:AA) (bi bj:Nat) (i j:Int),vs=[.ref p,.int i,.int j]/\cX C H p r w aA aN bi bj/\Q (.str (S [atC aA r w i j])) H
def aju {f C:Addr}{fd:FuncData}(F:fu K "at" "Board.at" oF f fd)(T:gW K C)(Y:∃t,mg "FREE"=some (.str (S [46]) t))(J:cu P w K mg base "is_cell_of" 2 ["rows","row","column"] (Iw K)):cB P w K mg base dH 3 f fd ["self","row","column"] (ZD C):=by
 calc F.dM V0 (λbN A outer s H vs Q E Z h=>?_);let⟨p,r,w,aA,aN,bi,bj,i,j,rfl,B,q⟩:=h;obtain⟨⟨dx,pr,pm,pb,hp,G,hm,hb⟩,O⟩:=B;let w9:=O.w9;calc(aM _ (aF (bD (oh (eO (bK J Z.mono rb (aj (cg aG rb) (aj aZ (aj bG ao))))) (bf sO (bf bF (cg aG rb) aZ (λ_ _=>rfl)) bG (λ_ _=>rfl)) (uN ue Y)))) ?_);calc(cL p C dx _ _ rb hp T.cl T.nr rb (QH pr aA r w i j rb (aU.of G) O.br O.r1 O.r9 O.w9 (bh _ rb ?_)));by_cases h:0<=i/\i<r/\0<=j/\j<w
 .rw[aw h];let e:atC aA r w i j=(aA.getD i.toNat []).getD j.toNat 0:=if_pos h;rw[e]at q;obtain⟨i,rfl⟩:∃k:Nat,i=k:=⟨i.toNat,t6⟩
  obtain⟨j,rfl⟩:∃k:Nat,j=k:=⟨j.toNat,t6⟩
  rw[c9,c9]at q;let hi:i<aA.length:=by rw[O.br.len];lia
  let D:aA[i]?=some (aA.getD i []):=by rw[ap,ae hi];rfl
  let hw:(aA.getD i []).length=w:=O.br.qC _ (b8 D);let I:(aA.getD i [])[j]?=some ((aA.getD i []).getD j 0):=by rw[ap (l:=aA.getD i []),ae t6];rfl
  refine cR (cL p C dx _ _ rb hp T.cl T.nr rb (bA pr _ _ _ rb rb (aU.of G) (aV (oK D)) (d7 _ _ _ rb rb (am (aJ t6)) (aV I) q)))
 .rw[ah h];let e:atC aA r w i j=46:=if_neg h;rw[e]at q;show cM q
def isFree (aA:AA):Bool:=aA.flatten.all λc=>decide ([c]=[46])
def Sw (C:Addr):Sp:=λvs H Q _=>∃(p:Addr) (r w:Nat) (aA aN:AA) (bi bj:Nat),vs=[.ref p]/\cX C H p r w aA aN bi bj/\∀H',aD H H'->Q (.bl (isFree aA)) H'
def ZF {f C:Addr}{fd:FuncData}(F:fu K "is_free" "Board.is_free" jz f fd)(T:gW K C)(fK:mg "all"=none)(Y:∃t,mg "FREE"=some (.str (S [46]) t)):cB P w K mg base dH 1 f fd ["self"] (Sw C):=by
 calc F.dM xZ (λbN A outer s H vs Q E hr h=>?_);let⟨p,r,w,aA,aN,bi,bj,rfl,B,q⟩:=h;obtain⟨⟨dx,pr,pm,pb,hp,I,hm,hb⟩,O⟩:=B;let Z:r*w<=81:=io O.r9 O.w9;let hfl:=xY O.br;calc(aM _ (aF (bD (aW (j6 rb) ue fK jV (aj (jG rb (ju.of xZ.nd ui) (vH (gq bz di dq xR (bL [] uj) (aj (cg aG rb) ao))) (λ_ _ _ _ _=>eG) (λ_ _ _ _ _=>(gK lU aG (uN ue Y) (bO _)))) ao)))) ?_);calc⟨rb,cL p C dx _ _ rb hp T.cl T.nr rb (dF pr aA rb rb (aU.of I) t6 (aM _ rb (λL J=>?_)))⟩;refine xQ (λi ys D=>ys=((aA.flatten.take i).map λc=>decide ([c]=[46])).map V.bl/\D L=some (.lst ys)/\aD H D) (bY rb au (aD.upd J)) ?_ ?_
 .intro i c ys D hi z;let⟨rfl,j,sm⟩:=z;let G:i<aA.flatten.length:=(al.mp hi).1;calc(dF [c] [46] rb rb j ?_ (iK.mk G (bY ?_ au (sm.dU J))));.rw[aa,aa,ay];show aJ t6
  .rw[du,hi];simp
 .intro ys D z;let⟨rfl,j,sm⟩:=z;rw[cS]at j;calc(aK L _ rb (bI.of j) ?_);let e:((aA.flatten.map λc=>decide ([c]=[46])).all id)=isFree aA:=by
   unfold isFree;rw[List.all_map];rfl
  rw[e];show q D sm
def QM (aA:AA)(j:Nat):List Nat:=aA.map λl=>l.getD j 0
def lineOf (aA:AA)(i j:Nat)(way:Int):List Nat:=if way=0 then aA.getD i [] else QM aA j
def placeOf (i j:Nat)(way:Int):Nat:=if way=0 then j else i
def aey:Sp:=λvs H Q _=>∃(p:Addr) (aA:AA) (r w j:Nat),vs=[.ref p,.int j]/\H p=some (.tup (Ts aA))/\Blk r w aA/\r<=9/\w<=9/\j<w/\∀H',aD H H'->Q (.str (S (QM aA j))) H'
def Mx (D:aO K mg "column_text" qY ["rows","column"]):cu P w K mg base "column_text" 1 ["rows","column"] aey:=by
 calc D.dM Ai (λf bN A outer s H vs Q E hr h=>?_);let⟨p,aA,r,w,j,rfl,hp,hb,r9,w9,Z,q⟩:=h;calc(aM _ (aF (bD (gq bz di dq rJ (bL [] uj) (aj (jG rb (ju.of Ai.nd ui) (iB aG) (λ_ _ _ _ _=>eG) (λ_ _ _ _ _=>(bf sO aG bG (λ_ _=>rfl)))) ao)))) ?_);let Y:(Ts aA).length=r:=by rw[aa,hb.len]
 refine⟨rb,bH p rb ⟨_,aU.of hp⟩ (λL J=>pH (xs:=Ts aA) (λi ys G=>ys=Ts (ones ((aA.take i).map λl=>l.getD j 0))/\G L=some (.lst ys)/\aD H G) (bY rb au (aD.upd J)) (λi ys G _ h=>aU.of (h.2.2 _ _ hp)) ?_ ?_)⟩
 .intro i x ys G hi z;let⟨rfl,F,sm⟩:=z;let⟨l,hl,rfl⟩:=yg hi;let I:i<(Ts aA).length:=(al.mp hi).1;let O:l.length=w:=hb.qC _ (b8 hl);calc(G4 l _ (l.getD j 0) rb rb (am (aJ t6)) ?_ F ?_ (iK.mk I (bY ?_ au (sm.dU J))));.show aV (by rw[ap,ae t6];rfl)
  .rw[aa,aa,aa,ay];show aJ t6
  .rw[Mt,abo,du,hl];simp
 .intro ys G z;let⟨rfl,F,sm⟩:=z;rw[Y,<-hb.len,cS]at F;calc(dF L _ rb rb (bI.of F) ?_ ?_);.rw[mD,aa,hb.len];lia
  .rw[mD];show q G sm
def wX {r w:Nat}{aA:AA}(hb:Blk r w aA){i j:Nat}(hi:i<r){way:Int}:(lineOf aA i j way).length=if way=0 then w else r:=by
 unfold lineOf;by_cases h:way=0
 .rw[if_pos h,if_pos h,ap,ae (by rw[hb.len];show hi)];show hb.qC _ (a9 _)
 .rw[if_neg h,if_neg h];unfold QM;rw[aa,hb.len]
def rR (l:List Nat):(iZ l).length<=l.length:=by unfold iZ;rw[List.length_reverse];show bS (List.takeWhile_prefix _).length_le (by rw[List.length_reverse];show ai _)
def za (l:List Nat):(jQ l).length<=l.length:=(List.takeWhile_prefix _).length_le
noncomputable def adf (i j:Nat)(way:Int)(l:List Nat):List V:=if way=0 then [.int i,.int ((j:Int)-(iZ (l.take j)).length),.str (S (iZ (l.take j)++jQ (l.drop j)))] else [.int ((i:Int)-(iZ (l.take i)).length),.int j,.str (S (iZ (l.take i)++jQ (l.drop i)))]
def aez (C:Addr):Sp:=λvs H Q _=>∃(p:Addr) (r w:Nat) (aA aN:AA) (bi bj i j:Nat) (way:Int),vs=[.ref p,.int i,.int j,.int way]/\cX C H p r w aA aN bi bj/\i<r/\j<w/\(way=0\/way=1)/\
 ∀(t:Addr) (H':Hp),aD H H'->H t=none->H' t=some (.tup (adf i j way (lineOf aA i j way)))->Q (.ref t) H'
def ah3 {f C:Addr}{fd:FuncData}(F:fu K "run" "Board.run" mK f fd)(T:gW K C)(bC:mg "len"=none)(gF:∃t,mg "FREE"=some (.str (S [46]) t))(Qf:cu P w K mg base "column_text" 1 ["rows","column"] aey):cB P w K mg base dH 2 f fd ["self","row","column","way"] (aez C):=by
 calc F.dM nJ (λbN A outer s H vs Q E hr h=>?_);let⟨p,r,w,aA,aN,bi,bj,i,j,way,rfl,B,hi,hj,akb,q⟩:=h;obtain⟨⟨dx,pr,pm,pb,hp,Y,hm,hb⟩,O⟩:=B;let r9:=O.r9;let w9:=O.w9;calc(aM _ (aB (aX (i:=4) nJ.nd rb (Or.inl rb) (oh (bU jD bJ aq (bO _)) (bf bF (cg aG rb) aZ (λ_ _=>rfl)) (bK Qf hr.mono rb (aj (cg aG rb) (aj bG ao))))) (aB (aX (i:=5) nJ.nd rb (Or.inl rb) (oh (bU jD bJ aq (bO _)) bG aZ)) (aB (aX (i:=6) nJ.nd rb (Or.inl rb) (bf bF (gq bz PySem.F.slot_str_rpartition PySem.F.type_str_rpartition acW (fD vQ dI ji (fG fj)) (aj (uN ue gF) ao)) aq (λ_ _=>rfl))) (aB (aX (i:=7) nJ.nd rb (Or.inl rb) (aL kZ fU (bf bF (gq bz PySem.F.slot_str_partition PySem.F.type_str_partition afe (fD vQ dI (fG fj) ji) (aj (uN ue gF) ao)) aq (λ_ _=>rfl)))) (aB (aX (i:=8) nJ.nd rb (Or.inl rb) (aL qJ fj (aW dw ue bC aE (aj fU ao)))) (aF (bD (oh (bU jD bJ aq (bO _)) (dJ (aj aZ (aj mX (aj jl ao)))) (dJ (aj mX (aj bG (aj jl ao)))))))))))) ?_);let I:aA[i]?=some (aA.getD i []):=by rw[ap,ae (by rw[O.br.len];show hi)];rfl
 rcases akb with rfl|rfl
 .let G:(lineOf aA i j 0).length=w:=wX O.br hi;let el:aA.getD i []=lineOf aA i j 0:=rfl;rw[el]at I;let hz:∀l:List Nat,l.length<=100->l.length<=sizeLine:=λl h=>am (aJ t6);calc⟨rb,cR ?_⟩;calc(cL p C dx _ _ rb hp T.cl T.nr rb (bA pr _ _ _ rb rb (aU.of Y) (aV (oK I)) ?_));generalize hL:lineOf aA i j 0=l at G I ⊢;calc⟨rb,cR ?_⟩;calc(aM _ rb (iM l rb (hz _ t6) rb ?_));rw[aa2];calc(iM _ rb rb (by rw[ay];lia) (λp1 a1 b1 J=>?_));calc(bA p1 _ _ _ rb rb (aU.of au) (aV (j:=2) rb) ?_);let s1:aD H (upd H p1 (.tup [.str a1,.str b1,.str (S (iZ (l.take j)))])):=aD.upd J;generalize upd H p1 (.tup [.str a1,.str b1,.str (S (iZ (l.take j)))])=H1 at s1 ⊢;let t1:=rR (l.take j);let Z:=za (l.drop j);rw[ay]at t1;rw[bv]at Z;calc(aM _ rb (iM l rb (hz _ t6) rb ?_));rw[RK];calc(iM _ rb rb (by rw[bv];lia) (λp2 b2 c2 D=>?_));calc(bA p2 _ _ _ rb rb (aU.of au) (aV (j:=0) rb) (aQ _ _ rb rb (am (aJ t6)) ?_));let s2:=s1.dU (o:=HO.tup [.str (S (jQ (l.drop j))),.str b2,.str c2]) (s1.free D);generalize upd H1 p2 (HO.tup [.str (S (jQ (l.drop j))),.str b2,.str c2])=H2 at s2 ⊢;calc(bH _ rb (hz _ t6) (aK _ _ rb rb ?_));calc⟨rb,cR ?_⟩;calc⟨zsz 3,λt ht=>?_⟩;show q t _ (s2.dU (s2.free ht)) (s2.free ht) (by rw[au,hL];rfl)
 .let G:(lineOf aA i j 1).length=r:=wX O.br hi;let el:QM aA j=lineOf aA i j 1:=rfl;let hz:∀l:List Nat,l.length<=100->l.length<=sizeLine:=λl h=>am (aJ t6);calc⟨rb,cM ?_⟩;calc(cL p C dx _ _ rb hp T.cl T.nr rb (Zn pr aA r w j rb Y O.br r9 w9 hj (λH0 s0=>?_)));rw[el];generalize hL:lineOf aA i j 1=l at G ⊢;calc⟨rb,cM ?_⟩;calc(aM _ rb (iM l rb (hz _ t6) rb ?_));rw[aa2];calc(iM _ rb rb (by rw[ay];lia) (λp1 a1 b1 J=>?_));calc(bA p1 _ _ _ rb rb (aU.of au) (aV (j:=2) rb) ?_);let s1:aD H (upd H0 p1 (.tup [.str a1,.str b1,.str (S (iZ (l.take i)))])):=s0.dU (s0.free J);generalize upd H0 p1 (.tup [.str a1,.str b1,.str (S (iZ (l.take i)))])=H1 at s1 ⊢;let t1:=rR (l.take i);let Z:=za (l.drop i);rw[ay]at t1;rw[bv]at Z;calc(aM _ rb (iM l rb (hz _ t6) rb ?_));rw[RK];calc(iM _ rb rb (by rw[bv];lia) (λp2 b2 c2 D=>?_));calc(bA p2 _ _ _ rb rb (aU.of au) (aV (j:=0) rb) (aQ _ _ rb rb (am (aJ t6)) ?_));let s2:=s1.dU (o:=HO.tup [.str (S (jQ (l.drop i))),.str b2,.str c2]) (s1.free D);generalize upd H1 p2 (HO.tup [.str (S (jQ (l.drop i))),.str b2,.str c2])=H2 at s2 ⊢;calc(bH _ rb (hz _ t6) (aK _ _ rb rb ?_));calc⟨rb,cM ?_⟩;calc⟨zsz 3,λt ht=>?_⟩;show q t _ (s2.dU (s2.free ht)) (s2.free ht) (by rw[au,hL];rfl)
abbrev bQ:=Nat×Nat×Nat
def yj (H:Hp)(a:Addr)(t:bQ):Prop:=H a=some (.tup [.int t.1,.int t.2.1,.str (S [t.2.2])])
noncomputable def tO (H:Hp)(a:Addr):bQ:=match H a with| some (.tup [.int x,.int y,.str z])=>(x.toNat,y.toNat,z.cps.toList.headD 0)| _=>(0,0,0)
def Kv {H:Hp}{a:Addr}{t:bQ}(h:yj H a t):tO H a=t:=by unfold tO;rw[show H a=_ from h];rfl
structure fB (H:Hp)(as:List Addr)(ts:List bQ):Prop where
 at_:∀a∈as,yj H a (tO H a)
 eq:as.map (tO H)=ts
def fB.Ah {H H':Hp}{as:List Addr}{ts:List bQ}(k:∀a xs,H a=some (.tup xs)->H' a=some (.tup xs))(h:fB H as ts):fB H' as ts:=by let e:∀a∈as,tO H' a=tO H a:=λa ha=>Kv (k a _ (h.at_ a ha));show⟨λa ha=>by rw[e a ha];show k a _ (h.at_ a ha),by rw[<-h.eq];show fE e⟩
def fB.mv {H H':Hp}{as:List Addr}{ts:List bQ}(k:aD H H')(h:fB H as ts):fB H' as ts:=h.Ah λa xs e=>k a _ e
def fB.snoc {H:Hp}{as:List Addr}{ts:List bQ}{a:Addr}{t:bQ}(h:fB H as ts)(ha:yj H a t):fB H (as++[a]) (ts++[t]):=by
 calc⟨λb hb=>?_,by rw[cq,h.eq,List.map_singleton,Kv ha]⟩;rcases be.mp hb with z|z;.show h.at_ b z
 .rw[a_.mp z,Kv ha];show ha
def fB.nil {H:Hp}:fB H [] []:=⟨λa h=>by simp at h,rb⟩
def fB.len {H:Hp}{as:List Addr}{ts:List bQ}(h:fB H as ts):as.length=ts.length:=by rw[<-h.eq,aa]
def fB.get {H:Hp}{as:List Addr}{ts:List bQ}(h:fB H as ts){i:Nat}(hi:i<as.length):∃t,ts[i]?=some t/\yj H as[i] t:=(aM (tO H as[i]) (by rw[<-h.eq];simp[hi]) (h.at_ _ (a9 _)))
def setAt (R:AA)(i j z:Nat):List (List Nat):=R.set i ((R.getD i []).set j z)
def dR (R:AA)(ts:List bQ):List (List Nat):=ts.foldl (λR t=>setAt R t.1 t.2.1 t.2.2) R
def Mz {r w:Nat}{R:AA}(h:Blk r w R){i j z:Nat}(hi:i<r):Blk r w (setAt R i j z):=by
 calc⟨by unfold setAt;rw[gf,h.len],λl hl=>?_⟩;rcases fR hl with y|y;.show h.qC l y
 .rw[y,gf,ap,ae (by rw[h.len];show hi)];show h.qC _ (a9 _)
def afA {r w:Nat}{R:AA}(h:Blk r w R){i j z:Nat}(hi:i<r){F:Nat->Prop}(hp:∀l∈R,∀c∈l,F c)(hz:F z):∀l∈setAt R i j z,∀c∈l,F c:=λl hl c D=>by
 rcases fR hl with y|y;.show hp l y c D
 .rw[y]at D;rcases fR D with u|u
  .rw[ap,ae (by rw[h.len];show hi)]at u;show hp _ (a9 _) c u
  .rw[u];show hz
def inB (r w:Nat)(t:bQ):Prop:=t.1<r/\t.2.1<w/\qz t.2.2
theorem rF {r w:Nat}:∀{ts:List bQ} {R:AA},Blk r w R->(∀t∈ts,inB r w t)->Blk r w (dR R ts)
 | [],_,h,_=>h
 | t::ts,_,h,k=>rF (ts:=ts) (Mz h (k t bX).1) λx hx=>k x (bq _ hx)
theorem Iz {r w:Nat}:∀{ts:List bQ} {R:AA},Blk r w R->(∀t∈ts,inB r w t)->(∀l∈R,∀c∈l,Ew c)->∀l∈dR R ts,∀c∈l,Ew c
 | [],_,_,_,g=>g
 | t::ts,_,h,k,g=>Iz (ts:=ts) (Mz h (k t bX).1) (λx hx=>k x (bq _ hx)) (afA h (k t bX).1 g (.inr (k t bX).2.2))
def adg {r w:Nat}{aA aN:AA}{bi bj:Nat}(B:Xn r w aA aN bi bj){ts:List bQ}(k:∀t∈ts,inB r w t):Xn r w (dR aA ts) aN bi bj:=⟨B.r1,B.r9,B.w1,B.w9,rF B.br k,B.bm,Iz B.br k B.cr,B.cm,B.bi,B.bj⟩
def abq (R:AA)(ts:List bQ)(t:bQ):dR R (ts++[t])=setAt (dR R ts) t.1 t.2.1 t.2.2:=by unfold dR;rw[List.foldl_append];rfl
structure jN (H0 H:Hp)(ps:List Addr)(R:AA):Prop where
 len:ps.length=R.length
 nd:ps.Nodup
 fr:∀p∈ps,H0 p=none
 at_:∀(i:Nat) (h:i<ps.length),H ps[i]=some (.lst (Ts (ones (R.getD i []))))
def jN.mv {H0 H H':Hp}{ps:List Addr}{R:AA}(h:jN H0 H ps R)(k:∀p∈ps,H' p=H p):jN H0 H' ps R:=⟨h.len,h.nd,h.fr,λi hi=>by rw[k _ (a9 _)];show h.at_ i hi⟩
def jN.mvS {H0 H H':Hp}{ps:List Addr}{R:AA}(h:jN H0 H ps R)(k:aD H H'):jN H0 H' ps R:=⟨h.len,h.nd,h.fr,λi hi=>k _ _ (h.at_ i hi)⟩
def jN.snoc {H0 H:Hp}{ps:List Addr}{R:AA}(h:jN H0 H ps R){p:Addr}{l:List Nat}(hn:p∉ps)(h0:H0 p=none)(hp:H p=some (.lst (Ts (ones l)))):jN H0 H (ps++[p]) (R++[l]):=by
 refine⟨by simp[h.len],?_,λx hx=>?_,λi hi=>?_⟩
 .rw[List.nodup_append];calc(bY h.nd t7 (λa ha b hb=>?_));rw[a_.mp hb];show λz=>hn (z ▸ ha)
 .rcases be.mp hx with z|z;.show h.fr x z
  .rw[a_.mp z];show h0
 .by_cases c:i<ps.length;.rw[List.getElem_append_left c,h.at_ i c,ap,ap,eW (by rw[<-h.len];show c)]
  .let e:i=ps.length:=by simp at hi;lia
   subst e;rw[List.getElem_append_right (ai _)];simp only[me,List.getElem_singleton];rw[hp,ap,dP (by rw[h.len];show ai _),h.len];simp
def jN.set {H0 H:Hp}{ps:List Addr}{R:AA}(h:jN H0 H ps R){i j z:Nat}(hi:i<ps.length):jN H0 (upd H ps[i] (.lst ((Ts (ones (R.getD i []))).set j (.str (S [z]))))) ps (setAt R i j z):=by
 let e:(Ts (ones (R.getD i []))).set j (.str (S [z]))=Ts (ones ((R.getD i []).set j z)):=by show List.set (((R.getD i []).map λc=>[c]).map λl=>V.str (S l)) j (V.str (S [z]))=((List.set (R.getD i []) j z).map λc=>[c]).map λl=>V.str (S l);rw[rh,rh]
 rw[e];calc⟨by unfold setAt;rw[gf];show h.len,h.nd,h.fr,λk D=>?_⟩;by_cases c:k=i
 .subst c;rw[au];unfold setAt;rw[ap (l:=R.set _ _),i8 (by rw[<-h.len];show hi)];rfl
 .rw[aY (λz=>c ((List.getElem_inj h.nd).mp z)),h.at_ k D];unfold setAt;rw[ap (l:=R.set _ _),ku (λz=>c z.symm),<-ap]
def Kw (C:Addr):Sp:=λvs H Q _=>∃(p t:Addr) (as:List Addr) (ts:List bQ) (r w:Nat) (aA aN:AA) (bi bj:Nat),vs=[.ref p,.ref t]/\cX C H p r w aA aN bi bj/\H t=some (.tup (as.map V.ref))/\fB H as ts/\(∀t∈ts,inB r w t)/\
 ∀(j:Addr) (H':Hp),aD H H'->cX C H' j r w (dR aA ts) aN bi bj->Q (.ref j) H'
def afB {f C f0:Addr}{fd eV:FuncData}(F:fu K "laid" "Board.laid" lD f fd)(T:gW K C)(pO:mg "list"=none)(cI:mg "tuple"=none)(IV:mg "Board"=some (.ref C))(MF:Mk K C f0)(MJ:cB P w K mg base dH 5 f0 eV ["self","rows","marks","begin"] (Mw C))(MN:bT K eV ["self","rows","marks","begin"] []):cB P w K mg base dH 8 f fd ["self","laying"] (Kw C):=by
 calc F.dM lR (λbN A outer s H vs Q E hr h=>?_);let⟨p,t,as,ts,r,w,aA,aN,bi,bj,rfl,BA,ht,hL,dZ,q⟩:=h;obtain⟨⟨dx,pr,pm,pb,hx,hpr,hpm,hpb⟩,B⟩:=BA;let r9:=B.r9;let w9:=B.w9;let O:=B.br;calc(aM _ (aB (W9 (ix:=2) (ns:=["row"]) lR.nd rb (Or.inl rb) rb (kh.of ["self","laying","lines",".3","column","sign"] [3] ui) (iB (cg aG rb)) (λ_ _ _ _ _=>(LQ (show (["row","self","laying","lines",".3","column","sign"]:List Str).Nodup by decide +kernel) rb ue)) (λ_ _ _ _ _=>eG) (λ_ _ _ _ _=>(gR (Bq rb) ue pO oQ (aj aG ao)))) (aB (fP dr rb (iB aZ) (vD rb (dz (cj (i:=3) lR.nd rb (Or.inl rb)) (dz (cj (i:=4) lR.nd rb (Or.inl rb)) (dz (cj (i:=5) lR.nd rb (Or.inl rb)) rK)))) (aF (xP fj (J1 (bf iQ bG bJ (λ_ _=>rfl)) dI set_list)))) (aF (bD (rM MF MJ hr.mono rb IV MN .nil dO (aj (gR iW ue cI c_ (aj (jG rb (ju.of lR.nd ui) (qj bG) (λ_ _ _ _ _=>eG) (λ_ _ _ _ _=>(RJ K bz di dq (Io K) (bL [] uj) (aj aG ao)))) ao)) (aj (cg aG rb) (aj (cg aG rb) ao)))))))) ?_);refine(cL p C dx _ _ rb hx T.cl T.nr rb (bH pr rb ⟨_,aU.of hpr⟩ (λM hM=>J2 (f:=kj [3] 0) (tt:=nu) (xs:=Ts aA) (λi ys H2=>∃ps:List Addr,ys=ps.map V.ref/\H2 M=some (.lst ys)/\aD H H2/\jN H H2 ps (aA.take i)/\M∉ps)
  (oY [] rb au (aD.upd hM) ⟨t7,tP,λp h=>by simp at h,λi h=>by simp at h⟩ t7) (λi ys H2 _ h=>by let⟨_,_,_,sm,_⟩:=h;show aU.of (sm _ _ hpr)) ?_ ?_)))
 .intro i x ys H2 hi z;let⟨ps,rfl,Ky,sm,Xu,nM⟩:=z;let⟨l,hl,rfl⟩:=yg hi;let hil:i<(Ts aA).length:=(al.mp hi).1;let hlw:l.length=w:=O.qC _ (b8 hl);let qM:(Ts aA).length=r:=by rw[aa,O.len]
  let hpl:ps.length<=9:=by rw[Xu.len,ay,O.len];lia
  calc aeu (bH l rb t6 (λc hc=>?_));let ncM:M≠c:=λz=>by rw[<-z,Ky]at hc;cases hc
  let ncp:c∉ps:=λz=>by let⟨k,hk,e⟩:=dC.mp z;have:=Xu.at_ k hk;rw[e,hc]at this;cases this
  refine(bY (by rw[aY ncM];show Ky) (by rw[aa];show aJ t6) (iK.mk hil (oY (ps++[c]) t7 au ((sm.dU (sm.free hc)).dU hM) ?_ ?_)))
  .rw[show aA.take (i+1)=aA.take i++[l] by rw[du,hl];rfl];calc jN.mv ((Xu.mvS (aD.upd hc)).snoc ncp (sm.free hc) au) λy hy=>aY λz=>?_;rcases be.mp hy with u|u
   .show nM (z ▸ u)
   .show ncM (z.symm.trans (a_.mp u))
  .intro z;rcases be.mp z with u|u;.show nM u
   .show ncM (a_.mp u)
 .intro ys H2 z;let⟨ps,rfl,Ky,sm,Xu,nM⟩:=z;rw[ck (by rw[aa];show ai _)]at Xu;refine(bH t rb ⟨_,aU.of (sm _ _ ht)⟩ (Gz (K:=K) (a:=t) (xs:=as.map V.ref) (λi σ H3=>∃v3 v4 v5:Option V,σ=[some (.ref p),some (.ref t),some (.ref M),v3,v4,v5]/\aD H H3/\H3 M=some (.lst (ps.map V.ref))/\jN H H3 ps (dR aA (ts.take i)))
   (cW none none none rb sm Ky Xu) (λi σ H3 _ h=>by let⟨_,_,_,_,sm,_⟩:=h;show aU.of (sm _ _ ht)) ?_ ?_))
  .intro i x σ H3 j z;let⟨v3,v4,v5,rfl,D,Hy,G⟩:=z;rw[cz]at j;let hi:i<as.length:=by
    rcases js i as.length with z|z;.show z
    .rw[mf z]at j;cases j
   rw[ae hi]at j;let j:V.ref as[i]=x:=bP j;subst j;let⟨u,eu,hU⟩:=hL.get hi;let hum:=b8 eu;let⟨u1,u2,u3⟩:=dZ u hum;let hb3:Blk r w (dR aA (ts.take i)):=rF O λy hy=>dZ y (de hy);let hpl:ps.length=r:=by rw[G.len,hb3.len]
   let Z:u.1<ps.length:=t6;calc(aQ (as[i]) _ rb (aU.of (D _ _ hU)) rb (eU _ _ rb (eU _ _ rb (aK _ _ rb rb ?_))));refine(bA M _ _ (.ref ps[u.1]) rb rb (bI.of Hy) (aV (by simp[Z])) (bA (ps[u.1]) _ _ u.2.1 rb rb (G.at_ u.1 Z) ?_ ?_))
   .have:((dR aA (ts.take i)).getD u.1 []).length=w:=by
     rw[ap,ae (by rw[hb3.len];show u1)];show hb3.qC _ (a9 _)
    unfold yI;rw[aa,aa,this,if_pos t6,if_pos t6];congr 1
   .refine(cW _ _ _ rb (D.dU (G.fr _ (a9 _))) ?_ ?_)
    .let ne:M≠ps[u.1]:=λz=>nM (by rw[z];show a9 _)
     rw[aY ne];show Hy
    .rw[show dR aA (ts.take (i+1))=setAt (dR aA (ts.take i)) u.1 u.2.1 u.2.2 by rw[du,eu];show abq _ _ _];show G.set Z
  .intro σ H3 z;let⟨v3,v4,v5,rfl,D,Hy,G⟩:=z;rw[ck (by rw[aa,hL.len];show ai _)]at G;let B':=adg B dZ;let hpl:ps.length=r:=by rw[G.len,B'.br.len]
   refine(bH M rb ⟨_,bI.of Hy⟩ (λN hN=>aaV (xs:=ps.map V.ref) (λi ys Y=>ys=Ts ((dR aA ts).take i)/\Y N=some (.lst ys)/\aD H3 Y) (bY rb au (aD.upd hN)) (λi ys Y _ h=>bI.of (h.2.2 _ _ Hy)) ?_ ?_))
   .intro i x ys Y hi z;let⟨rfl,J,Kz⟩:=z;rw[cz]at hi;let I:i<ps.length:=by
     rcases js i ps.length with z|z;.show z
     .rw[mf z]at hi;cases hi
    rw[ae I]at hi;let hi:V.ref ps[i]=x:=bP hi;subst hi;let zc:i<(dR aA ts).length:=by rw[<-G.len];show I
    let hg:(dR aA ts).getD i []=(dR aA ts)[i]:=by rw[ap,ae zc];rfl
    let hw:(dR aA ts)[i].length=w:=B'.br.qC _ (a9 _);let hat:=G.at_ i I;rw[hg]at hat;calc⟨rb,Ke (ps[i]) (ones (dR aA ts)[i]) rb rb (bI.of (Kz _ _ hat)) (by rw[mD,hw];lia) J ?_ (iK.mk (by rw[aa];show I) (bY ?_ au (Kz.dU hN)))⟩;.rw[aa,ay];show aJ t6
    .rw[mD,Mt,du,ae zc];rfl
   .intro ys Y z;let⟨rfl,J,Kz⟩:=z;rw[ck (by rw[aa,G.len];show ai _)]at J;calc(eU N _ rb (.inl ⟨bI.of J,λl hl=>?_⟩));let s5:=(D.trans Kz).dU (o:=.tup (Ts (dR aA ts))) ((D.trans Kz).free hl);calc(cL p C dx _ _ rb (s5 _ _ hx) T.cl T.nm rb (cL p C dx _ _ rb (s5 _ _ hx) T.cl T.nb rb (λx dy nx ndx xU=>?_)));let s6:aD (upd Y l (.tup (Ts (dR aA ts)))) (upd (upd (upd Y l (.tup (Ts (dR aA ts)))) dy (HO.own x)) x (HO.ins C dy [])):=λb o e=>by rw[aY (bB e nx),aY (bB e ndx)];show e
    calc⟨x,dy,l,pm,pb,r,w,dR aA ts,aN,bi,bj,rb,au,s6 _ _ au,s6 _ _ (s5 _ _ hpm),s6 _ _ (s5 _ _ hpb),B',λH5 kp hx5=>⟨rb,?_⟩⟩;let s7:aD (upd Y l (.tup (Ts (dR aA ts)))) H5:=λb o e=>kp b o (s6 b o e) (bB e nx);show q x H5 (s5.trans s7) ⟨(gC dy l pm pb hx5 (s7 _ _ au) (s7 _ _ (s5 _ _ hpm)) (s7 _ _ (s5 _ _ hpb))),B'⟩
def G9 (ts:List bQ):Prop:=ts.Pairwise (λa b=>a.1=b.1)\/ts.Pairwise (λa b=>a.1<b.1)
def ZG {H:Hp}{M:Addr}{ys zs:List V}(j:H M=some (.lst ys)):∀a xs,H a=some (.tup xs)->upd H M (.lst zs) a=some (.tup xs):=λa xs e=>by
 let ne:a≠M:=λz=>by rw[z,j]at e;cases e
 rw[aY ne];show e
abbrev kI:=Nat×Nat×Nat×List Nat
def abr (H:Hp)(a:Addr)(q:kI):Prop:=H a=some (.tup [.int q.1,.int q.2.1,.int q.2.2.1,.str (S q.2.2.2)])
noncomputable def uq (R:AA)(i j wy:Nat):kI:=(if wy=0 then i else i-(iZ ((lineOf R i j (wy:Int)).take i)).length,if wy=0 then j-(iZ ((lineOf R i j (wy:Int)).take j)).length else j,wy,iZ ((lineOf R i j (wy:Int)).take (placeOf i j (wy:Int)))++jQ ((lineOf R i j (wy:Int)).drop (placeOf i j (wy:Int))))
structure jg {α:Type}(enc:α->List V)(H:Hp)(as:List Addr)(xs:List α):Prop where
 len:as.length=xs.length
 at_:∀(i:Nat) (a:Addr) (x:α),as[i]?=some a->xs[i]?=some x->H a=some (.tup (enc x))
def jg.Ah {α:Type}{enc:α->List V}{H H':Hp}{as:List Addr}{xs:List α}(k:∀a ys,H a=some (.tup ys)->H' a=some (.tup ys))(h:jg enc H as xs):jg enc H' as xs:=⟨h.len,λi a x h1 h2=>k _ _ (h.at_ i a x h1 h2)⟩
def jg.mv {α:Type}{enc:α->List V}{H H':Hp}{as:List Addr}{xs:List α}(k:aD H H')(h:jg enc H as xs):jg enc H' as xs:=h.Ah λa ys e=>k a _ e
def jg.nil {α:Type}{enc:α->List V}{H:Hp}:jg enc H [] []:=⟨rb,λi a x h=>by simp at h⟩
def jg.one {α:Type}{enc:α->List V}{H:Hp}{a:Addr}{x:α}(h:H a=some (.tup (enc x))):jg enc H [a] [x]:=⟨rb,λi b y h1 h2=>by
 match i,h1,h2 with
 | 0,h1,h2=>have e1:a=b:=bP h1;let e2:x=y:=bP h2;rw[<-e1,<-e2];show h
 | n+1,h1,h2=>show absurd h1 t7⟩
def jg.app {α:Type}{enc:α->List V}{H:Hp}{as bs:List Addr}{xs ys:List α}(h:jg enc H as xs)(g:jg enc H bs ys):jg enc H (as++bs) (xs++ys):=by
 calc⟨by rw[av,av,h.len,g.len],λi a x h1 h2=>?_⟩;by_cases c:i<as.length
 .rw[eW c]at h1;rw[eW (by rw[<-h.len];show c)]at h2;show h.at_ i a x h1 h2
 .rw[dP t6]at h1;rw[dP (by rw[<-h.len];lia),<-h.len]at h2;show g.at_ _ a x h1 h2
def jg.get {α:Type}{enc:α->List V}{H:Hp}{as:List Addr}{xs:List α}(h:jg enc H as xs){i:Nat}(hi:i<as.length):∃x,xs[i]?=some x/\H as[i]=some (.tup (enc x)):=by
 let hx:i<xs.length:=by rw[<-h.len];show hi
 show(aM (xs[i]) (ae hx) (h.at_ i _ _ (ae hi) (ae hx)))
abbrev QL:=jg (λq:kI=>[V.int q.1,V.int q.2.1,V.int q.2.2.1,V.str (S q.2.2.2)])
abbrev AL3:=jg (λq:Nat×Nat×Nat=>[V.int q.1,V.int q.2.1,V.int q.2.2])
def nW (ts:List bQ):Nat:=if ts.head?.map (·.1)=ts.getLast?.map (·.1) then 0 else 1
noncomputable def B_ (ts:List bQ):List (Nat×Nat×Nat):=(ts.take 1).map (λt=>(t.1,t.2.1,nW ts))++ts.map λt=>(t.1,t.2.1,1-nW ts)
def qd (R:AA)(a:Nat×Nat×Nat):kI:=uq R a.1 a.2.1 a.2.2
def KC (q:kI):Bool:=decide (1<q.2.2.2.length)
def jF (aA:AA)(ts:List bQ):List kI:=((B_ ts).map (qd (dR aA ts))).filter KC
def abt (ts:List bQ):nW ts<=1:=by unfold nW;split <;> decide
def IW {r w:Nat}{R:AA}(hb:Blk r w R)(r9:r<=9)(w9:w<=9){i j wy:Nat}(hi:i<r):(uq R i j wy).2.2.2.length<=20:=by
 let D:=wX hb hi (j:=j) (way:=(wy:Int));let F:(lineOf R i j (wy:Int)).length<=9:=by rw[D];split <;> assumption
 show (iZ _++jQ _).length<=20;let a1:=rR ((lineOf R i j (wy:Int)).take (placeOf i j (wy:Int)));let a2:=za ((lineOf R i j (wy:Int)).drop (placeOf i j (wy:Int)));rw[ay]at a1;rw[bv]at a2;rw[av];lia
def abu {ts:List bQ}(h:0<ts.length):nW ts=if ts[0].1=ts[ts.length-1].1 then 0 else 1:=by unfold nW;rw[List.head?_eq_getElem?,tf,ae h,ae t6];simp only[nc,Option.some.injEq]
def j9 {H:Hp}{as:List Addr}{ts:List bQ}(j:fB H as ts){i:Nat}(hi:i<ts.length):∃(h:i<as.length),H as[i]=some (.tup [.int ts[i].1,.int ts[i].2.1,.str (S [ts[i].2.2])]):=by
 let h:i<as.length:=by rw[j.len];show hi
 let⟨t,e,ht⟩:=j.get h;rw[ae hi]at e;let e:=bP e;rw[<-e]at ht;show⟨h,ht⟩
def afC {as:List Addr}(h:0<as.length):rH (as.map V.ref) (-1)=some (.ref as[as.length-1]):=by
 let e:as.map V.ref=(as.take (as.length-1)).map V.ref++[V.ref as[as.length-1]]:=by rw[<-List.map_singleton,<-cq];congr 1;have:=cw (as.length-1) as;rw[kD t6,show as.length-1+1=as.length by lia,pS]at this;show this.symm
 rw[e];show Ij _ _
def abv {ts:List bQ}(hl:G9 ts)(h0:0<ts.length):((ts.map λt=>decide (V.int (t.1:Int)=V.int (ts[0].1:Int))).all id)=decide (nW ts=0):=by
 let hd:∀a b:Nat,decide (V.int (a:Int)=V.int (b:Int))=decide (a=b):=λa b=>by
  by_cases h:a=b;.subst h;simp
  .have:¬V.int (a:Int)=V.int (b:Int):=λz=>h (by injection z with z;show sq z)
   simp[h,this]
 let j:(∀t∈ts,t.1=ts[0].1)↔ts[0].1=ts[ts.length-1].1:=by
  constructor
  .intro h;show(h _ (a9 _)).symm
  .intro h t ht;let⟨i,hi,rfl⟩:=dC.mp ht;rcases hl with hl|hl
   .rw[fN]at hl;rcases jv i with z|z;.subst z;rfl
    .show(hl 0 i h0 hi z).symm
   .rw[fN]at hl;rcases jv (ts.length-1) with z|z
    .have:i=0:=by lia
     subst this;rfl
    .have:=hl 0 (ts.length-1) h0 t6 z;lia
 rw[abu h0,jI,gt,decide_eq_true_iff];constructor
 .intro h;rw[if_pos];calc j.mp λt ht=>?_;have:=h _ (bu.mpr (aM t ht rb));rw[hd]at this;show fh this
 .intro h x hx;let⟨t,ht,rfl⟩:=bu.mp hx;let D:ts[0].1=ts[ts.length-1].1:=by
   by_cases z:ts[0].1=ts[ts.length-1].1;.show z
   .rw[if_neg z]at h;cases h
  rw[hd];show aw (j.mpr D t ht)
def Sx:Sp:=λvs H Q _=>∃(t:Addr) (as:List Addr) (ts:List bQ),vs=[.ref t]/\H t=some (.tup (as.map V.ref))/\fB H as ts/\0<ts.length/\ts.length<=7/\G9 ts/\∀H',aD H H'->Q (.bl (decide (nW ts=0))) H'
def Sy (D:aO K mg "is_across" qL ["laying"])(fK:mg "all"=none):cu P w K mg base "is_across" 1 ["laying"] Sx:=by
 calc D.dM En (λf bN A outer s H vs Q E hr h=>?_);let⟨t,as,ts,rfl,ht,Y,h0,h7,hl,q⟩:=h;let J:=Y.len;calc(aM _ (aF (bD (aW (j6 rb) ue fK jV (aj (ou (ns:=["row","column","sign"]) rb (kh.of ["laying"] [] ui) (iB aG) (λ_ _ _ _ _=>(rO K rb (show (["row","column","sign","laying"]:List Str).Nodup by decide +kernel) rb rb rb ue ue ue)) (λ_ _ _ _ _=>eG) (λ_ _ _ _ _=>(gK jD aG (bf (rN K) (bf (rN K) bJ aq (λ_ _=>rfl)) aq (λ_ _=>rfl)) (bO _)))) ao)))) ?_);refine(bH t rb ⟨_,aU.of ht⟩ (λN Z=>mj (K:=K) (KT:=K) (a:=t) (f:=kj [] 0) (tt:=nu) (xs:=as.map V.ref) (λn ys G=>ys=((ts.take n).map λt=>decide (V.int (t.1:Int)=V.int (ts[0].1:Int))).map V.bl/\G N=some (.lst ys)/\aD H G)
  (bY rb au (aD.upd Z)) (λn ys G _ h=>aU.of (h.2.2 _ _ ht)) ?_ ?_))
 .intro n x ys G hx z;let⟨rfl,O,F⟩:=z;let⟨hn,hx⟩:=rfg hx;let I:n<ts.length:=t6;let⟨_,en⟩:=j9 (Y.mv F) I;let⟨g0,e0⟩:=j9 (Y.mv F) h0;calc yM hx.symm (aU.of en) ?_;calc(bA t _ _ (.ref as[0]) rb rb (aU.of (F _ _ ht)) (aV (j:=0) (by simp[g0])) (uP (as[0]) _ _ _ rb rb (aU.of e0) (aV (j:=0) rb) rb O ?_ (iK.mk (by rw[aa];show hn) (bY ?_ au (F.dU Z)))));.rw[aa,aa,ay];show aJ t6
  .rw[show ts.take (n+1)=ts.take n++(some ts[n]).toList by rw[du,ae I],cq,cq];rfl
 .intro ys G z;let⟨rfl,O,F⟩:=z;calc(aK N _ rb (bI.of O) ?_);rw[aa,J,cS,abv hl h0];show q G F
def abw {r w:Nat}{R:AA}{i j wy:Nat}(J:wy<=1):adf i j (wy:Int) (lineOf R i j (wy:Int))=[.int (uq R i j wy).1,.int (uq R i j wy).2.1,.str (S (uq R i j wy).2.2.2)]:=by
 unfold adf uq placeOf;by_cases z:wy=0
 .subst z;let a1:=rR ((lineOf R i j ((0:Nat):Int)).take j);rw[ay]at a1;rw[if_pos rfl];show [V.int (i:Int),V.int ((j:Int)-_),_]=[V.int (i:Int),V.int ((j-_:Nat):Int),_]
  rw[Int.ofNat_sub t6];rfl
 .have:wy=1:=by lia
  subst this;let a1:=rR ((lineOf R i j ((1:Nat):Int)).take i);rw[ay]at a1;rw[if_neg t9];show [V.int ((i:Int)-_),V.int (j:Int),_]=[V.int ((i-_:Nat):Int),V.int (j:Int),_]
  rw[Int.ofNat_sub t6];rfl
def I_ (C:Addr):Sp:=λvs H Q _=>∃(b t:Addr) (as:List Addr) (ts:List bQ) (r w:Nat) (aA aN:AA) (bi bj:Nat),vs=[.ref b,.ref t]/\cX C H b r w aA aN bi bj/\H t=some (.tup (as.map V.ref))/\fB H as ts/\(∀t∈ts,inB r w t)/\0<ts.length/\ts.length<=7/\G9 ts/\
 ∀(T:Addr) (bs:List Addr) (H':Hp),aD H H'->H' T=some (.tup (bs.map V.ref))->QL H' bs (jF aA ts)->Q (.ref T) H'
def abx {C f1 f2:Addr}{dY fd2:FuncData}(D:aO K mg "formed" BR ["board","laying"])(bC:mg "len"=none)(cI:mg "tuple"=none)(cQ:gW K C)(pP:Meth K C "laid" f1)(pQ:cB P w K mg base dH 8 f1 dY ["self","laying"] (Kw C))(pR:bT K dY ["self","laying"] [])(Wa:Meth K C "run" f2)(Wb:cB P w K mg base dH 2 f2 fd2 ["self","row","column","way"] (aez C))(Wc:bT K fd2 ["self","row","column","way"] [])(zJ:cu P w K mg base "is_across" 1 ["laying"] Sx):cu P w K mg base "formed" 10 ["board","laying"] (I_ C):=by
 calc D.dM mz (λf bN A outer s H vs Q E hr h=>?_);let⟨b,t,as,ts,r,w,aA,aN,bi,bj,rfl,BA,ht,hL,dZ,h0,h7,hl,q⟩:=h;let⟨dx,_,_,_,ex,_⟩:=id BA.ex;let r9:=BA.ok.r9;let w9:=BA.ok.w9;let hal:=hL.len;let qM:=abt ts;calc(aM _ (aB (aX (i:=2) mz.nd rb (Or.inl rb) (ql aG cQ.cl pP pQ hr.mono pR .nil dO (aj aZ ao))) (aB (jj (aX (i:=3) mz.nd rb (Or.inr rb) (oh (eO (bK zJ hr.mono rb (aj aZ ao))) aq aq))) (aB (aX (i:=4) mz.nd rb (Or.inl rb) (jU (aj (dJ (aj (bf bF (bf bF aZ aq (λ_ _=>rfl)) aq (λ_ _=>rfl)) (aj (bf bF (bf bF aZ aq (λ_ _=>rfl)) aq (λ_ _=>rfl)) (aj bJ ao)))) ao))) (aB (eE (gq dE PySem.F.slot_list_extend PySem.F.type_list_extend aaN dI (aj (ou (ns:=["row","column","sign"]) rb (kh.of ["board","laying","after","way","asked",".5",".6","words","along","run"] [5,6] ui) (iB aZ) (λ_ _ _ _ _=>(rO K rb (show (["row","column","sign","board","laying","after","way","asked",".5",".6","words","along","run"]:List Str).Nodup by decide +kernel) rb rb rb ue ue ue)) (λ_ _ _ _ _=>eG) (λ_ _ _ _ _=>(dJ (aj aG (aj aZ (aj (aL qJ aq fU) ao)))))) ao))) (aB (aX (i:=7) mz.nd rb (Or.inl rb) (jU ao)) (aB (fP dr rb (qj dI) (vD rb (dz (cj (i:=5) mz.nd rb (Or.inl rb)) (dz (cj (i:=6) mz.nd rb (Or.inl rb)) (dz (cj (i:=8) mz.nd rb (Or.inl rb)) rK)))) (aB (aX (i:=9) mz.nd rb (Or.inl rb) (ql bG cQ.cl Wa Wb hr.mono Wc .nil dO (aj fj (aj fU (aj mX ao))))) (aF (cJ (bU JH (aW dw ue bC aE (aj (bf bF mY aq (λ_ _=>rfl)) ao)) aq (bO _)) (aF (eE (gq dE fe fg jT jl (aj (dJ (aj (bf bF mY aq (λ_ _=>rfl)) (aj (bf bF mY aq (λ_ _=>rfl)) (aj mX (aj (bf bF mY aq (λ_ _=>rfl)) ao))))) ao)))) bR)))) (aF (bD (gR iW ue cI c_ (aj jl ao)))))))))) ?_);calc(cW b dx _ rb ex rb (Kc b t as ts r w aA aN bi bj rb BA ht hL dZ (λx1 H1 s1 B1=>?_)));let hb':=rF BA.ok.br dZ;generalize hR:dR aA ts=R at B1 hb';refine(aM (λσ H'=>aD H1 H'/\σ=[some (.ref b),some (.ref t),some (.ref x1),some (.int (nW ts)),none,none,none,none,none,none]) ?_ ?_)
 .calc(G4 t as ts rb (s1 _ _ ht) (hL.mv s1) h0 h7 hl (λH2 s2=>(bh _ rb ?_)));by_cases z:nW ts=0
  .rw[aw z];calc cR ⟨s2,?_⟩;rw[z];rfl
  .rw[ah z];calc cM ⟨s2,?_⟩;rw[show nW ts=1 by lia];rfl
 rintro σ H2 ⟨s2,rfl⟩;let s12:=s1.trans s2;let hL2:=hL.mv s12;let Xv:=s12 _ _ ht;let⟨g0,e0⟩:=j9 hL2 h0;calc(bA t _ _ (.ref as[0]) rb rb (aU.of Xv) (aV (j:=0) (by simp[g0])) (bA (as[0]) _ _ _ rb rb (aU.of e0) (aV (j:=0) rb) (bA t _ _ (.ref as[0]) rb rb (aU.of Xv) (aV (j:=0) (by simp[g0])) (iy (as[0]) _ _ _ rb rb (aU.of e0) (aV (j:=1) rb) (zsz 3) (λF ht1=>⟨zsz 1,λG Z=>?_⟩)))));let k3:aD H2 (upd H2 F (HO.tup [.int ts[0].1,.int ts[0].2.1,.int (nW ts)])):=aD.upd ht1;let k4:=k3.dU (o:=HO.lst [.ref F]) (k3.free Z);let hA0':=k3.free Z;let n1A:F≠G:=λz=>by rw[<-z,au]at Z;cases Z
 let e1:upd (upd H2 F (HO.tup [.int ts[0].1,.int ts[0].2.1,.int (nW ts)])) G (HO.lst [.ref F]) F=some (.tup [.int ts[0].1,.int ts[0].2.1,.int (nW ts)]):=by rw[aY n1A,au]
 let eA:upd (upd H2 F (HO.tup [.int ts[0].1,.int ts[0].2.1,.int (nW ts)])) G (HO.lst [.ref F]) G=some (.lst [.ref F]):=au;generalize upd (upd H2 F (HO.tup [.int ts[0].1,.int ts[0].2.1,.int (nW ts)])) G (HO.lst [.ref F])=H4 at k4 e1 eA ⊢;let ht4:=k4 _ _ Xv;let Al:=hL2.mv k4;let e1l:(1:Int)-(nW ts:Int)=((1-nW ts:Nat):Int):=t6;refine⟨.inl ⟨rb,_,bI.of eA⟩,bH t rb ⟨_,aU.of ht4⟩ (λN hN=>mj (K:=K) (KT:=K) (a:=t) (f:=kj [5,6] 0) (tt:=nu) (xs:=as.map V.ref) (λn ys I=>∃cs:List Addr,ys=cs.map V.ref/\cs.length=n/\I N=some (.lst ys)/\aD H4 I/\AL3 I cs ((ts.take n).map λt=>(t.1,t.2.1,1-nW ts)))
  (oY [] rb rb au (aD.upd hN) jg.nil) (λn ys I _ h=>by let⟨_,_,_,_,sm,_⟩:=h;show aU.of (sm _ _ ht4)) ?_ ?_)⟩
 .intro n x ys I hx z;let⟨cs,rfl,O,Ez,qD,KD⟩:=z;let⟨hn,hx⟩:=rfg hx;let hnt:n<ts.length:=t6;let⟨_,en⟩:=j9 (Al.mv qD) hnt;calc yM hx.symm (aU.of en) ?_;calc(aQ _ _ rb rb (zsz 3) (λg hg=>?_));let kg:aD I (upd I g (HO.tup [.int ts[n].1,.int ts[n].2.1,.int (1-(nW ts:Int))])):=aD.upd hg;let hNg:=kg _ _ Ez;calc(bY hNg (by rw[aa];show aJ t6) (iK.mk (by rw[aa];show hn) (oY (cs++[g]) t7 (by simp[O]) (by rw[au]) ((qD.trans kg).dU hN) ?_)));rw[show ts.take (n+1)=ts.take n++[ts[n]] by rw[du,ae hnt];rfl,cq];calc((KD.mv kg).app (jg.one (x:=(ts[n].1,ts[n].2.1,1-nW ts)) ?_)).Ah (ZG hNg);rw[au,e1l]
 intro ys I z;let⟨cs,rfl,O,Ez,qD,KD⟩:=z;rw[aa]at O;rw[aa,hal,cS]at KD;let eA5:=qD _ _ eA;calc(iy G N _ _ rb rb eA5 Ez (by rw[aa,O];show am (aJ (by simp;lia))) ?_);let adh:AL3 (upd I G (HO.lst ([V.ref F]++cs.map V.ref))) ([F]++cs) (B_ ts):=by
  let hone:AL3 I [F] ((ts.take 1).map λt=>(t.1,t.2.1,nW ts)):=by rw[List.take_one,List.head?_eq_getElem?,ae h0];show jg.one (x:=(ts[0].1,ts[0].2.1,nW ts)) (qD _ _ e1)
  show(hone.app KD).Ah (ZG eA5)
 let sH6:aD H1 (upd I G (HO.lst ([V.ref F]++cs.map V.ref))):=λa o e=>by have:=(k4.trans qD) _ _ (s2 _ _ e);rw[aY (λz=>by rw[z]at e;have:=s2 _ _ e;rw[hA0']at this;cases this)];show this
 let Y:upd I G (HO.lst ([V.ref F]++cs.map V.ref)) G=some (.lst (([F]++cs).map V.ref)):=by rw[au];simp
 generalize upd I G (HO.lst ([V.ref F]++cs.map V.ref))=H6 at adh sH6 Y ⊢;let ah4:=adh.len;let hak:(B_ ts).length=1+ts.length:=by unfold B_;rw[av,aa,aa,ay];lia
 let akc:∀n (a:Nat×Nat×Nat),(B_ ts)[n]?=some a->a.1<r/\a.2.1<w/\a.2.2<=1:=λn a ha=>by
  rcases be.mp (b8 ha) with z|z
  .let⟨u,hu,rfl⟩:=bu.mp z;have:=dZ u (de hu);show(bY this.1 this.2.1 qM)
  .let⟨u,hu,rfl⟩:=bu.mp z;have:=dZ u hu;show(bY this.1 this.2.1 (by show 1-nW ts<=1;lia))
 calc⟨zsz 0,λW hW=>?_⟩;let hW0:=sH6.free hW;let nWA:G≠W:=λz=>by rw[<-z,Y]at hW;cases hW
 let kW:aD H6 (upd H6 W (HO.lst [])):=aD.upd hW;refine(bH G rb ⟨_,bI.of (kW _ _ Y)⟩ (pB (K:=K) (a:=G) (xs:=([F]++cs).map V.ref) (λn σ H'=>∃(v6 v7 v8 v9:Option V) (bs:List Addr),σ=[some (.ref b),some (.ref t),some (.ref x1),some (.int (nW ts)),some (.ref G),v6,v7,some (.ref W),v8,v9]/\aD H6 H'/\H' W=some (.lst (bs.map V.ref))/\bs.length<=n/\QL H' bs ((((B_ ts).take n).map (qd R)).filter KC))
  (BP none none none none [] rb kW au (ai _) jg.nil) (λn σ H' _ h=>by let⟨_,_,_,_,_,_,sm,_⟩:=h;show bI.of (sm _ _ Y)) ?_ ?_))
 .intro n x σ H' hx z;let⟨v6,v7,v8,v9,bs,rfl,sm,hWb,SM,hQ⟩:=z;let hn:n<([F]++cs).length:=by have:=(al.mp hx).1;simpa using this
  rw[cz,ae hn]at hx;let hx:V.ref ([F]++cs)[n]=x:=bP hx;subst hx;let⟨a,ea,hat⟩:=(adh.mv sm).get hn;let⟨c1,c2,c3⟩:=akc n a ea;let hn9:n<9:=by rw[ah4,hak]at hn;lia
  calc(aQ (([F]++cs)[n]) _ rb (aU.of hat) rb (eU _ _ rb (eU _ _ rb (aK _ _ rb rb ?_))));let B2:=B1.mv (sH6.trans sm);let⟨dx1,_,_,_,Xw,_⟩:=id B2.ex;calc(cW x1 dx1 _ rb Xw rb (Kc x1 r w R aN bi bj a.1 a.2.1 (a.2.2:Int) rb B2 c1 c2 t6 (λt2 H7 s7 _ ht7=>?_)));rw[abw (r:=r) (w:=w) c3]at ht7;let cU:=IW hb' r9 w9 c1 (j:=a.2.1) (wy:=a.2.2);let J:=aU.of (K:=K) ht7;let adi:=s7 _ _ hWb;calc(bA t2 _ _ _ rb rb J (aV (j:=2) rb) (bH _ rb (am (aJ t6)) (aK _ _ rb rb (bh _ rb ?_))));let aeA:(B_ ts).take (n+1)=(B_ ts).take n++[a]:=by rw[du,ea];rfl
  by_cases hc:KC (qd R a)=true
  .have:decide ((2:Int)<=((uq R a.1 a.2.1 a.2.2).2.2.2.length:Int))=true:=aw (by have:=fh hc;show (2:Int)<=((qd R a).2.2.2.length:Int);lia);rw[this];calc cR ⟨.inl ⟨rb,_,bI.of adi⟩,bA t2 _ _ _ rb rb J (aV (j:=0) rb) (bA t2 _ _ _ rb rb J (aV (j:=1) rb) (iy t2 _ _ _ rb rb J (aV (j:=2) rb) (zsz 4) (λg hg=>?_)))⟩;let kg:aD H7 (upd H7 g (HO.tup [.int (uq R a.1 a.2.1 a.2.2).1,.int (uq R a.1 a.2.1 a.2.2).2.1,.int a.2.2,.str (S (uq R a.1 a.2.1 a.2.2).2.2.2)])):=aD.upd hg;let hWg:=kg _ _ adi;calc(d7 W _ _ rb rb hWg (by rw[aa];show aJ t6) ?_);calc(BP _ _ _ _ (bs++[g]) rb (((sm.trans s7).trans kg).dU hW) (by rw[au];simp) (by simp;lia) ?_);rw[aeA,cq,List.filter_append];let e2:([a].map (qd R)).filter KC=[qd R a]:=by simp[hc]
   rw[e2];show(((hQ.mv s7).mv kg).app (jg.one (x:=qd R a) au)).Ah (ZG hWg)
  .have:decide ((2:Int)<=((uq R a.1 a.2.1 a.2.2).2.2.2.length:Int))=false:=ah (λz=>hc (aw (by let z:(2:Int)<=((qd R a).2.2.2.length:Int):=z;lia)));rw[this];calc cM (BP _ _ _ _ bs rb (sm.trans s7) adi t6 ?_);rw[aeA,cq,List.filter_append];let e2:([a].map (qd R)).filter KC=[]:=by simp[hc]
   rw[e2,fk];show hQ.mv s7
 .intro σ H' z;let⟨v6,v7,v8,v9,bs,rfl,sm,hWb,SM,hQ⟩:=z;rw[aa,ah4,cS]at hQ;calc(eU W _ rb (.inl ⟨bI.of hWb,λT hT=>?_⟩));let k:aD H' (upd H' T (HO.tup (bs.map V.ref))):=aD.upd hT;calc q T bs _ (((s1.trans sH6).trans sm).trans k) au ?_;unfold jF;rw[hR];show hQ.mv k
def Ja (K:W.Frag)(T:String)(H:Hp)(x:V):Prop:=∃t,nj K H x t/\W.kitOne K t (.type T)=some false
def nj.mv {K:W.Frag}{H H':Hp}{x:V}{t:Value}(h:nj K H x t)(s:aD H H'):nj K H' x t:=by
 cases h with| non=>show .non| bl b=>show .bl b| int i=>show .int i| str x=>show .str x| flt x=>show .flt x| lst e=>show .lst (s _ _ e)| qH e=>show .qH (s _ _ e)| tup e=>show .tup (s _ _ e)| dK e=>show .dK (s _ _ e)| dT e=>show .dT (s _ _ e)| ins e a b c d f=>show .ins (s _ _ e) a b c d f
def Ja.mv {K:W.Frag}{T:String}{H H':Hp}{x:V}(h:Ja K T H x)(s:aD H H'):Ja K T H' x:=let ⟨t,a,b⟩:=h;(aM t (nj.mv a s) b)
def Jb (K:W.Frag):Sp:=λvs H Q _=>(∃i:Int,vs=[.int i]/\Q (.bl true) H)\/(∃b:Bool,vs=[.bl b]/\Q (.bl false) H)\/∃x,vs=[x]/\Ja K "int" H x/\Q (.bl false) H
def SN (D:aO K mg "is_whole" sU ["thing"])(G:mg "int"=none)(F:mg "bool"=none)(j:mg "isinstance"=none):cu P w K mg base "is_whole" 1 ["thing"] (Jb K):=by
 refine D.dM Hw (λf bN A outer s H vs Q E I h=>?_) (λvs H Q E h=>?_)
 .calc(aM _ (aF (bD (lW (aW iu ue j c8 (aj aG (aj (lQ (v:=.ty "int") ue G mh rb) ao))) (j8 (aaX (aW iu ue j c8 (aj aG (aj (lQ (v:=.ty "bool") ue F PyProof.Rows.boot_bool rb) ao)))))))) ?_);rcases h with⟨i,rfl,q⟩|⟨b,rfl,q⟩|⟨x,rfl,⟨t,ty,k⟩,q⟩;.show(gC _ _ _ true rb (.int _) ui (cR (gC _ _ _ false rb (.int _) ui q)))
  .show(gC _ _ _ true rb (.bl _) ui (cR (gC _ _ _ true rb (.bl _) ui q)))
  .show(gC _ _ _ false rb ty k (cM q))
 .rcases h with⟨i,rfl,_⟩|⟨i,rfl,_⟩|⟨i,rfl,_⟩ <;> rfl
def all_map {α:Type}(l:List α)(f:α->Bool):((l.map f).all id)=l.all f:=by induction l with|nil=>rfl|cons a l ih=>simp[ih]
def take_snoc {α β:Type}{l:List α}{i:Nat}{a:α}(h:l[i]?=some a)(f:α->β):(l.take (i+1)).map f=(l.take i).map f++[f a]:=by rw[du,h,cq];rfl
inductive Du (K:W.Frag) (H:Hp):V->Option Int->Prop
 | int (i:Int):Du K H (.int i) (some i)
 | bl (b:Bool):Du K H (.bl b) none
 | no {x:V} (h:Ja K "int" H x):Du K H x none
def Du.mv {H H':Hp}{x:V}{o:Option Int}(h:Du K H x o)(s:aD H H'):Du K H' x o:=by
 cases h with| int i=>show .int i| bl b=>show .bl b| no h=>show .no (h.mv s)
noncomputable def KH (r w:Nat)(oi oj:Option Int):Bool:=match oi,oj with|some i,some j=>decide (0<=i/\i<r/\0<=j/\j<w)|_,_=>false
def Xx (K:W.Frag):Sp:=λvs H Q _=>∃(p:Addr) (ls:AA) (r w:Nat) (x y:V) (oi oj:Option Int),vs=[.ref p,x,y]/\H p=some (.tup (Ts ls))/\Blk r w ls/\1<=r/\r<=9/\w<=9/\Du K H x oi/\Du K H y oj/\Q (.bl (KH r w oi oj)) H
def Du.sp {H:Hp}{x:V}{o:Option Int}{Q:VK}{E:XK}(h:Du K H x o)(q:Q (.bl o.isSome) H):Jb K [x] H Q E:=by
 cases h with| int i=>show .inl (aM i rb q)| bl b=>show .inr (.inl (aM b rb q))| no h=>show .inr (.inr (bH x rb h q))
def MP (D:aO K mg "is_cell_of" pJ ["rows","row","column"])(G:mg "len"=none)(I:cu P w K mg base "is_whole" 1 ["thing"] (Jb K)):cu P w K mg base "is_cell_of" 2 ["rows","row","column"] (Xx K):=by
 calc D.dM Dq (λf bN A outer s H vs Q E J h=>?_);let⟨p,ls,r,w,x,y,oi,oj,rfl,hp,hb,r1,r9,w9,hx,hy,q⟩:=h;let O:(Ts ls).length=r:=by rw[aa,hb.len]
 let h0:0<ls.length:=by rw[hb.len];lia
 let F:ls[0].length=w:=hb.qC _ (a9 _);calc(aM _ (aB (cJ (QW.qt (oW (fQ (eO (bK I J.mono rb (aj aZ ao)))) (nC (fQ (eO (bK I J.mono rb (aj bG ao))))))) (aF (bD iY)) bR) (aF (bD (lW (mJ qT uM aq aZ (aW bZ ue G aE (aj aG ao))) (j8 (mJ qT uM aq bG (aW dw ue G aE (aj (bf bF aG aq (λ_ _=>rfl)) ao)))))))) ?_);cases hx with
 | bl b=>show .inr (.inl (aM b rb (cR q)))
 | no h=>show .inr (.inr (bH _ rb h (cR q)))
 | int i=>
  calc .inl (aM i rb (cM ?_));cases hy with
  | bl b=>show .inr (.inl (aM b rb (cR q)))
  | no h=>show .inr (.inr (bH _ rb h (cR q)))
  | int j=>
   calc .inl (aM j rb ?_);calc cM ?_;let q:Q (.bl (decide (0<=i/\i<(r:Int)/\0<=j/\j<(w:Int)))) H:=q;calc(aK _ _ rb rb (bh _ rb ?_));by_cases h1:0<=i
   .rw[aw h1];calc cR (aK p _ rb (.inr (aU.of hp)) (aK _ _ rb rb (bh _ rb ?_)));rw[O];by_cases h2:i<(r:Int)
    .rw[aw h2];calc cR (aK _ _ rb rb (bh _ rb ?_));by_cases h3:0<=j
     .rw[aw h3];calc cR (bA p _ _ (.str (S ls[0])) rb rb (aU.of hp) (aV (j:=0) (oK (by simp[h0]))) (bH _ rb (am (aJ t6)) (aK _ _ rb rb ?_)));rw[F];simpa [h1,h2,h3] using q
     .rw[ah h3];calc cM ?_;simpa [h1,h2,h3] using q
    .rw[ah h2];calc cM ?_;simpa [h1,h2] using q
   .rw[ah h1];calc cM ?_;show Q (.bl false) H;simpa [h1] using q
inductive Xy (K:W.Frag) (H:Hp):V->Option (List Nat)->Prop
 | no {x:V} (h:aex K H x):Xy K H x none
 | str (l:List Nat) (h:l.length<=1000):Xy K H (.str (S l)) (some l)
def Xy.mv {H H':Hp}{x:V}{o:Option (List Nat)}(h:Xy K H x o)(s:aD H H'):Xy K H' x o:=by
 cases h with| no h=>show .no (let ⟨t,a,b⟩:=h;(aM t (nj.mv a s) b))| str l h=>show .str l h
abbrev zf:=Option (Option Int×Option Int×Option (List Nat))
inductive Ao (K:W.Frag) (H:Hp):V->zf->Prop
 | no {x:V} (h:Ja K "tuple" H x):Ao K H x none
 | bad {b:Addr} {xs:List V} (h:H b=some (.tup xs)) (hl:xs.length≠3):Ao K H (.ref b) none
 | tri {b:Addr} {x y z:V} {oi oj:Option Int} {ol:Option (List Nat)} (h:H b=some (.tup [x,y,z])) (hx:Du K H x oi) (hy:Du K H y oj) (hz:Xy K H z ol):Ao K H (.ref b) (some (oi,oj,ol))
def Ao.mv {H H':Hp}{x:V}{o:zf}(h:Ao K H x o)(s:aD H H'):Ao K H' x o:=by
 cases h with| no h=>show .no (h.mv s)| bad h hl=>show .bad (s _ _ h) hl| tri h hx hy hz=>show .tri (s _ _ h) (hx.mv s) (hy.mv s) (hz.mv s)
def sgO (ol:Option (List Nat)):Bool:=match ol with|none=>false|some l=>Ds l
def vg (r w:Nat)(o:zf):Bool:=match o with|none=>false|some (oi,oj,ol)=>KH r w oi oj&&sgO ol
def O6 (K:W.Frag)(C:Addr):Sp:=λvs H Q _=>∃(b:Addr) (x:V) (o:zf) (r w:Nat) (aA aN:AA) (bi bj:Nat),vs=[.ref b,x]/\cX C H b r w aA aN bi bj/\Ao K H x o/\Q (.bl (vg r w o)) H
def SQ {C:Addr}(D:aO K mg "is_triple" uU ["board","thing"])(bC:mg "len"=none)(cI:mg "tuple"=none)(Z:mg "isinstance"=none)(T:gW K C)(J:cu P w K mg base "is_cell_of" 2 ["rows","row","column"] (Xx K))(Ey:cu P w K mg base "is_sign" 1 ["thing"] (Ss K)):cu P w K mg base "is_triple" 3 ["board","thing"] (O6 K C):=by
 calc D.dM R_ (λf bN A outer s H vs Q E I h=>?_);let⟨b,x,o,r,w,aA,aN,bi,bj,rfl,O,hT,q⟩:=h;obtain⟨⟨dx,pr,pm,pb,hb,F,hpm,Y⟩,B⟩:=O;calc(aM _ (aB (cJ (QW.qt (oW (fQ (eO (aW iu ue Z c8 (aj aZ (aj (lQ (v:=.ty "tuple") ue cI c_ rb) ao))))) (nC (bU GC (aW bZ ue bC aE (aj aZ ao)) aq (bO _))))) (aF (bD iY)) bR) (aF (bD (lW (bK J I.mono rb (aj (cg aG rb) (aj (bf bF aZ aq (λ_ _=>rfl)) (aj (bf bF aZ aq (λ_ _=>rfl)) ao)))) (j8 (bK Ey I.mono rb (aj (bf bF aZ aq (λ_ _=>rfl)) ao))))))) ?_);cases hT with
 | no h=>let⟨t,ty,k⟩:=h;show(gC _ _ _ false rb ty k (cR (cR q)))
 | @bad a xs h hl=>calc(gC _ _ _ true rb (.tup h) ui (cM (aQ a _ rb (.inr (aU.of h)) rb (bh _ rb ?_))));rw[ah (show ¬V.int (xs.length:Nat)=V.int 3 from λz=>hl (by injection z with z;lia))];show cR q
 | @tri a x y z oi oj ol h hx hy hz=>
  calc(gC _ _ _ true rb (.tup h) ui (cM (aQ a _ rb (.inr (aU.of h)) rb (Qx rb ?_))));calc(cL b C dx _ _ rb hb T.cl T.nr rb (bA a _ _ x rb rb (aU.of h) (aV (j:=0) rb) (bA a _ _ y rb rb (aU.of h) (aV (j:=1) rb) ⟨pr,aA,r,w,x,y,oi,oj,rb,F,B.br,B.r1,B.r9,B.w9,hx,hy,bh _ rb ?_⟩)));let q:Q (.bl (KH r w oi oj&&sgO ol)) H:=q;cases G:KH r w oi oj with
  | false=>rw[G]at q;show cM q
  | true=>
   rw[G]at q;calc cR (bA a _ _ z rb rb (aU.of h) (aV (j:=2) rb) ?_);dsimp only[Ih,Bm];cases hz with| no h=>show .inl (bH z rb h q)| str l hl=>show .inr (bH l rb hl q)
abbrev PL2:=jg (λq:Nat×Nat=>[V.int q.1,V.int q.2])
def zj:Sp:=λvs H Q _=>∃(t:Addr) (as:List Addr) (ts:List bQ),vs=[.ref t]/\H t=some (.tup (as.map V.ref))/\fB H as ts/\ts.length<=100/\
 ∀(L:Addr) (cs:List Addr) (H':Hp),aD H H'->H' L=some (.lst (cs.map V.ref))->PL2 H' cs (ts.map λt=>(t.1,t.2.1))->Q (.ref L) H'
def Wd (D:aO K mg "cells_of" wQ ["laying"]):cu P w K mg base "cells_of" 1 ["laying"] zj:=by
 calc D.dM V1 (λf bN A outer s H vs Q E hr h=>?_);let⟨t,as,ts,rfl,ht,hL,h7,q⟩:=h;let hal:=hL.len;calc(aM _ (aF (bD (ou (ns:=["row","column","sign"]) rb (kh.of ["laying"] [] ui) (iB aG) (λ_ _ _ _ _=>(rO K rb (show (["row","column","sign","laying"]:List Str).Nodup by decide +kernel) rb rb rb ue ue ue)) (λ_ _ _ _ _=>eG) (λ_ _ _ _ _=>(dJ (aj aG (aj aZ ao))))))) ?_);refine(bH t rb ⟨_,aU.of ht⟩ (λN hN=>mj (K:=K) (KT:=K) (a:=t) (f:=kj [] 0) (tt:=nu) (xs:=as.map V.ref) (λn ys j=>∃cs:List Addr,ys=cs.map V.ref/\cs.length=n/\j N=some (.lst ys)/\aD H j/\PL2 j cs ((ts.take n).map λt=>(t.1,t.2.1)))
  (oY [] rb rb au (aD.upd hN) jg.nil) (λn ys j _ h=>by let⟨_,_,_,_,sm,_⟩:=h;show aU.of (sm _ _ ht)) ?_ ?_))
 .intro n x ys j hx z;let⟨cs,rfl,I,Z,J,O⟩:=z;let⟨hn,hx⟩:=rfg hx;let G:n<ts.length:=t6;let⟨_,en⟩:=j9 (hL.mv J) G;calc yM hx.symm (aU.of en) ?_;calc⟨zsz 2,λg hg=>?_⟩;let Y:aD j (upd j g (HO.tup [.int ts[n].1,.int ts[n].2.1])):=aD.upd hg;let F:=Y _ _ Z;calc(bY F (by rw[aa];show aJ t6) (iK.mk (by rw[aa];show hn) (oY (cs++[g]) t7 (by simp[I]) (by rw[au]) ((J.trans Y).dU hN) ?_)));rw[show ts.take (n+1)=ts.take n++[ts[n]] by rw[du,ae G];rfl,cq];show((O.mv Y).app (jg.one (x:=(ts[n].1,ts[n].2.1)) au)).Ah (ZG F)
 .intro ys j z;let⟨cs,rfl,I,Z,J,O⟩:=z;rw[aa,hal,cS]at O;show q N cs j J Z O
structure Jc (K:W.Frag)(H:Hp)(xs:List V)(os:List zf):Prop where
 len:xs.length=os.length
 at_:∀(i:Nat) (x:V) (o:zf),xs[i]?=some x->os[i]?=some o->Ao K H x o
inductive LyD (K:W.Frag) (H:Hp):V->Option (List zf)->Prop
 | no {x:V} (h:Ja K "tuple" H x):LyD K H x none
 | tup {p:Addr} {xs:List V} {os:List zf} (h:H p=some (.tup xs)) (hp:Jc K H xs os) (h1:os.length<=100):LyD K H (.ref p) (some os)
def mkT (t:bQ):zf:=some (some (t.1:Int),some (t.2.1:Int),some [t.2.2])
def aeB (o:zf):Nat×Nat:=match o with|some (some i,some j,_)=>(i.toNat,j.toNat)|_=>(0,0)
def ltQ (p:(Nat×Nat)×(Nat×Nat)):Bool:=decide (p.1.1*1000+p.1.2<p.2.1*1000+p.2.2)
def jm (cs:List (Nat×Nat)):Bool:=(cs.zip (cs.drop 1)).all ltQ
noncomputable def layB (r w:Nat)(o:Option (List zf)):Bool:=match o with|none=>false|some os=>decide (1<=os.length/\os.length<=7)&&os.all (vg r w)&&jm (os.map aeB)
def SX (ts:List bQ):(ts.map mkT).map aeB=ts.map λt=>(t.1,t.2.1):=by rw[f_];show fE λt _=>rfl
def adk {r w:Nat}{o:zf}(h:vg r w o=true):∃t:bQ,o=mkT t/\inB r w t:=by
 match o with
 | none=>cases h
 | some (oi,oj,ol)=>
  unfold vg at h;simp only[cn]at h;let⟨h1,h2⟩:=h
  match oi,oj,ol with
  | none,_,_=>cases h1
  | some i,none,_=>cases h1
  | some i,some j,none=>cases h2
  | some i,some j,some l=>
   let h1:=fh h1;let h2:Ds l=true:=h2
   match l with
   | []=>cases h2
   | [c]=>calc(aM (i.toNat,j.toNat,c) ?_ (bY (by show i.toNat<r;lia) (by show j.toNat<w;lia) h2));show some (some i,some j,some [c])=some (some ((i.toNat:Nat):Int),some ((j.toNat:Nat):Int),some [c]);rw[cK h1.1,cK h1.2.2.1]
   | _::_::_=>cases h2
def adl {r w:Nat}{t:bQ}(h:inB r w t):vg r w (mkT t)=true:=by unfold vg mkT KH sgO;let h1:=h.1;let h2:=h.2.1;simp only[cn];show⟨aw t6,h.2.2⟩
theorem O7 {r w:Nat}:∀{os:List zf},os.all (vg r w)=true->∃ts:List bQ,os=ts.map mkT/\∀t∈ts,inB r w t
 | [],_=>(aM [] rb (λt h=>by simp at h))
 | o::os,h=>by
  rw[List.all_cons,cn]at h;let⟨ts,e,k⟩:=O7 h.2;let⟨t,e2,k2⟩:=adk h.1;show(aM (t::ts) (by rw[e,e2];rfl) (λu j=>by
   rcases b9.mp j with z|z;.rw[z];show k2
   .show k u z))
def Ao.ajv {H:Hp}{x:V}{t:bQ}(h:Ao K H x (mkT t)):∃b,x=.ref b/\yj H b t:=by
 generalize j:mkT t=o at h;cases h with
 | no _=>cases j
 | bad _ _=>cases j
 | @tri b x y z oi oj ol h hx hy hz=>have j:=bP j;injection j with e1 e2;injection e2 with e2 e3;subst e1 e2 e3;cases hx;cases hy;cases hz;show(aM b rb h)
theorem Jc.lay {H:Hp}:∀{ts:List bQ} {xs:List V},Jc K H xs (ts.map mkT)->∃as:List Addr,xs=as.map V.ref/\fB H as ts
 | [],[],_=>(aM [] rb fB.nil)
 | [],_::_,h=>by have:=h.len;simp at this
 | _::_,[],h=>by have:=h.len;simp at this
 | t::ts,x::xs,h=>by
  let⟨b,rfl,hb⟩:=(h.at_ 0 x (mkT t) rb rb).ajv;let⟨as,e,j⟩:=Jc.lay (ts:=ts) (xs:=xs) ⟨by have:=h.len;simpa using this,λi x o a c=>h.at_ (i+1) x o a c⟩;refine(aM (b::as) (by rw[e];rfl) ⟨λa ha=>?_,?_⟩)
  .rcases b9.mp ha with z|z;.rw[z,Kv hb];show hb
   .show j.at_ a z
  .rw[ce,j.eq,Kv hb]
def Ao.mk {H:Hp}{b:Addr}{t:bQ}(h:yj H b t):Ao K H (.ref b) (mkT t):=.tri h (.int _) (.int _) (.str _ (by show 1<=1000;decide))
def Jc.of_lay {H:Hp}{as:List Addr}{ts:List bQ}(h:fB H as ts):Jc K H (as.map V.ref) (ts.map mkT):=by calc⟨by rw[aa,aa,h.len],λi x o hx D=>?_⟩;rw[cz]at hx D;let⟨a,ha,rfl⟩:=e_.mp hx;let⟨t,ht,rfl⟩:=e_.mp D;let hi:i<as.length:=(al.mp ha).1;let⟨u,j,F⟩:=h.get hi;rw[ht]at j;rw[bP j];rw[ae hi]at ha;rw[<-bP ha];show Ao.mk F
def aby (K:W.Frag)(C:Addr):Sp:=λvs H Q _=>∃(b:Addr) (x:V) (o:Option (List zf)) (r w:Nat) (aA aN:AA) (bi bj:Nat),vs=[.ref b,x]/\cX C H b r w aA aN bi bj/\LyD K H x o/\∀H',aD H H'->Q (.bl (layB r w o)) H'
def S5 {C:Addr}(D:aO K mg "is_laying" uV ["board","thing"])(bC:mg "len"=none)(cI:mg "tuple"=none)(bW:mg "isinstance"=none)(fK:mg "all"=none)(KJ:mg "zip"=none)(pU:∃t,mg "MOST_TILES"=some (.int 7 t))(Wf:cu P w K mg base "is_triple" 3 ["board","thing"] (O6 K C))(tE:cu P w K mg base "cells_of" 1 ["laying"] zj):cu P w K mg base "is_laying" 4 ["board","thing"] (aby K C):=by
 calc D.dM yc (λf bN A outer s H vs Q E hr h=>?_);let⟨b,x,o,r,w,aA,aN,bi,bj,rfl,BA,hT,q⟩:=h;let w9:=BA.ok.w9;calc(aM _ (aB (cJ (QW.qt (oW (fQ (eO (aW iu ue bW c8 (aj aZ (aj (lQ (v:=.ty "tuple") ue cI c_ rb) ao))))) (nC (fQ (Bp qT qT aq (aW bZ ue bC aE (aj aZ ao)) (Za ue pU)))))) (aF (bD iY)) bR) (aB (cJ (fQ (eO (aW (j6 rb) ue fK jV (aj (jG rb (ju.of yc.nd ui) (iB aZ) (λ_ _ _ _ _=>eG) (λ_ _ _ _ _=>(bK Wf hr.mono rb (aj aZ (aj aG ao))))) ao)))) (aF (bD iY)) bR) (aB (aX (i:=2) yc.nd rb (Or.inl rb) (bK tE hr.mono rb (aj aZ ao))) (aF (bD (aW (j6 rb) ue fK jV (aj (ou (ns:=["cell","later"]) rb (kh.of ["board","thing","cells"] [] ui) (afp ue KJ (aj bG (aj (fD w5 bG (fG aq) ji) ao))) (λ_ _ _ _ _=>(afg K rb (show (["cell","later","board","thing","cells"]:List Str).Nodup by decide +kernel) rb rb ue ue)) (λ_ _ _ _ _=>eG) (λ_ _ _ _ _=>(gK (ahQ hr.ahb) aG aZ (bO _)))) ao))))))) ?_);cases hT with
 | no h=>let⟨t,ty,k⟩:=h;show(gC _ _ _ false rb ty k (cR (cR (q H (aD.refl _)))))
 | @tup p xs os hp hP h100=>
  let cU:=hP.len;calc(gC _ _ _ true rb (.tup hp) ui (cM ?_));let F:¬layB r w (some os)=true->∀H',aD H H'->Q (.bl false) H':=λz H' s'=>by have:=q H' s';rw[Bool.not_eq_true _ |>.mp z]at this;show this
  calc(aK p _ rb (.inr (aU.of hp)) (aK _ _ rb rb ?_));rw[cU];by_cases h1:1<=os.length
  .calc(bh true (by simp;lia) (cR (aK _ _ rb rb ?_)));by_cases h7:os.length<=7
   .calc(bh true (by simp;lia) (cM ?_));refine(bH p rb ⟨_,aU.of hp⟩ (λL hL=>pH (xs:=xs) (λi ys Y=>ys=((os.take i).map (vg r w)).map V.bl/\Y L=some (.lst ys)/\aD H Y) (bY rb au (aD.upd hL)) (λi ys Y _ h=>aU.of (h.2.2 _ _ hp)) ?_ ?_))
    .intro i x ys Y hi z;let⟨rfl,I,sm⟩:=z;let hil:i<xs.length:=(al.mp hi).1;let hio:i<os.length:=t6;let ho:=ae hio;calc⟨b,x,os[i],r,w,aA,aN,bi,bj,rb,BA.mv sm,(hP.at_ i x _ hi ho).mv sm,I,?_,iK.mk hil (bY ?_ au (sm.dU hL))⟩;.rw[aa,aa,ay];show aJ t6
     .rw[take_snoc ho,cq];rfl
    .intro ys Y z;let⟨rfl,I,sm⟩:=z;calc(aK L _ rb (bI.of I) ?_);rw[cU,cS,all_map];calc(bh _ rb ?_);cases ha:os.all (vg r w) with
     | false=>show cR (F (by unfold layB;simp only;rw[ha];simp) Y sm)
     | true=>
      calc cM ?_;let⟨ts,rfl,dZ⟩:=O7 ha;let⟨as,rfl,hLy⟩:=hP.lay;rw[aa]at h1 h7;calc(d7 p as ts rb (sm _ _ hp) (hLy.mv sm) t6 (λLc cs H3 s3 hLc hcs=>?_));let gM:=sm.trans s3;calc(aM _ rb (aK Lc _ rb (bI.of hLc) (λM hM=>?_)));let hcl:=hcs.len;rw[aa]at hcl;let eM:jo (cs.map V.ref) (some 1) none=(cs.drop 1).map V.ref:=by unfold jo;rw[show (some (1:Int))=some (((1:Nat):Int)) from rb,HT.lO,HT.uf,aa,gg (show 1<=cs.length by lia),ck (by rw[bv,aa];lia),sr]
      rw[eM];let sM:aD H3 (upd H3 M (HO.lst ((cs.drop 1).map V.ref))):=aD.upd hM;let Hz:upd H3 M (HO.lst ((cs.drop 1).map V.ref)) M=some (.lst ((cs.drop 1).map V.ref)):=au;let G:=sM _ _ hLc;let M4:=hcs.mv sM;let jc:=gM.trans sM;generalize upd H3 M (HO.lst ((cs.drop 1).map V.ref))=H4 at sM Hz G M4 jc ⊢;generalize J:(ts.map λt=>(t.1,t.2.1))=cc at M4;let akd:cc.length=cs.length:=by rw[<-J,aa,hcl]
      let hw9:∀u∈cc,u.2<1000:=λu hu=>by rw[<-J]at hu;let⟨t,ht,rfl⟩:=bu.mp hu;have:=(dZ t ht).2.1;show t.2.1<1000;lia
      let EY:(cc.zip (cc.drop 1)).length=cs.length-1:=by rw[List.length_zip,bv,akd];lia
      refine(aQ Lc M rb ⟨_,bI.of G⟩ ⟨_,bI.of Hz⟩ (λN hN=>ahP (f:=kj [] 0) (K:=K) (KT:=K) (a:=Lc) (b:=M) (tt:=nu) (xs:=cs.map V.ref) (ys:=(cs.drop 1).map V.ref) (by rw[aa,aa,bv];lia)
       (λn zs j=>zs=(((cc.zip (cc.drop 1)).take n).map ltQ).map V.bl/\j N=some (.lst zs)/\aD H4 j)
       (bY rb au (aD.upd hN)) (λn zs j _ h=>⟨bI.of (h.2.2 _ _ G),bI.of (h.2.2 _ _ Hz)⟩) ?_ ?_))
      .intro n x y zs j T hx hy z hT;let⟨rfl,Ez,Z⟩:=z;let kT:aD j (upd j T (HO.tup [x,y])):=aD.upd hT;rw[cz]at hx hy;let⟨a1,ha1,rfl⟩:=e_.mp hx;let⟨a2,O,rfl⟩:=e_.mp hy;rw[nK]at O;let n1:n<cs.length:=(al.mp ha1).1;let n2:1+n<cs.length:=(al.mp O).1;let c1:cc[n]?=some cc[n]:=ae t6;let c2:cc[1+n]?=some cc[1+n]:=ae t6;let e1:=kT _ _ (Z _ _ (M4.at_ n a1 _ ha1 c1));let e2:=kT _ _ (Z _ _ (M4.at_ (1+n) a2 _ O c2));calc ajh rb (aU.of au) ?_;calc⟨a1,a2,_,_,_,_,rb,rb,e1,e2,hw9 _ (a9 _),hw9 _ (a9 _),kT _ _ Ez,?_,iK.mk (by rw[aa,bv];lia) (bY ?_ au ((Z.trans kT).dU hN))⟩;.rw[aa,aa,ay];show aJ t6
       .let ez:(cc.zip (cc.drop 1))[n]?=some (cc[n],cc[1+n]):=by
         rw[tj];show⟨c1,by rw[nK];show c2⟩
        rw[take_snoc ez,cq];rfl
      .intro zs j z;let⟨rfl,Ez,Z⟩:=z;calc(aK N _ rb (bI.of Ez) ?_);rw[ck (by rw[aa,bv,EY];lia),all_map];have:=q j (jc.trans Z);let e:layB r w (some (ts.map mkT))=jm cc:=by
        unfold layB;simp only;rw[ha,SX,J,aa,aw (show 1<=ts.length/\ts.length<=7 from ⟨h1,h7⟩)];rfl
       rw[e]at this;show this
   .calc(bh false (by simp;lia) (cR ?_));show F (by unfold layB;simp;lia) H (aD.refl _)
  .calc(bh false (by simp;lia) (cM ?_));show F (by unfold layB;simp;lia) H (aD.refl _)
def afD {f C R:Addr}{fd:FuncData}(F:fu K "__init__" "Taken.__init__" lu f fd)(D:mg "RackError"=some (.ref R))(j:InitOf K R)(T:qG K mg "Taken" C f ["row","column"]):cB P w K mg base dH 1 f fd ["self","row","column"] (J9 C "row" "column"):=by calc F.dM PN (λbN A outer s H vs Q E G h=>?_);let⟨a,v,u,rfl,ha,q⟩:=h;calc(aM _ (aB (eE (wJ ue D j (aj aG (aj aZ (aj bG ao))))) (aB (xu aG aZ rb) (aF (xu aG bG rb)))) ?_);calc(BP a C f none [v,u] rb ha T.M.ini (zsz 2) ?_);show(d7 a C none rb ha T.T (T.no _ t7) (.inl ⟨rb,λdx ne nd=>(d7 a C (some dx) rb au T.T (T.no _ t7) (.inr (aQ dx _ rb (by rw[aY ne,au]) (by show 1<50;decide) (q dx ne nd))))⟩))
def ah5 {f C R:Addr}{fd:FuncData}(F:fu K "__init__" "Gap.__init__" oE f fd)(D:mg "RackError"=some (.ref R))(j:InitOf K R)(T:qG K mg "Gap" C f ["row","column"]):cB P w K mg base dH 1 f fd ["self","row","column"] (J9 C "row" "column"):=by calc F.dM VP (λbN A outer s H vs Q E G h=>?_);let⟨a,v,u,rfl,ha,q⟩:=h;calc(aM _ (aB (eE (wJ ue D j (aj aG (aj aZ (aj bG ao))))) (aB (xu aG aZ rb) (aF (xu aG bG rb)))) ?_);calc(BP a C f none [v,u] rb ha T.M.ini (zsz 2) ?_);show(d7 a C none rb ha T.T (T.no _ t7) (.inl ⟨rb,λdx ne nd=>(d7 a C (some dx) rb au T.T (T.no _ t7) (.inr (aQ dx _ rb (by rw[aY ne,au]) (by show 1<50;decide) (q dx ne nd))))⟩))
def O8 {H:Hp}{a dx:Addr}{o p q p2:HO}(na:H a=none)(ne:dx≠a)(nd:upd H a o dx=none):upd (upd (upd (upd H a o) dx p) a q) dx p2 a=some q/\aD H (drop (upd (upd (upd (upd H a o) dx p) a q) dx p2) a)/\drop (upd (upd (upd (upd H a o) dx p) a q) dx p2) a dx=some p2:=by
 rw[aY ne]at nd;refine(bY (by rw[aY ne.symm,au]) (λb u e=>?_) ?_)
 .let h1:b≠a:=bB e na;let h2:b≠dx:=bB e nd;rw[jW h1,aY h2,aY h1,aY h2,aY h1];show e
 .rw[jW ne,au]
abbrev Xz (i j:Nat):List (Str×V):=iT "column" (.int j) [("row",.int i)]
def XC {α:Type}{p:α->Bool}{l:List α}{n:Nat}(hn:n<l.length)(h0:∀x∈l.take n,p x=false)(h1:p l[n]=true):l.find? p=some l[n]:=by
 let e:l=l.take n++l[n]::l.drop (n+1):=by rw[<-kD hn,cw]
 let e2:(l.take n++l[n]::l.drop (n+1)).find? p=some l[n]:=by rw[List.find?_append,sf.mpr λx hx=>by rw[h0 x hx];decide,Option.none_or,List.find?_cons_of_pos h1]
 rw[<-e]at e2;show e2
def XF {α:Type}{p:α->Bool}{l:List α}(h0:∀x∈l,p x=false):l.find? p=none:=sf.mpr λx hx=>by rw[h0 x hx];decide
def ah6 (a b:Nat):decide (V.int (a:Int)=V.int (b:Int))=decide (a=b):=by
 by_cases h:a=b;.subst h;simp
 .have:¬V.int (a:Int)=V.int (b:Int):=λz=>h (by injection z with z;show sq z)
  simp[h,this]
def uw (ts:List bQ):Bool:=ts.all λt=>decide (t.1=(ts.headD (0,0,0)).1)
def ux (ts:List bQ):Bool:=ts.all λt=>decide (t.2.1=(ts.headD (0,0,0)).2.1)
def yq {ts:List bQ}(h:0<ts.length):ts.headD (0,0,0)=ts[0]:=by
 cases ts with| nil=>simp at h| cons a b=>rfl
def O9:Sp:=λvs H Q _=>∃(t:Addr) (as:List Addr) (ts:List bQ),vs=[.ref t]/\H t=some (.tup (as.map V.ref))/\fB H as ts/\0<ts.length/\ts.length<=7/\∀H',aD H H'->Q (.bl (uw ts)) H'
def XH:Sp:=λvs H Q _=>∃(t:Addr) (as:List Addr) (ts:List bQ),vs=[.ref t]/\H t=some (.tup (as.map V.ref))/\fB H as ts/\0<ts.length/\ts.length<=7/\∀H',aD H H'->Q (.bl (ux ts)) H'
def Qg (D:aO K mg "is_across" qL ["laying"])(fK:mg "all"=none):cu P w K mg base "is_across" 1 ["laying"] O9:=by
 calc D.dM En (λf bN A outer s H vs Q E hr h=>?_);let⟨t,as,ts,rfl,ht,Y,h0,h7,q⟩:=h;let J:=Y.len;let hh:=yq h0;calc(aM _ (aF (bD (aW (j6 rb) ue fK jV (aj (ou (ns:=["row","column","sign"]) rb (kh.of ["laying"] [] ui) (iB aG) (λ_ _ _ _ _=>(rO K rb (show (["row","column","sign","laying"]:List Str).Nodup by decide +kernel) rb rb rb ue ue ue)) (λ_ _ _ _ _=>eG) (λ_ _ _ _ _=>(gK jD aG (bf (rN K) (bf (rN K) bJ aq (λ_ _=>rfl)) aq (λ_ _=>rfl)) (bO _)))) ao)))) ?_);refine(bH t rb ⟨_,aU.of ht⟩ (λN Z=>mj (K:=K) (KT:=K) (a:=t) (f:=kj [] 0) (tt:=nu) (xs:=as.map V.ref) (λn ys G=>ys=((ts.take n).map λt=>decide (t.1=(ts.headD (0,0,0)).1)).map V.bl/\G N=some (.lst ys)/\aD H G)
  (bY rb au (aD.upd Z)) (λn ys G _ h=>aU.of (h.2.2 _ _ ht)) ?_ ?_))
 .intro n x ys G hx z;let⟨rfl,O,F⟩:=z;let⟨hn,hx⟩:=rfg hx;let I:n<ts.length:=t6;let⟨_,en⟩:=j9 (Y.mv F) I;let⟨g0,e0⟩:=j9 (Y.mv F) h0;calc yM hx.symm (aU.of en) ?_;calc(bA t _ _ (.ref as[0]) rb rb (aU.of (F _ _ ht)) (aV (j:=0) (by simp[g0])) (uP (as[0]) _ _ _ rb rb (aU.of e0) (aV (j:=0) rb) rb O ?_ (iK.mk (by rw[aa];show hn) (bY ?_ au (F.dU Z)))));.rw[aa,aa,ay];show aJ t6
  .rw[take_snoc (ae I),cq,hh,ah6];rfl
 .intro ys G z;let⟨rfl,O,F⟩:=z;calc(aK N _ rb (bI.of O) ?_);rw[aa,J,cS,all_map];show q G F
def ZJ (D:aO K mg "is_down" yS ["laying"])(fK:mg "all"=none):cu P w K mg base "is_down" 1 ["laying"] XH:=by
 calc D.dM Zr (λf bN A outer s H vs Q E hr h=>?_);let⟨t,as,ts,rfl,ht,Y,h0,h7,q⟩:=h;let J:=Y.len;let hh:=yq h0;calc(aM _ (aF (bD (aW (j6 rb) ue fK jV (aj (ou (ns:=["row","column","sign"]) rb (kh.of ["laying"] [] ui) (iB aG) (λ_ _ _ _ _=>(rO K rb (show (["row","column","sign","laying"]:List Str).Nodup by decide +kernel) rb rb rb ue ue ue)) (λ_ _ _ _ _=>eG) (λ_ _ _ _ _=>(gK jD aZ (bf (rN K) (bf (rN K) bJ aq (λ_ _=>rfl)) aq (λ_ _=>rfl)) (bO _)))) ao)))) ?_);refine(bH t rb ⟨_,aU.of ht⟩ (λN Z=>mj (K:=K) (KT:=K) (a:=t) (f:=kj [] 0) (tt:=nu) (xs:=as.map V.ref) (λn ys G=>ys=((ts.take n).map λt=>decide (t.2.1=(ts.headD (0,0,0)).2.1)).map V.bl/\G N=some (.lst ys)/\aD H G)
  (bY rb au (aD.upd Z)) (λn ys G _ h=>aU.of (h.2.2 _ _ ht)) ?_ ?_))
 .intro n x ys G hx z;let⟨rfl,O,F⟩:=z;let⟨hn,hx⟩:=rfg hx;let I:n<ts.length:=t6;let⟨_,en⟩:=j9 (Y.mv F) I;let⟨g0,e0⟩:=j9 (Y.mv F) h0;calc yM hx.symm (aU.of en) ?_;calc(bA t _ _ (.ref as[0]) rb rb (aU.of (F _ _ ht)) (aV (j:=0) (by simp[g0])) (uP (as[0]) _ _ _ rb rb (aU.of e0) (aV (j:=1) rb) rb O ?_ (iK.mk (by rw[aa];show hn) (bY ?_ au (F.dU Z)))));.rw[aa,aa,ay];show aJ t6
  .rw[take_snoc (ae I),cq,hh,ah6];rfl
 .intro ys G z;let⟨rfl,O,F⟩:=z;calc(aK N _ rb (bI.of O) ?_);rw[aa,J,cS,all_map];show q G F
abbrev IL2:=jg (λq:Int×Int=>[V.int q.1,V.int q.2])
def around (i j:Int):List (Int×Int):=[(i-1,j),(i+1,j),(i,j-1),(i,j+1)]
def tkC (aA:AA)(r w:Nat)(p:Int×Int):Bool:=!decide ([atC aA r w p.1 p.2]=[46])
def QV (aA:AA)(r w:Nat)(i j:Int):Bool:=(around i j).any (tkC aA r w)
def any_map {α:Type}(l:List α)(f:α->Bool):((l.map f).any id)=l.any f:=by induction l with|nil=>rfl|cons a l ih=>simp[ih]
def S6 (C:Addr):Sp:=λvs H Q _=>∃(b:Addr) (r w:Nat) (aA aN:AA) (bi bj:Nat) (i j:Int),vs=[.ref b,.int i,.int j]/\cX C H b r w aA aN bi bj/\∀H',aD H H'->Q (.bl (QV aA r w i j)) H'
def Qh {C f1:Addr}{dY:FuncData}(D:aO K mg "is_next_to_taken" mq ["board","row","column"])(zm:mg "any"=none)(gF:∃t,mg "FREE"=some (.str (S [46]) t))(cQ:gW K C)(tG:Meth K C "at" f1)(tH:cB P w K mg base dH 3 f1 dY ["self","row","column"] (ZD C))(tK:bT K dY ["self","row","column"] []):cu P w K mg base "is_next_to_taken" 5 ["board","row","column"] (S6 C):=by
 calc D.dM oR (λf bN A outer s H vs Q E hr h=>?_);let⟨b,r,w,aA,aN,bi,bj,i,j,rfl,BA,q⟩:=h;calc(aM _ (aB (aX (i:=3) oR.nd rb (Or.inl rb) (dJ (aj (dJ (aj (aL qJ aZ aq) (aj bG ao))) (aj (dJ (aj (aL cY aZ aq) (aj bG ao))) (aj (dJ (aj aZ (aj (aL qJ bG aq) ao))) (aj (dJ (aj aZ (aj (aL cY bG aq) ao))) ao)))))) (aF (bD (aW (RN rb) ue zm Ou (aj (jG rb (ju.of oR.nd ui) (iB bJ) (λ_ _ _ _ _=>eG) (λ_ _ _ _ _=>(gK vB (ql aZ cQ.cl tG tH hr.mono tK .nil dO (aj (bf (rN K) aG aq (λ_ _=>rfl)) (aj (bf (rN K) aG aq (λ_ _=>rfl)) ao))) (uN ue gF) (bO _)))) ao))))) ?_);calc(aQ _ _ rb rb (zsz 2) (λG h1=>(aQ _ _ rb rb (zsz 2) (λg2 h2=>(aQ _ _ rb rb (zsz 2) (λI h3=>(aQ _ _ rb rb (zsz 2) (λF h4=>⟨zsz 4,λA J=>?_⟩))))))));dsimp only at h1 h2 h3 h4 J ⊢;let k1:aD H (upd H G (HO.tup [.int (i-1),.int j])):=aD.upd h1;let e1:upd H G (HO.tup [.int (i-1),.int j]) G=some (.tup [.int (i-1),.int j]):=au;generalize upd H G (HO.tup [.int (i-1),.int j])=H1 at k1 e1 h2 h3 h4 J ⊢;let k2:aD H1 (upd H1 g2 (HO.tup [.int (i+1),.int j])):=aD.upd h2;let e2:upd H1 g2 (HO.tup [.int (i+1),.int j]) g2=some (.tup [.int (i+1),.int j]):=au;generalize upd H1 g2 (HO.tup [.int (i+1),.int j])=H2 at k2 e2 h3 h4 J ⊢;let k3:aD H2 (upd H2 I (HO.tup [.int i,.int (j-1)])):=aD.upd h3;let e3:upd H2 I (HO.tup [.int i,.int (j-1)]) I=some (.tup [.int i,.int (j-1)]):=au;generalize upd H2 I (HO.tup [.int i,.int (j-1)])=H3 at k3 e3 h4 J ⊢;let k4:aD H3 (upd H3 F (HO.tup [.int i,.int (j+1)])):=aD.upd h4;let e4:upd H3 F (HO.tup [.int i,.int (j+1)]) F=some (.tup [.int i,.int (j+1)]):=au;generalize upd H3 F (HO.tup [.int i,.int (j+1)])=H4 at k4 e4 J ⊢;let k5:aD H4 (upd H4 A (HO.tup [.ref G,.ref g2,.ref I,.ref F])):=aD.upd J;let e5:upd H4 A (HO.tup [.ref G,.ref g2,.ref I,.ref F]) A=some (.tup ([G,g2,I,F].map V.ref)):=au;let il:IL2 H4 [G,g2,I,F] (around i j):=((jg.one (x:=(i-1,j)) (k4 _ _ (k3 _ _ (k2 _ _ e1)))).app (jg.one (x:=(i+1,j)) (k4 _ _ (k3 _ _ e2)))).app ((jg.one (x:=(i,j-1)) (k4 _ _ e3)).app (jg.one (x:=(i,j+1)) e4));let s5:=(((k1.trans k2).trans k3).trans k4).trans k5;let il5:=il.mv k5;generalize upd H4 A (HO.tup [.ref G,.ref g2,.ref I,.ref F])=H5 at k5 e5 s5 il5 ⊢;let BA5:=BA.mv s5;refine(bH A rb ⟨_,aU.of e5⟩ (λN hN=>pH (xs:=[G,g2,I,F].map V.ref) (λn ys O=>ys=(((around i j).take n).map (tkC aA r w)).map V.bl/\O N=some (.lst ys)/\aD H5 O)
  (bY rb au (aD.upd hN)) (λn ys O _ h=>aU.of (h.2.2 _ _ e5)) ?_ ?_))
 .intro n x ys O hx z;let⟨rfl,Aq,Z⟩:=z;let hn:n<[G,g2,I,F].length:=by have:=(al.mp hx).1;simpa using this
  let hn4:n<4:=hn;rw[cz,ae hn]at hx;let hx:V.ref [G,g2,I,F][n]=x:=bP hx;subst hx;let⟨u,eu,hu⟩:=(il5.mv Z).get hn;let Y:=BA5.mv Z;let⟨dx,_,_,_,ex,_⟩:=id Y.ex;calc(cW b dx _ rb ex rb (bA _ _ _ _ rb rb (aU.of hu) (aV (j:=0) rb) (bA _ _ _ _ rb rb (aU.of hu) (aV (j:=1) rb) (QJ b r w aA aN bi bj u.1 u.2 rb Y (dF [_] [46] rb rb Aq ?_ (iK.mk (by rw[aa];show hn) (bY ?_ au (Z.dU hN))))))));.rw[aa,aa,ay];show aJ t6
  .rw[take_snoc eu,cq];rfl
 .intro ys O z;let⟨rfl,Aq,Z⟩:=z;calc(aK N _ rb (bI.of Aq) ?_);rw[ck (by show 4<=4;decide),any_map];show q O (s5.trans Z)
def KN:Sp:=λvs H Q _=>∃c:Nat,vs=[.str (S [c])]/\c<128/\Q (.str (S ([c].map PyProof.Rows.lo1))) H
def S7 (D:aO K mg "letter_of" uQ ["sign"]):cu P w K mg base "letter_of" 1 ["sign"] KN:=by calc D.dM R9 (λf bN A outer s H vs Q E F h=>?_);let⟨c,rfl,j,q⟩:=h;calc(aM _ (aF (bD (Ea bz oS o0 Rw aG))) ?_);show⟨rb,oY [c] rb rb (by show 1<=1000;decide) (λd hd=>by rw[a_.mp hd];show j) q⟩
def S8 {aA:AA}{r w i j:Nat}(hi:i<r)(D:j<w):atC aA r w (i:Int) (j:Int)=cell aA i j:=by unfold atC cell;rw[if_pos (Bx t6 t6 t6 t6),c9,c9]
def tkT (aA:AA)(t:bQ):Bool:=!decide ([cell aA t.1 t.2.1]=[46])
def zK (aA:AA)(ts:List bQ):Option bQ:=ts.find? (tkT aA)
def S9 (C j:Addr):Sp:=λvs H Q E=>∃(b t:Addr) (as:List Addr) (ts:List bQ) (r w:Nat) (aA aN:AA) (bi bj:Nat),vs=[.ref b,.ref t]/\cX C H b r w aA aN bi bj/\H t=some (.tup (as.map V.ref))/\fB H as ts/\(∀t∈ts,inB r w t)/\
 (∀u,zK aA ts=some u->∀(dx:Addr) (H':Hp),aD H H'->H' dx=some (.ext (XD dx (Xz u.1 u.2.1)))->E (.ref j) (some dx) H')/\
 (zK aA ts=none->∀H',aD H H'->Q .non H')
def Qi {C J f0 f1:Addr}{eV dY:FuncData}(D:aO K mg "check_free" sV ["board","laying"])(gF:∃t,mg "FREE"=some (.str (S [46]) t))(cQ:gW K C)(tG:Meth K C "at" f1)(tH:cB P w K mg base dH 3 f1 dY ["self","row","column"] (ZD C))(tK:bT K dY ["self","row","column"] [])(T:qG K mg "Taken" J f0 ["row","column"])(afE:cB P w K mg base dH 1 f0 eV ["self","row","column"] (J9 J "row" "column"))(M5:bT K eV ["self","row","column"] []):DefX P w K mg base "check_free" 5 ["board","laying"] (S9 C J):=by
 refine D.Br qZ (λvs H Q E h=>?_) (λf bN A outer s H vs Q E hr h=>?_)
 .let⟨b,t,as,ts,r,w,aA,aN,bi,bj,rfl,_⟩:=h;rfl
 .let⟨b,t,as,ts,r,w,aA,aN,bi,bj,rfl,BA,ht,hL,dZ,qE,q⟩:=h;let afF:=T.M;let ado:=T.wj;let hal:=hL.len;calc(aM _ (aF (fP lL rb (iB aZ) (vD rb (dz (cj (i:=2) qZ.nd rb (Or.inl rb)) (dz (cj (i:=3) qZ.nd rb (Or.inl rb)) (dz (cj (i:=4) qZ.nd rb (Or.inl rb)) rK)))) (aF (cJ (bU vB (ql aG cQ.cl tG tH hr.mono tK .nil dO (aj bG (aj bJ ao))) (uN ue gF) (bO _)) (aF (vI rP rb afF afE hr.mono ue ado M5 (aj bG (aj bJ ao)))) bR)))) ?_);refine(bH t rb ⟨_,aU.of ht⟩ (Gz (K:=K) (a:=t) (xs:=as.map V.ref) (λn σ H'=>∃v2 O Y:Option V,σ=[some (.ref b),some (.ref t),v2,O,Y]/\aD H H'/\∀x∈ts.take n,tkT aA x=false)
   (qW none none none rb (aD.refl _) (λx hx=>by simp at hx)) (λn σ H' _ h=>by let⟨_,_,_,_,sm,_⟩:=h;show aU.of (sm _ _ ht)) ?_ ?_))
  .intro n x σ H' hx z;let⟨v2,O,Y,rfl,sm,j⟩:=z;let⟨hn,hx⟩:=rfg hx;let G:n<ts.length:=t6;subst hx;let⟨_,en⟩:=j9 (hL.mv sm) G;let⟨c1,c2,_⟩:=dZ _ (a9 G);let I:=BA.mv sm;let⟨Z,_,_,_,ex,_⟩:=id I.ex;calc(aQ (as[n]) _ rb (aU.of en) rb (eU _ _ rb (eU _ _ rb (aK _ _ rb rb ?_))));calc(cW b Z _ rb ex rb (QJ b r w aA aN bi bj _ _ rb I (aK [_] [46] rb rb (bh _ rb ?_))));rw[S8 c1 c2];cases F:tkT aA ts[n] with
   | true=>rw[show (!decide ([cell aA ts[n].1 ts[n].2.1]=[46]))=true from F];calc cR ⟨zsz 2,λa na=>(qW a _ _ rb au (λdx ne nd=>?_))⟩;let⟨k0,k1,k2⟩:=O8 (q:=.ext (jw a (.ref J) (some dx))) (p:=.ext (XD dx [("row",.int ts[n].1)])) (p2:=.ext (XD dx (Xz ts[n].1 ts[n].2.1))) na ne nd;show⟨rb,aM (some dx) k0 (qE ts[n] (XC G j F) dx _ (sm.trans k1) k2)⟩
   | false=>
    rw[show (!decide ([cell aA ts[n].1 ts[n].2.1]=[46]))=false from F];calc cM (qW _ _ _ rb sm (λx hx=>?_));rw[du,ae G]at hx;rcases be.mp hx with z|z;.show j x z
    .rw[a_.mp z];show F
  .intro σ H' z;let⟨v2,O,Y,rfl,sm,j⟩:=z;rw[aa,hal,cS]at j;show q (XF j) H' sm
def XJ (j:Addr):Sp:=λvs H Q E=>∃(t:Addr) (as:List Addr) (ts:List bQ),vs=[.ref t]/\H t=some (.tup (as.map V.ref))/\fB H as ts/\0<ts.length/\ts.length<=7/\
 ((uw ts||ux ts)=false->∀H',aD H H'->E (.ref j) none H')/\((uw ts||ux ts)=true->∀H',aD H H'->Q .non H')
def Hs {j:Addr}(D:aO K mg "check_straight" oG ["laying"])(Z:mg "Crooked"=some (.ref j))(F:W.excIn K j kE "ValueError.__new__"=true)(Y:cu P w K mg base "is_across" 1 ["laying"] O9)(G:cu P w K mg base "is_down" 1 ["laying"] XH):DefX P w K mg base "check_straight" 3 ["laying"] (XJ j):=by
 refine D.Br Ho (λvs H Q E h=>?_) (λf bN A outer s H vs Q E J h=>?_)
 .let⟨t,as,ts,rfl,_⟩:=h;rfl
 .let⟨t,as,ts,rfl,ht,O,h0,h7,qE,q⟩:=h;calc(aM _ (aF (cJ (QW.qt (vG (fQ (eO (bK Y J.mono rb (aj aG ao)))) (w6 (fQ (eO (bK G J.mono rb (aj aG ao))))))) (aF (Ir rP rb rb ue Z F (aj (bL [116,104,101,32,99,101,108,108,115,32,97,114,101,32,110,111,116,32,105,110,32,111,110,101,32,108,105,110,101] uj) ao))) bR)) ?_);calc(uO t as ts rb ht O h0 h7 (λH1 s1=>(bh _ rb ?_)));cases ha:uw ts with
  | true=>show cM (cM (q (by rw[ha];rfl) H1 s1))
  | false=>
   calc cR (uO t as ts rb (s1 _ _ ht) (O.mv s1) h0 h7 (λI s2=>(bh _ rb ?_)));cases hd:ux ts with| true=>show cM (q (by rw[ha,hd];rfl) I (s1.trans s2))| false=>show cR ⟨zsz 1,qE (by rw[ha,hd];rfl) I (s1.trans s2)⟩
structure aeC (R:AA)(a b c d i j:Nat):Prop where
 i1:a<=i
 i2:i<=b
 j1:c<=j
 j2:j<=d
 fr:cell R i j=46
 up:∀i' j',a<=i'->i'<i->c<=j'->j'<=d->cell R i' j'≠46
 le:∀j',c<=j'->j'<j->cell R i j'≠46
def KQ (R:AA)(a b c d:Nat):Prop:=∀i j,a<=i->i<=b->c<=j->j<=d->cell R i j≠46
def mZ (ts:List bQ):bQ:=ts.getLastD (0,0,0)
def pW (ts:List bQ):bQ:=ts.headD (0,0,0)
def adp {ts:List bQ}(h:0<ts.length):mZ ts=ts[ts.length-1]:=by unfold mZ;rw[List.getLastD_eq_getLast?,tf,ae t6];rfl
def S_ (C CG:Addr):Sp:=λvs H Q E=>∃(b t:Addr) (as:List Addr) (ts:List bQ) (r w:Nat) (aA aN:AA) (bi bj:Nat),vs=[.ref b,.ref t]/\cX C H b r w aA aN bi bj/\H t=some (.tup (as.map V.ref))/\fB H as ts/\(∀t∈ts,inB r w t)/\0<ts.length/\
 (∀i j,aeC (dR aA ts) (pW ts).1 (mZ ts).1 (pW ts).2.1 (mZ ts).2.1 i j->∀(dx:Addr) (H':Hp),aD H H'->H' dx=some (.ext (XD dx (Xz i j)))->E (.ref CG) (some dx) H')/\
 (KQ (dR aA ts) (pW ts).1 (mZ ts).1 (pW ts).2.1 (mZ ts).2.1->∀H',aD H H'->Q .non H')
def Qj {C CG f0 f1 f2:Addr}{eV dY fd2:FuncData}(D:aO K mg "check_gaps" sW ["board","laying"])(dN:mg "range"=none)(gF:∃t,mg "FREE"=some (.str (S [46]) t))(cQ:gW K C)(tG:Meth K C "at" f1)(tH:cB P w K mg base dH 3 f1 dY ["self","row","column"] (ZD C))(tK:bT K dY ["self","row","column"] [])(pP:Meth K C "laid" f2)(pQ:cB P w K mg base dH 8 f2 fd2 ["self","laying"] (Kw C))(pR:bT K fd2 ["self","laying"] [])(T:qG K mg "Gap" CG f0 ["row","column"])(ajw:cB P w K mg base dH 1 f0 eV ["self","row","column"] (J9 CG "row" "column"))(ZL:bT K eV ["self","row","column"] []):DefX P w K mg base "check_gaps" 10 ["board","laying"] (S_ C CG):=by
 refine D.Br q_ (λvs H Q E h=>?_) (λf bN A outer s H vs Q E hr h=>?_)
 .let⟨b,t,as,ts,r,w,aA,aN,bi,bj,rfl,_⟩:=h;rfl
 .let⟨b,t,as,ts,r,w,aA,aN,bi,bj,rfl,BA,ht,hL,dZ,h0,Z,q⟩:=h;let ajx:=T.M;let ah7:=T.wj;let hal:=hL.len;let r9:=BA.ok.r9;let w9:=BA.ok.w9;let⟨dx,_,_,_,ex,_⟩:=id BA.ex;calc(aM _ (aB (aX (i:=2) q_.nd rb (Or.inl rb) (ql aG cQ.cl pP pQ hr.mono pR .nil dO (aj aZ ao))) (aF (fP lL rb (Oq ue dN (aj (bf bF (bf bF aZ aq (λ_ _=>rfl)) aq (λ_ _=>rfl)) (aj (aL cY (bf bF (bf bF aZ (wH sI aq) (λ_ _=>rfl)) aq (λ_ _=>rfl)) aq) ao))) (cj (i:=3) q_.nd rb (Or.inl rb)) (aF (fP lL rb (Oq ue dN (aj (bf bF (bf bF aZ aq (λ_ _=>rfl)) aq (λ_ _=>rfl)) (aj (aL cY (bf bF (bf bF aZ (wH sI aq) (λ_ _=>rfl)) aq (λ_ _=>rfl)) aq) ao))) (cj (i:=4) q_.nd rb (Or.inl rb)) (aF (cJ (bU lU (ql bG cQ.cl tG tH hr.mono tK .nil dO (aj bJ (aj dI ao))) (uN ue gF) (bO _)) (aF (vI rP rb ajx ajw hr.mono ue ah7 ZL (aj bJ (aj dI ao)))) bR))))))) ?_);calc(cW b dx _ rb ex rb (Kc b t as ts r w aA aN bi bj rb BA ht hL dZ (λx1 H1 s1 B1=>?_)));rw[show pW ts=ts[0] from yq h0,adp h0]at Z q;let⟨a1,a2,_⟩:=dZ _ (a9 h0);let⟨l1,l2,_⟩:=dZ _ (a9 (show ts.length-1<ts.length by lia));let hL1:=hL.mv s1;let Y:=s1 _ _ ht;let⟨g0,e0⟩:=j9 hL1 h0;let⟨gl,el⟩:=j9 hL1 (show ts.length-1<ts.length by lia);let eal:as.length-1=ts.length-1:=t6;let QF:rH (as.map V.ref) (-1)=some (.ref as[ts.length-1]):=by
   rw[afC (show 0<as.length by lia)];simp only[eal]
  generalize hR:dR aA ts=R at B1 Z q;generalize ef:ts[0]=ff at e0 Z q a1 a2;generalize eg:ts[ts.length-1]=ll at el Z q l1 l2;calc(bA t _ _ (.ref as[0]) rb rb (aU.of Y) (aV (j:=0) (by simp[g0])) (bA (as[0]) _ _ _ rb rb (aU.of e0) (aV (j:=0) rb) (aM _ rb (bA t _ _ (.ref as[ts.length-1]) rb rb (aU.of Y) QF (bA (as[ts.length-1]) _ _ _ rb rb (aU.of el) (aV (j:=0) rb) (aK _ _ rb rb (aK (ff.1:Int) ((ll.1:Int)+1) rb (Bx t6 t6 t6 t6) ?_)))))));refine jR (lo:=(ff.1:Int)) (λn σ H'=>∃v3 J:Option V,σ=[some (.ref b),some (.ref t),some (.ref x1),v3,J]/\aD H1 H'/\∀i j,ff.1<=i->i<ff.1+n->ff.2.1<=j->j<=ll.2.1->cell R i j≠46)
   (aK none none rb (aD.refl _) (λi j O z2=>by lia)) ?_ ?_
  .intro n σ H' hn z;let⟨v3,J,rfl,sm,G⟩:=z;let hn2:ff.1+n<=ll.1:=t6;let en:(ff.1:Int)+(n:Int)=((ff.1+n:Nat):Int):=t6;rw[en];let Xv:=sm _ _ Y;let e02:=sm _ _ e0;let el2:=sm _ _ el;calc(bA t _ _ (.ref as[0]) rb rb (aU.of Xv) (aV (j:=0) (by simp[g0])) (bA (as[0]) _ _ _ rb rb (aU.of e02) (aV (j:=1) rb) (aM _ rb (bA t _ _ (.ref as[ts.length-1]) rb rb (aU.of Xv) QF (bA (as[ts.length-1]) _ _ _ rb rb (aU.of el2) (aV (j:=1) rb) (aK _ _ rb rb (aK (ff.2.1:Int) ((ll.2.1:Int)+1) rb (Bx t6 t6 t6 t6) ?_)))))));refine jR (lo:=(ff.2.1:Int)) (λm σ H2=>∃J:Option V,σ=[some (.ref b),some (.ref t),some (.ref x1),some (.int ((ff.1+n:Nat):Int)),J]/\aD H1 H2/\∀j,ff.2.1<=j->j<ff.2.1+m->cell R (ff.1+n) j≠46)
    (bH _ rb sm (λj O z2=>by lia)) ?_ ?_
   .intro m σ H2 hm z;let⟨J,rfl,F,I⟩:=z;let hm2:ff.2.1+m<=ll.2.1:=t6;let em:(ff.2.1:Int)+(m:Int)=((ff.2.1+m:Nat):Int):=t6;rw[em];let B2:=B1.mv F;let⟨dx1,_,_,_,Xw,_⟩:=id B2.ex;calc(cW x1 dx1 _ rb Xw rb (QJ x1 r w R aN bi bj _ _ rb B2 (aK [_] [46] rb rb (bh _ rb ?_))));rw[S8 (show ff.1+n<r by lia) (show ff.2.1+m<w by lia)];by_cases hc:cell R (ff.1+n) (ff.2.1+m)=46
    .rw[aw (show [cell R (ff.1+n) (ff.2.1+m)]=[46] by rw[hc])];calc cR ⟨zsz 2,λa na=>(qW a _ _ rb au (λdx ne nd=>?_))⟩;let⟨k0,k1,k2⟩:=O8 (q:=.ext (jw a (.ref CG) (some dx))) (p:=.ext (XD dx [("row",.int (ff.1+n:Nat))])) (p2:=.ext (XD dx (Xz (ff.1+n) (ff.2.1+m)))) na ne nd;show⟨rb,aM (some dx) k0 (Z _ _ ⟨t6,hn2,t6,hm2,hc,G,I⟩ dx _ ((s1.trans F).trans k1) k2)⟩
    .rw[ah (show ¬[cell R (ff.1+n) (ff.2.1+m)]=[46] from λz=>hc (by injection z))];calc cM (bH _ rb F (λj O z2=>?_));by_cases z:j=ff.2.1+m;.rw[z];show hc
     .show I j O t6
   .intro σ H2 z;let⟨J,rfl,F,I⟩:=z;calc(aK _ _ rb F (λi j O z2 z3 z4=>?_));by_cases z:i=ff.1+n;.rw[z];show I j z3 t6
    .show G i j O t6 z3 z4
  .intro σ H' z;let⟨v3,J,rfl,sm,G⟩:=z;show q (λi j O z2 z3 z4=>G i j O t6 z3 z4) H' (s1.trans sm)
def kO (t:bQ):Nat×Nat:=(t.1,t.2.1)
noncomputable def Dv (aA:AA)(r w bi bj:Nat)(ts:List bQ):Bool:=if isFree aA=true then decide ((bi,bj)∈ts.map kO) else ts.any λt=>QV aA r w t.1 t.2.1
theorem d_.ofP {H:Hp}:∀{cs:List Addr} {j:List (Nat×Nat)},PL2 H cs j->d_ K H 1 (j.map λc=>Dt.tup [.int c.1,.int c.2]) (cs.map V.ref)
 | [],[],_=>.nil
 | [],_::_,h=>by have:=h.len;simp at this
 | _::_,[],h=>by have:=h.len;simp at this
 | a::cs,c::j,h=>.cons (.tup (aU.of (h.at_ 0 a c rb rb)) (.cons (.int _) (.cons (.int _) .nil))) (d_.ofP ⟨by have:=h.len;simpa using this,λi a x h1 h2=>h.at_ (i+1) a x h1 h2⟩)
def KR {c:Nat×Nat}{j:List (Nat×Nat)}:Dt.tup [.int c.1,.int c.2]∈(j.map λc=>Dt.tup [.int (c.1:Int),.int (c.2:Int)])↔c∈j:=by
 constructor
 .intro h;let⟨d,hd,e⟩:=bu.mp h;injection e with e;injection e with e1 e2;injection e1 with e1;injection e2 with e2;injection e2 with e2;have:d=c:=Prod.ext (sq e1) (sq e2);rw[<-this];show hd
 .intro h;show bu.mpr (aM c h rb)
def Tc (C j:Addr):Sp:=λvs H Q E=>∃(b t:Addr) (as:List Addr) (ts:List bQ) (r w:Nat) (aA aN:AA) (bi bj:Nat),vs=[.ref b,.ref t]/\cX C H b r w aA aN bi bj/\H t=some (.tup (as.map V.ref))/\fB H as ts/\ts.length<=7/\
 (Dv aA r w bi bj ts=false->∀H',aD H H'->E (.ref j) none H')/\(Dv aA r w bi bj ts=true->∀H',aD H H'->Q .non H')
open Classical in
def KY {C J f1:Addr}{dY:FuncData}(D:aO K mg "check_joined" qu ["board","laying"])(zm:mg "any"=none)(cQ:gW K C)(tL:Meth K C "is_free" f1)(tM:cB P w K mg base dH 1 f1 dY ["self"] (Sw C))(tQ:bT K dY ["self"] [])(adq:mg "Apart"=some (.ref J))(Z:W.excIn K J kE "ValueError.__new__"=true)(tE:cu P w K mg base "cells_of" 1 ["laying"] zj)(E_:cu P w K mg base "is_next_to_taken" 5 ["board","row","column"] (S6 C)):DefX P w K mg base "check_joined" 7 ["board","laying"] (Tc C J):=by
 refine D.Br sX (λvs H Q E h=>?_) (λf bN A outer s H vs Q E I h=>?_)
 .let⟨b,t,as,ts,r,w,aA,aN,bi,bj,rfl,_⟩:=h;rfl
 .let⟨b,t,as,ts,r,w,aA,aN,bi,bj,rfl,BA,ht,hL,h7,qE,q⟩:=h;let hal:=hL.len;let⟨dx,pr,pm,pb,ex,_,_,O⟩:=id BA.ex;calc(aM _ (aB (jj (cJ (eO (dX aG cQ.cl tL tM I.mono tQ .nil dO)) (aF (aX (i:=2) sX.nd rb (Or.inl rb) (gK (Xf I.units) (cg aG rb) (bK tE I.mono rb (aj aZ ao)) rb))) (aF (aX (i:=2) sX.nd rb (Or.inl rb) (aW (RN rb) ue zm Ou (aj (ou (ns:=["row","column","sign"]) rb (kh.of ["board","laying","joined"] [] ui) (iB aZ) (λ_ _ _ _ _=>(rO K rb (show (["row","column","sign","board","laying","joined"]:List Str).Nodup by decide +kernel) rb rb rb ue ue ue)) (λ_ _ _ _ _=>eG) (λ_ _ _ _ _=>(bK E_ I.mono rb (aj bJ (aj aG (aj aZ ao)))))) ao)))))) (aF (cJ (fQ (eO bG)) (aF (Ir rP rb rb ue adq Z (aj (bL [116,104,101,32,108,97,121,105,110,103,32,105,115,32,106,111,105,110,101,100,32,116,111,32,110,111,116,104,105,110,103] uj) ao))) bR))) ?_);refine(aM (λσ H'=>aD H H'/\σ=[some (.ref b),some (.ref t),some (.bl (Dv aA r w bi bj ts))]) ?_ ?_)
  .calc(cW b dx _ rb ex rb ⟨b,r,w,aA,aN,bi,bj,rb,BA,λH1 s1=>(bh _ rb ?_)⟩);cases hf:isFree aA with
   | true=>
    calc cR (cL b C dx _ _ rb (s1 _ _ ex) cQ.cl cQ.nb rb (d7 t as ts rb (s1 _ _ ht) (hL.mv s1) t6 (λLc cs H2 s2 hLc hcs=>?_)));let Y:=s2 _ _ (s1 _ _ O);calc(cW 2 (.tup [.int bi,.int bj]) ((ts.map kO).map λc=>Dt.tup [.int c.1,.int c.2]) t9 (.tup (aU.of Y) (.cons (.int _) (.cons (.int _) .nil))) (.lst (bI.of hLc) (d_.ofP hcs)) ?_);calc⟨s1.trans s2,?_⟩;let e:Dv aA r w bi bj ts=decide ((bi,bj)∈ts.map kO):=by unfold Dv;rw[if_pos hf]
    rw[e];simp only[gr,if_false];by_cases hm:(bi,bj)∈ts.map kO;.rw[aw hm,aw (KR (c:=(bi,bj)).mpr hm)];rfl
    .rw[ah hm,ah (λz=>hm (KR (c:=(bi,bj)).mp z))];rfl
   | false=>
    refine cM (bH t rb ⟨_,aU.of (s1 _ _ ht)⟩ (λN hN=>mj (K:=K) (KT:=K) (a:=t) (f:=kj [] 0) (tt:=nu) (xs:=as.map V.ref) (λn ys G=>ys=((ts.take n).map λt=>QV aA r w t.1 t.2.1).map V.bl/\G N=some (.lst ys)/\aD H1 G)
     (bY rb au (aD.upd hN)) (λn ys G _ h=>aU.of (h.2.2 _ _ (s1 _ _ ht))) ?_ ?_))
    .intro n x ys G hx z;let⟨rfl,yp,j⟩:=z;let⟨hn,hx⟩:=rfg hx;let F:n<ts.length:=t6;let gM:=s1.trans j;let⟨_,en⟩:=j9 (hL.mv gM) F;calc yM hx.symm (aU.of en) ?_;calc(QJ b r w aA aN bi bj _ _ rb (BA.mv gM) (λH4 s4=>(bY (s4 _ _ yp) ?_ (iK.mk (by rw[aa];show hn) (bY ?_ au ((j.trans s4).dU hN))))));.rw[aa,aa,ay];show aJ t6
     .rw[take_snoc (ae F),cq];rfl
    .intro ys G z;let⟨rfl,yp,j⟩:=z;calc(aQ N _ rb (bI.of yp) (s1.trans j) ?_);rw[aa,hal,cS,any_map];let e:Dv aA r w bi bj ts=ts.any λt=>QV aA r w t.1 t.2.1:=by unfold Dv;rw[if_neg (by rw[hf];decide)]
     rw[e];rfl
  .rintro σ H' ⟨sm,rfl⟩;cases hj:Dv aA r w bi bj ts with| true=>show q hj H' sm| false=>show⟨zsz 1,qE hj H' sm⟩
structure zL (w:List Nat):Prop where
 lo:2<=w.length
 hi:w.length<=9
 az:∀c∈w,isLet c
def Td:Sp:=λvs H Q _=>∃l:List Nat,vs=[.str (S l)]/\zL l/\∀H',aD H H'->Q (.bl true) H'
def abB {c:Nat}(h:isLet c):decide ([c]<[97])=false/\decide ([122]<[c])=false:=by
 let j:∀a b:Nat,([a]<[b])↔a<b:=λa b=>by simp[km]
 constructor;.rw[ah];rw[j];have:=h.1;lia
 .rw[ah];rw[j];have:=h.2;lia
def ZM (D:aO K mg "is_word" yW ["text"])(O:mg "len"=none)(G:mg "all"=none):cu P w K mg base "is_word" 1 ["text"] Td:=by
 calc D.dM Kp (λf bN A outer s H vs Q E Y h=>?_);let⟨l,rfl,hw,q⟩:=h;let h1:=hw.lo;let h2:=hw.hi;let hz:l.length<=sizeLine:=am (aJ t6);refine(aM _ (aF (bD (lW (mJ qT qT aq (aW dw ue O aE (aj aG ao)) aq)
  (j8 (aW (j6 rb) ue G uj (aj (jG rb (ju.of Kp.nd ui) (vH aG) (λ_ _ _ _ _=>eG)
   (λ_ _ _ _ _=>mJ oN oN (bL [97] uj) aG (bL [122] uj))) ao)))))) ?_)
 calc(bH l rb hz (aK _ _ rb rb (bh true (by simp;lia) ?_)));calc cR (aK _ _ rb rb (bh true (by simp;lia) ?_));calc cR ?_;refine(aM l rb (λL J=>xQ (λi ys F=>ys=(List.replicate i true).map V.bl/\F L=some (.lst ys)/\aD H F) (bY rb au (aD.upd J)) ?_ ?_))
 .intro i c ys F hi z;let⟨rfl,j,sm⟩:=z;let I:i<l.length:=(al.mp hi).1;let⟨a1,a2⟩:=abB (hw.az c (b8 hi));calc(aK [97] [c] rb rb (bh true (by rw[a1];rfl) (cR (dF [c] [122] rb rb j ?_ (iK.mk I (bY ?_ au (sm.dU J)))))));.rw[aa,dL];show aJ t6
  .rw[a2,List.replicate_succ',cq];rfl
 .intro ys F z;let⟨rfl,j,sm⟩:=z;calc(aK L (List.replicate l.length true) rb (bI.of j) ?_);let e:(List.replicate l.length true).all id=true:=t7;rw[e];show q F sm
def XM:Sp:=λvs H Q _=>∃l:List Nat,vs=[.str (S l)]/\zL l/\∀H',aD H H'->Q .non H'
def Qk (D:aO K mg "check_word" sY ["text"])(j:cu P w K mg base "is_word" 1 ["text"] Td):cu P w K mg base "check_word" 2 ["text"] XM:=by calc D.dM P_ (λf bN A outer s H vs Q E F h=>?_);let⟨l,rfl,hw,q⟩:=h;calc(aM _ (aF (cJ (fQ (eO (bK j F rb (aj aG ao)))) vC bR)) ?_);calc(bH l rb hw (λH1 s1=>(bh true rb ?_)));show cM (q H1 s1)
structure uy (K:W.Frag)(C:Addr):Prop where
 cl:Cls K C
 nh:jh K C "held"
def qN (ws:AA):List (Key×V):=ws.map λl=>(cZ l,V.bl true)
def adt (ws:AA):(qN ws).map (·.1)=ws.map cZ:=by unfold qN;rw[f_];rfl
def adu {a b:List Nat}(h:cZ a=cZ b):a=b:=yJ (oy h)
def M6 (ws:AA)(l:List Nat):fY (qN ws) (cZ l)=if l∈ws then some (.bl true) else none:=by
 induction ws with
 | nil=>simp[qN,fY]
 | cons a r ih=>
  by_cases e:a=l
  .subst e;have:fY (qN (a::r)) (cZ a)=some (.bl true):=j4 (p:=(cZ a,V.bl true)) rfl;rw[this];simp
  .have:fY (qN (a::r)) (cZ l)=fY (qN r) (cZ l):=j5 (p:=(cZ a,V.bl true)) λz=>e (adu z)
   rw[this,ih];let j:¬l=a:=λz=>e z.symm;simp[j]
def afH {ws:AA}{l:List Nat}(h:l∈ws):putK (qN ws) (cZ l) (.bl true)=qN ws:=by
 let j:((qN ws).any λF=>decide (F.1=cZ l))=true:=by rw[ug,M6,if_pos h];rfl
 unfold putK;rw[if_pos j];calc(fE λF D=>?_).trans (kK _);let⟨a,_,rfl⟩:=bu.mp D;by_cases e:cZ a=cZ l;.simp[e]
 .simp[e]
def afI {ws:AA}{l:List Nat}(h:l∉ws):putK (qN ws) (cZ l) (.bl true)=qN (ws++[l]):=by rw[acK _ (by rw[M6,if_neg h])];simp[qN]
structure iC (C:Addr)(H:Hp)(p d:Addr)(ws:AA):Prop where
 ob:∃dx,H p=some (.ins C dx [("held",.ref d)])
 dc:H d=some (.dK (qN ws))
 nd:ws.Nodup
 az:∀l∈ws,zL l
def zM (ws:AA)(l:List Nat):List (List Nat):=if l∈ws then ws else ws++[l]
def Tf (ws:AA)(l:List Nat):putK (qN ws) (cZ l) (.bl true)=qN (zM ws l):=by
 unfold zM;split;.rename_i h;show afH h
 .rename_i h;show afI h
def XQ {ws:AA}{l:List Nat}(h:ws.Nodup):(zM ws l).Nodup:=by
 unfold zM;split;.show h
 .rename_i hl;show WY h hl
def Tg {ws:AA}{l x:List Nat}:x∈zM ws l↔x∈ws\/x=l:=by
 unfold zM;split;.rename_i h;show⟨.inl,λz=>z.elim id λe=>e ▸ h⟩
 .simp
def Ti (ws:AA)(l:List Nat):(zM ws l).length<=ws.length+1:=by
 unfold zM;split;.lia
 .simp
def ajy (K:W.Frag)(H:Hp)(a:Addr)(ls:AA):Prop:=bI K H a (Ts ls)\/aU K H a (Ts ls)
def Tj (K:W.Frag)(C:Addr):Sp:=λvs H Q _=>∃(p dx a:Addr) (ls:AA),vs=[.ref p,.ref a]/\H p=some (.ins C dx [])/\ajy K H a ls/\(∀l∈ls,zL l)/\ls.length<=200/\
 ∀(d:Addr) (ws:AA) (H':Hp),H d=none->iC C H' p d ws->(∀x,x∈ws↔x∈ls)->ws.length<=ls.length->(∀b o,H b=some o->b≠p->H' b=some o)->Q .non H'
def afJ {f C:Addr}{fd:FuncData}(F:fu K "__init__" "Book.__init__" mQ f fd)(T:uy K C)(D1:cu P w K mg base "check_word" 2 ["text"] XM):cB P w K mg base dH 3 f fd ["self","words"] (Tj K C):=by
 calc F.dM Et (λbN A outer s H vs Q E hr h=>?_);let⟨p,dx,a,ls,rfl,hp,hS,hW,hn,k⟩:=h;let hu:=Qw hr;let nd:=Et.nd;refine(aM _ (aB (lV aG Rt rb) (aF (fP dr rb ((qj aZ).or (iB aZ)) (cj (i:=2) nd rb (Or.inl rb))
  (aB (eE (bK D1 hr rb (aj bG ao))) (aF (W6 hu (cg aG rb) bG iY rb)))))) ?_)
 intro d hd;let Z:p≠d:=bB hp hd;calc(iy p C dx [] rb (by rw[aY Z];show hp) T.cl T.nh (by show 0<1000;decide) ?_);let hP1:upd (upd H d (HO.dK [])) p (HO.ins C dx (iT "held" (V.ref d) [])) p=some (.ins C dx [("held",.ref d)]):=au;let hD1:upd (upd H d (HO.dK [])) p (HO.ins C dx (iT "held" (V.ref d) [])) d=some (.dK (qN [])):=by rw[aY Z.symm,au];rfl
 let O:∀b o,H b=some o->b≠p->upd (upd H d (HO.dK [])) p (HO.ins C dx (iT "held" (V.ref d) [])) b=some o:=λb o e hb=>by rw[aY hb,aY (bB e hd)];show e
 generalize upd (upd H d (HO.dK [])) p (HO.ins C dx (iT "held" (V.ref d) []))=H1 at hP1 hD1 O ⊢;let npl:∀o,H p=some o->(∀ys,o≠.lst ys)/\∀u ys,o≠.qH u (.lst ys):=λo e=>by rw[hp]at e;cases e;show⟨λ_ z=>(nomatch z),λ_ _ z=>(nomatch z)⟩
 let npt:∀o,H p=some o->(∀ys,o≠.tup ys)/\∀u ys,o≠.qH u (.tup ys):=λo e=>by rw[hp]at e;cases e;show⟨λ_ z=>(nomatch z),λ_ _ z=>(nomatch z)⟩
 rcases hS with hS|hS
 .refine .inl (bH a rb ⟨_,hS.keep O npl⟩ (pB (K:=K) (a:=a) (xs:=Ts ls) (λi σ G=>∃(v2:Option V) (ws:AA),σ=[some (.ref p),some (.ref a),v2]/\G p=some (.ins C dx [("held",.ref d)])/\G d=some (.dK (qN ws))/\ws.Nodup/\
   (∀x,x∈ws↔x∈ls.take i)/\ws.length<=i/\∀b o,H b=some o->b≠p->G b=some o) (Ke none [] rb hP1 hD1 tP (λx=>by simp) (ai _) O) (λi σ G _ ⟨_,_,_,_,_,_,_,_,kp⟩=>hS.keep kp npl) ?_ ?_))
  .intro i y σ G hi z;let⟨v2,ws,rfl,j,D,I,hm,hl,kp⟩:=z;rw[cz]at hi;let⟨l,J,e⟩:=e_.mp hi;subst e;let hil:i<ls.length:=(al.mp J).1;calc(bH l rb (hW l (b8 J)) (λH3 Y=>?_));let hd3:=Y _ _ D;calc(cL p C dx _ _ rb (Y _ _ j) T.cl T.nh rb (aK d _ rb (Il.k (k:=cZ l) hd3 (by rw[qN,aa];show aJ t6)) ?_));calc(Ke _ (zM ws l) rb (by rw[aY Z];show Y _ _ j) (by rw[au,Tf]) (XQ I) (λx=>?_) (bS (Ti _ _) t6) (λb o e hb=>?_));.rw[Tg,hm,du,J];simp
   .rw[aY (bB e hd)];show Y _ _ (kp b o e hb)
  .intro σ G z;let⟨v2,ws,rfl,j,D,I,hm,hl,kp⟩:=z;rw[aa]at hm hl;rw[cS]at hm;show k d ws G hd ⟨⟨dx,j⟩,D,I,λl hl=>hW l ((hm l).mp hl)⟩ hm hl kp
 .refine .inr (bH a rb ⟨_,hS.keep O npt⟩ (Gz (K:=K) (a:=a) (xs:=Ts ls) (λi σ G=>∃(v2:Option V) (ws:AA),σ=[some (.ref p),some (.ref a),v2]/\G p=some (.ins C dx [("held",.ref d)])/\G d=some (.dK (qN ws))/\ws.Nodup/\
   (∀x,x∈ws↔x∈ls.take i)/\ws.length<=i/\∀b o,H b=some o->b≠p->G b=some o) (Ke none [] rb hP1 hD1 tP (λx=>by simp) (ai _) O) (λi σ G _ ⟨_,_,_,_,_,_,_,_,kp⟩=>hS.keep kp npt) ?_ ?_))
  .intro i y σ G hi z;let⟨v2,ws,rfl,j,D,I,hm,hl,kp⟩:=z;rw[cz]at hi;let⟨l,J,e⟩:=e_.mp hi;subst e;let hil:i<ls.length:=(al.mp J).1;calc(bH l rb (hW l (b8 J)) (λH3 Y=>?_));let hd3:=Y _ _ D;calc(cL p C dx _ _ rb (Y _ _ j) T.cl T.nh rb (aK d _ rb (Il.k (k:=cZ l) hd3 (by rw[qN,aa];show aJ t6)) ?_));calc(Ke _ (zM ws l) rb (by rw[aY Z];show Y _ _ j) (by rw[au,Tf]) (XQ I) (λx=>?_) (bS (Ti _ _) t6) (λb o e hb=>?_));.rw[Tg,hm,du,J];simp
   .rw[aY (bB e hd)];show Y _ _ (kp b o e hb)
  .intro σ G z;let⟨v2,ws,rfl,j,D,I,hm,hl,kp⟩:=z;rw[aa]at hm hl;rw[cS]at hm;show k d ws G hd ⟨⟨dx,j⟩,D,I,λl hl=>hW l ((hm l).mp hl)⟩ hm hl kp
def aeD (C:Addr):Sp:=λvs H Q _=>∃(p d:Addr) (ws:AA) (l:List Nat),vs=[.ref p,.str (S l)]/\iC C H p d ws/\Q (.bl (decide (l∈ws))) H
def ah8 {f C:Addr}{fd:FuncData}(F:fu K "has" "Book.has" oJ f fd)(T:uy K C):cB P w K mg base dH 1 f fd ["self","text"] (aeD C):=by
 calc F.dM V5 (λbN A outer s H vs Q E D h=>?_);let⟨p,d,ws,l,rfl,B,q⟩:=h;let j:=Qw D;obtain⟨⟨dx,hp⟩,hd,_,_⟩:=id B;calc(aM _ (aF (bD (ahB (ahA j aZ (cg aG rb))))) ?_);calc(cL p C dx _ _ rb hp T.cl T.nh rb (aK d _ rb (zG.k (k:=cZ l) hd) ?_));rw[M6];by_cases h:l∈ws;.rw[if_pos h];simpa [h] using q
 .rw[if_neg h];simpa [h] using q
def akf (ws:AA):Prop:=ws.Pairwise (λa b=>decide (b<a)=false)
def XR (C:Addr):Sp:=λvs H Q _=>∃(p d:Addr) (ws:AA),vs=[.ref p]/\iC C H p d ws/\ws.length<64/\
 ∀(t:Addr) (us:AA) (H':Hp),aD H H'->H t=none->H' t=some (.tup (Ts us))->us.Perm ws->akf us->Q (.ref t) H'
def adv {f C:Addr}{fd:FuncData}(F:fu K "words" "Book.words" lG f fd)(T:uy K C)(D:mg "sorted"=none)(j:mg "tuple"=none):cB P w K mg base dH 1 f fd ["self"] (XR C):=by calc F.dM Qa (λbN A outer s H vs Q E J h=>?_);let⟨p,d,ws,rfl,B,G,q⟩:=h;obtain⟨⟨dx,hp⟩,hd,_,_⟩:=id B;calc(aM _ (aF (bD (gR iW ue j c_ (aj (aW (Rv rb) ue D gT (aj (cg aG rb) ao)) ao)))) ?_);calc(cL p C dx _ _ rb hp T.cl T.nh rb (d7 d _ ws rb hd (adt ws) G (λt us ht pm rs=>?_)));calc(eU t _ rb (.inl ⟨bI.of au,λv I=>?_⟩));let s1:aD H (upd H t (.lst (Ts us))):=aD.upd ht;show q v us _ (s1.dU (s1.free I)) (s1.free I) au pm rs
def fV (c:Nat):Nat:=if 65<=c/\c<=90 then 63 else c
def sgN (c:Nat):Prop:=isLet c\/(65<=c/\c<=90)
def sgN.lt {c:Nat}(h:sgN c):c<128:=by
 rcases h with h|h;.have:=h.2;lia
 .lia
noncomputable def Av (left:AA):List Nat->Sum Nat (List (List Nat))
 | []=>.inr left
 | c::cs=>if [fV c]∈left then Av (left.erase [fV c]) cs else .inl (fV c)
theorem XS:∀{us:AA},(∀l∈us,l.length=1)->us.flatten.length=us.length
 | [],_=>rfl
 | u::us,h=>by rw[ed,av,XS λl hl=>h l (bq _ hl),h u bX,dA];lia
def abC:Sp:=λvs H Q _=>∃c:Nat,vs=[.str (S [c])]/\c<128/\Q (.str (S [fV c])) H
def le1 (a b:Nat):(!decide ([b]<[a]))=decide (a<=b):=by
 by_cases h:a<=b;.rw[aw h,ah (by simp[km];lia)];rfl
 .rw[ah h,aw (by simp[km];lia)];rfl
def ZP (D:aO K mg "tile_of" yQ ["sign"]):cu P w K mg base "tile_of" 1 ["sign"] abC:=by
 calc D.dM Zq (λf bN A outer s H vs Q E F h=>?_);let⟨c,rfl,j,q⟩:=h;calc(aM _ (aF (bD (oh (Bp oN oN (bL [65] uj) aG (bL [90] uj)) (bL [63] uj) aG))) ?_);calc(aK [65] [c] rb rb ?_);rw[le1];unfold fV at q;by_cases h1:65<=c
 .rw[aw h1];calc(aK [c] [90] rb rb ?_);rw[le1];by_cases h2:c<=90
  .rw[if_pos ⟨h1,h2⟩]at q;rw[aw h2];show q
  .rw[if_neg λz=>h2 z.2]at q;rw[ah h2];show q
 .rw[if_neg λz=>h1 z.1]at q;rw[ah h1];show q
def abD (x:List Nat)(ws:AA):inV (.str (S x)) (Ts ws)=decide (x∈ws):=by
 unfold inV
 induction ws with
 | nil=>simp[Ts]
 | cons y ws ih=>
  let e:Hv (.str (S y)) (.str (S x))=decide (y=x):=by
   show decide (S y=S x)=_;by_cases h:y=x;.rw[h];simp
   .let h2:S y≠S x:=λe=>h (yJ e)
    simp[h,h2]
  show (Hv (.str (S y)) (.str (S x))||(Ts ws).any _)=_;rw[e,ih];by_cases h:y=x;.simp[h]
  .let h2:¬x=y:=λe=>h e.symm
   simp[h,h2]
def M7 (ws:AA):(Ts ws).all wG=true:=by rw[gt];intro x hx;let⟨l,_,rfl⟩:=bu.mp hx;rfl
def ZQ {f C R:Addr}{fd:FuncData}(F:fu K "__init__" "Lacking.__init__" jH f fd)(D:mg "RackError"=some (.ref R))(j:InitOf K R)(T:qG K mg "Lacking" C f ["tile"]):cB P w K mg base dH 1 f fd ["self","tile"] (J8 C "tile"):=by calc F.dM Kh (λbN A outer s H vs Q E G h=>?_);let⟨a,v,rfl,ha,q⟩:=h;calc(aM _ (aB (eE (wJ ue D j (aj aG (aj aZ ao)))) (aF (xu aG aZ rb))) ?_);calc(BP a C f none [v] rb ha T.M.ini (zsz 1) ?_);show(d7 a C none rb ha T.T (T.no _ t7) (.inl ⟨rb,λdx ne nd=>q dx ne nd⟩))
def KZ (C:Addr):Sp:=λvs H Q E=>∃(cA j:List Nat),vs=[.str (S cA),.str (S j)]/\cA.length<=63/\j.length<=63/\(∀c∈j,c<128)/\
 (∀t,Av (cA.map λc=>[c]) j=.inl t->∀(dx:Addr) (H':Hp),aD H H'->H' dx=some (.ext (XD dx [("tile",.str (S [t]))]))->E (.ref C) (some dx) H')/\
 (∀left,Av (cA.map λc=>[c]) j=.inr left->∀(ws:AA) (H':Hp),aD H H'->ws.Perm left->ws.Pairwise (λa b=>decide (b<a)=false)->Q (.str (S ws.flatten)) H')
def ZR {C f0:Addr}{eV:FuncData}(D:aO K mg "left_of" yR ["rack","signs"])(pO:mg "list"=none)(gk:mg "sorted"=none)(T:qG K mg "Lacking" C f0 ["tile"])(abE:cB P w K mg base dH 1 f0 eV ["self","tile"] (J8 C "tile"))(Fb:bT K eV ["self","tile"] [])(abF:cu P w K mg base "tile_of" 1 ["sign"] abC):DefX P w K mg base "left_of" 3 ["rack","signs"] (KZ C):=by
 refine D.Br wL (λvs H Q E h=>?_) (λf bN A outer s H vs Q E hr h=>?_)
 .let⟨cA,j,rfl,_⟩:=h;rfl
 .let⟨cA,j,rfl,akg,akK,hsg,qE,q⟩:=h;let abG:=T.M;let ZS:=T.wj;calc(aM _ (aB (aX (i:=2) wL.nd rb (Or.inl rb) (gR (Bq rb) ue pO oQ (aj aG ao))) (aB (fP lL rb (vH aZ) (cj (i:=3) wL.nd rb (Or.inl rb)) (aB (aX (i:=4) wL.nd rb (Or.inl rb) (bK abF hr.mono rb (aj bJ ao))) (aB (cJ (bU xO dI bG rb) (aF (vI rP rb abG abE hr.mono ue ZS Fb (aj dI ao))) bR) (aF (eE (gq dE PySem.F.slot_list_remove PySem.F.type_list_remove Oz bG (aj dI ao))))))) (aF (bD (gq bz di dq rJ (bL [] uj) (aj (aW RL ue gk gT (aj bG ao)) ao)))))) ?_);calc(bH cA rb t6 (λL hL=>?_));let s1:aD H (upd H L (.lst (Ts (cA.map λc=>[c])))):=aD.upd hL;calc(aM j rb ?_);refine LR (λi σ O=>∃(v3 v4:Option V) (us:AA),σ=[some (.str (S cA)),some (.str (S j)),some (.ref L),v3,v4]/\aD H O/\O L=some (.lst (Ts us))/\us.length<=63/\(∀l∈us,l.length=1)/\Av (cA.map λc=>[c]) j=Av us (j.drop i))
   (uO none none (cA.map λc=>[c]) rb s1 au (by rw[aa];show akg) (λl hl=>by let⟨c,_,rfl⟩:=bu.mp hl;rfl) (by rw[r0])) ?_ ?_
  .intro i c σ O Y z;let⟨v3,v4,us,rfl,sm,G,hul,I,F⟩:=z;let Z:=hsg c (b8 Y);let hi:i<j.length:=(al.mp Y).1;let J:j.drop i=c::j.drop (i+1):=by
    rw[kD hi];rw[ae hi]at Y;rw[bP Y]
   rw[J]at F;calc(bH c rb Z ?_);calc(dF L (Ts us) rb (.inl (bI.of G)) rb (M7 us) ?_);rw[abD];by_cases hm:[fV c]∈us
   .rw[aw hm];calc⟨.inl ⟨rb,_,bI.of G⟩,uO L us [fV c] rb rb G hm t6 ?_⟩;calc(uO _ _ (us.erase [fV c]) rb (sm.dU hL) au ?_ (λl hl=>I l (List.mem_of_mem_erase hl)) ?_);.have:=(List.erase_sublist (a:=[fV c]) (l:=us)).length_le;lia
    .rw[F];show (if _ then _ else _)=_;rw[if_pos hm]
   .rw[ah hm];let e:Av (cA.map λc=>[c]) j=.inl (fV c):=by rw[F];show (if _ then _ else _)=_;rw[if_neg hm]
    calc⟨zsz 1,λa na=>(aK a _ rb au (λdx ne nd=>⟨rb,aM (some dx) au ?_⟩))⟩;let⟨k1,k2⟩:=drop_new (q:=.ext (jw a (.ref C) (some dx))) (p:=.ext (XD dx [("tile",.str (S [fV c]))])) na ne nd;show qE _ e dx _ (sm.trans k1) k2
  .intro σ O z;let⟨v3,v4,us,rfl,sm,G,hul,I,F⟩:=z;rw[pS]at F;calc⟨rb,aQ L us rb (bI.of G) t6 (λp ws hp pm pw=>?_)⟩;calc(dF p ws rb rb (bI.of au) ?_ ?_);.rw[XS λl hl=>I l (pm.mem_iff.mp hl),pm.length_eq];lia
   .show q us F ws _ (sm.dU (sm.free hp)) pm pw
def abH {f C R:Addr}{fd:FuncData}(F:fu K "__init__" "NoWord.__init__" j7 f fd)(D:mg "RackError"=some (.ref R))(j:InitOf K R)(T:qG K mg "NoWord" C f ["word"]):cB P w K mg base dH 1 f fd ["self","word"] (J8 C "word"):=by calc F.dM Ml (λbN A outer s H vs Q E G h=>?_);let⟨a,v,rfl,ha,q⟩:=h;calc(aM _ (aB (eE (wJ ue D j (aj aG (aj aZ ao)))) (aF (xu aG aZ rb))) ?_);calc(BP a C f none [v] rb ha T.M.ini (zsz 1) ?_);show(d7 a C none rb ha T.T (T.no _ t7) (.inl ⟨rb,λdx ne nd=>q dx ne nd⟩))
theorem Fd {p:Nat->Bool}:∀{l:List Nat} {c:Nat},c∈l.takeWhile p->c∈l/\p c=true
 | [],c,h=>by simp at h
 | a::l,c,h=>by
  rw[List.takeWhile_cons]at h;by_cases z:p a=true
  .rw[if_pos z]at h;rcases b9.mp h with e|e;.rw[e];show⟨bX,z⟩
   .have:=Fd e;show⟨bq _ this.1,this.2⟩
  .rw[if_neg z]at h;simp at h
def adw {r w:Nat}{R:AA}(hb:Blk r w R)(hp:∀l∈R,∀c∈l,Ew c){i j wy:Nat}(hi:i<r)(F:j<w):∀c∈lineOf R i j (wy:Int),Ew c:=λc D=>by
 unfold lineOf at D;split at D
 .rw[ap,ae (by rw[hb.len];show hi)]at D;show hp _ (a9 _) c D
 .let⟨l,hl,e⟩:=bu.mp D;let hw:=hb.qC l hl;let e2:l.getD j 0=l[j]:=by rw[ap,ae (show j<l.length by lia)];rfl
  rw[<-e,e2];show hp l hl _ (a9 _)
def afL {r w:Nat}{R:AA}(hb:Blk r w R)(hp:∀l∈R,∀c∈l,Ew c){i j wy:Nat}(hi:i<r)(F:j<w):∀c∈(uq R i j wy).2.2.2,qz c:=λc G=>by
 let D:∀c,c∈lineOf R i j (wy:Int)->(c != 46)=true->qz c:=λc h1 h2=>by
  rcases adw hb hp hi F c h1 with z|z;.rw[z]at h2;cases h2
  .show z
 rcases be.mp (show c∈iZ _++jQ _ from G) with z|z
 .unfold iZ at z;have:=Fd (tz.mp z);show D c (de (tz.mp this.1)) this.2
 .have:=Fd z;show D c (eI this.1) this.2
def adx {r w:Nat}{aA:AA}{ts:List bQ}(hb:Blk r w (dR aA ts))(hp:∀l∈dR aA ts,∀c∈l,Ew c)(Z:∀t∈ts,inB r w t):∀q∈jF aA ts,∀c∈q.2.2.2,qz c:=λq D=>by
 let⟨a,ha,rfl⟩:=bu.mp (mM.mp D).1;let hi:a.1<r/\a.2.1<w:=by
  rcases be.mp ha with z|z
  .let⟨u,j,rfl⟩:=bu.mp z;have:=Z u (de j);show⟨this.1,this.2.1⟩
  .let⟨u,j,rfl⟩:=bu.mp z;have:=Z u j;show⟨this.1,this.2.1⟩
 show afL hb hp hi.1 hi.2
def Wg {r w:Nat}{aA:AA}{ts:List bQ}(hb:Blk r w (dR aA ts))(r9:r<=9)(w9:w<=9)(Z:∀t∈ts,inB r w t):∀q∈jF aA ts,q.2.2.2.length<=20:=λq D=>by
 let⟨a,ha,rfl⟩:=bu.mp (mM.mp D).1;let hi:a.1<r:=by
  rcases be.mp ha with z|z
  .let⟨u,j,rfl⟩:=bu.mp z;show(Z u (de j)).1
  .let⟨u,j,rfl⟩:=bu.mp z;show(Z u j).1
 show IW hb r9 w9 hi
def dQ (q:kI):Dt:=.tup [.int q.1,.int q.2.1,.int q.2.2.1,.str q.2.2.2]
theorem d_.ofQ {H:Hp}:∀{bs:List Addr} {j:List kI},QL H bs j->(∀q∈j,∀c∈q.2.2.2,c<128)->d_ K H 1 (j.map dQ) (bs.map V.ref)
 | [],[],_,_=>.nil
 | [],_::_,h,_=>by have:=h.len;simp at this
 | _::_,[],h,_=>by have:=h.len;simp at this
 | a::bs,q::j,h,k=>.cons (.tup (aU.of (h.at_ 0 a q rb rb)) (.cons (.int _) (.cons (.int _) (.cons (.int _) (.cons (.str _ (k q bX)) .nil))))) (d_.ofQ ⟨by have:=h.len;simpa using this,λi a x h1 h2=>h.at_ (i+1) a x h1 h2⟩ λF D=>k F (bq _ D))
def Tn (q:kI):List Nat:=q.2.2.2.map PyProof.Rows.lo1
def Jd (ws:AA)(q:kI):Bool:=!decide (Tn q∈ws)
noncomputable def HN (aA:AA)(ws:AA)(ts:List bQ):Option (List Nat):=if jF aA ts=[] then some ([(pW ts).2.2].map PyProof.Rows.lo1) else ((jF aA ts).find? (Jd ws)).map Tn
def O_ (C CB j:Addr):Sp:=λvs H Q E=>∃(b k d t:Addr) (ws:AA) (as:List Addr) (ts:List bQ) (r w:Nat) (aA aN:AA) (bi bj:Nat),vs=[.ref b,.ref k,.ref t]/\cX C H b r w aA aN bi bj/\iC CB H k d ws/\H t=some (.tup (as.map V.ref))/\fB H as ts/\(∀t∈ts,inB r w t)/\0<ts.length/\ts.length<=7/\G9 ts/\
 (∀l,HN aA ws ts=some l->∀(dx:Addr) (H':Hp),aD H H'->H' dx=some (.ext (XD dx [("word",.str (S l))]))->E (.ref j) (some dx) H')/\(HN aA ws ts=none->∀H',aD H H'->Q .non H')
def iC.mv {C:Addr}{H H':Hp}{p d:Addr}{ws:AA}(B:iC C H p d ws)(s:aD H H'):iC C H' p d ws:=⟨let ⟨dx,e⟩:=B.ob;⟨dx,s _ _ e⟩,s _ _ B.dc,B.nd,B.az⟩
def K1 {aA:AA}{ts:List bQ}(h:ts.length<=7):(jF aA ts).length<=100:=by calc bS (List.length_filter_le _ _) ?_;rw[aa];unfold B_;rw[av,aa,aa,ay];lia
open Classical in
def M8 {C CB CW f0 f1:Addr}{eV dY:FuncData}(D:aO K mg "check_words" rm ["board","book","laying"])(Fe:uy K CB)(ZV:Meth K CB "has" f1)(ZW:cB P w K mg base dH 1 f1 dY ["self","text"] (aeD CB))(ZX:bT K dY ["self","text"] [])(T:qG K mg "NoWord" CW f0 ["word"])(Tp:cB P w K mg base dH 1 f0 eV ["self","word"] (J8 CW "word"))(Ca:bT K eV ["self","word"] [])(Je:cu P w K mg base "formed" 10 ["board","laying"] (I_ C))(Wh:cu P w K mg base "letter_of" 1 ["sign"] KN):DefX P w K mg base "check_words" 12 ["board","book","laying"] (O_ C CB CW):=by
 refine D.Br jJ (λvs H Q E h=>?_) (λf bN A outer s H vs Q E hr h=>?_)
 .let⟨b,k,d,t,ws,as,ts,r,w,aA,aN,bi,bj,rfl,_⟩:=h;rfl
 .let⟨b,k,d,t,ws,as,ts,r,w,aA,aN,bi,bj,rfl,BA,BK,ht,hL,dZ,h0,h7,hl1,qE,q⟩:=h;let Tq:=T.M;let Pa:=T.wj;let hb':=rF BA.ok.br dZ;let hp':=Iz BA.ok.br dZ BA.ok.cr;let hsg:=adx hb' hp' dZ;let h20:=Wg hb' BA.ok.r9 BA.ok.w9 dZ;let hwl:=K1 (aA:=aA) h7;let hlt:∀q∈jF aA ts,∀c∈q.2.2.2,c<128:=λq hq c hc=>(hsg q hq c hc).lt;calc(aM _ (aB (aX (i:=3) jJ.nd rb (Or.inl rb) (bK Je hr.mono rb (aj aG (aj bG ao)))) (aB (cJ (bU (J0 hr.units) bJ (dJ ao) (bO _)) (aF (vI rP rb Tq Tp hr.mono ue Pa Ca (aj (bK Wh hr.mono rb (aj (bf bF (bf bF bG aq (λ_ _=>rfl)) aq (λ_ _=>rfl)) ao)) ao))) bR) (aF (fP lL rb (iB bJ) (vD rb (dz (cj (i:=4) jJ.nd rb (Or.inl rb)) (dz (cj (i:=5) jJ.nd rb (Or.inl rb)) (dz (cj (i:=6) jJ.nd rb (Or.inl rb)) (dz (cj (i:=7) jJ.nd rb (Or.inl rb)) rK))))) (aB (aX (i:=8) jJ.nd rb (Or.inl rb) (Ea bz oS o0 Rw jl)) (aF (cJ (fQ (eO (ql aZ Fe.cl ZV ZW hr.mono ZX .nil dO (aj mX ao)))) (aF (vI rP rb Tq Tp hr.mono ue Pa Ca (aj mX ao))) bR))))))) ?_);calc⟨b,t,as,ts,r,w,aA,aN,bi,bj,rb,BA,ht,hL,dZ,h0,h7,hl1,λT1 b1 H1 s1 hT1 hQ1=>?_⟩;generalize hW:jF aA ts=W at hsg h20 hwl hlt hQ1;calc⟨zsz 0,λZ hZ=>?_⟩;let sZ:aD H1 (upd H1 Z (HO.tup [])):=aD.upd hZ;let eZ:upd H1 Z (HO.tup []) Z=some (.tup []):=au;let Y:=sZ _ _ hT1;let J:=hQ1.mv sZ;let gO:=s1.trans sZ;generalize upd H1 Z (HO.tup [])=H2 at sZ eZ Y J gO ⊢;calc(cW 2 (.tup (W.map dQ)) (.tup []) t9 (.tup (aU.of Y) (d_.ofQ J hlt)) (.tup (aU.of eZ) .nil) (bh _ rb ?_));let SM:=J.len;cases O:W with
  | nil=>simp only[qA,decide_true];let⟨g0,e0⟩:=j9 (hL.mv gO) h0;let hh:pW ts=ts[0]:=yq h0;let hs0:=(dZ _ (a9 h0)).2.2;calc cR (bA t _ _ (.ref as[0]) rb rb (aU.of (gO _ _ ht)) (aV (j:=0) (by simp[g0])) (bA (as[0]) _ _ _ rb rb (aU.of e0) (aV (j:=2) rb) (iM (ts[0].2.2) rb hs0.lt (zsz 1) (λa na=>(aK a _ rb au (λdx ne nd=>⟨rb,aM (some dx) au ?_⟩))))));let⟨k1,k2⟩:=drop_new (q:=.ext (jw a (.ref CW) (some dx))) (p:=.ext (XD dx [("word",.str (S ([ts[0].2.2].map PyProof.Rows.lo1)))])) na ne nd;calc qE _ ?_ dx _ (gO.trans k1) k2;unfold HN;rw[if_pos (hW.trans O),hh]
  | cons q0 Wr=>
   let hne:¬(Dt.tup (W.map dQ)=Dt.tup []):=λz=>by rw[O]at z;injection z with z;cases z
   let hmw:HN aA ws ts=(W.find? (Jd ws)).map Tn:=by unfold HN;rw[if_neg (by rw[hW,O];simp),hW]
   rw[<-O];rw[ah hne];refine cM (bH T1 rb ⟨_,aU.of Y⟩ (Gz (K:=K) (a:=T1) (xs:=b1.map V.ref) (λn σ H'=>∃v4 v5 v6 v7 v8:Option V,σ=[some (.ref b),some (.ref k),some (.ref t),some (.ref T1),v4,v5,v6,v7,v8]/\aD H2 H'/\∀x∈W.take n,Jd ws x=false)
    ⟨none,none,none,none,none,rb,aD.refl _,λx hx=>by simp at hx⟩ (λn σ H' _ h=>by let⟨_,_,_,_,_,_,sm,_⟩:=h;show aU.of (sm _ _ Y)) ?_ ?_))
   .intro n x σ H' hx z;let⟨v4,v5,v6,v7,v8,rfl,sm,F⟩:=z;let⟨hn,hx⟩:=rfg hx;let G:n<W.length:=t6;subst hx;let en:=(J.mv sm).at_ n _ _ (ae hn) (ae G);let hm:=a9 G;let akL:=h20 _ hm;calc(aQ (b1[n]) _ rb (aU.of en) rb (eU _ _ rb (eU _ _ rb (eU _ _ rb (aK _ _ rb rb ?_)))));calc⟨rb,oY (W[n].2.2.2) rb rb t6 (hlt _ hm) ?_⟩;let BK':=BK.mv (gO.trans sm);let⟨dk,ek⟩:=BK'.ob;calc(cW k dk _ rb ek rb ⟨k,d,ws,_,rb,BK',bh _ rb ?_⟩);cases I:Jd ws W[n] with
    | true=>rw[show (!decide (W[n].2.2.2.map PyProof.Rows.lo1∈ws))=true from I];calc cR ⟨zsz 1,λa na=>(aK a _ rb au (λdx ne nd=>⟨rb,aM (some dx) au ?_⟩))⟩;let⟨k1,k2⟩:=drop_new (q:=.ext (jw a (.ref CW) (some dx))) (p:=.ext (XD dx [("word",.str (S (Tn W[n])))])) na ne nd;calc qE _ ?_ dx _ ((gO.trans sm).trans k1) k2;rw[hmw,XC G F I];rfl
    | false=>
     rw[show (!decide (W[n].2.2.2.map PyProof.Rows.lo1∈ws))=false from I];calc cM ⟨_,_,_,_,_,rb,sm,λx hx=>?_⟩;rw[du,ae G]at hx;rcases be.mp hx with z|z;.show F x z
     .rw[a_.mp z];show I
   .intro σ H' z;let⟨v4,v5,v6,v7,v8,rfl,sm,F⟩:=z;rw[aa,SM,cS]at F;show q (by rw[hmw,XF F];rfl) H' (gO.trans sm)
inductive Vd
 | ok|Dw (i j:Nat)|Dy|gap (i j:Nat)|Dz|DG (t:Nat)|nw (l:List Nat)
inductive tZ (aA:AA) (r w bi bj:Nat) (ws:AA) (cA:List Nat) (ts:List bQ):Vd->Prop
 | Dw {u:bQ} (h:zK aA ts=some u):tZ aA r w bi bj ws cA ts (.Dw u.1 u.2.1)
 | Dy (h1:zK aA ts=none) (h:(uw ts||ux ts)=false):tZ aA r w bi bj ws cA ts .Dy
 | gap {i j:Nat} (h1:zK aA ts=none) (h2:(uw ts||ux ts)=true) (h:aeC (dR aA ts) (pW ts).1 (mZ ts).1 (pW ts).2.1 (mZ ts).2.1 i j):tZ aA r w bi bj ws cA ts (.gap i j)
 | Dz (h1:zK aA ts=none) (h2:(uw ts||ux ts)=true) (h3:KQ (dR aA ts) (pW ts).1 (mZ ts).1 (pW ts).2.1 (mZ ts).2.1) (h:Dv aA r w bi bj ts=false):tZ aA r w bi bj ws cA ts .Dz
 | DG {t:Nat} (h1:zK aA ts=none) (h2:(uw ts||ux ts)=true) (h3:KQ (dR aA ts) (pW ts).1 (mZ ts).1 (pW ts).2.1 (mZ ts).2.1) (h4:Dv aA r w bi bj ts=true) (h:Av (cA.map λc=>[c]) (ts.map (·.2.2))=.inl t):tZ aA r w bi bj ws cA ts (.DG t)
 | nw {l:List Nat} (h1:zK aA ts=none) (h2:(uw ts||ux ts)=true) (h3:KQ (dR aA ts) (pW ts).1 (mZ ts).1 (pW ts).2.1 (mZ ts).2.1) (h4:Dv aA r w bi bj ts=true) (h5:∃left,Av (cA.map λc=>[c]) (ts.map (·.2.2))=.inr left) (h:HN aA ws ts=some l):tZ aA r w bi bj ws cA ts (.nw l)
 | ok (h1:zK aA ts=none) (h2:(uw ts||ux ts)=true) (h3:KQ (dR aA ts) (pW ts).1 (mZ ts).1 (pW ts).2.1 (mZ ts).2.1) (h4:Dv aA r w bi bj ts=true) (h5:∃left,Av (cA.map λc=>[c]) (ts.map (·.2.2))=.inr left) (h:HN aA ws ts=none):tZ aA r w bi bj ws cA ts .ok
structure Tr where
 lay:Addr
 Dw:Addr
 Dy:Addr
 gap:Addr
 Dz:Addr
 DG:Addr
 nw:Addr
def VdX (c:Tr)(H:Hp)(cls:Value)(dd:Option Addr):Vd->Prop
 | .ok=>False
 | .Dw i j=>cls=.ref c.Dw/\∃dx,dd=some dx/\H dx=some (.ext (XD dx (Xz i j)))
 | .Dy=>cls=.ref c.Dy/\dd=none
 | .gap i j=>cls=.ref c.gap/\∃dx,dd=some dx/\H dx=some (.ext (XD dx (Xz i j)))
 | .Dz=>cls=.ref c.Dz/\dd=none
 | .DG t=>cls=.ref c.DG/\∃dx,dd=some dx/\H dx=some (.ext (XD dx [("tile",.str (S [t]))]))
 | .nw l=>cls=.ref c.nw/\∃dx,dd=some dx/\H dx=some (.ext (XD dx [("word",.str (S l))]))
def X3 {cs:List (Nat×Nat)}(h:jm cs=true):∀n,(hn:n+1<cs.length)->cs[n].1*1000+cs[n].2<cs[n+1].1*1000+cs[n+1].2:=λn hn=>by
 unfold jm at h;rw[gt]at h;have:=h (cs[n],cs[n+1]) (by
  calc b8 (i:=n) ?_;rw[tj];show⟨ae t6,by rw[nK,Nat.add_comm 1 n];show ae hn⟩)
 show fh this
theorem Tt {cs:List (Nat×Nat)}(h:jm cs=true):∀k n,(hn:n+k+1<cs.length)->cs[n].1*1000+cs[n].2<cs[n+k+1].1*1000+cs[n+k+1].2
 | 0,n,hn=>X3 h n hn
 | k+1,n,hn=>tq (Tt h k n t6) (X3 h (n+k+1) hn)
def X4 {ts:List bQ}{r w:Nat}(w9:w<=9)(Z:∀t∈ts,inB r w t)(h0:0<ts.length)(G:jm (ts.map kO)=true)(hs:(uw ts||ux ts)=true):G9 ts:=by
 let I:=yq h0;rw[tI]at hs;rcases hs with hs|hs
 .calc .inl ?_;unfold uw at hs;rw[gt]at hs;rw[fN];intro i j hi D _;rw[fh (hs _ (a9 hi)),fh (hs _ (a9 D))]
 .calc .inr ?_;unfold ux at hs;rw[gt]at hs;rw[fN];intro i j hi D F;let e1:=fh (hs _ (a9 hi));let e2:=fh (hs _ (a9 D));have:=Tt G (j-i-1) i (by rw[aa];lia);simp only[show i+(j-i-1)+1=j by lia,List.getElem_map]at this;let this:ts[i].1*1000+ts[i].2.1<ts[j].1*1000+ts[j].2.1:=this;lia
def abI {c:Nat}(h:qz c):sgN c:=by unfold qz Ds Dr Eu at h;simp at h;show h
def M9 (K : W.Frag)(C CB : Addr)(c : Tr) : Sp := λvs H Q E => ∃(b k d : Addr) (ws : List (List Nat)) (cA : List Nat) (x : V) (r w : Nat) (aA aN : List (List Nat)) (bi bj : Nat), vs = [.ref b, .ref k, .str (S cA), x] /\ cX C H b r w aA aN bi bj /\ iC CB H k d ws /\ cA.length <= 63 /\
  ((∃o, LyD K H x o /\ layB r w o = false /\ ∀H', aD H H' -> E (.ref c.lay) none H') \/
   (∃(t : Addr) (as : List Addr) (ts : List bQ), x = .ref t /\ H t = some (.tup (as.map V.ref)) /\ fB H as ts /\ (∀t ∈ ts, inB r w t) /\ 0<ts.length /\ ts.length <= 7 /\ jm (ts.map kO) = true /\
     (∀v cls dd H', tZ aA r w bi bj ws cA ts v -> VdX c H' cls dd v -> aD H H' -> E cls dd H') /\ (tZ aA r w bi bj ws cA ts .ok -> ∀H', aD H H' -> Q .non H')))
def K4 {C CB:Addr}{c:Tr}(D:aO K mg "check_laying" qw ["board","book","rack","laying"])(Wi:mg "NoLaying"=some (.ref c.lay))(Z1:W.excIn K c.lay kE "ValueError.__new__"=true)(Wj:cu P w K mg base "is_laying" 4 ["board","thing"] (aby K C))(Tv:DefX P w K mg base "check_free" 5 ["board","laying"] (S9 C c.Dw))(Jf:DefX P w K mg base "check_straight" 3 ["laying"] (XJ c.Dy))(Tw:DefX P w K mg base "check_gaps" 10 ["board","laying"] (S_ C c.gap))(M_:DefX P w K mg base "check_joined" 7 ["board","laying"] (Tc C c.Dz))(vL:DefX P w K mg base "left_of" 3 ["rack","signs"] (KZ c.DG))(Ql:DefX P w K mg base "check_words" 12 ["board","book","laying"] (O_ C CB c.nw)):DefX P w K mg base "check_laying" 14 ["board","book","rack","laying"] (M9 K C CB c):=by
 refine D.Br Km (λvs H Q E h=>?_) (λf bN A outer s H vs Q E J h=>?_)
 .let⟨b,k,d,ws,cA,x,r,w,aA,aN,bi,bj,rfl,_⟩:=h;rfl
 .let⟨b,k,d,ws,cA,x,r,w,aA,aN,bi,bj,rfl,I,BK,h63,h⟩:=h;calc(aM _ (aB (cJ (fQ (eO (bK Wj J.mono rb (aj aG (aj bJ ao))))) (aF (Ir rP rb rb ue Wi Z1 (aj (bL [110,111,32,108,97,121,105,110,103,32,102,111,114,32,116,104,105,115,32,98,111,97,114,100] uj) ao))) bR) (aB (eE (oO Tv J.mono rb xr.all (aj aG (aj bJ ao)))) (aB (eE (oO Jf J.mono rb xr.all (aj bJ ao))) (aB (eE (oO Tw J.mono rb xr.all (aj aG (aj bJ ao)))) (aB (eE (oO M_ J.mono rb xr.all (aj aG (aj bJ ao)))) (aB (eE (oO vL J.mono rb xr.all (aj bG (aj (gq bz di dq rJ (bL [] uj) (aj (ou (ns:=["row","column","sign"]) rb (kh.of ["board","book","rack","laying"] [] ui) (iB bJ) (λ_ _ _ _ _=>(rO K rb (show (["row","column","sign","board","book","rack","laying"]:List Str).Nodup by decide +kernel) rb rb rb ue ue ue)) (λ_ _ _ _ _=>eG) (λ_ _ _ _ _=>bG)) ao)) ao)))) (aF (eE (oO Ql J.mono rb xr.all (aj aG (aj aZ (aj bJ ao)))))))))))) ?_);rcases h with⟨o,hD,hB,F⟩|⟨t,as,ts,rfl,ht,G,Z,h0,h7,zc,F,q⟩
  .calc⟨b,x,o,r,w,aA,aN,bi,bj,rb,I,hD,λH1 s1=>(bh _ rb ?_)⟩;rw[hB];show cR ⟨zsz 1,F H1 s1⟩
  .let hal:=G.len;let hB:layB r w (some (ts.map mkT))=true:=by
    unfold layB;simp only;rw[SX,aa,aw (show 1<=ts.length/\ts.length<=7 by lia),show jm (ts.map λt=>(t.1,t.2.1))=true from zc,List.all_map];have:ts.all (vg r w ∘ mkT)=true:=gt.mpr λt ht=>adl (Z t ht);rw[this];rfl
   calc⟨b,.ref t,some (ts.map mkT),r,w,aA,aN,bi,bj,rb,I,.tup ht (Jc.of_lay G) (by rw[aa];lia),λH1 s1=>(bh _ rb ?_)⟩;rw[hB];calc cM ⟨True.intro,b,t,as,ts,r,w,aA,aN,bi,bj,rb,I.mv s1,s1 _ _ ht,G.mv s1,Z,λu hu dx H' s' hd=>F _ _ _ H' (.Dw hu) ⟨rb,aM dx rb hd⟩ (s1.trans s'),λv1 H2 s2=>?_⟩;let gO:=s1.trans s2;calc⟨True.intro,G4 t as ts rb (gO _ _ ht) (G.mv gO) h0 h7 (λe H' s'=>F _ _ _ H' (.Dy v1 e) ⟨rb,rb⟩ (gO.trans s')) (λY H3 s3=>?_)⟩;let gM:=gO.trans s3;calc⟨True.intro,b,t,as,ts,r,w,aA,aN,bi,bj,rb,I.mv gM,gM _ _ ht,G.mv gM,Z,h0,λi j e dx H' s' hd=>F _ _ _ H' (.gap v1 Y e) ⟨rb,aM dx rb hd⟩ (gM.trans s'),λv3 H4 s4=>?_⟩;let jc:=gM.trans s4;calc⟨True.intro,b,t,as,ts,r,w,aA,aN,bi,bj,rb,I.mv jc,jc _ _ ht,G.mv jc,h7,λe H' s'=>F _ _ _ H' (.Dz v1 Y v3 e) ⟨rb,rb⟩ (jc.trans s'),λv4 H5 s5=>?_⟩;let Aw:=jc.trans s5;let ht5:=Aw _ _ ht;refine(bY True.intro rb (bH t rb ⟨_,aU.of ht5⟩ (λN hN=>mj (K:=K) (KT:=K) (a:=t) (f:=kj [] 0) (tt:=nu) (xs:=as.map V.ref) (λn ys H6=>ys=Ts (ones ((ts.take n).map (·.2.2)))/\H6 N=some (.lst ys)/\aD H5 H6)
    (bY rb au (aD.upd hN)) (λn ys H6 _ h=>aU.of (h.2.2 _ _ ht5)) ?_ ?_)))
   .intro n x ys H6 hx z;let⟨rfl,Aq,yr⟩:=z;let⟨hn,hx⟩:=rfg hx;let hnt:n<ts.length:=t6;let⟨_,en⟩:=j9 (G.mv (Aw.trans yr)) hnt;calc yM hx.symm (aU.of en) ?_;calc(bY Aq ?_ (iK.mk (by rw[aa];show hn) (bY ?_ au (yr.dU hN))));.rw[aa,aa,aa,ay];show aJ t6
    .rw[take_snoc (ae hnt)];simp[Ts,ones]
   .intro ys H6 z;let⟨rfl,Aq,yr⟩:=z;rw[aa,hal,cS]at Aq;let HS:=Aw.trans yr;calc(dF N (ones (ts.map (·.2.2))) rb rb (bI.of Aq) (by rw[mD,aa];lia) ?_);rw[mD];refine(BJ cA (ts.map (·.2.2)) rb h63 (by rw[aa];lia) (λc hc=>?_) (λtl e dx H' s' hd=>F _ _ _ H' (.DG v1 Y v3 v4 e) ⟨rb,aM dx rb hd⟩ (HS.trans s')) (λleft v5 ws' H7 s7 _ _=>?_))
    .let⟨u,hu,rfl⟩:=bu.mp hc;show(abI (Z u hu).2.2).lt
    let O:=HS.trans s7;calc⟨True.intro,b,k,d,t,ws,as,ts,r,w,aA,aN,bi,bj,rb,I.mv O,BK.mv O,O _ _ ht,G.mv O,Z,h0,h7,X4 I.ok.w9 Z h0 zc Y,λl e dx H' s' hd=>F _ _ _ H' (.nw v1 Y v3 v4 ⟨left,v5⟩ e) ⟨rb,aM dx rb hd⟩ (O.trans s'),λv6 H8 s8=>?_⟩;show q (.ok v1 Y v3 v4 ⟨left,v5⟩ v6) H8 (O.trans s8)
def WD (kvs:List (Key×V)):Prop:=∀j∈kvs,∃(c:Nat) (i:Int),j=(cZ [c],V.int i)/\97<=c/\c<=122
def wf (kvs:List (Key×V))(c:Nat):Int:=match fY kvs (cZ [c]) with| some (.int i)=>i| _=>0
def abJ {kvs:List (Key×V)}{k:Key}{v:V}(h:fY kvs k=some v):(k,v)∈kvs:=by
 unfold fY at h;cases e:kvs.find? (λj=>decide (j.1=k)) with
 | none=>rw[e]at h;cases h
 | some p=>
  rw[e]at h;let h:p.2=v:=bP h;let m:=List.mem_of_find?_eq_some e;let q:=List.find?_some e;let q:p.1=k:=by simpa using q
  rw[<-h,<-q];show m
def ah9 {kvs:List (Key×V)}(h:WD kvs)(c:Nat):(fY kvs (cZ [c])).getD (.int 0)=.int (wf kvs c):=by
 unfold wf;cases e:fY kvs (cZ [c]) with| none=>rfl| some v=>let⟨d,i,q,_⟩:=h _ (abJ e);have:v=V.int i:=congrArg Prod.snd q;subst this;rfl
def aeE {kvs:List (Key×V)}(h:WD kvs){c:Nat}(j:¬(97<=c/\c<=122)):wf kvs c=0:=by
 unfold wf;cases e:fY kvs (cZ [c]) with
 | none=>rfl
 | some v=>
  let⟨d,i,q,h1,h2⟩:=h _ (abJ e);have:cZ [c]=cZ [d]:=congrArg Prod.fst q;have:S [c]=S [d]:=oy this;have:[c]=[d]:=yJ this;have:c=d:=by simpa using this
  lia
def X6:Sp:=λvs H Q _=>∃(d:Addr) (kvs:List (Key×V)) (c:Nat),vs=[.ref d,.str (S [c])]/\Rd H d (.dK kvs)/\WD kvs/\Q (.int (wf kvs c)) H
def Wk (D:aO K mg "worth_of" wR ["worths","sign"]):cu P w K mg base "worth_of" 1 ["worths","sign"] X6:=by
 calc D.dM V2 (λf bN A outer s H vs Q E G h=>?_);let⟨d,kvs,c,rfl,hd,j,q⟩:=h;let F:=Qw G;calc(aM _ (aF (bD (oh (Bp oN oN (bL [97] uj) aZ (bL [122] uj)) (ac8 F aG aZ aq ⟨rb,rb,rb,rb⟩) aq))) ?_);calc(aK [97] [c] rb rb (bh (decide (97<=c)) (by rw[Ms]) ?_));by_cases c1:97<=c
 .rw[aw c1];calc cR (aK [c] [122] rb rb (bh _ rb ?_));rw[Ms];by_cases c2:c<=122
  .rw[aw c2];calc cR (bH d rb (.inl ⟨_,hd⟩) (aM _ (zG.rd (k:=cZ [c]) hd) ?_));rw[ah9 j];show q
  .rw[ah c2];calc cM ?_;let e:=aeE j (c:=c) t6;rw[e]at q;show q
 .rw[ah c1];calc cM ?_;let e:=aeE j (c:=c) t6;rw[e]at q;show q
def Tz:Sp:=λvs H Q _=>∃(a:Addr) (q:kI) (n:Nat),vs=[.ref a,.int n]/\abr H a q/\q.2.2.1<=1/\
 ∀(t:Addr) (H':Hp),aD H H'->H' t=some (.tup [.int ((q.1+n*q.2.2.1:Nat):Int),.int ((q.2.1+n*(1-q.2.2.1):Nat):Int)])->Q (.ref t) H'
def Z2 (D:aO K mg "cell_in" yU ["word","place"]):cu P w K mg base "cell_in" 1 ["word","place"] Tz:=by
 calc D.dM Zt (λf bN A outer s H vs Q E I h=>?_);obtain⟨a,⟨i,j,wy,l⟩,n,rfl,ha,J,q⟩:=h;let F:=aU.of (K:=K) ha;calc(aM _ (aF (bD (oh (bU jD (bf bF aG aq (λ_ _=>rfl)) aq (bO _)) (dJ (aj (bf bF aG aq (λ_ _=>rfl)) (aj (aL cY (bf bF aG aq (λ_ _=>rfl)) aZ) ao))) (dJ (aj (aL cY (bf bF aG aq (λ_ _=>rfl)) aZ) (aj (bf bF aG aq (λ_ _=>rfl)) ao)))))) ?_);calc(bA a _ _ _ rb rb F (aV (j:=2) rb) ?_);by_cases z:wy=0
 .subst z;calc⟨rb,cR (bA a _ _ _ rb rb F (aV (j:=0) rb) (bA a _ _ _ rb rb F (aV (j:=1) rb) (aQ _ _ rb rb (zsz 2) (λt ht=>?_))))⟩;calc q t _ (aD.upd ht) ?_;rw[au];simp
 .let G:wy=1:=by simp only at J;lia
  subst G;calc⟨rb,cM (bA a _ _ _ rb rb F (aV (j:=0) rb) (aK _ _ rb rb (iy a _ _ _ rb rb F (aV (j:=1) rb) (zsz 2) (λt ht=>?_))))⟩;calc q t _ (aD.upd ht) ?_;rw[au];simp
def HW (c:Nat):Int:=if c=50 then 2 else if c=51 then 3 else if c=52 then 4 else 1
def Pb (c:Nat):Int:=if c=98 then 2 else if c=99 then 3 else if c=100 then 4 else 1
def X7:List (Key×V):=[(cZ [50],.int 2),(cZ [51],.int 3),(cZ [52],.int 4)]
def X8:List (Key×V):=[(cZ [98],.int 2),(cZ [99],.int 3),(cZ [100],.int 4)]
def X_ (a b:Nat):decide (cZ [a]=cZ [b])=decide (a=b):=by
 by_cases h:a=b;.subst h;simp
 .have:¬cZ [a]=cZ [b]:=λz=>h (by have:=yJ (oy z);simpa using this)
  rw[ah h,ah this]
def ah_ (c:Nat):(fY X7 (cZ [c])).getD (.int 1)=.int (HW c):=by
 unfold fY X7 HW;simp only[ir,X_];by_cases h1:c=50;.subst h1;rfl
 by_cases h2:c=51;.subst h2;rfl
 by_cases h3:c=52;.subst h3;rfl
 rw[ah (λz=>h1 z.symm),ah (λz=>h2 z.symm),ah (λz=>h3 z.symm),if_neg h1,if_neg h2,if_neg h3];rfl
def aia (c:Nat):(fY X8 (cZ [c])).getD (.int 1)=.int (Pb c):=by
 unfold fY X8 Pb;simp only[ir,X_];by_cases h1:c=98;.subst h1;rfl
 by_cases h2:c=99;.subst h2;rfl
 by_cases h3:c=100;.subst h3;rfl
 rw[ah (λz=>h1 z.symm),ah (λz=>h2 z.symm),ah (λz=>h3 z.symm),if_neg h1,if_neg h2,if_neg h3];rfl
def sx (q:kI)(k:Nat):Nat:=q.1+k*q.2.2.1
def sy (q:kI)(k:Nat):Nat:=q.2.1+k*(1-q.2.2.1)
noncomputable def HY (M:AA)(kvs:List (Key×V))(ts:List bQ)(q:kI)(k c:Nat)(p:Int×Int):Int×Int:=if (sx q k,sy q k)∈ts.map kO then (p.1+wf kvs c*HW (cell M (sx q k) (sy q k)),p.2*Pb (cell M (sx q k) (sy q k))) else (p.1+wf kvs c,p.2)
noncomputable def nZ (M:AA)(kvs:List (Key×V))(ts:List bQ)(q:kI):Nat->Int×Int
 | 0=>(0,1)
 | n+1=>HY M kvs ts q n (q.2.2.2.getD n 0) (nZ M kvs ts q n)
noncomputable def Fg (M:AA)(kvs:List (Key×V))(ts:List bQ)(q:kI):Int:=(nZ M kvs ts q q.2.2.2.length).1*(nZ M kvs ts q q.2.2.2.length).2
def aib (c:Nat):1<=HW c/\HW c<=4:=by
 unfold HW;split;.lia
 split;.lia
 split <;> lia
def aic (c:Nat):1<=Pb c/\Pb c<=4:=by
 unfold Pb;split;.lia
 split;.lia
 split <;> lia
theorem Z4 (M:AA)(kvs:List (Key×V))(ts:List bQ)(q:kI):∀n,1<=(nZ M kvs ts q n).2/\(nZ M kvs ts q n).2<=4^n
 | 0=>⟨mE _,mE _⟩
 | n+1=>by
  let⟨h1,h2⟩:=Z4 M kvs ts q n;show 1<=(HY _ _ _ _ _ _ _).2/\(HY _ _ _ _ _ _ _).2<=4^(n+1);unfold HY;rw[Int.pow_succ];split
  .let⟨w1,w2⟩:=aic (cell M (sx q n) (sy q n));calc⟨?_,nV h2 w2 t6 t6⟩;have:=nV h1 w1 t6 t6;simpa using this
  .calc⟨h1,?_⟩;simp only;lia
def akh (M:AA)(kvs:List (Key×V))(ts:List bQ)(q:kI){n:Nat}(hn:n<=20):-(2^64)<(nZ M kvs ts q n).2/\(nZ M kvs ts q n).2<2^64:=by
 let⟨h1,h2⟩:=Z4 M kvs ts q n;let h3:(4:Int)^n<=4^20:=by
  have:=Nat.pow_le_pow_right (show 0<4 by decide) hn
  exact_mod_cast this
 let h4:(4:Int)^20=1099511627776:=by decide
 let h5:(2:Int)^64=18446744073709551616:=by decide
 lia
structure QIn (r w:Nat)(q:kI):Prop where
 way:q.2.2.1<=1
 len:q.2.2.2.length<=20
 inn:∀k,k<q.2.2.2.length->sx q k<r/\sy q k<w
def TF (C:Addr):Sp:=λvs H Q _=>∃(b d t a:Addr) (kvs:List (Key×V)) (as:List Addr) (ts:List bQ) (q:kI) (r w:Nat) (aA aN:AA) (bi bj:Nat),vs=[.ref b,.ref d,.ref t,.ref a]/\cX C H b r w aA aN bi bj/\Rd H d (.dK kvs)/\WD kvs/\H t=some (.tup (as.map V.ref))/\fB H as ts/\ts.length<=7/\abr H a q/\QIn r w q/\
 ∀H',aD H H'->Q (.int (Fg aN kvs ts q)) H'
open Classical in
def abK {C gl gw:Addr}(D:aO K mg "word_points" rB ["board","worths","laying","word"])(qO:mg "enumerate"=none)(cQ:gW K C)(Nb:mg "LETTER_MARKS"=some (.ref gl))(TJ:mg "WORD_MARKS"=some (.ref gw))(kl:KDict P w K gl X7)(kw:KDict P w K gw X8)(tE:cu P w K mg base "cells_of" 1 ["laying"] zj)(abL:cu P w K mg base "cell_in" 1 ["word","place"] Tz)(Z5:cu P w K mg base "worth_of" 1 ["worths","sign"] X6):cu P w K mg base "word_points" 2 ["board","worths","laying","word"] (TF C):=by
 calc D.dM eY (λf bN A outer s H vs Q E hr h=>?_);let⟨b,d,t,a,kvs,as,ts,F,r,w',aA,aN,bi,bj,rfl,BA,hd,hW,ht,hL,h7,ha,hq,q⟩:=h;obtain⟨⟨dx,pr,pm,pb,hb,hpr,hpm,hpb⟩,B⟩:=BA;calc(aM _ (aB (aX (i:=4) eY.nd rb (Or.inl rb) (bK tE hr.mono rb (aj bG ao))) (aB (aX (i:=5) eY.nd rb (Or.inl rb) aq) (aB (aX (i:=6) eY.nd rb (Or.inl rb) aq) (aB (fP dr rb (acZ ue qO (aj (bf bF bJ aq (λ_ _=>rfl)) ao)) (vD rb (dz (cj (i:=7) eY.nd rb (Or.inl rb)) (dz (cj (i:=8) eY.nd rb (Or.inl rb)) rK))) (aB (aX (i:=9) eY.nd rb (Or.inl rb) (bK abL hr.mono rb (aj bJ (aj jl ao)))) (aB (aX (i:=10) eY.nd rb (Or.inl rb) (bK Z5 hr.mono rb (aj aZ (aj mX ao)))) (aB (jj (cJ (bU (Xf hr.units) mY dI rb) (aB (aX (i:=11) eY.nd rb (Or.inl rb) (bf sO (bf bF (cg aG rb) (bf bF mY aq (λ_ _=>rfl)) (λ_ _=>rfl)) (bf bF mY aq (λ_ _=>rfl)) (λ_ _=>rfl))) (aB (aX (i:=10) eY.nd rb (Or.inl rb) (aL jE nD (RT (GP (v:=.ref _) ue Nb rb) pC aq ⟨rb,rb,rb,rb⟩))) (aF (aX (i:=6) eY.nd rb (Or.inl rb) (aL jE fU (RT (GP (v:=.ref _) ue TJ rb) pC aq ⟨rb,rb,rb,rb⟩)))))) bR)) (aF (aX (i:=5) eY.nd rb (Or.inl rb) (aL cY fj nD))))))) (aF (bD (aL jE fj fU))))))) ?_);calc(d7 t as ts rb ht hL t6 (λLc cs H1 s1 hLc hcs=>?_));refine(bA a _ _ _ rb rb (aU.of (s1 _ _ ha)) (aV (j:=3) rb) (aM _ rb (abd (l:=F.2.2.2) (λn σ Z=>∃v7 v8 v9 O I:Option V,σ=[some (.ref b),some (.ref d),some (.ref t),some (.ref a),some (.ref Lc),some (.int (nZ aN kvs ts F n).1),some (.int (nZ aN kvs ts F n).2),v7,v8,v9,O,I]/\aD H1 Z)
  ⟨none,none,none,none,none,rb,aD.refl _⟩ ?_ ?_)))
 .intro n c σ Z T hc z hT;let⟨v7,v8,v9,O,I,rfl,s2⟩:=z;let hn:n<F.2.2.2.length:=(al.mp hc).1;let⟨hx,hy⟩:=hq.inn n hn;let kT:aD Z (upd Z T (HO.tup [.int n,.str (S [c])])):=aD.upd hT;calc(aQ T _ rb (aU.of au) rb (eU _ _ rb (aK _ _ rb rb ?_)));let s3:=(s1.trans s2).trans kT;let K5:=s2.trans kT;generalize upd Z T (HO.tup [.int n,.str (S [c])])=H3 at kT s3 K5 ⊢;calc(cW a F n rb (s3 _ _ ha) hq.way (λg H4 s4 hg=>?_));let Y:=s3.trans s4;calc(cW d kvs c rb (hd.mv Y) hW ?_);let gi:sx F n<aN.length:=by rw[B.bm.len];show hx
  let hwi:aN[sx F n].length=w':=B.bm.qC _ (a9 _);let gj:sy F n<aN[sx F n].length:=by rw[hwi];show hy
  let J:aN.getD (sx F n) []=aN[sx F n]:=by rw[ap,ae gi];rfl
  let w9:=B.w9;let hgd:F.2.2.2.getD n 0=c:=by rw[ap,hc];rfl
  let G:nZ aN kvs ts F (n+1)=HY aN kvs ts F n c (nZ aN kvs ts F n):=by rw[<-hgd];rfl
  let hg:H4 g=some (.tup [.int (sx F n:Nat),.int (sy F n:Nat)]):=hg;refine⟨λσ H'=>∃(wv:Int) (u11:Option V),σ=[some (.ref b),some (.ref d),some (.ref t),some (.ref a),some (.ref Lc),some (.int (nZ aN kvs ts F n).1),some (.int (nZ aN kvs ts F (n+1)).2),some (.int n),some (.str (S [c])),some (.ref g),some (.int wv),u11]/\aD H1 H'/\(nZ aN kvs ts F n).1+wv=(nZ aN kvs ts F (n+1)).1,?_,?_⟩
  .let M4:=hcs.mv (K5.trans s4);calc(cW 2 (.tup [.int (sx F n:Nat),.int (sy F n:Nat)]) ((ts.map kO).map λc=>Dt.tup [.int c.1,.int c.2]) t9 (.tup (aU.of hg) (.cons (.int _) (.cons (.int _) .nil))) (.lst (bI.of ((K5.trans s4) _ _ hLc)) (d_.ofP M4)) ?_);simp only[gr,if_false];by_cases hm:(sx F n,sy F n)∈ts.map kO
   .rw[aw (KR (c:=(sx F n,sy F n)).mpr hm)];calc(cL b C dx _ _ rb (Y _ _ hb) cQ.cl cQ.nm rb (bA g _ _ _ rb rb (aU.of hg) (aV (j:=0) rb) (bA pm _ _ (.str (S (aN.getD (sx F n) []))) rb rb (aU.of (Y _ _ hpm)) (aV ?_) (bA g _ _ _ rb rb (aU.of hg) (aV (j:=1) rb) ?_))));.rw[J];show oK (ae gi)
    generalize hmm:cell aN (sx F n) (sy F n)=m;calc(d7 _ _ m rb rb (am (aJ (by rw[J,hwi];lia))) (aV (by rw[<-hmm,J,cell_eq gi gj];show ae gj)) ?_);let⟨l1,l2⟩:=aib m;let⟨w1,w2⟩:=aic m;let e:nZ aN kvs ts F (n+1)=((nZ aN kvs ts F n).1+wf kvs c*HW m,(nZ aN kvs ts F n).2*Pb m):=by rw[G];unfold HY;rw[if_pos hm,hmm]
    calc(aK gl X7 rb kl (aM (cZ [m]) rb (aQ _ (HW m) rb (ah_ m) (.inr ⟨t6,t6⟩) ?_)));calc(aK gw X8 rb kw (aM (cZ [m]) rb (aQ _ (Pb m) rb (aia m) (.inr ⟨t6,t6⟩) ?_)));calc(aK (wf kvs c*HW m) (some (.str (S [m]))) ?_ (K5.trans s4) ?_);.rw[e];rfl
    .rw[e]
   .rw[ah (λz=>hm (KR (c:=(sx F n,sy F n)).mp z))];let e:nZ aN kvs ts F (n+1)=((nZ aN kvs ts F n).1+wf kvs c,(nZ aN kvs ts F n).2):=by rw[G];unfold HY;rw[if_neg hm]
    calc(aK (wf kvs c) I ?_ (K5.trans s4) ?_);.rw[e];rfl
    .rw[e]
  .intro σ H' z;let⟨wv,u11,rfl,s5,ew⟩:=z;calc(aK _ _ rb rb ?_);show⟨_,_,_,_,_,by rw[<-ew];rfl,s5⟩
 .intro σ Z z;let⟨v7,v8,v9,O,I,rfl,s2⟩:=z;calc(aK _ _ rb rb ?_);show⟨.inr (akh _ _ _ _ hq.len),q _ (s1.trans s2)⟩
def Yb {r w:Nat}{R:AA}(hb:Blk r w R)(r9:r<=9)(w9:w<=9){i j wy:Nat}(hi:i<r)(I:j<w)(J:wy<=1):QIn r w (uq R i j wy):=by
 calc⟨J,IW hb r9 w9 hi,λk F=>?_⟩;let D:=wX hb hi (j:=j) (way:=(wy:Int));let F:k<(iZ ((lineOf R i j (wy:Int)).take (placeOf i j (wy:Int)))++jQ ((lineOf R i j (wy:Int)).drop (placeOf i j (wy:Int)))).length:=F;rw[av]at F;let a1:=rR ((lineOf R i j (wy:Int)).take (placeOf i j (wy:Int)));let a2:=za ((lineOf R i j (wy:Int)).drop (placeOf i j (wy:Int)));rw[ay]at a1;rw[bv]at a2;unfold sx sy;by_cases z:wy=0
 .subst z;let ep:placeOf i j ((0:Nat):Int)=j:=if_pos rfl;rw[ep]at F a1 a2;let D:(lineOf R i j ((0:Nat):Int)).length=w:=by rw[D];show if_pos rfl
  rw[D]at a1 a2;show i+k*0<r/\(j-(iZ ((lineOf R i j ((0:Nat):Int)).take j)).length)+k*(1-0)<w;lia
 .let G:wy=1:=t6;subst G;let ep:placeOf i j ((1:Nat):Int)=i:=if_neg t9;rw[ep]at F a1 a2;let D:(lineOf R i j ((1:Nat):Int)).length=r:=by rw[D];show if_neg t9
  rw[D]at a1 a2;show (i-(iZ ((lineOf R i j ((1:Nat):Int)).take i)).length)+k*1<r/\j+k*(1-1)<w;lia
def TQ {r w:Nat}{aA:AA}(hb:Blk r w aA)(r9:r<=9)(w9:w<=9){ts:List bQ}(Z:∀t∈ts,inB r w t){q:kI}(h:q∈jF aA ts):QIn r w q:=by
 unfold jF at h;let⟨a,ha,rfl⟩:=bu.mp (mM.mp h).1;let j:=rF hb Z;let F:=abt ts;rcases be.mp ha with z|z
 .let⟨u,D,rfl⟩:=bu.mp z;let⟨h1,h2,_⟩:=Z u (de D);show Yb j r9 w9 h1 h2 F
 .let⟨u,D,rfl⟩:=bu.mp z;let⟨h1,h2,_⟩:=Z u D;show Yb j r9 w9 h1 h2 (show 1-nW ts<=1 by lia)
def aie {kvs:List (Key×V)}{c0:Nat}{i:Int}(c:Nat):wf (putK kvs (cZ [c0]) (.int i)) c=if c=c0 then i else wf kvs c:=by
 unfold wf;rw[acJ];by_cases h:c=c0;.rw[if_pos h,if_pos (by rw[h])]
 .rw[if_neg h,if_neg (λz=>h (by have:=yJ (oy z);simpa using this))]
def WD.put {kvs:List (Key×V)}(h:WD kvs){c:Nat}(i:Int)(h1:97<=c)(h2:c<=122):WD (putK kvs (cZ [c]) (.int i)):=by
 unfold putK;intro j m;split at m
 .let⟨p,hp,rfl⟩:=bu.mp m;split
  .rename_i e;show(aK c i (by rw[e]) h1 h2)
  .show h p hp
 .rcases be.mp m with m|m;.show h j m
  .rw[a_.mp m];show(aK c i rb h1 h2)
def WB (b:Int)(kvs:List (Key×V)):Prop:=∀c,0<=wf kvs c/\wf kvs c<=b
def WB.put {b:Int}{kvs:List (Key×V)}(h:WB b kvs){c:Nat}{i:Int}(h1:0<=i)(h2:i<=b):WB b (putK kvs (cZ [c]) (.int i)):=λe=>by
 rw[aie];split;.show⟨h1,h2⟩
 .show h e
def Yc:Sp:=λvs H Q _=>∃(pb t:Addr) (as:List Addr) (n m:Int),vs=[.ref pb,.ref t]/\H pb=some (.tup [.int n,.int m])/\H t=some (.tup (as.map V.ref))/\Q (.int (if n<=(as.length:Int) then m else 0)) H
def Wm (D:aO K mg "bonus_of" wU ["bonus","laying"])(G:mg "len"=none):cu P w K mg base "bonus_of" 1 ["bonus","laying"] Yc:=by
 calc D.dM V3 (λf bN A outer s H vs Q E I h=>?_);let⟨pb,t,as,n,m,rfl,F,ht,q⟩:=h;calc(aM _ (aF (bD (oh (bU JH (aW bZ ue G aE (aj aZ ao)) (bf bF aG aq (λ_ _=>rfl)) (bO _)) (bf bF aG aq (λ_ _=>rfl)) aq))) ?_);calc(aK t _ rb (.inr (aU.of ht)) (bA pb _ _ _ rb rb (aU.of F) (aV (j:=0) rb) (aK _ _ rb rb (bh _ rb ?_))));rw[aa];by_cases c:n<=(as.length:Int)
 .rw[if_pos c]at q;rw[aw c];show cR (bA pb _ _ _ rb rb (aU.of F) (aV (j:=1) rb) q)
 .rw[if_neg c]at q;rw[ah c];show cM q
theorem ady {M:AA}{kvs:List (Key×V)}{ts:List bQ}{q:kI}(j:WB 1000000 kvs):∀n,0<=(nZ M kvs ts q n).1/\(nZ M kvs ts q n).1<=4000000*(n:Int)
 | 0=>⟨mE _,by show (0:Int)<=4000000*0;decide⟩
 | n+1=>by
  let⟨h1,h2⟩:=ady (M:=M) (ts:=ts) (q:=q) j n;let⟨b1,b2⟩:=j (q.2.2.2.getD n 0);show 0<=(HY _ _ _ _ _ _ _).1/\(HY _ _ _ _ _ _ _).1<=4000000*((n+1:Nat):Int)
  unfold HY;split
  .let⟨w1,w2⟩:=aib (cell M (sx q n) (sy q n));let m1:=tS b1 (show 0<=HW (cell M (sx q n) (sy q n)) by lia);let m2:=nV b2 w2 t6 t9;simp only;lia
  .simp only;lia
def aki {M:AA}{kvs:List (Key×V)}{ts:List bQ}{q:kI}{r w:Nat}(D:WB 1000000 kvs)(j:QIn r w q)(r9:r<=9)(w9:w<=9):-1000000000000000<=Fg M kvs ts q/\Fg M kvs ts q<=1000000000000000:=by
 let hl:q.2.2.2.length<=9:=by
  rcases jv q.2.2.2.length with z|z;.lia
  let h:=j.inn (q.2.2.2.length-1) t6;let hw:=j.way;unfold sx sy at h;by_cases c:q.2.2.1=0;.rw[c]at h;lia
  .rw[show q.2.2.1=1 by lia]at h;lia
 unfold Fg;let⟨h1,h2⟩:=ady (M:=M) (ts:=ts) (q:=q) D q.2.2.2.length;let⟨h3,h4⟩:=Z4 M kvs ts q q.2.2.2.length;let h5:(4:Int)^q.2.2.2.length<=4^9:=by
  have:=Nat.pow_le_pow_right (show 0<4 by decide) hl
  exact_mod_cast this
 let F:(4:Int)^9=262144:=by decide
 rw[F]at h5;let h7:=tS h1 (show 0<=(nZ M kvs ts q q.2.2.2.length).2 by lia);let G:=nV (show (nZ M kvs ts q q.2.2.2.length).1<=36000000 by lia) (show (nZ M kvs ts q q.2.2.2.length).2<=262144 by lia) t6 t9;lia
noncomputable def TV (aA aN:AA)(kvs:List (Key×V))(ts:List bQ)(n m:Int):Int:=((jF aA ts).map (Fg aN kvs ts)).sum+if n<=(ts.length:Int) then m else 0
def aeF (C:Addr):Sp:=λvs H Q _=>∃(b d pb t:Addr) (kvs:List (Key×V)) (n m:Int) (as:List Addr) (ts:List bQ) (r w:Nat) (aA aN:AA) (bi bj:Nat),vs=[.ref b,.ref d,.ref pb,.ref t]/\cX C H b r w aA aN bi bj/\Rd H d (.dK kvs)/\WD kvs/\WB 1000000 kvs/\H pb=some (.tup [.int n,.int m])/\H t=some (.tup (as.map V.ref))/\fB H as ts/\(∀t∈ts,inB r w t)/\0<ts.length/\ts.length<=7/\G9 ts/\
 ∀H',aD H H'->Q (.int (TV aA aN kvs ts n m)) H'
def TX {C:Addr}(D:aO K mg "points_of" uW ["board","worths","bonus","laying"])(K7:mg "sum"=none)(Je:cu P w K mg base "formed" 10 ["board","laying"] (I_ C))(Qm:cu P w K mg base "word_points" 2 ["board","worths","laying","word"] (TF C))(Z6:cu P w K mg base "bonus_of" 1 ["bonus","laying"] Yc):cu P w K mg base "points_of" 11 ["board","worths","bonus","laying"] (aeF C):=by
 calc D.dM Eo (λf bN A outer s H vs Q E hr h=>?_);let⟨b,d,pb,t,kvs,n,m,as,ts,r,w,aA,aN,bi,bj,rfl,I,hd,hW,hB,O,ht,hL,Z,h0,h7,hl1,q⟩:=h;calc(aM _ (aB (W9 (ix:=4) (ns:=["word"]) Eo.nd rb (Or.inl rb) rb (kh.of ["board","worths","bonus","laying","counted"] [] ui) (iB (bK Je hr.mono rb (aj aG (aj bJ ao)))) (λ_ _ _ _ _=>(LQ (show (["word","board","worths","bonus","laying","counted"]:List Str).Nodup by decide +kernel) rb ue)) (λ_ _ _ _ _=>eG) (λ_ _ _ _ _=>(bK Qm hr.mono rb (aj aZ (aj bG (aj dI (aj aG ao))))))) (aF (bD (aL cY (aW (abe rb) ue K7 PyProof.Rows.boot_sum (aj dI ao)) (bK Z6 hr.mono rb (aj bG (aj bJ ao))))))) ?_);calc⟨b,t,as,ts,r,w,aA,aN,bi,bj,rb,I,ht,hL,Z,h0,h7,hl1,λT bs H1 s1 hT hQ=>?_⟩;let hql:=K1 (aA:=aA) h7;let SM:bs.length=(jF aA ts).length:=hQ.len;refine(bH T rb ⟨_,aU.of hT⟩ (λM hM=>J2 (K:=K) (a:=T) (f:=kj [] 0) (tt:=nu) (xs:=bs.map V.ref) (λi ys G=>ys=((jF aA ts).take i).map (λq=>V.int (Fg aN kvs ts q))/\G M=some (.lst ys)/\aD H1 G)
  (bY rb au (aD.upd hM)) (λi ys G _ h=>aU.of (h.2.2 _ _ hT)) ?_ ?_))
 .intro i x ys G hx z;let⟨rfl,J,s2⟩:=z;let⟨hi,hx⟩:=rfg hx;let hiw:i<(jF aA ts).length:=t6;subst hx;let⟨qq,eq,Y⟩:=(hQ.mv s2).get hi;let hB2:=I.1;let⟨_,F⟩:=id I;let hqi:=TQ F.br F.r9 F.w9 Z (b8 eq);let j:=s1.trans s2;calc aeu ⟨b,d,t,bs[i],kvs,as,ts,qq,r,w,aA,aN,bi,bj,rb,I.mv j,hd.mv j,hW,j _ _ ht,hL.mv j,h7,Y,hqi,λH3 s3=>?_⟩;calc(bY (s3 _ _ J) (by rw[aa,ay];show aJ t6) (iK.mk (by rw[aa];show hi) (bY ?_ au ((s2.trans s3).dU hM))));rw[du,eq,cq];rfl
 .intro ys G z;let⟨rfl,J,s2⟩:=z;rw[aa,SM,cS]at J;let⟨_,F⟩:=id I;let j:=s1.trans s2;let akj:G M=some (.lst (((jF aA ts).map (Fg aN kvs ts)).map V.int)):=by rw[f_];show J
  refine(dF M ((jF aA ts).map (Fg aN kvs ts)) rb (bI.of akj) (by rw[aa];lia) (λx hx=>?_) (Kf pb t as n m rb (j _ _ O) (j _ _ ht) (aK _ _ rb rb ?_)))
  .let⟨qq,hq,rfl⟩:=bu.mp hx;show aki hB (TQ F.br F.r9 F.w9 Z hq) F.r9 F.w9
  .rw[hL.len];show q G j
def TY {a b:AA}(p:a.Perm b)(h1:a.Pairwise (λx y=>decide (y<x)=false))(h2:b.Pairwise (λx y=>decide (y<x)=false)):a=b:=p.eq_of_pairwise (le:=λx y=>decide (y<x)=false) (λx y _ _ j D=>List.le_antisymm (List.not_lt.mp (lv j)) (List.not_lt.mp (lv D))) h1 h2
def afM {xs:List V}{b:Nat}(h:b<=xs.length):jo xs none (some (b:Int))=xs.take b:=by unfold jo;rw[HT.lO,HT.uf,gg h];simp
def abM {xs:List V}{a:Nat}(h:a<=xs.length):jo xs (some (a:Int)) none=xs.drop a:=by unfold jo;rw[HT.lO,HT.uf,gg h,ck (by rw[bv];lia)]
def dh (l:List Nat):List Nat:=l.mergeSort (λa b=>decide (a<=b))
def iI (l:List Nat):(dh l).Perm l:=List.mergeSort_perm _ _
def aif {a b:Nat}:(decide ([b]<[a])=false)↔a<=b:=by rw[decide_eq_false_iff_not,km];simp
def T3 (l:List Nat):((dh l).map λc=>[c]).Pairwise (λa b=>decide (b<a)=false):=by rw[List.pairwise_map];have:=List.pairwise_mergeSort (le:=λa b:Nat=>decide (a<=b)) (λa b c h1 h2=>by simp at *;lia) (λa b=>by simp;lia) l;show this.imp λh=>aif.mpr (fh h)
def Ax {l:List Nat}{ws:AA}(pm:ws.Perm (l.map λc=>[c]))(pw:ws.Pairwise (λa b=>decide (b<a)=false)):ws.flatten=dh l:=by let e:=TY (pm.trans ((iI l).map λc=>[c]).symm) pw (T3 l);rw[e];show mD _
def T4 {a b:List Nat}(h:a.Perm b):dh a=dh b:=by
 let e:=TY (((iI a).trans (h.trans (iI b).symm)).map λc=>[c]) (T3 a) (T3 b);have:=congrArg List.flatten e
 rwa [mD,mD]at this
def QX:Sp:=λvs H Q _=>∃l:List Nat,vs=[.str (S l)]/\l.length<64/\∀H',aD H H'->Q (.str (S (dh l))) H'
def Wn (D:aO K mg "in_order" wV ["tiles"])(F:mg "sorted"=none):cu P w K mg base "in_order" 1 ["tiles"] QX:=by
 calc D.dM V4 (λf bN A outer s H vs Q E G h=>?_);let⟨l,rfl,j,q⟩:=h;calc(aM _ (aF (bD (gq bz di dq rJ (bL [] uj) (aj (aW (Dm rb) ue F gT (aj aG ao)) ao)))) ?_);calc⟨rb,bH l rb j (λp ls hp pm pw=>?_)⟩;calc(dF p (ls.map λc=>[c]) rb rb (bI.of au) ?_ ?_);.rw[mD,pm.length_eq];lia
 .rw[Ax (pm.map λc=>[c]) pw];show q _ (aD.upd hp)
def T6:Sp:=λvs H Q _=>∃(a:Addr) (xs:List V) (i:Nat) (v:V),vs=[.ref a,.int i,v]/\H a=some (.tup xs)/\i<xs.length/\xs.length<=63/\∀p H',aD H H'->H' p=some (.tup (xs.set i v))->Q (.ref p) H'
def T7 (D:aO K mg "exchanged" u9 ["things","place","thing"]):cu P w K mg base "exchanged" 1 ["things","place","thing"] T6:=by
 calc D.dM Sd (λf bN A outer s H vs Q E hr h=>?_);let⟨a,xs,i,v,rfl,ha,hi,J,q⟩:=h;calc(aM _ (aF (bD (aL Xa (aL Xa (fD Xb aG ji (fG aZ)) (dJ (aj bG ao))) (fD Xb aG (fG (aL cY aZ aq)) ji)))) ?_);calc(aM _ rb (aK a xs rb ha (λp1 H1 s1 h1=>?_)));calc⟨zsz 1,λp2 O=>?_⟩;let e2:upd H1 p2 (HO.tup [v]) p2=some (.tup [v]):=au;let s2:aD H1 (upd H1 p2 (HO.tup [v])):=aD.upd O;generalize upd H1 p2 (HO.tup [v])=H2 at e2 s2 ⊢;let G:(jo xs none (some (i:Int)))=xs.take i:=afM t6;let j:(jo xs (some ((i:Int)+1)) none)=xs.drop (i+1):=abM (a:=i+1) t6;rw[G]at h1;calc(uP p1 p2 _ _ rb rb (aU.of (s2 _ _ h1)) (aU.of e2) ?_ (λ_=>e2) (λz=>absurd z t7) (λp3 H3 I h3=>?_));.rw[ay];show am (aJ (by simp;lia))
 calc(aK _ _ rb rb (aM _ rb (aK a xs rb (I _ _ (s2 _ _ (s1 _ _ ha))) (λp4 H4 F h4=>?_))));rw[j]at h4;calc(uP p3 p4 _ _ rb rb (aU.of (F _ _ h3)) (aU.of h4) ?_ (λz=>by simp at z) (λ_ _=>F _ _ h3) (λp5 Y Z h5=>?_));.rw[av,ay,bv];show am (aJ (by simp;lia))
 calc q p5 Y ((((s1.trans s2).trans I).trans F).trans Z) ?_;rw[h5,List.set_eq_take_append_cons_drop,if_pos hi];simp
def Z7 {X:Cx}{S:St->Prop}:Ac (Ec X.prog X.w) X (λ_ _ _=>False) S:=λ_ _ _ _ _ _ _ _ ⟨_,_,_,_,_,_,_,z⟩=>z.elim
noncomputable def o_:List Nat->List Nat->Option (List Nat)
 | l,[]=>some l
 | l,c::cs=>if fV c∈l then o_ (l.erase (fV c)) cs else none
theorem Cd (c:Nat):∀l:List Nat,(l.map λc=>[c]).erase [c]=(l.erase c).map λc=>[c]
 | []=>rfl
 | a::l=>by
  rw[ce,List.erase_cons,List.erase_cons];by_cases e:a=c;.subst e;simp
  .rw[if_neg (by simpa using e),if_neg (by simpa using e),Cd c l];rfl
theorem T8:∀{cs l j:List Nat},o_ l cs=some j->Av (l.map λc=>[c]) cs=.inr (j.map λc=>[c])
 | [],l,j,h=>by cases h;rfl
 | c::cs,l,j,h=>by
  unfold o_ at h;split at h
  .rename_i hm;unfold Av;rw[if_pos (bu.mpr (aM _ hm rb)),Cd];show T8 h
  .cases h
theorem uz:∀{cs l j:List Nat},o_ l cs=some j->j.length+cs.length=l.length
 | [],l,j,h=>by cases h;rfl
 | c::cs,l,j,h=>by
  unfold o_ at h;split at h
  .rename_i hm;have:=uz h;rw[List.length_erase_of_mem hm]at this;have:=List.length_pos_of_mem hm;simp only[dA];lia
  .cases h
theorem Nf:∀{cs l j:List Nat},o_ l cs=some j->∀c∈j,c∈l
 | [],l,j,h=>by cases h;show λ_ h=>h
 | c::cs,l,j,h=>by
  unfold o_ at h;split at h;.show λd hd=>List.mem_of_mem_erase (Nf h d hd)
  .cases h
def T9:Sp:=λvs H Q _=>∃(cA l:List Nat) (t:Addr) (as:List Addr) (ts:List bQ),vs=[.str (S cA),.ref t]/\H t=some (.tup (as.map V.ref))/\fB H as ts/\ts.length<=7/\cA.length<=63/\(∀t∈ts,sgN t.2.2)/\o_ cA (ts.map (·.2.2))=some l/\∀H',aD H H'->Q (.str (S (dh l))) H'
def Ng {C:Addr}(D:aO K mg "left_behind" rC ["rack","laying"])(vL:DefX P w K mg base "left_of" 3 ["rack","signs"] (KZ C)):cu P w K mg base "left_behind" 4 ["rack","laying"] T9:=by
 calc D.dM Mq (λf bN A outer s H vs Q E hr h=>?_);let⟨cA,l,t,as,ts,rfl,ht,hL,h7,O,Z,K8,q⟩:=h;let Y:=hL.len;calc(aM _ (aF (bD (oO vL hr.mono rb (Z7 (S:=λ_=>True)) (aj aG (aj (gq bz di dq rJ (bL [] uj) (aj (ou (ns:=["row","column","sign"]) rb (kh.of ["rack","laying"] [] ui) (iB aZ) (λ_ _ _ _ _=>(rO K rb (show (["row","column","sign","rack","laying"]:List Str).Nodup by decide +kernel) rb rb rb ue ue ue)) (λ_ _ _ _ _=>eG) (λ_ _ _ _ _=>bG)) ao)) ao))))) ?_);refine(bY True.intro rb (bH t rb ⟨_,aU.of ht⟩ (λN hN=>mj (K:=K) (KT:=K) (a:=t) (f:=kj [] 0) (tt:=nu) (xs:=as.map V.ref) (λn ys F=>ys=Ts (ones ((ts.take n).map (·.2.2)))/\F N=some (.lst ys)/\aD H F)
  (bY rb au (aD.upd hN)) (λn ys F _ h=>aU.of (h.2.2 _ _ ht)) ?_ ?_)))
 .intro n x ys F hx z;let⟨rfl,J,I⟩:=z;let⟨hn,hx⟩:=rfg hx;let j:n<ts.length:=t6;let⟨_,en⟩:=j9 (hL.mv I) j;calc yM hx.symm (aU.of en) ?_;calc(bY J ?_ (iK.mk (by rw[aa];show hn) (bY ?_ au (I.dU hN))));.rw[aa,aa,aa,ay];show aJ t6
  .rw[show ts.take (n+1)=ts.take n++[ts[n]] by rw[du,ae j];rfl];simp only[Ts,ones,cq];rfl
 .intro ys F z;let⟨rfl,J,I⟩:=z;rw[aa,Y,cS]at J;calc(dF N (ones (ts.map (·.2.2))) rb rb (bI.of J) (by rw[mD,aa];lia) ?_);rw[mD];let G:=T8 K8;refine(BJ cA (ts.map (λt:bQ=>t.2.2)) rb O (by rw[aa];lia) (λc hc=>?_) (λt e=>?_) (λleft e ws H7 s7 pm pw=>?_))
  .let⟨u,hu,rfl⟩:=bu.mp hc;show(Z u hu).lt
  .rw[G]at e;cases e
  rw[G]at e;cases e;rw[Ax pm pw];show q H7 (I.trans s7)
def pX (c:Nat):Prop:=isLet c\/c=63
def pX.lt {c:Nat}(h:pX c):c<128:=by
 rcases h with h|h;.have:=h.2;lia
 .lia
def Yd:Sp:=λvs H Q _=>∃l:List Nat,vs=[.str (S l)]/\l≠[]/\l.length<=63/\(∀c∈l,pX c)/\∀H',aD H H'->Q (.bl true) H'
def T_ (D:aO K mg "are_tiles" uZ ["thing"])(bW:mg "isinstance"=none)(wW:mg "str"=none)(fK:mg "all"=none)(I:∃t,mg "BLANK"=some (.str (S [63]) t)):cu P w K mg base "are_tiles" 1 ["thing"] Yd:=by
 calc D.dM Ep (λf bN A outer s H vs Q E hr h=>?_);let⟨l,rfl,O,Z,ht,q⟩:=h;calc(aM _ (aB (cJ (QW.qt (oW (fQ (eO (aW iu ue bW c8 (aj aG (aj (lQ (v:=.ty "str") ue wW p_ rb) ao))))) (nC (bU lU aG (bL [] uj) (bO _))))) (aF (bD iY)) bR) (aF (bD (aW (j6 rb) ue fK jV (aj (jG rb (ju.of Ep.nd ui) (vH aG) (λ_ _ _ _ _=>eG) (λ_ _ _ _ _=>(QB (gK lU aG (uN ue I) (bO _)) (j8 (mJ oN oN (bL [97] uj) aG (bL [122] uj)))))) ao))))) ?_);calc(gC _ _ _ true rb (.str _) ui (cM (aK l [] rb rb (bh _ rb ?_))));rw[ah O];refine cM (aM l rb (λL Y=>xQ (λi ys j=>ys=(List.replicate i true).map V.bl/\j L=some (.lst ys)/\aD H j) (bY rb au (aD.upd Y)) ?_ ?_))
 .intro i c ys j hi z;let⟨rfl,F,sm⟩:=z;let J:i<l.length:=(al.mp hi).1;let G:∀b,b=true->j L=some (.lst ((List.replicate i true).map V.bl))/\((List.replicate i true).map V.bl).length<sizeLine/\iK l.length i ((List.replicate i true).map V.bl++[V.bl b]=(List.replicate (i+1) true).map V.bl/\upd j L (.lst ((List.replicate i true).map V.bl++[V.bl b])) L=some (.lst ((List.replicate i true).map V.bl++[V.bl b]))/\aD H (upd j L (.lst ((List.replicate i true).map V.bl++[V.bl b])))):=λb hb=>by
   subst hb;show(bY F (by rw[aa,dL];show aJ t6) (iK.mk J (bY (yh i) au (sm.dU Y))))
  calc(aK [c] [63] rb rb (bh _ rb ?_));rcases ht c (b8 hi) with h|h
  .let⟨a1,a2⟩:=abB h;let h3:¬([c]=[63]):=λz=>by injection z with z;subst z;have:=h.1;lia
   rw[ah h3];show cM (aK [97] [c] rb rb (bh true (by rw[a1];rfl) (cR (aK [c] [122] rb rb (G _ (by rw[a2];rfl))))))
  .subst h;rw[aw rfl];show cR (G _ rb)
 .intro ys j z;let⟨rfl,F,sm⟩:=z;calc(aK L (List.replicate l.length true) rb (bI.of F) ?_);rw[Aj];show q j sm
inductive fW
 | lay (ts:List bQ)|swap (l:List Nat)|pass
def oU:List Nat:=[108,97,121]
def lN:List Nat:=[115,119,97,112]
def i_:List Nat:=[112,97,115,115]
def fW.name:fW->List Nat
 | .lay _=>oU
 | .swap _=>lN
 | .pass=>i_
def K9 (H:Hp)(p:Addr):fW->Prop
 | .lay ts=>∃t as,H p=some (.tup [.str (S oU),.ref t])/\H t=some (.tup (as.map V.ref))/\fB H as ts
 | .swap l=>H p=some (.tup [.str (S lN),.str (S l)])
 | .pass=>H p=some (.tup [.str (S i_)])
def abN:Sp:=λvs H Q _=>∃(p:Addr) (d:fW),vs=[.ref p]/\K9 H p d/\(∀l,d=.swap l->l≠[]/\l.length<=63/\∀c∈l,pX c)/\∀H',aD H H'->Q (.bl true) H'
open Classical in
def Z8 (D:aO K mg "is_deed" yV ["thing"])(O:mg "isinstance"=none)(cI:mg "tuple"=none)(Y:mg "len"=none)(J:cu P w K mg base "are_tiles" 1 ["thing"] Yd):cu P w K mg base "is_deed" 2 ["thing"] abN:=by
 calc D.dM Zu (λf bN A outer s H vs Q E G h=>?_);let⟨p,d,rfl,hd,hs,q⟩:=h;calc(aM _ (aB (cJ (fQ (eO (aW iu ue O c8 (aj aG (aj (lQ (v:=.ty "tuple") ue cI c_ rb) ao))))) (aF (bD iY)) bR) (aB (cJ (bU jD (aW bZ ue Y aE (aj aG ao)) aq (bO _)) (aF (bD (QB (gK lU (bf bF aG aq (λ_ _=>rfl)) (bL [108,97,121] uj) (bO _)) (j8 (lW (gK lU (bf bF aG aq (λ_ _=>rfl)) (bL [115,119,97,112] uj) (bO _)) (j8 (bK J G.mono rb (aj (bf bF aG aq (λ_ _=>rfl)) ao)))))))) bR) (aF (bD (gK (J0 G.units) aG (dJ (aj (bL [112,97,115,115] uj) ao)) (bO _)))))) ?_);cases d with
 | lay ts=>let⟨t,as,h1,h2,h3⟩:=hd;calc(gC _ _ _ true rb (.tup h1) ui (cM ?_));calc(aQ p _ rb (.inr (aU.of h1)) rb (bh true t7 (cR ?_)));calc(bA p _ _ (.str (S oU)) rb rb (aU.of h1) (aV (j:=0) rb) (aK oU oU rb rb (bh true (by rw[aw rfl]) (cR ?_))));show q H (aD.refl _)
 | swap l=>have h1:H p=some (.tup [.str (S lN),.str (S l)]):=hd;let⟨g1,g2,g3⟩:=hs l rfl;calc(gC _ _ _ true rb (.tup h1) ui (cM ?_));calc(aQ p _ rb (.inr (aU.of h1)) rb (bh true t7 (cR ?_)));calc(bA p _ _ (.str (S lN)) rb rb (aU.of h1) (aV (j:=0) rb) (aK lN oU rb rb (bh false (by rw[ah t9]) (cM ?_))));calc(bA p _ _ (.str (S lN)) rb rb (aU.of h1) (aV (j:=0) rb) (aK lN lN rb rb (bh true (by rw[aw rfl]) (cR ?_))));show(bA p _ _ (.str (S l)) rb rb (aU.of h1) (aV (j:=1) rb) (oY l rb g1 g2 g3 q))
 | pass=>have h1:H p=some (.tup [.str (S i_)]):=hd;calc(gC _ _ _ true rb (.tup h1) ui (cM ?_));calc(aQ p _ rb (.inr (aU.of h1)) rb (bh false t7 (cM ?_)));calc⟨zsz 1,λZ I=>?_⟩;let F:aD H (upd H Z (HO.tup [.str (S i_)])):=aD.upd I;calc(cW 1 (.tup [.str i_]) (.tup [.str i_]) t9 (.tup (aU.of (F _ _ h1)) (.cons (.str _ t9) .nil)) (.tup (aU.of au) (.cons (.str _ t9) .nil)) ?_);rw[aw rfl];show q _ F
structure Std where
 r:Nat
 w:Nat
 aA:List (List Nat)
 aN:List (List Nat)
 bi:Nat
 bj:Nat
 racks:List (List Nat)
 bag:List Nat
 iD:List Int
structure tR (K:W.Frag)(C:Addr):Prop where
 cl:Cls K C
 nb:jh K C "board"
 nr:jh K C "racks"
 ng:jh K C "bag"
 np:jh K C "points"
structure gP (C CS:Addr)(H:Hp)(p:Addr)(z:Std):Prop where
 ex:∃dx b pr pp,H p=some (.ins CS dx [("board",.ref b),("racks",.ref pr),("bag",.str (S z.bag)),("points",.ref pp)])/\cX C H b z.r z.w z.aA z.aN z.bi z.bj/\H pr=some (.tup (Ts z.racks))/\H pp=some (.tup (z.iD.map V.int))
def gP.mv {C CS:Addr}{H H':Hp}{p:Addr}{z:Std}(A:gP C CS H p z)(s:aD H H'):gP C CS H' p z:=by let⟨dx,b,pr,pp,h1,h2,h3,h4⟩:=A.ex;show⟨dx,b,pr,pp,s _ _ h1,h2.mv s,s _ _ h3,s _ _ h4⟩
structure m8 (z:Std):Prop where
 n1:1<=z.racks.length
 n4:z.racks.length<=4
 r7:∀l∈z.racks,l.length<=7/\∀c∈l,pX c
 b6:z.bag.length<=60
 bt:∀c∈z.bag,pX c
 pl:z.iD.length=z.racks.length
def G_ (CS:Addr):Sp:=λvs H Q _=>∃(p dx b pr pp:Addr) (l:List Nat),vs=[.ref p,.ref b,.ref pr,.str (S l),.ref pp]/\H p=some (.ins CS dx [])/\
 ∀H',(∀b o,H b=some o->b≠p->H' b=some o)->H' p=some (.ins CS dx [("board",.ref b),("racks",.ref pr),("bag",.str (S l)),("points",.ref pp)])->Q .non H'
def Qn {f C:Addr}{fd:FuncData}(F:fu K "__init__" "Stand.__init__" lE f fd)(T:tR K C):cB P w K mg base dH 1 f fd ["self","board","racks","bag","points"] (G_ C):=by
 calc F.dM P0 (λbN A outer s H vs Q E D h=>?_);let⟨p,dx,b,pr,pp,l,rfl,hp,q⟩:=h;calc(aM _ (aB (lV aG aZ rb) (aB (lV aG bG rb) (aB (lV aG bJ rb) (aF (lV aG dI rb))))) ?_);calc(iy p C dx _ rb hp T.cl T.nb (by show 0<1000;decide) ?_);calc(iy p C dx _ rb au T.cl T.nr (by show 1<1000;decide) ?_);calc(iy p C dx _ rb au T.cl T.ng (by show 2<1000;decide) ?_);calc(iy p C dx _ rb au T.cl T.np (by show 3<1000;decide) ?_);calc q _ (λb o e j=>?_) ?_;.rw[aY j,aY j,aY j,aY j];show e
 .show au
def Fi {C CS x dx:Addr}{H j:Hp}{z:Std}{b pr pp:Addr}(hx:H x=none)(hd:H dx=none)(D:∀a o,upd (upd H dx (.own x)) x (.ins CS dx []) a=some o->a≠x->j a=some o)(e:j x=some (.ins CS dx [("board",.ref b),("racks",.ref pr),("bag",.str (S z.bag)),("points",.ref pp)]))(hb:cX C H b z.r z.w z.aA z.aN z.bi z.bj)(F:H pr=some (.tup (Ts z.racks)))(hp:H pp=some (.tup (z.iD.map V.int))):aD H j/\gP C CS j x z:=by let s:aD H j:=λa o h=>D a o (by rw[aY (bB h hx),aY (bB h hd)];show h) (bB h hx);show⟨s,dx,b,pr,pp,e,hb.mv s,s _ _ F,s _ _ hp⟩
def rT {l:List Nat}(b:Nat):jd l none (some (b:Int))=l.take b:=by
 unfold jd;rw[HT.lO,HT.uf];simp only[r0,Nat.sub_zero];by_cases h:b<=l.length;.rw[gg h]
 .rw[pE t6,ck (ai _),ck t6]
def pY {l:List Nat}(b:Nat):jd l (some (b:Int)) none=l.drop b:=by
 unfold jd;rw[HT.lO,HT.uf];by_cases h:b<=l.length;.rw[gg h,ck (by rw[bv];lia)]
 .rw[pE t6,me,List.take_zero,oC t6]
def akk (n k:Nat):(if (0:Int) > (n:Int)-(k:Int) then (0:Int) else (n:Int)-k)=((n-k:Nat):Int):=by split <;> lia
noncomputable def Nh (z:Std)(turn size:Nat)(ts:List bQ)(l:List Nat)(pt:Int):Std:={z with aA:=dR z.aA ts,racks:=z.racks.set turn (dh (dh l++z.bag.take (size-(dh l).length))),bag:=z.bag.drop (size-(dh l).length),iD:=z.iD.set turn (z.iD.getD turn 0+pt)}
def jZ (l:List Nat):(dh l).length=l.length:=(iI l).length_eq
def Ua (ls:AA)(i:Nat)(l:List Nat):(Ts ls).set i (.str (S l))=Ts (ls.set i l):=by simp only[Ts,rh]
def Ub (ls:List Int)(i:Nat)(x:Int):(ls.map V.int).set i (.int x)=(ls.set i x).map V.int:=by rw[rh]
def abO (C CS:Addr):Sp:=λvs H Q _=>∃(p t:Addr) (z:Std) (turn size:Nat) (pt:Int) (as:List Addr) (ts:List bQ) (l:List Nat),vs=[.ref p,.int turn,.int size,.ref t,.int pt]/\gP C CS H p z/\m8 z/\turn<z.racks.length/\size<=7/\H t=some (.tup (as.map V.ref))/\fB H as ts/\(∀t∈ts,inB z.r z.w t)/\ts.length<=7/\(∀t∈ts,sgN t.2.2)/\o_ (z.racks.getD turn []) (ts.map (·.2.2))=some l/\
 ∀j H',aD H H'->gP C CS H' j (Nh z turn size ts l pt)->Q (.ref j) H'
def Jg {C CS f0 f1:Addr}{eV dY:FuncData}(D:aO K mg "behind_laying" o7 ["stand","turn","size","laying","points"])(zp:mg "max"=none)(bC:mg "len"=none)(cQ:gW K C)(T:tR K CS)(yt:mg "Stand"=some (.ref CS))(Ay:Mk K CS f0)(Az:cB P w K mg base dH 1 f0 eV ["self","board","racks","bag","points"] (G_ CS))(A_:bT K eV ["self","board","racks","bag","points"] [])(pP:Meth K C "laid" f1)(pQ:cB P w K mg base dH 8 f1 dY ["self","laying"] (Kw C))(pR:bT K dY ["self","laying"] [])(Qo:cu P w K mg base "left_behind" 4 ["rack","laying"] T9)(qx:cu P w K mg base "in_order" 1 ["tiles"] QX)(vh:cu P w K mg base "exchanged" 1 ["things","place","thing"] T6):cu P w K mg base "behind_laying" 10 ["stand","turn","size","laying","points"] (abO C CS):=by
 calc D.dM jK (λf bN A outer s H vs Q E I h=>?_);let⟨p,t,z,turn,size,pt,as,ts,l,rfl,A0,Z,F,hsz,ht,hL,dZ,h7,hsg,K8,q⟩:=h;let⟨dx,b,pr,pp,hp,hb,O,Y⟩:=A0.ex;let hg:z.racks.getD turn []=z.racks[turn]:=by rw[ap,ae F];rfl
 rw[hg]at K8;let⟨k7,kt⟩:=Z.r7 _ (a9 F);let hll:=uz K8;let hl7:(dh l).length<=7:=by rw[jZ];lia
 let hb6:=Z.b6;let n4:=Z.n4;let hpl:=Z.pl;calc(aM _ (aB (aX (i:=5) jK.nd rb (Or.inl rb) (bK Qo I.mono rb (aj (bf bF (cg aG rb) aZ (λ_ _=>rfl)) (aj bJ ao)))) (aB (aX (i:=6) jK.nd rb (Or.inl rb) (aW (aaF rb) ue zp PyProof.Rows.boot_max (aj (aL qJ bG (aW dw ue bC aE (aj fj ao))) (aj aq ao)))) (aB (aX (i:=7) jK.nd rb (Or.inl rb) (bK qx I.mono rb (aj (aL kZ fj (fD vQ (cg aG rb) ji (fG fU))) ao))) (aB (aX (i:=8) jK.nd rb (Or.inl rb) (bK vh I.mono rb (aj (cg aG rb) (aj aZ (aj jl ao))))) (aB (aX (i:=9) jK.nd rb (Or.inl rb) (bK vh I.mono rb (aj (cg aG rb) (aj aZ (aj (aL cY (bf bF (cg aG rb) aZ (λ_ _=>rfl)) dI) ao))))) (aF (bD (rM Ay Az I.mono rb yt A_ .nil dO (aj (ql (cg aG rb) cQ.cl pP pQ I.mono pR .nil dO (aj bJ ao)) (aj mX (aj (fD vQ (cg aG rb) (fG fU) ji) (aj mY ao)))))))))))) ?_);calc(cL p CS dx _ _ rb hp T.cl T.nr rb (bA pr _ _ (.str (S z.racks[turn])) rb rb (aU.of O) (aV (j:=turn) (oK (ae F))) ⟨z.racks[turn],l,t,as,ts,rb,ht,hL,h7,t6,hsg,K8,λH1 s1=>?_⟩));calc(bH (dh l) rb (am (aJ t6)) (aK _ _ rb rb (eU _ _ rb ?_)));rw[akk];generalize hm:size-(dh l).length=m;calc(cL p CS dx _ _ rb (s1 _ _ hp) T.cl T.ng rb (aM _ rb (bH z.bag rb (am (aJ t6)) (aQ (dh l) _ rb rb ?_ (bH (dh l++z.bag.take m) ?_ ?_ (λH2 s2=>?_))))));.rw[rT,ay];show am (aJ t6)
 .rw[rT];rfl
 .rw[av,ay];lia
 let gO:=s1.trans s2;calc(cL p CS dx _ _ rb (gO _ _ hp) T.cl T.nr rb (bA pr _ turn _ rb (gO _ _ O) (by rw[aa];show F) (by rw[aa];lia) (λpr' H3 s3 Uc=>?_)));let gM:=gO.trans s3;let G:turn<z.iD.length:=t6;let hgp:z.iD.getD turn 0=z.iD[turn]:=by rw[ap,ae G];rfl
 calc(cL p CS dx _ _ rb (gM _ _ hp) T.cl T.np rb (cL p CS dx _ _ rb (gM _ _ hp) T.cl T.np rb (bA pp _ _ (.int z.iD[turn]) rb rb (aU.of (gM _ _ Y)) (aV (j:=turn) (by rw[cz,ae G];rfl)) (aK _ _ rb rb (bA pp _ turn _ rb (gM _ _ Y) (by rw[aa];show G) (by rw[aa];lia) (λpp' H4 s4 Fj=>?_))))));let J:=gM.trans s4;let⟨bx,_,_,_,hbx,_⟩:=(hb.mv J).ex;calc(cL p CS dx _ _ rb (J _ _ hp) T.cl T.nb rb (cW b bx _ rb hbx rb (Kc b t as ts z.r z.w z.aA z.aN z.bi z.bj rb (hb.mv J) (J _ _ ht) (hL.mv J) dZ (λb' H5 s5 hb'=>?_))));let Aw:=J.trans s5;calc(cL p CS dx _ _ rb (Aw _ _ hp) T.cl T.ng rb (aM _ rb (bH z.bag rb (am (aJ t6)) (λx ex n1 n2 n3=>?_))));rw[Ua]at Uc;rw[Ub]at Fj;calc⟨x,ex,b',pr',pp',z.bag.drop m,by rw[pY];rfl,au,λH6 k6 e6=>⟨rb,?_⟩⟩;let⟨s6,A6⟩:=Fi (z:=Nh z turn size ts l pt) n1 n2 k6 (by unfold Nh;simp only;rw[hm];show e6) hb' (by unfold Nh;simp only;rw[hm];show s5 _ _ (s4 _ _ Uc)) (by unfold Nh;simp only;rw[hgp];show s5 _ _ Fj);show q x H6 (Aw.trans s6) A6
theorem Pg:∀{cs ds l:List Nat},cs.map pI=ds.map pI->o_ l cs=o_ l ds
 | [],[],_,_=>rfl
 | [],_::_,_,h=>by simp at h
 | _::_,[],_,h=>by simp at h
 | c::cs,d::ds,l,h=>by
  rw[ce,ce]at h;injection h with h1 h2;unfold o_;rw[show fV c=fV d from h1];split;.show Pg h2
  .rfl
def aii {c d:Nat}(h:pI c=pI d)(hd:d<128):c<128:=by unfold pI at h;split at h <;> split at h <;> lia
theorem abP:∀{cs ds:List Nat},cs.map pI=ds.map pI->(∀d∈ds,d<128)->∀c∈cs,c<128
 | [],_,_,_,c,hc=>by cases hc
 | a::cs,[],h,_,_,_=>by simp at h
 | a::cs,d::ds,h,hd,c,hc=>by
  rw[ce,ce]at h;injection h with h1 h2;rcases b9.mp hc with e|e;.subst e;show aii h1 (hd d bX)
  .show abP h2 (λx hx=>hd x (bq _ hx)) c e
noncomputable def QZ (z:Std)(turn:Nat)(l m:List Nat):Std:={z with racks:=z.racks.set turn (dh (dh m++z.bag.take l.length)),bag:=z.bag.drop l.length++dh l}
def Ye (C CS:Addr):Sp:=λvs H Q _=>∃(p:Addr) (z:Std) (turn:Nat) (l m:List Nat),vs=[.ref p,.int turn,.str (S l)]/\gP C CS H p z/\m8 z/\turn<z.racks.length/\l.length<=7/\(∀c∈l,pX c)/\o_ (z.racks.getD turn []) l=some m/\l.length<=z.bag.length/\
 ∀j H',aD H H'->gP C CS H' j (QZ z turn l m)->Q (.ref j) H'
def Ni {C CS CL f0:Addr}{eV:FuncData}(D:aO K mg "behind_swap" rD ["stand","turn","tiles"])(bC:mg "len"=none)(afO:∃t,t≠0/\mg "BLANK"=some (.str (S [63]) t))(T:tR K CS)(yt:mg "Stand"=some (.ref CS))(Ay:Mk K CS f0)(Az:cB P w K mg base dH 1 f0 eV ["self","board","racks","bag","points"] (G_ CS))(A_:bT K eV ["self","board","racks","bag","points"] [])(vL:DefX P w K mg base "left_of" 3 ["rack","signs"] (KZ CL))(qx:cu P w K mg base "in_order" 1 ["tiles"] QX)(vh:cu P w K mg base "exchanged" 1 ["things","place","thing"] T6):cu P w K mg base "behind_swap" 10 ["stand","turn","tiles"] (Ye C CS):=by
 calc D.dM nO (λf bN A outer s H vs Q E I h=>?_);let⟨p,z,turn,l,m,rfl,A0,Z,F,hl7,hlt,K8,SM,q⟩:=h;let⟨dx,b,pr,pp,hp,hb,G,hpp⟩:=A0.ex;let hg:z.racks.getD turn []=z.racks[turn]:=by rw[ap,ae F];rfl
 rw[hg]at K8;let⟨k7,kt⟩:=Z.r7 _ (a9 F);let hll:=uz K8;let hl7':(dh m).length<=7:=by rw[jZ];lia
 let hb6:=Z.b6;let n4:=Z.n4;calc(aM _ (aB (aX (i:=3) nO.nd rb (Or.inl rb) (oO vL I.mono rb (Z7 (S:=λ_=>True)) (ah1 2 (ah0 bF (afv aG rb) aZ (λ_ _=>rfl)) afO rb (Or.inl rb) ue uj rb rb rb))) (aB (aX (i:=4) nO.nd rb (Or.inl rb) (aW dw ue bC aE (aj bG ao))) (aB (cJ (bU uM (aW dw ue bC aE (aj (cg aG rb) ao)) dI (bO _)) vC bR) (aB (aX (i:=5) nO.nd rb (Or.inl rb) (bK qx I.mono rb (aj (aL kZ bJ (fD vQ (cg aG rb) ji (fG dI))) ao))) (aB (aX (i:=6) nO.nd rb (Or.inl rb) (aL kZ (fD vQ (cg aG rb) (fG dI) ji) (bK qx I.mono rb (aj bG ao)))) (aF (bD (rM Ay Az I.mono rb yt A_ .nil dO (aj (cg aG rb) (aj (bK vh I.mono rb (aj (cg aG rb) (aj aZ (aj fj ao)))) (aj fU (aj (cg aG rb) ao)))))))))))) ?_);calc⟨True.intro,cL p CS dx _ _ rb hp T.cl T.nr rb (bA pr _ _ (.str (S z.racks[turn])) rb rb (aU.of G) (aV (j:=turn) (oK (ae F))) (bH l rb t6 (λl' el=>?_)))⟩;let cU:l'.length=l.length:=by have:=congrArg List.length el;simpa using this
 let J:=T8 (Pg el ▸ K8:o_ z.racks[turn] l'=some m);calc(BJ (z.racks[turn]) l' rb t6 t6 (abP el (λd hd=>(hlt d hd).lt)) (λt e=>?_) (λleft e ws H1 s1 pm pw=>?_));.rw[J]at e;cases e
 rw[J]at e;cases e;rw[Ax pm pw];calc(bH l rb (am (aJ t6)) ?_);calc(cL p CS dx _ _ rb (s1 _ _ hp) T.cl T.ng rb (bH z.bag rb (am (aJ t6)) (aK _ _ rb rb (bh false (by simp;lia) (cM ?_)))));calc(cL p CS dx _ _ rb (s1 _ _ hp) T.cl T.ng rb (aM _ rb (bH z.bag rb (am (aJ t6)) (aQ (dh m) _ rb rb ?_ (bH (dh m++z.bag.take l.length) ?_ ?_ (λH2 s2=>?_))))));.rw[rT,ay];show am (aJ t6)
 .rw[rT];rfl
 .rw[av,ay];lia
 let gO:=s1.trans s2;calc(cL p CS dx _ _ rb (gO _ _ hp) T.cl T.ng rb (aM _ rb (bH z.bag rb (am (aJ t6)) (bH l rb t6 (λH3 s3=>(aQ _ (dh l) rb rb ?_ ?_))))));.rw[pY,bv,jZ];show am (aJ t6)
 let O:=gO.trans s3;calc(cL p CS dx _ _ rb (O _ _ hp) T.cl T.nb rb (cL p CS dx _ _ rb (O _ _ hp) T.cl T.nr rb (bA pr _ turn _ rb (O _ _ G) (by rw[aa];show F) (by rw[aa];lia) (λpr' H4 s4 Uc=>?_))));let Y:=O.trans s4;calc(cL p CS dx _ _ rb (Y _ _ hp) T.cl T.np rb (λx ex n1 n2 n3=>?_));rw[Ua]at Uc;calc⟨x,ex,b,pr',pp,z.bag.drop l.length++dh l,by rw[pY];rfl,au,λH6 k6 e6=>⟨rb,?_⟩⟩;let⟨s6,A6⟩:=Fi (z:=QZ z turn l m) n1 n2 k6 e6 (hb.mv Y) Uc (Y _ _ hpp);show q x H6 (Y.trans s6) A6
structure Gm where
 sts:List Std
 done:List (List Nat)
 ws:List (List Nat)
 kvs:List (Key×V)
 bn:Int
 bm:Int
 size:Nat
structure tU (K:W.Frag)(C:Addr):Prop where
 cl:Cls K C
 nk:jh K C "book"
 nw:jh K C "worths"
 nn:jh K C "bonus"
 nz:jh K C "size"
 ns:jh K C "stands"
 nd:jh K C "done"
structure jq (C CS:Addr)(H:Hp)(as:List Addr)(zs:List Std):Prop where
 len:as.length=zs.length
 at_:∀(i:Nat) (a:Addr) (z:Std),as[i]?=some a->zs[i]?=some z->gP C CS H a z
def jq.mv {C CS:Addr}{H H':Hp}{as:List Addr}{zs:List Std}(h:jq C CS H as zs)(s:aD H H'):jq C CS H' as zs:=⟨h.len,λi a z h1 h2=>(h.at_ i a z h1 h2).mv s⟩
def jq.last {C CS:Addr}{H:Hp}{as:List Addr}{zs:List Std}{z:Std}(h:jq C CS H as (zs++[z])):∃bs a,as=bs++[a]/\gP C CS H a z:=by
 let hl:=h.len;rw[av]at hl;let j:as≠[]:=λe=>by subst e;simp at hl
 calc(eU as.dropLast (as.getLast j) ((r_ j).symm) (h.at_ zs.length _ z ?_ t7));rw[List.getLast_eq_getElem,ae (by simp at hl;lia)];congr 1;simp at hl;simp[hl]
structure jk (C CS CB CG:Addr)(H:Hp)(g ps pd:Addr)(G:Gm):Prop where
 ex:∃dx k kd d pb,H g=some (.ins CG dx [("book",.ref k),("worths",.ref d),("bonus",.ref pb),("size",.int G.size),("stands",.ref ps),("done",.ref pd)])/\iC CB H k kd G.ws/\H d=some (.dK G.kvs)/\H pb=some (.tup [.int G.bn,.int G.bm])
 st:∃as,H ps=some (.lst (as.map V.ref))/\jq C CS H as G.sts
 dn:H pd=some (.lst (Ts G.done))
def jk.mv {C CS CB CG:Addr}{H H':Hp}{g ps pd:Addr}{G:Gm}(A:jk C CS CB CG H g ps pd G)(s:aD H H'):jk C CS CB CG H' g ps pd G:=by obtain⟨⟨dx,k,kd,d,pb,h1,h2,h3,h4⟩,⟨as,h5,j⟩,h7⟩:=A;show⟨(Kf dx k kd d pb (s _ _ h1) (h2.mv s) (s _ _ h3) (s _ _ h4)),(aM as (s _ _ h5) (j.mv s)),s _ _ h7⟩
def yu {bs:List Addr}{a:Addr}:rH ((bs++[a]).map V.ref) (-1)=some (.ref a):=by rw[cq];show Ij _ _
def pA (C CS CB CG:Addr)(R:Hp->Std->VK->Prop):Sp:=λvs H Q _=>∃(g ps pd:Addr) (G:Gm) (zs:List Std) (z:Std),vs=[.ref g]/\jk C CS CB CG H g ps pd G/\G.sts=zs++[z]/\R H z Q
def Ud (C:Addr)(H:Hp)(z:Std)(Q:VK):Prop:=∀b,cX C H b z.r z.w z.aA z.aN z.bi z.bj->Q (.ref b) H
def Fl (H:Hp)(z:Std)(Q:VK):Prop:=∀p,H p=some (.tup (Ts z.racks))->Q (.ref p) H
def Z9 (H:Hp)(z:Std)(Q:VK):Prop:=Q (.str (S z.bag)) H
def aij (H:Hp)(z:Std)(Q:VK):Prop:=∀p,H p=some (.tup (z.iD.map V.int))->Q (.ref p) H
def Ue {C CS CB CG f:Addr}{fd:FuncData}(F:fu K "board_now" "Game.board_now" je f fd)(T:tU K CG)(TS:tR K CS):cB P w K mg base dH 1 f fd ["self"] (pA C CS CB CG (Ud C)):=by calc F.dM Hq (λbN A outer s H vs Q E O h=>?_);let⟨g,ps,pd,G,zs,z,rfl,J,hz,q⟩:=h;obtain⟨⟨dx,k,kd,d,pb,h1,h2,h3,h4⟩,⟨as,h5,j⟩,h7⟩:=J;rw[hz]at j;let⟨bs,a,rfl,I⟩:=j.last;let⟨D,b,pr,pp,e1,e2,e3,e4⟩:=I.ex;calc(aM _ (aF (bD (cg (bf iQ (cg aG rb) (wH sI aq) (λ_ _=>rfl)) rb))) ?_);show(cL g CG dx _ _ rb h1 T.cl T.ns rb (aM _ rb (bA ps _ _ (.ref a) rb rb (bI.of h5) yu (cL a CS D _ _ rb e1 TS.cl TS.nb rb (q b e2)))))
def Ug {C CS CB CG f:Addr}{fd:FuncData}(F:fu K "racks_now" "Game.racks_now" jf f fd)(T:tU K CG)(TS:tR K CS):cB P w K mg base dH 1 f fd ["self"] (pA C CS CB CG Fl):=by calc F.dM Hr (λbN A outer s H vs Q E O h=>?_);let⟨g,ps,pd,G,zs,z,rfl,J,hz,q⟩:=h;obtain⟨⟨dx,k,kd,d,pb,h1,h2,h3,h4⟩,⟨as,h5,j⟩,h7⟩:=J;rw[hz]at j;let⟨bs,a,rfl,I⟩:=j.last;let⟨D,b,pr,pp,e1,e2,e3,e4⟩:=I.ex;calc(aM _ (aF (bD (cg (bf iQ (cg aG rb) (wH sI aq) (λ_ _=>rfl)) rb))) ?_);show(cL g CG dx _ _ rb h1 T.cl T.ns rb (aM _ rb (bA ps _ _ (.ref a) rb rb (bI.of h5) yu (cL a CS D _ _ rb e1 TS.cl TS.nr rb (q pr e3)))))
def Z_ {C CS CB CG f:Addr}{fd:FuncData}(F:fu K "bag_now" "Game.bag_now" jL f fd)(T:tU K CG)(TS:tR K CS):cB P w K mg base dH 1 f fd ["self"] (pA C CS CB CG Z9):=by calc F.dM Ko (λbN A outer s H vs Q E O h=>?_);let⟨g,ps,pd,G,zs,z,rfl,J,hz,q⟩:=h;obtain⟨⟨dx,k,kd,d,pb,h1,h2,h3,h4⟩,⟨as,h5,j⟩,h7⟩:=J;rw[hz]at j;let⟨bs,a,rfl,I⟩:=j.last;let⟨D,b,pr,pp,e1,e2,e3,e4⟩:=I.ex;calc(aM _ (aF (bD (cg (bf iQ (cg aG rb) (wH sI aq) (λ_ _=>rfl)) rb))) ?_);show(cL g CG dx _ _ rb h1 T.cl T.ns rb (aM _ rb (bA ps _ _ (.ref a) rb rb (bI.of h5) yu (cL a CS D _ _ rb e1 TS.cl TS.ng rb q))))
def Qp {C CS CB CG f:Addr}{fd:FuncData}(F:fu K "points_now" "Game.points_now" iH f fd)(T:tU K CG)(TS:tR K CS):cB P w K mg base dH 1 f fd ["self"] (pA C CS CB CG aij):=by calc F.dM Es (λbN A outer s H vs Q E O h=>?_);let⟨g,ps,pd,G,zs,z,rfl,J,hz,q⟩:=h;obtain⟨⟨dx,k,kd,d,pb,h1,h2,h3,h4⟩,⟨as,h5,j⟩,h7⟩:=J;rw[hz]at j;let⟨bs,a,rfl,I⟩:=j.last;let⟨D,b,pr,pp,e1,e2,e3,e4⟩:=I.ex;calc(aM _ (aF (bD (cg (bf iQ (cg aG rb) (wH sI aq) (λ_ _=>rfl)) rb))) ?_);show(cL g CG dx _ _ rb h1 T.cl T.ns rb (aM _ rb (bA ps _ _ (.ref a) rb rb (bI.of h5) yu (cL a CS D _ _ rb e1 TS.cl TS.np rb (q pp e4)))))
theorem d_.K_ {H:Hp}:∀{ls:AA},(∀l∈ls,∀c∈l,c<128)->d_ K H 1 (ls.map Dt.str) (Ts ls)
 | [],_=>.nil
 | l::ls,h=>.cons (.str l (h l bX)) (d_.K_ λD j=>h D (bq _ j))
def Nj (C CS CB CG:Addr):Sp:=λvs H Q _=>∃(g ps pd:Addr) (G:Gm) (zs:List Std) (z:Std),vs=[.ref g]/\jk C CS CB CG H g ps pd G/\G.sts=zs++[z]/\m8 z/\Q (.int ((G.done.length%z.racks.length:Nat):Int)) H
def afP {C CS CB CG f f1:Addr}{fd dY:FuncData}(F:fu K "turn" "Game.turn" mO f fd)(O:tU K CG)(D:mg "len"=none)(I:Meth K CG "racks_now" f1)(g_:cB P w K mg base dH 1 f1 dY ["self"] (pA C CS CB CG Fl))(J:bT K dY ["self"] []):cB P w K mg base dH 2 f fd ["self"] (Nj C CS CB CG):=by
 calc F.dM Sg (λbN A outer s H vs Q E Y h=>?_);let⟨g,ps,pd,G,zs,z,rfl,j,hz,Z,q⟩:=h;let⟨dx,k,kd,d,pb,h1,h2,h3,h4⟩:=j.ex;let h7:=j.dn;let n1:=Z.n1;calc(aM _ (aF (bD (aL b_ (aW bZ ue D aE (aj (cg aG rb) ao)) (aW bZ ue D aE (aj (dX aG O.cl I g_ Y.mono J .nil dO) ao))))) ?_);refine(cL g CG dx _ _ rb h1 O.cl O.nd rb (aK pd _ rb (.inl (bI.of h7)) (cW g dx _ rb h1 rb (oZ g ps pd G zs z rb j hz (λp hp=>(aK p _ rb (.inr (aU.of hp)) (aQ _ _ rb rb ?_ ?_)))))))
 .show (0:Int)<_;rw[aa];lia
 .rw[aa,aa];have:((G.done.length:Int)%(z.racks.length:Int))=((G.done.length%z.racks.length:Nat):Int):=by lia
  show Q (.int ((G.done.length:Int)%(z.racks.length:Int))) H;rw[this];show q
def H_ (ps pd:Addr)(H H':Hp):Prop:=∀a o,H a=some o->a≠ps->a≠pd->H' a=some o
def j_ {H:Hp}{a p:Addr}{xs:List V}{o:HO}(h:H p=some (.lst xs))(h':H a=some o)(d:∀ys,o≠.lst ys):a≠p:=λe=>by subst e;rw[h]at h';show d xs (bP h').symm
def cX.k2 {C:Addr}{H H':Hp}{p ps pd:Addr}{xs ys:List V}{r w:Nat}{aA aN:AA}{i j:Nat}(B:cX C H p r w aA aN i j)(s:H_ ps pd H H')(h1:H ps=some (.lst xs))(h2:H pd=some (.lst ys)):cX C H' p r w aA aN i j:=by obtain⟨⟨dx,pr,pm,pb,a,b,c,d⟩,o⟩:=B;let k:∀a o,H a=some o->(∀ys,o≠HO.lst ys)->H' a=some o:=λa o h n=>s a o h (j_ h1 h n) (j_ h2 h n);show⟨(gC dx pr pm pb (k _ _ a (λ_ z=>nomatch z)) (k _ _ b (λ_ z=>nomatch z)) (k _ _ c (λ_ z=>nomatch z)) (k _ _ d (λ_ z=>nomatch z))),o⟩
def gP.k2 {C CS:Addr}{H H':Hp}{p ps pd:Addr}{xs ys:List V}{z:Std}(A:gP C CS H p z)(s:H_ ps pd H H')(h1:H ps=some (.lst xs))(h2:H pd=some (.lst ys)):gP C CS H' p z:=by let⟨dx,b,pr,pp,a1,a2,a3,a4⟩:=A.ex;let k:∀a o,H a=some o->(∀ys,o≠HO.lst ys)->H' a=some o:=λa o h n=>s a o h (j_ h1 h n) (j_ h2 h n);show⟨dx,b,pr,pp,k _ _ a1 (λ_ z=>nomatch z),a2.k2 s h1 h2,k _ _ a3 (λ_ z=>nomatch z),k _ _ a4 (λ_ z=>nomatch z)⟩
def iC.k2 {C:Addr}{H H':Hp}{p d ps pd:Addr}{xs ys:List V}{ws:AA}(B:iC C H p d ws)(s:H_ ps pd H H')(h1:H ps=some (.lst xs))(h2:H pd=some (.lst ys)):iC C H' p d ws:=by let k:∀a o,H a=some o->(∀ys,o≠HO.lst ys)->H' a=some o:=λa o h n=>s a o h (j_ h1 h n) (j_ h2 h n);show⟨let ⟨dx,e⟩:=B.ob;⟨dx,k _ _ e (λ_ z=>nomatch z)⟩,k _ _ B.dc (λ_ z=>nomatch z),B.nd,B.az⟩
def jk.put {C CS CB CG:Addr}{H H':Hp}{g ps pd:Addr}{G:Gm}{zs:List Std}{dn:AA}{as:List Addr}(A:jk C CS CB CG H g ps pd G)(s:H_ ps pd H H')(h1:H' ps=some (.lst (as.map V.ref)))(hs:jq C CS H' as zs)(h2:H' pd=some (.lst (Ts dn))):jk C CS CB CG H' g ps pd {G with sts:=zs,done:=dn}:=by obtain⟨⟨dx,k,kd,d,pb,a1,a2,a3,a4⟩,⟨bs,a5,_⟩,a7⟩:=A;let j:∀a o,H a=some o->(∀ys,o≠HO.lst ys)->H' a=some o:=λa o h n=>s a o h (j_ a5 h n) (j_ a7 h n);show⟨(Kf dx k kd d pb (j _ _ a1 (λ_ z=>nomatch z)) (a2.k2 s a5 a7) (j _ _ a3 (λ_ z=>nomatch z)) (j _ _ a4 (λ_ z=>nomatch z))),(aM as h1 hs),h2⟩
def afQ {as:List Addr}{ls:AA}(h:ls≠[]):as.map V.ref≠Ts ls:=λe=>by
 cases ls with
 | nil=>show h rfl
 | cons l ls=>
  cases as with
  | nil=>cases e
  | cons a as=>cases e
def Hf (G:Gm)(z:Std):Nat:=(((G.done.length:Int)-1)%(z.racks.length:Int)).toNat
noncomputable def zq (G:Gm)(z:Std):Bool:=decide (G.done.drop (G.done.length-2*z.racks.length)=List.replicate (2*z.racks.length) i_)||(decide (G.done.drop (G.done.length-1)=[oU])&&(decide (z.bag=[])&&decide (z.racks.getD (Hf G z) []=[])))
def Uh {xs:List V}{k:Nat}(j:1<=k):jo xs (some (-(k:Int))) none=xs.drop (xs.length-k):=by
 let e:HT.dj xs.length 0 (some (-(k:Int)))=xs.length-k:=by show (if -(k:Int)<0 then (-(k:Int)+(xs.length:Int)).toNat else _)=_;rw[if_pos t6];lia
 unfold jo;rw[e,HT.uf,ck (by rw[bv];lia)]
def Yg (ls:AA)(n:Nat):(Ts ls).drop n=Ts (ls.drop n):=by simp only[Ts,sr]
def str_inj {as bs:AA}:Dt.lst (as.map Dt.str)=Dt.lst (bs.map Dt.str)↔as=bs:=by
 constructor
 .intro h;injection h with h;show(List.map_inj_right (λa b e=>by injection e)).mp h
 .rintro rfl;rfl
def Yh {p q:Prop} [Decidable p] [Decidable q] (h:p↔q):decide p=decide q:=by
 by_cases hp:p;.rw[aw hp,aw (h.mp hp)]
 .rw[ah hp,ah λz=>hp (h.mpr z)]
def Ui (C CS CB CG:Addr):Sp:=λvs H Q _=>∃(g ps pd:Addr) (G:Gm) (zs:List Std) (z:Std),vs=[.ref g]/\jk C CS CB CG H g ps pd G/\G.sts=zs++[z]/\m8 z/\(∀l∈G.done,∀c∈l,c<128)/\G.done.length<=500/\∀H',aD H H'->Q (.bl (zq G z)) H'
open Classical in
def aac {C CS CB CG f f1 f2:Addr}{fd dY fd2:FuncData}(F:fu K "is_over" "Game.is_over" jM f fd)(O:tU K CG)(bC:mg "len"=none)(gZ:Meth K CG "racks_now" f1)(g_:cB P w K mg base dH 1 f1 dY ["self"] (pA C CS CB CG Fl))(h_:bT K dY ["self"] [])(nP:Meth K CG "bag_now" f2)(nQ:cB P w K mg base dH 1 f2 fd2 ["self"] (pA C CS CB CG Z9))(nR:bT K fd2 ["self"] []):cB P w K mg base dH 4 f fd ["self"] (Ui C CS CB CG):=by
 calc F.dM o8 (λbN A outer s H vs Q E hr h=>?_);let⟨g,ps,pd,G,zs,z,rfl,A0,hz,Z,I,h5,q⟩:=h;let⟨dx,k,kd,d,pb,h1,h2,h3,h4⟩:=A0.ex;let h7:=A0.dn;let n1:=Z.n1;let n4:=Z.n4;calc(aM _ (aB (aX (i:=1) o8.nd rb (Or.inl rb) (dX aG O.cl gZ g_ hr.mono h_ .nil dO)) (aB (aX (i:=2) o8.nd rb (Or.inl rb) (aL jE aq (aW bZ ue bC aE (aj aZ ao)))) (aB (cJ (bU (J0 hr.units) (fD w5 (cg aG rb) (fG (wH sI bG)) ji) (aL Rp (jU (aj (bL [112,97,115,115] uj) ao)) bG) (bO _)) (aF (bD iY)) bR) (aB (aX (i:=3) o8.nd rb (Or.inl rb) (aL b_ (aL qJ (aW bZ ue bC aE (aj (cg aG rb) ao)) aq) (aW bZ ue bC aE (aj aZ ao)))) (aF (bD (lW (gK (J0 hr.units) (fD w5 (cg aG rb) (fG (wH sI aq)) ji) (jU (aj (bL [108,97,121] uj) ao)) (bO _)) (lW (gK lU (dX aG O.cl nP nQ hr.mono nR .nil dO) (bL [] uj) (bO _)) (j8 (gK lU (bf bF aZ bJ (λ_ _=>rfl)) (bL [] uj) (bO _))))))))))) ?_);calc(cW g dx _ rb h1 rb (oZ g ps pd G zs z rb A0 hz (λpr hpr=>?_)));refine(aK pr _ rb (.inr (aU.of hpr)) (aQ _ _ rb rb ?_ ?_))
 .show YK _ _;rw[aa];show .inl ⟨t9,t9⟩
 rw[aa];let em:(λi j:Int=>V.int (i*j)) 2 (z.racks.length:Int)=V.int ((2*z.racks.length:Nat):Int):=by show V.int _=V.int _;congr 1
 rw[em];generalize hk:2*z.racks.length=k2;calc(cL g CG dx _ _ rb h1 O.cl O.nd rb (aM _ rb (aM _ rb (aK pd _ rb (bI.of h7) (λp1 e1=>?_)))));rw[Uh t6,Yg,aa];let sx1:aD H (upd H p1 (.lst (Ts (G.done.drop (G.done.length-k2))))):=aD.upd e1;let Xw:upd H p1 (.lst (Ts (G.done.drop (G.done.length-k2)))) p1=some (.lst (Ts (G.done.drop (G.done.length-k2)))):=au;generalize upd H p1 (.lst (Ts (G.done.drop (G.done.length-k2))))=H1 at sx1 Xw ⊢;calc⟨zsz 1,λp2 e2=>?_⟩;let J:aD H1 (upd H1 p2 (HO.lst [V.str (S [112,97,115,115])])):=aD.upd e2;let ex2:upd H1 p2 (HO.lst [V.str (S [112,97,115,115])]) p2=some (.lst (Ts [i_])):=au;generalize upd H1 p2 (HO.lst [V.str (S [112,97,115,115])])=H2 at J ex2 ⊢;refine(G4 p2 (k2:Int) (Ts [i_]) rb rb ex2 t6 t6 ?_ (λp3 e3=>?_))
 .show 1*_<=sizeLine;show am (aJ (by simp;lia))
 let er:(List.replicate (k2:Int).toNat (Ts [i_])).flatten=Ts (List.replicate k2 i_):=by rw[c9];simp[Ts]
 let akl:=J _ _ Xw;let gO:=sx1.trans J;rw[er];let sx3:aD H2 (upd H2 p3 (.lst (Ts (List.replicate k2 i_)))):=aD.upd e3;let ex3:upd H2 p3 (.lst (Ts (List.replicate k2 i_))) p3=some (.lst (Ts (List.replicate k2 i_))):=au;let aeG:=sx3 _ _ akl;let gM:=gO.trans sx3;generalize upd H2 p3 (.lst (Ts (List.replicate k2 i_)))=H3 at sx3 ex3 aeG gM ⊢;calc(cW 2 (.lst ((G.done.drop (G.done.length-k2)).map Dt.str)) (.lst ((List.replicate k2 i_).map Dt.str)) t9 (.lst (bI.of aeG) (d_.K_ λl hl=>I l (eI hl))) (.lst (bI.of ex3) (d_.K_ λl hl=>?_)) (bh _ rb ?_));.rw[List.eq_of_mem_replicate hl];decide
 rw[Yh str_inj];by_cases hp:G.done.drop (G.done.length-k2)=List.replicate k2 i_
 .rw[aw hp];calc cR ?_;have:=q H3 gM;unfold zq at this;rw[hk,aw hp,Bool.true_or]at this;show this
 .rw[ah hp];calc cM ?_;let h13:=gM _ _ h1;let h73:=gM _ _ h7;let Uj:=gM _ _ hpr;refine(cL g CG dx _ _ rb h13 O.cl O.nd rb (aK pd _ rb (.inl (bI.of h73)) (aK _ _ rb rb (aK pr _ rb (.inr (aU.of Uj)) (aQ _ _ rb rb ?_ ?_)))))
  .show (0:Int)<_;rw[aa];lia
  rw[aa,aa];let el:(λi j:Int=>V.int (i%j)) ((G.done.length:Int)-1) (z.racks.length:Int)=V.int ((Hf G z:Nat):Int):=by show V.int _=V.int _;congr 1;unfold Hf;have:=ej ((G.done.length:Int)-1) (b:=(z.racks.length:Int)) t6;lia
  let ll:Hf G z<z.racks.length:=by unfold Hf;have:=ej ((G.done.length:Int)-1) (b:=(z.racks.length:Int)) t6;have:=eQ ((G.done.length:Int)-1) (b:=(z.racks.length:Int)) t6;lia
  rw[el];calc(cL g CG dx _ _ rb h13 O.cl O.nd rb (aM _ rb (aM _ rb (aK pd _ rb (bI.of h73) (λp4 e4=>?_)))));rw[show (-1:Int)=-((1:Nat):Int) from rb,Uh (ai 1),Yg,aa];let sx4:aD H3 (upd H3 p4 (.lst (Ts (G.done.drop (G.done.length-1))))):=aD.upd e4;let ex4:upd H3 p4 (.lst (Ts (G.done.drop (G.done.length-1)))) p4=some (.lst (Ts (G.done.drop (G.done.length-1)))):=au;generalize upd H3 p4 (.lst (Ts (G.done.drop (G.done.length-1))))=H4 at sx4 ex4 ⊢;calc⟨zsz 1,λp5 e5=>?_⟩;let Y:aD H4 (upd H4 p5 (HO.lst [V.str (S [108,97,121])])):=aD.upd e5;let ex5:upd H4 p5 (HO.lst [V.str (S [108,97,121])]) p5=some (.lst (Ts [oU])):=au;generalize upd H4 p5 (HO.lst [V.str (S [108,97,121])])=H5 at Y ex5 ⊢;let Aw:=(gM.trans sx4).trans Y;calc(cW 2 (.lst ((G.done.drop (G.done.length-1)).map Dt.str)) (.lst ([oU].map Dt.str)) t9 (.lst (bI.of (Y _ _ ex4)) (d_.K_ λl hl=>I l (eI hl))) (.lst (bI.of ex5) (d_.K_ t9)) (bh _ rb ?_));rw[Yh str_inj];let D:=q H5 Aw;unfold zq at D;rw[hk,ah hp,Bool.false_or]at D;by_cases hy:G.done.drop (G.done.length-1)=[oU]
  .rw[aw hy]at D ⊢;rw[Bool.true_and]at D;calc cR (cW g dx _ rb (Aw _ _ h1) rb (oZ g ps pd G zs z rb (A0.mv Aw) hz (aK z.bag [] rb rb (bh _ rb ?_))));by_cases hb:z.bag=[]
   .rw[aw hb]at D ⊢;rw[Bool.true_and]at D;calc cR (bA pr _ _ (.str (S z.racks[Hf G z])) rb rb (aU.of (Aw _ _ hpr)) (aV (oK (ae ll))) (aK _ [] rb rb ?_));rw[ap,ae ll]at D;show D
   .rw[ah hb]at D ⊢;show cM D
  .rw[ah hy]at D ⊢;show cM D
def fX (G:Gm)(z:Std):Nat:=G.done.length%z.racks.length
structure aik (G:Gm):Prop where
 low:∀l∈G.done,∀c∈l,c<128
 len:G.done.length<=400
 sl:G.sts.length<=500
 wd:WD G.kvs
 wb:WB 1000000 G.kvs
 sz:G.size<=7
inductive Does (G:Gm) (z:Std):fW->Int->Std->Prop
 | lay {ts:List bQ} {l:List Nat} (yw:∀t∈ts,inB z.r z.w t) (h0:0<ts.length) (h7:ts.length<=7) (ri:jm (ts.map kO)=true) (vd:tZ z.aA z.r z.w z.bi z.bj G.ws (z.racks.getD (fX G z) []) ts .ok) (lf:o_ (z.racks.getD (fX G z) []) (ts.map (·.2.2))=some l) :
   Does G z (.lay ts) (TV z.aA z.aN G.kvs ts G.bn G.bm) (Nh z (fX G z) G.size ts l (TV z.aA z.aN G.kvs ts G.bn G.bm))
 | swap {l m:List Nat} (ne:l≠[]) (h7:l.length<=7) (tl:∀c∈l,pX c) (lf:o_ (z.racks.getD (fX G z) []) l=some m) (hb:l.length<=z.bag.length):Does G z (.swap l) 0 (QZ z (fX G z) l m)
 | pass:Does G z .pass 0 z
def ajz {aA:AA}{r w bi bj:Nat}{ws:AA}{cA:List Nat}{ts:List bQ}{v:Vd}(h:tZ aA r w bi bj ws cA ts .ok)(g:tZ aA r w bi bj ws cA ts v):v=.ok:=by
 cases h with
 | ok h1 h2 h3 h4 h5 h=>
  cases g with
  | Dw e=>rw[h1]at e;cases e
  | Dy _ e=>rw[h2]at e;cases e
  | gap _ _ e=>show absurd e.fr (h3 _ _ e.i1 e.i2 e.j1 e.j2)
  | Dz _ _ _ e=>rw[h4]at e;cases e
  | DG _ _ _ _ e=>let⟨l,hl⟩:=h5;rw[hl]at e;cases e
  | nw _ _ _ _ _ e=>rw[h]at e;cases e
  | ok=>rfl
def afR {aA:AA}{r w bi bj:Nat}{ws:AA}{cA:List Nat}{ts:List bQ}(h:tZ aA r w bi bj ws cA ts .ok):(uw ts||ux ts)=true:=by
 cases h with| ok h1 h2 h3 h4 h5 h=>show h2
def adz (d:fW):∀c∈d.name,c<128:=by
 cases d;.show ∀c∈oU,c<128;decide
 .show ∀c∈lN,c<128;decide
 .show ∀c∈i_,c<128;decide
def ail (C CS CB CG:Addr):Sp:=λvs H Q _=>∃(g p ps pd:Addr) (G:Gm) (zs:List Std) (z z':Std) (d:fW) (pt:Int),vs=[.ref g,.ref p]/\jk C CS CB CG H g ps pd G/\G.sts=zs++[z]/\m8 z/\aik G/\K9 H p d/\zq G z=false/\Does G z d pt z'/\
 ∀H',H_ ps pd H H'->jk C CS CB CG H' g ps pd {G with sts:=G.sts++[z'],done:=G.done++[d.name]}->Q (.int pt) H'
def afS {H:Hp}{p:Addr}{d:fW}(h:K9 H p d):∃xs,H p=some (.tup (.str (S d.name)::xs)):=by
 cases d with
 | lay ts=>let⟨t,as,h1,_⟩:=h;show⟨_,h1⟩
 | swap l=>show⟨_,h⟩
 | pass=>show⟨_,h⟩
def jq.snoc {C CS:Addr}{H:Hp}{as:List Addr}{zs:List Std}{a:Addr}{z:Std}(h:jq C CS H as zs)(g:gP C CS H a z):jq C CS H (as++[a]) (zs++[z]):=by
 calc⟨by rw[av,av,h.len];rfl,λi b y e1 e2=>?_⟩;by_cases hi:i<as.length
 .rw[eW hi]at e1;rw[eW (by rw[<-h.len];show hi)]at e2;show h.at_ i b y e1 e2
 .rw[dP t6]at e1;rw[dP (by rw[<-h.len];lia),<-h.len]at e2;let h0:i-as.length=0:=by have:=(al.mp e1).1;simp at this;lia
  rw[h0]at e1 e2;cases e1;cases e2;show g
def jq.k2 {C CS:Addr}{H H':Hp}{ps pd:Addr}{xs ys:List V}{as:List Addr}{zs:List Std}(h:jq C CS H as zs)(s:H_ ps pd H H')(h1:H ps=some (.lst xs))(h2:H pd=some (.lst ys)):jq C CS H' as zs:=⟨h.len,λi a z e1 e2=>(h.at_ i a z e1 e2).k2 s h1 h2⟩
open Classical in
def ajA {C CS CB CG f f1 f2:Addr}{fd dY fd2:FuncData}{c:Tr}(F:fu K "do" "Game.do" pK f fd)(cO:tU K CG)(TS:tR K CS)(uD:Meth K CG "is_over" f1)(uE:cB P w K mg base dH 4 f1 dY ["self"] (Ui C CS CB CG))(uF:bT K dY ["self"] [])(qP:Meth K CG "turn" f2)(qQ:cB P w K mg base dH 2 f2 fd2 ["self"] (Nj C CS CB CG))(qR:bT K fd2 ["self"] [])(abQ:cu P w K mg base "is_deed" 2 ["thing"] abN)(uG:DefX P w K mg base "check_laying" 14 ["board","book","rack","laying"] (M9 K C CB c))(Wq:cu P w K mg base "points_of" 11 ["board","worths","bonus","laying"] (aeF C))(La:cu P w K mg base "behind_laying" 10 ["stand","turn","size","laying","points"] (abO C CS))(Qq:cu P w K mg base "behind_swap" 10 ["stand","turn","tiles"] (Ye C CS)):cB P w K mg base dH 16 f fd ["self","deed"] (ail C CS CB CG):=by
 calc F.dM oH (λbN A outer s H vs Q E hr h=>?_);let⟨g,p,ps,pd,G,zs,z,z',d,pt,rfl,A0,hz,Z,GK,hd,hov,hdo,q⟩:=h;let⟨dx,k,kd,dd,pb,h1,h2,h3,h4⟩:=A0.ex;let⟨as0,h5,h6⟩:=A0.st;let h7:=A0.dn;let n1:=Z.n1;let h6':=h6;rw[hz]at h6';let⟨bs,a,rfl,SA⟩:=h6'.last;let⟨dy,b,pr,pp,e1,e2,e3,e4⟩:=SA.ex;let htn:fX G z<z.racks.length:=tm _ n1;let hg:z.racks.getD (fX G z) []=z.racks[fX G z]:=by rw[ap,ae htn];rfl
 let⟨k7,kt⟩:=Z.r7 _ (a9 htn);calc(aM _ (aB (cJ (fQ (eO (bK abQ hr.mono rb (aj aZ ao)))) vC bR) (aB (cJ (eO (dX aG cO.cl uD uE hr.mono uF .nil dO)) vC bR) (aB (aX (i:=2) oH.nd rb (Or.inl rb) (bf iQ (cg aG rb) (wH sI aq) (λ_ _=>rfl))) (aB (aX (i:=3) oH.nd rb (Or.inl rb) (dX aG cO.cl qP qQ hr.mono qR .nil dO)) (aB (aX (i:=4) oH.nd rb (Or.inl rb) aq) (aB (jj (cJ (bU lU (bf bF aZ aq (λ_ _=>rfl)) (bL [108,97,121] uj) (bO _)) (aB (eE (oO uG hr.mono rb (Z7 (S:=λ_=>True)) (aj (cg bG rb) (aj (cg aG rb) (aj (bf bF (cg bG rb) bJ (λ_ _=>rfl)) (aj (bf bF aZ aq (λ_ _=>rfl)) ao)))))) (aB (aX (i:=4) oH.nd rb (Or.inl rb) (bK Wq hr.mono rb (aj (cg bG rb) (aj (cg aG rb) (aj (cg aG rb) (aj (bf bF aZ aq (λ_ _=>rfl)) ao)))))) (aF (aX (i:=2) oH.nd rb (Or.inl rb) (bK La hr.mono rb (aj bG (aj bJ (aj (cg aG rb) (aj (bf bF aZ aq (λ_ _=>rfl)) (aj dI ao)))))))))) (aF (jj (cJ (bU lU (bf bF aZ aq (λ_ _=>rfl)) (bL [115,119,97,112] uj) (bO _)) (aF (aX (i:=2) oH.nd rb (Or.inl rb) (bK Qq hr.mono rb (aj bG (aj bJ (aj (bf bF aZ aq (λ_ _=>rfl)) ao)))))) bR))))) (aB (eE (gq dE fe fg jT (cg aG rb) (aj bG ao))) (aB (eE (gq dE fe fg jT (cg aG rb) (aj (bf bF aZ aq (λ_ _=>rfl)) ao))) (aF (bD dI)))))))))) ?_);refine(aQ p d rb hd (λl e=>?_) (λH1 s1=>?_))
 .subst e;cases hdo with| swap ne h7 tl lf hb=>show(bY ne t6 tl)
 calc(cW g dx _ rb (s1 _ _ h1) rb (QH g ps pd G zs z rb (A0.mv s1) hz Z GK.low (by have:=GK.len;lia) (λH2 s2=>(bh _ rb ?_))));rw[hov];let O:=s1.trans s2;calc cM (cL g CG dx _ _ rb (O _ _ h1) cO.cl cO.ns rb (aM _ rb (bA ps _ _ (.ref a) rb rb (bI.of (O _ _ h5)) yu ?_)));calc(cW g dx _ rb (O _ _ h1) rb (Kg g ps pd G zs z rb (A0.mv O) hz Z ?_));refine⟨λσ J=>∃D,σ=[some (.ref g),some (.ref p),some (.ref D),some (.int (fX G z:Nat)),some (.int pt)]/\aD H J/\gP C CS J D z',?_,?_⟩
 .let e12:=O _ _ e1;let h12:=O _ _ h1;cases hdo with
  | @lay ts l yw h0 h7' ri vd lf=>
   let⟨t,as,hp,ht,hL⟩:=hd;let I:=O _ _ hp;let hl1:=X4 e2.ok.w9 yw h0 ri (afR vd);rw[hg]at vd;calc(bA p _ _ (.str (S oU)) rb rb (aU.of I) (aV (j:=0) rb) (aK oU oU rb rb (bh _ rb ?_)));rw[aw rfl];refine cR ⟨True.intro,cL a CS dy _ _ rb e12 TS.cl TS.nb rb (cL g CG dx _ _ rb h12 cO.cl cO.nk rb (cL a CS dy _ _ rb e12 TS.cl TS.nr rb (bA pr _ _ (.str (S z.racks[fX G z])) rb rb (aU.of (O _ _ e3)) (aV (oK (ae htn))) (bA p _ _ (.ref t) rb rb (aU.of I) (aV (j:=1) rb) ⟨b,k,kd,G.ws,z.racks[fX G z],.ref t,z.r,z.w,z.aA,z.aN,z.bi,z.bj,rb,e2.mv O,h2.mv O,t6,.inr ⟨t,as,ts,rb,O _ _ ht,hL.mv O,yw,h0,h7',ri,(λv cls dd H' hv hx _=>?_),λ_ J s3=>?_⟩⟩))))⟩
   .have:=ajz vd hv;subst this;show hx
   let Y:=O.trans s3;calc(cL a CS dy _ _ rb (Y _ _ e1) TS.cl TS.nb rb (cL g CG dx _ _ rb (Y _ _ h1) cO.cl cO.nw rb (cL g CG dx _ _ rb (Y _ _ h1) cO.cl cO.nn rb (bA p _ _ (.ref t) rb rb (aU.of (Y _ _ hp)) (aV (j:=1) rb) ⟨b,dd,pb,t,G.kvs,G.bn,G.bm,as,ts,z.r,z.w,z.aA,z.aN,z.bi,z.bj,rb,e2.mv Y,Rd.of (Y _ _ h3),GK.wd,GK.wb,Y _ _ h4,Y _ _ ht,hL.mv Y,yw,h0,h7',hl1,λH4 s4=>?_⟩))));let jc:=Y.trans s4;refine(cL g CG dx _ _ rb (jc _ _ h1) cO.cl cO.nz rb (bA p _ _ (.ref t) rb rb (aU.of (jc _ _ hp)) (aV (j:=1) rb) ⟨a,t,z,fX G z,G.size,_,as,ts,l,rb,SA.mv jc,Z,htn,GK.sz,jc _ _ ht,hL.mv jc,yw,h7',(λu hu=>abI (yw u hu).2.2),lf,λD H5 s5 A5=>(bH D rb (jc.trans s5) A5)⟩))
  | @swap l m ne h7' tl lf hb=>have hp:H p=some (.tup [.str (S lN),.str (S l)]):=hd;let I:=O _ _ hp;calc(bA p _ _ (.str (S lN)) rb rb (aU.of I) (aV (j:=0) rb) (aK lN oU rb rb (bh _ rb ?_)));rw[ah (show ¬lN=oU by decide)];calc cM ⟨λσ J=>∃D,σ=[some (.ref g),some (.ref p),some (.ref D),some (.int (fX G z:Nat)),some (.int 0)]/\aD H J/\gP C CS J D (QZ z (fX G z) l m),?_,λσ J h=>h⟩;calc(bA p _ _ (.str (S lN)) rb rb (aU.of I) (aV (j:=0) rb) (aK lN lN rb rb (bh _ rb ?_)));rw[aw rfl];show cR (bA p _ _ (.str (S l)) rb rb (aU.of I) (aV (j:=1) rb) ⟨a,z,fX G z,l,m,rb,SA.mv O,Z,htn,h7',tl,lf,hb,λD H5 s5 A5=>(bH D rb (O.trans s5) A5)⟩)
  | pass=>have hp:H p=some (.tup [.str (S i_)]):=hd;let I:=O _ _ hp;calc(bA p _ _ (.str (S i_)) rb rb (aU.of I) (aV (j:=0) rb) (aK i_ oU rb rb (bh _ rb ?_)));rw[ah (show ¬i_=oU by decide)];calc cM ⟨λσ J=>∃D,σ=[some (.ref g),some (.ref p),some (.ref D),some (.int (fX G z:Nat)),some (.int 0)]/\aD H J/\gP C CS J D z,?_,λσ J h=>h⟩;calc(bA p _ _ (.str (S i_)) rb rb (aU.of I) (aV (j:=0) rb) (aK i_ lN rb rb (bh _ rb ?_)));rw[ah (show ¬i_=lN by decide)];show cM (bH a rb O (SA.mv O))
 .intro σ J z;let⟨D,rfl,Y,A3⟩:=z;let⟨xs,hn⟩:=afS hd;let h53:=Y _ _ h5;let h73:=Y _ _ h7;let hlz:(bs++[a]).length<=500:=by rw[h6.len];show GK.sl
  calc(Zn g CG dx _ _ rb (Y _ _ h1) cO.cl cO.ns rb (.inl ⟨rb,_,bI.of h53⟩) (d7 ps _ (.ref D) rb rb h53 (aJ (by rw[aa];lia)) ?_));let hgp:g≠ps:=j_ h5 h1 (λ_ z=>nomatch z);let Fj:p≠ps:=j_ h5 hn (λ_ z=>nomatch z);let hpd:pd≠ps:=λe=>by
   subst e;rw[h5]at h7;injection h7 with h7;injection h7 with h7;cases hG:G.done with| nil=>rw[hG]at h7;simp[Ts]at h7| cons l ls=>show afQ (by rw[hG];simp) h7
  let g1:=Y _ _ h1;rw[<-aY (H:=J) (o:=.lst ((bs++[a]).map V.ref++[.ref D])) hgp]at g1;let g7:=h73;rw[<-aY (H:=J) (o:=.lst ((bs++[a]).map V.ref++[.ref D])) hpd]at g7;let gn:=Y _ _ hn;rw[<-aY (H:=J) (o:=.lst ((bs++[a]).map V.ref++[.ref D])) Fj]at gn;calc(Zn g CG dx _ _ rb g1 cO.cl cO.nd rb (.inl ⟨rb,_,bI.of g7⟩) (bA p _ _ (.str (S d.name)) rb rb (aU.of gn) (aV (j:=0) rb) (d7 pd _ (.str (S d.name)) rb rb g7 (aJ (by rw[aa];have:=GK.len;lia)) ?_)));let kk:H_ ps pd H (upd (upd J ps (.lst ((bs++[a]).map V.ref++[.ref D]))) pd (.lst (Ts G.done++[.str (S d.name)]))):=λx o e m1 m2=>by rw[aY m2,aY m1];show Y _ _ e
  let k3:H_ ps pd J (upd (upd J ps (.lst ((bs++[a]).map V.ref++[.ref D]))) pd (.lst (Ts G.done++[.str (S d.name)]))):=λx o e m1 m2=>by rw[aY m2,aY m1];show e
  calc q _ kk (A0.put kk (as:=bs++[a]++[D]) ?_ ((h6.k2 kk h5 h7).snoc (A3.k2 k3 h53 h73)) ?_);.rw[aY hpd.symm,au];simp
  .rw[au];simp[Ts]
def abR (C:Addr):Sp:=λvs H Q _=>∃(p d:Addr) (ws:AA),vs=[.ref p]/\iC C H p d ws/\ws.length<64/\
 ∀(x j:Addr) (D:AA) (H':Hp),aD H H'->H x=none->H j=none->iC C H' x j D->(∀y,y∈D↔y∈ws)->Q (.ref x) H'
def afT {f C f0 f1:Addr}{fd eV dY:FuncData}(F:fu K "twin" "Book.twin" mU f fd)(Fe:uy K C)(Nk:mg "Book"=some (.ref C))(Uk:Mk K C f0)(Ul:cB P w K mg base dH 3 f0 eV ["self","words"] (Tj K C))(Um:bT K eV ["self","words"] [])(Uo:Meth K C "words" f1)(Uq:cB P w K mg base dH 1 f1 dY ["self"] (XR C))(Ur:bT K dY ["self"] []):cB P w K mg base dH 5 f fd ["self"] (abR C):=by
 calc F.dM Sh (λbN A outer s H vs Q E Y h=>?_);let⟨p,d,ws,rfl,B,J,q⟩:=h;let⟨dx,hp⟩:=B.ob;calc(aM _ (aF (bD (rM Uk Ul Y.mono rb Nk Um .nil dO (aj (dX aG Fe.cl Uo Uq Y.mono Ur .nil dO) ao)))) ?_);calc(cW p dx _ rb hp rb (cW p d ws rb B J (λt us H1 s1 ht G pm rs=>?_)));intro x j nx I xU;let s2:aD H1 (upd (upd H1 j (HO.own x)) x (HO.ins C j [])):=λb o e=>by rw[aY (bB e nx),aY (bB e I)];show e
 calc(iy x j t us rb au (.inr (aU.of (s2 _ _ G))) (λl hl=>B.az l (pm.mem_iff.mp hl)) (by rw[pm.length_eq];lia) (λZ Ba O D BA hm cU kp=>⟨rb,?_⟩));let s3:aD H1 O:=λb o e=>kp b o (s2 b o e) (bB e nx);calc q x Z Ba O (s1.trans s3) (s1.free nx) (s1.free ?_) BA (λy=>(hm y).trans pm.mem_iff);cases e:H1 Z with| none=>rfl| some o=>rw[s2 _ _ e]at D;cases D
def Yi (C CS CB CG:Addr):Sp:=λvs H Q _=>∃(g dx b k kd d pb pr:Addr) (ws:AA) (kvs:List (Key×V)) (n m:Int) (size r w:Nat) (aA aN:AA) (bi bj:Nat) (racks:AA) (bag:List Nat),vs=[.ref g,.ref b,.ref k,.ref d,.ref pb,.int size,.ref pr,.str (S bag)]/\H g=some (.ins CG dx [])/\cX C H b r w aA aN bi bj/\iC CB H k kd ws/\ws.length<64/\H d=some (.dK kvs)/\H pb=some (.tup [.int n,.int m])/\H pr=some (.tup (Ts racks))/\1<=racks.length/\racks.length<=4/\(∀l∈racks,l.length<64)/\
 ∀(ps pd:Addr) (j:AA) (H':Hp),(∀a o,H a=some o->a≠g->H' a=some o)->(∀y,y∈j↔y∈ws)->H ps=none->H pd=none->jk C CS CB CG H' g ps pd ⟨[⟨r,w,aA,aN,bi,bj,racks.map dh,bag,List.replicate racks.length 0⟩],[],j,kvs,n,m,size⟩->Q .non H'
def Us {C CS CB CG f f0 f1:Addr}{fd eV dY:FuncData}(F:fu K "__init__" "Game.__init__" mL f fd)(T:tU K CG)(Fe:uy K CB)(Fo:mg "dict"=none)(cI:mg "tuple"=none)(bC:mg "len"=none)(Ws:Meth K CB "twin" f1)(Wt:cB P w K mg base dH 5 f1 dY ["self"] (abR CB))(Wu:bT K dY ["self"] [])(yt:mg "Stand"=some (.ref CS))(Ay:Mk K CS f0)(Az:cB P w K mg base dH 1 f0 eV ["self","board","racks","bag","points"] (G_ CS))(A_:bT K eV ["self","board","racks","bag","points"] [])(qx:cu P w K mg base "in_order" 1 ["tiles"] QX):cB P w K mg base dH 7 f fd ["self","board","book","worths","bonus","size","racks","bag"] (Yi C CS CB CG):=by
 calc F.dM Er (λbN A outer s H vs Q E hr h=>?_);let⟨g,dx,b,k,kd,d,pb,pr,ws,kvs,n,m,size,r,w,aA,aN,bi,bj,racks,bag,rfl,hg,hB,hK,h64,hd,hpb,hpr,n1,n4,h7,q⟩:=h;let⟨kx,hk⟩:=hK.ob;calc(aM _ (aB (lV aG (dX bG Fe.cl Ws Wt hr.mono Wu .nil dO) rb) (aB (lV aG (gR Zj ue Fo PyProof.Rows.boot_dict (aj bJ ao)) rb) (aB (lV aG dI rb) (aB (lV aG fj rb) (aB (lV aG (jU (aj (rM Ay Az hr.mono rb yt A_ .nil dO (aj aZ (aj (gR iW ue cI c_ (aj (jG rb (ju.of Er.nd ui) (iB fU) (λ_ _ _ _ _=>eG) (λ_ _ _ _ _=>(bK qx hr.mono rb (aj aG ao)))) ao)) (aj jl (aj (aL Xm (dJ (aj aq ao)) (aW bZ ue bC aE (aj fU ao))) ao))))) ao)) rb) (aF (lV aG (jU ao) rb))))))) ?_);calc(cW k kx _ rb hk rb (cW k kd ws rb hK h64 (λk2 kd2 Ba H1 s1 f1 f2 BK hm=>?_)));let g1:=s1 _ _ hg;calc(iy g CG dx _ rb g1 T.cl T.nk (by show 0<1000;decide) ?_);generalize hX:upd H1 g (HO.ins CG dx (iT "book" (V.ref k2) []))=H2;let K2:∀a o,H1 a=some o->a≠g->H2 a=some o:=λa o e ne=>by rw[<-hX,aY ne];show e
 let g2:H2 g=some (.ins CG dx [("book",.ref k2)]):=by rw[<-hX];show au
 let Yj:∀{a:Addr} {o:HO},H a=some o->(∀C' d' fs,o≠.ins C' d' fs)->a≠g:=λe ne z=>by subst z;rw[hg]at e;show ne _ _ _ (bP e).symm
 let dg:d≠g:=Yj hd (λ_ _ _ z=>nomatch z);calc(aK d kvs rb (K2 _ _ (s1 _ _ hd) dg) (λj e2=>?_));let Y:j≠g:=λz=>by subst z;rw[g2]at e2;cases e2
 let g3:upd H2 j (HO.dK kvs) g=some (.ins CG dx [("book",.ref k2)]):=by rw[aY Y.symm];show g2
 let K3:∀a o,H1 a=some o->a≠g->upd H2 j (HO.dK kvs) a=some o:=λa o e ne=>by rw[aY (bB (K2 a o e ne) e2)];show K2 a o e ne
 let d3:upd H2 j (HO.dK kvs) j=some (.dK kvs):=au;let e2H:H j=none:=by
  cases e:H j with| none=>rfl| some o=>rw[K2 _ _ (s1 _ _ e) Y]at e2;cases e2
 generalize upd H2 j (HO.dK kvs)=H3 at g3 K3 d3 ⊢;calc(iy g CG dx _ rb g3 T.cl T.nw (by show 1<1000;decide) ?_);calc(iy g CG dx _ rb au T.cl T.nn (by show 2<1000;decide) ?_);calc(iy g CG dx _ rb au T.cl T.nz (by show 3<1000;decide) ?_);rw[Ww,Ww];generalize hY:upd H3 g (HO.ins CG dx (iT "size" (V.int size) (iT "bonus" (V.ref pb) (iT "worths" (V.ref j) [("book",V.ref k2)]))))=H6;let g6:H6 g=some (.ins CG dx [("book",.ref k2),("worths",.ref j),("bonus",.ref pb),("size",.int size)]):=by rw[<-hY];show au
 let J:∀a o,H1 a=some o->a≠g->H6 a=some o:=λa o e ne=>by rw[<-hY,aY ne];show K3 a o e ne
 let d6:H6 j=some (.dK kvs):=by rw[<-hY,aY Y];show d3
 let prg:pr≠g:=Yj hpr (λ_ _ _ z=>nomatch z);let adA:=J _ _ (s1 _ _ hpr) prg;refine(bH pr rb ⟨_,aU.of adA⟩ (λL hL=>pH (xs:=Ts racks) (λi ys O=>ys=Ts ((racks.take i).map dh)/\O L=some (.lst ys)/\aD H6 O) (bY rb au (aD.upd hL)) (λi ys O _ h=>aU.of (h.2.2 _ _ adA)) ?_ ?_))
 .intro i x ys O hi z;let⟨rfl,Lb,sm⟩:=z;let⟨l,hl,rfl⟩:=yg hi;let hil:i<(Ts racks).length:=(al.mp hi).1;let hir:i<racks.length:=by rw[aa]at hil;show hil
  calc(bH l rb (h7 l (b8 hl)) (λH8 s8=>(bY (s8 _ _ Lb) ?_ (iK.mk hil (bY ?_ au ((sm.trans s8).dU hL))))));.rw[aa,aa,ay];show aJ t6
  .rw[take_snoc hl];simp only[Ts,cq];rfl
 .intro ys O z;let⟨rfl,Lb,sm⟩:=z;rw[aa,cS]at Lb;calc(eU L _ rb (.inl ⟨bI.of Lb,λtp ht=>?_⟩));let s8:aD O (upd O tp (.tup (Ts (racks.map dh)))):=aD.upd ht;let Yk:upd O tp (.tup (Ts (racks.map dh))) tp=some (.tup (Ts (racks.map dh))):=au;generalize upd O tp (HO.tup (Ts (racks.map dh)))=H8 at s8 Yk ⊢;let s68:=sm.trans s8;calc⟨zsz 1,λp0 e0=>?_⟩;let s9:aD H8 (upd H8 p0 (HO.tup [V.int 0])):=aD.upd e0;let ep0:upd H8 p0 (HO.tup [V.int 0]) p0=some (.tup [V.int 0]):=au;generalize upd H8 p0 (HO.tup [V.int 0])=H9 at s9 ep0 ⊢;let s69:=s68.trans s9;calc(aK pr _ rb (.inr (aU.of (s69 _ _ adA))) ⟨p0,_,racks.length,rb,by rw[aa],ep0,t7,n1,t6,by show 1<=100;decide,λpp HA sA hpp=>?_⟩);let Fj:HA pp=some (.tup ((List.replicate racks.length (0:Int)).map V.int)):=by rw[hpp];simp
  let Z:=s69.trans sA;let bg:b≠g:=by let⟨bx,_,_,_,hbx,_⟩:=hB.ex;intro z;subst z;rw[hg]at hbx;cases hbx
  let HB6:cX C H6 b r w aA aN bi bj:=by obtain⟨⟨bx,b1,b2,b3,c0,c1,c2,c3⟩,ok⟩:=hB;show⟨(gC bx b1 b2 b3 (J _ _ (s1 _ _ c0) bg) (J _ _ (s1 _ _ c1) (Yj c1 (λ_ _ _ z=>nomatch z))) (J _ _ (s1 _ _ c2) (Yj c2 (λ_ _ _ z=>nomatch z))) (J _ _ (s1 _ _ c3) (Yj c3 (λ_ _ _ z=>nomatch z)))),ok⟩
  intro x ex nx1 nx2 nx3;calc⟨x,ex,b,tp,pp,bag,rb,au,λHC kC eC=>⟨rb,?_⟩⟩;let⟨sC,AC⟩:=Fi (z:=⟨r,w,aA,aN,bi,bj,racks.map dh,bag,List.replicate racks.length 0⟩) nx1 nx2 kC eC (HB6.mv Z) (sA _ _ (s9 _ _ Yk)) Fj;let s6C:=Z.trans sC;calc⟨zsz 1,λps G=>?_⟩;let sD:aD HC (upd HC ps (HO.lst [V.ref x])):=aD.upd G;let pD:upd HC ps (HO.lst [V.ref x]) ps=some (.lst ([x].map V.ref)):=au;generalize upd HC ps (HO.lst [V.ref x])=HD at sD pD ⊢;let Ut:=s6C.trans sD;calc(iy g CG dx _ rb (Ut _ _ g6) T.cl T.ns (by show 4<1000;decide) ?_);let psg:ps≠g:=λz=>by subst z;rw[s6C _ _ g6]at G;cases G
  generalize hE:upd HD g (HO.ins CG dx (iT "stands" (V.ref ps) [("book",V.ref k2),("worths",V.ref j),("bonus",V.ref pb),("size",V.int size)]))=HE;let KE:∀a o,HD a=some o->a≠g->HE a=some o:=λa o e ne=>by rw[<-hE,aY ne];show e
  let gE:HE g=some (.ins CG dx [("book",.ref k2),("worths",.ref j),("bonus",.ref pb),("size",.int size),("stands",.ref ps)]):=by rw[<-hE];show au
  calc⟨zsz 0,λpd I=>?_⟩;let sF:aD HE (upd HE pd (HO.lst [])):=aD.upd I;let pF:upd HE pd (HO.lst []) pd=some (.lst (Ts [])):=au;let pdg:pd≠g:=λz=>by subst z;rw[gE]at I;cases I
  generalize upd HE pd (HO.lst [])=HF at sF pF ⊢;calc(iy g CG dx _ rb (sF _ _ gE) T.cl T.nd (by show 5<1000;decide) ?_);let D:∀a o,HD a=some o->a≠g->upd HF g (HO.ins CG dx (iT "done" (V.ref pd) [("book",V.ref k2),("worths",V.ref j),("bonus",V.ref pb),("size",V.int size),("stands",V.ref ps)])) a=some o:=λa o e ne=>by rw[aY ne];show sF _ _ (KE a o e ne)
  let old:∀a o,H a=some o->a≠g->upd HF g (HO.ins CG dx (iT "done" (V.ref pd) [("book",V.ref k2),("worths",V.ref j),("bonus",V.ref pb),("size",V.int size),("stands",V.ref ps)])) a=some o:=λa o e ne=>D a o (Ut _ _ (J a o (s1 _ _ e) ne)) ne;let k2g:k2≠g:=λz=>by subst z;rw[hg]at f1;cases f1
  let ain:kd2≠g:=λz=>by subst z;rw[hg]at f2;cases f2
  refine q ps pd Ba _ old hm ?_ ?_ ⟨(Kf dx k2 kd2 j pb au ?_ ?_ ?_),(aM [x] (D _ _ pD psg) ⟨rb,λi a z h1 h2=>?_⟩),?_⟩
  .cases e:H ps with| none=>rfl| some o=>rw[s6C _ _ (J _ _ (s1 _ _ e) psg)]at G;cases G
  .cases e:H pd with| none=>rfl| some o=>rw[KE _ _ (Ut _ _ (J _ _ (s1 _ _ e) pdg)) pdg]at I;cases I
  .let⟨ky,hky⟩:=BK.ob;show⟨⟨ky,D _ _ (Ut _ _ (J _ _ hky k2g)) k2g⟩,D _ _ (Ut _ _ (J _ _ BK.dc ain)) ain,BK.nd,BK.az⟩
  .show D _ _ (Ut _ _ d6) Y
  .show old _ _ hpb (Yj hpb (λ_ _ _ z=>nomatch z))
  .cases i with
   | zero=>
    cases h1;cases h2;obtain⟨dy,b',pr',pp',c1,⟨⟨bx,q1,q2,q3,u0,u1,u2,u3⟩,ok⟩,c3,c4⟩:=(AC.mv sD).ex;let gD:=Ut _ _ g6;let xg:x≠g:=(bB (Z _ _ g6) nx1).symm;let bg':b'≠g:=Bh u0 gD λz=>by injection z with _ _ z;injection z with z _;injection z with z _;show absurd z t9
    let tg:∀{a:Addr} {xs:List V},HD a=some (.tup xs)->a≠g:=λe=>Bh e gD λz=>nomatch z;show⟨dy,b',pr',pp',D _ _ c1 xg,⟨(gC bx q1 q2 q3 (D _ _ u0 bg') (D _ _ u1 (tg u1)) (D _ _ u2 (tg u2)) (D _ _ u3 (tg u3))),ok⟩,D _ _ c3 (tg c3),D _ _ c4 (tg c4)⟩
   | succ i=>simp at h1
  .rw[aY pdg];show pF
noncomputable def rmN:List Nat->List Nat->Option (List Nat)
 | l,[]=>some l
 | l,c::cs=>if c∈l then rmN (l.erase c) cs else none
theorem aeH:∀{cs l:List Nat},rmN l (cs.map fV)=o_ l cs
 | [],_=>rfl
 | c::cs,l=>by rw[ce];unfold rmN o_;rw[aeH]
def Yl {l:List Nat}(h:∀c∈l,pX c):l.map fV=l:=by
 rw[fE (g:=id) λc j=>?_,kK];unfold fV;rw[if_neg];.rfl
 .rcases h c j with e|e;.have:=e.1;lia
  .lia
structure Q0 (K:W.Frag)(CR:Addr)(c:Tr):Prop where
 Dw:W.exmOne K (.ref c.Dw) (.ref CR)=some true
 Dy:W.exmOne K (.ref c.Dy) (.ref CR)=some true
 gap:W.exmOne K (.ref c.gap) (.ref CR)=some true
 Dz:W.exmOne K (.ref c.Dz) (.ref CR)=some true
 DG:W.exmOne K (.ref c.DG) (.ref CR)=some true
 nw:W.exmOne K (.ref c.nw) (.ref CR)=some true
def Q0.of {CR:Addr}{c:Tr}(R:Q0 K CR c){H:Hp}{cls:Value}{dd:Option Addr}{v:Vd}(h:VdX c H cls dd v):W.exmOne K cls (.ref CR)=some true:=by
 cases v with
 | ok=>show h.elim
 | Dw i j=>let⟨rfl,_⟩:=h;show R.Dw
 | Dy=>let⟨rfl,_⟩:=h;show R.Dy
 | gap i j=>let⟨rfl,_⟩:=h;show R.gap
 | Dz=>let⟨rfl,_⟩:=h;show R.Dz
 | DG t=>let⟨rfl,_⟩:=h;show R.DG
 | nw l=>let⟨rfl,_⟩:=h;show R.nw
def abS (C CB:Addr):Sp:=λvs H Q _=>∃(b k kd t:Addr) (ws:AA) (cA:List Nat) (as:List Addr) (ts:List bQ) (r w:Nat) (aA aN:AA) (bi bj:Nat),vs=[.ref b,.ref k,.str (S cA),.ref t]/\cX C H b r w aA aN bi bj/\iC CB H k kd ws/\cA.length<=63/\H t=some (.tup (as.map V.ref))/\fB H as ts/\(∀t∈ts,inB r w t)/\0<ts.length/\ts.length<=7/\jm (ts.map kO)=true/\
 ∀(o:Bool) H',aD H H'->(o=true->tZ aA r w bi bj ws cA ts .ok)->Q (.bl o) H'
def afU {C CB CR:Addr}{c:Tr}(D:aO K mg "_law_lets" Kr ["_law_board","_law_book","_law_rack","_law_laying_here"])(jA:mg "RackError"=some (.ref CR))(R:Q0 K CR c)(I:DefX P w K mg base "check_laying" 14 ["board","book","rack","laying"] (M9 K C CB c)):cu P w K mg base "_law_lets" 16 ["_law_board","_law_book","_law_rack","_law_laying_here"] (abS C CB):=by
 calc D.dM afy (λf bN A outer s H vs Q E hr h=>?_);let⟨b,k,kd,t,ws,cA,as,ts,r,w,aA,aN,bi,bj,rfl,Y,O,j,ht,hL,Z,h0,h7,J,q⟩:=h;calc(aM _ (aB (afw rb rb ue jA (λpn xe E0 σ0 hp hx=>(aF (eE (oO I hr.mono rb hx (aj aG (aj aZ (aj bG (aj bJ ao)))))))) (λ_=>(aF (bD iY)))) (aF (bD iY))) ?_);refine⟨λcls dd H'=>∃v,VdX c H' cls dd v/\aD H H',?_,λa cls dd H' G na=>?_⟩
 .calc⟨rb,b,k,kd,ws,cA,.ref t,r,w,aA,aN,bi,bj,rb,Y,O,j,.inr ⟨t,as,ts,rb,ht,hL,Z,h0,h7,J,λv cls dd H' F hx sm=>(aM v hx sm),λF H1 s1=>?_⟩⟩;show q true H1 s1 λ_=>F
 .let⟨v,hx,sm⟩:=G;show⟨R.of hx,q false _ (sm.trans (aD.upd na)) λz=>by cases z⟩
def uH:Sp:=λvs H Q _=>∃(c:Int) (m:Nat),vs=[.int c,.int m]/\m<=100/\∀(p:Addr) (ds:List Int) (H':Hp),aD H H'->H p=none->H' p=some (.lst (ds.map V.int))->ds.length=m->Q (.ref p) H'
def abT (D:aO K mg "_law_stream" BW ["_law_cell","_law_many"])(I:mg "range"=none):cu P w K mg base "_law_stream" 1 ["_law_cell","_law_many"] uH:=by
 calc D.dM nU (λf bN A outer s H vs Q E Y h=>?_);let⟨c,m,rfl,hm,q⟩:=h;calc(aM _ (aB (aX (i:=2) nU.nd rb (Or.inl rb) (jU ao)) (aB (aX (i:=3) nU.nd rb (Or.inl rb) (aL cP aG aq)) (aB (cJ (bU jD (aL b_ aG aq) aq (bO _)) (aB (fP dr rb (lZ ue I (aj aZ ao)) (cj (i:=4) nU.nd rb (Or.inl rb)) (aB (eE (gq dE fe fg jT bG (aj (aL b_ bJ (aL Rh aq aq)) ao))) (aF (aX (i:=3) nU.nd rb (Or.inl rb) (aL Im bJ (aL Rh aq aq)))))) (aF (bD bG))) bR) (aB (aX (i:=3) nU.nd rb (Or.inl rb) (aL b_ bJ aq)) (aB (fP dr rb (lZ ue I (aj (aL cY aZ aq) ao)) (cj (i:=4) nU.nd rb (Or.inl rb)) (aB (aX (i:=3) nU.nd rb (Or.inl rb) (aL b_ (aL cY (aL cY (aL cY (aL jE bJ bJ) (aL jE aq bJ)) (aL jE aq dI)) aq) aq)) (aF (eE (gq dE fe fg jT bG (aj (aL cY (aL jE (aL b_ (aL jE bJ aq) aq) aq) (aL b_ bJ aq)) ao)))))) (aF (bD (fD w5 bG (fG aq) ji)))))))) ?_);calc⟨zsz 0,λp hp=>?_⟩;calc(aQ _ _ rb rb ⟨t9,t9⟩ ?_);calc(dF _ _ rb rb (by show (0:Int)<2;decide) rb (bh _ rb ?_));refine jt (λ_=>?_) (λ_=>?_)
 .calc(iM _ rb t6 t6 ?_);rw[c9];refine jR (n:=m) (lo:=0) (λi σ F=>∃(n:Int) (G:Option V) (ds:List Int),σ=[some (.int c),some (.int m),some (.ref p),some (.int n),G]/\aD H F/\F p=some (.lst (ds.map V.int))/\ds.length=i)
   (cW _ none [] rb (aD.upd hp) au rb) ?_ ?_
  .intro i σ F hi z;let⟨n,G,ds,rfl,sm,j,hl⟩:=z;calc⟨.inl ⟨rb,_,bI.of j⟩,aQ _ _ rb rb (bY t9 t9 t9) (aQ _ _ rb rb (by show (0:Int)<10^20;decide) ?_)⟩;calc(d7 p _ _ rb rb j (by rw[aa,hl];show aJ t6) ?_);calc(aQ _ _ rb rb (bY t9 t9 t9) (aQ _ _ rb rb ⟨by show (0:Int)<10^20;decide,uj⟩ ?_));show(cW _ _ (ds++[n%(10:Int)^(20:Int).toNat]) rb (sm.dU hp) (by rw[au];simp) (by simp[hl]))
  .intro σ F z;let⟨n,G,ds,rfl,sm,j,hl⟩:=z;show(q p ds F sm hp j hl)
 .calc(aQ _ _ rb rb (by show (0:Int)<2305843009213693951;decide) ?_);calc(aK _ _ rb rb (iM _ rb t6 t6 ?_));let J:((m:Int)+1).toNat=m+1:=t6;rw[J];refine jR (n:=m+1) (lo:=0) (λi σ F=>∃(n:Int) (G:Option V) (ds:List Int),σ=[some (.int c),some (.int m),some (.ref p),some (.int n),G]/\aD H F/\F p=some (.lst (ds.map V.int))/\ds.length=i/\0<=n/\n<2305843009213693951)
   (uO _ none [] rb (aD.upd hp) au rb (ej _ t9) (eQ _ t9)) ?_ ?_
  .intro i σ F hi z;let⟨n,G,ds,rfl,sm,j,hl,O,n1⟩:=z;calc(aQ _ _ rb rb (.inl ⟨t6,t6⟩) (aQ _ _ rb rb (.inl ⟨t9,t9⟩) (aK _ _ rb rb (aQ _ _ rb rb (.inl ⟨t9,t9⟩) (aK _ _ rb rb (aK _ _ rb rb (aQ _ _ rb rb (by show (0:Int)<2305843009213693951;decide) ?_)))))));calc⟨.inl ⟨rb,_,bI.of j⟩,?_⟩;calc(aQ _ _ rb rb (.inr ⟨t9,t9⟩) (aQ _ _ rb rb (by show (0:Int)<2147483629;decide) (aQ _ _ rb rb (.inr ⟨t9,t9⟩) (aQ _ _ rb rb (by show (0:Int)<2147483587;decide) (aK _ _ rb rb ?_)))));calc(d7 p _ _ rb rb j (by rw[aa,hl];show aJ t6) ?_);show(uO _ _ (ds++[_]) rb (sm.dU hp) (by rw[au];simp;rfl) (by simp[hl]) (ej _ t9) (eQ _ t9))
  .intro σ F z;let⟨n,G,ds,rfl,sm,j,hl,O,n1⟩:=z;calc(aM _ rb (aK p _ rb (bI.of j) (λt ht=>?_)));let e:jo (ds.map V.int) (some 1) none=(ds.drop 1).map V.int:=by
    unfold jo;let e1:HT.dj (ds.map V.int).length 0 (some 1)=min 1 (ds.map V.int).length:=HT.lO _ _ 1;rw[e1,aa,hl];show List.take (m+1-min 1 (m+1)) (List.drop (min 1 (m+1)) (ds.map V.int))=_;rw[show min 1 (m+1)=1 by lia,ck (by rw[bv,aa];lia),sr]
   rw[e];show q t (ds.drop 1) _ (sm.dU (sm.free ht)) (sm.free ht) au (by rw[bv];lia)
def abU:Sp:=λvs H Q _=>∃c:Int,vs=[.int c]/\∀ls:List Nat,Zx ls->ls.length<=4->Q (.str (S ls)) H
def aad (D:aO K mg "_law_letters" yZ ["_law_cell"])(G:mg "range"=none):cu P w K mg base "_law_letters" 1 ["_law_cell"] abU:=by
 calc D.dM tu (λf bN A outer s H vs Q E O h=>?_);let⟨c,rfl,q⟩:=h;calc(aM _ (aB (aX (i:=1) tu.nd rb (Or.inl rb) (bL AL uj)) (aB (aX (i:=2) tu.nd rb (Or.inl rb) (bL [] uj)) (aB (fP dr rb (lZ ue G (aj (aL cY aq (aL b_ (aL cP aG aq) aq)) ao)) (cj (i:=3) tu.nd rb (Or.inl rb)) (aF (aX (i:=2) tu.nd rb (Or.inl rb) (aL kZ bG (bf sO aZ (aL b_ (aL cY (aL cP aG aq) (aL jE bJ (aL cY aq (aL b_ (aL cP aG aq) aq)))) aq) (λ_ _=>rfl)))))) (aF (bD bG))))) ?_);let I:=ej (c/8) (show (3:Int)≠0 by decide);let J:=eQ (c/8) (show (0:Int)<3 by decide);calc(aQ _ _ rb rb ⟨t9,t9⟩ (aQ _ _ rb rb (by show (0:Int)<3;decide) (aK _ _ rb rb (iM _ rb t6 t6 ?_))));refine jR (lo:=0) (λi σ j=>j=H/\∃(F:Option V) (ls:List Nat),σ=[some (.int c),some (.str (S AL)),some (.str (S ls)),F]/\ls.length=i/\∀c∈ls,isLet c) ⟨rb,aK none [] rb rb (λc h=>by simp at h)⟩ ?_ ?_
 .intro i σ j hi z;let⟨rfl,F,ls,rfl,hl,ha⟩:=z;let⟨x,hx,hm⟩:=xq (xs:=AL) (n:=26) t9 t9 (c/24+(0+(i:Int))*(1+c/624%8));calc(aQ _ _ rb rb ⟨t9,t9⟩ (aQ _ _ rb rb ⟨t9,t9⟩ (aQ _ _ rb rb (by show (0:Int)<8;decide) (aK _ _ rb rb (aQ _ _ rb rb (.inl ⟨t6,t6⟩) (aK _ _ rb rb (aQ _ _ rb rb (by show (0:Int)<26;decide) ?_)))))));calc(d7 AL _ x rb rb t9 hx (aQ ls [x] rb rb ?_ ?_));.show am (aJ (by show ls.length+1<=1000;lia))
  .calc⟨rb,aK _ (ls++[x]) rb (by simp[hl]) (λy hy=>?_)⟩;rcases be.mp hy with z|z;.show ha y z
   .rw[a_.mp z];show ajt x hm
 .intro σ j z;let⟨rfl,F,ls,rfl,hl,ha⟩:=z;show(q ls ⟨t6,t6,ha⟩ t6)
def Uu:Sp:=λvs H Q _=>∃(c:Int) (ls:List Nat),vs=[.int c,.str (S ls)]/\Zx ls/\∀(p:Addr) (ws:AA) (H':Hp),aD H H'->H p=none->H' p=some (.lst (Ts ws))->4<=ws.length->ws.length<=12->(∀l∈ws,zL l)->Q (.ref p) H'
def Nm (D:aO K mg "_law_words" G5 ["_law_cell","_law_letters_here"])(dN:mg "range"=none)(bC:mg "len"=none)(oM:cu P w K mg base "_law_stream" 1 ["_law_cell","_law_many"] uH):cu P w K mg base "_law_words" 2 ["_law_cell","_law_letters_here"] Uu:=by
 calc D.dM mV (λf bN A outer s H vs Q E hr h=>?_);let⟨c,ls,rfl,hA,q⟩:=h;let a1:=hA.lo;let a2:=hA.hi;let d0:=ej c (show (9:Int)≠0 by decide);let d1:=eQ c (show (0:Int)<9 by decide);calc(aM _ (aB (aX (i:=2) mV.nd rb (Or.inl rb) (jU ao)) (aB (fP dr rb (qj (bK oM hr.mono rb (aj aG (aj (aL cY aq (aL b_ aG aq)) ao)))) (cj (i:=3) mV.nd rb (Or.inl rb)) (aB (aX (i:=4) mV.nd rb (Or.inl rb) (aL cY aq (aL b_ bJ aq))) (aB (jj (cJ (bU jD (aL b_ (aL cP bJ aq) aq) aq (bO _)) (aF (aX (i:=4) mV.nd rb (Or.inl rb) (aL cY aq (aL b_ (aL cP bJ aq) aq)))) bR)) (aB (aX (i:=5) mV.nd rb (Or.inl rb) (bL [] uj)) (aB (aX (i:=6) mV.nd rb (Or.inl rb) (aL cP bJ aq)) (aB (fP dr rb (lZ ue dN (aj dI ao)) (cj (i:=7) mV.nd rb (Or.inl rb)) (aB (aX (i:=5) mV.nd rb (Or.inl rb) (aL kZ fj (bf sO aZ (aL b_ fU (aW dw ue bC aE (aj aZ ao))) (λ_ _=>rfl)))) (aF (aX (i:=6) mV.nd rb (Or.inl rb) (aL cP fU (aW dw ue bC aE (aj aZ ao))))))) (aF (eE (gq dE fe fg jT bG (aj fj ao)))))))))) (aF (bD bG)))) ?_);calc⟨zsz 0,λL hL=>?_⟩;let sL:aD H (upd H L (HO.lst [])):=aD.upd hL;let eL:upd H L (HO.lst []) L=some (.lst (Ts [])):=au;generalize upd H L (HO.lst [])=H0 at sL eL ⊢;calc(aQ _ _ rb rb (by show (0:Int)<9;decide) (aK _ _ rb rb (aK c ((4+c%9).toNat) (by rw[cK t6];rfl) t6 (λp ds H1 s1 O hp hdl=>?_))));refine(bH p rb ⟨_,bI.of hp⟩ (pB (K:=K) (a:=p) (xs:=ds.map V.int) (λi σ G=>∃(v3 v4 Z Y J:Option V) (ws:AA),σ=[some (.int c),some (.str (S ls)),some (.ref L),v3,v4,Z,Y,J]/\(∀b o,H1 b=some o->b≠L->G b=some o)/\G L=some (.lst (Ts ws))/\ws.length=i/\∀l∈ws,zL l)
  (Kg none none none none none [] rb (λ_ _ e _=>e) (s1 _ _ eL) rb (λl h=>by cases h)) (λi σ G _ h=>?_) ?_ ?_))
 .let⟨_,_,_,_,_,_,_,kp,_⟩:=h;show bI.of (kp _ _ hp λz=>by subst z;rw[eL]at O;cases O)
 .intro i x σ G hx z;let⟨v3,v4,Z,Y,J,ws,rfl,kp,F,I,hw⟩:=z;rw[cz]at hx;let⟨n,hn,rfl⟩:=e_.mp hx;let hi:i<ds.length:=(al.mp hn).1;let e0:=ej n (show (3:Int)≠0 by decide);let e1:=eQ n (show (0:Int)<3 by decide);let f0:=ej (n/24) (show (8:Int)≠0 by decide);let f1:=eQ (n/24) (show (0:Int)<8 by decide);calc(aQ _ _ rb rb (by show (0:Int)<3;decide) (aK _ _ rb rb ?_));refine⟨λσ H'=>H'=G/\∃m:Nat,σ=[some (.int c),some (.str (S ls)),some (.ref L),some (.int n),some (.int m),Z,Y,J]/\2<=m/\m<=9,?_,?_⟩
  .calc(aQ _ _ rb rb ⟨t9,t9⟩ (dF _ _ rb rb (by show (0:Int)<8;decide) rb (bh _ rb ?_)));calc jt (λ_=>?_) (λ_=>?_);.show(aQ _ _ rb rb ⟨t9,t9⟩ (aQ _ _ rb rb (by show (0:Int)<8;decide) (aQ _ _ rb rb rb (bH ((2+n/24%8).toNat) (by rw[cK t6];rfl) t6 t6))))
   .show⟨rb,bH ((2+n%3).toNat) (by rw[cK t6];rfl) t6 t6⟩
  .intro σ H' z;let⟨rfl,m,rfl,m2,m9⟩:=z;calc(aQ _ _ rb rb ⟨t9,t9⟩ ?_);calc(iM _ rb t6 t6 ?_);refine jR (lo:=0) (λj σ H3=>H3=H'/\∃(kv:Option V) (l:List Nat) (r:Int),σ=[some (.int c),some (.str (S ls)),some (.ref L),some (.int n),some (.int m),some (.str (S l)),some (.int r),kv]/\l.length=j/\∀c∈l,isLet c) ⟨rb,qW J [] _ rb rb (λc h=>by cases h)⟩ ?_ ?_
   .intro j σ H3 hj z;let⟨rfl,kv,l,r,rfl,hl,ha⟩:=z;let hz:ls.length<=sizeLine:=am (aJ t6);let⟨x,hx,hm⟩:=xq (xs:=ls) (n:=ls.length) rb t6 r;calc(bH ls rb hz (aQ _ _ rb rb (by show (0:Int)<_;lia) (d7 ls _ x rb rb hz hx (aQ l [x] rb rb ?_ ?_))));.show am (aJ (by show l.length+1<=1000;lia))
    .calc(bH ls rb hz (dF _ _ rb rb ⟨by show (0:Int)<_;lia,by show (ls.length:Int)<_;lia⟩ rb (qW _ (l++[x]) _ rb (by simp[hl]) (λy hy=>?_))));rcases be.mp hy with z|z;.show ha y z
     .rw[a_.mp z];show hA.az x hm
   .intro σ H3 z;let⟨rfl,kv,l,r,rfl,hl,ha⟩:=z;calc⟨.inl ⟨rb,_,bI.of F⟩,d7 L _ (.str (S l)) rb rb F (aJ (by rw[aa];lia)) ?_⟩;calc(Kg _ _ _ _ _ (ws++[l]) rb (λb o e ne=>by rw[aY ne];show kp b o e ne) (by rw[au];simp[Ts]) (by simp[I]) (λy hy=>?_));rcases be.mp hy with z|z;.show hw y z
    .rw[a_.mp z];show⟨t6,t6,ha⟩
 .intro σ G z;let⟨v3,v4,Z,Y,J,ws,rfl,kp,F,I,hw⟩:=z;rw[aa,hdl]at I;show(q L ws G (λb o e=>kp _ _ (s1 _ _ (sL _ _ e)) (bB e hL)) hL F t6 t6 hw)
def Uv:Sp:=λvs H Q _=>∃(c bl:Int) (ls:List Nat) (m:Nat),vs=[.int c,.str (S ls),.int m,.int bl]/\Zx ls/\m<=100/\∀(l:List Nat) (H':Hp),aD H H'->l.length=m->(∀c∈l,pX c)->Q (.str (S l)) H'
def adB (D:aO K mg "_law_tiles" G6 ["_law_cell","_law_letters_here","_law_many","_law_blanks"])(bC:mg "len"=none)(oM:cu P w K mg base "_law_stream" 1 ["_law_cell","_law_many"] uH):cu P w K mg base "_law_tiles" 2 ["_law_cell","_law_letters_here","_law_many","_law_blanks"] Uv:=by
 calc D.dM yd (λf bN A outer s H vs Q E hr h=>?_);let⟨c,bl,ls,m,rfl,O,hm,q⟩:=h;let a1:=O.lo;let a2:=O.hi;let hz:ls.length<=sizeLine:=am (aJ t6);calc(aM _ (aB (aX (i:=4) yd.nd rb (Or.inl rb) (bL [] uj)) (aB (fP dr rb (qj (bK oM hr.mono rb (aj aG (aj bG ao)))) (cj (i:=5) yd.nd rb (Or.inl rb)) (aF (cJ (QW.qt (vG (bU jD (aL b_ fj aq) aq (bO _)) (w6 (bU uM (gq bz PySem.F.slot_str_count PySem.F.type_str_count aa5 dI (aj (bL [63] uj) ao)) bJ (bO _))))) (aF (aX (i:=4) yd.nd rb (Or.inl rb) (aL kZ dI (bL [63] uj)))) (aF (aX (i:=4) yd.nd rb (Or.inl rb) (aL kZ dI (bf sO aZ (aL b_ (aL cP fj aq) (aW dw ue bC aE (aj aZ ao))) (λ_ _=>rfl)))))))) (aF (bD dI)))) ?_);calc(aK c m rb hm (λp ds H1 s1 hp0 hp Y=>?_));refine(bH p rb ⟨_,bI.of hp⟩ (pB (K:=K) (a:=p) (xs:=ds.map V.int) (λi σ G=>G=H1/\∃(J:Option V) (l:List Nat),σ=[some (.int c),some (.str (S ls)),some (.int m),some (.int bl),some (.str (S l)),J]/\l.length=i/\∀c∈l,pX c)
  ⟨rb,aK none [] rb rb (λc h=>by cases h)⟩ (λi σ G _ h=>by let⟨rfl,_⟩:=h;show bI.of hp) ?_ ?_))
 .intro i x σ G hx z;let⟨rfl,J,l,rfl,hl,ht⟩:=z;rw[cz]at hx;let⟨n,hn,rfl⟩:=e_.mp hx;let hi:i<ds.length:=(al.mp hn).1;let j:l.length+1<=sizeLine:=am (aJ t6);let I:∀x,pX x->(G=G/\∃(J:Option V) (Z:List Nat),[some (V.int c),some (.str (S ls)),some (.int m),some (.int bl),some (.str (S (l++[x]))),some (.int n)]=[some (.int c),some (.str (S ls)),some (.int m),some (.int bl),some (.str (S Z)),J]/\Z.length=i+1/\∀c∈Z,pX c):=λx hx=>⟨rb,aK _ (l++[x]) rb (by simp[hl]) (λy hy=>by
   rcases be.mp hy with z|z;.show ht y z
   .rw[a_.mp z];show hx)⟩
  let⟨y,hy,hym⟩:=xq (xs:=ls) (n:=ls.length) rb t6 (n/9);let F:=(show pX y from .inl (O.az y hym))
  calc(dF _ _ rb rb (by show (0:Int)<9;decide) rb (bh _ rb ?_));refine jt (λ_=>?_) (λ_=>?_)
  .calc⟨rb,aK l [63] rb rb (λk=>(aK _ _ rb rb (bh _ rb ?_)))⟩;calc jt (λ_=>?_) (λ_=>?_);.show(aQ l [63] rb rb j (I 63 (.inr rb)))
   .show(aQ _ _ rb rb ⟨t9,t9⟩ (bH ls rb hz (aQ _ _ rb rb (by show (0:Int)<_;lia) (d7 ls _ y rb rb hz hy (aQ l [y] rb rb j (I y F))))))
  .show(aQ _ _ rb rb ⟨t9,t9⟩ (bH ls rb hz (aQ _ _ rb rb (by show (0:Int)<_;lia) (d7 ls _ y rb rb hz hy (aQ l [y] rb rb j (I y F))))))
 .intro σ G z;let⟨rfl,J,l,rfl,hl,ht⟩:=z;rw[aa,Y]at hl;show(q l G s1 hl ht)
def chunk (r k:Nat)(cs:List Nat):List (List Nat):=(List.range r).map λi=>(cs.drop (i*k)).take k
def Ph {r k:Nat}{cs:List Nat}(h:cs.length=r*k):Blk r k (chunk r k cs):=by
 calc⟨by simp[chunk],λl hl=>?_⟩;let⟨i,hi,rfl⟩:=bu.mp hl;let j:=im.mp hi;let D:i*k+k<=r*k:=by have:(i+1)*k<=r*k:=rj k j;rw[qr]at this;show this
 rw[ay,bv];lia
def Pj {r k:Nat}{cs:List Nat}{j:Nat->Prop}(h:∀c∈cs,j c):∀l∈chunk r k cs,∀c∈l,j c:=by intro l hl c D;let⟨i,hi,rfl⟩:=bu.mp hl;show h c (eI (de D))
def Ym:Sp:=λvs H Q _=>∃(c:Int) (ls:List Nat),vs=[.int c,.str (S ls)]/\Zx ls/\
 ∀(t pr pm pb:Addr) (r w:Nat) (aA aN:AA) (i j:Nat) (H':Hp),aD H H'->H' t=some (.tup [.ref pr,.ref pm,.ref pb])->H' pr=some (.tup (Ts aA))->H' pm=some (.tup (Ts aN))->H' pb=some (.tup [.int i,.int j])->Xn r w aA aN i j->Q (.ref t) H'
def adC:List Nat:=MK++(List.replicate 8 [46]).flatten
def afV:∀c∈adC,O5 c:=by unfold O5;decide
def adD (cs:List Nat)(j x:Nat):(Ts (ones cs)).set j (.str (S [x]))=Ts (ones (cs.set j x)):=by simp only[Ts,ones,rh]
def mem_set {cs:List Nat}{j x:Nat}{p:Nat->Prop}(h:∀c∈cs,p c)(hx:p x):∀c∈cs.set j x,p c:=λc D=>by
 rcases fR D with e|e;.show h c e
 .rw[e];show hx
def aeI {y:Nat}(h:isLet y):PyProof.Rows.up1 y=y-32:=by let h1:=h.1;let h2:=h.2;unfold PyProof.Rows.up1;rw[if_pos t6]
def afW (D:aO K mg "_law_rows" Kq ["_law_cell","_law_letters_here"])(dN:mg "range"=none)(bC:mg "len"=none)(cI:mg "tuple"=none)(oM:cu P w K mg base "_law_stream" 1 ["_law_cell","_law_many"] uH):cu P w K mg base "_law_rows" 2 ["_law_cell","_law_letters_here"] Ym:=by
 calc D.dM jX (λf bN A outer s H vs Q E hr h=>?_);let⟨c,ls,rfl,hA,q⟩:=h;let a1:=hA.lo;let a2:=hA.hi;let hz:ls.length<=sizeLine:=am (aJ t6);calc(aM _ (aB (aX (i:=2) jX.nd rb (Or.inl rb) (aL cY aq (aL b_ aG aq))) (aB (aX (i:=3) jX.nd rb (Or.inr rb) (aL cY aq (aL b_ (aL cP aG aq) aq))) (aB (jj (cJ (bU jD (aL b_ (aL cP aG aq) aq) aq (bO _)) (aB (aX (i:=2) jX.nd rb (Or.inl rb) (aL cY aq (aL b_ (aL cP aG aq) aq))) (aF (aX (i:=3) jX.nd rb (Or.inr rb) (aL cY aq (aL b_ (aL cP aG aq) aq))))) bR)) (aB (aX (i:=4) jX.nd rb (Or.inl rb) (aL Rp (jU (aj (bL [46] uj) ao)) (aL jE bG bJ))) (aB (aX (i:=5) jX.nd rb (Or.inl rb) (jU ao)) (aB (fP dr rb (qj (bK oM hr.mono rb (aj (aL cY aG aq) (aj (aL jE bG bJ) ao)))) (cj (i:=6) jX.nd rb (Or.inl rb)) (aB (eE (gq dE fe fg jT fj (aj (bf sO (aL kZ (bL [46,50,51,52,98,99,100] uj) (aL afb (bL [46] uj) aq)) (aL b_ (aL cP fU aq) aq) (λ_ _=>rfl)) ao))) (aF (jj (cJ (QW.qt (vG (bU jD (aL b_ (aL cP aG aq) aq) aq (bO _)) (w6 (bU jD (aL b_ fU aq) aq (bO _))))) (aB (aX (i:=7) jX.nd rb (Or.inl rb) (bf sO aZ (aL b_ (aL cP fU aq) (aW dw ue bC aE (aj aZ ao))) (λ_ _=>rfl))) (aB (jj (cJ (bU jD (aL b_ (aL cP fU aq) aq) aq (bO _)) (aF (aX (i:=7) jX.nd rb (Or.inl rb) (Ea bz PySem.F.slot_str_upper PySem.F.type_str_upper aaZ jl))) bR)) (aF (xP jl (J1 dI (aL b_ (aL cP fU aq) (aW bZ ue bC aE (aj dI ao))) set_list))))) bR))))) (aB (aX (i:=8) jX.nd rb (Or.inl rb) (dJ (aj (aL b_ (aL cP aG aq) bG) (aj (aL b_ (aL cP aG aq) bJ) ao)))) (aB (aX (i:=9) jX.nd rb (Or.inl rb) (jU ao)) (aB (fP dr rb (qj (jU (aj dI (aj fj ao)))) (cj (i:=10) jX.nd rb (Or.inr rb)) (aF (eE (gq dE fe fg jT mY (aj (gR iW ue cI c_ (aj (jG rb (ju.of jX.nd ui) (aa0 ue dN (aj aq (aj (aW bZ ue bC aE (aj nD ao)) (aj bJ ao)))) (λ_ _ _ _ _=>eG) (λ_ _ _ _ _=>(RJ K bz di dq (Io K) (bL [] uj) (aj (fD (acU K) pC (fG aG) (fG (aL cY aG dI))) ao)))) ao)) ao))))) (aF (bD (dJ (aj (bf iQ mY aq (λ_ _=>rfl)) (aj (bf iQ mY aq (λ_ _=>rfl)) (aj mX ao))))))))))))))) ?_);calc(aQ _ _ rb rb (by show (0:Int)<5;decide) (aK _ _ rb rb ?_));calc(aQ _ _ rb rb ⟨t9,t9⟩ (aQ _ _ rb rb (by show (0:Int)<5;decide) (aK _ _ rb rb ?_)));refine⟨λσ H'=>H'=H/\∃r w:Nat,σ=[some (.int c),some (.str (S ls)),some (.int r),some (.int w),none,none,none,none,none,none,none]/\1<=r/\r<=9/\1<=w/\w<=9,?_,?_⟩
 .calc(aQ _ _ rb rb ⟨t9,t9⟩ (dF _ _ rb rb (by show (0:Int)<8;decide) rb (bh _ rb ?_)));refine jt (λ_=>?_) (λ_=>?_)
  .calc(aQ _ _ rb rb ⟨t9,t9⟩ (aQ _ _ rb rb (by show (0:Int)<8;decide) (aK _ _ rb rb ?_)));calc(aQ _ _ rb rb ⟨t9,t9⟩ (aQ _ _ rb rb (by show (0:Int)<8;decide) (aQ _ _ rb rb rb (dF ((2+c/200%8).toNat) ((2+c/1600%8).toNat) ?_ t6 t6 t6 t6))));rw[cK t6,cK t6];rfl
  .calc⟨rb,dF ((2+c%5).toNat) ((2+c/5%5).toNat) ?_ t6 t6 t6 t6⟩;rw[cK t6,cK t6];rfl
 intro σ H' z;let⟨rfl,r,w,rfl,r1,r9,w1,w9⟩:=z;let hrw:r*w<=81:=io r9 w9;let akM:1<=r*w:=io r1 w1;let erw:(r:Int)*(w:Int)=((r*w:Nat):Int):=by push_cast;rfl
 calc⟨zsz 1,λL0 h0=>?_⟩;calc(aQ _ _ rb rb (.inl ⟨t6,t6⟩) (G4 L0 _ _ rb rb au (by rw[erw];lia) (by rw[erw];lia) ?_ (λL hL=>?_)));.rw[erw,c9];show am (aJ (by simp only[dA,nl];lia))
 rw[erw,c9];let sL:aD H' (upd (upd H' L0 (HO.lst [.str (S [46])])) L (HO.lst (List.replicate (r*w) [V.str (S [46])]).flatten)):=(aD.upd h0).trans (aD.upd hL);let eL:upd (upd H' L0 (HO.lst [.str (S [46])])) L (HO.lst (List.replicate (r*w) [V.str (S [46])]).flatten) L=some (.lst (Ts (ones (List.replicate (r*w) 46)))):=by rw[au];congr 2;simp[Ts,ones]
 let fL:H' L=none:=by
  cases e:H' L with| none=>rfl| some o=>rw[aD.upd h0 _ _ e]at hL;cases hL
 generalize upd (upd H' L0 (HO.lst [.str (S [46])])) L (HO.lst (List.replicate (r*w) [V.str (S [46])]).flatten)=H1 at sL eL ⊢;calc⟨zsz 0,λM hM=>?_⟩;let sM:aD H1 (upd H1 M (HO.lst [])):=aD.upd hM;let eM:upd H1 M (HO.lst []) M=some (.lst (Ts (ones []))):=au;let LM:L≠M:=bB eL hM;generalize upd H1 M (HO.lst [])=H2 at sM eM ⊢;calc(aK _ _ rb rb (aQ _ _ rb rb (.inl ⟨t6,t6⟩) (aK (c+3) (r*w) (by show [V.int (c+3),V.int ((r:Int)*(w:Int))]=_;rw[erw]) t6 (λp ds H3 s3 hp0 hp hdl=>?_))));let pL:p≠L:=λz=>by subst z;rw[sM _ _ eL]at hp0;cases hp0
 let pM:p≠M:=λz=>by subst z;rw[eM]at hp0;cases hp0
 refine(bH p rb ⟨_,bI.of hp⟩ (pB (K:=K) (a:=p) (xs:=ds.map V.int) (λi σ G=>∃(v6 v7:Option V) (cs F:List Nat),σ=[some (.int c),some (.str (S ls)),some (.int r),some (.int w),some (.ref L),some (.ref M),v6,v7,none,none,none]/\(∀b o,H3 b=some o->b≠L->b≠M->G b=some o)/\G L=some (.lst (Ts (ones cs)))/\cs.length=r*w/\(∀c∈cs,Ew c)/\G M=some (.lst (Ts (ones F)))/\F.length=i/\(∀c∈F,O5 c))
  (uP none none (List.replicate (r*w) 46) [] rb (λ_ _ e _ _=>e) (s3 _ _ (sM _ _ eL)) dL (λc hc=>.inl (List.eq_of_mem_replicate hc)) (s3 _ _ eM) rb (λc h=>by cases h)) (λi σ G _ h=>?_) ?_ ?_))
 .let⟨_,_,_,_,_,kp,_⟩:=h;show bI.of (kp _ _ hp pL pM)
 .intro i x σ G hx z;let⟨v6,v7,cs,F,rfl,kp,Al,J,Yn,Hz,O,hmk⟩:=z;rw[cz]at hx;let⟨n,hn,rfl⟩:=e_.mp hx;let hi:i<ds.length:=(al.mp hn).1;let⟨x,hx,hxm⟩:=xq (xs:=adC) (n:=15) t9 t9 (n/11);calc⟨.inl ⟨rb,_,bI.of Hz⟩,BJ [46] 8 rb rb t9 t9 t9 (aQ MK _ rb rb t9 (aQ _ _ rb rb ⟨t9,t9⟩ (aQ _ _ rb rb (by show (0:Int)<15;decide) (d7 adC _ x rb rb t9 hx (d7 M _ _ rb rb Hz (aJ (by rw[aa,aa];lia)) ?_)))))⟩;let hM5:upd G M (HO.lst (Ts (ones F)++[.str (S [x])])) M=some (.lst (Ts (ones (F++[x])))):=by rw[au];simp[Ts,ones]
  let hL5:upd G M (HO.lst (Ts (ones F)++[.str (S [x])])) L=some (.lst (Ts (ones cs))):=by rw[aY LM];show Al
  let kp5:∀b o,H3 b=some o->b≠L->b≠M->upd G M (HO.lst (Ts (ones F)++[.str (S [x])])) b=some o:=λb o e n1 n2=>by rw[aY n2];show kp b o e n1 n2
  generalize upd G M (HO.lst (Ts (ones F)++[.str (S [x])]))=H5 at hM5 hL5 kp5 ⊢;let aio:∀c∈F++[x],O5 c:=λy hy=>by
   rcases be.mp hy with z|z;.show hmk y z
   .rw[a_.mp z];show afV x hxm
  let stay:∀v7',∃(v6 v7:Option V) (cs F:List Nat),[some (V.int c),some (.str (S ls)),some (.int r),some (.int w),some (.ref L),some (.ref M),some (.int n),v7',none,none,none]=[some (.int c),some (.str (S ls)),some (.int r),some (.int w),some (.ref L),some (.ref M),v6,v7,none,none,none]/\(∀b o,H3 b=some o->b≠L->b≠M->H5 b=some o)/\H5 L=some (.lst (Ts (ones cs)))/\cs.length=r*w/\(∀c∈cs,Ew c)/\H5 M=some (.lst (Ts (ones F)))/\F.length=i+1/\(∀c∈F,O5 c):=λv7'=>(uP _ _ cs (F++[x]) rb kp5 hL5 J Yn hM5 (by simp[O]) aio)
  calc⟨λσ Y=>∃(v6 v7:Option V) (cs F:List Nat),σ=[some (.int c),some (.str (S ls)),some (.int r),some (.int w),some (.ref L),some (.ref M),v6,v7,none,none,none]/\(∀b o,H3 b=some o->b≠L->b≠M->Y b=some o)/\Y L=some (.lst (Ts (ones cs)))/\cs.length=r*w/\(∀c∈cs,Ew c)/\Y M=some (.lst (Ts (ones F)))/\F.length=i+1/\(∀c∈F,O5 c),?_,λσ Y h=>h⟩;calc(aQ _ _ rb rb ⟨t9,t9⟩ (dF _ _ rb rb (by show (0:Int)<3;decide) rb (bh _ rb ?_)));refine jt (λ_=>?_) (λ_=>?_)
  .calc(dF _ _ rb rb (by show (0:Int)<9;decide) rb (bh _ rb ?_));refine jt (λ_=>?_) (λ_=>?_)
   .let⟨y,hy,hym⟩:=xq (xs:=ls) (n:=ls.length) rb t6 (n/9);let yz:=hA.az y hym;calc(aQ _ _ rb rb ⟨t9,t9⟩ (bH ls rb hz (aQ _ _ rb rb (by show (0:Int)<_;lia) (d7 ls _ y rb rb hz hy ?_))));refine⟨λσ Y=>Y=H5/\∃u:Nat,σ=[some (V.int c),some (.str (S ls)),some (.int r),some (.int w),some (.ref L),some (.ref M),some (.int n),some (.str (S [u])),none,none,none]/\qz u,?_,?_⟩
    .calc(aQ _ _ rb rb ⟨t9,t9⟩ (dF _ _ rb rb (by show (0:Int)<5;decide) rb (bh _ rb ?_)));calc jt (λ_=>?_) (λ_=>⟨rb,aM y rb (abm yz)⟩);calc⟨rb,[y],rb,rb,(by show 1<=1000;decide),(λc hc=>by rw[a_.mp hc];have:=yz.2;lia),rb,aM (PyProof.Rows.up1 y) rb ?_⟩;have:PyProof.Rows.up1 y=y-32:=aeI yz;rw[this];show abn yz
    .intro σ Y z;let⟨rfl,u,rfl,hu⟩:=z;let hpos:(0:Int)<((r*w:Nat):Int):=t6;let b0:=ej (n/100) (show ((r*w:Nat):Int)≠0 by lia);let b1:=eQ (n/100) hpos;let qM:(Ts (ones cs)).length=r*w:=by rw[aa,aa,J]
     refine(aQ _ _ rb rb ⟨t9,t9⟩ (aK L _ rb (.inl (bI.of hL5)) (aQ _ _ rb rb (by show (0:Int)<_;rw[qM];show hpos) (bA L _ _ ((n/100%((r*w:Nat):Int)).toNat) rb rb hL5 ?_ ?_))))
     .unfold yI;rw[qM,if_pos t6,if_pos t6]
     .rw[adD];calc(uP _ _ (cs.set (n/100%((r*w:Nat):Int)).toNat u) (F++[x]) rb (λb o e n1 n2=>by rw[aY n1];show kp5 b o e n1 n2) au (by rw[gf];show J) (mem_set Yn (.inr hu)) ?_ (by simp[O]) aio);rw[aY LM.symm];show hM5
   .show stay _
  .show stay _
 .intro σ G z;let⟨v6,v7,cs,F,rfl,kp,Al,J,Yn,Hz,O,hmk⟩:=z;rw[aa,hdl]at O;let sm:aD H' G:=λb o e=>kp _ _ (s3 _ _ (sM _ _ (sL _ _ e))) (bB e fL) (λz=>by subst z;rw[sL _ _ e]at hM;cases hM);calc(aQ _ _ rb rb ⟨t9,t9⟩ (aQ _ _ rb rb (by show (0:Int)<_;lia) (aQ _ _ rb rb ⟨t9,t9⟩ (dF _ _ rb rb (by show (0:Int)<_;lia) (zsz 2) (λpb hpb=>?_)))));let d0:=ej (c/38400) (show (r:Int)≠0 by lia);let d1:=eQ (c/38400) (show (0:Int)<r by lia);let f0:=ej (c/345600) (show (w:Int)≠0 by lia);let f1:=eQ (c/345600) (show (0:Int)<w by lia);let sB:aD G (upd G pb (HO.tup [V.int (c/38400%r),V.int (c/345600%w)])):=aD.upd hpb;let eB:upd G pb (HO.tup [V.int (c/38400%r),V.int (c/345600%w)]) pb=some (.tup [.int ((c/38400%r).toNat:Nat),.int ((c/345600%w).toNat:Nat)]):=by
   rw[au,cK d0,cK f0]
  generalize upd G pb (HO.tup [V.int (c/38400%r),V.int (c/345600%w)])=H5 at sB eB ⊢;calc⟨zsz 0,λT hT=>?_⟩;let sT:aD H5 (upd H5 T (HO.lst [])):=aD.upd hT;let eT:upd H5 T (HO.lst []) T=some (.lst (([]:List Addr).map V.ref)):=au;let fT:H' T=none:=by
   cases e:H' T with| none=>rfl| some o=>rw[sB _ _ (sm _ _ e)]at hT;cases hT
  generalize upd H5 T (HO.lst [])=Y at sT eT ⊢;calc⟨zsz 2,λZ hZ=>?_⟩;let sZ:aD Y (upd Y Z (HO.lst [V.ref L,V.ref M])):=aD.upd hZ;let eZ:upd Y Z (HO.lst [V.ref L,V.ref M]) Z=some (.lst ([L,M].map V.ref)):=au;let ZT:Z≠T:=(bB eT hZ).symm;generalize upd Y Z (HO.lst [V.ref L,V.ref M])=H7 at sZ eZ ⊢;let Pk:aD G H7:=(sB.trans sT).trans sZ;let get:∀{i:Nat} {x:V},([L,M].map V.ref)[i]?=some x->∃a ds,x=.ref a/\[cs,F][i]?=some ds/\H7 a=some (.lst (Ts (ones ds)))/\ds.length=r*w:=λ{i x} h=>by
   match i,h with
   | 0,h=>cases h;show(aQ L cs rb rb (Pk _ _ Al) J)
   | 1,h=>cases h;show(aQ M F rb rb (Pk _ _ Hz) O)
   | i+2,h=>simp at h
  refine(bH Z rb ⟨_,bI.of eZ⟩ (pB (K:=K) (a:=Z) (xs:=[L,M].map V.ref) (λi σ H8=>∃(v:Option V) (as:List Addr),σ=[some (.int c),some (.str (S ls)),some (.int r),some (.int w),some (.ref L),some (.ref M),v6,v7,some (.ref pb),some (.ref T),v]/\(∀b o,H7 b=some o->b≠T->H8 b=some o)/\H8 T=some (.lst (as.map V.ref))/\as.length=i/\∀k a ds,as[k]?=some a->[cs,F][k]?=some ds->H8 a=some (.tup (Ts (chunk r w ds))))
   (dF none [] rb (λ_ _ e _=>e) (sZ _ _ eT) rb (λk a ds (h:([]:List Addr)[k]?=some a) _=>by rw[List.getElem?_nil]at h;cases h)) (λi σ H8 _ h=>?_) ?_ ?_))
  .let⟨_,_,_,kp,_⟩:=h;show bI.of (kp _ _ eZ ZT)
  .intro i x σ H8 hx z;let⟨v,as,rfl,kp8,I,hal,hch⟩:=z;let⟨a,es,rfl,hes,ha7,hel⟩:=get hx;let aT:a≠T:=Bh ha7 (sZ _ _ eT) λz=>by
    injection z with z;cases es with| nil=>simp at hel;lia| cons e es=>cases z
   let ha8:=kp8 _ _ ha7 aT;let qM:(Ts (ones es)).length=r*w:=by rw[aa,aa,hel]
   let hi2:i<2:=(al.mp hx).1;calc⟨.inl ⟨rb,_,bI.of I⟩,aK a _ rb (.inl (bI.of ha8)) (BJ r w (by rw[qM]) r1 r9 w1 w9 (λN hN=>?_))⟩;refine VB (λi ys H9=>ys=Ts ((List.range i).map λi=>(es.drop (i*w)).take w)/\H9 N=some (.lst ys)/\aD H8 H9) (bY rb au (aD.upd hN)) ?_ ?_
   .intro k ys H9 hk z;let⟨rfl,hN9,Uw⟩:=z;let e1:(0:Int)+(k:Int)*(w:Int)=((k*w:Nat):Int):=by push_cast;lia
    let e2:(0:Int)+(k:Int)*(w:Int)+(w:Int)=((k*w+w:Nat):Int):=by push_cast;lia
    let hik:k*w+w<=r*w:=by have:(k+1)*w<=r*w:=rj w hk;rw[qr]at this;show this
    calc⟨rb,aM _ rb (aK _ _ rb rb (aM _ rb (aK a _ rb (bI.of (Uw _ _ ha8)) (λt ht=>?_))))⟩;let ec:jo (Ts (ones es)) (some ((0:Int)+(k:Int)*(w:Int))) (some ((0:Int)+(k:Int)*(w:Int)+(w:Int)))=Ts (ones ((es.drop (k*w)).take w)):=by rw[e2,e1,afz t6 (by rw[qM];show hik),iP];simp only[Ts,ones,List.map_take,sr]
    let ajB:((es.drop (k*w)).take w).length=w:=by rw[ay,bv];lia
    let s3:=Uw.dU (o:=HO.lst (jo (Ts (ones es)) (some ((0:Int)+(k:Int)*(w:Int))) (some ((0:Int)+(k:Int)*(w:Int)+(w:Int))))) (Uw.free ht);let nLt:N≠t:=bB hN9 ht;calc(dF t (ones ((es.drop (k*w)).take w)) rb rb (bI.of (by rw[au,ec])) (by rw[mD,ajB];lia) ?_);rw[mD];calc(bY (by rw[aY nLt];show hN9) (by rw[aa,aa,List.length_range];show aJ t6) (iK.mk hk (bY ?_ au (s3.dU hN))));rw[tJ,cq];simp[Ts]
   .intro ys H9 z;let⟨rfl,hN9,Uw⟩:=z;calc(eU N _ rb (.inl ⟨bI.of hN9,λt ht=>?_⟩));let st:aD H8 (upd H9 t (HO.tup (Ts (chunk r w es)))):=Uw.dU (Uw.free ht);let et:upd H9 t (HO.tup (Ts (chunk r w es))) t=some (.tup (Ts (chunk r w es))):=au;let hT9:=st _ _ I;let tT:t≠T:=(bB (Uw _ _ I) ht).symm;calc(d7 T _ (.ref t) rb rb hT9 (aJ (by rw[aa,hal];lia)) ?_);calc(dF _ (as++[t]) rb (λb o e n=>by rw[aY n];show st _ _ (kp8 _ _ e n)) (by rw[au];simp) (by simp[hal]) (λk b ds' h1 h2=>?_));by_cases hk:k<as.length
    .rw[eW hk]at h1;have:=hch k b ds' h1 h2;rw[aY (Bh this I λz=>nomatch z)];show st _ _ this
    .let hk2:=(al.mp h1).1;rw[av]at hk2;let hk0:k=as.length:=by simp at hk2;lia
     subst hk0;rw[dP (ai _),me]at h1;cases h1;rw[hal,hes]at h2;cases h2;rw[aY tT];show et
  .intro σ H8 z;let⟨v,as,rfl,kp8,I,hal,hch⟩:=z
   match as,hal with| [pr,pm],_=>have h1:=hch 0 pr cs rb rfl;let h2:=hch 1 pm F rb rfl;calc(bA T _ _ (.ref pr) rb rb (bI.of I) (aV (j:=0) rb) (iy T _ _ (.ref pm) rb rb (bI.of I) (aV (j:=1) rb) (zsz 3) (λt ht=>?_)));let sE:aD H8 (upd H8 t (HO.tup [V.ref pr,V.ref pm,V.ref pb])):=aD.upd ht;let pbT:pb≠T:=bB eB hT;refine q t pr pm pb r w (chunk r w cs) (chunk r w F) (c/38400%r).toNat (c/345600%w).toNat _ (λb o e=>sE _ _ (kp8 _ _ (Pk _ _ (sm _ _ e)) (bB e fT))) au (sE _ _ h1) (sE _ _ h2) (sE _ _ (kp8 _ _ (sZ _ _ (sT _ _ eB)) pbT)) ⟨r1,r9,w1,w9,Ph J,Ph O,Pj Yn,Pj hmk,t6,t6⟩
structure Ld where
 r:Nat
 w:Nat
 aA:List (List Nat)
 aN:List (List Nat)
 bi:Nat
 bj:Nat
 ws:List (List Nat)
 kvs:List (Key×V)
 bn:Int
 bm:Int
 size:Nat
 racks:List (List Nat)
 bag:List Nat
structure Ce (C:Addr)(H:Hp)(p pw:Addr)(Z:Ld):Prop where
 ex:∃b d pb pr,H p=some (.tup [.ref b,.ref pw,.ref d,.ref pb,.int Z.size,.ref pr,.str (S Z.bag)])/\cX C H b Z.r Z.w Z.aA Z.aN Z.bi Z.bj/\H d=some (.dK Z.kvs)/\H pb=some (.tup [.int Z.bn,.int Z.bm])/\H pr=some (.tup (Ts Z.racks))
 wl:H pw=some (.lst (Ts Z.ws))
structure aeJ (Z:Ld):Prop where
 w1:4<=Z.ws.length
 w2:Z.ws.length<=12
 wz:∀l∈Z.ws,zL l
 wd:WD Z.kvs
 wb:WB 1000000 Z.kvs
 s1:1<=Z.size
 s7:Z.size<=7
 n1:1<=Z.racks.length
 n4:Z.racks.length<=4
 r7:∀l∈Z.racks,l.length<=Z.size/\∀c∈l,pX c
 b6:Z.bag.length<=60
 bt:∀c∈Z.bag,pX c
 bm0:0<=Z.bm
def Ux {l:List Nat}{lo hi:Option Int}{c:Nat}(h:c∈jd l lo hi):c∈l:=eI (de h)
def adE {l:List Nat}{a:Nat}{b:Int}{n:Nat}(h0:0<=b)(h:b<=a+n):(jd l (some (a:Int)) (some b)).length<=n:=by let⟨b,rfl⟩:=kU h0;unfold jd;rw[ay,bv,HT.lO,HT.lO];lia
def Uy (K:W.Frag)(C:Addr):Sp:=λvs H Q _=>∃(a:Addr) (ns:List Int),vs=[.ref a]/\bI K H a (ns.map V.int)/\∀(p pw:Addr) (Z:Ld) (H':Hp),aD H H'->H pw=none->Ce C H' p pw Z->aeJ Z->Q (.ref p) H'
def adF {C f0:Addr}{eV:FuncData}(D:aO K mg "_law_parts" G7 ["_law_script"])(dN:mg "range"=none)(bC:mg "len"=none)(cI:mg "tuple"=none)(tV:mg "min"=none)(IV:mg "Board"=some (.ref C))(MF:Mk K C f0)(MJ:cB P w K mg base dH 5 f0 eV ["self","rows","marks","begin"] (Mw C))(MN:bT K eV ["self","rows","marks","begin"] [])(rW:cu P w K mg base "_law_cell_at" 1 ["_law_script","_law_k"] (abl K))(abV:cu P w K mg base "_law_letters" 1 ["_law_cell"] abU)(afX:cu P w K mg base "_law_words" 2 ["_law_cell","_law_letters_here"] Uu)(aip:cu P w K mg base "_law_rows" 2 ["_law_cell","_law_letters_here"] Ym)(afY:cu P w K mg base "_law_tiles" 2 ["_law_cell","_law_letters_here","_law_many","_law_blanks"] Uv):cu P w K mg base "_law_parts" 7 ["_law_script"] (Uy K C):=by
 calc D.dM fH (λf bN A outer s H vs Q E I h=>?_);let⟨a,ns,rfl,hS,q⟩:=h;let hu:=Qw I;calc(aM _ (aB (aX (i:=1) fH.nd rb (Or.inl rb) (bK abV I.mono rb (aj (bK rW I.mono rb (aj aG (aj aq ao))) ao))) (aB (aX (i:=2) fH.nd rb (Or.inl rb) (bK rW I.mono rb (aj aG (aj aq ao)))) (aB (aX (i:=3) fH.nd rb (Or.inl rb) (aL cY aq (aL b_ bG aq))) (aB (aX (i:=4) fH.nd rb (Or.inl rb) (aL cY aq (aL b_ (aL cP bG aq) aq))) (aB (aX (i:=5) fH.nd rb (Or.inl rb) (aL jE aq bJ)) (aB (jj (cJ (bU jD (aL b_ (aL cP bG aq) aq) aq (bO _)) (aF (aX (i:=5) fH.nd rb (Or.inl rb) (aL b_ (aL cP bG aq) aq))) bR)) (aB (jj (cJ (bU jD (aL b_ (aL cP bG aq) aq) aq (bO _)) (aF (aX (i:=5) fH.nd rb (Or.inl rb) (aL b_ (aL cP bG aq) aq))) bR)) (aB (aX (i:=6) fH.nd rb (Or.inl rb) (bK afY I.mono rb (aj (bK rW I.mono rb (aj aG (aj aq ao))) (aj aZ (aj (aL cY (aL jE dI bJ) fj) (aj aq ao)))))) (aB (aX (i:=7) fH.nd rb (Or.inl rb) (jU ao)) (aB (fP dr rb (lZ ue dN (aj dI ao)) (cj (i:=8) fH.nd rb (Or.inl rb)) (aB (aX (i:=9) fH.nd rb (Or.inl rb) (aL cP (aL b_ (aL Im (bK rW I.mono rb (aj aG (aj aq ao))) (aL cY mX aq)) aq) aq)) (aF (eE (gq dE fe fg jT jl (aj (fD vQ fU (fG (aL jE mX bJ)) (fG (aL qJ (aL jE (aL cY mX aq) bJ) (aW (Ob rb) ue tV qf (aj mY (aj (aL qJ bJ aq) ao)))))) ao)))))) (aB (jj (cJ (bU jD (aL b_ (aL cP bG aq) aq) aq (bO _)) (aF (xP (bL [] uj) (J1 jl (aL b_ (aL cP bG aq) dI) set_list))) bR)) (aB (aX (i:=10) fH.nd rb (Or.inl rb) Rt) (aB (fP dr rb (vH (fD vQ aZ ji (fG (aL cY aq (aL b_ (aL cP bG aq) aq))))) (cj (i:=11) fH.nd rb (Or.inl rb)) (aF (W6 hu nD pC (aL cY (aL b_ (aL Im bG (aL cY (aW aaT ue bC aE (aj nD ao)) aq)) aq) (aL b_ (aL cP bG aq) (aL Rh aq aq))) rb))) (aB (aX (i:=12) fH.nd rb (Or.inl rb) (dJ (aj (aL cY aq (aL b_ (aL cP bG aq) aq)) (aj (aL b_ (aL cP bG aq) aq) ao)))) (aB (xP (bK aip I.mono rb (aj (bK rW I.mono rb (aj aG (aj aq ao))) (aj aZ ao))) (vD rb (dz (cj (i:=13) fH.nd rb (Or.inl rb)) (dz (cj (i:=14) fH.nd rb (Or.inl rb)) (dz (cj (i:=15) fH.nd rb (Or.inl rb)) rK))))) (aB (aX (i:=16) fH.nd rb (Or.inl rb) (rM MF MJ I.mono rb IV MN .nil dO (aj (qv 13) (aj (qv 14) (aj (qv 15) ao))))) (aB (aX (i:=17) fH.nd rb (Or.inl rb) (bK afX I.mono rb (aj (aL cP (bK rW I.mono rb (aj aG (aj aq ao))) aq) (aj aZ ao)))) (aF (bD (dJ (aj (qv 16) (aj (qv 17) (aj nD (aj (qv 12) (aj bJ (aj (gR iW ue cI c_ (aj jl ao)) (aj (fD vQ fU (fG (aL jE dI bJ)) ji) ao))))))))))))))))))))))))))) ?_);calc(qW a ns 0 rb hS (λv0=>(aM v0 rb (λls hA h4=>?_))));let a1:=hA.lo;let hz:ls.length<=sizeLine:=am (aJ t6);calc(qW a ns 1 rb hS (λc=>?_));calc(aQ _ _ rb rb (by show (0:Int)<7;decide) (aK _ _ rb rb ?_));calc(aQ _ _ rb rb ⟨t9,t9⟩ (aQ _ _ rb rb (by show (0:Int)<4;decide) (aK _ _ rb rb ?_)));calc(aQ _ _ rb rb (.inl ⟨t9,t9⟩) ?_);refine⟨λσ H'=>H'=H/\∃size j few:Nat,σ=[some (.ref a),some (.str (S ls)),some (.int c),some (.int size),some (.int j),some (.int few),none,none,none,none,none,none,none,none,none,none,none,none]/\1<=size/\size<=7/\1<=j/\j<=4/\few<=60,?_,?_⟩
 .calc(aQ _ _ rb rb ⟨t9,t9⟩ (dF _ _ rb rb (by show (0:Int)<4;decide) rb (bh _ rb ?_)));refine jt (λ_=>?_) (λ_=>?_)
  .calc(aQ _ _ rb rb ⟨t9,t9⟩ (dF _ _ rb rb (by show (0:Int)<4;decide) rb (uO ((1+c%7).toNat) ((1+c/7%4).toNat) ((c/112%4).toNat) ?_ t6 t6 t6 t6 t6)));rw[cK t6,cK t6,cK t6];rfl
  .calc⟨rb,uO ((1+c%7).toNat) ((1+c/7%4).toNat) ((2*(1+c%7)).toNat) ?_ t6 t6 t6 t6 t6⟩;rw[cK t6,cK t6,cK t6];rfl
 intro σ H' z;let⟨rfl,size,j,akm,rfl,z1,z7,m1,m4,f60⟩:=z;refine⟨λσ H2=>H2=H'/\∃few:Nat,σ=[some (.ref a),some (.str (S ls)),some (.int c),some (.int size),some (.int j),some (.int few),none,none,none,none,none,none,none,none,none,none,none,none]/\few<=60,?_,?_⟩
 .calc(aQ _ _ rb rb ⟨t9,t9⟩ (dF _ _ rb rb (by show (0:Int)<8;decide) rb (bh _ rb ?_)));refine jt (λ_=>?_) (λ_=>?_)
  .calc(aQ _ _ rb rb ⟨t9,t9⟩ (dF _ _ rb rb (by show (0:Int)<60;decide) rb (aM ((c/224%60).toNat) ?_ t6)));rw[cK t6];rfl
  .show⟨rb,aM akm rb f60⟩
 intro σ H2 z;let⟨rfl,few,rfl,akN⟩:=z;let hms:j*size<=28:=io m4 z7;let ems:(j:Int)*(size:Int)=((j*size:Nat):Int):=by push_cast;rfl
 calc(qW a ns 2 rb hS (λv2=>?_));calc(aQ _ _ rb rb (.inl ⟨t6,t6⟩) (aK _ _ rb rb (gC v2 2 ls (j*size+few) (by show [V.int v2,V.str (S ls),V.int ((j:Int)*(size:Int)+(few:Int)),V.int 2]=_;rw[ems];rfl) hA t6 (λtl H1 s1 htl htt=>?_))));let hzt:tl.length<=sizeLine:=am (aJ t6);calc⟨zsz 0,λL hL=>?_⟩;let sL:aD H1 (upd H1 L (HO.lst [])):=aD.upd hL;let eL:upd H1 L (HO.lst []) L=some (.lst (Ts [])):=au;calc(iM _ rb t6 t6 ?_);rw[c9];refine jR (n:=j) (lo:=0) (λi σ H3=>∃(v8 v9:Option V) (rs:AA),σ=[some (.ref a),some (.str (S ls)),some (.int c),some (.int size),some (.int j),some (.int few),some (.str (S tl)),some (.ref L),v8,v9,none,none,none,none,none,none,none,none]/\aD H1 H3/\H3 L=some (.lst (Ts rs))/\rs.length=i/\∀l∈rs,l.length<=size/\∀c∈l,pX c)
  (d7 none none [] rb sL eL rb (λl h=>by cases h)) ?_ ?_
 .intro i σ H3 hi z;let⟨v8,v9,rs,rfl,sm,wk,G,F⟩:=z;calc(qW a ns 2 rb (sm.seq (s1.seq hS)) (λv3=>?_));refine(aK _ _ rb rb (aQ _ _ rb rb ⟨by show (0:Int)<_;lia,?_⟩ (aQ _ _ rb rb (by show (0:Int)<5;decide) (aQ _ _ rb rb ⟨t9,t9⟩ ?_))))
  .calc gp (Nat.log2_le_self _) ?_;show ((0:Int)+(i:Int)+2).natAbs<9000;lia
  let his:(i+1)*size<=j*size:=rj size hi;let e1:((0:Int)+(i:Int))*(size:Int)=((i*size:Nat):Int):=by push_cast;rw[nL]
  let e2:((0:Int)+(i:Int)+1)*(size:Int)=((i*size+size:Nat):Int):=by push_cast;rw[nL,Int.add_mul];lia
  let t0:0<=v3/((0:Int)+(i:Int)+2)%5/4:=t6;let t1:v3/((0:Int)+(i:Int)+2)%5/4<=1:=t6;calc⟨.inl ⟨rb,_,bI.of wk⟩,aQ _ _ rb rb (.inl ⟨t6,t6⟩) (aM _ rb (aK _ _ rb rb (aQ _ _ rb rb (.inl ⟨t6,t6⟩) (aK _ _ rb rb (eU _ _ rb (aK _ _ rb rb (aM _ rb (bH tl rb hzt ?_))))))))⟩;rw[e1,e2];generalize v3/((0:Int)+(i:Int)+2)%5/4=dl at t0 t1 ⊢;let hmn:0<=(if (size:Int)-1<dl then (size:Int)-1 else dl)/\(if (size:Int)-1<dl then (size:Int)-1 else dl)<=(size:Int)-1:=by split <;> lia
  generalize (if (size:Int)-1<dl then (size:Int)-1 else dl)=dm at hmn ⊢;calc(d7 L _ _ rb rb wk (aJ (by rw[aa];lia)) ?_);calc(d7 _ _ (rs++[jd tl (some ((i*size:Nat):Int)) (some (((i*size+size:Nat):Int)-dm))]) rb (sm.dU hL) (by rw[au,Mt]) (by simp[G]) (λl hl=>?_));rcases be.mp hl with z|z;.show F l z
  .rw[a_.mp z];show⟨adE t6 t6,λc hc=>htt c (Ux hc)⟩
 intro σ H3 z;let⟨v8,v9,rs,rfl,sm,wk,G,F⟩:=z;refine⟨λσ H4=>∃(rs:AA),σ=[some (.ref a),some (.str (S ls)),some (.int c),some (.int size),some (.int j),some (.int few),some (.str (S tl)),some (.ref L),v8,v9,none,none,none,none,none,none,none,none]/\aD H1 H4/\H4 L=some (.lst (Ts rs))/\rs.length=j/\∀l∈rs,l.length<=size/\∀c∈l,pX c,?_,?_⟩
 .calc(aQ _ _ rb rb ⟨t9,t9⟩ (dF _ _ rb rb (by show (0:Int)<8;decide) rb (bh _ rb ?_)));calc jt (λ_=>?_) (λ_=>(oY rs rb sm wk G F));let b0:=ej (c/8072) (show (j:Int)≠0 by lia);let b1:=eQ (c/8072) (show (0:Int)<j by lia);let qM:(Ts rs).length=j:=by rw[aa,G]
  refine(aQ _ _ rb rb ⟨t9,t9⟩ (aQ _ _ rb rb (by show (0:Int)<_;lia) (bA L _ _ ((c/8072%(j:Int)).toNat) rb rb wk ?_ ?_)))
  .unfold yI;rw[qM,if_pos t6,if_pos t6]
  .rw[Ua];calc(oY (rs.set (c/8072%(j:Int)).toNat []) rb (sm.dU hL) au (by rw[gf];show G) (λl hl=>?_));rcases fR hl with e|e;.show F l e
   .rw[e];show⟨eD _,λc h=>by cases h⟩
 intro σ H4 z;let⟨rs,rfl,Kz,Al,G,F⟩:=z;calc λd hd=>?_;let sD:aD H4 (upd H4 d (HO.dK [])):=aD.upd hd;calc(aQ _ _ rb rb ⟨t9,t9⟩ (aQ _ _ rb rb (by show (0:Int)<4;decide) (aK _ _ rb rb (aM _ rb (bH ls rb hz (aM (jd ls none (some (1+c/5%4))) rb ?_))))));let hcl:(jd ls none (some (1+c/5%4))).length<=4:=by unfold jd;rw[ay,bv];lia
 refine LR (λi σ H5=>∃(v11:Option V) (kvs:List (Key×V)),σ=[some (.ref a),some (.str (S ls)),some (.int c),some (.int size),some (.int j),some (.int few),some (.str (S tl)),some (.ref L),v8,v9,some (.ref d),v11,none,none,none,none,none,none]/\aD H4 H5/\H5 d=some (.dK kvs)/\WD kvs/\WB 1000000 kvs/\kvs.length<=i)
  (BJ none [] rb sD au (λkv m=>nomatch m) (λc=>⟨by show (0:Int)<=0;decide,by show (0:Int)<=1000000;decide⟩) (ai _)) ?_ ?_
 .intro i x σ H5 hx z;let⟨v11,kvs,rfl,qD,Z,hW,hB,hkl⟩:=z;let hi:=(al.mp hx).1;let⟨c1,c2⟩:=hA.az _ (Ux (b8 hx));refine(aK d kvs rb Z (aK _ _ rb rb (aQ _ _ rb rb ⟨by show (0:Int)<_;lia,?_⟩ (aQ _ _ rb rb (by show (0:Int)<12;decide) (aQ _ _ rb rb ⟨t9,t9⟩ (aQ _ _ rb rb (bY t9 t9 t9) (aQ _ _ rb rb (by show (0:Int)<10^5;decide) (aK _ _ rb rb (aK d _ rb (Il.k (k:=cZ [x]) Z (aJ t6)) ?_)))))))))
  .calc gp (Nat.log2_le_self _) ?_;show ((kvs.length:Int)+3).natAbs<9000;lia
  let b0:=ej (c/((kvs.length:Int)+3)) (show (12:Int)≠0 by decide);let b1:=eQ (c/((kvs.length:Int)+3)) (show (0:Int)<12 by decide);let b2:=ej (c/1000003) (show (10:Int)^(5:Int).toNat≠0 by decide);let b3:=eQ (c/1000003) (show (0:Int)<(10:Int)^(5:Int).toNat by decide);let b4:(10:Int)^(5:Int).toNat=100000:=by decide
  rw[b4]at b2 b3;refine(BJ _ _ rb (qD.dU hd) au (hW.put _ c1 c2) (hB.put ?_ ?_) (bS (zF _ _ _) t6))
  .show (0:Int)<=c/((kvs.length:Int)+3)%12+c/1000003%(10:Int)^(5:Int).toNat;rw[b4];lia
  .show c/((kvs.length:Int)+3)%12+c/1000003%(10:Int)^(5:Int).toNat<=1000000;rw[b4];lia
 intro σ H5 z;let⟨v11,kvs,rfl,qD,Z,hW,hB,hkl⟩:=z;calc(aQ _ _ rb rb ⟨t9,t9⟩ (aQ _ _ rb rb (by show (0:Int)<7;decide) (aK _ _ rb rb (aQ _ _ rb rb ⟨t9,t9⟩ (dF _ _ rb rb (by show (0:Int)<60;decide) (zsz 2) (λpb hpb=>?_))))));let sB:aD H5 (upd H5 pb (HO.tup [V.int (1+c/11%7),V.int (c/13%60)])):=aD.upd hpb;let eB:upd H5 pb (HO.tup [V.int (1+c/11%7),V.int (c/13%60)]) pb=some (.tup [V.int (1+c/11%7),V.int (c/13%60)]):=au;generalize upd H5 pb (HO.tup [V.int (1+c/11%7),V.int (c/13%60)])=H6 at sB eB ⊢;let s16:aD H1 H6:=(Kz.trans qD).trans sB;let HS:aD H2 H6:=s1.trans s16;calc(qW a ns 3 rb (HS.seq hS) (λv4=>?_));calc(aK v4 ls rb hA (λt pr pm pbg r w aA aN bi bj H7 s7 ht Y O aae hBr=>?_));calc(aQ t _ rb (aU.of ht) rb (eU _ _ rb (eU _ _ rb (aK _ _ rb rb ?_))));calc(λb dxb J nb2 nb3=>?_);calc⟨b,dxb,pr,pm,pbg,r,w,aA,aN,bi,bj,rb,au,?_,?_,?_,hBr,λH8 k8 e8=>⟨rb,?_⟩⟩;.rw[aY (bB Y J),aY (bB Y nb2)];show Y
 .rw[aY (bB O J),aY (bB O nb2)];show O
 .rw[aY (bB aae J),aY (bB aae nb2)];show aae
 let s8:aD H7 H8:=λx o h=>k8 x o (by rw[aY (bB h J),aY (bB h nb2)];show h) (bB h J);let BA:cX C H8 b r w aA aN bi bj:=⟨(gC dxb pr pm pbg e8 (s8 _ _ Y) (s8 _ _ O) (s8 _ _ aae)),hBr⟩
 let Pn:aD H2 H8:=(HS.trans s7).trans s8;calc(qW a ns 0 rb (Pn.seq hS) (λv5=>?_));calc(aQ _ _ rb rb ⟨t9,t9⟩ (aK _ ls rb hA (λpw ws H9 s9 fpw Yo hw4 akn hwz=>?_)));let s69:aD H6 H9:=(s7.trans s8).trans s9;let hL9:=s69 _ _ (sB _ _ (qD _ _ Al));calc(eU L _ rb (.inl ⟨bI.of hL9,λPq ako=>?_⟩));let sR:aD H9 (upd H9 Pq (HO.tup (Ts rs))):=aD.upd ako;let eR:upd H9 Pq (HO.tup (Ts rs)) Pq=some (.tup (Ts rs)):=au;generalize upd H9 Pq (HO.tup (Ts rs))=HA at sR eR ⊢;calc(aQ _ _ rb rb (.inl ⟨t6,t6⟩) (aM _ rb (iM tl rb hzt (zsz 7) (λp hp=>?_))));let eP:upd HA p (HO.tup [V.ref b,V.ref pw,V.ref d,V.ref pb,V.int size,V.ref Pq,V.str (S (jd tl (some ((j:Int)*(size:Int))) none))]) p=some (.tup [.ref b,.ref pw,.ref d,.ref pb,.int size,.ref Pq,.str (S (tl.drop (j*size)))]):=by rw[au,ems,pY]
 let sP:=aD.upd hp (o:=HO.tup [V.ref b,V.ref pw,V.ref d,V.ref pb,V.int size,V.ref Pq,V.str (S (jd tl (some ((j:Int)*(size:Int))) none))]);let s9P:=sR.trans sP;let s6P:=s69.trans s9P;calc q p pw ⟨r,w,aA,aN,bi,bj,ws,kvs,1+c/11%7,c/13%60,size,rs,tl.drop (j*size)⟩ _ (HS.trans s6P) ?_ ⟨(bA b d pb Pq eP ((BA.mv s9).mv s9P) (s6P _ _ (sB _ _ Z)) (s6P _ _ eB) (sP _ _ eR)),s9P _ _ Yo⟩ ⟨hw4,akn,hwz,hW,hB,z1,z7,by show 1<=rs.length;lia,by show rs.length<=4;lia,F,by show (tl.drop _).length<=60;rw[bv];lia,λc hc=>htt c (eI hc),by show 0<=c/13%60;lia⟩;cases e:H2 pw with| none=>rfl| some o=>rw[Pn _ _ e]at fpw;cases fpw
structure aaf (C:Addr)(H:Hp)(p:Addr)(z:Std)(dn ps:Nat)(ov:Bool):Prop where
 ex:∃b pr pp,H p=some (.tup [.ref b,.ref pr,.str (S z.bag),.ref pp,.int dn,.int ps,.bl ov])/\cX C H b z.r z.w z.aA z.aN z.bi z.bj/\H pr=some (.tup (Ts z.racks))/\H pp=some (.tup (z.iD.map V.int))
def beg (Z:Ld):Std:=⟨Z.r,Z.w,Z.aA,Z.aN,Z.bi,Z.bj,Z.racks.map dh,Z.bag,List.replicate Z.racks.length 0⟩
def Yp (C:Addr):Sp:=λvs H Q _=>∃(p pw:Addr) (Z:Ld),vs=[.ref p]/\Ce C H p pw Z/\aeJ Z/\∀j H',aD H H'->aaf C H' j (beg Z) 0 0 false->Q (.ref j) H'
def adG {C:Addr}(D:aO K mg "_law_begun" G8 ["_law_parts_here"])(cI:mg "tuple"=none)(gk:mg "sorted"=none)(bC:mg "len"=none):cu P w K mg base "_law_begun" 1 ["_law_parts_here"] (Yp C):=by
 calc D.dM Iu (λf bN A outer s H vs Q E hr h=>?_);let⟨p,pw,Z,rfl,A0,O,q⟩:=h;let⟨b,d,pb,pr,hp,hB,hd,hpb,Y⟩:=A0.ex;let n1:=O.n1;let n4:=O.n4;let z7:=O.s7;calc(aM _ (aB (aX (i:=1) Iu.nd rb (Or.inl rb) (gR iW ue cI c_ (aj (jG rb (ju.of Iu.nd ui) (iB (bf bF aG aq (λ_ _=>rfl))) (λ_ _ _ _ _=>eG) (λ_ _ _ _ _=>(RJ K bz di dq (Io K) (bL [] uj) (aj (aW (Dm rb) ue gk gT (aj aG ao)) ao)))) ao))) (aF (bD (dJ (aj (bf bF aG aq (λ_ _=>rfl)) (aj aZ (aj (bf bF aG aq (λ_ _=>rfl)) (aj (aL Xm (dJ (aj aq ao)) (aW bZ ue bC aE (aj aZ ao))) (aj aq (aj aq (aj iY ao))))))))))) ?_);refine(bA p _ _ (.ref pr) rb rb (aU.of hp) (aV (j:=5) rb) (bH pr rb ⟨_,aU.of Y⟩ (λL hL=>pH (xs:=Ts Z.racks) (λi ys F=>ys=Ts ((Z.racks.take i).map dh)/\F L=some (.lst ys)/\aD H F) (bY rb au (aD.upd hL)) (λi ys F _ h=>aU.of (h.2.2 _ _ Y)) ?_ ?_)))
 .intro i x ys F hi z;let⟨rfl,Lb,sm⟩:=z;let⟨l,hl,rfl⟩:=yg hi;let G:i<(Ts Z.racks).length:=(al.mp hi).1;let hir:i<Z.racks.length:=by rw[aa]at G;show G
  let hl7:=(O.r7 l (b8 hl)).1;calc⟨rb,bH l rb t6 (λp2 us hp2 pm pw=>?_)⟩;calc(dF p2 (us.map λc=>[c]) rb rb (bI.of au) ?_ ?_);.rw[mD,pm.length_eq];lia
  .rw[Ax (pm.map λc=>[c]) pw];let s8:=aD.upd hp2 (o:=HO.lst (Ts (us.map λc=>[c])));calc(bY (s8 _ _ Lb) ?_ (iK.mk G (bY ?_ au ((sm.trans s8).dU hL))));.rw[aa,aa,ay];show aJ t6
   .rw[take_snoc hl];simp only[Ts,cq];rfl
 .intro ys F z;let⟨rfl,Lb,sm⟩:=z;rw[aa,cS]at Lb;calc(eU L _ rb (.inl ⟨bI.of Lb,λtp ht=>?_⟩));let s8:aD F (upd F tp (.tup (Ts (Z.racks.map dh)))):=aD.upd ht;let Yk:upd F tp (.tup (Ts (Z.racks.map dh))) tp=some (.tup (Ts (Z.racks.map dh))):=au;generalize upd F tp (HO.tup (Ts (Z.racks.map dh)))=H8 at s8 Yk ⊢;let Pn:=sm.trans s8;calc(bA p _ _ (.ref b) rb rb (aU.of (Pn _ _ hp)) (aV (j:=0) rb) (iy p _ _ (.str (S Z.bag)) rb rb (aU.of (Pn _ _ hp)) (aV (j:=6) rb) (zsz 1) (λJ e0=>?_)));let s9:aD H8 (upd H8 J (HO.tup [V.int 0])):=aD.upd e0;let ep0:upd H8 J (HO.tup [V.int 0]) J=some (.tup [V.int 0]):=au;generalize upd H8 J (HO.tup [V.int 0])=H9 at s9 ep0 ⊢;calc(aK tp _ rb (.inr (aU.of (s9 _ _ Yk))) ⟨J,_,Z.racks.length,rb,by rw[aa,aa],ep0,t7,n1,t6,by show 1<=100;decide,λpp HA sA hpp=>?_⟩);let Fj:HA pp=some (.tup ((List.replicate Z.racks.length (0:Int)).map V.int)):=by rw[hpp];simp
  let I:=(Pn.trans s9).trans sA;calc⟨zsz 7,λp' hp'=>?_⟩;let sP:=aD.upd hp' (o:=HO.tup [V.ref b,V.ref tp,V.str (S Z.bag),V.ref pp,V.int 0,V.int 0,V.bl false]);show q p' _ (I.trans sP) ⟨b,tp,pp,au,(hB.mv I).mv sP,sP _ _ (sA _ _ (s9 _ _ Yk)),sP _ _ Fj⟩
def Bb (a b:Nat×Nat)(l:List (Nat×Nat)):jm (a::b::l)=(ltQ (a,b)&&jm (b::l)):=rfl
theorem Pr {c:Nat×Nat}:∀{cs:List (Nat×Nat)},jm cs=true->(∀d∈cs,ltQ (d,c)=true)->jm (cs++[c])=true
 | [],_,_=>rfl
 | [a],_,h=>by show jm (a::c::[])=true;rw[Bb,h a bX];rfl
 | a::b::l,h1,h2=>by rw[Bb,cn]at h1;show jm (a::b::(l++[c]))=true;rw[Bb,h1.1,Bool.true_and];show Pr (cs:=b::l) h1.2 λd hd=>h2 d (bq _ hd)
def Uz {r w:Nat}{aA:AA}(hb:Blk r w aA)(r1:1<=r){i:Int}(h0:-1<=i)(h1:i<r):∃l,rH (Ts aA) i=some (.str (S l))/\l.length=w:=by
 by_cases hn:0<=i
 .let⟨k,rfl⟩:=kU hn;let D:k<aA.length:=by rw[hb.len];lia
  show(aM (aA[k]) (aV (oK (ae D))) (hb.qC _ (a9 D)))
 .let e:i=-1:=t6;subst e;let j:aA≠[]:=λe=>by subst e;have:=hb.len;simp at this;lia
  calc(aM (aA.getLast j) ?_ (hb.qC _ (List.getLast_mem j)));let e:=r_ j;let e2:Ts aA=Ts aA.dropLast++[.str (S (aA.getLast j))]:=by
   conv=>lhs;rw[<-e]
   simp only[Ts,cq,ce,qA]
  rw[e2];show Ij _ _
def abW:Sp:=λvs H Q _=>∃(pr pl:Addr) (cA word:List Nat) (i0 j wy:Int) (r w:Nat) (aA:AA),vs=[.ref pr,.str (S word),.ref pl,.str (S cA)]/\H pr=some (.tup (Ts aA))/\Blk r w aA/\1<=r/\r<=9/\w<=9/\zL word/\H pl=some (.tup [.int i0,.int j,.int wy])/\-1<=i0/\0<=j/\(wy=0\/wy=1)/\cA.length<=63/\
 ∀(t:Addr) (as:List Addr) (H':Hp),aD H H'->H' t=some (.tup (as.map V.ref))->as.length<=9->(0<=i0->∃ts,fB H' as ts/\(∀t∈ts,inB r w t)/\jm (ts.map kO)=true)->Q (.ref t) H'
def UG (D:aO K mg "_law_candidate" u_ ["_law_rows_here","_law_word","_law_place","_law_rack"])(bC:mg "len"=none)(pO:mg "list"=none)(cI:mg "tuple"=none)(o9:mg "int"=none):cu P w K mg base "_law_candidate" 1 ["_law_rows_here","_law_word","_law_place","_law_rack"] abW:=by
 calc D.dM gU (λf bN A outer s H vs Q E hr h=>?_);let⟨pr,pl,cA,word,i0,j0,wy,r,w,aA,rfl,hpr,hb,r1,r9,w9,hW,hpl,i1,j1,SJ,h63,q⟩:=h;let⟨wo1,wo2,wo3⟩:=hW;let hrl:(Ts aA).length=r:=by rw[aa,hb.len]
 let F:∀H2,aD H H2->∀t,H2 t=none->Q (.ref t) (upd H2 t (.tup [])):=λH2 s2 t ht=>q t [] _ (s2.trans (aD.upd ht)) au (eD _) λ_=>(bH [] ⟨λa h=>(by cases h),rb⟩ (λt h=>(by cases h)) rb)
 calc(aM _ (aB (xP bG (vD rb (dz (cj (i:=4) gU.nd rb (Or.inl rb)) (dz (cj (i:=5) gU.nd rb (Or.inl rb)) (dz (cj (i:=6) gU.nd rb (Or.inl rb)) rK))))) (aB (aX (i:=7) gU.nd rb (Or.inl rb) (gR (Bq rb) ue pO oQ (aj bJ ao))) (aB (aX (i:=8) gU.nd rb (Or.inl rb) (jU ao)) (aB (fP dr rb (vH aZ) (cj (i:=9) gU.nd rb (Or.inl rb)) (aB (cJ (QW.qt (oW (bU JH dI (aW bZ ue bC aE (aj aG ao)) (bO _)) (nC (bU JH fj (aW dw ue bC aE (aj (bf bF aG aq (λ_ _=>rfl)) ao)) (bO _))))) (aF (bD (dJ ao))) bR) (aB (jj (cJ (bU lU (bf sO (bf bF aG dI (λ_ _=>rfl)) fj (λ_ _=>rfl)) (bL [46] uj) (bO _)) (aB (aX (i:=10) gU.nd rb (Or.inl rb) mY) (aB (jj (cJ (bU xO nD jl rb) (aF (aX (i:=10) gU.nd rb (Or.inl rb) (bL [63] uj))) bR)) (aB (cJ (bU xO nD jl rb) (aF (bD (dJ ao))) bR) (aB (eE (gq dE PySem.F.slot_list_remove PySem.F.type_list_remove Oz jl (aj nD ao))) (aF (eE (gq dE fe fg jT mX (aj (dJ (aj dI (aj fj (aj (bf iQ (jU (aj mY (aj (Ea bz PySem.F.slot_str_upper PySem.F.type_str_upper aaZ mY) ao))) (gR Oc ue o9 mh (aj (gK lU nD (bL [63] uj) (bO _)) ao)) (λ_ _=>rfl)) ao)))) ao)))))))) bR)) (aB (aX (i:=4) gU.nd rb (Or.inl rb) (aL cY dI fU)) (aF (aX (i:=5) gU.nd rb (Or.inl rb) (aL qJ (aL cY fj aq) fU))))))) (aF (bD (gR iW ue cI c_ (aj mX ao)))))))) ?_);calc(aQ pl _ rb (aU.of hpl) rb (eU _ _ rb (eU _ _ rb (aK _ _ rb rb ?_))));calc(bH cA rb t6 (λL hL=>?_));let sL:aD H (upd H L (HO.lst (Ts (cA.map λc=>[c])))):=aD.upd hL;let eL:upd H L (HO.lst (Ts (cA.map λc=>[c]))) L=some (.lst (Ts (cA.map λc=>[c]))):=au;generalize upd H L (HO.lst (Ts (cA.map λc=>[c])))=H1 at sL eL ⊢;calc⟨zsz 0,λM hM=>?_⟩;let sM:aD H1 (upd H1 M (HO.lst [])):=aD.upd hM;let eM:upd H1 M (HO.lst []) M=some (.lst (([]:List Addr).map V.ref)):=au;let LM:L≠M:=bB eL hM;let fM:H M=none:=by
  cases e:H M with| none=>rfl| some o=>rw[sL _ _ e]at hM;cases hM
 generalize upd H1 M (HO.lst [])=H2 at sM eM ⊢;let gO:=sL.trans sM;let eL2:=sM _ _ eL;calc(aM word rb ?_);refine LR (λn σ Z=>∃(v9 I:Option V) (j cc:Int) (us:List Nat) (as:List Addr),σ=[some (.ref pr),some (.str (S word)),some (.ref pl),some (.str (S cA)),some (.int j),some (.int cc),some (.int wy),some (.ref L),some (.ref M),v9,I]/\aD H Z/\Z L=some (.lst (Ts (us.map λc=>[c])))/\us.length<=63/\Z M=some (.lst (as.map V.ref))/\as.length<=n/\-1<=j/\0<=cc/\(0<=i0->0<=j/\∃ts,fB Z as ts/\(∀t∈ts,inB r w t)/\jm (ts.map kO)=true/\∀t∈ts,((t.1:Int)<j\/((t.1:Int)=j/\(t.2.1:Int)<cc))))
  ⟨none,none,i0,j0,cA,[],rb,gO,eL2,h63,eM,eD _,i1,j1,λh=>⟨h,iM [] ⟨λa h=>(by cases h),rb⟩ (λt h=>(by cases h)) rb (λt h=>(by cases h))⟩⟩ ?_ ?_
 .intro n c σ Z hc z;let⟨v9,I,j,cc,us,as,rfl,sm,wk,hul,Hy,hal,rr1,cc1,Y⟩:=z;let hn:n<word.length:=(al.mp hc).1;let aag:isLet c:=wo3 c (b8 hc);let Uj:=sm _ _ hpr;calc(aK pr _ rb (.inr (aU.of Uj)) (aK _ _ rb rb (bh _ rb ?_)));calc jt (λ_=>⟨zsz 0,λt ht=>F Z sm t ht⟩) (λhnr=>?_);let hnr:=lv (sN.mpr hnr);rw[hrl]at hnr;let⟨l0,e0,w0⟩:=Uz hb r1 (i:=0) t6 t6;let hz0:l0.length<=sizeLine:=am (aJ t6);calc(bA pr _ _ (.str (S l0)) rb rb (aU.of Uj) e0 (bH l0 rb hz0 (aK _ _ rb rb (bh _ rb ?_))));calc jt (λ_=>⟨zsz 0,λt ht=>F Z sm t ht⟩) (λhnc=>?_);let hnc:=lv (sN.mpr hnc);rw[w0]at hnc;let⟨l,el,wl⟩:=Uz hb r1 (i:=j) rr1 t6;let EY:l.length<=sizeLine:=am (aJ t6);let⟨k,rfl⟩:=kU cc1;let hk:k<l.length:=t6;refine⟨λσ G=>∃(v9 I:Option V) (us:List Nat) (as:List Addr),σ=[some (.ref pr),some (.str (S word)),some (.ref pl),some (.str (S cA)),some (.int j),some (.int k),some (.int wy),some (.ref L),some (.ref M),v9,I]/\aD H G/\G L=some (.lst (Ts (us.map λc=>[c])))/\us.length<=63/\G M=some (.lst (as.map V.ref))/\as.length<=n+1/\(0<=i0->0<=j/\∃ts,fB G as ts/\(∀t∈ts,inB r w t)/\jm (ts.map kO)=true/\∀t∈ts,((t.1:Int)<j\/((t.1:Int)=j/\(t.2.1:Int)<=k))),?_,?_⟩
  .calc(bA pr _ _ (.str (S l)) rb rb (aU.of Uj) el (d7 l _ (l[k]) rb rb EY (aV (ae hk)) (aK [l[k]] [46] rb rb (bh _ rb ?_))));refine jt (λ_=>?_) (λ_=>⟨_,_,us,as,rb,sm,wk,hul,Hy,t6,λh=>?_⟩)
   .calc ?_;refine⟨λσ G=>G=Z/\∃x:Nat,σ=[some (.ref pr),some (.str (S word)),some (.ref pl),some (.str (S cA)),some (.int j),some (.int k),some (.int wy),some (.ref L),some (.ref M),some (.str (S [c])),some (.str (S [x]))]/\(x=c\/x=63),?_,?_⟩
    .calc(dF L _ rb (.inl (bI.of wk)) rb (M7 _) (bh _ rb ?_));show jt (λ_=>⟨rb,aM 63 rb (.inr rb)⟩) (λ_=>⟨rb,aM c rb (.inl rb)⟩)
    intro σ G z;let⟨rfl,x,rfl,hxc⟩:=z;calc(dF L _ rb (.inl (bI.of wk)) rb (M7 _) (bh _ rb ?_));calc jt (λ_=>⟨zsz 0,λt ht=>F G sm t ht⟩) (λdZ=>?_);let dZ:x∈us:=by rw[show (if true then !inV (V.str (S [x])) (Ts (us.map λc=>[c])) else inV (V.str (S [x])) (Ts (us.map λc=>[c])))=!inV (V.str (S [x])) (Ts (us.map λc=>[c])) from rb,abD]at dZ;simpa using dZ
    calc⟨.inl ⟨rb,_,bI.of wk⟩,uO L _ [x] rb rb wk (bu.mpr (aM x dZ rb)) (by rw[aa];lia) ?_⟩;rw[Cd];let s5:aD H (upd G L (HO.lst (Ts ((us.erase x).map λc=>[c])))):=sm.dU hL;let eL5:upd G L (HO.lst (Ts ((us.erase x).map λc=>[c]))) L=some (.lst (Ts ((us.erase x).map λc=>[c]))):=au;let eM5:upd G L (HO.lst (Ts ((us.erase x).map λc=>[c]))) M=some (.lst (as.map V.ref)):=by rw[aY LM.symm];show Hy
    let T5:∀a xs,G a=some (.tup xs)->upd G L (HO.lst (Ts ((us.erase x).map λc=>[c]))) a=some (.tup xs):=λa xs e=>by rw[aY (Bh e wk λz=>nomatch z)];show e
    generalize upd G L (HO.lst (Ts ((us.erase x).map λc=>[c])))=H5 at s5 eL5 eM5 T5 ⊢;calc(bY (.inl ⟨rb,_,bI.of eM5⟩) rb ⟨[c],rb,rb,(by show 1<=1000;decide),(λd hd=>by rw[a_.mp hd];have:=aag.2;lia),zsz 2,λN hN=>?_⟩);let s6:aD H5 (upd H5 N (HO.lst [V.str (S [c]),V.str (S ([c].map PyProof.Rows.up1))])):=aD.upd hN;let eN:upd H5 N (HO.lst [V.str (S [c]),V.str (S ([c].map PyProof.Rows.up1))]) N=some (.lst [V.str (S [c]),V.str (S [PyProof.Rows.up1 c])]):=au;generalize upd H5 N (HO.lst [V.str (S [c]),V.str (S ([c].map PyProof.Rows.up1))])=H6 at s6 eN ⊢;obtain⟨y,hy,ysg⟩:∃y,rH [V.str (S [c]),V.str (S [PyProof.Rows.up1 c])] (if decide ([x]=[63])=true then 1 else 0)=some (.str (S [y]))/\qz y:=by
     by_cases e:x=63
     .calc(aM (PyProof.Rows.up1 c) ?_ ?_);.rw[aw (by rw[e]),if_pos rfl];rfl
      .have:PyProof.Rows.up1 c=c-32:=aeI aag;rw[this];show abn aag
     .calc(aM c ?_ (abm aag));rw[ah (by simpa using e),if_neg t9];rfl
    calc(aK [x] [63] rb rb (.inr (aM _ rb (iy N _ _ (.str (S [y])) rb rb (bI.of eN) hy (zsz 3) (λT hT=>?_)))));let s7:aD H6 (upd H6 T (HO.tup [V.int j,V.int k,V.str (S [y])])):=aD.upd hT;let eT:upd H6 T (HO.tup [V.int j,V.int k,V.str (S [y])]) T=some (.tup [V.int j,V.int k,V.str (S [y])]):=au;generalize upd H6 T (HO.tup [V.int j,V.int k,V.str (S [y])])=H7 at s7 eT ⊢;let J:=s6.trans s7;let eM7:=J _ _ eM5;calc(d7 M _ (.ref T) rb rb eM7 (aJ (by rw[aa];lia)) ?_);calc⟨_,_,us.erase x,as++[T],rb,(s5.trans J).dU fM,?_,?_,?_,?_,λh=>?_⟩;.rw[aY LM];show J _ _ eL5
    .have:=(List.erase_sublist (a:=x) (l:=us)).length_le;lia
    .rw[au];simp
    .rw[av];show iX hal
    .let⟨h0,ts,t1,O,t3,t4⟩:=Y h;let⟨i,rfl⟩:=kU h0;let kT:∀a xs,H7 a=some (.tup xs)->upd H7 M (HO.lst (as.map V.ref++[V.ref T])) a=some (.tup xs):=λa xs e=>by rw[aY (Bh e eM7 λz=>nomatch z)];show e
     refine⟨h0,iM (ts++[(i,k,y)]) (((t1.Ah λa xs e=>kT a xs (J _ _ (T5 a xs e)))).snoc (kT _ _ eT)) (λt ht=>?_) ?_ (λt ht=>?_)⟩
     .rcases be.mp ht with z|z;.show O t z
      .rw[a_.mp z];show(bY (by show i<r;lia) (by show k<w;lia) ysg)
     .rw[cq];calc Pr t3 λd hd=>?_;let⟨t,ht,rfl⟩:=bu.mp hd;let b1:=(O t ht).1;let b2:=(O t ht).2.1;let b3:=t4 t ht;show decide (t.1*1000+t.2.1<i*1000+k)=true;show aw t6
     .rcases be.mp ht with z|z;.have:=t4 t z;lia
      .rw[a_.mp z];show .inr ⟨rb,mE _⟩
   .let⟨h0,ts,t1,O,t3,t4⟩:=Y h;show⟨h0,iM ts t1 O t3 (λt ht=>by have:=t4 t ht;lia)⟩
  .intro σ G z;let⟨v9,I,us,as,rfl,Kz,Al,akp,Hz,akq,akr⟩:=z;calc(aK _ _ rb rb ?_);calc(aK _ _ rb rb (aK _ _ rb rb ?_));calc⟨_,_,j+wy,(k:Int)+1-wy,us,as,rb,Kz,Al,akp,Hz,akq,t6,t6,λh=>?_⟩;let⟨h0,ts,t1,O,t3,t4⟩:=akr h;show⟨t6,iM ts t1 O t3 (λt ht=>by have:=t4 t ht;lia)⟩
 .intro σ Z z;let⟨v9,I,j,cc,us,as,rfl,sm,wk,hul,Hy,hal,rr1,cc1,Y⟩:=z;calc(eU M _ rb (.inl ⟨bI.of Hy,λt ht=>?_⟩));let st:=aD.upd ht (o:=HO.tup (as.map V.ref));calc q t as _ (sm.trans st) au t6 λh=>?_;let⟨h0,ts,t1,O,t3,t4⟩:=Y h;show(bH ts (t1.mv st) O t3)
def dT (t:bQ):Dt:=.tup [.int t.1,.int t.2.1,.str [t.2.2]]
theorem d_.Le {H:Hp}:∀{as:List Addr},(∀a∈as,yj H a (tO H a))->(∀a∈as,(tO H a).2.2<128)->d_ K H 2 ((as.map (tO H)).map dT) (as.map V.ref)
 | [],_,_=>.nil
 | a::as,h1,h2=>.cons (.tup (aU.of (h1 a bX)) (.cons (.int _) (.cons (.int _) (.cons (.str _ λc j=>by rw[a_.mp j];show h2 a bX) .nil)))) (d_.Le (λb hb=>h1 b (bq _ hb)) λb hb=>h2 b (bq _ hb))
def lq.Le {H:Hp}{t:Addr}{as:List Addr}{ts:List bQ}(h:H t=some (.tup (as.map V.ref)))(j:fB H as ts)(hs:∀t∈ts,qz t.2.2):lq K H 3 (.tup (ts.map dT)) (.ref t):=by let e:=j.eq;subst e;show .tup (aU.of h) (d_.Le j.at_ λa ha=>(hs _ (bu.mpr (aM a ha rb))).lt)
theorem abX:∀{cs l:List Nat} {left:AA},Av (l.map λc=>[c]) cs=.inr left->∃j,o_ l cs=some j
 | [],l,left,_=>⟨l,rb⟩
 | c::cs,l,left,h=>by
  unfold Av at h;unfold o_;by_cases hm:fV c∈l
  .rw[if_pos (bu.mpr (aM _ hm rb)),Cd]at h;rw[if_pos hm];show abX h
  .rw[if_neg (λz=>by let⟨d,hd,e⟩:=bu.mp z;cases e;show hm hd)]at h;cases h
def ajC {aA:AA}{r w bi bj:Nat}{ws:AA}{cA:List Nat}{ts:List bQ}(h:tZ aA r w bi bj ws cA ts .ok):∃l,o_ cA (ts.map (·.2.2))=some l:=by
 cases h with| ok h1 h2 h3 h4 h5 h=>let⟨l,hl⟩:=h5;show abX hl
def adH {aA:AA}{ts:List bQ}{bs ws:AA}(h:∀x,x∈bs↔x∈ws):HN aA bs ts=HN aA ws ts:=by
 let e:Jd bs=Jd ws:=funext λq=>by unfold Jd;rw[decide_eq_decide.mpr (h (Tn q))]
 unfold HN;rw[e]
def adI {aA:AA}{r w bi bj:Nat}{bs ws:AA}{cA:List Nat}{ts:List bQ}(e:∀x,x∈bs↔x∈ws)(h:tZ aA r w bi bj bs cA ts .ok):tZ aA r w bi bj ws cA ts .ok:=by
 cases h with| ok h1 h2 h3 h4 h5 h=>show .ok h1 h2 h3 h4 h5 (by rw[<-adH e];show h)
structure aah (aA:AA)(r w bi bj:Nat)(ws:AA)(cA:List Nat)(ts:List bQ):Prop where
 yw:∀t∈ts,inB r w t
 h0:0<ts.length
 h7:ts.length<=7
 ri:jm (ts.map kO)=true
 vd:tZ aA r w bi bj ws cA ts .ok
def abY (C CB:Addr):Sp:=λvs H Q _=>∃(b k kd pw:Addr) (bs ws:AA) (cA:List Nat) (c:Int) (r w:Nat) (aA aN:AA) (bi bj:Nat),vs=[.ref b,.ref k,.ref pw,.str (S cA),.int c]/\cX C H b r w aA aN bi bj/\iC CB H k kd bs/\H pw=some (.lst (Ts ws))/\1<=ws.length/\(∀l∈ws,zL l)/\cA.length<=63/\
 ∀(t:Addr) (as:List Addr) (ts:List bQ) (H':Hp),aD H H'->H' t=some (.tup (as.map V.ref))->fB H' as ts->(ts=[]\/aah aA r w bi bj bs cA ts)->Q (.ref t) H'
open Classical in
def abZ {C CB f1:Addr}{dY:FuncData}(D:aO K mg "_law_laying" BX ["_law_board","_law_book","_law_words_here","_law_rack","_law_cell"])(bC:mg "len"=none)(tV:mg "min"=none)(F:gW K C)(tL:Meth K C "is_free" f1)(tM:cB P w K mg base dH 1 f1 dY ["self"] (Sw C))(tQ:bT K dY ["self"] [])(oM:cu P w K mg base "_law_stream" 1 ["_law_cell","_law_many"] uH)(Wv:cu P w K mg base "_law_candidate" 1 ["_law_rows_here","_law_word","_law_place","_law_rack"] abW)(aiq:cu P w K mg base "_law_lets" 16 ["_law_board","_law_book","_law_rack","_law_laying_here"] (abS C CB)):cu P w K mg base "_law_laying" 17 ["_law_board","_law_book","_law_words_here","_law_rack","_law_cell"] (abY C CB):=by
 calc D.dM vJ (λf bN A outer s H vs Q E hr h=>?_);let⟨b,k,kd,pw,bs,ws,cA,c,r,w,aA,aN,bi,bj,rfl,BA,BK,Yo,w1,hwz,h63,q⟩:=h;obtain⟨⟨bx,pr,pm,pb,hb,J,hpm,Y⟩,B⟩:=BA;let BA:cX C H b r w aA aN bi bj:=⟨(gC bx pr pm pb hb J hpm Y),B⟩
 let r1:=B.r1;let r9:=B.r9;let ww1:=B.w1;let w9:=B.w9;let hrl:(Ts aA).length=r:=by rw[aa,B.br.len]
 let⟨l0,e0,w0⟩:=Uz B.br r1 (i:=0) t6 t6;let hz0:l0.length<=sizeLine:=am (aJ t6);calc(aM _ (aB (fP dr rb (qj (bK oM hr.mono rb (aj dI (aj aq ao)))) (cj (i:=5) vJ.nd rb (Or.inl rb)) (aB (aX (i:=6) vJ.nd rb (Or.inl rb) (dJ (aj (aL b_ (aL cP fj aq) (aW bZ ue bC aE (aj (cg aG rb) ao))) (aj (aL b_ (aL cP fj aq) (aW dw ue bC aE (aj (bf bF (cg aG rb) aq (λ_ _=>rfl)) ao))) (aj (aL b_ (aL cP fj aq) aq) ao))))) (aB (jj (cJ (eO (dX aG F.cl tL tM hr.mono tQ .nil dO)) (aF (aX (i:=6) vJ.nd rb (Or.inl rb) (dJ (aj (aL qJ (bf bF (cg aG rb) aq (λ_ _=>rfl)) (aL jE (aL b_ (aL cP fj aq) aq) (aL b_ fj aq))) (aj (bf bF (cg aG rb) aq (λ_ _=>rfl)) (aj (aL b_ (aL cP fj aq) aq) ao)))))) bR)) (aB (aX (i:=7) vJ.nd rb (Or.inl rb) (bK Wv hr.mono rb (aj (cg aG rb) (aj (bf iQ bG (aL b_ (aL cP fj aq) (aW bZ ue bC aE (aj bG ao))) (λ_ _=>rfl)) (aj fU (aj bJ ao)))))) (aF (cJ (QW.qt (vG (bU JH (aW (abk rb) ue tV qf (aj fU ao)) aq (bO _)) (vG (bU (Ry hr.units) jl (dJ ao) (bO _)) (vG (bU uM (aW bZ ue bC aE (aj jl ao)) aq (bO _)) (w6 (eO (bK aiq hr.mono rb (aj aG (aj aZ (aj bJ (aj jl ao))))))))))) (aF (bD jl)) bR)))))) (aF (bD (dJ ao)))) ?_);calc(aK c 10 rb t9 (λp ds H1 s1 hp0 hp hdl=>?_));refine(bH p rb ⟨_,bI.of hp⟩ (pB (K:=K) (a:=p) (xs:=ds.map V.int) (λi σ O=>∃(v5 v6 v7:Option V),σ=[some (.ref b),some (.ref k),some (.ref pw),some (.str (S cA)),some (.int c),v5,v6,v7]/\aD H1 O)
  (BL none none none rb (aD.refl _)) (λi σ O _ h=>?_) ?_ ?_))
 .let⟨_,_,_,_,sm⟩:=h;show bI.of (sm _ _ hp)
 .intro i x σ O hx z;let⟨v5,v6,v7,rfl,sm⟩:=z;rw[cz]at hx;let⟨n,hn,rfl⟩:=e_.mp hx;let s2:=s1.trans sm;let d0:=ej (n/64) (show (r:Int)≠0 by lia);let d1:=ej (n/640) (show (w:Int)≠0 by lia);let d2:n/6400%2=0\/n/6400%2=1:=t6;calc(aQ _ _ rb rb ⟨t9,t9⟩ (cL b C bx _ _ rb (s2 _ _ hb) F.cl F.nr rb (aK pr _ rb (.inr (aU.of (s2 _ _ J))) (aQ _ _ rb rb (by show (0:Int)<_;rw[hrl];lia) (aQ _ _ rb rb ⟨t9,t9⟩ (cL b C bx _ _ rb (s2 _ _ hb) F.cl F.nr rb (bA pr _ _ (.str (S l0)) rb rb (aU.of (s2 _ _ J)) e0 (bH l0 rb hz0 (aQ _ _ rb rb (by show (0:Int)<_;rw[w0];lia) (aQ _ _ rb rb ⟨t9,t9⟩ (dF _ _ rb rb (by show (0:Int)<2;decide) (zsz 3) (λpl hpl=>?_))))))))))));rw[hrl,w0];let sP:aD O (upd O pl (HO.tup [V.int (n/64%r),V.int (n/640%w),V.int (n/6400%2)])):=aD.upd hpl;let eP:upd O pl (HO.tup [V.int (n/64%r),V.int (n/640%w),V.int (n/6400%2)]) pl=some (.tup [V.int (n/64%r),V.int (n/640%w),V.int (n/6400%2)]):=au;generalize upd O pl (HO.tup [V.int (n/64%r),V.int (n/640%w),V.int (n/6400%2)])=H3 at sP eP ⊢;let s3:=s2.trans sP;refine⟨λσ H4=>∃(pl:Addr) (i0 j0 wy:Int),σ=[some (.ref b),some (.ref k),some (.ref pw),some (.str (S cA)),some (.int c),some (.int n),some (.ref pl),v7]/\aD H3 H4/\H4 pl=some (.tup [.int i0,.int j0,.int wy])/\-1<=i0/\0<=j0/\(wy=0\/wy=1),?_,?_⟩
  .calc(cW b bx _ rb (s3 _ _ hb) rb ⟨b,r,w,aA,aN,bi,bj,rb,BA.mv s3,λH4 s4=>(bh _ rb ?_)⟩);let I:=s3.trans s4;calc jt (λ_=>?_) (λ_=>(iy pl _ _ _ rb s4 (s4 _ _ eP) t6 d1 d2));let d3:n%2=0\/n%2=1:=t6;calc(cL b C bx _ _ rb (I _ _ hb) F.cl F.nb rb (bA pb _ _ (.int bi) rb rb (aU.of (I _ _ Y)) (aV (j:=0) rb) (aQ _ _ rb rb ⟨t9,t9⟩ (aQ _ _ rb rb (by show (0:Int)<2;decide) (aQ _ _ rb rb (by show (0:Int)<2;decide) (aQ _ _ rb rb (.inl ⟨t6,t6⟩) (aK _ _ rb rb (cL b C bx _ _ rb (I _ _ hb) F.cl F.nb rb (bA pb _ _ (.int bj) rb rb (aU.of (I _ _ Y)) (aV (j:=1) rb) (aQ _ _ rb rb ⟨t9,t9⟩ (dF _ _ rb rb (by show (0:Int)<2;decide) (zsz 3) (λpl2 aks=>?_))))))))))));calc(iy pl2 _ _ _ rb (s4.trans (aD.upd aks)) au ?_ t6 d2);show -1<=(bi:Int)-n/6400%2*(n%2)
   rcases d2 with e|e <;> rw[e] <;> lia
  intro σ H4 z;let⟨pl,i0,j0,wy,rfl,s4,air,i1,j1,SJ⟩:=z;let I:=s3.trans s4;let⟨wv,hwv,hwm⟩:=xq (xs:=Ts ws) (n:=ws.length) (by rw[aa]) w1 (n/12800);let⟨wd,hwd,rfl⟩:=bu.mp hwm;let hwl:(Ts ws).length=ws.length:=aa _;calc(cL b C bx _ _ rb (I _ _ hb) F.cl F.nr rb (aQ _ _ rb rb ⟨t9,t9⟩ (aK pw _ rb (.inl (bI.of (I _ _ Yo))) (aQ _ _ rb rb (by show (0:Int)<_;rw[hwl];lia) (bA pw _ _ (.str (S wd)) rb rb (bI.of (I _ _ Yo)) (by rw[hwl];show hwv) ⟨pr,pl,cA,wd,i0,j0,wy,r,w,aA,rb,I _ _ J,B.br,r1,r9,w9,hwz wd hwd,air,i1,j1,SJ,h63,λt as H5 s5 ht hal hts=>?_⟩)))));let Aw:=I.trans s5;let s15:aD H1 H5:=((sm.trans sP).trans s4).trans s5;calc(aQ pl [i0,j0,wy] rb (aU.of (s5 _ _ air)) (by show 0<3;decide) (λm hm hle=>(aK _ _ rb rb (bh _ rb ?_))));calc jt (λhge=>?_) (λ_=>(BL _ _ _ rb s15));let hi0:0<=i0:=by let h1:=hle i0 bX;let h2:=fh hge;show Int.le_trans h2 h1
  let⟨ts,hL,dZ,zc⟩:=hts hi0;let cU:as.length=ts.length:=by rw[<-hL.eq,aa]
  calc⟨zsz 0,λe he=>?_⟩;let G:aD H5 (upd H5 e (HO.tup [])):=aD.upd he;let e6:upd H5 e (HO.tup []) e=some (.tup []):=au;generalize upd H5 e (HO.tup [])=H6 at G e6 ⊢;let HS:=Aw.trans G;let Z:=s15.trans G;calc(cW 3 (.tup (ts.map dT)) (.tup []) t9 (lq.Le (G _ _ ht) (hL.mv G) (λt h=>(dZ t h).2.2)) (.tup (aU.of e6) .nil) (bh _ rb ?_));calc jt (λhne=>?_) (λ_=>(BL _ _ _ rb Z));let h0:0<ts.length:=by
   rcases jv ts.length with z|z
   .have:ts=[]:=iS.mp z;subst this;simp at hne
   .show z
  calc(aK t _ rb (.inr (aU.of (G _ _ ht))) (aK _ _ rb rb (bh _ rb ?_)));calc jt (λh8=>?_) (λ_=>(BL _ _ _ rb Z));let h7:ts.length<=7:=by have:=fh h8;rw[aa]at this;lia
  calc⟨b,k,kd,t,bs,cA,as,ts,r,w,aA,aN,bi,bj,rb,BA.mv HS,BK.mv HS,h63,G _ _ ht,hL.mv G,dZ,h0,h7,zc,λo H7 s7 ho=>(bh _ rb ?_)⟩;calc jt (λhb=>?_) (λ_=>(BL _ _ _ rb (Z.trans s7)));show(q t as ts H7 (HS.trans s7) (s7 _ _ (G _ _ ht)) ((hL.mv G).mv s7) (.inr ⟨dZ,h0,h7,zc,ho hb⟩))
 .intro σ O z;let⟨v5,v6,v7,rfl,sm⟩:=z;calc⟨zsz 0,λt ht=>?_⟩;show q t [] [] _ ((s1.trans sm).trans (aD.upd ht)) au ⟨λa h=>(by cases h),rb⟩ (.inl rb)
theorem Yq:∀{l m cA:List Nat},cA.Perm (l++m)->∃D,rmN cA l=some D
 | [],m,cA,_=>⟨cA,rb⟩
 | c::l,m,cA,h=>by let j:c∈cA:=h.mem_iff.mpr t7;unfold rmN;rw[if_pos j];let h2:=h.erase c;rw[pk,List.erase_cons_head]at h2;show Yq h2
def dG (z:Std)(dn:Nat):List Nat:=z.racks.getD (dn%z.racks.length) []
def yx (z:Std)(dn:Nat)(bs:AA):fW->Prop
 | .lay ts=>aah z.aA z.r z.w z.bi z.bj bs (dG z dn) ts
 | .swap l=>l≠[]/\l.length<=7/\(∀c∈l,pX c)/\(∃m,o_ (dG z dn) l=some m)/\l.length<=z.bag.length
 | .pass=>True
def adJ {z:Std}{dn:Nat}(h:dn%z.racks.length<z.racks.length):dG z dn=z.racks[dn%z.racks.length]:=by unfold dG;rw[ap,ae h];rfl
def Yr (C CB:Addr):Sp:=λvs H Q _=>∃(pn k kd pw:Addr) (bs ws:AA) (c:Int) (z:Std) (dn ps:Nat) (ov:Bool),vs=[.ref pn,.ref k,.ref pw,.int c]/\aaf C H pn z dn ps ov/\m8 z/\iC CB H k kd bs/\H pw=some (.lst (Ts ws))/\1<=ws.length/\(∀l∈ws,zL l)/\
 ∀(p:Addr) (d:fW) (H':Hp),aD H H'->K9 H' p d->yx z dn bs d->Q (.ref p) H'
open Classical in
def afZ {C CB:Addr}(D:aO K mg "_law_deed" Ks ["_law_now","_law_book","_law_words_here","_law_cell"])(bC:mg "len"=none)(tV:mg "min"=none)(oM:cu P w K mg base "_law_stream" 1 ["_law_cell","_law_many"] uH)(adK:cu P w K mg base "_law_laying" 17 ["_law_board","_law_book","_law_words_here","_law_rack","_law_cell"] (abY C CB)):cu P w K mg base "_law_deed" 18 ["_law_now","_law_book","_law_words_here","_law_cell"] (Yr C CB):=by
 calc D.dM jY (λf bN A outer s H vs Q E hr h=>?_);let⟨pn,k,kd,pw,bs,ws,c,z,dn,ps,ov,rfl,NA,Z,BK,Yo,w1,hwz,q⟩:=h;let⟨b,pr,pp,hn,hB,hpr,hpp⟩:=NA.ex;let n1:=Z.n1;let hrl:(Ts z.racks).length=z.racks.length:=aa _;let O:dn%z.racks.length<z.racks.length:=tm _ n1;let erk:=adJ O;let⟨k7,kt⟩:=Z.r7 _ (a9 O);rw[<-erk]at k7 kt;let hz:(dG z dn).length<=sizeLine:=am (aJ t6);let b6:=Z.b6;let hzb:z.bag.length<=sizeLine:=am (aJ t6);calc(aM _ (aB (jj (xP aG (vD rb (dz (cj (i:=4) jY.nd rb (Or.inl rb)) (dz (cj (i:=5) jY.nd rb (Or.inl rb)) (dz (cj (i:=6) jY.nd rb (Or.inl rb)) (dz (cj (i:=7) jY.nd rb (Or.inl rb)) (dz (cj (i:=8) jY.nd rb (Or.inl rb)) (dz (cj (i:=9) jY.nd rb (Or.inl rb)) (dz (cj (i:=10) jY.nd rb (Or.inl rb)) rK)))))))))) (aB (aX (i:=11) jY.nd rb (Or.inl rb) (bK oM hr.mono rb (aj bJ (aj aq ao)))) (aB (jj (aX (i:=12) jY.nd rb (Or.inl rb) (bf bF fj (aL b_ mX (aW bZ ue bC aE (aj fj ao))) (λ_ _=>rfl)))) (aB (aX (i:=13) jY.nd rb (Or.inl rb) (dJ ao)) (aB (jj (cJ (bU aei (aL b_ (bf iQ pC aq (λ_ _=>rfl)) aq) aq (bO _)) (aF (aX (i:=13) jY.nd rb (Or.inl rb) (bK adK hr.mono rb (aj dI (aj aZ (aj bG (aj (qv 12) (aj (bf iQ pC aq (λ_ _=>rfl)) ao)))))))) bR)) (aB (cJ (bU (Ry hr.units) (qv 13) (dJ ao) (bO _)) (aF (bD (dJ (aj (bL [108,97,121] uj) (aj (qv 13) ao))))) bR) (aB (aX (i:=14) jY.nd rb (Or.inl rb) (aL cY aq (aL b_ (bf iQ pC aq (λ_ _=>rfl)) aq))) (aB (cJ (QW.qt (oW (bU jD (aL b_ (bf iQ pC aq (λ_ _=>rfl)) aq) aq (bO _)) (nC (bU uM (aW (Ob rb) ue tV qf (aj (aW dw ue bC aE (aj (qv 12) ao)) (aj (aW dw ue bC aE (aj fU ao)) ao))) (qv 14) (bO _))))) (aF (bD (dJ (aj (bL [112,97,115,115] uj) ao)))) bR) (aB (aX (i:=15) jY.nd rb (Or.inl rb) (aL b_ (aL cP (bf iQ pC aq (λ_ _=>rfl)) aq) (aW dw ue bC aE (aj (qv 12) ao)))) (aF (bD (dJ (aj (bL [115,119,97,112] uj) (aj (fD vQ (aL kZ (fD vQ (qv 12) (fG (qv 15)) ji) (fD vQ (qv 12) ji (fG (qv 15)))) ji (fG (qv 14))) ao)))))))))))))) ?_);calc(aM (λσ H1=>H=H1/\σ=[some (.ref pn),some (.ref k),some (.ref pw),some (.int c),some (.ref b),some (.ref pr),some (.str (S z.bag)),some (.ref pp),some (.int dn),some (.int ps),some (.bl ov),none,none,none,none,none]) (aQ pn _ rb (aU.of hn) rb (eU _ _ rb (eU _ _ rb (eU _ _ rb (eU _ _ rb (eU _ _ rb (eU _ _ rb (aQ _ _ rb rb rb rb)))))))) ?_);rintro σ H1 ⟨eH,rfl⟩;subst eH;refine(aK c 3 rb t9 (λY ds H1 s1 hp0 hp hdl=>?_))
 match ds,hdl with
 | [x,y,u],_=>
  let emod:(dn:Int)%((Ts z.racks).length:Int)=((dn%z.racks.length:Nat):Int):=by rw[hrl];lia
  calc(aM (λσ H2=>H1=H2/\σ=[some (.ref pn),some (.ref k),some (.ref pw),some (.int c),some (.ref b),some (.ref pr),some (.str (S z.bag)),some (.ref pp),some (.int dn),some (.int ps),some (.bl ov),some (.ref Y),some (.str (S (dG z dn))),none,none,none]) (aK pr _ rb (.inr (aU.of (s1 _ _ hpr))) (aQ _ _ rb rb (by show (0:Int)<_;rw[hrl];lia) (iy pr _ _ (.str (S (dG z dn))) rb rb (aU.of (s1 _ _ hpr)) (by rw[emod,erk];show aV (oK (ae O))) rb rb))) ?_);rintro σ H2 ⟨eH,rfl⟩;subst eH;calc⟨zsz 0,λe he=>?_⟩;let s2:aD H1 (upd H1 e (HO.tup [])):=aD.upd he;let e2:upd H1 e (HO.tup []) e=some (.tup (([]:List Addr).map V.ref)):=au;generalize upd H1 e (HO.tup [])=H2 at s2 e2 ⊢;let gO:=s1.trans s2;let I:=s2 _ _ hp;refine⟨λσ G=>∃(t:Addr) (as:List Addr) (ts:List bQ),σ=[some (.ref pn),some (.ref k),some (.ref pw),some (.int c),some (.ref b),some (.ref pr),some (.str (S z.bag)),some (.ref pp),some (.int dn),some (.int ps),some (.bl ov),some (.ref Y),some (.str (S (dG z dn))),some (.ref t),none,none]/\aD H2 G/\G t=some (.tup (as.map V.ref))/\fB G as ts/\(ts=[]\/aah z.aA z.r z.w z.bi z.bj bs (dG z dn) ts),?_,?_⟩
  .calc(bA Y _ _ (.int x) rb rb (bI.of I) (aV (j:=0) rb) (aQ _ _ rb rb (by show (0:Int)<8;decide) (aK _ _ rb rb (bh _ rb ?_))));calc jt (λ_=>?_) (λ_=>(d7 e [] [] rb (aD.refl _) e2 ⟨λa h=>(by cases h),rb⟩ (.inl rb)));show(bA Y _ _ (.int y) rb rb (bI.of I) (aV (j:=1) rb) ⟨b,k,kd,pw,bs,ws,dG z dn,y,z.r,z.w,z.aA,z.aN,z.bi,z.bj,rb,hB.mv gO,BK.mv gO,gO _ _ Yo,w1,hwz,t6,λt as ts G s3 ht hL ho=>(d7 t as ts rb s3 ht hL ho)⟩)
  intro σ G z;let⟨t,as,ts,rfl,s3,ht,hL,ho⟩:=z;let gM:=gO.trans s3;let hp3:=s3 _ _ I;calc⟨zsz 0,λe' he'=>?_⟩;let s4:aD G (upd G e' (HO.tup [])):=aD.upd he';let e4:upd G e' (HO.tup []) e'=some (.tup []):=au;generalize upd G e' (HO.tup [])=H4 at s4 e4 ⊢;let jc:=gM.trans s4;let J:=s4 _ _ hp3;let hsg:∀t∈ts,qz t.2.2:=by
   rcases ho with h|h;.subst h;intro t h;cases h
   .show λt ht=>(h.yw t ht).2.2
  calc(cW 3 (.tup (ts.map dT)) (.tup []) t9 (lq.Le (s4 _ _ ht) (hL.mv s4) hsg) (.tup (aU.of e4) .nil) (bh _ rb ?_));refine jt (λhne=>?_) (λ_=>?_)
  .rcases ho with h|h;.subst h;simp at hne
   calc⟨zsz 2,λp hp=>?_⟩;let sp:=aD.upd hp (o:=HO.tup [V.str (S [108,97,121]),V.ref t]);show q p (.lay ts) _ (jc.trans sp) (aK t as au (sp _ _ (s4 _ _ ht)) ((hL.mv s4).mv sp)) h
  calc(bA Y _ _ (.int u) rb rb (bI.of J) (aV (j:=2) rb) (aQ _ _ rb rb (by show (0:Int)<7;decide) (aK _ _ rb rb ?_)));let pass:1<=sizeLine/\∀p,H4 p=none->Q (.ref p) (upd H4 p (HO.tup [V.str (S [112,97,115,115])])):=⟨zsz 1,λp hp=>q p .pass _ (jc.trans (aD.upd hp)) au True.intro⟩
  calc(bA Y _ _ (.int x) rb rb (bI.of J) (aV (j:=0) rb) (dF _ _ rb rb (by show (0:Int)<8;decide) rb (bh _ rb ?_)));calc jt (λ_=>pass) (λ_=>?_);calc(bH (dG z dn) rb hz (bH z.bag rb hzb (eU _ _ rb (aK _ _ rb rb (bh _ rb ?_)))));calc jt (λ_=>pass) (λhm=>?_);let hm:=lv (sN.mpr hm);obtain⟨F,aeK⟩:∃F:Nat,1+u%7=(F:Int):=⟨(1+u%7).toNat,t6⟩
  let m1:1<=F:=t6;let m7:F<=7:=t6;let mr:F<=(dG z dn).length/\F<=z.bag.length:=by let hm:¬((if (z.bag.length:Int)<((dG z dn).length:Int) then (z.bag.length:Int) else ((dG z dn).length:Int))<1+u%7):=hm;rw[aeK]at hm;split at hm <;> lia
  let hpos:(0:Int)<((dG z dn).length:Int):=t6;obtain⟨B,hBy⟩:∃B:Nat,u/7%((dG z dn).length:Int)=(B:Int):=⟨(u/7%((dG z dn).length:Int)).toNat,by have:=ej (u/7) (show ((dG z dn).length:Int)≠0 by lia);lia⟩
  calc(bA Y _ _ (.int u) rb rb (bI.of J) (aV (j:=2) rb) (aQ _ _ rb rb ⟨t9,t9⟩ (bH (dG z dn) rb hz (aQ _ _ rb rb hpos ?_))));calc(aM _ rb (bH (dG z dn) rb hz (aM _ rb (bH (dG z dn) rb hz (aQ _ _ rb rb ?_ (aM _ rb (iM _ rb ?_ (zsz 2) (λp hp=>?_))))))));.rw[hBy,pY,rT,bv,ay];show am (aJ t6)
  .rw[hBy,pY,rT,av,bv,ay];show am (aJ t6)
  let ec:jd (jd (dG z dn) (some (u/7%((dG z dn).length:Int))) none++jd (dG z dn) none (some (u/7%((dG z dn).length:Int)))) none (some (1+u%7))=((dG z dn).drop B++(dG z dn).take B).take F:=by rw[hBy,pY,rT,aeK,rT]
  let pe:(dG z dn).Perm (((dG z dn).drop B++(dG z dn).take B).take F++((dG z dn).drop B++(dG z dn).take B).drop F):=by rw[cw];calc List.Perm.trans ?_ gN;rw[cw]
  let⟨m,hrm⟩:=Yq pe;let cU:(((dG z dn).drop B++(dG z dn).take B).take F).length=F:=by rw[ay,av,bv,ay];lia
  let htl:∀c∈((dG z dn).drop B++(dG z dn).take B).take F,pX c:=λc hc=>kt c (by
   rcases be.mp (de hc) with z|z;.show eI z
   .show de z)
  let sp:=aD.upd hp (o:=HO.tup [V.str (S [115,119,97,112]),V.str (S (jd (jd (dG z dn) (some (u/7%((dG z dn).length:Int))) none++jd (dG z dn) none (some (u/7%((dG z dn).length:Int)))) none (some (1+u%7))))]);refine q p (.swap (((dG z dn).drop B++(dG z dn).take B).take F)) _ (jc.trans sp) ?_ ⟨λz=>?_,t6,htl,⟨m,?_⟩,t6⟩
  .show upd H4 p _ p=_;rw[au,<-ec];rfl
  .rw[z]at cU;simp at cU;lia
  .rw[<-aeH,Yl htl];show hrm
def af0 {c:Nat}(h:qz c):rH [V.str (S [c]),V.str (S [63])] (if (!decide ([PyProof.Rows.lo1 c]=[c]))=true then 1 else 0)=some (.str (S [fV c])):=by
 unfold qz Ds Dr Eu at h;simp at h;unfold fV PyProof.Rows.lo1;by_cases j:65<=c/\c<=90
 .rw[if_pos j,if_pos j];have:¬[c+32]=[c]:=λz=>by simp at z
  rw[ah this];rfl
 .rw[if_neg j,if_neg j,aw rfl];rfl
theorem d_.ints {H:Hp}:∀{is:List Int},d_ K H 1 (is.map Dt.int) (is.map V.int)
 | []=>.nil
 | _::_=>.cons (.int _) d_.ints
def iz (G:Gm)(zs:List Std)(ds:List fW):Gm:={G with sts:=zs,done:=ds.map fW.name}
inductive Path (G:Gm) (z0:Std):List fW->List Std->Prop
 | nil:Path G z0 [] [z0]
 | snoc {ds:List fW} {zs:List Std} {z z':Std} {d:fW} {pt:Int} (h:Path G z0 ds (zs++[z])) (ov:zq (iz G [] ds) z=false) (dd:Does (iz G [] ds) z d pt z'):Path G z0 (ds++[d]) (zs++[z]++[z'])
def Does.sts {G:Gm}{a b:List Std}{ds:List fW}{z z':Std}{d:fW}{pt:Int}(h:Does (iz G a ds) z d pt z'):Does (iz G b ds) z d pt z':=by
 cases h with| lay h1 h2 h3 h4 h5 h6=>show Does.lay (G:=iz G b ds) h1 h2 h3 h4 h5 h6| swap h1 h2 h3 h4 h5=>show Does.swap (G:=iz G b ds) h1 h2 h3 h4 h5| pass=>show .pass
def Path.len {G:Gm}{z0:Std}{ds:List fW}{zs:List Std}(h:Path G z0 ds zs):zs.length=ds.length+1:=by
 induction h with| nil=>rfl| snoc h ov dd ih=>rw[av,ih,av];rfl
def Does.racks {G:Gm}{z z':Std}{d:fW}{pt:Int}(h:Does G z d pt z'):z'.racks.length=z.racks.length:=by
 cases h with| lay=>show gf| swap=>show gf| pass=>rfl
def Ys {z:Std}{l m:List Nat}{i:Nat}(Z:m8 z)(hl:l.length<=7)(hm:∀c∈l,pX c):∀k∈z.racks.set i l,k.length<=7/\∀c∈k,pX c:=λk j=>by
 rcases fR j with e|e;.show Z.r7 k e
 .rw[e];show⟨hl,hm⟩
def Yt {z:Std}(Z:m8 z){i:Nat}:(z.racks.getD i []).length<=7/\∀c∈z.racks.getD i [],pX c:=by
 rw[ap];cases e:z.racks[i]? with| none=>show⟨eD _,λc h=>by cases h⟩| some l=>show Z.r7 l (b8 e)
def Does.ok {G:Gm}{z z':Std}{d:fW}{pt:Int}(h:Does G z d pt z')(Z:m8 z)(hs:G.size<=7):m8 z':=by
 let F:=h.racks;cases h with
 | @lay ts l yw h0 h7 ri vd lf=>
  let⟨k7,I⟩:=Yt Z (i:=fX G z);let J:=uz lf;let j:=Nf lf;calc⟨by rw[F];show Z.n1,by rw[F];show Z.n4,Ys (m:=[]) Z ?_ λc D=>?_,?_,λc D=>Z.bt c (eI D),?_⟩;.rw[jZ,av,jZ,ay];lia
  .rcases be.mp ((iI _).mem_iff.mp D) with y|y;.show I c (j c ((iI _).mem_iff.mp y))
   .show Z.bt c (de y)
  .show (z.bag.drop _).length<=60;have:=Z.b6;rw[bv];lia
  .show (z.iD.set _ _).length=(z.racks.set _ _).length;rw[gf,gf];show Z.pl
 | @swap l m ne h7 tl lf hb=>
  let⟨k7,I⟩:=Yt Z (i:=fX G z);let J:=uz lf;let j:=Nf lf;calc⟨by rw[F];show Z.n1,by rw[F];show Z.n4,Ys (m:=[]) Z ?_ λc D=>?_,?_,λc D=>?_,?_⟩;.rw[jZ,av,jZ,ay];lia
  .rcases be.mp ((iI _).mem_iff.mp D) with y|y;.show I c (j c ((iI _).mem_iff.mp y))
   .show Z.bt c (de y)
  .show (z.bag.drop _++dh _).length<=60;have:=Z.b6;rw[av,bv,jZ];lia
  .rcases be.mp D with y|y;.show Z.bt c (eI y)
   .show tl c ((iI _).mem_iff.mp y)
  .show z.iD.length=(z.racks.set _ _).length;rw[gf];show Z.pl
 | pass=>show Z
def Path.ok {G:Gm}{z0:Std}{ds:List fW}{zs:List Std}(h:Path G z0 ds zs)(Z:m8 z0)(hs:G.size<=7):∀z∈zs,m8 z:=by
 induction h with
 | nil=>intro z h;rw[a_.mp h];show Z
 | snoc h ov dd ih=>
  intro y hy;rcases be.mp hy with e|e;.show ih y e
  .rw[a_.mp e];show dd.ok (ih _ t7) hs
def ab0 {G:Gm}{z:Std}{bs:AA}{ds:List fW}{d:fW}(h:yx z ds.length bs d)(hb:∀x,x∈bs↔x∈G.ws):∃pt z',Does (iz G [] ds) z d pt z':=by
 let j:fX (iz G [] ds) z=ds.length%z.racks.length:=by show (ds.map fW.name).length%_=_;rw[aa]
 cases d with
 | lay ts=>let⟨l,hl⟩:=ajC h.vd;show(Kd _ _ (.lay (G:=iz G [] ds) h.yw h.h0 h.h7 h.ri (by rw[j];show adI hb h.vd) (l:=l) (by rw[j];show hl)))
 | swap l=>obtain⟨h1,h2,h3,⟨m,hm⟩,h5⟩:=h;show(Kd _ _ (.swap (G:=iz G [] ds) h1 h2 h3 (m:=m) (by rw[j];show hm) h5))
 | pass=>show(Kd _ _ (.pass))
def Kl (H H':Hp):Prop:=∀a o,H a=some o->(∀xs,o≠HO.lst xs)->H' a=some o
def Kl.of {H H':Hp}(s:aD H H'):Kl H H':=λa o h _=>s a o h
def Kl.trans {H H1 j:Hp}(s:Kl H H1)(t:Kl H1 j):Kl H j:=λa o h n=>t a o (s a o h n) n
def H_.kl {ps pd:Addr}{H H':Hp}{xs ys:List V}(s:H_ ps pd H H')(h1:H ps=some (.lst xs))(h2:H pd=some (.lst ys)):Kl H H':=λa o h n=>s a o h (j_ h1 h n) (j_ h2 h n)
def cX.kl {C:Addr}{H H':Hp}{p:Addr}{r w:Nat}{aA aN:AA}{i j:Nat}(B:cX C H p r w aA aN i j)(k:Kl H H'):cX C H' p r w aA aN i j:=by obtain⟨⟨dx,pr,pm,pb,a,b,c,d⟩,o⟩:=B;show⟨(gC dx pr pm pb (k _ _ a (λ_ z=>nomatch z)) (k _ _ b (λ_ z=>nomatch z)) (k _ _ c (λ_ z=>nomatch z)) (k _ _ d (λ_ z=>nomatch z))),o⟩
def iC.kl {C:Addr}{H H':Hp}{p d:Addr}{ws:AA}(B:iC C H p d ws)(k:Kl H H'):iC C H' p d ws:=⟨let ⟨dx,e⟩:=B.ob;⟨dx,k _ _ e (λ_ z=>nomatch z)⟩,k _ _ B.dc (λ_ z=>nomatch z),B.nd,B.az⟩
def Ce.kl {C:Addr}{H H':Hp}{p pw:Addr}{Z:Ld}(A:Ce C H p pw Z)(k:Kl H H')(h:H' pw=some (.lst (Ts Z.ws))):Ce C H' p pw Z:=by let⟨b,d,pb,pr,h1,h2,h3,h4,h5⟩:=A.ex;show⟨(bA b d pb pr (k _ _ h1 (λ_ z=>nomatch z)) (h2.kl k) (k _ _ h3 (λ_ z=>nomatch z)) (k _ _ h4 (λ_ z=>nomatch z)) (k _ _ h5 (λ_ z=>nomatch z))),h⟩
def gP.kl {C CS:Addr}{H H':Hp}{p:Addr}{z:Std}(A:gP C CS H p z)(k:Kl H H'):gP C CS H' p z:=by let⟨dx,b,pr,pp,h1,h2,h3,h4⟩:=A.ex;show⟨dx,b,pr,pp,k _ _ h1 (λ_ z=>nomatch z),h2.kl k,k _ _ h3 (λ_ z=>nomatch z),k _ _ h4 (λ_ z=>nomatch z)⟩
def jk.kl {C CS CB CG:Addr}{H H':Hp}{g ps pd:Addr}{G:Gm}(A:jk C CS CB CG H g ps pd G)(k:Kl H H')(h1:H' ps=H ps)(h2:H' pd=H pd):jk C CS CB CG H' g ps pd G:=by obtain⟨⟨dx,j,kd,d,pb,a1,a2,a3,a4⟩,⟨as,a5,a6⟩,a7⟩:=A;show⟨(Kf dx j kd d pb (k _ _ a1 (λ_ z=>nomatch z)) (a2.kl k) (k _ _ a3 (λ_ z=>nomatch z)) (k _ _ a4 (λ_ z=>nomatch z))),(aM as (h1.trans a5) ⟨a6.len,λi a z e1 e2=>(a6.at_ i a z e1 e2).kl k⟩),h2.trans a7⟩
def af2 {G:Gm}{zs:List Std}{ds:List fW}{z:Std}{d:fW}:{iz G zs ds with sts:=(iz G zs ds).sts++[z],done:=(iz G zs ds).done++[d.name]}=iz G (zs++[z]) (ds++[d]):=by unfold iz;simp
structure Q5 (G:Gm):Prop where
 wd:WD G.kvs
 wb:WB 1000000 G.kvs
 sz:G.size<=7
def ab1 {ds:List fW}:∀l∈ds.map fW.name,∀c∈l,c<128:=λl hl c j=>by let⟨d,_,rfl⟩:=bu.mp hl;show adz d c j
def Q5.ok {G:Gm}(F:Q5 G){zs:List Std}{ds:List fW}(h1:ds.length<=100)(h2:zs.length<=101):aik (iz G zs ds):=⟨ab1,by show (ds.map fW.name).length<=400;rw[aa];lia,by show zs.length<=500;lia,F.wd,F.wb,F.sz⟩
def fJ (R:AA)(i j:Nat):Nat:=(R.getD i []).getD j 46
def Bc {r w:Nat}{R:AA}(hb:Blk r w R){i j:Nat}(hi:i<r)(G:j<w):∃l,rH (Ts R) (i:Int)=some (.str (S l))/\l.length=w/\l∈R/\rH l (j:Int)=some (fJ R i j)/\fJ R i j∈l:=by
 let D:i<R.length:=by rw[hb.len];show hi
 let hw:=hb.qC _ (a9 D);let F:j<R[i].length:=by rw[hw];show G
 let e:fJ R i j=R[i][j]:=by
  let h1:R.getD i []=R[i]:=by rw[ap,ae D];rfl
  unfold fJ;rw[h1,ap,ae F];rfl
 calc(oY (R[i]) (aV (oK (ae D))) hw (a9 D) ?_ ?_);.rw[e];show aV (ae F)
 .rw[e];show a9 F
def oV (F R:AA)(i j:Nat):List Nat:=if fJ F i j=46/\fJ R i j≠46 then [fV (fJ R i j)] else []
def yC (F R:AA)(w i:Nat):List Nat:=(List.range w).flatMap (oV F R i)
def vR (F R:AA)(r w:Nat):List Nat:=(List.range r).flatMap (yC F R w)
def UJ (F R:AA)(i j:Nat):(oV F R i j).length<=1:=by unfold oV;split <;> simp
theorem Lf {f:Nat->List Nat}{b:Nat}(h:∀i,(f i).length<=b):∀n,((List.range n).flatMap f).length<=n*b
 | 0=>by simp
 | n+1=>by
  rw[tJ,List.flatMap_append,av,qr];have:=Lf h n;let h2:([n].flatMap f).length<=b:=by simpa using h n
  lia
def vM (f:Nat->List Nat)(n:Nat):(List.range (n+1)).flatMap f=(List.range n).flatMap f++f n:=by rw[tJ,List.flatMap_append];simp
def qy (F:AA)(z:Std):List Nat:=z.racks.flatten++z.bag++vR F z.aA z.r z.w
theorem Fp:∀{ls:AA},(∀l∈ls,l.length<=7)->ls.flatten.length<=7*ls.length
 | [],_=>by simp
 | l::ls,h=>by rw[ed,av,dA];have:=Fp (ls:=ls) λx hx=>h x (bq _ hx);have:=h l bX;lia
def ab2 (C CS CB CG:Addr):Sp:=λvs H Q _=>∃(g j ps pd:Addr) (G:Gm) (zs:List Std) (z:Std) (F:AA),vs=[.ref g,.ref j]/\jk C CS CB CG H g ps pd G/\G.sts=zs++[z]/\m8 z/\H j=some (.tup (Ts F))/\Blk z.r z.w F/\∀H',aD H H'->Q (.str (S (dh (qy F z)))) H'
def UL {C CS CB CG f1 f2 f3:Addr}{dY fd2 n6:FuncData}(D:aO K mg "_law_all_tiles" vf ["_law_game","_law_first"])(bC:mg "len"=none)(dN:mg "range"=none)(o9:mg "int"=none)(gk:mg "sorted"=none)(cQ:gW K C)(cO:tU K CG)(lJ:Meth K CG "board_now" f1)(lK:cB P w K mg base dH 1 f1 dY ["self"] (pA C CS CB CG (Ud C)))(lM:bT K dY ["self"] [])(gZ:Meth K CG "racks_now" f2)(g_:cB P w K mg base dH 1 f2 fd2 ["self"] (pA C CS CB CG Fl))(h_:bT K fd2 ["self"] [])(nP:Meth K CG "bag_now" f3)(nQ:cB P w K mg base dH 1 f3 n6 ["self"] (pA C CS CB CG Z9))(nR:bT K n6 ["self"] []):cu P w K mg base "_law_all_tiles" 2 ["_law_game","_law_first"] (ab2 C CS CB CG):=by
 calc D.dM lH (λf bN A outer s H vs Q E hr h=>?_);let⟨g,pf,ps,pd,G,zs,z,F,rfl,A0,hz,Z,hpf,hF,q⟩:=h;let⟨dx,_,_,_,_,hg,_⟩:=A0.ex;let n4:=Z.n4;let b6:=Z.b6;let hfl:z.racks.flatten.length<=28:=by have:=Fp (λl hl=>(Z.r7 l hl).1);lia
 calc(aM _ (aB (aX (i:=2) lH.nd rb (Or.inl rb) (aL kZ (gq bz di dq xR (bL [] uj) (aj (dX aG cO.cl gZ g_ hr.mono h_ .nil dO) ao)) (dX aG cO.cl nP nQ hr.mono nR .nil dO))) (aB (aX (i:=3) lH.nd rb (Or.inl rb) (cg (dX aG cO.cl lJ lK hr.mono lM .nil dO) rb)) (aB (fP dr rb (lZ ue dN (aj (aW bZ ue bC aE (aj bJ ao)) ao)) (cj (i:=4) lH.nd rb (Or.inl rb)) (aF (fP dr rb (lZ ue dN (aj (aW dw ue bC aE (aj (bf bF bJ aq (λ_ _=>rfl)) ao)) ao)) (cj (i:=5) lH.nd rb (Or.inl rb)) (aB (aX (i:=6) lH.nd rb (Or.inl rb) (bf sO (bf bF bJ dI (λ_ _=>rfl)) fj (λ_ _=>rfl))) (aF (jj (cJ (QW.qt (vG (bU lU (bf sO (bf bF aZ dI (λ_ _=>rfl)) fj (λ_ _=>rfl)) (bL [46] uj) (bO _)) (w6 (bU vB fU (bL [46] uj) (bO _))))) (aF (aX (i:=2) lH.nd rb (Or.inl rb) (aL kZ bG (bf iQ (jU (aj fU (aj (bL [63] uj) ao))) (gR Oc ue o9 mh (aj (gK vB (Ea bz oS o0 Rw fU) fU (bO _)) ao)) (λ_ _=>rfl))))) bR))))))) (aF (bD (gq bz di dq rJ (bL [] uj) (aj (aW (Dp rb) ue gk gT (aj bG ao)) ao))))))) ?_);calc⟨rb,cW g dx _ rb hg rb (oZ g ps pd G zs z rb A0 hz (λq1 hq1=>(dF q1 z.racks rb rb (aU.of hq1) t6 (cW g dx _ rb hg rb (oZ g ps pd G zs z rb A0 hz (aQ z.racks.flatten z.bag rb rb (am (aJ t6)) ?_))))))⟩;calc(cW g dx _ rb hg rb (oZ g ps pd G zs z rb A0 hz (λb hb=>?_)));obtain⟨⟨bx,br,bm,bb,hbx,Y,hbm,hbb⟩,B⟩:=hb;let r1:=B.r1;let r9:=B.r9;let w1:=B.w1;let w9:=B.w9;let hrl:(Ts z.aA).length=z.r:=by rw[aa,B.br.len]
 let hol:∀n,((List.range n).flatMap (yC F z.aA z.w)).length<=n*9:=λn=>Lf (λi=>bS (Lf (UJ F z.aA i) z.w) t6) n;calc(cL b C bx _ _ rb hbx cQ.cl cQ.nr rb ?_);calc(aK br _ rb (.inr (aU.of Y)) (iM _ rb t6 (by rw[hrl];lia) ?_));rw[hrl,c9];refine jR (lo:=0) (λi σ H2=>∃(v4 O J:Option V),σ=[some (.ref g),some (.ref pf),some (.str (S (z.racks.flatten++z.bag++(List.range i).flatMap (yC F z.aA z.w)))),some (.ref br),v4,O,J]/\aD H H2) (BL none none none (by rw[show (List.range 0).flatMap (yC F z.aA z.w)=[] from rb,fk];rfl) (aD.refl _)) ?_ ?_
 .intro i σ H2 hi z;let⟨v4,O,J,rfl,sm⟩:=z;let⟨l0,e0,w0,_,_,_⟩:=Bc B.br (i:=0) (j:=0) t6 t6;let hz0:l0.length<=sizeLine:=am (aJ t6);calc(bA br _ _ (.str (S l0)) rb rb (aU.of (sm _ _ Y)) e0 (bH l0 rb hz0 (iM _ rb t6 t6 ?_)));rw[w0,c9];let ho:=hol i;refine jR (lo:=0) (λj σ H3=>∃(O J:Option V),σ=[some (.ref g),some (.ref pf),some (.str (S (z.racks.flatten++z.bag++(List.range i).flatMap (yC F z.aA z.w)++(List.range j).flatMap (oV F z.aA i)))),some (.ref br),some (.int (0+(i:Int))),O,J]/\aD H H3) (eU _ _ (by rw[show (List.range 0).flatMap (oV F z.aA i)=[] from rb,fk];rfl) sm) ?_ ?_
  .intro j σ H3 hj z;let⟨O,J,rfl,I⟩:=z;let⟨l,el,wl,lm,ec,cm⟩:=Bc B.br hi hj;let⟨lf,elf,wlf,lfm,ecf,cmf⟩:=Bc hF hi hj;let EY:l.length<=sizeLine:=am (aJ t6);let hzf:lf.length<=sizeLine:=am (aJ t6);let hro:=B.cr l lm _ cm;let e1:(0:Int)+(i:Int)=(i:Int):=nL _;let e2:(0:Int)+(j:Int)=(j:Int):=nL _;calc(bA br _ _ (.str (S l)) rb rb (aU.of (I _ _ Y)) (by rw[e1];show el) (d7 l _ (fJ z.aA i j) rb rb EY (by rw[e2];show ec) ?_));let hj2:=Lf (UJ F z.aA i) j;calc⟨λσ H4=>∃(O J:Option V),σ=[some (.ref g),some (.ref pf),some (.str (S (z.racks.flatten++z.bag++(List.range i).flatMap (yC F z.aA z.w)++(List.range (j+1)).flatMap (oV F z.aA i)))),some (.ref br),some (.int (0+(i:Int))),O,J]/\aD H H4,?_,λσ H4 h=>h⟩;let stay:oV F z.aA i j=[]->∃(O J:Option V),[some (V.ref g),some (.ref pf),some (.str (S (z.racks.flatten++z.bag++(List.range i).flatMap (yC F z.aA z.w)++(List.range j).flatMap (oV F z.aA i)))),some (.ref br),some (.int (0+(i:Int))),some (.int (0+(j:Int))),some (.str (S [fJ z.aA i j]))]=[some (V.ref g),some (.ref pf),some (.str (S (z.racks.flatten++z.bag++(List.range i).flatMap (yC F z.aA z.w)++(List.range (j+1)).flatMap (oV F z.aA i)))),some (.ref br),some (.int (0+(i:Int))),O,J]/\aD H H3:=λh=>(eU _ _ (by rw[vM,h,fk]) I)
   calc(bA pf _ _ (.str (S lf)) rb rb (aU.of (I _ _ hpf)) (by rw[e1];show elf) (d7 lf _ (fJ F i j) rb rb hzf (by rw[e2];show ecf) (aK [fJ F i j] [46] rb rb (bh _ rb ?_))));refine jt (λh1=>?_) (λh1=>stay ?_)
   .let h1:fJ F i j=46:=by simpa using fh h1
    calc(aK [fJ z.aA i j] [46] rb rb (bh _ rb ?_));refine jt (λh2=>?_) (λh2=>stay ?_)
    .let h2:fJ z.aA i j≠46:=by simpa using h2
     let hsg:qz (fJ z.aA i j):=hro.resolve_left h2;calc⟨zsz 2,λM hM=>?_⟩;let s7:=aD.upd hM (o:=HO.lst [V.str (S [fJ z.aA i j]),V.str (S [63])]);calc⟨rb,oY [fJ z.aA i j] rb rb (by show 1<=1000;decide) (λc hc=>by rw[a_.mp hc];show hsg.lt) (aK [PyProof.Rows.lo1 (fJ z.aA i j)] [fJ z.aA i j] rb rb (.inr (aM _ rb (bA M _ _ (.str (S [fV (fJ z.aA i j)])) rb rb (bI.of au) (af0 hsg) (aQ _ [fV (fJ z.aA i j)] rb rb ?_ ?_)))))⟩;.rw[av,av,av];show am (aJ (by show _+1<=1000;lia))
     .calc(eU (some (.int (0+(j:Int)))) (some (.str (S [fJ z.aA i j]))) ?_ (I.trans s7));rw[vM,show oV F z.aA i j=[fV (fJ z.aA i j)] from if_pos ⟨h1,h2⟩,<-bd];rfl
    .show if_neg λy=>h2 (by simpa using y.2)
   .show if_neg λy=>h1 (by simpa using y.1)
  .intro σ H3 z;let⟨O,J,rfl,I⟩:=z;calc(BL (some (.int (0+(i:Int)))) O J ?_ I);rw[vM,<-bd];rfl
 .intro σ H2 z;let⟨v4,O,J,rfl,sm⟩:=z;let ho:=hol z.r;let cU:(z.racks.flatten++z.bag++(List.range z.r).flatMap (yC F z.aA z.w)).length<=999:=by rw[av,av];lia
  calc⟨rb,bH _ rb cU (λp2 us hp2 pm pw=>?_)⟩;calc(dF p2 (us.map λc=>[c]) rb rb (bI.of au) ?_ ?_);.rw[mD,pm.length_eq];lia
  .rw[Ax (pm.map λc=>[c]) pw];show q _ (sm.trans (aD.upd hp2))
def UW (F R:AA)(r w:Nat):Prop:=∀i,i<r->∀j,j<w->fJ F i j≠46->fJ R i j=fJ F i j
def ab3:Sp:=λvs H Q _=>∃(j pr:Addr) (F R:AA) (r w:Nat),vs=[.ref j,.ref pr]/\H j=some (.tup (Ts F))/\H pr=some (.tup (Ts R))/\Blk r w F/\Blk r w R/\1<=r/\r<=9/\1<=w/\w<=9/\UW F R r w/\Q (.bl true) H
def af3 (D:aO K mg "_law_lain" Ku ["_law_ahead","_law_behind"])(bC:mg "len"=none)(dN:mg "range"=none):cu P w K mg base "_law_lain" 1 ["_law_ahead","_law_behind"] ab3:=by
 calc D.dM Mr (λf bN A outer s H vs Q E hr h=>?_);let⟨J,pr,F,R,r,w,rfl,G,hpr,hF,hR,r1,r9,w1,w9,hl,q⟩:=h;let Z:(Ts F).length=r:=by rw[aa,hF.len]
 calc(aM _ (aB (fP dr rb (lZ ue dN (aj (aW bZ ue bC aE (aj aG ao)) ao)) (cj (i:=2) Mr.nd rb (Or.inl rb)) (aF (fP dr rb (lZ ue dN (aj (aW dw ue bC aE (aj (bf bF aG aq (λ_ _=>rfl)) ao)) ao)) (cj (i:=3) Mr.nd rb (Or.inl rb)) (aF (cJ (QW.qt (vG (bU vB (bf sO (bf bF aG bG (λ_ _=>rfl)) bJ (λ_ _=>rfl)) (bL [46] uj) (bO _)) (w6 (bU vB (bf sO (bf bF aG bG (λ_ _=>rfl)) bJ (λ_ _=>rfl)) (bf sO (bf bF aZ bG (λ_ _=>rfl)) bJ (λ_ _=>rfl)) (bO _))))) (aF (bD iY)) bR))))) (aF (bD iY))) ?_);calc(aK J _ rb (.inr (aU.of G)) (iM _ rb t6 (by rw[Z];lia) ?_));rw[Z,c9];refine jR (lo:=0) (λi σ H2=>H2=H/\∃(v2 I:Option V),σ=[some (.ref J),some (.ref pr),v2,I]) ⟨rb,Kd none none rb⟩ ?_ ?_
 .intro i σ H2 hi z;let⟨rfl,v2,I,rfl⟩:=z;let⟨l0,e0,w0,_,_,_⟩:=Bc hF (i:=0) (j:=0) t6 t6;let hz0:l0.length<=sizeLine:=am (aJ t6);calc(bA J _ _ (.str (S l0)) rb rb (aU.of G) e0 (bH l0 rb hz0 (iM _ rb t6 t6 ?_)));rw[w0,c9];refine jR (lo:=0) (λj σ H3=>H3=H2/\∃(I:Option V),σ=[some (.ref J),some (.ref pr),some (.int (0+(i:Int))),I]) ⟨rb,_,rb⟩ ?_ ?_
  .intro j σ H3 hj z;let⟨rfl,I,rfl⟩:=z;let⟨lf,elf,wlf,lfm,Y,cmf⟩:=Bc hF hi hj;let⟨l,el,wl,lm,ec,cm⟩:=Bc hR hi hj;let EY:l.length<=sizeLine:=am (aJ t6);let O:lf.length<=sizeLine:=am (aJ t6);let e1:(0:Int)+(i:Int)=(i:Int):=nL _;let e2:(0:Int)+(j:Int)=(j:Int):=nL _;calc(bA J _ _ (.str (S lf)) rb rb (aU.of G) (by rw[e1];show elf) (d7 lf _ (fJ F i j) rb rb O (by rw[e2];show Y) (aK [fJ F i j] [46] rb rb (bh _ rb ?_))));calc jt (λh1=>?_) (λ_=>⟨rb,_,rb⟩);let h1:fJ F i j≠46:=by simpa using h1
   calc(bA J _ _ (.str (S lf)) rb rb (aU.of G) (by rw[e1];show elf) (d7 lf _ (fJ F i j) rb rb O (by rw[e2];show Y) (bA pr _ _ (.str (S l)) rb rb (aU.of hpr) (by rw[e1];show el) (d7 l _ (fJ R i j) rb rb EY (by rw[e2];show ec) (aK [fJ F i j] [fJ R i j] rb rb (bh _ rb ?_))))));rw[hl i hi j hj h1,aw rfl];show cM ⟨rb,_,rb⟩
  .intro σ H3 z;let⟨rfl,I,rfl⟩:=z;show⟨rb,Kd _ _ rb⟩
 .intro σ H2 z;let⟨rfl,v2,I,rfl⟩:=z;show q
theorem Np:∀{cs l m:List Nat},o_ l cs=some m->l.Perm (cs.map fV++m)
 | [],l,m,h=>by cases h;show ip _
 | c::cs,l,m,h=>by
  unfold o_ at h;split at h
  .rename_i hm;have:=Np h;rw[ce,pk];show(List.perm_cons_erase hm).trans (this.cons _)
  .cases h
theorem Jh:∀{ls:AA} {i:Nat} {x:List Nat},i<ls.length->((ls.set i x).flatten++ls.getD i []).Perm (ls.flatten++x)
 | [],i,x,h=>by simp at h
 | l::ls,0,x,_=>by show (x++ls.flatten++l).Perm (l++ls.flatten++x);calc gN.trans ?_;rw[bd];show gL l gN
 | l::ls,i+1,x,h=>by have:=Jh (ls:=ls) (i:=i) (x:=x) (Nat.lt_of_succ_lt_succ h);show (l++(ls.set i x).flatten++ls.getD i []).Perm (l++ls.flatten++x);rw[bd,bd];show this.append_left l
theorem U0 {f g:Nat->List Nat}{k:Nat}{x:List Nat}(h1:(g k).Perm (f k++x))(h2:∀i,i≠k->g i=f i):∀n,k<n->((List.range n).flatMap g).Perm ((List.range n).flatMap f++x)
 | 0,h=>by lia
 | n+1,h=>by
  rw[vM,vM];by_cases e:k=n
  .subst e;have:(List.range k).flatMap g=(List.range k).flatMap f:=by
    rw[List.flatMap_def,List.flatMap_def,fE λi hi=>h2 i (by have:=im.mp hi;lia)]
   rw[this,bd];show h1.append_left _
  .rw[h2 n (λz=>e z.symm)];have:=U0 h1 h2 n t6;calc(this.append_right (f n)).trans ?_;rw[bd,bd];show gL _ gN
theorem Yu:∀{c:Nat×Nat} {cs:List (Nat×Nat)},jm (c::cs)=true->∀d∈cs,c.1*1000+c.2<d.1*1000+d.2
 | c,[],_,d,hd=>by cases hd
 | c,b::cs,h,d,hd=>by
  rw[Bb,cn]at h;let h1:c.1*1000+c.2<b.1*1000+b.2:=fh h.1;rcases b9.mp hd with e|e;.rw[e];show h1
  .have:=Yu h.2 d e;lia
def af4 {t:bQ}{ts:List bQ}(h:jm ((t::ts).map kO)=true):∀u∈ts,¬(u.1=t.1/\u.2.1=t.2.1):=λu j y=>by have:t.1*1000+t.2.1<u.1*1000+u.2.1:=Yu h (kO u) (bu.mpr (aM u j rb));rw[y.1,y.2]at this;show absurd this (fF _)
def xH {r w:Nat}{R:AA}(hb:Blk r w R){i j z:Nat}(hi:i<r)(I:j<w)(a b:Nat):fJ (setAt R i j z) a b=if a=i/\b=j then z else fJ R a b:=by
 let F:i<R.length:=by rw[hb.len];show hi
 let hw:=hb.qC _ (a9 F);let h1:R.getD i []=R[i]:=by rw[ap,ae F];rfl
 let G:∀a,(R.set i (R[i].set j z)).getD a []=if a=i then R[i].set j z else R.getD a []:=λa=>by
  rw[ap,ap];by_cases ha:a=i;.subst ha;rw[i8 F,if_pos rfl];rfl
  .rw[ku (λy=>ha y.symm),if_neg ha]
 let g2:∀b,(R[i].set j z).getD b 46=if b=j then z else R[i].getD b 46:=λb=>by
  rw[ap,ap];by_cases D:b=j;.subst D;rw[i8 t6,if_pos rfl];rfl
  .rw[ku (λy=>D y.symm),if_neg D]
 unfold fJ setAt;rw[h1,G];by_cases ha:a=i
 .subst ha;rw[if_pos rb,g2,h1];by_cases D:b=j;.rw[if_pos D,if_pos ⟨rb,D⟩]
  .rw[if_neg D,if_neg λy=>D y.2]
 .rw[if_neg ha,if_neg λy=>ha y.1]
def af5 {r w:Nat}{F R:AA}(hb:Blk r w R){i j z:Nat}(hi:i<r)(G:j<w)(O:fJ F i j=46)(J:fJ R i j=46)(hz:z≠46):(vR F (setAt R i j z) r w).Perm (vR F R r w++[fV z]):=by
 refine U0 (k:=i) ?_ (λa ha=>?_) r hi
 .refine U0 (k:=j) ?_ (λb I=>?_) w G
  .let e1:oV F (setAt R i j z) i j=[fV z]:=by
    let D:fJ (setAt R i j z) i j=z:=by rw[xH hb hi G,if_pos ⟨rb,rb⟩]
    unfold oV;rw[D,if_pos ⟨O,hz⟩]
   let e2:oV F R i j=[]:=if_neg λy=>y.2 J;rw[e1,e2];show ip _
  .let D:fJ (setAt R i j z) i b=fJ R i b:=by rw[xH hb hi G,if_neg λy=>I y.2]
   unfold oV;rw[D]
 .unfold yC;let D:oV F (setAt R i j z) a=oV F R a:=funext λb=>by
   let D:fJ (setAt R i j z) a b=fJ R a b:=by rw[xH hb hi G,if_neg λy=>ha y.1]
   unfold oV;rw[D]
  rw[D]
theorem U3 {r w:Nat}{F:AA}:∀{ts:List bQ} {R:AA},Blk r w R->(∀t∈ts,inB r w t)->jm (ts.map kO)=true->(∀t∈ts,fJ R t.1 t.2.1=46)->w<=9->UW F R r w->(vR F (dR R ts) r w).Perm (vR F R r w++ts.map λt=>fV t.2.2)/\∀i,i<r->∀j,j<w->fJ R i j≠46->fJ (dR R ts) i j=fJ R i j
 | [],R,_,_,_,_,_,_=>⟨by rw[qA,fk];show ip _,λ_ _ _ _ _=>rfl⟩
 | t::ts,R,hb,dZ,zc,hfr,w9,hl=>by
  let⟨i1,j1,Y⟩:=dZ t bX;let Z:t.2.2≠46:=λe=>by unfold qz Ds Dr Eu at Y;rw[e]at Y;show absurd Y t9
  let O:fJ R t.1 t.2.1=46:=hfr t bX;let hF:fJ F t.1 t.2.1=46:=Classical.byContradiction λy=>by have:=hl _ i1 _ j1 y;rw[O]at this;show y this.symm
  let G:∀u∈ts,¬(u.1=t.1/\u.2.1=t.2.1):=af4 zc;let akt:jm (ts.map kO)=true:=by
   cases ts with| nil=>rfl| cons u ts=>rw[ce,ce,Bb,cn]at zc;rw[ce];show zc.2
  let hl2:UW F (setAt R t.1 t.2.1 t.2.2) r w:=λa ha b D I=>by
   rw[xH hb i1 j1];split
   .rename_i y;rw[y.1,y.2]at I;show absurd hF I
   .show hl a ha b D I
  let⟨p1,p2⟩:=U3 (F:=F) (ts:=ts) (R:=setAt R t.1 t.2.1 t.2.2) (Mz hb i1) (λu J=>dZ u (bq _ J)) akt (λu J=>by rw[xH hb i1 j1,if_neg (G u J)];show hfr u (bq _ J)) w9 hl2
  refine⟨?_,λa ha b D I=>?_⟩
  .show (vR F (dR (setAt R t.1 t.2.1 t.2.2) ts) r w).Perm _;calc p1.trans ((af5 hb i1 j1 hF O Z).append_right _ |>.trans ?_);rw[bd,ce];show ip _
  .show fJ (dR (setAt R t.1 t.2.1 t.2.2) ts) a b=_;let e:fJ (setAt R t.1 t.2.1 t.2.2) a b=fJ R a b:=by
    rw[xH hb i1 j1,if_neg λy=>I (by rw[y.1,y.2];show O)]
   rw[p2 a ha b D (by rw[e];show I),e]
def aku {M:AA}{kvs:List (Key×V)}{ts:List bQ}{q:kI}(j:WB 1000000 kvs):0<=Fg M kvs ts q:=by unfold Fg;let⟨h1,h2⟩:=ady (M:=M) (ts:=ts) (q:=q) j q.2.2.2.length;let⟨h3,h4⟩:=Z4 M kvs ts q q.2.2.2.length;show tS h1 t6
theorem aeL:∀{is:List Int},(∀i∈is,0<=i)->0<=is.sum
 | [],_=>mE _
 | i::is,h=>by rw[pi];have:=aeL (is:=is) λj D=>h j (bq _ D);have:=h i bX;lia
def ajD {aA aN:AA}{kvs:List (Key×V)}{ts:List bQ}{n m:Int}(j:WB 1000000 kvs)(hm:0<=m):0<=TV aA aN kvs ts n m:=by
 unfold TV;let h1:0<=((jF aA ts).map (Fg aN kvs ts)).sum:=aeL λi hi=>by let⟨q,_,rfl⟩:=bu.mp hi;show aku j
 split <;> lia
def adL {r w:Nat}{R:AA}(hb:Blk r w R){i j:Nat}(hi:i<r)(G:j<w):fJ R i j=cell R i j:=by
 let D:i<R.length:=by rw[hb.len];show hi
 let hw:=hb.qC _ (a9 D);let F:j<R[i].length:=by rw[hw];show G
 let h1:R.getD i []=R[i]:=by rw[ap,ae D];rfl
 rw[cell_eq D F];unfold fJ;rw[h1,ap,ae F];rfl
def adM {aA:AA}{ts:List bQ}(h:zK aA ts=none):∀t∈ts,cell aA t.1 t.2.1=46:=λt ht=>by have:=sf.mp h t ht;unfold tkT at this;simpa using this
structure KpI (F:AA)(r w size:Nat)(z:Std):Prop where
 er:z.r=r
 ew:z.w=w
 bl:Blk r w z.aA
 la:UW F z.aA r w
 rk:∀l∈z.racks,l.length<=size
def Yv {ls:AA}{n i:Nat}{x:List Nat}(h:∀l∈ls,l.length<=n)(hx:x.length<=n):∀l∈ls.set i x,l.length<=n:=λl hl=>by
 rcases fR hl with e|e;.show h l e
 .rw[e];show hx
def Does.keep {F:AA}{r w:Nat}{G:Gm}{z z':Std}{d:fW}{pt:Int}(h:Does G z d pt z')(Z:m8 z)(w9:w<=9)(I:KpI F r w G.size z)(hB:WB 1000000 G.kvs)(hm:0<=G.bm):KpI F r w G.size z'/\UW z.aA z'.aA r w/\(qy F z').Perm (qy F z)/\0<=pt:=by
 let⟨rfl,rfl,bl,la,rk⟩:=I;let n1:=Z.n1;cases h with
 | @lay ts l yw h0 h7 ri vd lf=>
  let D:fX G z<z.racks.length:=tm _ n1;let O:∀t∈ts,fJ z.aA t.1 t.2.1=46:=λt ht=>by
   rw[adL bl (yw t ht).1 (yw t ht).2.1];cases vd with| ok h1=>show adM h1 t ht
  let⟨p1,p2⟩:=U3 (F:=F) bl yw ri O w9 la;let hrk:(z.racks.getD (fX G z) []).length<=G.size:=by rw[ap,ae D];show rk _ (a9 D)
  let hll:=uz lf;refine(Bx ⟨rb,rb,rF bl yw,λi hi j Y J=>?_,Yv rk ?_⟩ (λi hi j Y J=>p2 i hi j Y J) ?_ (ajD hB hm))
  .let e:=la i hi j Y J;show(p2 i hi j Y (by rw[e];show J)).trans e
  .rw[jZ,av,jZ,ay];lia
  .let q1:=Np lf;let q2:=Jh (x:=dh (dh l++z.bag.take (G.size-(dh l).length))) D;let q3:(dh (dh l++z.bag.take (G.size-(dh l).length))).Perm (l++z.bag.take (G.size-(dh l).length)):=(iI _).trans ((iI l).append_right _);rw[f_]at q1;calc List.perm_iff_count.mpr λa=>?_;let c1:=q1.count_eq a;let c2:=q2.count_eq a;let c3:=q3.count_eq a;let c4:=p1.count_eq a;let c5:=congrArg (List.count a) (cw (G.size-(dh l).length) z.bag);simp only[ow]at c1 c2 c3 c4 c5;let c6:List.count a (ts.map (fV ∘ λt:bQ=>t.2.2))=List.count a (ts.map λt=>fV t.2.2):=rfl;show List.count a ((z.racks.set (fX G z) _).flatten++z.bag.drop _++vR F (dR z.aA ts) z.r z.w)=List.count a (z.racks.flatten++z.bag++vR F z.aA z.r z.w);simp only[ow];lia
 | @swap l m ne h7 tl lf hb=>
  let D:fX G z<z.racks.length:=tm _ n1;let hrk:(z.racks.getD (fX G z) []).length<=G.size:=by rw[ap,ae D];show rk _ (a9 D)
  let hll:=uz lf;calc(Bx ⟨rb,rb,bl,la,Yv rk ?_⟩ (λ_ _ _ _ _=>rfl) ?_ (mE _));.rw[jZ,av,jZ,ay];lia
  .let q1:=Np lf;rw[Yl tl]at q1;let q2:=Jh (x:=dh (dh m++z.bag.take l.length)) D;let q3:(dh (dh m++z.bag.take l.length)).Perm (m++z.bag.take l.length):=(iI _).trans ((iI m).append_right _);calc List.perm_iff_count.mpr λa=>?_;let c1:=q1.count_eq a;let c2:=q2.count_eq a;let c3:=q3.count_eq a;let c4:=(iI l).count_eq a;let c5:=congrArg (List.count a) (cw l.length z.bag);simp only[ow]at c1 c2 c3 c5;show List.count a ((z.racks.set (fX G z) _).flatten++(z.bag.drop _++dh l)++vR F z.aA z.r z.w)=List.count a (z.racks.flatten++z.bag++vR F z.aA z.r z.w);simp only[ow];lia
 | pass=>show(Bx ⟨rb,rb,bl,la,rk⟩ (λ_ _ _ _ _=>rfl) (ip _) (mE _))
theorem U4:∀(ls:AA),(ls.map dh).flatten.Perm ls.flatten
 | []=>ip _
 | l::ls=>(iI l).append (U4 ls)
def adN (F:AA)(r w:Nat):vR F F r w=[]:=by let h1:∀i j,oV F F i j=[]:=λi j=>if_neg λy=>y.2 y.1;let h2:∀i,yC F F w i=[]:=λi=>List.flatMap_eq_nil_iff.mpr λj _=>h1 i j;show List.flatMap_eq_nil_iff.mpr λi _=>h2 i
def Pu (Z:Ld):(qy Z.aA (beg Z)).Perm (Z.racks.flatten++Z.bag):=by show ((Z.racks.map dh).flatten++Z.bag++vR Z.aA Z.aA Z.r Z.w).Perm _;rw[adN,fk];show(U4 Z.racks).append_right _
def Does.iD {G:Gm}{z z':Std}{d:fW}{pt:Int}(h:Does G z d pt z'):z'.iD=z.iD.set (fX G z) (z.iD.getD (fX G z) 0+pt):=by
 let st:z.iD.set (fX G z) (z.iD.getD (fX G z) 0+0)=z.iD:=by
  rw[Int.add_zero];by_cases h:fX G z<z.iD.length;.rw[ap,ae h];show List.set_getElem_self h
  .show List.set_eq_of_length_le t6
 cases h with| lay=>rfl| swap=>show st.symm| pass=>show st.symm
def yx.mod {z:Std}{n:Nat}{bs:AA}{d:fW}(h:yx z (n%z.racks.length) bs d):yx z n bs d:=by
 let e:dG z (n%z.racks.length)=dG z n:=by unfold dG;rw[Nat.mod_mod]
 cases d with| lay ts=>unfold yx at h ⊢;rw[e]at h;show h| swap l=>unfold yx at h ⊢;rw[e]at h;show h| pass=>show True.intro
structure Ji (C CS CB CG:Addr)(H0 H:Hp)(g ps pd Ls:Addr)(G:Gm)(Z:Ld)(ds:List fW)(zs:List Std)(z:Std):Prop where
 kx:∀a o,H0 a=some o->a≠ps->a≠pd->a≠Ls->H a=some o
 ga:jk C CS CB CG H g ps pd (iz G (zs++[z]) ds)
 ph:Path G (beg Z) ds (zs++[z])
 sm:H Ls=some (.lst (z.iD.map V.int))
 ki:KpI Z.aA Z.r Z.w G.size z
 pe:(qy Z.aA z).Perm (qy Z.aA (beg Z))
def Ji.mv {C CS CB CG:Addr}{H0 H H':Hp}{g ps pd Ls:Addr}{G:Gm}{Z:Ld}{ds:List fW}{zs:List Std}{z:Std}(I:Ji C CS CB CG H0 H g ps pd Ls G Z ds zs z)(s:aD H H'):Ji C CS CB CG H0 H' g ps pd Ls G Z ds zs z:=⟨λa o h n1 j D=>s _ _ (I.kx a o h n1 j D),I.ga.mv s,I.ph,s _ _ I.sm,I.ki,I.pe⟩
open Classical in
def ais {C CS CB CG f f0 f1 f2 f3 f4 f5 f6 f7 f8:Addr}{fd eV dY fd2 n6 wu Lg Lh Lj fd8:FuncData}(F:fu K "law" "law" QK f fd)(bC:mg "len"=none)(gk:mg "sorted"=none)(cI:mg "tuple"=none)(zp:mg "max"=none)(cQ:gW K C)(O:tU K CG)(Nk:mg "Book"=some (.ref CB))(Uk:Mk K CB f0)(Ul:cB P w K mg base dH 3 f0 eV ["self","words"] (Tj K CB))(Um:bT K eV ["self","words"] [])(af6:mg "Game"=some (.ref CG))(ait:Mk K CG f1)(aiu:cB P w K mg base dH 7 f1 dY ["self","board","book","worths","bonus","size","racks","bag"] (Yi C CS CB CG))(aiv:bT K dY ["self","board","book","worths","bonus","size","racks","bag"] [])(ab4:Meth K CG "do" f2)(ab5:cB P w K mg base dH 16 f2 fd2 ["self","deed"] (ail C CS CB CG))(ab6:bT K fd2 ["self","deed"] [])(lJ:Meth K CG "board_now" f3)(lK:cB P w K mg base dH 1 f3 n6 ["self"] (pA C CS CB CG (Ud C)))(lM:bT K n6 ["self"] [])(gZ:Meth K CG "racks_now" f4)(g_:cB P w K mg base dH 1 f4 wu ["self"] (pA C CS CB CG Fl))(h_:bT K wu ["self"] [])(nP:Meth K CG "bag_now" f5)(nQ:cB P w K mg base dH 1 f5 Lg ["self"] (pA C CS CB CG Z9))(nR:bT K Lg ["self"] [])(wB:Meth K CG "points_now" f6)(wC:cB P w K mg base dH 1 f6 Lh ["self"] (pA C CS CB CG aij))(wD:bT K Lh ["self"] [])(qP:Meth K CG "turn" f7)(qQ:cB P w K mg base dH 2 f7 Lj ["self"] (Nj C CS CB CG))(qR:bT K Lj ["self"] [])(uD:Meth K CG "is_over" f8)(uE:cB P w K mg base dH 4 f8 fd8 ["self"] (Ui C CS CB CG))(uF:bT K fd8 ["self"] [])(af7:cu P w K mg base "_law_parts" 7 ["_law_script"] (Uy K C))(af8:cu P w K mg base "_law_begun" 1 ["_law_parts_here"] (Yp C))(aiw:cu P w K mg base "_law_deed" 18 ["_law_now","_law_book","_law_words_here","_law_cell"] (Yr C CB))(Ia:cu P w K mg base "_law_all_tiles" 2 ["_law_game","_law_first"] (ab2 C CS CB CG))(aix:cu P w K mg base "_law_lain" 1 ["_law_ahead","_law_behind"] ab3):cB P w K mg base dH 20 f fd ["_law_script"] (Qz K):=by
 calc F.dM mC (λbN A outer s H vs Q E D h=>?_);let⟨a,cells,rfl,hS,h63,q⟩:=h;calc(aM _ (aB (aX (i:=1) mC.nd rb (Or.inl rb) (bK af7 D.mono rb (aj aG ao))) (aB (aX (i:=2) mC.nd rb (Or.inl rb) (rM Uk Ul D.mono rb Nk Um .nil dO (aj (bf bF aZ aq (λ_ _=>rfl)) ao))) (aB (aX (i:=3) mC.nd rb (Or.inl rb) (rM ait aiu D.mono rb af6 aiv .nil dO (aj (bf bF aZ aq (λ_ _=>rfl)) (aj bG (aj (bf bF aZ aq (λ_ _=>rfl)) (aj (bf bF aZ aq (λ_ _=>rfl)) (aj (bf bF aZ aq (λ_ _=>rfl)) (aj (bf bF aZ aq (λ_ _=>rfl)) (aj (bf bF aZ aq (λ_ _=>rfl)) ao))))))))) (aB (aX (i:=4) mC.nd rb (Or.inl rb) (bK af8 D.mono rb (aj aZ ao))) (aB (aX (i:=5) mC.nd rb (Or.inl rb) (cg (bf bF aZ aq (λ_ _=>rfl)) rb)) (aB (aX (i:=6) mC.nd rb (Or.inl rb) (bK Ia D.mono rb (aj bJ (aj fj ao)))) (aB (aX (i:=7) mC.nd rb (Or.inl rb) (aL Rp (jU (aj aq ao)) (aW bZ ue bC aE (aj (bf bF aZ aq (λ_ _=>rfl)) ao)))) (aB (cJ (bU vB fU (gq bz di dq rJ (bL [] uj) (aj (aW (Dp rb) ue gk gT (aj (aL kZ (gq bz di dq xR (bL [] uj) (aj (bf bF aZ aq (λ_ _=>rfl)) ao)) (bf bF aZ aq (λ_ _=>rfl))) ao)) ao)) (bO _)) (aF (bD iY)) bR) (aB (fP dr rb (qj (fD w5 aG (fG aq) (fG aq))) (cj (i:=8) mC.nd rb (Or.inl rb)) (aF (jj (cJ (fQ (eO (dX bJ O.cl uD uE D.mono uF .nil dO))) (aB (aX (i:=9) mC.nd rb (Or.inl rb) (cg (dX bJ O.cl lJ lK D.mono lM .nil dO) rb)) (aB (aX (i:=4) mC.nd rb (Or.inl rb) (dJ (aj (dX bJ O.cl lJ lK D.mono lM .nil dO) (aj (dX bJ O.cl gZ g_ D.mono h_ .nil dO) (aj (dX bJ O.cl nP nQ D.mono nR .nil dO) (aj (dX bJ O.cl wB wC D.mono wD .nil dO) (aj (dX bJ O.cl qP qQ D.mono qR .nil dO) (aj aq (aj iY ao))))))))) (aB (aX (i:=10) mC.nd rb (Or.inl rb) (dX bJ O.cl qP qQ D.mono qR .nil dO)) (aB (aX (i:=11) mC.nd rb (Or.inl rb) (ql bJ O.cl ab4 ab5 D.mono ab6 .nil dO (aj (bK aiw D.mono rb (aj dI (aj bG (aj (bf bF aZ aq (λ_ _=>rfl)) (aj mX ao))))) ao))) (aB (xP (aL cY (bf iQ jl nD (λ_ _=>rfl)) pC) (J1 jl nD set_list)) (aB (cJ (QW.qt (oW (bU uM pC aq (bO _)) (oW (bU (Ry D.units) (dX bJ O.cl wB wC D.mono wD .nil dO) (gR iW ue cI c_ (aj jl ao)) (bO _)) (nC (bU vB (bK Ia D.mono rb (aj bJ (aj fj ao))) fU (bO _)))))) (aF (bD iY)) bR) (aB (cJ (QW.qt (oW (fQ (eO (bK aix D.mono rb (aj mY (aj (cg (dX bJ O.cl lJ lK D.mono lM .nil dO) rb) ao))))) (nC (bU GC (dX bJ O.cl qP qQ D.mono qR .nil dO) (aL b_ (aL cY nD aq) (aW bZ ue bC aE (aj jl ao))) (bO _))))) (aF (bD iY)) bR) (aF (cJ (bU aei (aW (abb rb) ue zp PyProof.Rows.boot_max (aj (jG rb (ju.of mC.nd ui) (iB (dX bJ O.cl gZ g_ D.mono h_ .nil dO)) (λ_ _ _ _ _=>eG) (λ_ _ _ _ _=>(aW dw ue bC aE (aj aG ao)))) ao)) (bf bF aZ aq (λ_ _=>rfl)) (bO _)) (aF (bD iY)) bR))))))))) bR)))) (aF (bD iY))))))))))) ?_);calc(aK a cells rb hS (λpp pw Z H1 s1 fpw PA PO=>?_));let⟨b0,dk,pbn,Yw,hpp,hB0,hdk,akv,aiy⟩:=PA.ex;let w2:=PO.w2;calc(bA pp _ _ (.ref pw) rb rb (aU.of hpp) (aV (j:=1) rb) (λk kx nk1 nk2 nk3=>?_));let sK:∀{x o},H1 x=some o->upd (upd H1 kx (HO.own k)) k (HO.ins CB kx []) x=some o:=λ{x o} h=>by rw[aY (bB h nk1),aY (bB h nk2)];show h
 calc(iy k kx pw Z.ws rb au (.inl (bI.of (sK PA.wl))) PO.wz t6 (λkd bs H2 fkd BK hbs SM kp2=>⟨rb,?_⟩));let s2:aD H1 H2:=λx o h=>kp2 x o (sK h) (bB h nk1);let Nr:=s2 _ _ hpp;calc(bA pp _ _ (.ref b0) rb rb (aU.of Nr) (aV (j:=0) rb) (bA pp _ _ (.ref dk) rb rb (aU.of Nr) (aV (j:=2) rb) (bA pp _ _ (.ref pbn) rb rb (aU.of Nr) (aV (j:=3) rb) (bA pp _ _ (.int Z.size) rb rb (aU.of Nr) (aV (j:=4) rb) (bA pp _ _ (.ref Yw) rb rb (aU.of Nr) (aV (j:=5) rb) (bA pp _ _ (.str (S Z.bag)) rb rb (aU.of Nr) (aV (j:=6) rb) (λg gx ng1 ng2 ng3=>?_)))))));let sG:aD H2 (upd (upd H2 gx (HO.own g)) g (HO.ins CG gx [])):=λx o h=>by rw[aY (bB h ng1),aY (bB h ng2)];show h
 let s1G:=s2.trans sG;calc⟨g,gx,b0,k,kd,dk,pbn,Yw,bs,Z.kvs,Z.bn,Z.bm,Z.size,Z.r,Z.w,Z.aA,Z.aN,Z.bi,Z.bj,Z.racks,Z.bag,rb,au,hB0.mv s1G,BK.mv sG,t6,s1G _ _ hdk,s1G _ _ akv,s1G _ _ aiy,PO.n1,PO.n4,(λl hl=>by have:=(PO.r7 l hl).1;have:=PO.s7;lia),λps pd Ba H3 kp3 hm fps fpd A3=>⟨rb,?_⟩⟩;let s3:aD H2 H3:=λx o h=>kp3 x o (sG x o h) (bB h ng1);let A3:jk C CS CB CG H3 g ps pd (iz ⟨[],[],Ba,Z.kvs,Z.bn,Z.bm,Z.size⟩ [beg Z] []):=A3;let GF:Q5 ⟨[],[],Ba,Z.kvs,Z.bn,Z.bm,Z.size⟩:=⟨PO.wd,PO.wb,PO.s7⟩
 obtain⟨G,ek,en,em,ez,ew,A3,GF⟩:∃G:Gm,G.kvs=Z.kvs/\G.bn=Z.bn/\G.bm=Z.bm/\G.size=Z.size/\G.ws=Ba/\jk C CS CB CG H3 g ps pd (iz G [beg Z] [])/\Q5 G:=⟨_,rb,rb,rb,rb,rb,A3,GF⟩
 let hbw:∀x,x∈bs↔x∈G.ws:=λx=>by rw[ew];show(hm x).symm
 let Z0:m8 (beg Z):=by let z7:=PO.s7;calc⟨by show 1<=(Z.racks.map dh).length;rw[aa];show PO.n1,by show (Z.racks.map dh).length<=4;rw[aa];show PO.n4,λl hl=>?_,PO.b6,PO.bt,by show (List.replicate _ _).length=(Z.racks.map dh).length;rw[aa,dL]⟩;let⟨m,hm,rfl⟩:=bu.mp hl;let⟨h1,h2⟩:=PO.r7 m hm;show⟨by rw[jZ];lia,λc hc=>h2 c ((iI m).mem_iff.mp hc)⟩
 let K5:=s2.trans s3;let PA3:Ce C H3 pp pw Z:=PA.kl (Kl.of K5) (K5 _ _ PA.wl);calc(cW pp pw Z rb PA3 PO (λbn H4 s4 NA0=>?_));let Yx:=K5.trans s4;let aai:=Yx _ _ hpp;let aeM:=Yx _ _ aiy;obtain⟨⟨bx,br,bm,bb,hbx,hbr,hbm,hbb⟩,B⟩:=hB0.mv Yx;calc(bA pp _ _ (.ref b0) rb rb (aU.of aai) (aV (j:=0) rb) (cL b0 C bx _ _ rb hbx cQ.cl cQ.nr rb ?_));let A4:=A3.mv s4;calc⟨g,br,ps,pd,iz G [beg Z] [],[],beg Z,Z.aA,rb,A4,rb,Z0,hbr,B.br,λH5 s5=>?_⟩;calc⟨zsz 1,λL0 hL0=>?_⟩;let s6:=aD.upd hL0 (o:=HO.lst [V.int 0]);let e6:upd H5 L0 (HO.lst [V.int 0]) L0=some (.lst [.int 0]):=au;generalize upd H5 L0 (HO.lst [V.int 0])=H6 at s6 e6 ⊢;let Yy:=s5.trans s6;let hrl:(Ts Z.racks).length=Z.racks.length:=aa _;let rn1:=PO.n1;let rn4:=PO.n4;calc(bA pp _ _ (.ref Yw) rb rb (aU.of (Yy _ _ aai)) (aV (j:=5) rb) (aK Yw _ rb (.inr (aU.of (Yy _ _ aeM))) (G4 L0 _ _ rb rb e6 (by rw[hrl];lia) (by rw[hrl];lia) ?_ (λLs hLs=>?_))));.rw[hrl,c9];show am (aJ (by show 1*_<=1000;lia))
 rw[hrl,c9];let s7:=aD.upd hLs (o:=HO.lst (List.replicate Z.racks.length [V.int 0]).flatten);let e7:upd H6 Ls (HO.lst (List.replicate Z.racks.length [V.int 0]).flatten) Ls=some (.lst ((beg Z).iD.map V.int)):=by rw[au];show some (HO.lst _)=some (HO.lst ((List.replicate Z.racks.length (0:Int)).map V.int));simp
 generalize upd H6 Ls (HO.lst (List.replicate Z.racks.length [V.int 0]).flatten)=H7 at s7 e7 ⊢;let Pk:=Yy.trans s7;let hfl:Z.racks.flatten.length<=28:=by have:=Fp (ls:=Z.racks) (λl hl=>by have:=(PO.r7 l hl).1;have:=PO.s7;lia);lia
 let b6:=PO.b6;let cU:(Z.racks.flatten++Z.bag).length<=999:=by rw[av];lia
 calc(bY rb rb (bA pp _ _ (.ref Yw) rb rb (aU.of (Pk _ _ aai)) (aV (j:=5) rb) (dF Yw Z.racks rb rb (aU.of (Pk _ _ aeM)) t6 (bA pp _ _ (.str (S Z.bag)) rb rb (aU.of (Pk _ _ aai)) (aV (j:=6) rb) (aQ Z.racks.flatten Z.bag rb rb (am (aJ t6)) (bH _ rb cU (λp2 us hp2 pm pw'=>?_)))))));calc(dF p2 (us.map λc=>[c]) rb rb (bI.of au) ?_ (aK (dh (qy Z.aA (beg Z))) ((us.map λc=>[c]).flatten) rb rb (bh _ rb ?_)));.rw[mD,pm.length_eq];lia
 rw[Ax (pm.map λc=>[c]) pw',T4 (Pu Z),aw rfl];rw[<-T4 (Pu Z)];calc cM ?_;let s8:=aD.upd hp2 (o:=HO.lst (Ts (us.map λc=>[c])));generalize upd H7 p2 (HO.lst (Ts (us.map λc=>[c])))=H8 at s8 ⊢;let s48:=Pk.trans s8;let Pn:=(s1.trans Yx).trans s48;calc(aM _ rb (aM _ rb (aK a _ rb (Pn.seq hS) (λZc hZc=>?_))));let s9:=aD.upd hZc (o:=HO.lst (jo (cells.map V.int) (some 4) (some 63)));let e9:upd H8 Zc (HO.lst (jo (cells.map V.int) (some 4) (some 63))) Zc=some (.lst (jo (cells.map V.int) (some 4) (some 63))):=au;generalize upd H8 Zc (HO.lst (jo (cells.map V.int) (some 4) (some 63)))=H9 at s9 e9 ⊢;let J:=s48.trans s9;let⟨_,aiz,_⟩:=A4.st;let aiA:=A4.dn;let wl2:=s2 _ _ PA.wl;let wl4:=Yx _ _ PA.wl;let wn1:pw≠ps:=bB (sG _ _ wl2) fps;let wn2:pw≠pd:=bB (sG _ _ wl2) fpd;let wn3:pw≠Ls:=bB (Yy _ _ wl4) hLs;let zn1:Zc≠ps:=(bB (s48 _ _ aiz) hZc).symm;let zn2:Zc≠pd:=(bB (s48 _ _ aiA) hZc).symm;let zn3:Zc≠Ls:=(bB (s8 _ _ e7) hZc).symm;let ln1:Ls≠ps:=(bB (Yy _ _ aiz) hLs).symm;let ln2:Ls≠pd:=(bB (Yy _ _ aiA) hLs).symm;let A9:=A4.mv J;let⟨_,akx,_⟩:=A9.st;let aky:=A9.dn;let eL9:=s9 _ _ (s8 _ _ e7);let PA9:Ce C H9 pp pw Z:=PA.kl (Kl.of (Yx.trans J)) (J _ _ wl4);let BK9:iC CB H9 k kd bs:=((BK.mv s3).mv s4).mv J;let akz:=J _ _ hbr;let K0:KpI Z.aA Z.r Z.w G.size (beg Z):=by calc⟨rb,rb,B.br,λ_ _ _ _ _=>rfl,λl hl=>?_⟩;let⟨m,hm,rfl⟩:=bu.mp hl;rw[jZ,ez];show(PO.r7 m hm).1
 let I9:Ji C CS CB CG H9 H9 g ps pd Ls G Z [] [] (beg Z):=⟨λ_ _ h _ _ _=>h,A9,.nil,eL9,K0,ip _⟩
 let adO:∀{HX:Hp},(∀a o,H9 a=some o->a≠ps->a≠pd->a≠Ls->HX a=some o)->Kl H9 HX:=λk a o h n=>k a o h (j_ akx h n) (j_ aky h n) (j_ eL9 h n);let hcl:(jo (cells.map V.int) (some 4) (some 63)).length<=63:=by unfold jo;rw[ay,bv,aa];lia
 let r1:=B.r1;let r9:=B.r9;let w1:=B.w1;let w9:=B.w9;let fbr:∀{HX:Hp},(∀a o,H9 a=some o->a≠ps->a≠pd->a≠Ls->HX a=some o)->HX br=some (.tup (Ts Z.aA)):=λk=>adO k _ _ akz (λ_ z=>nomatch z);refine(bH Zc rb ⟨_,bI.of e9⟩ (pB (K:=K) (a:=Zc) (xs:=jo (cells.map V.int) (some 4) (some 63)) (λi σ HA=>∃(v4 v8 v9 v10 v11:Option V) (ds:List fW) (zs:List Std) (z:Std),σ=[some (.ref a),some (.ref pp),some (.ref k),some (.ref g),v4,some (.ref br),some (.str (S (dh (qy Z.aA (beg Z))))),some (.ref Ls),v8,v9,v10,v11]/\Ji C CS CB CG H9 HA g ps pd Ls G Z ds zs z/\ds.length<=i)
  ⟨_,none,none,none,none,[],[],beg Z,rb,I9,ai _⟩ (λi σ HA _ h=>?_) ?_ ?_))
 .let⟨_,_,_,_,_,_,_,_,_,I,_⟩:=h;show bI.of (I.kx _ _ e9 zn1 zn2 zn3)
 .intro i x σ HA hx z;let⟨v4,v8,v9,v10,v11,ds,zs,z,rfl,I,hdi⟩:=z;let hic:=(al.mp hx).1;let⟨c,_,rfl⟩:=bu.mp (eI (de (b8 hx)));let EY:=I.ph.len;rw[av]at EY;let EY:zs.length=ds.length:=Nat.succ.inj EY;let Px:m8 z:=I.ph.ok Z0 GF.sz z t7;let Y:(iz G (zs++[z]) ds).done.length=ds.length:=aa _;let⟨gy,_,_,_,_,hgA,_⟩:=I.ga.ex;calc⟨λσ HB=>∃(v4 v8 v9 v10 v11:Option V) (ds:List fW) (zs:List Std) (z:Std),σ=[some (.ref a),some (.ref pp),some (.ref k),some (.ref g),v4,some (.ref br),some (.str (S (dh (qy Z.aA (beg Z))))),some (.ref Ls),v8,v9,v10,v11]/\Ji C CS CB CG H9 HB g ps pd Ls G Z ds zs z/\ds.length<=i+1,?_,λσ HB h=>h⟩;calc(cW g gy _ rb hgA rb (QH g ps pd (iz G (zs++[z]) ds) zs z rb I.ga rb Px ab1 (by rw[Y];lia) (λHB sB=>(bh _ rb ?_))));let eov:zq (iz G (zs++[z]) ds) z=zq (iz G [] ds) z:=rfl;rw[eov];let IB:=I.mv sB;cases hov:zq (iz G [] ds) z with
  | true=>show cM ⟨_,_,_,_,_,ds,zs,z,rb,IB,t6⟩
  | false=>
   let AB:=IB.ga;let U5:=sB _ _ hgA;calc cR (cW g gy _ rb U5 rb (oZ g ps pd _ zs z rb AB rb (λb hb=>?_)));obtain⟨⟨cx,cr,cm,cb,hc,Yn,hcm,hcb⟩,B2⟩:=hb;calc(cL b C cx _ _ rb hc cQ.cl cQ.nr rb ?_);calc(cW g gy _ rb U5 rb (oZ g ps pd _ zs z rb AB rb (λb2 hb2=>(cW g gy _ rb U5 rb (oZ g ps pd _ zs z rb AB rb (λq1 hq1=>(cW g gy _ rb U5 rb (oZ g ps pd _ zs z rb AB rb (cW g gy _ rb U5 rb (oZ g ps pd _ zs z rb AB rb (λq2 hq2=>(cW g gy _ rb U5 rb ⟨g,ps,pd,_,zs,z,rb,AB,rb,Px,zsz 7,λn hn=>?_⟩))))))))))));let sC:=aD.upd hn (o:=HO.tup [V.ref b2,V.ref q1,V.str (S z.bag),V.ref q2,V.int (((iz G (zs++[z]) ds).done.length%z.racks.length:Nat):Int),V.int 0,V.bl false]);let eC:upd HB n (HO.tup [V.ref b2,V.ref q1,V.str (S z.bag),V.ref q2,V.int (((iz G (zs++[z]) ds).done.length%z.racks.length:Nat):Int),V.int 0,V.bl false]) n=some (.tup [V.ref b2,V.ref q1,V.str (S z.bag),V.ref q2,V.int ((ds.length%z.racks.length:Nat):Int),V.int 0,V.bl false]):=by rw[au,Y]
   generalize upd HB n (HO.tup [V.ref b2,V.ref q1,V.str (S z.bag),V.ref q2,V.int (((iz G (zs++[z]) ds).done.length%z.racks.length:Nat):Int),V.int 0,V.bl false])=HC at sC eC ⊢;let NC:aaf C HC n z (ds.length%z.racks.length) 0 false:=⟨b2,q1,q2,eC,hb2.mv sC,sC _ _ hq1,sC _ _ hq2⟩
   let IC:=IB.mv sC;let hgC:=sC _ _ U5;let klC:=adO IC.kx;let PC:=PA9.kl klC (IC.kx _ _ PA9.wl wn1 wn2 wn3);let⟨_,_,_,_,akA,_⟩:=PC.ex;calc(cW g gy _ rb hgC rb (Kg g ps pd _ zs z rb IC.ga rb Px ?_));calc(cW g gy _ rb hgC rb (bA pp _ _ (.ref pw) rb rb (aU.of akA) (aV (j:=1) rb) ⟨n,k,kd,pw,bs,Z.ws,c,z,ds.length%z.racks.length,0,false,rb,NC,Px,BK9.kl klC,PC.wl,by have:=PO.w1;lia,PO.wz,λe d HE sE hd hok=>?_⟩));let⟨pt,z',dd⟩:=ab0 (G:=G) hok.mod hbw;let IE:=IC.mv sE;let⟨_,akB,_⟩:=IE.ga.st;calc⟨g,e,ps,pd,iz G (zs++[z]) ds,zs,z,z',d,pt,rb,IE.ga,rb,Px,GF.ok t6 (by rw[av];show zs.length+1<=101;lia),hd,hov,dd.sts,λHG kG AG=>?_⟩;rw[af2]at AG;let⟨KI,LA,PE,pt0⟩:=dd.keep Px w9 IE.ki GF.wb (by show 0<=G.bm;rw[em];show PO.bm0);let PH':Path G (beg Z) (ds++[d]) (zs++[z]++[z']):=.snoc I.ph hov dd;let Fq:=PH'.ok Z0 GF.sz z' t7;let hrk:=dd.racks;let akC:(iz G (zs++[z]++[z']) (ds++[d])).done.length=ds.length+1:=by show ((ds++[d]).map fW.name).length=_;rw[aa,av];rfl
   let hLG:HG Ls=some (.lst (z.iD.map V.int)):=kG _ _ IE.sm ln1 ln2;let htn:ds.length%z.racks.length<z.iD.length:=by rw[Px.pl];show tm _ Px.n1
   let etn:fX (iz G [] ds) z=ds.length%z.racks.length:=by show (ds.map fW.name).length%_=_;rw[aa]
   let hat:rH (z.iD.map V.int) ((ds.length%z.racks.length:Nat):Int)=some (.int (z.iD.getD (ds.length%z.racks.length) 0)):=by calc aV ?_;rw[cz,ap,ae htn];rfl
   let hix:yI (z.iD.map V.int).length ((ds.length%z.racks.length:Nat):Int)=some (ds.length%z.racks.length):=by unfold yI;rw[aa,if_pos t6,if_pos t6,c9]
   calc(bA Ls _ _ (.int (z.iD.getD (ds.length%z.racks.length) 0)) rb rb (bI.of hLG) (by rw[Y];show hat) (aK _ _ rb rb (bA Ls _ _ (ds.length%z.racks.length) rb rb hLG (by rw[Y];show hix) ?_)));let eJ:upd HG Ls (HO.lst ((z.iD.map V.int).set (ds.length%z.racks.length) (.int (z.iD.getD (ds.length%z.racks.length) 0+pt)))) Ls=some (.lst (z'.iD.map V.int)):=by rw[au,Ub,dd.iD,etn]
   let kJ:∀x o,HG x=some o->x≠Ls->upd HG Ls (HO.lst ((z.iD.map V.int).set (ds.length%z.racks.length) (.int (z.iD.getD (ds.length%z.racks.length) 0+pt)))) x=some o:=λx o h n=>by rw[aY n];show h
   generalize upd HG Ls (HO.lst ((z.iD.map V.int).set (ds.length%z.racks.length) (.int (z.iD.getD (ds.length%z.racks.length) 0+pt))))=HJ at eJ kJ ⊢;let klJ:Kl HG HJ:=λx o h n=>kJ x o h (j_ hLG h n);let⟨_,aiB,_⟩:=AG.st;let AJ:jk C CS CB CG HJ g ps pd (iz G (zs++[z]++[z']) (ds++[d])):=AG.kl klJ ((kJ _ _ aiB ln1.symm).trans aiB.symm) ((kJ _ _ AG.dn ln2.symm).trans AG.dn.symm);let IJ:Ji C CS CB CG H9 HJ g ps pd Ls G Z (ds++[d]) (zs++[z]) z':=⟨λx o h n1 n2 n3=>kJ _ _ (kG _ _ (IE.kx x o h n1 n2 n3) n1 n2) n3,AJ,PH',eJ,KI,PE.trans I.pe⟩
   let⟨gw,_,_,_,_,hgJ,_⟩:=AJ.ex;let klE:Kl HE HJ:=(kG.kl akB IE.ga.dn).trans klJ;let akD:HJ cr=some (.tup (Ts z.aA)):=klE _ _ (sE _ _ (sC _ _ Yn)) (λ_ z=>nomatch z);calc(aK _ _ rb rb (bh _ rb ?_));rw[ah (show ¬pt<0 by lia)];calc cM (cW g gw _ rb hgJ rb (oZ g ps pd _ (zs++[z]) z' rb AJ rb (λq3 hq3=>(eU Ls _ rb (.inl ⟨bI.of eJ,λt ht=>?_⟩)))));let sK':=aD.upd ht (o:=HO.tup (z'.iD.map V.int));let eK:upd HJ t (HO.tup (z'.iD.map V.int)) t=some (.tup (z'.iD.map V.int)):=au;generalize upd HJ t (HO.tup (z'.iD.map V.int))=HK at sK' eK ⊢;calc(cW 2 (.tup (z'.iD.map Dt.int)) (.tup (z'.iD.map Dt.int)) t9 (.tup (aU.of (sK' _ _ hq3)) d_.ints) (.tup (aU.of eK) d_.ints) (bh _ rb ?_));rw[aw rfl];let IK:=IJ.mv sK';calc cM ⟨g,br,ps,pd,_,zs++[z],z',Z.aA,rb,IK.ga,rb,Fq,fbr IK.kx,by rw[KI.er,KI.ew];show B.br,λHL sL=>(aK _ _ rb rb (bh _ rb ?_))⟩;rw[T4 IK.pe,aw rfl];let IL:=IK.mv sL;let sJL:=sK'.trans sL;calc cM (cW g gw _ rb (sJL _ _ hgJ) rb (oZ g ps pd _ (zs++[z]) z' rb IL.ga rb (λb3 hb3=>?_)));obtain⟨⟨dx3,er3,_,_,hd3,akE,_,_⟩,B3⟩:=hb3;calc(cL b3 C dx3 _ _ rb hd3 cQ.cl cQ.nr rb ⟨cr,er3,z.aA,z'.aA,Z.r,Z.w,rb,sJL _ _ akD,akE,I.ki.bl,KI.bl,r1,r9,w1,w9,LA,cM ?_⟩);refine(cW g gw _ rb (sJL _ _ hgJ) rb (Kg g ps pd _ (zs++[z]) z' rb IL.ga rb Fq (aK _ _ rb rb (aK Ls _ rb (.inl (bI.of IL.sm)) (dF _ _ rb rb ?_ rb (bh _ rb ?_))))))
   .show (0:Int)<_;rw[aa,Fq.pl];have:=Fq.n1;lia
   let ee:V.int (((iz G (zs++[z]++[z']) (ds++[d])).done.length%z'.racks.length:Nat):Int)=V.int (((((iz G (zs++[z]) ds).done.length%z.racks.length:Nat):Int)+1)%((z'.iD.map V.int).length:Int)):=by
    rw[akC,Y,aa,Fq.pl,hrk];congr 1;have:((ds.length+1)%z.racks.length:Nat)=(ds.length%z.racks.length+1)%z.racks.length:=by rw[Nat.mod_add_mod]
    rw[this,Int.natCast_emod,Int.natCast_add];rfl
   rw[aw ee];refine cM (cW g gw _ rb (sJL _ _ hgJ) rb (oZ g ps pd _ (zs++[z]) z' rb IL.ga rb (λq4 hq4=>(bH q4 rb ⟨_,aU.of hq4⟩ (λL hL=>pH (xs:=Ts z'.racks) (λi ys HM=>ys=((z'.racks.take i).map λl=>(l.length:Int)).map V.int/\HM L=some (.lst ys)/\aD HL HM) (bY rb au (aD.upd hL)) (λi ys HM _ h=>aU.of (h.2.2 _ _ hq4)) ?_ ?_)))))
   .intro j x ys HM hj z;let⟨rfl,hLM,sm⟩:=z;let⟨l,hl,rfl⟩:=yg hj;let hjl:j<(Ts z'.racks).length:=(al.mp hj).1;let hjr:j<z'.racks.length:=by rw[aa]at hjl;show hjl
    let hl7:=(Fq.r7 l (b8 hl)).1;have:=Fq.n4;calc(oY l rb (am (aJ t6)) hLM ?_ (iK.mk hjl (bY ?_ au (sm.dU hL))));.rw[aa,aa,ay];show aJ t6
    .rw[take_snoc hl];simp only[cq];rfl
   .intro ys HM z;let⟨rfl,hLM,sm⟩:=z;rw[aa,cS]at hLM;let IM:=IL.mv sm;let PM:=PA9.kl (adO IM.kx) (IM.kx _ _ PA9.wl wn1 wn2 wn3);let⟨_,_,_,_,akF,_⟩:=PM.ex;calc(aQ L _ rb (bI.of hLM) (by rw[aa];show Fq.n1) (λm hm _=>(bA pp _ _ (.int Z.size) rb rb (aU.of akF) (aV (j:=4) rb) (aK _ _ rb rb (bh _ rb ?_)))));let⟨l,hl,rfl⟩:=bu.mp hm;let hls:l.length<=G.size:=KI.rk l hl;rw[ah (show ¬(Z.size:Int)<(l.length:Int) by rw[<-ez];lia)];calc cM ⟨_,_,_,_,_,ds++[d],zs++[z],z',rb,IM,?_⟩;rw[av];show iX hdi
 .rintro σ HA _;show q HA
end
end My
end
namespace My
open PySem L2
section
variable {P:Program}{w:World}{K:W.Frag}{mg:Str->Option Value}{base:Heap}
abbrev af9 (K:W.Frag)(C:Addr):=tU K C
abbrev adP (K:W.Frag)(C:Addr):=tR K C
def ajE {h:Heap}{x:Str}{l:List Nat}{t:Tok}(X:K.In h)(G:h.Ns mainGlobals mg)(b:W.nsIn K mainGlobals x=some (some (.str (S l) t)))(n:t≠0):∃t,t≠0/\mg x=some (.str (S l) t):=⟨t,n,dS X G b⟩
def ab7 {h:Heap}(X:K.In h)(G:h.Ns mainGlobals mg){x:Str}{a:Addr}{c1 c2 c3:Nat}{i1 i2 i3:Int}{Y O Z F I D:Tok}{ep:Nat}(b:W.nsIn K mainGlobals x=some (some (.ref a)))(l:K.lookup a=some ⟨.type "dict",none,.dict #[⟨hashStr w (S [c1]),.str (S [c1]) Y,.int i1 F⟩,⟨hashStr w (S [c2]),.str (S [c2]) O,.int i2 I⟩,⟨hashStr w (S [c3]),.str (S [c3]) Z,.int i3 D⟩] ep,#[]⟩)(z:(a==sysModules)=false)(n:([c1,c2,c3]:List Nat).Nodup):∃a,mg x=some (.ref a)/\∀P:Program,KDict P w K a [(cZ [c1],.int i1),(cZ [c2],.int i2),(cZ [c3],.int i3)]:=by
 calc⟨a,dS X G b,λP=>⟨z,_,[(cZ [c1],.int i1 F),(cZ [c2],.int i2 I),(cZ [c3],.int i3 D)],l,?_,?_⟩⟩;.show .cons ⟨rb,⟨_,rb⟩⟩ (.cons ⟨rb,⟨_,rb⟩⟩ (.cons ⟨rb,⟨_,rb⟩⟩ .nil))
 .refine⟨_,_,⟨rb,rb,rb⟩,rb,?_,?_,?_⟩
  .intro e j;let j:e∈[(⟨hashStr w (S [c1]),.str (S [c1]) Y,.int i1 F⟩:DictEntry),⟨hashStr w (S [c2]),.str (S [c2]) O,.int i2 I⟩,⟨hashStr w (S [c3]),.str (S [c3]) Z,.int i3 D⟩]:=by simpa using j
   rcases b9.mp j with rfl|j;.show⟨cZ [c1],mG _ _ _ _,rb⟩
   rcases b9.mp j with rfl|j;.show⟨cZ [c2],mG _ _ _ _,rb⟩
   rcases b9.mp j with rfl|j;.show⟨cZ [c3],mG _ _ _ _,rb⟩
   .cases j
  .show .cons (mG _ _ _ _) rb (.cons (mG _ _ _ _) rb (.cons (mG _ _ _ _) rb .nil))
  .let e:([(cZ [c1],Value.int i1 F),(cZ [c2],Value.int i2 I),(cZ [c3],Value.int i3 D)]:List (Key×Value)).map (·.1)=([c1,c2,c3]:List Nat).map (λc=>cZ [c]):=rfl;rw[e];calc List.Pairwise.map _ (λa b J q=>J ?_) n;have:=yJ (oy q);simpa using this
structure Cg (K:W.Frag)(mg:Str->Option Value)(C f0 f1 f2 f3 f4:Addr)(eV dY fd2 n6 wu:FuncData):Prop where
 T:gW K C
 wj:mg "Board"=some (.ref C)
 M:Mk K C f0
 F0:fu K "__init__" "Board.__init__" lC f0 eV
 b0:bT K eV ["self","rows","marks","begin"] []
 F1:fu K "at" "Board.at" oF f1 dY
 b1:bT K dY ["self","row","column"] []
 m1:Meth K C "at" f1
 F2:fu K "is_free" "Board.is_free" jz f2 fd2
 b2:bT K fd2 ["self"] []
 m2:Meth K C "is_free" f2
 F3:fu K "run" "Board.run" mK f3 n6
 b3:bT K n6 ["self","row","column","way"] []
 m3:Meth K C "run" f3
 F4:fu K "laid" "Board.laid" lD f4 wu
 b4:bT K wu ["self","laying"] []
 m4:Meth K C "laid" f4
def adQ {h:Heap}{C f0 f1 f2 f3 f4:Addr}(X:K.In h)(G:h.Ns mainGlobals mg){U6 U7 od1 an1 od2 an2 od3 an3 od4 an4:Option Addr}{O2 I sl2 J5 sl4:Array (Option Value)}{U8 U9 U_ Va Ft Vb oc1 O F pm1 Py ct1 oc2 D dc2 Z Pz ct2 Y kV3 dc3 J PB ct3 oc4 kV4 dc4 pm4 j ct4:Value}(aC:W.nsIn K mainGlobals "Board"=some (some (.ref C)))(a0:W.findIn K (.ref C) "__init__"=some (some (.ref f0)))(i0:W.isFn K (.ref f0)=true)(l0:K.lookup f0=some ⟨U8,U6,.func (W.fnOf "__init__" "Board.__init__" (dD lC) (cT lC) (aH lC) .none U9 U_ Va U7 Ft Vb),O2⟩)(c0:W.codeIn K Ft "Board.__init__"=true)(k0:W.keepIn K (.ref f0)=true)(a1:W.findIn K (.ref C) "at"=some (some (.ref f1)))(i1:W.isFn K (.ref f1)=true)(l1:K.lookup f1=some ⟨oc1,od1,.func (W.fnOf "at" "Board.at" (dD oF) (cT oF) (aH oF) .none O F pm1 an1 Py ct1),I⟩)(c1:W.codeIn K Py "Board.at"=true)(k1:W.keepIn K (.ref f1)=true)(a2:W.findIn K (.ref C) "is_free"=some (some (.ref f2)))(i2:W.isFn K (.ref f2)=true)(l2:K.lookup f2=some ⟨oc2,od2,.func (W.fnOf "is_free" "Board.is_free" (dD jz) (cT jz) (aH jz) .none D dc2 Z an2 Pz ct2),sl2⟩)(c2:W.codeIn K Pz "Board.is_free"=true)(k2:W.keepIn K (.ref f2)=true)(a3:W.findIn K (.ref C) "run"=some (some (.ref f3)))(i3:W.isFn K (.ref f3)=true)(l3:K.lookup f3=some ⟨Y,od3,.func (W.fnOf "run" "Board.run" (dD mK) (cT mK) (aH mK) .none kV3 dc3 J an3 PB ct3),J5⟩)(c3:W.codeIn K PB "Board.run"=true)(k3:W.keepIn K (.ref f3)=true)(a4:W.findIn K (.ref C) "laid"=some (some (.ref f4)))(i4:W.isFn K (.ref f4)=true)(l4:K.lookup f4=some ⟨oc4,od4,.func (W.fnOf "laid" "Board.laid" (dD lD) (cT lD) (aH lD) .none kV4 dc4 pm4 an4 j ct4),sl4⟩)(c4:W.codeIn K j "Board.laid"=true)(k4:W.keepIn K (.ref f4)=true)(pg:W.plainGet K C Str.empty=true)(hd:W.hasDictIn K C=true)(po:W.plainOver K C=true)(sa:W.findIn K (.ref C) "__setattr__"=some (some (.builtin "object.__setattr__")))(mk:W.makesIn K C=true)(kc:W.keepIn K (.ref C)=true)(yD:W.findIn K (.ref C) "rows"=some none)(Fv:W.findIn K (.ref C) "marks"=some none)(Fw:W.findIn K (.ref C) "begin"=some none):∃C f0 f1 f2 f3 f4 eV dY fd2 n6 wu,Cg K mg C f0 f1 f2 f3 f4 eV dY fd2 n6 wu:=by let F0:=fZ (st:=lC) l0 c0 k0;let F1:=fZ (st:=oF) l1 c1 k1;let F2:=fZ (st:=jz) l2 c2 k2;let F3:=fZ (st:=mK) l3 c3 k3;let F4:=fZ (st:=lD) l4 c4 k4;show⟨C,f0,f1,f2,f3,f4,_,_,_,_,_,⟨⟨pg,hd,po,sa⟩,yD,Fv,Fw⟩,dS X G aC,⟨mk,a0,i0,kc⟩,F0,F0.binds (ps:=["self","rows","marks","begin"]) (λ_ _ _ _ _ _ us hl=>L2.e4 (λ_ _ _ _=>rfl) us hl),F1,F1.binds (ps:=["self","row","column"]) (λ_ _ _ _ _ _ us hl=>L2.e3 (λ_ _ _=>rfl) us hl),⟨a1,i1,k1⟩,F2,F2.binds (ps:=["self"]) (λ_ _ _ _ _ _ us hl=>L2.e1 (λ_=>rfl) us hl),⟨a2,i2,k2⟩,F3,F3.binds (ps:=["self","row","column","way"]) (λ_ _ _ _ _ _ us hl=>L2.e4 (λ_ _ _ _=>rfl) us hl),⟨a3,i3,k3⟩,F4,F4.binds (ps:=["self","laying"]) (λ_ _ _ _ _ _ us hl=>L2.e2 (λ_ _=>rfl) us hl),⟨a4,i4,k4⟩⟩
structure Fx (K:W.Frag)(mg:Str->Option Value)(C f0 f1 f2 f3:Addr)(eV dY fd2 n6:FuncData):Prop where
 T:uy K C
 wj:mg "Book"=some (.ref C)
 M:Mk K C f0
 F0:fu K "__init__" "Book.__init__" mQ f0 eV
 b0:bT K eV ["self","words"] []
 F1:fu K "has" "Book.has" oJ f1 dY
 b1:bT K dY ["self","text"] []
 m1:Meth K C "has" f1
 F2:fu K "words" "Book.words" lG f2 fd2
 b2:bT K fd2 ["self"] []
 m2:Meth K C "words" f2
 F3:fu K "twin" "Book.twin" mU f3 n6
 b3:bT K n6 ["self"] []
 m3:Meth K C "twin" f3
def af_ {h:Heap}{C f0 f1 f2 f3:Addr}(X:K.In h)(G:h.Ns mainGlobals mg){U6 U7 od1 an1 od2 an2 od3 an3:Option Addr}{O2 F sl2 J5:Array (Option Value)}{U8 U9 U_ Va Ft Vb oc1 J D Z Py ct1 oc2 j dc2 Y Pz ct2 O kV3 dc3 I PB ct3:Value}(aC:W.nsIn K mainGlobals "Book"=some (some (.ref C)))(a0:W.findIn K (.ref C) "__init__"=some (some (.ref f0)))(i0:W.isFn K (.ref f0)=true)(l0:K.lookup f0=some ⟨U8,U6,.func (W.fnOf "__init__" "Book.__init__" (dD mQ) (cT mQ) (aH mQ) .none U9 U_ Va U7 Ft Vb),O2⟩)(c0:W.codeIn K Ft "Book.__init__"=true)(k0:W.keepIn K (.ref f0)=true)(a1:W.findIn K (.ref C) "has"=some (some (.ref f1)))(i1:W.isFn K (.ref f1)=true)(l1:K.lookup f1=some ⟨oc1,od1,.func (W.fnOf "has" "Book.has" (dD oJ) (cT oJ) (aH oJ) .none J D Z an1 Py ct1),F⟩)(c1:W.codeIn K Py "Book.has"=true)(k1:W.keepIn K (.ref f1)=true)(a2:W.findIn K (.ref C) "words"=some (some (.ref f2)))(i2:W.isFn K (.ref f2)=true)(l2:K.lookup f2=some ⟨oc2,od2,.func (W.fnOf "words" "Book.words" (dD lG) (cT lG) (aH lG) .none j dc2 Y an2 Pz ct2),sl2⟩)(c2:W.codeIn K Pz "Book.words"=true)(k2:W.keepIn K (.ref f2)=true)(a3:W.findIn K (.ref C) "twin"=some (some (.ref f3)))(i3:W.isFn K (.ref f3)=true)(l3:K.lookup f3=some ⟨O,od3,.func (W.fnOf "twin" "Book.twin" (dD mU) (cT mU) (aH mU) .none kV3 dc3 I an3 PB ct3),J5⟩)(c3:W.codeIn K PB "Book.twin"=true)(k3:W.keepIn K (.ref f3)=true)(pg:W.plainGet K C Str.empty=true)(hd:W.hasDictIn K C=true)(po:W.plainOver K C=true)(sa:W.findIn K (.ref C) "__setattr__"=some (some (.builtin "object.__setattr__")))(mk:W.makesIn K C=true)(kc:W.keepIn K (.ref C)=true)(yD:W.findIn K (.ref C) "held"=some none):∃C f0 f1 f2 f3 eV dY fd2 n6,Fx K mg C f0 f1 f2 f3 eV dY fd2 n6:=by let F0:=fZ (st:=mQ) l0 c0 k0;let F1:=fZ (st:=oJ) l1 c1 k1;let F2:=fZ (st:=lG) l2 c2 k2;let F3:=fZ (st:=mU) l3 c3 k3;show⟨C,f0,f1,f2,f3,_,_,_,_,⟨⟨pg,hd,po,sa⟩,yD⟩,dS X G aC,⟨mk,a0,i0,kc⟩,F0,F0.binds (ps:=["self","words"]) (λ_ _ _ _ _ _ us hl=>L2.e2 (λ_ _=>rfl) us hl),F1,F1.binds (ps:=["self","text"]) (λ_ _ _ _ _ _ us hl=>L2.e2 (λ_ _=>rfl) us hl),⟨a1,i1,k1⟩,F2,F2.binds (ps:=["self"]) (λ_ _ _ _ _ _ us hl=>L2.e1 (λ_=>rfl) us hl),⟨a2,i2,k2⟩,F3,F3.binds (ps:=["self"]) (λ_ _ _ _ _ _ us hl=>L2.e1 (λ_=>rfl) us hl),⟨a3,i3,k3⟩⟩
structure Ci (K:W.Frag)(mg:Str->Option Value)(C f0:Addr)(eV:FuncData):Prop where
 T:adP K C
 wj:mg "Stand"=some (.ref C)
 M:Mk K C f0
 F0:fu K "__init__" "Stand.__init__" lE f0 eV
 b0:bT K eV ["self","board","racks","bag","points"] []
def adR {h:Heap}{C f0:Addr}(X:K.In h)(G:h.Ns mainGlobals mg){I Z:Option Addr}{Y:Array (Option Value)}{D O j J F Vb:Value}(aC:W.nsIn K mainGlobals "Stand"=some (some (.ref C)))(a0:W.findIn K (.ref C) "__init__"=some (some (.ref f0)))(i0:W.isFn K (.ref f0)=true)(l0:K.lookup f0=some ⟨D,I,.func (W.fnOf "__init__" "Stand.__init__" (dD lE) (cT lE) (aH lE) .none O j J Z F Vb),Y⟩)(c0:W.codeIn K F "Stand.__init__"=true)(k0:W.keepIn K (.ref f0)=true)(pg:W.plainGet K C Str.empty=true)(hd:W.hasDictIn K C=true)(po:W.plainOver K C=true)(sa:W.findIn K (.ref C) "__setattr__"=some (some (.builtin "object.__setattr__")))(mk:W.makesIn K C=true)(kc:W.keepIn K (.ref C)=true)(yD:W.findIn K (.ref C) "board"=some none)(Fv:W.findIn K (.ref C) "racks"=some none)(Fw:W.findIn K (.ref C) "bag"=some none)(Vc:W.findIn K (.ref C) "points"=some none):∃C f0 eV,Ci K mg C f0 eV:=by let F0:=fZ (st:=lE) l0 c0 k0;show⟨C,f0,_,⟨⟨pg,hd,po,sa⟩,yD,Fv,Fw,Vc⟩,dS X G aC,⟨mk,a0,i0,kc⟩,F0,F0.binds (ps:=["self","board","racks","bag","points"]) (λ_ _ _ _ _ _ us hl=>L2.e5 (λ_ _ _ _ _=>rfl) us hl)⟩
structure Fy (K:W.Frag)(mg:Str->Option Value)(C f0 f1 f2 f3 f4 f5 f6 f7:Addr)(eV dY fd2 n6 wu Lg Lh Lj:FuncData):Prop where
 T:af9 K C
 wj:mg "Game"=some (.ref C)
 M:Mk K C f0
 F0:fu K "__init__" "Game.__init__" mL f0 eV
 b0:bT K eV ["self","board","book","worths","bonus","size","racks","bag"] []
 F1:fu K "do" "Game.do" pK f1 dY
 b1:bT K dY ["self","deed"] []
 m1:Meth K C "do" f1
 F2:fu K "board_now" "Game.board_now" je f2 fd2
 b2:bT K fd2 ["self"] []
 m2:Meth K C "board_now" f2
 F3:fu K "racks_now" "Game.racks_now" jf f3 n6
 b3:bT K n6 ["self"] []
 m3:Meth K C "racks_now" f3
 F4:fu K "bag_now" "Game.bag_now" jL f4 wu
 b4:bT K wu ["self"] []
 m4:Meth K C "bag_now" f4
 F5:fu K "points_now" "Game.points_now" iH f5 Lg
 b5:bT K Lg ["self"] []
 m5:Meth K C "points_now" f5
 F6:fu K "turn" "Game.turn" mO f6 Lh
 b6:bT K Lh ["self"] []
 m6:Meth K C "turn" f6
 F7:fu K "is_over" "Game.is_over" jM f7 Lj
 b7:bT K Lj ["self"] []
 m7:Meth K C "is_over" f7
def aga {h:Heap}{C f0 f1 f2 f3 f4 f5 f6 f7:Addr}(X:K.In h)(G:h.Ns mainGlobals mg){U6 U7 od1 an1 od2 an2 od3 an3 od4 an4 od5 an5 od6 an6 od7 an7:Option Addr}{O2 sl1 sl2 J5 sl4 sl5 sl6 sl7:Array (Option Value)}{U8 U9 U_ Va Ft Vb oc1 kV1 O pm1 Py ct1 oc2 J dc2 pm2 Pz ct2 oc3 kV3 dc3 pm3 PB ct3 oc4 kV4 dc4 pm4 F ct4 oc5 Y dc5 pm5 D ct5 oc6 kV6 Z pm6 I ct6 oc7 kV7 dc7 pm7 j ct7:Value}(aC:W.nsIn K mainGlobals "Game"=some (some (.ref C)))(a0:W.findIn K (.ref C) "__init__"=some (some (.ref f0)))(i0:W.isFn K (.ref f0)=true)(l0:K.lookup f0=some ⟨U8,U6,.func (W.fnOf "__init__" "Game.__init__" (dD mL) (cT mL) (aH mL) .none U9 U_ Va U7 Ft Vb),O2⟩)(c0:W.codeIn K Ft "Game.__init__"=true)(k0:W.keepIn K (.ref f0)=true)(a1:W.findIn K (.ref C) "do"=some (some (.ref f1)))(i1:W.isFn K (.ref f1)=true)(l1:K.lookup f1=some ⟨oc1,od1,.func (W.fnOf "do" "Game.do" (dD pK) (cT pK) (aH pK) .none kV1 O pm1 an1 Py ct1),sl1⟩)(c1:W.codeIn K Py "Game.do"=true)(k1:W.keepIn K (.ref f1)=true)(a2:W.findIn K (.ref C) "board_now"=some (some (.ref f2)))(i2:W.isFn K (.ref f2)=true)(l2:K.lookup f2=some ⟨oc2,od2,.func (W.fnOf "board_now" "Game.board_now" (dD je) (cT je) (aH je) .none J dc2 pm2 an2 Pz ct2),sl2⟩)(c2:W.codeIn K Pz "Game.board_now"=true)(k2:W.keepIn K (.ref f2)=true)(a3:W.findIn K (.ref C) "racks_now"=some (some (.ref f3)))(i3:W.isFn K (.ref f3)=true)(l3:K.lookup f3=some ⟨oc3,od3,.func (W.fnOf "racks_now" "Game.racks_now" (dD jf) (cT jf) (aH jf) .none kV3 dc3 pm3 an3 PB ct3),J5⟩)(c3:W.codeIn K PB "Game.racks_now"=true)(k3:W.keepIn K (.ref f3)=true)(a4:W.findIn K (.ref C) "bag_now"=some (some (.ref f4)))(i4:W.isFn K (.ref f4)=true)(l4:K.lookup f4=some ⟨oc4,od4,.func (W.fnOf "bag_now" "Game.bag_now" (dD jL) (cT jL) (aH jL) .none kV4 dc4 pm4 an4 F ct4),sl4⟩)(c4:W.codeIn K F "Game.bag_now"=true)(k4:W.keepIn K (.ref f4)=true)(a5:W.findIn K (.ref C) "points_now"=some (some (.ref f5)))(i5:W.isFn K (.ref f5)=true)(l5:K.lookup f5=some ⟨oc5,od5,.func (W.fnOf "points_now" "Game.points_now" (dD iH) (cT iH) (aH iH) .none Y dc5 pm5 an5 D ct5),sl5⟩)(c5:W.codeIn K D "Game.points_now"=true)(k5:W.keepIn K (.ref f5)=true)(a6:W.findIn K (.ref C) "turn"=some (some (.ref f6)))(i6:W.isFn K (.ref f6)=true)(l6:K.lookup f6=some ⟨oc6,od6,.func (W.fnOf "turn" "Game.turn" (dD mO) (cT mO) (aH mO) .none kV6 Z pm6 an6 I ct6),sl6⟩)(c6:W.codeIn K I "Game.turn"=true)(k6:W.keepIn K (.ref f6)=true)(a7:W.findIn K (.ref C) "is_over"=some (some (.ref f7)))(i7:W.isFn K (.ref f7)=true)(l7:K.lookup f7=some ⟨oc7,od7,.func (W.fnOf "is_over" "Game.is_over" (dD jM) (cT jM) (aH jM) .none kV7 dc7 pm7 an7 j ct7),sl7⟩)(c7:W.codeIn K j "Game.is_over"=true)(k7:W.keepIn K (.ref f7)=true)(pg:W.plainGet K C Str.empty=true)(hd:W.hasDictIn K C=true)(po:W.plainOver K C=true)(sa:W.findIn K (.ref C) "__setattr__"=some (some (.builtin "object.__setattr__")))(mk:W.makesIn K C=true)(kc:W.keepIn K (.ref C)=true)(yD:W.findIn K (.ref C) "book"=some none)(Fv:W.findIn K (.ref C) "worths"=some none)(Fw:W.findIn K (.ref C) "bonus"=some none)(Vc:W.findIn K (.ref C) "size"=some none)(nf4:W.findIn K (.ref C) "stands"=some none)(nf5:W.findIn K (.ref C) "done"=some none):∃C f0 f1 f2 f3 f4 f5 f6 f7 eV dY fd2 n6 wu Lg Lh Lj,Fy K mg C f0 f1 f2 f3 f4 f5 f6 f7 eV dY fd2 n6 wu Lg Lh Lj:=by let F0:=fZ (st:=mL) l0 c0 k0;let F1:=fZ (st:=pK) l1 c1 k1;let F2:=fZ (st:=je) l2 c2 k2;let F3:=fZ (st:=jf) l3 c3 k3;let F4:=fZ (st:=jL) l4 c4 k4;let F5:=fZ (st:=iH) l5 c5 k5;let F6:=fZ (st:=mO) l6 c6 k6;let F7:=fZ (st:=jM) l7 c7 k7;show⟨C,f0,f1,f2,f3,f4,f5,f6,f7,_,_,_,_,_,_,_,_,⟨⟨pg,hd,po,sa⟩,yD,Fv,Fw,Vc,nf4,nf5⟩,dS X G aC,⟨mk,a0,i0,kc⟩,F0,F0.binds (ps:=["self","board","book","worths","bonus","size","racks","bag"]) (λ_ _ _ _ _ _ us hl=>L2.e8 (λ_ _ _ _ _ _ _ _=>rfl) us hl),F1,F1.binds (ps:=["self","deed"]) (λ_ _ _ _ _ _ us hl=>L2.e2 (λ_ _=>rfl) us hl),⟨a1,i1,k1⟩,F2,F2.binds (ps:=["self"]) (λ_ _ _ _ _ _ us hl=>L2.e1 (λ_=>rfl) us hl),⟨a2,i2,k2⟩,F3,F3.binds (ps:=["self"]) (λ_ _ _ _ _ _ us hl=>L2.e1 (λ_=>rfl) us hl),⟨a3,i3,k3⟩,F4,F4.binds (ps:=["self"]) (λ_ _ _ _ _ _ us hl=>L2.e1 (λ_=>rfl) us hl),⟨a4,i4,k4⟩,F5,F5.binds (ps:=["self"]) (λ_ _ _ _ _ _ us hl=>L2.e1 (λ_=>rfl) us hl),⟨a5,i5,k5⟩,F6,F6.binds (ps:=["self"]) (λ_ _ _ _ _ _ us hl=>L2.e1 (λ_=>rfl) us hl),⟨a6,i6,k6⟩,F7,F7.binds (ps:=["self"]) (λ_ _ _ _ _ _ us hl=>L2.e1 (λ_=>rfl) us hl),⟨a7,i7,k7⟩⟩
structure adS (K:W.Frag)(mg:Str->Option Value)(gG dW ig gH jO cV dB CR jB m_ gb iJ:Addr)(pZ vN mF n8:FuncData):Prop where
 aaj:mg "NoLaying"=some (.ref gG)
 akH:mg "Taken"=some (.ref dW)
 ab8:mg "Crooked"=some (.ref ig)
 akJ:mg "Gap"=some (.ref gH)
 agb:mg "Apart"=some (.ref jO)
 ajF:mg "Lacking"=some (.ref cV)
 akG:mg "NoWord"=some (.ref dB)
 mR:mg "RackError"=some (.ref CR)
 I:InitOf K CR
 tW:W.excIn K gG kE "ValueError.__new__"=true
 vO:W.excIn K ig kE "ValueError.__new__"=true
 Bf:W.excIn K jO kE "ValueError.__new__"=true
 Hg:qG K mg "Taken" dW jB ["row","column"]
 Hh:fu K "__init__" "Taken.__init__" lu jB pZ
 M5:bT K pZ ["self","row","column"] []
 Q6:qG K mg "Gap" gH m_ ["row","column"]
 Q7:fu K "__init__" "Gap.__init__" oE m_ vN
 ZL:bT K vN ["self","row","column"] []
 zu:qG K mg "Lacking" cV gb ["tile"]
 zx:fu K "__init__" "Lacking.__init__" jH gb mF
 Fb:bT K mF ["self","tile"] []
 Cj:qG K mg "NoWord" dB iJ ["word"]
 Ck:fu K "__init__" "NoWord.__init__" j7 iJ n8
 Ca:bT K n8 ["self","word"] []
 M:Q0 K CR ⟨gG,dW,ig,gH,jO,cV,dB⟩
def agc {h:Heap}{gG dW ig gH jO cV dB CR jB m_ gb iJ:Addr}(X:K.In h)(G:h.Ns mainGlobals mg){adT O aiC aiD F aal ab9 ab_:Option Addr}{adV aiE aam acd:Array (Option Value)}{adW adX adY Z Ve ad0 aiF aiG aiH aiI D aiJ aan I aap Y Lk J acf acg ach aci PJ acj:Value}(Cm:W.nsIn K mainGlobals "NoLaying"=some (some (.ref gG)))(Hi:W.nsIn K mainGlobals "Taken"=some (some (.ref dW)))(Fz:W.nsIn K mainGlobals "Crooked"=some (some (.ref ig)))(Q8:W.nsIn K mainGlobals "Gap"=some (some (.ref gH)))(Nt:W.nsIn K mainGlobals "Apart"=some (some (.ref jO)))(zy:W.nsIn K mainGlobals "Lacking"=some (some (.ref cV)))(Cp:W.nsIn K mainGlobals "NoWord"=some (some (.ref dB)))(aR:W.nsIn K mainGlobals "RackError"=some (some (.ref CR)))(tW:W.excIn K gG kE "ValueError.__new__"=true)(vO:W.excIn K ig kE "ValueError.__new__"=true)(Bf:W.excIn K jO kE "ValueError.__new__"=true)(Nu:W.exmOne K (.ref dW) (.ref CR)=some true)(FJ:W.exmOne K (.ref ig) (.ref CR)=some true)(aas:W.exmOne K (.ref gH) (.ref CR)=some true)(Nv:W.exmOne K (.ref jO) (.ref CR)=some true)(FN:W.exmOne K (.ref cV) (.ref CR)=some true)(Jj:W.exmOne K (.ref dB) (.ref CR)=some true)(Vf:W.findIn K (.ref dW) "__init__"=some (some (.ref jB)))(Jk:W.isFn K (.ref jB)=true)(Jl:K.lookup jB=some ⟨adW,adT,.func (W.fnOf "__init__" "Taken.__init__" (dD lu) (cT lu) (aH lu) .none adX adY Z O Ve ad0),adV⟩)(Jm:W.codeIn K Ve "Taken.__init__"=true)(Jo:W.keepIn K (.ref jB)=true)(FP:yN K dW jB=true)(Jp:W.keepIn K (.ref dW)=true)(Jq:((W.clsIn K dW).any λcd=>cd.hasDict&&um cd.mro)=true)(Jr:W.findIn K (.ref dW) "__setattr__"=some (some (.builtin "object.__setattr__")))(Js:W.hasDictIn K dW=true)(zN:W.findIn K (.ref dW) "row"=some none)(uI:W.findIn K (.ref dW) "column"=some none)(acn:W.findIn K (.ref gH) "__init__"=some (some (.ref m_)))(Vg:W.isFn K (.ref m_)=true)(Vh:K.lookup m_=some ⟨aiF,aiC,.func (W.fnOf "__init__" "Gap.__init__" (dD oE) (cT oE) (aH oE) .none aiG aiH aiI aiD D aiJ),aiE⟩)(Vi:W.codeIn K D "Gap.__init__"=true)(Vj:W.keepIn K (.ref m_)=true)(Nx:yN K gH m_=true)(Vk:W.keepIn K (.ref gH)=true)(Vl:((W.clsIn K gH).any λcd=>cd.hasDict&&um cd.mro)=true)(Vm:W.findIn K (.ref gH) "__setattr__"=some (some (.builtin "object.__setattr__")))(Vn:W.hasDictIn K gH=true)(FQ:W.findIn K (.ref gH) "row"=some none)(yE:W.findIn K (.ref gH) "column"=some none)(Lp:W.findIn K (.ref cV) "__init__"=some (some (.ref gb)))(Cq:W.isFn K (.ref gb)=true)(Cr:K.lookup gb=some ⟨aan,F,.func (W.fnOf "__init__" "Lacking.__init__" (dD jH) (cT jH) (aH jH) .none I aap Y aal Lk J),aam⟩)(Cu:W.codeIn K Lk "Lacking.__init__"=true)(Cv:W.keepIn K (.ref gb)=true)(zO:yN K cV gb=true)(Cw:W.keepIn K (.ref cV)=true)(Cy:((W.clsIn K cV).any λcd=>cd.hasDict&&um cd.mro)=true)(Cz:W.findIn K (.ref cV) "__setattr__"=some (some (.builtin "object.__setattr__")))(CJ:W.hasDictIn K cV=true)(uJ:W.findIn K (.ref cV) "tile"=some none)(PK:W.findIn K (.ref dB) "__init__"=some (some (.ref iJ)))(FT:W.isFn K (.ref iJ)=true)(FW:K.lookup iJ=some ⟨acf,ab9,.func (W.fnOf "__init__" "NoWord.__init__" (dD j7) (cT j7) (aH j7) .none acg ach aci ab_ PJ acj),acd⟩)(FZ:W.codeIn K PJ "NoWord.__init__"=true)(Ga:W.keepIn K (.ref iJ)=true)(CK:yN K dB iJ=true)(Gb:W.keepIn K (.ref dB)=true)(Gd:((W.clsIn K dB).any λcd=>cd.hasDict&&um cd.mro)=true)(Ge:W.findIn K (.ref dB) "__setattr__"=some (some (.builtin "object.__setattr__")))(Gf:W.hasDictIn K dB=true)(vU:W.findIn K (.ref dB) "word"=some none)(hn:W.specialIn K (.builtin "object.__class__") "__get__"=some (some (.builtin "getset_descriptor.__get__")))(ht:W.takesIn K (.builtin "object.__class__")=some true)(Jt:(W.clsIn K dW).isSome=true)(Ju:W.findIn K (.ref dW) "__getattribute__"=some (some (.builtin "BaseException.__getattribute__")))(Jv:W.findIn K (.ref dW) "__getattr__"=some none)(Jw:W.findIn K (.ref dW) "__class__"=some (some (.builtin "object.__class__")))(CN:W.mroIn K dW (.type "object")=some true)(Jx:W.mroIn K dW (.type "BaseException")=some true)(Vo:(W.clsIn K gH).isSome=true)(Vp:W.findIn K (.ref gH) "__getattribute__"=some (some (.builtin "BaseException.__getattribute__")))(Vq:W.findIn K (.ref gH) "__getattr__"=some none)(Vr:W.findIn K (.ref gH) "__class__"=some (some (.builtin "object.__class__")))(Lq:W.mroIn K gH (.type "object")=some true)(Vs:W.mroIn K gH (.type "BaseException")=some true)(CP:(W.clsIn K cV).isSome=true)(CQ:W.findIn K (.ref cV) "__getattribute__"=some (some (.builtin "BaseException.__getattribute__")))(CV:W.findIn K (.ref cV) "__getattr__"=some none)(CZ:W.findIn K (.ref cV) "__class__"=some (some (.builtin "object.__class__")))(wY:W.mroIn K cV (.type "object")=some true)(C_:W.mroIn K cV (.type "BaseException")=some true)(Gg:(W.clsIn K dB).isSome=true)(Gh:W.findIn K (.ref dB) "__getattribute__"=some (some (.builtin "BaseException.__getattribute__")))(Gi:W.findIn K (.ref dB) "__getattr__"=some none)(Gj:W.findIn K (.ref dB) "__class__"=some (some (.builtin "object.__class__")))(zA:W.mroIn K dB (.type "object")=some true)(Gk:W.mroIn K dB (.type "BaseException")=some true)(g2:W.specialIn K (.ref CR) "__getattribute__"=some (some (.builtin "type.__getattribute__")))(rd:W.readsIn K CR (.type "type")=true)(fc:W.findCls K (.ref CR) (.type "type") "__init__"=some (.val (.builtin "ValueError.__init__")))
  : ∃gG dW ig gH jO cV dB CR jB m_ gb iJ pZ vN mF n8,adS K mg gG dW ig gH jO cV dB CR jB m_ gb iJ pZ vN mF n8:=by
 let Hh:=fZ (st:=lu) Jl Jm Jo;let Q7:=fZ (st:=oE) Vh Vi Vj;let zx:=fZ (st:=jH) Cr Cu Cv;let Ck:=fZ (st:=j7) FW FZ Ga;let Hg:qG K mg "Taken" dW jB ["row","column"]:=⟨dS X G Hi,⟨FP,Jk,Jp⟩,⟨Jq,CN,Jr⟩,⟨Jt,Ju,Jv,Jw,hn,ht,CN,Jx⟩,Js,λg j=>by
  rcases b9.mp j with z|z;.rw[z];show zN
  .rw[a_.mp z];show uI⟩
 let Q6:qG K mg "Gap" gH m_ ["row","column"]:=⟨dS X G Q8,⟨Nx,Vg,Vk⟩,⟨Vl,Lq,Vm⟩,⟨Vo,Vp,Vq,Vr,hn,ht,Lq,Vs⟩,Vn,λg j=>by
  rcases b9.mp j with z|z;.rw[z];show FQ
  .rw[a_.mp z];show yE⟩
 let zu:qG K mg "Lacking" cV gb ["tile"]:=⟨dS X G zy,⟨zO,Cq,Cw⟩,⟨Cy,wY,Cz⟩,⟨CP,CQ,CV,CZ,hn,ht,wY,C_⟩,CJ,λg j=>by rw[a_.mp j];show uJ⟩
 let Cj:qG K mg "NoWord" dB iJ ["word"]:=⟨dS X G Cp,⟨CK,FT,Gb⟩,⟨Gd,zA,Ge⟩,⟨Gg,Gh,Gi,Gj,hn,ht,zA,Gk⟩,Gf,λg j=>by rw[a_.mp j];show vU⟩
 show⟨gG,dW,ig,gH,jO,cV,dB,CR,jB,m_,gb,iJ,_,_,_,_,⟨dS X G Cm,dS X G Hi,dS X G Fz,dS X G Q8,dS X G Nt,dS X G zy,dS X G Cp,dS X G aR,⟨g2,rd,fc⟩,tW,vO,Bf,Hg,Hh,Hh.binds (ps:=["self","row","column"]) (λ_ _ _ _ _ _ us hl=>L2.e3 (λ_ _ _=>rfl) us hl),Q6,Q7,Q7.binds (ps:=["self","row","column"]) (λ_ _ _ _ _ _ us hl=>L2.e3 (λ_ _ _=>rfl) us hl),zu,zx,zx.binds (ps:=["self","tile"]) (λ_ _ _ _ _ _ us hl=>L2.e2 (λ_ _=>rfl) us hl),Cj,Ck,Ck.binds (ps:=["self","word"]) (λ_ _ _ _ _ _ us hl=>L2.e2 (λ_ _=>rfl) us hl),⟨Nu,FJ,aas,Nv,FN,Jj⟩⟩⟩
def agd (D:mg "len"=none)(dN:mg "range"=none)(O:mg "tuple"=none)(pO:mg "list"=none)(Fo:mg "dict"=none)(gk:mg "sorted"=none)(Z:mg "isinstance"=none)(vK:mg "bool"=none)(o9:mg "int"=none)(wW:mg "str"=none)(Y:mg "all"=none)(zm:mg "any"=none)(KJ:mg "zip"=none)(tV:mg "min"=none)(zp:mg "max"=none)(K7:mg "sum"=none)(qO:mg "enumerate"=none)(gF:∃t,mg "FREE"=some (.str (S [46]) t))(Am:∃t,mg "MARKS"=some (.str (S MK) t))(Ak:∃t,mg "MOST"=some (.int 9 t))(pU:∃t,mg "MOST_TILES"=some (.int 7 t))(wZ:aO K mg "is_whole" sU ["thing"])(Gn:aO K mg "is_sign" yP ["thing"])(zP:aO K mg "letter_of" uQ ["sign"])(Gp:aO K mg "tile_of" yQ ["sign"])(Gq:aO K mg "left_of" yR ["rack","signs"])(Dc:aO K mg "is_block" wM ["thing"])(Dd:aO K mg "are_rows" wN ["thing"])(zQ:aO K mg "are_marks" uT ["thing"])(tX:aO K mg "is_cell_of" pJ ["rows","row","column"])(vV:aO K mg "is_begin_of" qX ["rows","thing"])(Df:aO K mg "is_board" wO ["rows","marks","begin"])(vW:aO K mg "column_text" qY ["rows","column"])(zR:aO K mg "is_triple" uU ["board","thing"])(zT:aO K mg "is_laying" uV ["board","thing"])(Dg:aO K mg "cells_of" wQ ["laying"])(vm:aO K mg "is_across" qL ["laying"])(Gr:aO K mg "is_down" yS ["laying"])(qe:aO K mg "is_next_to_taken" mq ["board","row","column"])(Jy:aO K mg "formed" BR ["board","laying"])(yF:aO K mg "check_free" sV ["board","laying"])(rG:aO K mg "check_straight" oG ["laying"])(yG:aO K mg "check_gaps" sW ["board","laying"])(uK:aO K mg "check_joined" qu ["board","laying"])(vX:aO K mg "check_words" rm ["board","book","laying"])(uL:aO K mg "check_laying" qw ["board","book","rack","laying"])(Dh:aO K mg "worth_of" wR ["worths","sign"])(Gs:aO K mg "cell_in" yU ["word","place"])(vY:aO K mg "word_points" rB ["board","worths","laying","word"])(Di:aO K mg "bonus_of" wU ["bonus","laying"])(zU:aO K mg "points_of" uW ["board","worths","bonus","laying"])(vZ:aO K mg "left_behind" rC ["rack","laying"])(zV:aO K mg "are_tiles" uZ ["thing"])(Gu:aO K mg "is_deed" yV ["thing"])(Dj:aO K mg "in_order" wV ["tiles"])(zW:aO K mg "exchanged" u9 ["things","place","thing"])(tY:aO K mg "behind_laying" o7 ["stand","turn","size","laying","points"])(wg:aO K mg "behind_swap" rD ["stand","turn","tiles"])(Gv:aO K mg "is_word" yW ["text"])(yH:aO K mg "check_word" sY ["text"])(Gw:aO K mg "_law_cell_at" yX ["_law_script","_law_k"])(Jz:aO K mg "_law_stream" BW ["_law_cell","_law_many"])(Gx:aO K mg "_law_letters" yZ ["_law_cell"])(Ny:aO K mg "_law_words" G5 ["_law_cell","_law_letters_here"])(Vt:aO K mg "_law_rows" Kq ["_law_cell","_law_letters_here"])(Nz:aO K mg "_law_tiles" G6 ["_law_cell","_law_letters_here","_law_many","_law_blanks"])(NK:aO K mg "_law_parts" G7 ["_law_script"])(NP:aO K mg "_law_begun" G8 ["_law_parts_here"])(zX:aO K mg "_law_candidate" u_ ["_law_rows_here","_law_word","_law_place","_law_rack"])(Vu:aO K mg "_law_lets" Kr ["_law_board","_law_book","_law_rack","_law_laying_here"])(JB:aO K mg "_law_laying" BX ["_law_board","_law_book","_law_words_here","_law_rack","_law_cell"])(Vv:aO K mg "_law_deed" Ks ["_law_now","_law_book","_law_words_here","_law_cell"])(zY:aO K mg "_law_all_tiles" vf ["_law_game","_law_first"])(Vw:aO K mg "_law_lain" Ku ["_law_ahead","_law_behind"]){rY agf agg agh agi agj:Addr}{ad1 ad2 ad3 ad4 ad5:FuncData}(j:Cg K mg rY agf agg agh agi agj ad1 ad2 ad3 ad4 ad5){Gy aiK aiL aiM aiN:Addr}{agk agl agm agn:FuncData}(I:Fx K mg Gy aiK aiL aiM aiN agk agl agm agn){ago agp:Addr}{ad6:FuncData}(J:Ci K mg ago agp ad6){aiO aiP aiQ aiR aiS aiT aiU aiV aiW:Addr}{agq agr ags agt agu agv agw agx:FuncData}(G:Fy K mg aiO aiP aiQ aiR aiS aiT aiU aiV aiW agq agr ags agt agu agv agw agx){gl gw:Addr}{tb:Tok}(kl:mg "LETTER_MARKS"=some (.ref gl)/\∀P:Program,KDict P w K gl X7)(kw:mg "WORD_MARKS"=some (.ref gw)/\∀P:Program,KDict P w K gw X8)(zb:tb≠0/\mg "BLANK"=some (.str (S [63]) tb)){gG dW ig gH jO cV dB CR jB m_ gb iJ:Addr}{pZ vN mF n8:FuncData}(R:adS K mg gG dW ig gH jO cV dB CR jB m_ gb iJ pZ vN mF n8){f:Addr}{fd:FuncData}(F:fu K "law" "law" QK f fd):cB P w K mg base dH 20 f fd ["_law_script"] (Qz K):=by let p1:=Zw (P:=P) (w:=w) (base:=base) Gn D wW Z;let p2:=V6 (P:=P) (w:=w) (base:=base) wZ o9 vK Z;let p3:=V7 (P:=P) (w:=w) (base:=base) Dc D O wW Y Z Ak;let p4:=V8 Dd Y gF p3 p1;let p5:=Sv zQ Y Am p3;let p6:=Qc tX D p2;let p7:=Mv vV D O Z p6;let p8:=V9 Df D p4 p5 p7;let p9:=Mx (P:=P) (w:=w) (base:=base) vW;let g0:=Qe j.F0 j.T p8;let g1:=aju j.F1 j.T gF p6;let g2:=ZF (P:=P) (w:=w) (base:=base) j.F2 j.T Y gF;let g3:=ah3 j.F3 j.T D gF p9;let g4:=afB j.F4 j.T pO O j.wj j.M g0 j.b0;let w1:=ZM (P:=P) (w:=w) (base:=base) Gv D Y;let w2:=Qk yH w1;let k0:=afJ I.F0 I.T w2;let k1:=ah8 (P:=P) (w:=w) (mg:=mg) (base:=base) I.F1 I.T;let k2:=adv (P:=P) (w:=w) (base:=base) I.F2 I.T gk O;let k3:=afT I.F3 I.T I.wj I.M k0 I.b0 I.m2 k2 I.b2;let x4:=Sy (P:=P) (w:=w) (base:=base) vm Y;let x5:=abx Jy D O j.T j.m4 g4 j.b4 j.m3 g3 j.b3 x4;let y1:=SN (P:=P) (w:=w) (base:=base) wZ o9 vK Z;let y2:=MP tX D y1;let y3:=SQ zR D O Z j.T y2 p1;let y4:=Wd (P:=P) (w:=w) (base:=base) Dg;let y5:=S5 zT D O Z Y KJ pU y3 y4;let e1:=afD (P:=P) (w:=w) (base:=base) R.Hh R.mR R.I R.Hg;let e2:=ah5 (P:=P) (w:=w) (base:=base) R.Q7 R.mR R.I R.Q6;let e3:=ZQ (P:=P) (w:=w) (base:=base) R.zx R.mR R.I R.zu;let e4:=abH (P:=P) (w:=w) (base:=base) R.Ck R.mR R.I R.Cj;let z1:=Qg (P:=P) (w:=w) (base:=base) vm Y;let z2:=ZJ (P:=P) (w:=w) (base:=base) Gr Y;let z3:=Qh qe zm gF j.T j.m1 g1 j.b1;let z4:=S7 (P:=P) (w:=w) (base:=base) zP;let z5:=ZP (P:=P) (w:=w) (base:=base) Gp;let q1:=Qi yF gF j.T j.m1 g1 j.b1 R.Hg e1 R.M5;let q2:=Hs rG R.ab8 R.vO z1 z2;let q3:=Qj yG dN gF j.T j.m1 g1 j.b1 j.m4 g4 j.b4 R.Q6 e2 R.ZL;let q4:=KY uK zm j.T j.m2 g2 j.b2 R.agb R.Bf y4 z3;let q5:=ZR Gq pO gk R.zu e3 R.Fb z5;let q6:=M8 vX I.T I.m1 k1 I.b1 R.Cj e4 R.Ca x5 z4;let q7:=K4 (c:=⟨gG,dW,ig,gH,jO,cV,dB⟩) uL R.aaj R.tW y5 q1 q2 q3 q4 q5 q6;let t1:=Z2 (P:=P) (w:=w) (base:=base) Gs;let t2:=Wk (P:=P) (w:=w) (base:=base) Dh;let t3:=abK vY qO j.T kl.1 kw.1 (kl.2 P) (kw.2 P) y4 t1 t2;let t4:=Wm (P:=P) (w:=w) (base:=base) Di D;let t5:=TX zU K7 x5 t3 t4;let u1:=Wn (P:=P) (w:=w) (base:=base) Dj gk;let u2:=T7 (P:=P) (w:=w) (base:=base) zW;let u3:=Ng vZ q5;let u4:=T_ (P:=P) (w:=w) (base:=base) zV Z wW Y ⟨tb,zb.2⟩;let u5:=Z8 Gu Z O D u4;let s0:=Qn (P:=P) (w:=w) (mg:=mg) (base:=base) J.F0 J.T;let u6:=Jg tY zp D j.T J.T J.wj J.M s0 J.b0 j.m4 g4 j.b4 u3 u1 u2;let u7:=Ni (C:=rY) wg D ⟨tb,zb⟩ J.T J.wj J.M s0 J.b0 q5 u1 u2;let a3:=Ue (P:=P) (w:=w) (mg:=mg) (base:=base) (C:=rY) (CB:=Gy) G.F2 G.T J.T;let a4:=Ug (P:=P) (w:=w) (mg:=mg) (base:=base) (C:=rY) (CB:=Gy) G.F3 G.T J.T;let a5:=Z_ (P:=P) (w:=w) (mg:=mg) (base:=base) (C:=rY) (CB:=Gy) G.F4 G.T J.T;let a6:=Qp (P:=P) (w:=w) (mg:=mg) (base:=base) (C:=rY) (CB:=Gy) G.F5 G.T J.T;let a7:=afP G.F6 G.T D G.m3 a4 G.b3;let a8:=aac G.F7 G.T D G.m3 a4 G.b3 G.m4 a5 G.b4;let a1:=ajA G.F1 G.T J.T G.m7 a8 G.b7 G.m6 a7 G.b6 u5 q7 t5 u6 u7;let a0:=Us (C:=rY) G.F0 G.T I.T Fo O D I.m3 k3 I.b3 J.wj J.M s0 J.b0 u1;let l3:=afU Vu R.mR R.M q7;let l4:=abT (P:=P) (w:=w) (base:=base) Jz dN;let l5:=aad (P:=P) (w:=w) (base:=base) Gx dN;let l6:=Nm Ny dN D l4;let l7:=adB Nz D l4;let l8:=afW Vt dN D O l4;let c1:=Zy (P:=P) (w:=w) (base:=base) Gw D;let l9:=adF NK dN D O tV j.wj j.M g0 j.b0 c1 l5 l6 l8 l7;let la:=adG (P:=P) (w:=w) (base:=base) (C:=rY) NP O gk D;let lb:=UG (P:=P) (w:=w) (base:=base) zX D pO O o9;let lc:=abZ JB D tV j.T j.m2 g2 j.b2 l4 lb l3;let ld:=afZ Vv D tV l4 lc;let lk:=UL zY D dN o9 gk j.T G.T G.m2 a3 G.b2 G.m3 a4 G.b3 G.m4 a5 G.b4;let lm:=af3 (P:=P) (w:=w) (base:=base) Vw D dN;show ais F D gk O zp j.T G.T I.wj I.M k0 I.b0 G.wj G.M a0 G.b0 G.m1 a1 G.b1 G.m2 a3 G.b2 G.m3 a4 G.b3 G.m4 a5 G.b4 G.m5 a6 G.b5 G.m6 a7 G.b6 G.m7 a8 G.b7 l9 la ld lk lm
end
end My
namespace PySem.W.Fast
abbrev U:=True
def tw16181479756690600916:=U
def tw18416550632739390018:=U
def tw8512413385011503683:=U
def tw16062689589464188494:=U
def tw11497045559755562663:=U
def tw4234310885446013783:=U
def tw8009050882879457672:=U
def tw16721517658289007335:=U
def tw2592979690527599916:=U
def tw11302679531757110004:=U
def tw17748052432639970316:=U
def tw10795250123780488043:=U
def tw15962610599962954743:=U
def tw12548429663266090185:=U
def tw570282167184193196:=U
def tw45018261720645823:=U
def tw13738093827302525733:=U
def tw16909957301391189944:=U
def tw15033473899683430499:=U
def tw5325143763336815043:=U
def tw8993277371477633981:=U
def tw10191279665848870048:=U
def tw7902095698132908252:=U
def tw15088870270159249333:=U
def tw14782079089012308594:=U
def tw14953356415944859119:=U
def tw8222034920043986259:=U
def tw2387293624672642870:=U
def tw12913232565616952120:=U
def tw5806626280773072308:=U
def tw5020914920559665531:=U
def tw6370751591799681886:=U
def tw6306008461845928348:=U
def tw735791744804257946:=U
def tw12673462278278913481:=U
def tw3407109161654755409:=U
def tw11602938037189748035:=U
def tw9917581771667017794:=U
def tw8339328483108755607:=U
def tw10416346618031852:=U
def tw4569873172871893719:=U
def tw15958851514273111535:=U
def tw12971090363187658131:=U
def tw14482654993061423583:=U
def tw7264887177438245922:=U
def tw3828052551840600002:=U
def tw15879889228842107504:=U
def tw17148561392860752430:=U
def tw2029849088741990519:=U
def tw15504830011787208576:=U
def tw5993706142413758031:=U
def tw11953744670165732359:=U
def tw14149113330588916749:=U
def tw7412747614045497945:=U
def tw6084621214610708337:=U
def tw14744582096835270593:=U
def tw17870091467159387607:=U
def tw3088460453779222729:=U
def tw12873617932993115331:=U
def tw6672317724592920513:=U
def tw4034525122998251784:=U
def tw1132228137937421747:=U
def tw6211695697520953817:=U
def tw18030916492269858977:=U
def tw16690905985105711430:=U
def tw13784725095464018439:=U
def tw11925109880804782704:=U
def tw9277563210539219093:=U
def tw6454315729580997255:=U
def tw11514093181908250036:=U
def tw11909753437867327324:=U
def tw497362008075600899:=U
def tw14715902349102032165:=U
def tw13991073317445844182:=U
def tw15717263937358444771:=U
def tw11745559914511026231:=U
def tw6645034546629007228:=U
def tw16354096565522606407:=U
def tw580139502301395563:=U
def tw16333230188244331562:=U
def tw16846044881407513621:=U
def tw7411584353807149023:=U
def tw1547999853174098305:=U
def tw12157248486544589804:=U
def tw1021515880864782560:=U
def tw4358440888384991998:=U
def tw11724544323056378622:=U
def tw3897689778297140854:=U
def tw8623189581460188648:=U
def tw17290652337311526856:=U
def tw17873438753161820138:=U
def tw274233123090166220:=U
def tw6357547234258585188:=U
def tw596364377390187683:=U
def tw288358536319642133:=U
def tw11851452525377076837:=U
def tw9261177449907451971:=U
def tw9959555075276495952:=U
def tw11433042098695218611:=U
def tw16238109670883667753:=U
def tw794846805534406346:=U
def tw17986469909543745266:=U
def tw14971341623578264404:=U
def tw5575014633515124400:=U
def tw2860400344280996502:=U
def tw4625513385669462:=U
def tw7638095914801355768:=U
def tw17079042162997085393:=U
def tw1435684304193064496:=U
def tw10584728164242403465:=U
def tw4618249620934191723:=U
def tw5657246041332675938:=U
def tw6414200735112496493:=U
def tw1601141492386680579:=U
def tw15271465990095879802:=U
def tw2856796262692901546:=U
def tw2739219919573678806:=U
def tw2257206999034402717:=U
def tw5610216546582754048:=U
def tw1269576434845367949:=U
def tw13903649124899970944:=U
def tw11176453175035338470:=U
def tw15240473762138634621:=U
def tw15075014572955580369:=U
def tw3025536342672651889:=U
def tw12547019748464567457:=U
def tw622026452850697678:=U
def tw7242897157168033417:=U
def tw3258730667471829121:=U
def tw3518170571167985667:=U
def tw3468139387181294118:=U
def tw13059596398037061009:=U
def tw174294173445614771:=U
def tw183341302789355646:=U
def tw14157799031285354195:=U
def tw15789445298927450295:=U
def tw18438160519513473842:=U
def tw12611098275683512738:=U
def tw12203081226320306922:=U
def tw2584323362232046086:=U
def tw12594103722648485801:=U
def tw11254118463628005665:=U
def tw5380849668964631135:=U
def tw8572209193502110038:=U
def tw16239165030203707989:=U
def tw18343280952128675465:=U
def tw4816086998864931986:=U
def tw8617005124074527039:=U
def tw6577924560654583785:=U
def tw16439158884218194263:=U
def tw11524268158224978352:=U
def tw10637451237694129621:=U
def tw3320312406001316174:=U
def tw16664488175326865993:=U
def tw8486461940622699735:=U
def tw15740083484447374995:=U
def tw7839075977899436428:=U
def tw5153991916315906737:=U
def tw9620170437991760472:=U
def tw709288284870397470:=U
def tw16708008748838644811:=U
def tw12684998107403559420:=U
def tw12975600307706705350:=U
def tw7661290797886597339:=U
def tw12035486775253952743:=U
def tw17646267732016533392:=U
def tw6448588990865109552:=U
def tw13046153055214252708:=U
def tw16186332848446967105:=U
def tw15932854089591804116:=U
def tw17882185162346337093:=U
def tw12793846939539491952:=U
def tw3504304331548753654:=U
def tw12125245844298105357:=U
def tw12855291058893839467:=U
def tw10105269445067627477:=U
def tw1599010584787220437:=U
def tw27828377553639751:=U
def tw17188160801041392556:=U
def tw12442130523072332464:=U
def tw10536364333389874437:=U
def tw12722140636984935003:=U
def tw16425240879853293946:=U
def tw3828492523692272535:=U
def tw5722666564107447027:=U
def tw13351216179070825600:=U
def tw4232517219779139687:=U
def tw11145799684374264521:=U
def tw12457474998963634789:=U
def tw2461779853929731113:=U
def tw10655361394834626651:=U
def tw12316218265956708945:=U
def tw8314604136857245153:=U
def tw6358686429774094858:=U
def tw17413618238519741678:=U
def tw12358453182858619803:=U
def tw9172722721019752167:=U
def tw7631205049565876068:=U
def tw1945261143523011046:=U
def tw2182939251806920398:=U
def tw13570804814401726709:=U
def tw8081171175053844320:=U
def tw17915612507429658362:=U
def tw5741164296423466708:=U
def tw18381909122148859004:=U
def tw18024768775133604154:=U
def tw5100617644286878154:=U
def tw10314024812521633856:=U
def tw15531792206583631058:=U
def tw2604915669435581049:=U
def tw1633981835883646782:=U
def tw312659853370769864:=U
def tw3581037303685681753:=U
def tw8252644160838901183:=U
def tw9926742653962269873:=U
def tw7278734278951101282:=U
def tw11618200618586256636:=U
def tw5062115987140644721:=U
def tw12685444580851085304:=U
def tw3055873438441344774:=U
def tw17871920163933930598:=U
def tw5811236544850114884:=U
def tw7696653305190356299:=U
def tw12554398946364004971:=U
def tw9810798539987536474:=U
def tw4000340503919015807:=U
def tw2177833646346378061:=U
def tw17878719141714700717:=U
def tw18181034579310184045:=U
def tw7463589324545489611:=U
def tw14823267841318519897:=U
def tw3819727722339973294:=U
def tw17266454097520983571:=U
def tw6044775909221699925:=U
def tw6225357805125339861:=U
def tw10521290543323320128:=U
def tw13168674003013640061:=U
def tw14973600176366791951:=U
def tw13669532366501166419:=U
def tw5354021282853252227:=U
def tw10761541498057797540:=U
def tw11986968586143148178:=U
def tw15261719840863431467:=U
def tw6028597942084327824:=U
def tw7277822922932262606:=U
def tw936089117020265762:=U
def tw6555280939986312610:=U
def tw11898802012629763388:=U
def tw535852776322782506:=U
def tw6125001230946760208:=U
def tw3937524201367978631:=U
def tw6238163755363853690:=U
def tw16278579578497355585:=U
def tw9755787052692298663:=U
def tw13585507999069729755:=U
def tw17845474577656104567:=U
def tw9090493839084622802:=U
def tw759801057128287641:=U
def tw7061211014185648512:=U
def tw17817322857889797782:=U
def tw2171930821714365247:=U
def tw11091886785921416442:=U
def tw9743440160589045835:=U
def tw9248130439809745192:=U
def tw12416885514302108254:=U
def tw479290129551368927:=U
def tw16283894438025267097:=U
def tw4990042345293724107:=U
def tw13725213630491548710:=U
def tw3849836991381150468:=U
def tw3242459918921906558:=U
def tw13615572466973570924:=U
def tw8042599980950230402:=U
def tw17166919093822119034:=U
def tw17885259669869836193:=U
def tw8845266104571500921:=U
def tw14506065468932790703:=U
def tw16157102845077022095:=U
def tw18048240477745214636:=U
def tw7748257417688248030:=U
def tw1741151022987834209:=U
def tw4314019004280324046:=U
def tw17926759605584918657:=U
def tw14922214622519675706:=U
def tw15371247332012174802:=U
def tw4817359829481951073:=U
def tw16540992566232992079:=U
def tw2740907229611455530:=U
def tw11124226613213782750:=U
def tw16126746897936990231:=U
def tw4977239302498507602:=U
def tw7501856588095454476:=U
def tw7502369847619998896:=U
def tw9030586810701883758:=U
def tw16860442952153579972:=U
def tw3889699005669245614:=U
def tw9335736460377559868:=U
def tw1157928193893135798:=U
def tw7099116204965184569:=U
def tw14670067539619728654:=U
def tw1329155645121056305:=U
def tw17256983475172435639:=U
def tw1317550486329777862:=U
def tw6860820103595778691:=U
def tw1693815123432259493:=U
def tw17881531433938968514:=U
def tw17883925582850139810:=U
def tw7429093603965355356:=U
def tw15038641302226284896:=U
def tw10371653191672386368:=U
def tw6560427637721409695:=U
def tw16748966678778693924:=U
def tw16894284245345505462:=U
def tw13694274373508988106:=U
def tw11178771452402650995:=U
def tw14639348101068498748:=U
def tw1209777745806837764:=U
def tw3450462986044466656:=U
def tw5973856996861447093:=U
def tw13390266822152078864:=U
def tw10407376838394052893:=U
def tw13647453301177422270:=U
def tw5922627339237167016:=U
def tw14711002958481912464:=U
def tw15574100223377315508:=U
def tw4596144269683924657:=U
def tw11913718126571592186:=U
def tw16850896527362678126:=U
def tw1116841117814108506:=U
def tw13610462217731059796:=U
def tw18039711206476392429:=U
def tw796284900281423201:=U
def tw15512813424136214231:=U
def tw5689293126068268101:=U
def tw13600475548534275668:=U
def tw5969288099560533231:=U
def tw697930503562562673:=U
def tw17420262842645294081:=U
def tw16677460568459954941:=U
def tw2947072249423784914:=U
def tw11136383636804967909:=U
def tw17937949461097983878:=U
def tw18046984190499690355:=U
def tw8357541584461332653:=U
def tw4163654431297949496:=U
def tw12157176897084773288:=U
def tw13372786918648239181:=U
def tw16763999102868605776:=U
def tw12830690198918215626:=U
def tw7942203227104804133:=U
def tw4289177236642691164:=U
def tw14267403854937640535:=U
def tw9514146252258351673:=U
def tw8714667630766575196:=U
def tw10666121881223019010:=U
def tw2978250322028944776:=U
def tw10955865752509358962:=U
def tw15244683711383201382:=U
def tw15187758351914025750:=U
def tw17571088897347245145:=U
def tw9510769663459900523:=U
def tw5303883170637811175:=U
def tw10050107098553141224:=U
def tw10548644635125189239:=U
def tw928314049168919252:=U
def tw14114387818672482459:=U
def tw15206442359248561183:=U
def tw6275535120395677558:=U
def tw6070829668521797934:=U
def tw4931443941211291014:=U
def tw9310627679755520973:=U
def tw17486908423860230105:=U
def tw1356487819641000536:=U
def tw41023233432100985:=U
def tw14760413718154528264:=U
def tw16542084116167308596:=U
def tw17666346648949609929:=U
def tw15348355181352647966:=U
def tw5199432762354388194:=U
def tw9407473756469692217:=U
def tw4248234639640566176:=U
def tw2281830620035001030:=U
def tw1349128133998069285:=U
def tw8077043466968908358:=U
def tw17847764116641407731:=U
def tw2407343689857707055:=U
def tw1414707455887646416:=U
def tw10281255830739108828:=U
def tw12676005633284016198:=U
def tw8580558922569341001:=U
def tw6853916748991833393:=U
def tw5092863635879153216:=U
def tw4878037103214288273:=U
def tw12816068640373928436:=U
def tw5111747262967065027:=U
def tw16799893484438263179:=U
def tw9474374206412104188:=U
def tw9447340444345932666:=U
def tw37294151837833470:=U
def tw13598131249273659535:=U
def tw6581186985391241392:=U
def tw7452754072160270031:=U
def tw14334539495353907728:=U
def tw11180783343787248268:=U
def tw702660758392148770:=U
def tw13045645206611878827:=U
def tw15249988298950106312:=U
def tw4221636695284200853:=U
def tw6087901399368742536:=U
def tw12344914858239426611:=U
def tw7486236019523893653:=U
def tw11543821353149113765:=U
def tw15008827992402607573:=U
def tw13767446678545075441:=U
def tw7854775935602190709:=U
def tw11299540086749867659:=U
def tw17534140216293305775:=U
def tw7290725522664954101:=U
def tw9225749886166389858:=U
def tw9189596653578128058:=U
def tw1471476444121032442:=U
def tw9379378213889380696:=U
def tw5401133535693387134:=U
def tw12648095434478291079:=U
def tw6769995635288146700:=U
def tw2359215324072412987:=U
def tw13697013837813421115:=U
def tw2785140091341471947:=U
def tw1870113622097223732:=U
def tw8412057788737096253:=U
def tw5182086848028421933:=U
def tw8410695064323869538:=U
def tw8241606620134726021:=U
def tw6184889857125509082:=U
def tw6178457466986811380:=U
def tw5855522810316930027:=U
def tw13866853302172830559:=U
def tw7589311270526813303:=U
def tw16573444903237716424:=U
def tw7147169785839849067:=U
def tw5895936057043301492:=U
def tw13322639909071010742:=U
def tw8360168681990694972:=U
def tw17612713620163957405:=U
def tw10595026027667843772:=U
def tw11213459526633375009:=U
def tw5222971599614848051:=U
def tw7011919804050454877:=U
def tw3817966729487604085:=U
def tw3899620281189913775:=U
def tw4639772090942225618:=U
def tw9984629533121377517:=U
def tw6837325554964382291:=U
def tw17488692323775451362:=U
def tw6652344628645248525:=U
def tw10561718311826588308:=U
def tw5175720739597001113:=U
def tw17076536277661952425:=U
def tw14445201794115834467:=U
def tw2387311846873770947:=U
def tw18294444676768138574:=U
def tw7745526322167836530:=U
def tw5269196973315944068:=U
def tw14065177767622736610:=U
def tw12508115996314147114:=U
def tw870552472017467013:=U
def tw11651166443144736215:=U
def tw3074502643852460968:=U
def tw3712131423588332974:=U
def tw11570829709708750215:=U
def tw8725759443916186638:=U
def tw1497185603088801252:=U
def tw486994731092310443:=U
def tw3255216089925775346:=U
def tw4223653454801165681:=U
def tw13137803967649273265:=U
def tw3833458532364607029:=U
def tw946757080162553388:=U
def tw5510546019377317868:=U
def tw7773374492074806477:=U
def tw18294931323235070551:=U
def tw10587356310256711222:=U
def tw7618892503175311940:=U
def tw1037388980361870623:=U
def tw10907830843277533726:=U
def tw11750711492894655885:=U
def tw3228363338767475474:=U
def tw15881482613687861942:=U
def tw16002303608753792031:=U
def tw794553700519219266:=U
def tw14128837437889286968:=U
def tw4562451206685854798:=U
def tw14966861395216538485:=U
def tw16914306337399702678:=U
def tw6523243965039328463:=U
def tw8701410244588448370:=U
def tw13556110249623466761:=U
def tw12408048618828830608:=U
def tw4773797519447015954:=U
def tw3915407965134371106:=U
def tw13955484735337488599:=U
def tw9875232530192861997:=U
def tw4940339934580955011:=U
def tw9955544335105322268:=U
def tw15145990418138796214:=U
def tw16838394343086599585:=U
def tw5235196440124168109:=U
def tw1390999770555410286:=U
def tw14898796227989085234:=U
def tw11332793313688817504:=U
def tw8843168739331500480:=U
def tw1591969255116065266:=U
def tw16452863389945262358:=U
def tw16564522414974211628:=U
def tw4279582843367061464:=U
def tw3979687327196202862:=U
def tw4792274611217508934:=U
def tw4092569592412353304:=U
def tw2236656572457213167:=U
def tw5584074047969606641:=U
def tw8164215439934703755:=U
def tw3642492445479371801:=U
def tw3306878127321769651:=U
def tw208027781137478999:=U
def tw5856044837978156399:=U
def tw10188941620663384543:=U
def tw6643621605415925064:=U
def tw12945521586851606083:=U
def tw9300959184263230618:=U
def tw3068047341272797256:=U
def tw15395158952081941277:=U
def tw13818680317565318216:=U
def tw16863032732018045725:=U
def tw15744564507440015067:=U
def tw9833895820290304930:=U
def tw8695867310262782561:=U
def tw6583448826585751422:=U
def tw13661356609430105374:=U
def tw13219499245947936504:=U
def tw17583751610073530445:=U
def tw6736768711211029719:=U
def tw8513091854473794497:=U
def tw2781881949625631899:=U
def tw2542837791454269100:=U
def tw5830803532987422463:=U
def tw4536384558381930239:=U
def tw5681630287349680111:=U
def tw12041850803728632002:=U
def tw4725231480383636863:=U
def tw11982049880034596724:=U
def tw9992030597257374185:=U
def tw17689337164688393557:=U
def tw4640413906697436913:=U
def tw9748701285577005661:=U
def tw17055889381123127089:=U
def tw14687780452493614811:=U
def tw17919730088934864715:=U
def tw1407525841941016028:=U
def tw8881802237361973836:=U
def tw670243409647310240:=U
def tw11853758468183371932:=U
def tw3203130694501934516:=U
def tw3745258247500998007:=U
def tw8526749166194423247:=U
def tw7608285840959640852:=U
def tw16773312307510273627:=U
def tw4055299833461510199:=U
def tw14230618095994035546:=U
def tw401934027803022421:=U
def tw6909786223643129661:=U
def tw1045916174303912759:=U
def tw4497363652622350656:=U
def tw988646543848160198:=U
def tw13132112540484967689:=U
def tw13531877756119725600:=U
def tw16979387350961700722:=U
def tw758454484764071831:=U
def tw15819820476979675352:=U
def tw11447070610423378723:=U
def tw16507051244418309121:=U
def tw9927334441924875875:=U
def tw12952159095666831365:=U
def tw970531831594105333:=U
def tw17639255953292079485:=U
def tw6716643925841568129:=U
def tw4842238595147629717:=U
def tw3218766119521367930:=U
def tw795473601824442057:=U
def tw9542241703960957547:=U
def tw15813127630285705867:=U
def tw7744202347909747785:=U
def tw9485898980188596306:=U
def tw12927952733404494697:=U
def tw18373546126261133457:=U
def tw6824308376807967410:=U
def tw7655938871994917288:=U
def tw3893644480900772333:=U
def tw10753867635650689068:=U
def tw15501491043617093588:=U
def tw5858783712654816335:=U
def tw17845353275895344310:=U
def tw3661659957842138987:=U
def tw6630269490598593399:=U
def tw15377699313763935301:=U
def tw7829817623597654225:=U
def tw7958090500849868547:=U
def tw10197752730794342516:=U
def tw2560785016486550123:=U
def tw12578892153011682876:=U
def tw5252363378293755580:=U
def tw7399616860519369623:=U
def tw11995207759975882234:=U
def tw15247075705376769143:=U
def tw4301652619390261715:=U
def tw132645292720122350:=U
def tw495523575950031632:=U
def tw10754014331054480129:=U
def tw517463808120053877:=U
def tw2301825908471866037:=U
def tw17081857433487246927:=U
def tw766409797258237781:=U
def tw8416166707168852723:=U
def tw14530346265697577841:=U
def tw16016253179356056328:=U
def tw508328214545893058:=U
def tw11268563910838501785:=U
def tw13409319840191754750:=U
def tw14693407104419808055:=U
def tw3543850962292881909:=U
def tw15454400843845972713:=U
def tw7763416576835917066:=U
def tw7195402978671009707:=U
def tw6504431370847292487:=U
def tw16197717048381252263:=U
def tw4476339001533271554:=U
def tw7896590991096179564:=U
def tw12362459468131524454:=U
def tw523713781039045520:=U
def tw1289068880957586199:=U
def tw2975787238220897046:=U
def tw8962778800014876438:=U
def tw7656166970797717852:=U
def tw11305226175540946505:=U
def tw15892677797432103766:=U
def tw2447362489177479504:=U
def tw7923513587840979329:=U
def tw6327392589052995094:=U
def tw12635980277686418158:=U
def tw9836152883795241106:=U
def tw535487383000309346:=U
def tw3487090703918954765:=U
def tw1354592590201853104:=U
def tw9316726256320716281:=U
def tw11299436986505607846:=U
def tw13031262510181152590:=U
def tw6736312240036847871:=U
def tw16234703142510453622:=U
def tw277342673992762387:=U
def tw3015378743018759234:=U
def tw14811820016272029045:=U
def tw293354144834895233:=U
def tw7365253986900475624:=U
def tw7756171907893915830:=U
def tw11425650889869146470:=U
def tw13178744206538897879:=U
def tw1259280623183938869:=U
def tw2129968693243660806:=U
def tw9978198492893856781:=U
def tw3179665877532161651:=U
def tw16765139870080524183:=U
def tw17592061818893290786:=U
def tw15078736449930684488:=U
def tw9271482045985200730:=U
def tw10143735765699475652:=U
def tw3917083570141526980:=U
def tw11960350588188220276:=U
def tw16287248085471667937:=U
def tw4508468986290166630:=U
def tw4441384385759378340:=U
def tw14071184701781156690:=U
def tw3672716473006795471:=U
def tw17432540329142416751:=U
def tw4523134131665698754:=U
def tw416948333260790945:=U
def tw16446105560081640180:=U
def tw15050894587936212488:=U
def tw8511917697667162976:=U
def tw8368575254705105370:=U
def tw15521100113946451084:=U
def tw10223299917472984807:=U
def tw5357320674235863273:=U
def tw12224098854042011521:=U
def tw10727729715562410880:=U
def tw2435914739543134204:=U
def tw15074399148407434436:=U
def tw17362660117674044362:=U
def tw6287392280935658757:=U
def tw5263216576601910251:=U
def tw1418077538535629551:=U
def tw4167726726621608035:=U
def tw8763186464354770170:=U
def tw13721763036584046568:=U
def tw18172539985135960114:=U
def tw2359169264817027282:=U
def tw11657377474444064404:=U
def tw14009947283265582584:=U
def tw7029259382945370941:=U
def tw10353260581511586579:=U
def tw16884205579460076800:=U
def tw1585296324049469804:=U
def tw411339449373629618:=U
def tw17366704551174706085:=U
def tw2476098134465661700:=U
def tw13464353206599242412:=U
def tw12175870109053918643:=U
def tw3215154623239400216:=U
def tw17284217240307371382:=U
def tw6308664264524436557:=U
def tw7133987736415326323:=U
def tw14798644865369083895:=U
def tw929406223110233181:=U
def tw11262771920798576605:=U
def tw9284380490089259405:=U
def tw10337495477755123513:=U
def tw4787440779935206056:=U
def tw10700980626695103616:=U
def tw436351283576949519:=U
def tw5247271845130445196:=U
def tw9125859592444775582:=U
def tw18398096625911048518:=U
def tw12461940316561478233:=U
def tw80303439148866223:=U
def tw7554922997474710008:=U
def tw15921064372147355266:=U
def tw16848617403363156903:=U
def tw5262779728134725866:=U
def tw12542197922954228145:=U
def tw4342251242530161588:=U
def tw9318366299557897975:=U
def tw4407086138215259913:=U
def tw15499101818031140843:=U
def tw11088143691869942189:=U
def tw6380452938126514046:=U
def tw10432488617372416766:=U
def tw4559216202528561038:=U
def tw1121153473049930720:=U
def tw4360615035518960223:=U
def tw15356145685748145639:=U
def tw12019376164146124825:=U
def tw15093355795156800655:=U
def tw14212376187003006284:=U
def tw13554646113154855312:=U
def tw2243636999574739793:=U
def tw7672673387760863109:=U
def tw11416799249910631424:=U
def tw10261225555335697977:=U
def tw13125820114819298534:=U
end PySem.W.Fast
open PySem PySem.W PyProof.Rows
def L2.dK {K:W.Frag}{h:Heap}{mg:Str->Option Value}{name:Str}{st:Stmt}{ps:List Str}{f:Addr}{oc:Value}{od an:Option Addr}{osl:Array (Option Value)}{kV doc pm bN ct:Value}(X:K.In h)(G:h.Ns mainGlobals mg)(a:W.nsIn K mainGlobals name=some (some (.ref f)):=by k_is)(l:K.lookup f=some ⟨oc,od,.func (W.fnOf name name (L2.dD st) (L2.cT st) (L2.aH st) .none kV doc pm an bN ct),osl⟩:=by k_is)(c:W.codeIn K bN name=true:=by k_is)(k:W.keepIn K (.ref f)=true:=by k_is)(hb:∀(kV doc pm:Value) (an:Option Addr) (bN ct:Value) (us:List Value),us.length=ps.length->bindArgs (W.fnOf name name (L2.dD st) (L2.cT st) (L2.aH st) .none kV doc pm an bN ct) ⟨us,[]⟩=pure (ps.zip us):=by intro _ _ _ _ _ _ us hl;first|show(L2.e1 (λ_=>rfl) us hl)|show(L2.e2 (λ_ _=>rfl) us hl)|show(L2.e3 (λ_ _ _=>rfl) us hl)|show(L2.e4 (λ_ _ _ _=>rfl) us hl)|show(L2.e5 (λ_ _ _ _ _=>rfl) us hl)):L2.aO (L2.KOf X) mg name st ps:=L2.acQ X G a l c k hb
set_option maxRecDepth 100000 in
set_option maxHeartbeats 0 in
theorem PySem.Challenge.cw_letterrack_k65_whole_tiles_are_kept_holds : PySem.Challenge.rw_letterrack_k65_whole_tiles_are_kept.Holds := by
 w_on;o_law;k_head;(case hw=>w_witness2)
 k_fill
 refine L2.afc (x:="_law_script") (l:=PySem.Challenge.rw_letterrack_k65_whole_tiles_are_kept) rfl rfl (λw h Y=>W.kIn_of Y) ?F
 case F=>
  intro w mg fa h KX G hmg;have bC:mg "len"=none:=by
   refine' dv KX G ?z
   (case z=>k_is)
  have dN:mg "range"=none:=by
   refine' dv KX G ?z
   (case z=>k_is)
  have cI:mg "tuple"=none:=by
   refine' dv KX G ?z
   (case z=>k_is)
  have pO:mg "list"=none:=by
   refine' dv KX G ?z
   (case z=>k_is)
  have Fo:mg "dict"=none:=by
   refine' dv KX G ?z
   (case z=>k_is)
  have gk:mg "sorted"=none:=by
   refine' dv KX G ?z
   (case z=>k_is)
  have bW:mg "isinstance"=none:=by
   refine' dv KX G ?z
   (case z=>k_is)
  have vK:mg "bool"=none:=by
   refine' dv KX G ?z
   (case z=>k_is)
  have o9:mg "int"=none:=by
   refine' dv KX G ?z
   (case z=>k_is)
  have wW:mg "str"=none:=by
   refine' dv KX G ?z
   (case z=>k_is)
  have fK:mg "all"=none:=by
   refine' dv KX G ?z
   (case z=>k_is)
  have zm:mg "any"=none:=by
   refine' dv KX G ?z
   (case z=>k_is)
  have KJ:mg "zip"=none:=by
   refine' dv KX G ?z
   (case z=>k_is)
  have tV:mg "min"=none:=by
   refine' dv KX G ?z
   (case z=>k_is)
  have zp:mg "max"=none:=by
   refine' dv KX G ?z
   (case z=>k_is)
  have K7:mg "sum"=none:=by
   refine' dv KX G ?z
   (case z=>k_is)
  have qO:mg "enumerate"=none:=by
   refine' dv KX G ?z
   (case z=>k_is)
  have gF:∃t,mg "FREE"=some (.str (L2.S [46]) t):=by
   refine' L2.RB KX G ?z
   (case z=>k_is)
  have Am:∃t,mg "MARKS"=some (.str (L2.S My.MK) t):=by
   refine' L2.RB KX G ?z
   (case z=>k_is)
  have Ak:∃t,mg "MOST"=some (.int 9 t):=by
   refine' L2.RD KX G ?z
   (case z=>k_is)
  have pU:∃t,mg "MOST_TILES"=some (.int 7 t):=by
   refine' L2.RD KX G ?z
   (case z=>k_is)
  have wZ:L2.aO (L2.KOf KX) mg "is_whole" My.sU ["thing"]:=L2.dK KX G;have Gn:L2.aO (L2.KOf KX) mg "is_sign" My.yP ["thing"]:=L2.dK KX G;have zP:L2.aO (L2.KOf KX) mg "letter_of" My.uQ ["sign"]:=L2.dK KX G;have Gp:L2.aO (L2.KOf KX) mg "tile_of" My.yQ ["sign"]:=L2.dK KX G;have Gq:L2.aO (L2.KOf KX) mg "left_of" My.yR ["rack","signs"]:=L2.dK KX G;have Dc:L2.aO (L2.KOf KX) mg "is_block" My.wM ["thing"]:=L2.dK KX G;have Dd:L2.aO (L2.KOf KX) mg "are_rows" My.wN ["thing"]:=L2.dK KX G;have zQ:L2.aO (L2.KOf KX) mg "are_marks" My.uT ["thing"]:=L2.dK KX G;have tX:L2.aO (L2.KOf KX) mg "is_cell_of" My.pJ ["rows","row","column"]:=L2.dK KX G;have vV:L2.aO (L2.KOf KX) mg "is_begin_of" My.qX ["rows","thing"]:=L2.dK KX G;have Df:L2.aO (L2.KOf KX) mg "is_board" My.wO ["rows","marks","begin"]:=L2.dK KX G;have vW:L2.aO (L2.KOf KX) mg "column_text" My.qY ["rows","column"]:=L2.dK KX G;have zR:L2.aO (L2.KOf KX) mg "is_triple" My.uU ["board","thing"]:=L2.dK KX G;have zT:L2.aO (L2.KOf KX) mg "is_laying" My.uV ["board","thing"]:=L2.dK KX G;have Dg:L2.aO (L2.KOf KX) mg "cells_of" My.wQ ["laying"]:=L2.dK KX G;have vm:L2.aO (L2.KOf KX) mg "is_across" My.qL ["laying"]:=L2.dK KX G;have Gr:L2.aO (L2.KOf KX) mg "is_down" My.yS ["laying"]:=L2.dK KX G;have qe:L2.aO (L2.KOf KX) mg "is_next_to_taken" My.mq ["board","row","column"]:=L2.dK KX G;have Jy:L2.aO (L2.KOf KX) mg "formed" My.BR ["board","laying"]:=L2.dK KX G;have yF:L2.aO (L2.KOf KX) mg "check_free" My.sV ["board","laying"]:=L2.dK KX G;have rG:L2.aO (L2.KOf KX) mg "check_straight" My.oG ["laying"]:=L2.dK KX G;have yG:L2.aO (L2.KOf KX) mg "check_gaps" My.sW ["board","laying"]:=L2.dK KX G;have uK:L2.aO (L2.KOf KX) mg "check_joined" My.qu ["board","laying"]:=L2.dK KX G;have vX:L2.aO (L2.KOf KX) mg "check_words" My.rm ["board","book","laying"]:=L2.dK KX G;have uL:L2.aO (L2.KOf KX) mg "check_laying" My.qw ["board","book","rack","laying"]:=L2.dK KX G;have Dh:L2.aO (L2.KOf KX) mg "worth_of" My.wR ["worths","sign"]:=L2.dK KX G;have Gs:L2.aO (L2.KOf KX) mg "cell_in" My.yU ["word","place"]:=L2.dK KX G;have vY:L2.aO (L2.KOf KX) mg "word_points" My.rB ["board","worths","laying","word"]:=L2.dK KX G;have Di:L2.aO (L2.KOf KX) mg "bonus_of" My.wU ["bonus","laying"]:=L2.dK KX G;have zU:L2.aO (L2.KOf KX) mg "points_of" My.uW ["board","worths","bonus","laying"]:=L2.dK KX G;have vZ:L2.aO (L2.KOf KX) mg "left_behind" My.rC ["rack","laying"]:=L2.dK KX G;have zV:L2.aO (L2.KOf KX) mg "are_tiles" My.uZ ["thing"]:=L2.dK KX G;have Gu:L2.aO (L2.KOf KX) mg "is_deed" My.yV ["thing"]:=L2.dK KX G;have Dj:L2.aO (L2.KOf KX) mg "in_order" My.wV ["tiles"]:=L2.dK KX G;have zW:L2.aO (L2.KOf KX) mg "exchanged" My.u9 ["things","place","thing"]:=L2.dK KX G;have tY:L2.aO (L2.KOf KX) mg "behind_laying" My.o7 ["stand","turn","size","laying","points"]:=L2.dK KX G;have wg:L2.aO (L2.KOf KX) mg "behind_swap" My.rD ["stand","turn","tiles"]:=L2.dK KX G;have Gv:L2.aO (L2.KOf KX) mg "is_word" My.yW ["text"]:=L2.dK KX G;have yH:L2.aO (L2.KOf KX) mg "check_word" My.sY ["text"]:=L2.dK KX G;have Gw:L2.aO (L2.KOf KX) mg "_law_cell_at" My.yX ["_law_script","_law_k"]:=L2.dK KX G;have Jz:L2.aO (L2.KOf KX) mg "_law_stream" My.BW ["_law_cell","_law_many"]:=L2.dK KX G;have Gx:L2.aO (L2.KOf KX) mg "_law_letters" My.yZ ["_law_cell"]:=L2.dK KX G;have Ny:L2.aO (L2.KOf KX) mg "_law_words" My.G5 ["_law_cell","_law_letters_here"]:=L2.dK KX G;have Vt:L2.aO (L2.KOf KX) mg "_law_rows" My.Kq ["_law_cell","_law_letters_here"]:=L2.dK KX G;have Nz:L2.aO (L2.KOf KX) mg "_law_tiles" My.G6 ["_law_cell","_law_letters_here","_law_many","_law_blanks"]:=L2.dK KX G;have NK:L2.aO (L2.KOf KX) mg "_law_parts" My.G7 ["_law_script"]:=L2.dK KX G;have NP:L2.aO (L2.KOf KX) mg "_law_begun" My.G8 ["_law_parts_here"]:=L2.dK KX G;have zX:L2.aO (L2.KOf KX) mg "_law_candidate" My.u_ ["_law_rows_here","_law_word","_law_place","_law_rack"]:=L2.dK KX G;have Vu:L2.aO (L2.KOf KX) mg "_law_lets" My.Kr ["_law_board","_law_book","_law_rack","_law_laying_here"]:=L2.dK KX G;have JB:L2.aO (L2.KOf KX) mg "_law_laying" My.BX ["_law_board","_law_book","_law_words_here","_law_rack","_law_cell"]:=L2.dK KX G;have Vv:L2.aO (L2.KOf KX) mg "_law_deed" My.Ks ["_law_now","_law_book","_law_words_here","_law_cell"]:=L2.dK KX G;have zY:L2.aO (L2.KOf KX) mg "_law_all_tiles" My.vf ["_law_game","_law_first"]:=L2.dK KX G;have Vw:L2.aO (L2.KOf KX) mg "_law_lain" My.Ku ["_law_ahead","_law_behind"]:=L2.dK KX G;have aco:∃C f0 f1 f2 f3 f4 eV dY fd2 n6 wu,My.Cg (L2.KOf KX) mg C f0 f1 f2 f3 f4 eV dY fd2 n6 wu:=by
   dsimp only[L2.KOf];refine' My.adQ KX G ?aC ?a0 ?i0 ?l0 ?c0 ?k0 ?a1 ?i1 ?l1 ?c1 ?k1 ?a2 ?i2 ?l2 ?c2 ?k2 ?a3 ?i3 ?l3 ?c3 ?k3 ?a4 ?i4 ?l4 ?c4 ?k4 ?pg ?hd ?po ?sa ?mk ?kc ?yD ?Fv ?Fw
   (case aC=>k_is)
   (case a0=>k_is)
   (case i0=>k_is)
   (case l0=>k_is)
   (case c0=>k_is)
   (case k0=>k_is)
   (case a1=>k_is)
   (case i1=>k_is)
   (case l1=>k_is)
   (case c1=>k_is)
   (case k1=>k_is)
   (case a2=>k_is)
   (case i2=>k_is)
   (case l2=>k_is)
   (case c2=>k_is)
   (case k2=>k_is)
   (case a3=>k_is)
   (case i3=>k_is)
   (case l3=>k_is)
   (case c3=>k_is)
   (case k3=>k_is)
   (case a4=>k_is)
   (case i4=>k_is)
   (case l4=>k_is)
   (case c4=>k_is)
   (case k4=>k_is)
   (case pg=>k_is)
   (case hd=>k_is)
   (case po=>k_is)
   (case sa=>k_is)
   (case mk=>k_is)
   (case kc=>k_is)
   (case yD=>k_is)
   (case Fv=>k_is)
   (case Fw=>k_is)
  obtain⟨_,_,_,_,_,_,_,_,_,_,_,ad7⟩:=aco;have ad8:∃C f0 f1 f2 f3 eV dY fd2 n6,My.Fx (L2.KOf KX) mg C f0 f1 f2 f3 eV dY fd2 n6:=by
   dsimp only[L2.KOf];refine' My.af_ KX G ?aC ?a0 ?i0 ?l0 ?c0 ?k0 ?a1 ?i1 ?l1 ?c1 ?k1 ?a2 ?i2 ?l2 ?c2 ?k2 ?a3 ?i3 ?l3 ?c3 ?k3 ?pg ?hd ?po ?sa ?mk ?kc ?yD
   (case aC=>k_is)
   (case a0=>k_is)
   (case i0=>k_is)
   (case l0=>k_is)
   (case c0=>k_is)
   (case k0=>k_is)
   (case a1=>k_is)
   (case i1=>k_is)
   (case l1=>k_is)
   (case c1=>k_is)
   (case k1=>k_is)
   (case a2=>k_is)
   (case i2=>k_is)
   (case l2=>k_is)
   (case c2=>k_is)
   (case k2=>k_is)
   (case a3=>k_is)
   (case i3=>k_is)
   (case l3=>k_is)
   (case c3=>k_is)
   (case k3=>k_is)
   (case pg=>k_is)
   (case hd=>k_is)
   (case po=>k_is)
   (case sa=>k_is)
   (case mk=>k_is)
   (case kc=>k_is)
   (case yD=>k_is)
  obtain⟨_,_,_,_,_,_,_,_,_,agy⟩:=ad8;have acp:∃C f0 eV,My.Ci (L2.KOf KX) mg C f0 eV:=by
   dsimp only[L2.KOf];refine' My.adR KX G ?aC ?a0 ?i0 ?l0 ?c0 ?k0 ?pg ?hd ?po ?sa ?mk ?kc ?yD ?Fv ?Fw ?Vc
   (case aC=>k_is)
   (case a0=>k_is)
   (case i0=>k_is)
   (case l0=>k_is)
   (case c0=>k_is)
   (case k0=>k_is)
   (case pg=>k_is)
   (case hd=>k_is)
   (case po=>k_is)
   (case sa=>k_is)
   (case mk=>k_is)
   (case kc=>k_is)
   (case yD=>k_is)
   (case Fv=>k_is)
   (case Fw=>k_is)
   (case Vc=>k_is)
  obtain⟨_,_,_,ad9⟩:=acp;have ad_:∃C f0 f1 f2 f3 f4 f5 f6 f7 eV dY fd2 n6 wu Lg Lh Lj,My.Fy (L2.KOf KX) mg C f0 f1 f2 f3 f4 f5 f6 f7 eV dY fd2 n6 wu Lg Lh Lj:=by
   dsimp only[L2.KOf];refine' My.aga KX G ?aC ?a0 ?i0 ?l0 ?c0 ?k0 ?a1 ?i1 ?l1 ?c1 ?k1 ?a2 ?i2 ?l2 ?c2 ?k2 ?a3 ?i3 ?l3 ?c3 ?k3 ?a4 ?i4 ?l4 ?c4 ?k4 ?a5 ?i5 ?l5 ?c5 ?k5 ?a6 ?i6 ?l6 ?c6 ?k6 ?a7 ?i7 ?l7 ?c7 ?k7 ?pg ?hd ?po ?sa ?mk ?kc ?yD ?Fv ?Fw ?Vc ?nf4 ?nf5
   (case aC=>k_is)
   (case a0=>k_is)
   (case i0=>k_is)
   (case l0=>k_is)
   (case c0=>k_is)
   (case k0=>k_is)
   (case a1=>k_is)
   (case i1=>k_is)
   (case l1=>k_is)
   (case c1=>k_is)
   (case k1=>k_is)
   (case a2=>k_is)
   (case i2=>k_is)
   (case l2=>k_is)
   (case c2=>k_is)
   (case k2=>k_is)
   (case a3=>k_is)
   (case i3=>k_is)
   (case l3=>k_is)
   (case c3=>k_is)
   (case k3=>k_is)
   (case a4=>k_is)
   (case i4=>k_is)
   (case l4=>k_is)
   (case c4=>k_is)
   (case k4=>k_is)
   (case a5=>k_is)
   (case i5=>k_is)
   (case l5=>k_is)
   (case c5=>k_is)
   (case k5=>k_is)
   (case a6=>k_is)
   (case i6=>k_is)
   (case l6=>k_is)
   (case c6=>k_is)
   (case k6=>k_is)
   (case a7=>k_is)
   (case i7=>k_is)
   (case l7=>k_is)
   (case c7=>k_is)
   (case k7=>k_is)
   (case pg=>k_is)
   (case hd=>k_is)
   (case po=>k_is)
   (case sa=>k_is)
   (case mk=>k_is)
   (case kc=>k_is)
   (case yD=>k_is)
   (case Fv=>k_is)
   (case Fw=>k_is)
   (case Vc=>k_is)
   (case nf4=>k_is)
   (case nf5=>k_is)
  obtain⟨_,_,_,_,_,_,_,_,_,_,_,_,_,_,_,_,_,agz⟩:=ad_;have xkl:∃a,mg "LETTER_MARKS"=some (.ref a)/\∀P:Program,L2.KDict P w (L2.KOf KX) a My.X7:=by
   try dsimp only[L2.KOf]
   refine' My.ab7 KX G ?b ?l ?z ?n
   (case b=>k_is)
   (case l=>k_is)
   (case z=>rfl)
   (case n=>decide)
  obtain⟨_,kl⟩:=xkl;have xkw:∃a,mg "WORD_MARKS"=some (.ref a)/\∀P:Program,L2.KDict P w (L2.KOf KX) a My.X8:=by
   try dsimp only[L2.KOf]
   refine' My.ab7 KX G ?b ?l ?z ?n
   (case b=>k_is)
   (case l=>k_is)
   (case z=>rfl)
   (case n=>decide)
  obtain⟨_,kw⟩:=xkw;have xzb:∃t:Tok,t≠0/\mg "BLANK"=some (.str (L2.S [63]) t):=by
   try dsimp only[L2.KOf]
   refine' My.ajE KX G ?b ?n
   (case b=>k_is)
   (case n=>decide)
  obtain⟨_,zb⟩:=xzb;have xer:∃gG dW ig gH jO cV dB CR jB m_ gb iJ pZ vN mF n8,My.adS (L2.KOf KX) mg gG dW ig gH jO cV dB CR jB m_ gb iJ pZ vN mF n8:=by
   try dsimp only[L2.KOf]
   refine' My.agc KX G ?Cm ?Hi ?Fz ?Q8 ?Nt ?zy ?Cp ?aR ?tW ?vO ?Bf ?Nu ?FJ ?aas ?Nv ?FN ?Jj ?Vf ?Jk ?Jl ?Jm ?Jo ?FP ?Jp ?Jq ?Jr ?Js ?zN ?uI ?acn ?Vg ?Vh ?Vi ?Vj ?Nx ?Vk ?Vl ?Vm ?Vn ?FQ ?yE ?Lp ?Cq ?Cr ?Cu ?Cv ?zO ?Cw ?Cy ?Cz ?CJ ?uJ ?PK ?FT ?FW ?FZ ?Ga ?CK ?Gb ?Gd ?Ge ?Gf ?vU ?hn ?ht ?Jt ?Ju ?Jv ?Jw ?CN ?Jx ?Vo ?Vp ?Vq ?Vr ?Lq ?Vs ?CP ?CQ ?CV ?CZ ?wY ?C_ ?Gg ?Gh ?Gi ?Gj ?zA ?Gk ?g2 ?rd ?fc
   (case Cm=>k_is)
   (case Hi=>k_is)
   (case Fz=>k_is)
   (case Q8=>k_is)
   (case Nt=>k_is)
   (case zy=>k_is)
   (case Cp=>k_is)
   (case aR=>k_is)
   (case tW=>k_exc)
   (case vO=>k_exc)
   (case Bf=>k_exc)
   (case Nu=>kernel_rfl)
   (case FJ=>kernel_rfl)
   (case aas=>kernel_rfl)
   (case Nv=>kernel_rfl)
   (case FN=>kernel_rfl)
   (case Jj=>kernel_rfl)
   (case Vf=>k_is)
   (case Jk=>k_is)
   (case Jl=>k_is)
   (case Jm=>k_is)
   (case Jo=>k_is)
   (case FP=>kernel_rfl)
   (case Jp=>k_is)
   (case Jq=>kernel_rfl)
   (case Jr=>k_is)
   (case Js=>k_is)
   (case zN=>k_is)
   (case uI=>k_is)
   (case acn=>k_is)
   (case Vg=>k_is)
   (case Vh=>k_is)
   (case Vi=>k_is)
   (case Vj=>k_is)
   (case Nx=>kernel_rfl)
   (case Vk=>k_is)
   (case Vl=>kernel_rfl)
   (case Vm=>k_is)
   (case Vn=>k_is)
   (case FQ=>k_is)
   (case yE=>k_is)
   (case Lp=>k_is)
   (case Cq=>k_is)
   (case Cr=>k_is)
   (case Cu=>k_is)
   (case Cv=>k_is)
   (case zO=>kernel_rfl)
   (case Cw=>k_is)
   (case Cy=>kernel_rfl)
   (case Cz=>k_is)
   (case CJ=>k_is)
   (case uJ=>k_is)
   (case PK=>k_is)
   (case FT=>k_is)
   (case FW=>k_is)
   (case FZ=>k_is)
   (case Ga=>k_is)
   (case CK=>kernel_rfl)
   (case Gb=>k_is)
   (case Gd=>kernel_rfl)
   (case Ge=>k_is)
   (case Gf=>k_is)
   (case vU=>k_is)
   (case hn=>k_is)
   (case ht=>k_is)
   (case Jt=>kernel_rfl)
   (case Ju=>k_is)
   (case Jv=>k_is)
   (case Jw=>k_is)
   (case CN=>k_is)
   (case Jx=>k_is)
   (case Vo=>kernel_rfl)
   (case Vp=>k_is)
   (case Vq=>k_is)
   (case Vr=>k_is)
   (case Lq=>k_is)
   (case Vs=>k_is)
   (case CP=>kernel_rfl)
   (case CQ=>k_is)
   (case CV=>k_is)
   (case CZ=>k_is)
   (case wY=>k_is)
   (case C_=>k_is)
   (case Gg=>kernel_rfl)
   (case Gh=>k_is)
   (case Gi=>k_is)
   (case Gj=>k_is)
   (case zA=>k_is)
   (case Gk=>k_is)
   (case g2=>k_is)
   (case rd=>k_is)
   (case fc=>k_is)
  obtain⟨_,_,_,_,_,_,_,_,_,_,_,_,_,_,_,_,er⟩:=xer;have lw:∃fd:FuncData,L2.fu (L2.KOf KX) "law" "law" My.QK fa fd/\∀(s:Shared) (v:Value),BindsTo s fd ⟨[v],[]⟩ [("_law_script",v)]:=by
   dsimp only[L2.KOf];refine' L2.ahz KX G hmg ?a ?l ?c ?k ?b
   case a|l|c|k=>k_is
   (case b=>exact λ_ _ _ _ _ _ _=>rfl)
  obtain⟨fd,F,hb⟩:=lw;exact⟨fd,hb,λbase _ _=>My.agd bC dN cI pO Fo gk bW vK o9 wW fK zm KJ tV zp K7 qO gF Am Ak pU wZ Gn zP Gp Gq Dc Dd zQ tX vV Df vW zR zT Dg vm Gr qe Jy yF rG yG uK vX uL Dh Gs vY Di zU vZ zV Gu Dj zW tY wg Gv yH Gw Jz Gx Ny Vt Nz NK NP zX Vu JB Vv zY Vw ad7 agy ad9 agz kl kw zb er F⟩

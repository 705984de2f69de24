import PyProof.Rows.All
import Wide.All
import OpenK.AllK
import Wide.FinOn
import Lean
import PyProof.EqAt
import PyProof.EqKinds
import PyProof.TupleCall
import KE.KRevIter
import PyProof.JoinWalk
import PyProof.CollectIter
import KE.KDictSum
import KE.KSortTup
import OpenK.KRaise
import PyProof.StationsW
import OpenK.KOwn
import KE.KTryMore
import KE.KIsNot
import PyProof.NsDelKeeps
import KE.KIsAll
import PyProof.ExcArgs
import PyProof.ListMulRoad
import PyProof.Rows.SeqMore
import PyProof.FactsAll.tuple_2
import PyProof.ExcInit
import OpenK.KCls
import PyProof.WalkInts
import PyProof.SeqI3
import KE.KIntText
import KE.KEqDict
import KE.KDictOf
import PyProof.Rows.SetFrom
import PyProof.FitsReplace
import PySem.Challenge.RW_letterrack_k61_deeds_refused
set_option Elab.async false
set_option linter.all false
set_option maxRecDepth 100000
set_option maxHeartbeats 4000000

set_option bootstrap.genMatcherCode false
theorem ZzN {G:Prop}(h:¬¬G):G:=Classical.byContradiction h
theorem rL {α:Sort _}{a:α}:a=a:=rfl
theorem Zzx2{q:A->B->Prop}{G:Prop}(h:∃a b,q a b)(f:∀a b,q a b->G):G:=Exists.elim h λa h=>Exists.elim h (f a)
theorem Zzx3{q:A->B->C->Prop}{G:Prop}(h:∃a b c,q a b c)(f:∀a b c,q a b c->G):G:=Exists.elim h λa h=>Zzx2 h (f a)
theorem Zzx4{q:A->B->C->D->Prop}{G:Prop}(h:∃a b c d,q a b c d)(f:∀a b c d,q a b c d->G):G:=Exists.elim h λa h=>Zzx3 h (f a)
theorem Zzx5{q:A->B->C->D->E->Prop}{G:Prop}(h:∃a b c d e,q a b c d e)(f:∀a b c d e,q a b c d e->G):G:=Exists.elim h λa h=>Zzx4 h (f a)
theorem Zzx7{q:A->B->C->D->E->I->J->Prop}{G:Prop}(h:∃a b c d e i j,q a b c d e i j)(f:∀a b c d e i j,q a b c d e i j->G):G:=Exists.elim h λa h=>Exists.elim h λb h=>Zzx5 h (f a b)
theorem Zzx10{q:A->B->C->D->E->I->J->K->L->M->Prop}{G:Prop}(h:∃a b c d e i j k l m,q a b c d e i j k l m)(f:∀a b c d e i j k l m,q a b c d e i j k l m->G):G:=Exists.elim h λa h=>Exists.elim h λb h=>Exists.elim h λc h=>Zzx7 h (f a b c)
theorem Zzx14{q:A->B->C->D->E->I->J->K->L->M->N->O->P->R->Prop}{G:Prop}(h:∃a b c d e i j k l m n o p r,q a b c d e i j k l m n o p r)(f:∀a b c d e i j k l m n o p r,q a b c d e i j k l m n o p r->G):G:=Exists.elim h λa h=>Exists.elim h λb h=>Exists.elim h λc h=>Exists.elim h λd h=>Zzx10 h (f a b c d)
local macro_rules|`(tactic|show $e)=>`(tactic|first|exact $e|change $e)
local macro_rules|`(tactic|calc $e:term)=>`(tactic|refine $e)
local macro_rules|`(tactic|let $x:ident := $e)=>`(tactic|have $x:ident := $e)|`(tactic|let $x:ident : $t := $e)=>`(tactic|have $x:ident : $t := $e)
open Lean in
local macro_rules|`(tactic|let ⟨$ts,*⟩ := $h)=>do
 let a:=ts.getElems
 let ps<-a.mapM λt=>if t.raw.isIdent then `(Parser.Tactic.rcasesPatLo|$(⟨t⟩):ident) else `(Parser.Tactic.rcasesPatLo|_)
 let n:=(a.pop.toList.takeWhile λt=>t.raw.getId != `rfl).length
 let mut t<-`(tactic|rcases $h:term with ⟨$ps,*⟩)
 for k in [2, 3, 4, 5, 7, 10, 14] do
  if k<=n then
   let m<-if k+1==a.size&&a.back!.raw.getId != `rfl then `(tactic|intro $a*) else `(tactic|(intro $(a[:k].toArray)* z;rcases z with ⟨$(ps[k:].toArray),*⟩))
   t<-`(tactic|first|(refine $(mkIdent (.mkSimple s!"Zzx{k}")) $h ?_;(try clear $(⟨h⟩));$m:tactic)|$t:tactic)
 `(tactic|(refine ZzN λn=>?_;$t:tactic<;>refine n ?_<;>clear n))
section
variable{p:Prop}
def qk(h:p:=by lia):p:=h
def qo(h:p:=by simp):p:=h
def qr(h:p:=by decide):p:=h
def qA(h:p:=by rfl):p:=h
def qB(h:p:=by kernel_rfl):p:=h
def qS(h:p:=by decide +kernel):p:=h
def qV(h:p:=by first | lia | ((try dsimp only);lia)):p:=h
def rc(h:p:=by size_fits):p:=h
end
def zsz (n:Nat)(h:n<=1000:=by decide):n<=PySem.sizeLine:=Nat.le_trans h qr
abbrev aa:=@List.length_map
abbrev ac:=@List.getElem?_eq_getElem
abbrev ae:=@PySem.wpAny_bind
abbrev af:=@decide_eq_false
abbrev ag:=@PySem.Heap.get?_push_of_some
abbrev ah:=@List.getElem?_eq_some_iff
abbrev ai:=@decide_eq_true
abbrev am:=@List.length_append
abbrev ap:=@Nat.le_of_lt
abbrev av:=@List.length_take
abbrev ax:=@Nat.le_refl
abbrev ay:=@PySem.boot_len
abbrev aE:=@List.getD_eq_getElem?_getD
abbrev aI:=@PySem.wpAny_pure
abbrev aS:=@List.length_drop
abbrev a9:=@PyProof.Rows.boot_isinstance
abbrev a_:=@PySem.Heap.lt_size
abbrev ba:=@List.getElem_mem
abbrev bc:=@List.mem_singleton
abbrev bd:=@List.mem_map
abbrev be:=@List.mem_append
abbrev bp:=@List.mem_of_getElem?
abbrev bq:=@Option.some.inj
abbrev bu:=@PySem.Heap.get?_push_size
abbrev bv:=@PySem.F.plainAttrs_str
abbrev bz:=@List.size_toArray
abbrev bE:=@List.mem_cons_of_mem
abbrev bP:=@List.map_append
abbrev bS:=@List.mem_cons_self
abbrev bX:=@List.mem_cons
abbrev b8:=@Nat.le_trans
abbrev b9:=@Bool.false_ne_true
abbrev ce:=@PySem.F.plainAttrs_list
abbrev cf:=@List.mem_of_mem_take
abbrev ck:=@List.getElem?_map
abbrev cn:=@PySem.W.mg_of
abbrev cp:=@Bool.and_eq_true
abbrev cq:=@List.map_cons
abbrev cv:=@Nat.ne_of_lt
abbrev cw:=@List.take_length
abbrev cy:=@Int.toNat_of_nonneg
abbrev cz:=@List.take_of_length_le
abbrev cE:=@PySem.F.slot_str_join
abbrev cK:=@PySem.F.type_str_join
abbrev cS:=@Nat.lt_of_lt_of_le
abbrev c8:=@List.take_add_one
abbrev c9:=@PyProof.Rows.boot_tuple
abbrev c_:=@List.mem_of_mem_drop
abbrev de:=@List.length_replicate
abbrev df:=@Int.emod_nonneg
abbrev di:=@PySem.PassesOwn.never
abbrev dq:=@Int.emod_lt_of_pos
abbrev dr:=@PySem.W.mg_none_of
abbrev du:=@List.getElem?_append_right
abbrev dv:=@Option.map_eq_some_iff
abbrev dA:=@List.length_cons
abbrev dC:=@of_decide_eq_true
abbrev dE:=@List.getElem?_append_left
abbrev dL:=@PySem.F.slot_list_append
abbrev dP:=@PySem.F.type_list_append
abbrev dS:=@List.replicate_succ
abbrev ee:=@Int.toNat_natCast
abbrev eh:=@PySem.wpAny_mono
abbrev eI:=@List.mem_append_right
abbrev eK:=@List.all_eq_true
abbrev eQ:=@List.mem_or_eq_of_mem_set
abbrev eW:=@List.length_reverse
abbrev e_:=@List.append_nil
abbrev fb:=@List.length_set
abbrev fe:=@Nat.zero_le
abbrev fg:=@PyProof.Rows.boot_list
abbrev fh:=@PySem.wpAny_truthy_bool
abbrev fi:=@List.flatten_cons
abbrev fk:=@PySem.Heap.size_push
abbrev fm:=@PySem.W.kia_one
abbrev fo:=@PySem.wpAny_field
abbrev fq:=@PyProof.Rows.callWith_type1
abbrev ft:=@PySem.Calls.spliced_cons
abbrev fw:=@Nat.lt_irrefl
abbrev fz:=@PySem.wpAny_holding
abbrev fA:=@PyProof.Rows.slot_tuple_getitem
abbrev fE:=@List.mem_range
abbrev fF:=@PySem.Heap.get?_update_other
abbrev fN:=@Array.length_toList
abbrev fR:=@List.map_congr_left
abbrev fS:=@Nat.min_eq_left
abbrev f8:=@List.drop_eq_getElem_cons
abbrev f_:=@Bool.false_eq_true
abbrev gc:=@List.map_map
abbrev gd:=@PyProof.Rows.boot_sorted
abbrev gf:=@Array.getElem?_eq_some_iff
abbrev gg:=@PySem.F.excBase_ValueError
abbrev gh:=@List.lookup_cons
abbrev gm:=@Ne.symm
abbrev gp:=@PySem.wpAny_Call_Name_kw
abbrev gt:=@Nat.mul_le_mul
abbrev gu:=@PySem.wpAny_call
abbrev gv:=@Option.isSome_iff_exists
abbrev gy:=@List.find?_cons
abbrev gI:=@List.forIn_cons
abbrev gL:=@PySem.F.slot_list_remove
abbrev gN:=@PySem.F.type_list_remove
abbrev gS:=@PySem.wpAny_newObj_type
abbrev gT:=@List.length_eq_zero_iff
abbrev gX:=@Nat.lt_succ_self
abbrev g9:=@Nat.succ_le_succ
abbrev hV:=@PySem.wpAny_call_entry
abbrev ia:=@PySem.Calls.callWith_builtin
abbrev ib:=@List.drop_of_length_le
abbrev ic:=@PySem.W.callWith_K
abbrev ie:=@of_decide_eq_false
abbrev ii:=@Bool.eq_iff_iff
abbrev ij:=@List.nodup_cons
abbrev ik:=@PySem.Heap.get?_update_self
abbrev im:=@PySem.F.slot_dict_get
abbrev io:=@List.cons_lt_cons_iff
abbrev ip:=@PySem.F.excAttr_ValueError
abbrev iq:=@PySem.wpAny_pyIter_list
abbrev ir:=@PySem.Calls.spliced_nil
abbrev iA:=@PySem.StrLaws.subAt_one
abbrev iE:=@PySem.wpAny_loadPart_at
abbrev iF:=@PySem.Calls.evalArgs_plain
abbrev iL:=@List.mem_iff_getElem
abbrev iN:=@List.pairwise_iff_getElem
abbrev iO:=@List.set_eq_take_append_cons_drop
abbrev iP:=@List.drop_zero
abbrev iS:=@Nat.le_of_eq
abbrev iX:=@PySem.codeAny_mono
abbrev i8:=@List.eq_of_mem_replicate
abbrev i9:=@List.filterMap_cons
abbrev ja:=@PySem.mem_of_lookup
abbrev jb:=@Array.getElem?_setIfInBounds_ne
abbrev jn:=@PySem.wpAny_callSpecial?_slot
abbrev jp:=@Int.eq_ofNat_of_zero_le
abbrev js:=@List.mem_filter
abbrev jv:=@PySem.SeqAt.EqAt.int_int
abbrev jI:=@Nat.lt_of_le_of_lt
abbrev jS:=@PySem.wpAny_loadPart'
abbrev j3:=@PySem.wpAny_setField_rec
abbrev ka:=@List.erase_sublist
abbrev ke:=@List.getElem?_set_self
abbrev kf:=@PySem.F.slot_tuple_mul
abbrev ki:=@Bool.eq_false_iff
abbrev km:=@PySem.PassesOwn.leaving
abbrev kn:=@Nat.ne_of_gt
abbrev ko:=@List.getElem?_eq_none
abbrev kq:=@PySem.Obj.isFreed_of_fields
abbrev kr:=@PySem.F.slot_int_rmul
abbrev ku:=@PySem.wpAny_seqItems
abbrev kz:=@PyProof.Rows.boot_int
abbrev kA:=@List.take_append_drop
abbrev kD:=@List.dropLast_concat_getLast
abbrev kH:=@PyProof.Rows.boot_min
abbrev kK:=@List.getElem?_set_ne
abbrev kL:=@Nat.min_eq_right
abbrev kM:=@PySem.codeAny_call_builtin
abbrev kN:=@List.not_mem_nil
abbrev kP:=@List.replicate_succ'
abbrev kQ:=@List.drop_length
abbrev kR:=@List.any_cons
abbrev kS:=@Nat.le_succ
abbrev kU:=@List.map_id
abbrev kX:=@PySem.wpAny_passesOwn
abbrev k9:=@PySem.wpAny_binaryOp_repeat_ref
abbrev lh:=@Option.map_some
abbrev lj:=@List.getElem?_zip_eq_some
abbrev lm:=@PySem.F.args_tuple_add_2
abbrev lp:=@PySem.wpAny_tupleItemsOf
abbrev lv:=@Nat.eq_zero_or_pos
abbrev lx:=@Int.mul_le_mul
abbrev ly:=@PySem.Heap.IsList.at
abbrev lI:=@PySem.F.entry_tuple_add
abbrev lL:=@PySem.F.args_dict_get_3
abbrev lP:=@Nat.add_sub_cancel_left
abbrev lS:=@List.eraseIdx_cons_succ
abbrev lT:=@Nat.lt_succ_of_lt
abbrev l_:=@Sum.inr.inj
abbrev ma:=@PySem.W.cellsFrom_some
abbrev md:=@PySem.F.slot_tuple_add
abbrev me:=@PySem.F.entry_dict_get
abbrev mf:=@PySem.wpAny_nextOf_list_item
abbrev mh:=@PyProof.Rows.boot_bool
abbrev mi:=@PySem.F.slot_str_lower
abbrev ml:=@PySem.F.type_str_lower
abbrev mm:=@PySem.wpAny_standAt
abbrev mn:=@Bool.not_true
abbrev mo:=@PySem.wpAny_attempt
abbrev mw:=@List.map_drop
abbrev mx:=@Bool.true_and
abbrev my:=@List.mem_reverse
abbrev mB:=@List.length_singleton
abbrev mE:=@List.getElem?_reverse
abbrev mI:=@PyProof.Rows.boot_str
abbrev mM:=@List.mem_of_mem_erase
abbrev mP:=@List.mem_append_left
abbrev mS:=@PySem.wpAny_Name
abbrev mT:=@List.of_mem_zip
abbrev nc:=@PyProof.Rows.callWith_builtin1
abbrev nl:=@Int.ofNat_lt
abbrev nv:=@List.foldl_cons
abbrev ny:=@PySem.F.slot_tuple_lt
abbrev nB:=@PySem.wpAny_updateSeq_pair
abbrev nE:=@PySem.F.slot_zip_next
abbrev nI:=@List.map_set
abbrev nK:=@Nat.mul_le_mul_right
abbrev nL:=@PySem.W.plainGet_of
abbrev nS:=@Bool.false_and
abbrev nV:=@PySem.wpAny_loadPart
abbrev nX:=@PySem.wpAny_setField
abbrev n5:=@List.mem_filterMap
abbrev n9:=@PySem.Obj.data_mapFields
abbrev og:=@List.filter_append
abbrev om:=@List.getElem?_drop
abbrev on:=@Int.fdiv_eq_ediv_of_nonneg
abbrev oq:=@Bool.false_or
abbrev ot:=@List.sum_cons
abbrev ow:=@List.takeWhile_cons_of_pos
abbrev oy:=@PySem.wpAny_onRaise
abbrev oz:=@Int.ofNat.inj
abbrev oB:=@PySem.Within.cons
abbrev oC:=@Function.comp_def
abbrev oP:=@List.length_range
abbrev oQ:=@PySem.wpAny_rule
abbrev oS:=@Array.getElem?_eq_getElem
abbrev o0:=@List.getLast?_eq_getElem?
abbrev ph:=@List.mem_of_find?_eq_some
abbrev pi:=@Nat.mod_lt
abbrev pj:=@Nat.succ_mul
abbrev pk:=@List.cons_append
abbrev pv:=@List.map_nil
abbrev pE:=@Array.toList_inj
abbrev pS:=@List.mem_flatten
abbrev pV:=@List.countP_cons
abbrev p_:=@List.length_nil
abbrev qa:=@Bool.or_eq_true
abbrev qc:=@List.range_succ
abbrev qf:=@Int.le_refl
abbrev qh:=@List.forIn_nil
abbrev qi:=@List.nodup_nil
abbrev AA:=List (List Nat)
abbrev AB:=PySem.Value->PySem.Shared->Prop
abbrev AF:=List (PySem.Addr×PySem.Obj)
noncomputable section
abbrev aw:List PySem.Str:=["self"]
abbrev cO:List PySem.Str:=["self","row","column"]
abbrev cZ:List PySem.Str:=["self","board","racks","bag","points"]
abbrev dt:List PySem.Str:=["self","board","book","worths","bonus","size","racks","bag"]
abbrev ey:List PySem.Str:=["thing"]
abbrev fv:List PySem.Str:=["_law_rack","_law_tiles_here"]
abbrev fx:List PySem.Str:=["board","laying"]
abbrev fy:List PySem.Str:=["_law_now","_law_parts_here","_law_deed_here","_law_board","_law_racks","_law_bag","_law_sums","_law_done","_law_passed","_law_over","_law_here","_law_points","_law_left","_law_drawn"]
abbrev ge:List PySem.Str:=["_law_board","_law_book","_law_rack","_law_laying_here"]
abbrev g8:List PySem.Str:=["_law_board","_law_book","_law_words_here","_law_rack","_law_cell"]
abbrev jj:List PySem.Str:=["laying"]
abbrev jw:List PySem.Str:=["_law_cell","_law_letters_here"]
abbrev kB:List PySem.Str:=["_law_cell","_law_letters_here","_law_many","_law_blanks"]
abbrev li:List PySem.Str:=["board","book","rack","laying"]
abbrev ms:List PySem.Str:=["self","rows","marks","begin"]
abbrev mu:List PySem.Str:=["_law_rows_here","_law_word","_law_place","_law_rack"]
abbrev nt:List PySem.Str:=["_law_now","_law_book","_law_words_here","_law_cell"]
abbrev nT:List PySem.Str:=["_law_game","_law_now","_law_book","_law_deed_here"]
abbrev n7:List PySem.Str:=["_law_cell","_law_many"]
abbrev oa:List PySem.Str:=["_law_now","_law_parts_here","_law_deed_here"]
abbrev oo:List PySem.Str:=["rows","row","column"]
abbrev oA:List PySem.Str:=["board","worths","bonus","laying"]
abbrev pa:List PySem.Str:=["_law_now","_law_words_here","_law_cell"]
abbrev pc:List PySem.Str:=["stand","turn","size","laying","points"]
abbrev pu:List PySem.Str:=["self","laying"]
abbrev rb:List PySem.Str:=["_law_rack","_law_letter","_law_cell"]
abbrev re:List PySem.Str:=["board","thing"]
abbrev rh:List PySem.Str:=["row","column","sign"]
abbrev rj:List PySem.Str:=["things","place","thing"]
abbrev rl:List PySem.Str:=["self","row","column","way"]
abbrev rn:List PySem.Str:=["board","worths","laying","word"]
abbrev ro:List PySem.Str:=["_law_script","_law_k"]
abbrev rS:List PySem.Str:=["_law_cell","_law_rows_here"]
abbrev rV:List PySem.Str:=["rows","marks","begin"]
abbrev rX:List PySem.Str:=["_law_cell"]
abbrev r_:List PySem.Str:=["self","words"]
abbrev sd:List PySem.Str:=["row","column","sign","laying"]
abbrev se:List PySem.Str:=["row","column"]
abbrev sf:List PySem.Str:=["board","book","laying"]
abbrev sg:List PySem.Str:=["board","row","column"]
abbrev sh:List PySem.Str:=["stand","turn","tiles"]
abbrev si:List PySem.Str:=["self","deed"]
abbrev sj:List PySem.Str:=["_law_script"]
abbrev sk:List PySem.Str:=["_law_game","_law_now"]
abbrev sq:List PySem.Str:=["rack","laying"]
abbrev sr:List PySem.Str:=["rack","signs"]
abbrev sv:List PySem.Str:=["bonus","laying"]
abbrev sw:List PySem.Str:=["self","word"]
abbrev sQ:List PySem.Str:=["self","tile"]
abbrev s_:List PySem.Str:=["self","text"]
abbrev tf:List PySem.Str:=["rows","column"]
abbrev tj:List PySem.Str:=["worths","sign"]
abbrev tm:List PySem.Str:=["rows","thing"]
abbrev tq:List PySem.Str:=["word","place"]
abbrev tz:List PySem.Str:=["_law_parts_here"]
abbrev tF:PySem.Str:="column"
abbrev tI:PySem.Str:="_law_cell"
abbrev tJ:PySem.Str:="board"
abbrev tN:PySem.Str:="laying"
abbrev tP:PySem.Str:="sign"
abbrev tS:PySem.Str:="_law_stream"
abbrev t6:PySem.Str:="worths"
abbrev t7:PySem.Str:="_law_rack"
abbrev t9:PySem.Str:="_law_letters_here"
abbrev ua:PySem.Str:="_law_words_here"
abbrev ub:PySem.Str:="_law_tiles_here"
abbrev ue:PySem.Str:="_law_taken"
abbrev ui:PySem.Str:="_law_rows_here"
abbrev uj:PySem.Str:="_law_first_lacking"
namespace L2
open PySem
def Ey (h:Runs M Γ p t fs s e s'):s.toks<=s'.toks:=by
 induction h with| done|raise|yield=>show ax _| fresh _ ih=>show b8 (kS _) ih| again _ _ ih|rule _ ih|«at» _ ih|load _ _ ih|update _ _ ih|loadIfAlive _ ih|point _ ih|alloc _ ih|ask _ ih|choose _ _ ih|os _ ih|handled _ ih|genState _ _ ih|stack _ ih|thread _ ih|newGen _ ih=>show ih| call _ _ ih1 ih2=>show b8 ih1 ih2| callSusp _ ih=>show ih| resumeFresh _ _ _ _ ih1 ih2=>show b8 ih1 ih2| resumeSuspended _ _ _ _ ih1 ih2=>show b8 ih1 ih2| resumeJustStarted _ _ _ ih=>show ih| resumeThrowFresh _ _ ih=>show ih| resumeRunning _ _ ih=>show ih| resumeFinished _ _ ih=>show ih| segRet _ _ ih1 ih2=>show b8 ih1 ih2| segGen _ _ ih1 ih2=>show b8 ih1 ih2| segSuspOut _ _ ih=>show ih| segSuspGen _ _ _ _ ih1 ih2=>show b8 ih1 ih2
def aai (h:Wakes M Γ p g r s res s'):s.toks<=s'.toks:=by
 unfold Wakes at h;split at h;.show h.elim
 .split at h
  .let⟨e,s1,hr,_,_,rfl⟩:=h;let z:=Ey hr;show z
  .let⟨_,rfl⟩:=h;show ax _
  .let⟨_,rfl⟩:=h;show ax _
 .let⟨e,s1,hr,_,_,rfl⟩:=h;let z:=Ey hr;show z
 .let⟨_,rfl⟩:=h;show ax _
 .let⟨_,rfl⟩:=h;show ax _
def ajD {α:Type}{M:Model}{Γ:Ctx}(t:Sem α)(n:Nat){Q:α->Pos->Shared->Prop}{E:Value->Pos->Shared->Prop}(p:Pos)(s:Shared)(hn:n<=s.toks)(h:Sem.wp M Γ t (λa p s=>n<=s.toks->Q a p s) (λe p s=>n<=s.toks->E e p s) p s):Sem.wp M Γ t Q E p s:=by
 revert h
 induction t generalizing p s with| pure x=>show λh=>h hn| raise v=>show λh=>h hn| unsupported|finish|yield|fork|await|register=>show id| fresh k ih=>show ih _ _ _ (b8 hn (kS _))| rule _ k ih|«at» _ k ih|alloc _ k ih|loadIfAlive _ k ih|point _ k ih|ask k ih|os _ _ k ih|handled _ k ih|newGen _ k ih|stack k ih|thread k ih=>show ih _ _ _ hn| load a _ k ih|genState a k ih=>show λ⟨o,D,h⟩=>⟨o,D,ih _ _ _ hn h⟩| update a _ f k ih|choose _ _ k ih=>show λ⟨ha,h⟩=>⟨ha,ih _ _ _ hn h⟩| call c h g l k ih=>show λ⟨r,s',hr,j⟩=>⟨r,s',hr,ih _ _ _ (b8 hn (Ey hr)) j⟩| resume g r l k ih=>show λ⟨res,s',hw,h⟩=>⟨res,s',hw,ih _ _ _ (b8 hn (aai hw)) h⟩
def Tv {α:Type}{t:Sem α}{Q:α->Shared->Prop}{s:Shared}(h:wpAny M A t (λa s'=>s.toks<=s'.toks->Q a s') (λe s'=>s.toks<=s'.toks->E e s') s):wpAny M A t Q E s:=λΓ p hΓ=>ajD t s.toks p s (ax _) (h Γ p hΓ)
end L2
namespace L2
open PySem PySem.Spec PyProof.Rows
abbrev Key:=Sum Int Str
def Cv:Key->Value->Bool
 | .inl k,v=>Value.isInt k v
 | .inr x,v=>Value.isStrOf x v
def akA (w:World):Key->Int
 | .inl k=>hashInt k
 | .inr x=>hashStr w x
theorem jM:∀{k:Key} {v:Value},Cv k v=true->(∃i t,k=Sum.inl i/\v=Value.int i t)\/(∃x t,k=Sum.inr x/\v=Value.str x t)
 | .inl i,v,h=>by let⟨t,e⟩:=Value.isInt_shape (k:=i) (v:=v) h;show .inl ⟨i,t,rL,e⟩
 | .inr x,v,h=>by let⟨t,e⟩:=Value.isStrOf_shape (x:=x) (v:=v) h;show .inr ⟨x,t,rL,e⟩
def abP (i)(t:Tok):Cv (.inl i) (.int i t)=true:=by simp[Cv,Value.isInt]
def abQ (x)(t:Tok):Cv (.inr x) (.str x t)=true:=by simp[Cv,Value.isStrOf]
def ahB (a b):decide ((Sum.inl a:Key)=Sum.inl b)=(a==b):=by
 by_cases e:a=b;.subst e;simp
 .let h:¬(Sum.inl a:Key)=Sum.inl b:=λq=>e (Sum.inl.inj q)
  rw[af h];show(beq_eq_false_iff_ne.mpr e).symm
def ahC (a b):decide ((Sum.inr a:Key)=Sum.inr b)=decide (a=b):=by
 by_cases e:a=b;.subst e;simp
 .let h:¬(Sum.inr a:Key)=Sum.inr b:=λq=>e (l_ q)
  rw[af h,af e]
def ahD (a)(b):decide ((Sum.inl a:Key)=Sum.inr b)=false:=af (λq=>nomatch q)
def ahE (a)(b):decide ((Sum.inr a:Key)=Sum.inl b)=false:=af (λq=>nomatch q)
noncomputable def jf (prog:Program)(w:World):PySem.KeyKind prog w Key where
 is:=Cv
 hash:=akA w
 inj:=λv a b ha hb=>by
  rcases jM ha with⟨i,t,rfl,rfl⟩|⟨x,t,rfl,rfl⟩
  .rcases jM hb with⟨j,u,rfl,e⟩|⟨y,u,rfl,e⟩
   .injection e with e1 _;rw[e1]
   .show nomatch e
  .rcases jM hb with⟨j,u,rfl,e⟩|⟨y,u,rfl,e⟩;.show nomatch e
   .injection e with e1 _;rw[e1]
 byValue:=λk v h=>by rcases jM h with⟨i,t,rfl,rfl⟩|⟨x,t,rfl,rfl⟩ <;> rfl
 pyHash:=λhv h=>by
  rcases jM hv with⟨i,t,rfl,rfl⟩|⟨x,t,rfl,rfl⟩;.show wpAny_pyHash_int h
  .show wpAny_pyHash_str h
 eqBool:=λD hv h=>by
  rcases jM D with⟨i,t,rfl,rfl⟩|⟨x,t,rfl,rfl⟩
  .rcases jM hv with⟨j,u,rfl,rfl⟩|⟨y,u,rfl,rfl⟩;.rw[ahB]at h;show wpAny_eqBool_int h
   .rw[ahD]at h;show SeqAt.EqAt.int_str i t y u _ _ _ _ h
  .rcases jM hv with⟨j,u,rfl,rfl⟩|⟨y,u,rfl,rfl⟩;.rw[ahE]at h;show SeqAt.EqAt.str_int x t j u _ _ _ _ h
   .rw[ahC]at h;show wpAny_eqBool_str h
 «strs»:=λk x t v h=>by
  rcases jM h with⟨i,u,rfl,e⟩|⟨y,u,rfl,e⟩;.show nomatch e
  .injection e with e1 _;subst e1;cases v <;> rfl
def Xw (prog)(w)(i)(t:Tok):(jf prog w).is (.inl i) (.int i t)=true:=abP i t
def nP (prog)(w)(x)(t:Tok):(jf prog w).is (.inr x) (.str x t)=true:=abQ x t
inductive V where
 | non|bl (b:Bool)|int (i:Int)|str (x:Str)|Em (b:Array UInt8)|flt (b:UInt64)|ref (a:Addr)|ty (n:String)
 deriving DecidableEq
def cW:V->Value->Prop
 | .non,u=>u=Value.none
 | .bl b,u=>u=Value.bool b
 | .int i,u=>∃t,u=Value.int i t
 | .str x,u=>∃t,u=Value.str x t
 | .Em b,u=>∃t,u=Value.bytes b t
 | .flt b,u=>∃t,u=Value.float b t
 | .ref a,u=>u=Value.ref a
 | .ty n,u=>u=Value.type n
abbrev Vals:List V->List Value->Prop:=Paired cW
def Vals.length (r:Vals xs us):xs.length=us.length:=Paired.length r
theorem Vals.get:∀{xs:List V} {us:List Value} {i:Nat} {x:V},Vals xs us->xs[i]?=some x->∃u,us[i]?=some u/\cW x u
 | _,_,_,_,.nil,e=>by simp at e
 | _,_,0,_,.cons r _,e=>by simp at e;subst e;show⟨_,rL,r⟩
 | _,_,i+1,x,.cons _ t,e=>by let⟨u,h1,h2⟩:=Vals.get (i:=i) (x:=x) t (by simpa using e);show⟨u,by simpa using h1,h2⟩
theorem Vals.set (r:cW x u):∀{xs:List V} {us:List Value} (i:Nat),Vals xs us->Vals (xs.set i x) (us.set i u)
 | _,_,_,.nil=>.nil
 | _,_,0,.cons _ t=>.cons r t
 | _,_,i+1,.cons q t=>.cons q (Vals.set r i t)
theorem Vals.append:∀{xs ys:List V} {us ws:List Value},Vals xs us->Vals ys ws->Vals (xs++ys) (us++ws)
 | _,_,_,_,.nil,s=>s
 | _,_,_,_,.cons r t,s=>.cons r (Vals.append t s)
theorem Vals.take:∀{xs:List V} {us:List Value} (n:Nat),Vals xs us->Vals (xs.take n) (us.take n)
 | _,_,0,_=>.nil
 | _,_,_+1,.nil=>.nil
 | _,_,n+1,.cons r t=>.cons r (Vals.take n t)
theorem Vals.drop:∀{xs:List V} {us:List Value} (n:Nat),Vals xs us->Vals (xs.drop n) (us.drop n)
 | _,_,0,r=>r
 | _,_,_+1,.nil=>.nil
 | _,_,n+1,.cons _ t=>Vals.drop n t
def nQ:Option V->Option Value->Prop
 | some v,some u=>cW v u
 | none,none=>True
 | _,_=>False
def KV {κ:Type}:List (κ×V)->List (κ×Value)->Prop:=Paired λ(p:κ×V) (q:κ×Value)=>p.1=q.1/\cW p.2 q.2
def kV:Key->V
 | .inl i=>.int i
 | .inr x=>.str x
inductive HO where
 | lst (xs:List V)
 | tup (xs:List V)
 | dK (kvs:List (Key×V))|dT (kvs:List (List Key×V))
 | set (S:Int->Bool) (n:Nat)
 | ins (C dx:Addr) (fs:List (Str×V))
 | own (x:Addr)
 | xd (fs:List (Str×V))
 | met (f x:Addr)
 | rng (lo hi:Int)
 | rO (o:Obj) (u:HO)
 | Qk (ps:Array Value)
 | ext (φ:Heap->Prop)
abbrev Hp:=Addr->Option HO
def upd (H:Hp)(a:Addr)(o:HO):Hp:=λb=>if b=a then some o else H b
def aA:upd H a o a=some o:=by unfold upd;rw[if_pos rfl]
def bw (h:b≠a):upd H a o b=H b:=by unfold upd;rw[if_neg h]
def Yt:upd (upd H a o) a u=upd H a u:=by funext b;unfold upd;split <;> rfl
def Cw {H:Hp}{a b:Addr}{o u:HO}(h:H a=some o)(h':H b=some u)(d:o≠u):a≠b:=by intro e;subst e;rw[h]at h';show d (bq h')
def bL {H:Hp}{a b:Addr}{o:HO}(h:H a=some o)(h':H b=none):a≠b:=by intro e;subst e;rw[h]at h';cases h'
section
variable (P:Program)(w:World)
def ig (H:Hp)(h:Heap)(a:Addr):HO->Prop
 | .lst xs=>xs.length<=sizeLine/\∃(its:List Value) (n:Nat),Vals xs its/\h.get? a=some {cls:=.type "list",data:=.seq its.toArray n}
 | .tup xs=>xs.length<=sizeLine/\∃its:List Value,Vals xs its/\IsTup h a its.toArray
 | .dK kvs=>kvs.length<=sizeLine/\(a==sysModules)=false/\∃vs,KV kvs vs/\h.DictOf (jf P w) a vs
 | .dT kvs=>kvs.length<=sizeLine/\(a==sysModules)=false/\∃xs:List (List Key×Addr×Value),
   Paired (λ(p:List Key×V) (q:List Key×Addr×Value)=>p.1=q.1/\H q.2.1=some (.tup (p.1.map kV))/\cW p.2 q.2.2) kvs xs/\
   ∃o es ep,h.get? a=some o/\o.ExactDict/\o.data=.dict es ep/\es.toList=xs.map (entryOfKey (tupleKind (jf P w)))/\(xs.map (·.1)).Nodup
 | .set S n=>h.SetOf (intKind P w) a S n
 | .ins C dx fs=>H dx=some (.own a)/\fs.length<=1000/\dx≠a/\h.get? a=some (W.instObj C dx)/\
   ∃mA,h.Ns1 dx mA/\(∀f,nQ (fs.lookup f) (mA f))/\PySem.Within mA (fs.map (·.1))
 | .own _=>∃o,h.get? a=some o
 | .xd fs=>∃mA,h.Ns1 a mA/\∀f,nQ (fs.lookup f) (mA f)
 | .rng lo hi=>∃t u v,h.get? a=some {cls:=.type "range",data:=.fields #[.int lo t,.int hi u,.int 1 v]}
 | .rO o u=>h.get? a=some o/\ig H h a u
 | .Qk ps=>h.get? a=some {cls:=.none,data:=.fields ps}
 | .met f x=>h.get? a=some (W.methodObj (.ref f) (.ref x))
 | .ext φ=>φ h/\(∃o,h.get? a=some o)/\∀h1 h2:Heap,φ h1->(∀o,h1.get? a=some o->h2.get? a=some o)->φ h2
def lX (H:Hp)(h:Heap):Prop:=∀a o,H a=some o->ig P w H h a o
end
section
variable {P:Program}{w:World}{H H':Hp}{h h':Heap}{a:Addr}{o:HO}
def ig.lt (x:ig P w H h a o):a<h.objs.size:=by
 cases o with
 | lst xs=>let⟨_,_,_,_,e⟩:=x;show a_ e
 | tup xs=>let⟨_,_,_,p⟩:=x;show p.lt
 | dK kvs=>let⟨_,_,_,_,o,_,_,e,_⟩:=x;show a_ e
 | dT kvs=>let⟨_,_,_,_,o,_,_,e,_⟩:=x;show a_ e
 | set S n=>let⟨o,_,_,_,e,_⟩:=x;show a_ e
 | ins C dx fs=>let⟨_,_,_,e,_⟩:=x;show a_ e
 | own y=>let⟨_,e⟩:=x;show a_ e
 | xd fs=>obtain⟨_,⟨_,_,_,e,_⟩,_⟩:=x;show a_ e
 | rng lo hi=>let⟨_,_,_,e⟩:=x;show a_ e
 | rO ob u=>let⟨e,_⟩:=x;show a_ e
 | Qk ps=>show a_ (show h.get? a=some _ from x)
 | met f y=>show a_ (show h.get? a=some _ from x)
 | ext φ=>obtain⟨_,⟨_,e⟩,_⟩:=x;show a_ e
theorem Paired.adS {α β:Type}{F G:α->β->Prop}:∀{D:List α} {j:List β},Paired F D j->(∀a b,F a b->G a b)->Paired G D j
 | _,_,.nil,_=>.nil
 | _,_,.cons r t,f=>.cons (f _ _ r) (Paired.adS t f)
def ig.stay (x:ig P w H h a o)(k:∀b u,(b=a\/H b=some (.own a))->h.get? b=some u->h'.get? b=some u)(j:∀b,H b=some (.own a)->H' b=some (.own a))(ht:∀b xs,H b=some (.tup xs)->H' b=some (.tup xs)):ig P w H' h' a o:=by
 induction o with
 | lst xs=>let⟨z,its,n,r,e⟩:=x;show⟨z,its,n,r,k _ _ (.inl rL) e⟩
 | tup xs=>let⟨z,its,r,ob,e,c⟩:=x;show⟨z,its,r,ob,k _ _ (.inl rL) e,c⟩
 | dK kvs=>let⟨z,y,vs,r,ob,es,ep,e,c⟩:=x;show⟨z,y,vs,r,ob,es,ep,k _ _ (.inl rL) e,c⟩
 | dT kvs=>let⟨z,y,xs,r,ob,es,ep,e,c⟩:=x;show⟨z,y,xs,Paired.adS r λp q z=>⟨z.1,ht _ _ z.2.1,z.2.2⟩,ob,es,ep,k _ _ (.inl rL) e,c⟩
 | set S n=>let⟨ob,es,ep,t,e,c⟩:=x;show⟨ob,es,ep,t,k _ _ (.inl rL) e,c⟩
 | ins C dx fs=>obtain⟨d,z,ne,e,mA,⟨od,es,ep,e2,c⟩,r⟩:=x;show⟨j _ d,z,ne,k _ _ (.inl rL) e,mA,⟨od,es,ep,k _ _ (.inr d) e2,c⟩,r⟩
 | own y=>let⟨ob,e⟩:=x;show⟨ob,k _ _ (.inl rL) e⟩
 | xd fs=>obtain⟨mA,⟨od,es,ep,e,c⟩,r⟩:=x;show⟨mA,⟨od,es,ep,k _ _ (.inl rL) e,c⟩,r⟩
 | rng lo hi=>let⟨t,u,v,e⟩:=x;show⟨t,u,v,k _ _ (.inl rL) e⟩
 | rO ob u ih=>let⟨e,q⟩:=x;show⟨k _ _ (.inl rL) e,ih q⟩
 | Qk ps=>have e:h.get? a=some {cls:=.none,data:=.fields ps}:=x;show h'.get? a=some {cls:=.none,data:=.fields ps};show k a _ (.inl rL) e
 | met f y=>have e:h.get? a=some (W.methodObj (.ref f) (.ref y)):=x;show h'.get? a=some (W.methodObj (.ref f) (.ref y));show k a _ (.inl rL) e
 | ext φ=>obtain⟨p,⟨o,e⟩,st⟩:=x;show⟨st _ _ p λo q=>k _ _ (.inl rL) q,⟨o,k _ _ (.inl rL) e⟩,st⟩
def lX.lt (x:lX P w H h)(e:H a=some o):a<h.objs.size:=(x a o e).lt
def lX.fresh (x:lX P w H h)(e:h.objs.size<=a):H a=none:=by
 cases q:H a with| none=>rfl| some u=>show absurd (cS (x.lt q) e) (fw _)
def lX.kept (x:lX P w H h)(k:∀b u,h.get? b=some u->h'.get? b=some u):lX P w H h':=λa o e=>(x a o e).stay (λb u _ q=>k b u q) (λ_ q=>q) λ_ _ q=>q
def lX.laid (x:lX P w H h)(k:∀b u,h.get? b=some u->h'.get? b=some u)(hp:h.objs.size<=a)(new:ig P w (upd H a o) h' a o):lX P w (upd H a o) h':=λb u e=>by
 let hn:=x.fresh hp;by_cases hb:b=a;.subst hb;rw[aA]at e;cases e;show new
 .rw[bw hb]at e;show(x b u e).stay (λc v _ q=>k c v q) (λc q=>by rw[bw (bL q hn)];show q) λc xs q=>by rw[bw (bL q hn)];show q
end
def Rd (H:Hp)(a:Addr)(u:HO):Prop:=H a=some u\/∃o,H a=some (.rO o u)
def Rd.of (h:H a=some u):Rd H a u:=.inl h
def Rd.ok (r:Rd H a u)(x:lX P w H h):ig P w H h a u:=by
 rcases r with r|⟨o,r⟩;.show x a u r
 .let⟨_,q⟩:=x a _ r;show q
def Mut:Option HO->Prop
 | some (.lst _)=>True
 | some (.dK _)=>True
 | some (.dT _)=>True
 | some (.set _ _)=>True
 | some (.ins _ _ _)=>True
 | some (.ext _)=>True
 | _=>False
section
variable {P:Program}{w:World}{H:Hp}{h h':Heap}{x e:Addr}{o':HO}
def lX.write (ok:lX P w H h)(D:Mut (H x))(Y:e=x\/H e=some (.own x))(k:∀b u,b≠e->h.get? b=some u->h'.get? b=some u)(I:∃u,h'.get? e=some u)(new:ig P w (upd H x o') h' x o'):lX P w (upd H x o') h':=λb u q=>by
 let F:∀c y,H c=some (.own y)->c≠x:=λc y r z=>by subst z;rw[r]at D;show D
 let J:∀c xs,H c=some (.tup xs)->c≠x:=λc xs r z=>by subst z;rw[r]at D;show D
 by_cases hb:b=x;.subst hb;rw[aA]at q;cases q;show new
 .rw[bw hb]at q;by_cases j:b=e
  .let O:H b=some (.own x):=by
    rcases Y with z|z;.show absurd (j.trans z) hb
    .rw[j];show z
   rw[q]at O;cases O;let⟨v,hv⟩:=I;show⟨v,by rw[j];show hv⟩
  .refine(ok b u q).stay (λc v G r=>k c v ?_ r) (λc r=>by rw[bw (F c b r)];show r) λc xs r=>by rw[bw (J c xs r)];show r
   rcases G with rfl|G;.show j
   .rintro rfl;rcases Y with z|z;.show F c b G z
    .rw[G]at z;cases z;show hb rfl
end
structure Un (fs ex:List Addr)(H H':Hp)(h h':Heap):Prop where
 keep:∀b o,h.get? b=some o->H b=none->b∉fs->b∉ex->h'.get? b=some o
 slot:∀b o,h.get? b=some o->H b=none->b∈fs->b∉ex->∃sl,h'.get? b=some {o with slots:=sl}
 free:∀b o,h.get? b=some o->H b=none->b∉ex->H' b=none
 there:∀b o,h.get? b=some o->b∉ex->∃o',h'.get? b=some o'
 tups:∀b xs,H b=some (.tup xs)->H' b=some (.tup xs)
 rK:∀b o u,H b=some (.rO o u)->H' b=some (.rO o u)
 tG:∀b ps,H b=some (.Qk ps)->∃more,H' b=some (.Qk (ps++more))
section
variable {fs ex:List Addr}{H H1:Hp}{h h1 h':Heap}{a x e:Addr}{o:HO}
def Un.any (u:Un fs ex H H1 h h1)(q:h.get? b=some ob)(n:H b=none)(hx:b∉ex):∃sl,h1.get? b=some {ob with slots:=sl}:=by
 by_cases hb:b∈fs;.show u.slot b ob q n hb hx
 .show⟨ob.slots,u.keep b ob q n hb hx⟩
def Un.kept (k:∀b u,h.get? b=some u->h'.get? b=some u):Un fs ex H H h h':=⟨λb ob q _ _ _=>k b ob q,λb ob q _ _ _=>⟨ob.slots,k b ob q⟩,λ_ _ _ n _=>n,λb ob q _=>⟨ob,k b ob q⟩,λ_ _ q=>q,λ_ _ _ q=>q,λ_ ps q=>⟨#[],by rw[q];simp⟩⟩
def Un.refl:Un fs ex H H h h:=Un.kept λ_ _ q=>q
def Un.laid (k:∀b u,h.get? b=some u->h'.get? b=some u)(hp:h.objs.size<=a)(hn:H a=none):Un fs ex H (upd H a o) h h' where
 keep:=λb u q _ _ _=>k b u q
 slot:=λb u q _ _ _=>⟨u.slots,k b u q⟩
 free:=λb u q n _=>by rw[bw (cv (cS (a_ q) hp))];show n
 there:=λb u q _=>⟨u,k b u q⟩
 tups:=λb xs q=>by rw[bw (bL q hn)];show q
 rK:=λb u xs q=>by rw[bw (bL q hn)];show q
 tG:=λb ps q=>⟨#[],by rw[bw (bL q hn),q];simp⟩
def Un.write (D:Mut (H x))(G:e=x\/H e=some (.own x))(k:∀b u,b≠e->h.get? b=some u->h'.get? b=some u)(F:∃u,h'.get? e=some u):Un fs ex H (upd H x o) h h':=by
 let hx:∀b,H b=none->b≠x:=λb n z=>by subst z;rw[n]at D;show D
 let hb:∀b,H b=none->b≠e:=λb n z=>by
  subst z;rcases G with r|r;.show hx b n r
  .rw[n]at r;cases r
 let hm:∀b u,H b=some u->¬Mut (some u)->b≠x:=λb u q nm z=>by subst z;rw[q]at D;show nm D
 refine⟨λb u q n _ _=>k b u (hb b n) q,λb u q n _ _=>⟨u.slots,k b u (hb b n) q⟩,λb u q n _=>by rw[bw (hx b n)];show n,λb u q _=>?_,
  λb xs q=>by rw[bw (hm b _ q λz=>z)];show q,λb u xs q=>by rw[bw (hm b _ q λz=>z)];show q,λb ps q=>⟨#[],by rw[bw (hm b _ q λz=>z),q];simp⟩⟩
 by_cases j:b=e;.subst j;show F
 .show⟨u,k b u j q⟩
end
def Ql (h:Heap)(H:Hp):List Addr:=(List.range h.objs.size).filter λa=>(H a).isSome
def Cy (h:Heap)(H:Hp):Heap:=W.hideAll h (Ql h H)
def abR (h)(H):(Cy h H).objs.size=h.objs.size:=W.hideAll_size _ _
def adT {h:Heap}(e:h.get? b=some o)(n:H b=none):(Cy h H).get? b=some o:=
 W.hideAll_get _ e λhm=>by let q:(H b).isSome=true:=(js.mp hm).2;rw[n]at q;simp at q
def afY (e:(Cy h H).get? b=some o):h.get? b=some o/\H b=none:=by
 let j:h.get? b=some o:=W.of_hideAll (Ql h H) e;calc⟨j,?_⟩;cases q:H b with| none=>rfl| some x=>have hm:b∈Ql h H:=js.mpr ⟨fE.mpr (a_ j),by simp[q]⟩;let z:(Cy h H).get? b=none:=W.hideAll_none (Ql h H) hm;rw[z]at e;cases e
structure Mod (K:W.Frag)(mg:Str->Option Value)(base:Heap):Prop where
 En:K.In base
 glob:base.Ns mainGlobals mg
 blt:∃mb,base.Ns builtinsNs mb/\∀x:Str,x≠"__name__"->mb x=bootBuiltins x
 nolimit:base.NoLimit
structure Cx where
 prog:Program
 w:World
 K:W.Frag
 mg:Str->Option Value
 base:Heap
 A:Around
 N:List Str
 s₀:Shared
 H₀:Hp
 env:Env
 outer:List Env
 stack:List Env
 ex:List Addr
 fn:Str->Bool
 calm:Bool
 pn:List (Addr×Obj)
 xe:Value->Shared->Prop
def frs (l:List Env):List Addr:=l.filterMap (·.frame)
abbrev Cx.fs (X:Cx):List Addr:=frs X.outer
def Vis (sc:Scope)(x:Str):Prop:=sc.names.lookup x=some .local\/sc.names.lookup x=some .cell\/sc.names.lookup x=some .free
def Loc (sc:Scope)(x:Str):Prop:=sc.names.lookup x=some .local\/sc.names.lookup x=some .cell
def Look (env:Env)(h:Heap)(m:Str->Option Value)(x:Str)(u:Value):Prop:=(env.kindOf x=some .local/\m x=some u)\/((env.kindOf x=some .cell\/env.kindOf x=some .free)/\∃c,env.cells.lookup x=some c/\h.IsCell c (some u))
structure Cx.Ok (X:Cx):Prop where
 mod:Mod X.K X.mg X.base
 kind:X.env.scope.kind=.function
 glob:X.env.globals=mainGlobals
 blt:X.env.builtins=builtinsNs
 above:X.s₀.heap.objs.size<=X.env.locals
 inj:∀x y c,X.env.cells.lookup x=some c->X.env.cells.lookup y=some c->x=y
 has:∀x,(X.env.kindOf x=some .cell\/X.env.kindOf x=some .free)->∃c,X.env.cells.lookup x=some c
 cab:∀x c,X.fn x=true->X.env.cells.lookup x=some c->X.s₀.heap.objs.size<=c
 hd:X.calm=true->X.A.handled=none
 frames:X.A.frames=some X.stack
 stk:X.stack=X.outer\/(X.stack=X.env::X.outer/\X.env.frame=some X.env.locals)
 Yu:∀b∈X.ex,b≠X.env.locals/\∀x c,X.env.cells.lookup x=some c->c≠b
 bs:∀b o,X.base.get? b=some o->X.s₀.heap.get? b=some o/\X.H₀ b=none
 zJ:X.base.objs.size<=X.s₀.heap.objs.size
 Cz:∀b o,X.base.get? b=some o->b∉X.ex
 Ez:∀b∈X.ex,b∉X.fs
 ql:X.s₀.heap.FunFrames X.base X.outer
 Bs:∀b∈X.fs,X.H₀ b=none
structure aX (X:Cx)(ao:AF)(σ:List (Option V))(H:Hp)(s:Shared):Prop where
 ok:X.Ok
 os:s.os=X.s₀.os
 bare:AllBare s.gens
 base:Un X.fs X.ex X.H₀ H X.s₀.heap s.heap
 loc:∃m,s.heap.Ns X.env.locals m/\∀(i:Nat) (x:Str) (v:V),X.N[i]?=some x->σ[i]?=some (some v)->Vis X.env.scope x->∃u,cW v u/\Look X.env s.heap m x u
 cell:∀x c,X.env.cells.lookup x=some c->∃v,s.heap.IsCell c v
 free:H X.env.locals=none
 mZ:∀x c,X.env.cells.lookup x=some c->H c=none
 pin:∀p∈X.pn++ao,s.heap.get? p.1=some p.2/\H p.1=none/\p.1≠X.env.locals/\p.1∉X.fs/\∀v,p.2.data≠.cell v
 hok:lX X.prog X.w H s.heap
 len:σ.length=X.N.length
section
variable {X:Cx}{ao:AF}{σ:List (Option V)}{H H':Hp}{s:Shared}{h':Heap}
def Cx.Ok.akC (ok:X.Ok)(e:X.base.get? b=some o):b∉X.fs:=λhb=>by have:=(ok.ql.mem hb).1;rw[e]at this;cases this
def aX.bs (I:aX X ao σ H s):∀b o,X.base.get? b=some o->s.heap.get? b=some o/\H b=none:=λb o e=>⟨I.base.keep b o (I.ok.bs b o e).1 (I.ok.bs b o e).2 (I.ok.akC e) (I.ok.Cz b o e),I.base.free b o (I.ok.bs b o e).1 (I.ok.bs b o e).2 (I.ok.Cz b o e)⟩
def aX.bk (I:aX X ao σ H s):∀b o,X.base.get? b=some o->s.heap.get? b=some o:=λb o e=>(I.bs b o e).1
def aX.mod (I:aX X ao σ H s):Mod X.K X.mg X.base:=I.ok.mod
def aX.je (I:aX X ao σ H s):X.K.In s.heap:=I.ok.mod.En.keeps I.bk
def aX.lt (I:aX X ao σ H s):X.env.locals<s.heap.objs.size:=let ⟨_,hn,_⟩:=I.loc;hn.lt
def aX.sz (I:aX X ao σ H s):X.s₀.heap.objs.size<=s.heap.objs.size:=b8 I.ok.above (ap I.lt)
def aX.akD (I:aX X ao σ H s){a:Addr}(h:s.heap.objs.size<=a):a∉X.fs:=λhb=>by let⟨_,o,j,_⟩:=I.ok.ql.mem hb;show absurd (cS (a_ j) (b8 I.sz h)) (fw _)
def aX.Jp (I:aX X ao σ H s):∀x c,X.env.cells.lookup x=some c->c≠X.env.locals:=λx c e z=>by let⟨v,o,F,hd⟩:=I.cell x c e;obtain⟨m,⟨o',es,ep,j,D,_⟩,_⟩:=I.loc;rw[z,j]at F;cases F;rw[D]at hd;cases hd
def aX.ql (I:aX X ao σ H s):s.heap.FunFrames X.base X.outer:=by
 let all:∀(l:List Env),(∀b∈frs l,b∈X.fs)->X.s₀.heap.FunFrames X.base l->s.heap.FunFrames X.base l:=by
  intro l
  induction l with| nil=>intro _ _;trivial| cons env r ih=>intro hs hl;obtain⟨F,⟨L,o,D,hn,G,hd⟩,hr⟩:=hl;let j:L∈X.fs:=hs L (by unfold frs;rw[i9,D];show bS);let⟨sl,e⟩:=I.base.slot L o G (I.ok.Bs L j) j λz=>I.ok.Ez L z j;show⟨F,⟨L,_,D,hn,e,hd⟩,ih (λb hb=>hs b (by unfold frs;rw[i9,D];show bE _ hb)) hr⟩
 show all X.outer (λ_ hb=>hb) I.ok.ql
def aX.stack (I:aX X ao σ H s):s.heap.FunFrames X.base X.stack:=by
 rcases I.ok.stk with e|⟨e,j⟩;.rw[e];show I.ql
 .rw[e];let⟨m,hn,_⟩:=I.loc;calc .cons (by rw[I.ok.kind];decide) j hn ?_ I.ql;show Heap.get?_none_of_le (b8 I.ok.zJ I.ok.above)
def aX.K9 (I:aX X ao σ H s):∀b∈frs X.stack,b∈X.env.locals::X.fs:=λb hb=>by
 rcases I.ok.stk with e|⟨e,j⟩;.rw[e]at hb;show bE _ hb
 .rw[e]at hb;unfold frs at hb;rw[i9,j]at hb;show hb
def aX.Bt (I:aX X ao σ H s):∀b∈frs X.stack,H b=none:=λb hb=>by
 rcases bX.mp (I.K9 b hb) with e|hb;.rw[e];show I.free
 .let⟨_,o,j,_⟩:=I.ok.ql.mem hb;show I.base.free b o j (I.ok.Bs b hb) λz=>I.ok.Ez b z hb
def aX.step {g':Array GenState}{t':Nat}{d':Drawn}{ch:List Addr}(I:aX X ao σ H s)(D:∀b∈ch,(b∈X.ex\/X.s₀.heap.objs.size<=b)/\b≠X.env.locals/\(∀x c,X.env.cells.lookup x=some c->c≠b)/\∀p∈X.pn++ao,p.1≠b)(keep:∀b o,b≠X.env.locals->b∉X.fs->b∉ch->s.heap.get? b=some o->H b=none->h'.get? b=some o)(slot:∀b o,b≠X.env.locals->b∈X.fs->b∉ch->s.heap.get? b=some o->H b=none->∃sl,h'.get? b=some {o with slots:=sl})(free:∀b o,b∉ch->s.heap.get? b=some o->H b=none->H' b=none)(there:∀b o,b∉ch->s.heap.get? b=some o->∃o',h'.get? b=some o')(tups:∀b xs,H b=some (.tup xs)->H' b=some (.tup xs))(rK:∀b o u,H b=some (.rO o u)->H' b=some (.rO o u))(tG:∀b ps,H b=some (.Qk ps)->∃more,H' b=some (.Qk (ps++more)))(ns:∀m,s.heap.Ns X.env.locals m->h'.Ns X.env.locals m)(hok:lX X.prog X.w H' h')(hg:AllBare g'):aX X ao σ H' {s with heap:=h',gens:=g',drawn:=d',toks:=t' }:=by
 let J:∀b o,X.s₀.heap.get? b=some o->b≠X.env.locals:=λb o e=>cv (cS (a_ e) I.ok.above);let O:∀b o,X.s₀.heap.get? b=some o->b∉X.ex->b∉ch:=λb o e hx hb=>by
  rcases(D b hb).1 with z|z;.show hx z
  .show absurd (cS (a_ e) z) (fw _)
 let j:∀x c,X.env.cells.lookup x=some c->∀v,s.heap.IsCell c v->h'.IsCell c v:=λx c e v ⟨o,G,hd⟩=>by
  let F:c∉ch:=λz=>(D c z).2.2.1 x c e rfl;by_cases hc:c∈X.fs
  .let⟨sl,q⟩:=slot c o (I.Jp x c e) hc F G (I.mZ x c e);show⟨_,q,hd⟩
  .show⟨o,keep c o (I.Jp x c e) hc F G (I.mZ x c e),hd⟩
 calc⟨I.ok,I.os,hg,⟨λb o e n hb hx=>?_,λb o e n hb hx=>?_,λb o e n hx=>?_,λb o e hx=>?_,λb xs e=>tups b xs (I.base.tups b xs e),λb o xs e=>rK b o xs (I.base.rK b o xs e),λb ps e=>?_⟩,?_,λx c e=>?_,?_,λx c e=>?_,λp hp=>?_,hok,I.len⟩;.show keep b o (J b o e) hb (O b o e hx) (I.base.keep b o e n hb hx) (I.base.free b o e n hx)
 .let⟨sl,e1⟩:=I.base.slot b o e n hb hx;let⟨Y,e2⟩:=slot b _ (J b o e) hb (O b o e hx) e1 (I.base.free b o e n hx);show⟨Y,e2⟩
 .let⟨o',e1⟩:=I.base.there b o e hx;show free b o' (O b o e hx) e1 (I.base.free b o e n hx)
 .let⟨o',e1⟩:=I.base.there b o e hx;show there b o' (O b o e hx) e1
 .let⟨m1,e1⟩:=I.base.tG b ps e;let⟨m2,e2⟩:=tG b _ e1;show⟨m1++m2,by rw[e2,Array.append_assoc]⟩
 .let⟨m,hn,hl⟩:=I.loc;calc⟨m,ns m hn,λi x v e1 e2 e3=>?_⟩;let⟨u,r,l⟩:=hl i x v e1 e2 e3;calc⟨u,r,?_⟩;rcases l with l|⟨k,c,e,z⟩;.show .inl l
  .show .inr ⟨k,c,e,j x c e _ z⟩
 .let⟨v,z⟩:=I.cell x c e;show⟨v,j x c e v z⟩
 .obtain⟨m,⟨o,_,_,G,_⟩,_⟩:=I.loc;show free _ o (λz=>(D _ z).2.1 rL) G I.free
 .let⟨v,o,G,hd⟩:=I.cell x c e;show free c o (λz=>(D c z).2.2.1 x c e rL) G (I.mZ x c e)
 .let⟨e,n,ne,Z,d⟩:=I.pin p hp;let F:p.1∉ch:=λz=>(D p.1 z).2.2.2 p hp rfl;show⟨keep p.1 p.2 ne Z F e n,free p.1 p.2 F e n,ne,Z,d⟩
def aX.un (I:aX X ao σ H s)(u:Un X.fs [] H H' s.heap h')(hok:lX X.prog X.w H' h'):aX X ao σ H' {s with heap:=h',toks:=t' }:=by
 obtain⟨m,⟨o,es,ep,G,r⟩,_⟩:=id I.loc;let⟨sl,J⟩:=u.any G I.free qo;show I.step (g':=s.gens) (d':=s.drawn) (ch:=[]) (λ_ z=>nomatch z) (λb o _ hb _ e n=>u.keep b o e n hb qo) (λb o _ hb _ e n=>u.slot b o e n hb qo) (λb o _ e n=>u.free b o e n qo) (λb o _ e=>u.there b o e qo) u.tups u.rK u.tG (λY hm=>by let⟨o',D,F,j,O⟩:=hm;rw[G]at j;cases j;show⟨_,D,F,J,O⟩) hok I.bare
def aX.call (I:aX X ao σ H s)(u:Un (frs X.stack) ch H H' s.heap h')(hok:lX X.prog X.w H' h')(hg:AllBare g')(F:∀b∈ch,(b∈X.ex\/X.s₀.heap.objs.size<=b)/\b≠X.env.locals/\(∀x c,X.env.cells.lookup x=some c->c≠b)/\∀p∈X.pn++ao,p.1≠b):aX X ao σ H' {s with heap:=h',gens:=g',drawn:=d',toks:=t' }:=by
 obtain⟨m,⟨o,es,ep,Y,r⟩,_⟩:=id I.loc;let⟨sl,O⟩:=u.any Y I.free λz=>(F _ z).2.1 rfl;show I.step (ch:=ch) F (λb o O hb j e n=>u.keep b o e n (λz=>(bX.mp (I.K9 b z)).elim O hb) j) (λb o _ _ j e n=>u.any e n j) (λb o j e n=>u.free b o e n j) (λb o j e=>u.there b o e j) u.tups u.rK u.tG (λm' hm=>by let⟨o',G,J,D,Z⟩:=hm;rw[Y]at D;cases D;show⟨_,G,J,O,Z⟩) hok hg
def aX.turned (I:aX X ao σ H s)(k:∀b o,b≠it->s.heap.get? b=some o->h'.get? b=some o)(hn:H it=none)(F:it≠X.env.locals)(h1:it∈X.ex\/X.s₀.heap.objs.size<=it)(h2:∀x c,X.env.cells.lookup x=some c->c≠it)(h3:∀p∈X.pn++ao,p.1≠it):aX X ao σ H {s with heap:=h',toks:=t' }:=by
 let D:∀b u,H b=some u->b≠it:=λb u e z=>by rw[z,hn]at e;cases e
 refine I.step (g':=s.gens) (d':=s.drawn) (ch:=[it]) (λb hb=>?_) (λb o _ _ j e _=>k b o (λz=>j (by simp[z])) e) (λb o _ _ j e _=>⟨o.slots,k b o (λz=>j (by simp[z])) e⟩) (λ_ _ _ _ n=>n)
  (λb o j e=>⟨o,k b o (λz=>j (by simp[z])) e⟩) (λ_ _ e=>e) (λ_ _ _ e=>e) (λb ps e=>⟨#[],by rw[e];simp⟩) (λm hm=>?_) (λb u e=>?_) I.bare
 .let e:b=it:=by simpa using hb
  subst e;show⟨h1,F,h2,h3⟩
 .let⟨o,es,ep,G,r⟩:=hm;show⟨o,es,ep,k _ o (gm F) G,r⟩
 .refine(I.hok b u e).stay (λc v j q=>k c v ?_ q) (λ_ q=>q) λ_ _ q=>q
  rcases j with z|z;.rw[z];show D b u e
  .show D c _ z
def aX.tok (I:aX X ao σ H s)(t):aX X ao σ H {s with toks:=t}:=I.un (h':=s.heap) (t':=t) Un.refl I.hok
def aX.kept (I:aX X ao σ H s)(k:∀b u,s.heap.get? b=some u->h'.get? b=some u):aX X ao σ H {s with heap:=h',toks:=t' }:=I.un (Un.kept k) (I.hok.kept k)
def aX.laid {a:Addr}{o:HO}{t':Nat}(I:aX X ao σ H s)(k:∀b u,s.heap.get? b=some u->h'.get? b=some u)(hp:s.heap.objs.size<=a)(new:ig X.prog X.w (upd H a o) h' a o):aX X ao σ (upd H a o) {s with heap:=h',toks:=t' }:=I.un (Un.laid k hp (I.hok.fresh hp)) (I.hok.laid k hp new)
def aX.write (I:aX X ao σ H s)(F:Mut (H x))(D:e=x\/H e=some (.own x))(k:∀b u,b≠e->s.heap.get? b=some u->h'.get? b=some u)(j:∃u,h'.get? e=some u)(new:ig X.prog X.w (upd H x o) h' x o):aX X ao σ (upd H x o) {s with heap:=h',toks:=t' }:=I.un (Un.write F D k j) (I.hok.write F D k j new)
def aX.Yv (I:aX X ao σ H s)(h:∀p∈Ia,s.heap.get? p.1=some p.2/\H p.1=none/\p.1≠X.env.locals/\p.1∉X.fs/\∀v,p.2.data≠.cell v):aX X Ia σ H s:=⟨I.ok,I.os,I.bare,I.base,I.loc,I.cell,I.free,I.mZ,λp hp=>(be.mp hp).elim (λz=>I.pin p (mP _ z)) (h p),I.hok,I.len⟩
def JF {N:List Str}(D:N.Nodup){i j:Nat}{x:Str}(a:N[i]?=some x)(b:N[j]?=some x):i=j:=by let⟨h1,e1⟩:=ah.mp a;let⟨h2,e2⟩:=ah.mp b;show(List.getElem_inj D).mp (e1.trans e2.symm)
def Qn (I:aX X ao σ H s)(hN:X.N.Nodup)(hi:X.N[i]?=some x)(hx:Loc X.env.scope x)(r:cW v u)(h:∀s',aX X ao (σ.set i (some v)) H s'->(∃a,Heap.SameBut a s.heap s'.heap/\(a=X.env.locals\/X.env.cells.lookup x=some a))->(∃m,s'.heap.Ns X.env.locals m/\Look X.env s'.heap m x u)->Q () s')(hf:X.fn x=true\/X.env.scope.names.lookup x=some .local:=by first|show .inl rfl|show .inr rfl|assumption):wpAny M A (storeName X.env x u) Q E s:=by
 let⟨m,hn,hl⟩:=id I.loc;let Z:(X.env.scope.kind == .class||(X.env.scope.kind == .module&&X.env.locals != X.env.globals))=false:=by rw[I.ok.kind];rfl
 let hiσ:i<σ.length:=by rw[I.len];show(ah.mp hi).1
 let Jp:=I.Jp;let D:∀{a:Addr} {h':Heap},(∃o,s.heap.get? a=some o/\H a=none)->Heap.SameBut a s.heap h'->lX X.prog X.w H h':=λ{a h'} ha hs b ob e=>by
  let⟨_,_,G⟩:=ha;calc(I.hok b ob e).stay (λc w' F q=>(hs.2 c ?_).trans q) (λ_ q=>q) λ_ _ q=>q;rintro rfl;rcases F with rfl|F
  .rw[G]at e;cases e
  .rw[G]at F;cases F
 rcases hx with hk|hk
 .calc wpAny_storeName_local hk hn (λh' hn' hs=>?_) Z;let⟨oL,_,_,hoL,_⟩:=id hn;calc h _ ⟨I.ok,I.os,I.bare,⟨λb o e n hb hx=>?_,λb o e n hb hx=>?_,I.base.free,λb o e hx=>?_,I.base.tups,I.base.rK,I.base.tG⟩,⟨_,hn',λj y v' e1 e2 e3=>?_⟩,λy c e=>?_,I.free,I.mZ,λp hp=>?_,D ⟨oL,hoL,I.free⟩ hs,by simpa using I.len⟩ ⟨_,hs,.inl rL⟩ ⟨_,hn',.inl ⟨hk,qo⟩⟩;.show(hs.2 b (cv (cS (a_ e) I.ok.above))).trans (I.base.keep b o e n hb hx)
  .let⟨sl,e1⟩:=I.base.slot b o e n hb hx;show⟨sl,(hs.2 b (cv (cS (a_ e) I.ok.above))).trans e1⟩
  .let⟨o',e1⟩:=I.base.there b o e hx;show⟨o',(hs.2 b (cv (cS (a_ e) I.ok.above))).trans e1⟩
  .by_cases O:j=i
   .subst O;rw[hi]at e1;cases e1;rw[ke hiσ]at e2;cases e2;show⟨u,r,.inl ⟨hk,qo⟩⟩
   .rw[kK (gm O)]at e2;let⟨u',r',q⟩:=hl j y v' e1 e2 e3;calc⟨u',r',?_⟩;rcases q with⟨k,e⟩|⟨k,c,e,z⟩
    .calc .inl ⟨k,?_⟩;have:y≠x:=λe=>O (JF hN e1 (e ▸ hi));simp[this,e]
    .show .inr ⟨k,c,e,z.sameBut hs (Jp y c e)⟩
  .let⟨w',z⟩:=I.cell y c e;show⟨w',z.sameBut hs (Jp y c e)⟩
  .let⟨e,n,ne,nf,d⟩:=I.pin p hp;show⟨(hs.2 p.1 ne).trans e,n,ne,nf,d⟩
 .let Y:X.fn x=true:=by
   rcases hf with z|z;.show z
   .rw[z]at hk;cases hk
  let⟨c,F⟩:=I.ok.has x (.inl hk);let⟨w',z⟩:=I.cell x c F;calc wpAny_storeName_cell I.ok.kind hk F z (λh' J hs=>?_);let⟨oc,hoc,akE⟩:=id z;calc h {s with heap:=h' } ⟨I.ok,I.os,I.bare,⟨λb o e n hb hx=>?_,λb o e n hb hx=>?_,I.base.free,λb o e hx=>?_,I.base.tups,I.base.rK,I.base.tG⟩,⟨m,hn.sameBut hs (gm (Jp x c F)),λj y v' e1 e2 e3=>?_⟩,λy c' e=>?_,I.free,I.mZ,λp hp=>?_,D ⟨oc,hoc,I.mZ x c F⟩ hs,by simpa using I.len⟩ ⟨c,hs,.inr F⟩ ⟨m,hn.sameBut hs (gm (Jp x c F)),.inr ⟨.inl hk,c,F,J⟩⟩;.show(hs.2 b (cv (cS (a_ e) (I.ok.cab x c Y F)))).trans (I.base.keep b o e n hb hx)
  .let⟨sl,e1⟩:=I.base.slot b o e n hb hx;show⟨sl,(hs.2 b (cv (cS (a_ e) (I.ok.cab x c Y F)))).trans e1⟩
  .let⟨o',e1⟩:=I.base.there b o e hx;show⟨o',(hs.2 b (cv (cS (a_ e) (I.ok.cab x c Y F)))).trans e1⟩
  .by_cases O:j=i
   .subst O;rw[hi]at e1;cases e1;rw[ke hiσ]at e2;cases e2;show⟨u,r,.inr ⟨.inl hk,c,F,J⟩⟩
   .rw[kK (gm O)]at e2;let⟨u',r',q⟩:=hl j y v' e1 e2 e3;calc⟨u',r',?_⟩;rcases q with q|⟨k,c',e,z'⟩;.show .inl q
    .calc .inr ⟨k,c',e,z'.sameBut hs ?_⟩;rintro rfl;show O (JF hN e1 (I.ok.inj _ _ _ e F ▸ hi))
  .by_cases hcc:c'=c;.subst hcc;show⟨_,J⟩
   .let⟨w2,z2⟩:=I.cell y c' e;show⟨w2,z2.sameBut hs hcc⟩
  .let⟨e,n,ne,nf,d⟩:=I.pin p hp;calc⟨(hs.2 p.1 ?_).trans e,n,ne,nf,d⟩;intro q;rw[q,hoc]at e;let q':oc=p.2:=bq e;show d w' (by rw[<-q'];show akE)
def JG (I:aX X ao σ H s)(j:X.N.Nodup)(hi:X.N[i]?=some x)(hx:Loc X.env.scope x)(r:cW v u)(h:∀s',aX X ao (σ.set i (some v)) H s'->Q () s')(D:X.fn x=true\/X.env.scope.names.lookup x=some .local:=by first|show .inl rfl|show .inr rfl|assumption):wpAny M A (storeName X.env x u) Q E s:=Qn I j hi hx r (λs' F _ _=>h s' F) D
def aX.call' {s':Shared}(I:aX X ao σ H s)(D:s'.os=s.os)(u:Un (frs X.stack) ch H H' s.heap s'.heap)(hok:lX X.prog X.w H' s'.heap)(hg:AllBare s'.gens)(j:∀b∈ch,(b∈X.ex\/X.s₀.heap.objs.size<=b)/\b≠X.env.locals/\(∀x c,X.env.cells.lookup x=some c->c≠b)/\∀p∈X.pn++ao,p.1≠b):aX X ao σ H' s':=by let⟨h',g',d',t',o'⟩:=s';let e:o'=s.os:=D;subst e;show I.call (g':=g') (t':=t') (d':=d') u hok hg j
end
abbrev XK:=Value->Option Addr->Hp->Prop
abbrev St:=List (Option V)
abbrev VK:=V->Hp->Prop
abbrev TE:=St->Hp->VK->Prop
abbrev TT:=St->Hp->(Bool->Hp->Prop)->Prop
abbrev TA:=St->Hp->(List V->Hp->Prop)->Prop
structure Ends where
 nx:St->Hp->Prop
 rt:VK
 bk:St->Hp->Prop:=λ_ _=>False
 ct:St->Hp->Prop:=λ_ _=>False
abbrev TS:=Ends->St->Hp->Prop
def EP (X:Cx)(ao:AF)(σ:St)(Q:VK)(u:Value)(s':Shared):Prop:=∃v H',aX X ao σ H' s'/\cW v u/\Q v H'
def TP (X:Cx)(ao:AF)(σ:St)(Q:Bool->Hp->Prop)(b:Bool)(s':Shared):Prop:=∃H',aX X ao σ H' s'/\Q b H'
def AP (X:Cx)(ao:AF)(σ:St)(Q:List V->Hp->Prop)(us:List Value)(s':Shared):Prop:=∃vs H',aX X ao σ H' s'/\Vals vs us/\Q vs H'
def SP (X:Cx)(ao:AF)(D:Ends)(f:Flow)(s':Shared):Prop:=match f with| .next=>∃σ' H',aX X ao σ' H' s'/\D.nx σ' H'| .brk=>∃σ' H',aX X ao σ' H' s'/\D.bk σ' H'| .cont=>∃σ' H',aX X ao σ' H' s'/\D.ct σ' H'| .ret u=>∃v σ' H',aX X ao σ' H' s'/\cW v u/\D.rt v H'
def PE (X:Cx)(e:Expr)(t:TE):Prop:=∀(ao:AF) (s:Shared) (σ:St) (H:Hp) (Q:VK),aX X ao σ H s->t σ H Q->wpAny (model X.prog X.w) X.A (eval e X.env) (EP X ao σ Q) X.xe s
structure QE (X:Cx)(e:Expr)(t:TE):Prop where
 out:PE X e t
def PT (X:Cx)(e:Expr)(t:TT):Prop:=∀(ao:AF) (s:Shared) (σ:St) (H:Hp) (Q:Bool->Hp->Prop),aX X ao σ H s->t σ H Q->wpAny (model X.prog X.w) X.A (isTrue e X.env (eval e X.env)) (TP X ao σ Q) X.xe s
structure QT (X:Cx)(e:Expr)(t:TT):Prop where
 out:PT X e t
def PW (X:Cx)(e:Expr)(t:TT):Prop:=∀(j:Sem Value) (ao:AF) (s:Shared) (σ:St) (H:Hp) (Q:Bool->Hp->Prop),aX X ao σ H s->t σ H Q->wpAny (model X.prog X.w) X.A (isTrue e X.env j) (TP X ao σ Q) X.xe s
structure QW (X:Cx)(e:Expr)(t:TT):Prop where
 out:PW X e t
def PW.pt (h:PW X e t):PT X e t:=h _
def PA (X:Cx)(es:List Expr)(t:TA):Prop:=∀(pos:Pos) (ao:AF) (s:Shared) (σ:St) (H:Hp) (Q:List V->Hp->Prop),aX X ao σ H s->t σ H Q->wpAny (model X.prog X.w) X.A (spliced (backTo pos (starEach es X.env))) (AP X ao σ Q) X.xe s
structure QA (X:Cx)(es:List Expr)(t:TA):Prop where
 out:PA X es t
def PS (X:Cx)(st:Stmt)(t:TS):Prop:=∀(ao:AF) (s:Shared) (σ:St) (H:Hp) (D:Ends),aX X ao σ H s->t D σ H->wpAny (model X.prog X.w) X.A (exec st X.env) (SP X ao D) X.xe s
structure QS (X:Cx)(st:Stmt)(t:TS):Prop where
 out:PS X st t
def Qo (X:Cx)(st:List Stmt)(t:TS):Prop:=∀(ao:AF) (s:Shared) (σ:St) (H:Hp) (D:Ends),aX X ao σ H s->t D σ H->wpAny (model X.prog X.w) X.A (execs st X.env) (SP X ao D) X.xe s
structure wQ (X:Cx)(st:List Stmt)(t:TS):Prop where
 out:Qo X st t
def cP {α:Type}{t:Sem α}{Q j:α->Shared->Prop}(h:wpAny M A t Q E s)(D:∀a s,Q a s->j a s):wpAny M A t j E s:=eh h D λ_ _ x=>x
section
variable {X:Cx}
abbrev gV (o:Option (Option V))(f:V->Prop):Prop:=match o with|some (some v)=>f v|_=>False
theorem ajE:∀{o:Option (Option V)},gV o f->∃v,o=some (some v)/\f v
 | some (some v),h=>⟨v,rL,h⟩
def alO (v)(e:o=some (some v))(h:f v):gV o f:=by subst e;show h
abbrev Qp (x:V)(f:Bool->Prop):Prop:=match x with|.bl c=>f c|_=>False
theorem uh:∀{x:V},Qp x f->∃c,x=.bl c/\f c
 | .bl c,h=>⟨c,rL,h⟩
def bf (c)(e:x=.bl c)(h:f c):Qp x f:=by subst e;show h
def N6 (i:Nat):TE:=λσ H Q=>gV σ[i]? λv=>Q v H
def tC (v:V):TE:=λ_ H Q=>Q v H
def ahG {i:Nat}{x:Str}{pos:Pos}(O:X.N[i]?=some x)(hv:Vis X.env.scope x)(hd:(x==("__debug__":Str))=false:=by decide)(G:(x==("__classdict__":Str))=false:=by decide):PE X (.Name x pos) (N6 i):=by
 intro ao s σ H Q I h;let⟨v,e,h⟩:=ajE h;let⟨m,hn,hl⟩:=I.loc;let⟨u,r,l⟩:=hl i x v O e hv;let D:EP X ao σ Q u s:=⟨v,H,I,r,h⟩
 rcases l with⟨F,hm⟩|⟨F,c,J,j⟩;.show mS (wpAny_loadName_local I.ok.kind F hn hm D) hd
 .rcases F with F|F;.show mS (wpAny_loadName_cell I.ok.kind F J j D) hd
  .show mS (wpAny_loadName_free I.ok.kind F J j D G) hd
def aq {i j pos}:QE X (.Constant (.int i) j pos) (tC (.int i)):=⟨λ_ _ _ H _ I h=>wpAny_Constant_int ⟨.int i,H,I.tok _,⟨_,rL⟩,h⟩⟩
def jr {b j pos}:QE X (.Constant (.bool b) j pos) (tC (.bl b)):=⟨λ_ _ _ H _ I h=>Constant_bool ⟨.bl b,H,I,rL,h⟩⟩
def K_ {j pos}:QE X (.Constant .none j pos) (tC .non):=⟨λ_ _ _ H _ I h=>Constant_none ⟨.non,H,I,rL,h⟩⟩
def ahH {x j pos}:PE X (.Constant (.str x) j pos) (tC (.str x)):=λ_ _ _ H _ I h=>Calls.Constant_str ⟨.str x,H,I.tok _,⟨_,rL⟩,h⟩
def Gl (X:Cx)(x:Str):Prop:=X.env.kindOf x=some .globalImplicit
def oJ {E:AB}{ao:AF}{s:Shared}{σ:St}{H:Hp}{x:Str}{u:Value}{pos:Pos}{Q:AB}(I:aX X ao σ H s)(hg:Gl X x)(hm:X.mg x=some u)(h:Q u s)(hd:(x==("__debug__":Str))=false:=by decide):wpAny (model X.prog X.w) X.A (eval (.Name x pos) X.env) Q E s:=Calls.Name_function_global I.ok.kind hg (Calls.loadGlobal_global (by rw[I.ok.glob];show I.mod.glob.keeps I.bk) hm h) hd
def wR {E:AB}{ao:AF}{s:Shared}{σ:St}{H:Hp}{x:Str}{u:Value}{pos:Pos}{Q:AB}(I:aX X ao σ H s)(hg:Gl X x)(hm:X.mg x=none)(hv:bootBuiltins x=some u)(h:Q u s)(hn:x≠"__name__":=by decide)(hd:(x==("__debug__":Str))=false:=by decide):wpAny (model X.prog X.w) X.A (eval (.Name x pos) X.env) Q E s:=by let⟨mb,h1,h2⟩:=I.mod.blt;show Calls.Name_function_global I.ok.kind hg (Calls.loadGlobal_builtin (by rw[I.ok.glob];show I.mod.glob.keeps I.bk) hm (by rw[I.ok.blt];show h1.keeps I.bk) ((h2 x hn).trans hv) h) hd
def jg (hg:Gl X x)(hm:X.mg x=some u)(r:cW v u)(hd:(x==("__debug__":Str))=false:=by decide):QE X (.Name x pos) (tC v):=⟨λ_ _ _ H _ I h=>oJ I hg hm ⟨v,H,I,r,h⟩ hd⟩
def lV {x:Str}{v:V}{u:Value}{pos:Pos}(hg:Gl X x)(hm:X.mg x=none)(hv:bootBuiltins x=some u)(r:cW v u)(hn:x≠"__name__":=by decide)(hd:(x==("__debug__":Str))=false:=by decide):QE X (.Name x pos) (tC v):=⟨λ_ _ _ H _ I h=>wR I hg hm hv ⟨v,H,I,r,h⟩ hn hd⟩
variable {a b:Expr}{ta tb:TE}{pos:Pos}
def PC (X:Cx)(op:CmpOp)(a b:Expr)(t:TE):Prop:=∀(ao:AF) (s:Shared) (σ:St) (H:Hp) (Q:VK),aX X ao σ H s->t σ H Q->
  wpAny (model X.prog X.w) X.A (eval a X.env) (λv D=>wpAny (model X.prog X.w) X.A (eval b X.env) (λu j=>wpAny (model X.prog X.w) X.A (compareOp op v u) (EP X ao σ Q) X.xe j) X.xe D) X.xe s
structure QC (X:Cx)(op:CmpOp)(a b:Expr)(t:TE):Prop where
 out:PC X op a b t
def tB (t:TE):TT:=λσ H Q=>t σ H λx H1=>Qp x λc=>Q c H1
def ahI (h:QC X op a b t)(h1:behindInMarks op b=false:=by first|show akF _ qr qr|rfl):QE X (.Compare a [op] [b] pos) t:=⟨λao s σ H Q I hw=>wpAny_Compare1 (h.out ao s σ H Q I hw) h1⟩
def fJ (h:QE X e t)(F:∀j,isTrue e X.env j=(do let v <- j;standAt e.pos;holding [v] (truthy v)):=by intro _;rfl):QT X e (tB t):=⟨by
 intro ao s σ H Q I hw;calc isTrue_plain (cP (h.out ao s σ H _ I hw) λv s1 ⟨x,H1,D,r1,q1⟩=>?_) (F _);let⟨d,rfl,q⟩:=uh q1;cases r1;show fh ⟨H1,D,q⟩⟩
variable {tA tB':TT}{rest:List Expr}
def akG (t u:TT):TT:=λσ H Q=>t σ H λc H1=>if c=true then u σ H1 Q else Q false H1
def tOr (t u:TT):TT:=λσ H Q=>t σ H λc H1=>if c=true then Q true H1 else u σ H1 Q
def akH (t:TT):TT:=λσ H Q=>t σ H λc H1=>Q (!c) H1
def yF (ha:QT X a tA):QW X (.BoolOp .And [a] pos) tA:=⟨by
 intro j ao s σ H Q I h;calc isTrue_and (cP (ha.out ao s σ H Q I h) λc s1 e=>?_);cases c with
 | true=>show isTrue_and_nil e
 | false=>show e⟩
def m8 (ha:QT X a tA):QW X (.BoolOp .Or [a] pos) tA:=⟨by
 intro j ao s σ H Q I h;calc isTrue_or (cP (ha.out ao s σ H Q I h) λc s1 e=>?_);cases c with
 | false=>show isTrue_or_nil e
 | true=>show e⟩
def wU (ha:QT X a tA)(hb:QW X (.BoolOp .And (b::rest) pos) tB'):QW X (.BoolOp .And (a::b::rest) pos) (akG tA tB'):=⟨by
 intro F ao s σ H Q I h;calc isTrue_and (cP (ha.out ao s σ H _ I h) λc s1 D=>?_);let⟨H1,j,q1⟩:=D;cases c with
 | true=>show hb.out F ao s1 σ H1 Q j q1
 | false=>show⟨H1,j,q1⟩⟩
def pI (ha:QT X a tA)(hb:QW X (.BoolOp .Or (b::rest) pos) tB'):QW X (.BoolOp .Or (a::b::rest) pos) (tOr tA tB'):=⟨by
 intro F ao s σ H Q I h;calc isTrue_or (cP (ha.out ao s σ H _ I h) λc s1 D=>?_);let⟨H1,j,q1⟩:=D;cases c with
 | true=>show⟨H1,j,q1⟩
 | false=>show hb.out F ao s1 σ H1 Q j q1⟩
def gU (ha:QT X a tA):QT X (.UnaryOp .Not a pos) (akH tA):=⟨by
 intro ao s σ H Q I h;show isTrue_not (ha.out ao s σ H (λc H1=>Q (!c) H1) I h)⟩
def ajF (ta tb:TE):TE:=λσ H Q=>ta σ H λx H1=>Qp x λc=>if c=true then tb σ H1 Q else Q (.bl false) H1
def akI (ta tb:TE):TE:=λσ H Q=>ta σ H λx H1=>Qp x λc=>if c=true then Q (.bl true) H1 else tb σ H1 Q
def ajG (ta:TE):TE:=λσ H Q=>ta σ H λx H1=>Qp x λc=>Q (.bl (!c)) H1
def kI {op}(h:QE X a t):QE X (.BoolOp op [a] pos) t:=⟨λao s σ H Q I hw=>BoolOp_one (h.out ao s σ H Q I hw)⟩
def lO (ha:QE X a ta)(hb:QE X (.BoolOp .And (b::rest) pos) tb):QE X (.BoolOp .And (a::b::rest) pos) (ajF ta tb):=⟨by
 intro ao s σ H Q I h;calc BoolOp_and (cP (ha.out ao s σ H _ I h) λv s1 D=>?_);let⟨x,H1,j,r1,q1⟩:=D;let⟨c,rfl,q1⟩:=uh q1;cases r1;calc fh ?_;cases c with
 | true=>show hb.out ao s1 σ H1 Q j q1
 | false=>show⟨.bl false,H1,j,rL,q1⟩⟩
def Sv (ha:QE X a ta)(hb:QE X (.BoolOp .Or (b::rest) pos) tb):QE X (.BoolOp .Or (a::b::rest) pos) (akI ta tb):=⟨by
 intro ao s σ H Q I h;calc BoolOp_or (cP (ha.out ao s σ H _ I h) λv s1 D=>?_);let⟨x,H1,j,r1,q1⟩:=D;let⟨c,rfl,q1⟩:=uh q1;cases r1;calc fh ?_;cases c with
 | false=>show hb.out ao s1 σ H1 Q j q1
 | true=>show⟨.bl true,H1,j,rL,q1⟩⟩
def abS (ha:QE X a ta):QE X (.UnaryOp .Not a pos) (ajG ta):=⟨by
 intro ao s σ H Q I h;calc UnaryOp_ (cP (ha.out ao s σ H _ I h) λv s1 ⟨x,H1,j,r1,q1⟩=>?_);let⟨c,rfl,q1⟩:=uh q1;cases r1;show not_of (fh ⟨.bl (!c),H1,j,rL,q1⟩)⟩
def tIf (t:TT)(ta tb:TE):TE:=λσ H Q=>t σ H λc H1=>if c=true then ta σ H1 Q else tb σ H1 Q
def pJ (F:QT X c tA)(ha:QE X a ta)(hb:QE X b tb):QE X (.IfExp c a b pos) (tIf tA ta tb):=⟨by
 intro ao s σ H Q I h;calc wpAny_IfExp (cP (F.out ao s σ H _ I h) λd s1 D=>?_);let⟨H1,j,q1⟩:=D;cases d with
 | true=>show ha.out ao s1 σ H1 Q j q1
 | false=>show hb.out ao s1 σ H1 Q j q1⟩
end
def bM (K:W.Frag)(H:Hp)(a:Addr)(xs:List V):Prop:=Rd H a (.lst xs)\/
  ∃(o:Obj) (its:Array Value) (n:Nat),K.lookup a=some o/\o.cls=.type "list"/\o.dict=none/\o.data=.seq its n/\its.size<=sizeLine/\Vals xs its.toList
def aQ (K:W.Frag)(H:Hp)(a:Addr)(xs:List V):Prop:=Rd H a (.tup xs)\/
  ∃(o:Obj) (its:Array Value) (n:Nat),K.lookup a=some o/\o.cls=.type "tuple"/\o.data=.seq its n/\its.size<=sizeLine/\Vals xs its.toList
noncomputable def akJ:Value->Option V
 | .none=>some .non
 | .bool b=>some (.bl b)
 | .int i _=>some (.int i)
 | .str x _=>some (.str x)
 | .bytes b _=>some (.Em b)
 | .float b _=>some (.flt b)
 | .ref a=>some (.ref a)
 | .type n=>some (.ty n)
 | _=>none
def cW.abs (r:cW x u):akJ u=some x:=by
 cases x with
 | non=>cases r;rfl
 | bl _=>cases r;rfl
 | int _=>let⟨t,rfl⟩:=r;rfl
 | str _=>let⟨t,rfl⟩:=r;rfl
 | Em _=>let⟨t,rfl⟩:=r;rfl
 | flt _=>let⟨t,rfl⟩:=r;rfl
 | ref _=>cases r;rfl
 | ty _=>cases r;rfl
def cW.inj (r:cW x u)(q:cW y u):x=y:=bq (r.abs.symm.trans q.abs)
theorem Vals.inj:∀{xs ys:List V} {us:List Value},Vals xs us->Vals ys us->xs=ys
 | _,_,_,.nil,.nil=>rfl
 | _,_,_,.cons r t,.cons r' t'=>by rw[r.inj r',Vals.inj t t']
section
variable {X:Cx}{ao:AF}{σ:St}{H:Hp}{s:Shared}{a:Addr}{xs ys:List V}
def bM.of {K:W.Frag}(h:H a=some (.lst xs)):bM K H a xs:=.inl (.inl h)
def aQ.of {K:W.Frag}(h:H a=some (.tup xs)):aQ K H a xs:=.inl (.inl h)
def aX.list (I:aX X ao σ H s)(h:bM X.K H a xs):∃its:List Value,Vals xs its/\PlainL s.heap a its.toArray/\xs.length<=sizeLine:=by
 rcases h with h|⟨o,its,n,D,j,hd,hs,hz,r⟩
 .let⟨z,its,n,r,e⟩:=h.ok I.hok;show⟨its,r,⟨_,n,e,rL,rL,rL⟩,z⟩
 .calc⟨its.toList,r,⟨o,n,I.je a o D,j,hd,by simpa using hs⟩,?_⟩;let e:=r.length;simp only[fN]at e;lia
def aX.tuple (I:aX X ao σ H s)(h:aQ X.K H a xs):∃its:List Value,Vals xs its/\IsTup s.heap a its.toArray/\xs.length<=sizeLine:=by
 rcases h with h|⟨o,its,n,D,j,hs,hz,r⟩
 .let⟨z,its,r,p⟩:=h.ok I.hok;show⟨its,r,p,z⟩
 .calc⟨its.toList,r,⟨o,I.je a o D,j,n,by simpa using hs⟩,?_⟩;let e:=r.length;simp only[fN]at e;lia
def aX.JH (I:aX X ao σ H s)(h:bM X.K H a xs)(h':bM X.K H a ys):xs=ys:=by
 obtain⟨its,r,⟨o,n,e,_,_,d⟩,_⟩:=I.list h;obtain⟨its',D,⟨o',F,j,_,_,d'⟩,_⟩:=I.list h';rw[e]at j;cases j;rw[d]at d';injection d' with d1 _;have:its=its':=by simpa using congrArg Array.toList d1
 subst this;show r.inj D
def aX.abT (I:aX X ao σ H s)(h:aQ X.K H a xs)(h':aQ X.K H a ys):xs=ys:=by
 obtain⟨its,r,⟨o,e,_,n,d⟩,_⟩:=I.tuple h;obtain⟨its',D,⟨o',j,_,F,d'⟩,_⟩:=I.tuple h';rw[e]at j;cases j;rw[d]at d';injection d' with d1 _;have:its=its':=by simpa using congrArg Array.toList d1
 subst this;show r.inj D
end
abbrev Cx.wish (X:Cx)(E:AB):Cx:={X with xe:=E}
abbrev Cx.La (X:Cx):Cx:=X.wish λ_ _=>False
def Cx.Ok.wish {X:Cx}(ok:X.Ok)(E:AB):(X.wish E).Ok:=⟨ok.mod,ok.kind,ok.glob,ok.blt,ok.above,ok.inj,ok.has,ok.cab,ok.hd,ok.frames,ok.stk,ok.Yu,ok.bs,ok.zJ,ok.Cz,ok.Ez,ok.ql,ok.Bs⟩
def Cx.Ok.wV {X:Cx}(ok:(X.wish E).Ok):X.Ok:=⟨ok.mod,ok.kind,ok.glob,ok.blt,ok.above,ok.inj,ok.has,ok.cab,ok.hd,ok.frames,ok.stk,ok.Yu,ok.bs,ok.zJ,ok.Cz,ok.Ez,ok.ql,ok.Bs⟩
section
variable {X:Cx}{ao:AF}{σ:St}{H:Hp}{s:Shared}{E:AB}
def aX.wish (I:aX X ao σ H s)(E:AB):aX (X.wish E) ao σ H s:=⟨I.ok.wish E,I.os,I.bare,I.base,I.loc,I.cell,I.free,I.mZ,I.pin,I.hok,I.len⟩
def aX.wV (I:aX (X.wish E) ao σ H s):aX X ao σ H s:=⟨I.ok.wV,I.os,I.bare,I.base,I.loc,I.cell,I.free,I.mZ,I.pin,I.hok,I.len⟩
def SP.wV (h:SP (X.wish E) ao D f s'):SP X ao D f s':=by
 cases f with
 | next=>let⟨σ',H',I,q⟩:=h;show⟨σ',H',I.wV,q⟩
 | brk=>let⟨σ',H',I,q⟩:=h;show⟨σ',H',I.wV,q⟩
 | cont=>let⟨σ',H',I,q⟩:=h;show⟨σ',H',I.wV,q⟩
 | ret u=>let⟨v,σ',H',I,r,q⟩:=h;show⟨v,σ',H',I.wV,r,q⟩
def Qo.La {st:List Stmt}(h:Qo X.La st t):Qo X st t:=λao s σ H D I hw=>eh (h ao s σ H D (I.wish _) hw) (λ_ _ q=>q.wV) λ_ _ z=>False.elim z
end
section
variable {X:Cx}{st:Stmt}{rest:List Stmt}{t u:TS}{e:Expr}{te:TE}{pos:Pos}
def ajH:TS:=λD σ H=>D.nx σ H
def akK (t u:TS):TS:=λD σ H=>t {D with nx:=u D} σ H
def bR  : wQ X [] ajH:=⟨λ_ _ σ H _ I h=>wpAny_execs_nil ⟨σ,H,I,h⟩⟩
def au (h1:QS X st t)(h2:wQ X rest u):wQ X (st::rest) (akK t u):=⟨by
 intro ao s σ H D I h;calc wpAny_execs_cons (cP (h1.out ao s σ H {D with nx:=u D} I h) λf s1 q=>?_);cases f with
 | next=>let⟨σ',H',j,q⟩:=q;show h2.out ao s1 σ' H' D j q
 | ret v=>show q
 | brk=>show q
 | cont=>show q⟩
def aF (h1:QS X st t):wQ X [st] t:=⟨by
 intro ao s σ H D I h;calc wpAny_execs_cons (cP (h1.out ao s σ H D I h) λf s1 q=>?_);cases f with
 | next=>show wpAny_execs_nil q
 | ret v=>show q
 | brk=>show q
 | cont=>show q⟩
def aX.quiet {ao:AF}{σ:St}{H:Hp}{s:Shared}(I:aX X ao σ H s):interactive X.env=false:=by simp[interactive,I.ok.kind]
def ajI (te:TE):TS:=λD σ H=>te σ H λ_ H1=>D.nx σ H1
def eG (j:QE X e te)(hs:swapsWith e none pos.line X.env=pure false:=by rfl):QS X (.Expr e pos) (ajI te):=⟨by
 intro ao s σ H D I h;show wpAny_Expr_any (cP (j.out ao s σ H _ I h) λv s1 ⟨x,H1,F,r1,q1⟩=>⟨σ,H1,F,q1⟩) I.quiet hs⟩
def akL (te:TE):TS:=λD σ H=>te σ H D.rt
def bC (j:QE X e te):QS X (.Return (some e) pos) (akL te):=⟨by
 intro ao s σ H D I h;show wpAny_Return_some (cP (j.out ao s σ H _ I h) λv s1 ⟨x,H1,F,r1,q1⟩=>⟨x,σ,H1,F,r1,q1⟩)⟩
def akM (c:TT)(t u:TS):TS:=λD σ H=>c σ H λb H1=>if b=true then t D σ H1 else u D σ H1
def cG (G:QT X c tc)(ha:wQ X a t)(hb:wQ X b u):QS X (.If c a b pos) (akM tc t u):=⟨by
 intro ao s σ H D I h;calc wpAny_If (cP (G.out ao s σ H _ I h) λd s1 F=>?_);let⟨H1,j,q1⟩:=F;cases d with
 | true=>show ha.out ao s1 σ H1 D j q1
 | false=>show hb.out ao s1 σ H1 D j q1⟩
def ahJ:TS:=λ_ _ _=>False
def Qq  : wQ X sts ahJ:=⟨λ_ _ _ _ _ _ h=>h.elim⟩
end
abbrev TG:=V->St->Hp->(St->Hp->Prop)->Prop
abbrev Qs:=List V->St->Hp->(St->Hp->Prop)->Prop
def PG (X:Cx)(j:Expr)(t:TG):Prop:=∀(ao:AF) (s:Shared) (σ:St) (H:Hp) (v:V) (u:Value) (Q:St->Hp->Prop),aX X ao σ H s->cW v u->t v σ H Q->
  wpAny (model X.prog X.w) X.A (assign j X.env u) (λ_ s'=>∃σ' H',aX X ao σ' H' s'/\Q σ' H') X.xe s
structure QG (X:Cx)(e:Expr)(t:TG):Prop where
 out:PG X e t
def PGs (X:Cx)(ts:List Expr)(t:Qs):Prop:=∀(ao:AF) (s:Shared) (σ:St) (H:Hp) (vs:List V) (us:List Value) (Q:St->Hp->Prop),aX X ao σ H s->Vals vs us->t vs σ H Q->
  wpAny (model X.prog X.w) X.A (assignInOrder ((assignEach ts X.env).map (·.2)) us) (λ_ s'=>∃σ' H',aX X ao σ' H' s'/\Q σ' H') X.xe s
structure QGs (X:Cx)(es:List Expr)(t:Qs):Prop where
 out:PGs X es t
abbrev ahK:=V->V->V->Hp->(Hp->Prop)->Prop
def adU (X:Cx)(t:ahK):Prop:=∀(ao:AF) (s:Shared) (σ:St) (H:Hp) (o i v:V) (ov j u:Value) (Q:Hp->Prop),aX X ao σ H s->cW o ov->cW i j->cW v u->t o i v H Q->
  wpAny (model X.prog X.w) X.A (setItem ov j u) (λ_ s'=>∃H',aX X ao σ H' s'/\Q H') X.xe s
section
variable {X:Cx}{pos:Pos}
def vY (i:Nat):TG:=λv σ H Q=>Q (σ.set i (some v)) H
def vA (j:X.N.Nodup)(hi:X.N[i]?=some x)(hx:Loc X.env.scope x)(D:X.fn x=true\/X.env.scope.names.lookup x=some .local:=by first|show .inl rfl|show .inr rfl|assumption):PG X (.Name x pos) (vY i):=by intro ao s σ H v u Q I r h;show wpAny_assign_Name (JG I j hi hx r (λs' F=>⟨_,H,F,h⟩) D)
def aaj:Qs:=λvs σ H Q=>vs=[]/\Q σ H
def CJ (t:TG)(u:Qs):Qs:=λvs σ H Q=>∃v r,vs=v::r/\t v σ H λσ' H'=>u r σ' H' Q
def N7:PGs X [] aaj:=by intro ao s σ H vs us Q I r h;let⟨e,h⟩:=h;subst e;cases r;show assignInOrder_nil ⟨σ,H,I,h⟩
def vB (h1:PG X e t)(h2:PGs X es u)(hs:(assignEach (e::es) X.env).map (·.2)=assign e X.env::(assignEach es X.env).map (·.2):=by rfl):PGs X (e::es) (CJ t u):=by
 intro ao s σ H vs us Q I r h;let⟨v,F,e1,h⟩:=h;subst e1;cases r with| cons r rr=>rw[hs];calc assignInOrder_cons (cP (h1 ao s σ H _ _ _ I r h) λ_ s1 j=>?_);let⟨σ1,H1,D,q1⟩:=j;show h2 ao s1 σ1 H1 _ _ Q D rr q1
def aak (K:W.Frag)(n:Nat)(t:Qs):TG:=λv σ H Q=>∃a xs,v=.ref a/\aQ K H a xs/\xs.length=n/\t xs σ H Q
def Tw {es:List Expr}{k:Nat}{t:Qs}{n:Nat}(J:X.calm=true)(h:PGs X es t)(hn:(assignEach es X.env).length=n:=by rfl)(j:(assignEach es X.env).findIdx? (·.1)=none:=by rfl):PG X (.Tuple es k pos) (aak X.K n t):=by intro ao s σ H v u Q I r hw;let⟨a,xs,e1,G,hl,hw⟩:=hw;subst e1;cases r;let⟨its,D,ht,hz⟩:=I.tuple G;calc assign_Tuple_tuple (I.ok.hd J) ht (by simp[hn,<-hl,D.length]) j λh' hx=>?_;let F:aX X ao σ H {s with heap:=h' }:=I.kept (t':=s.toks) λb o e=>hx b o (cv (a_ e)) e;show h ao _ σ H xs _ Q F (by simpa using D) hw
def ahL (to ti:TE)(t:ahK):TG:=λv σ H Q=>to σ H λo H1=>ti σ H1 λi j=>t o i v j λD=>Q σ D
def ahM (Y:PE X o to)(hi:PE X i ti)(hs:adU X t)(ha:∀v,assign (.Subscript o i pos) X.env v=(do
   let ov <- holding [v] (eval o X.env)
   let D <- holding [v,ov] (eval i X.env)
   standAt pos
   holding [v,ov,D] (setItem ov D v)
   release [v,ov,D] []):=by intro _;rfl):PG X (.Subscript o i pos) (ahL to ti t):=by
 intro ao s σ H v u Q I r h;rw[ha];calc ae (fz (cP (Y ao s σ H _ I h) λov s1 j=>?_));let⟨x,H1,J,r1,q1⟩:=j;calc ae (fz (cP (hi ao s1 σ H1 _ J q1) λD s2 j=>?_));let⟨y,O,Z,r2,q2⟩:=j;calc ae (mm (ae (fz (cP (hs ao s2 σ O x y v ov D u _ Z r1 r2 r q2) λ_ s3 j=>?_))));let⟨F,G,q3⟩:=j;show wpAny_release ⟨σ,F,G,q3⟩
def aal (te:TE)(g:TG):TS:=λD σ H=>te σ H λx H1=>g x σ H1 D.nx
def um (F:QE X e te)(hg:QG X tg g)(hs:swapsWithSole [tg] e pos.line X.env=pure false:=by rfl)(hw:swappedStores [tg] e X.env=pure none:=by rfl)(h1:(assignEach [tg] X.env).map (·.2)=[assign tg X.env]:=by rfl):QS X (.Assign [tg] e pos) (aal te g):=⟨by
 intro ao s σ H D I h;calc wpAny_Assign_stores (cP (F.out ao s σ H _ I h) λv s1 ⟨x,H1,j,r1,q1⟩=>?_) hs hw;rw[h1];show cP (hg.out ao s1 σ H1 x v _ j r1 q1) λ_ s2 q=>q⟩
def aW (F:X.N.Nodup)(hi:X.N[i]?=some x)(hx:Loc X.env.scope x)(G:QE X e te)(hs:swapsWith e (some (.Name x pos')) pos.line X.env=pure false:=by rfl)(O:X.fn x=true\/X.env.scope.names.lookup x=some .local:=by first|show .inl rfl|show .inr rfl|assumption):QS X (.Assign [.Name x pos'] e pos) (aal te (vY i)):=⟨by
 intro ao s σ H D I h;calc wpAny_Assign_Name (cP (G.out ao s σ H _ I h) λv s1 ⟨y,H1,j,r1,q1⟩=>?_) hs;show JG j F hi hx r1 (λs2 J=>⟨_,H1,J,q1⟩) O⟩
end
structure It where
 go:Nat->Hp->Prop
 Qt:Nat->Hp->V->Hp->Prop
 stop:Nat->Hp->Prop
def xG (X:Cx)(ao:AF)(H:Hp)(b:Addr):Prop:=H b=none/\b≠X.env.locals/\b∉X.fs/\(b∈X.ex\/X.s₀.heap.objs.size<=b)/\(∀x c,X.env.cells.lookup x=some c->c≠b)/\∀p∈X.pn++ao,p.1≠b
def aX.CK {X:Cx}{ao:AF}{σ:St}{H H':Hp}{s:Shared}{b:Addr}(I:aX X ao σ H s)(hb:s.heap.objs.size<=b)(hn:H' b=none):xG X ao H' b:=by
 refine⟨hn,kn (cS I.lt hb),I.akD hb,.inr (b8 I.sz hb),λx c e z=>?_,λp hp z=>?_⟩
 .let⟨v,q⟩:=I.cell x c e;show absurd (cS q.lt (by rw[z];show hb)) (fw _)
 .show absurd (cS (a_ (I.pin p hp).1) (by rw[z];show hb)) (fw _)
structure Turn (P:Program)(w:World)(K:W.Frag)(tg:Expr)(J:It)(fp:List Addr)(it:Addr)(tn:Nat->Heap->Prop):Prop where
 mem:it∈fp
 obj:∀i h,tn i h->∀b∈fp,∃o,h.get? b=some o/\∀v,o.data≠.cell v
 keep:∀i h h',tn i h->(∀b∈fp,∀o,h.get? b=some o->h'.get? b=some o)->tn i h'
 item:∀(X:Cx),X.prog=P->X.w=w->X.K=K->X.calm=true->∀(i:Nat) (ao:AF) (s:Shared) (σ:St) (H:Hp) (E:AB),aX X ao σ H s->(∀b∈fp,xG X ao H b)->tn i s.heap->J.go i H->
  wpAny (model P w) X.A (pyNext (.ref it)) (λr s1=>∃u,r=some u/\
   wpAny (model P w) X.A (letOwnedTupleGo tg (.ref it) u) (λ_ s2=>∃x H',aX X ao σ H' s2/\cW x u/\J.Qt i H x H'/\tn (i+1) s2.heap/\∀b∈fp,H' b=none) E s1) E s
 done:∀(X:Cx),X.prog=P->X.w=w->X.K=K->X.calm=true->∀(i:Nat) (ao:AF) (s:Shared) (σ:St) (H:Hp) (E:AB),aX X ao σ H s->(∀b∈fp,xG X ao H b)->tn i s.heap->J.stop i H->
  wpAny (model P w) X.A (pyNext (.ref it)) (λr s1=>r=none/\aX X ao σ H s1) E s
 self:∀(A:Around) (i:Nat) (s:Shared) (Q:AB) (E:AB),tn i s.heap->Q (.ref it) s->wpAny (model P w) A (pyIter (.ref it)) Q E s
abbrev TI:=St->Hp->(It->Hp->Prop)->Prop
def PIE (X:Cx)(ao:AF)(σ:St)(tg:Expr)(R:It->Hp->Prop)(j:Value)(s2:Shared):Prop:=∃(it:Addr) (fp:List Addr) (tn:Nat->Heap->Prop) (J:It) (H':Hp),j=.ref it/\aX X ao σ H' s2/\Turn X.prog X.w X.K tg J fp it tn/\tn 0 s2.heap/\(∀b∈fp,xG X ao H' b)/\R J H'
def PI (X:Cx)(tg iter:Expr)(wi:TI):Prop:=∀(ao:AF) (s:Shared) (σ:St) (H:Hp) (R:It->Hp->Prop),aX X ao σ H s->wi σ H R->
  wpAny (model X.prog X.w) X.A (eval iter X.env) (λv s1=>wpAny (model X.prog X.w) X.A (pyIter v) (PIE X ao σ tg R) X.xe s1) X.xe s
structure QI (X:Cx)(tg iter:Expr)(wi:TI):Prop where
 out:PI X tg iter wi
def Ld {s : Shared}(D : s.heap.get? it = some o)(F : o.cls = .type n)(hd : o.data = .fields vs)(hn : ["enumerate", "zip", "dict_itemiterator", "dict_reverseitemiterator", "odict_iterator", "itertools.zip_longest", "itertools.pairwise"].contains n = false)(j : Q () s) : wpAny M A (letOwnedTupleGo tg (.ref it) u) Q E s := by
  unfold letOwnedTupleGo;cases tg <;> first
    | show aI j
    | (cases u <;> first
        | show aI j
        | (refine ae (wpAny_load D ?_)
           rw[F, hd];show wpAny M A (if (["enumerate", "zip", "dict_itemiterator", "dict_reverseitemiterator", "odict_iterator", "itertools.zip_longest", "itertools.pairwise"].contains n&&vs[0]? == some (rawInt _)) = true then _ else _) Q E s;rw[if_neg (by intro h; rw[hn, nS]at h; cases h)];show aI j))
abbrev ItS (Sq:Hp->List V->Prop):It:=⟨λi H=>∃xs x,Sq H xs/\xs[i]?=some x,λi H x H'=>H'=H/\∀xs,Sq H xs->xs[i]?=some x,λi H=>∃xs,Sq H xs/\xs.length<=i⟩
def Itl (K:W.Frag)(a:Addr):It:=ItS λH=>bM K H a
def Itt (K:W.Frag)(a:Addr):It:=ItS λH=>aQ K H a
def Yw (lo:Int)(n:Nat):It:=⟨λi _=>i<n,λi H x H'=>H'=H/\x=.int (lo+i),λi _=>n<=i⟩
def abU {P:Program}{w:World}{K:W.Frag}{tg:Expr}(a it:Addr):Turn P w K tg (Itl K a) [it] it (λi h=>h.IsListIter it a i) where
 mem:=by simp
 obj:=λi h st b hb=>by
  let e:b=it:=by simpa using hb
  subst e;let⟨o,e,c,d⟩:=st;show⟨o,e,λv z=>by rw[d]at z;cases z⟩
 keep:=λi h h' st k=>st.at λo e=>k it qo o e
 item:=by intro X G hw O Y i ao s σ H E I F st hg;subst G hw O;let⟨xs,x,D,hx⟩:=hg;let⟨its,J,p,hz⟩:=I.list D;let⟨u,hu,ru⟩:=J.get hx;let⟨f0,f1,f2,f3,f4,f5⟩:=F it qo;calc wpAny_pyNext_list_item st p.isList (x:=u) (by simpa using hu) λh' j sb=>?_;let Z:aX X ao σ H {s with heap:=h' }:=I.turned (t':=s.toks) (λb o hb e=>(sb.2 b hb).trans e) f0 f1 f3 f4 f5;let⟨o,e,c,d⟩:=id j;show⟨u,rL,Ld (s:={s with heap:=h' }) e c d qr ⟨x,H,Z,ru,⟨rL,λys hy=>by rw[I.JH hy D];show hx⟩,j,λb hb=>(F b hb).1⟩⟩
 done:=by intro X G hw O Y i ao s σ H E I F st hg;subst G hw O;let⟨xs,D,hx⟩:=hg;let⟨its,J,p,hz⟩:=I.list D;let⟨f0,f1,f2,f3,f4,f5⟩:=F it qo;let hl:=J.length;show wpAny_pyNext_list_end (I.ok.hd Y) st p.isList (by simp;simp_all) λh' eb=>⟨rL,I.turned (t':=s.toks) (λb o hb e=>eb b o hb e) f0 f1 f3 f4 f5⟩
 self:=λ_ _ _ _ _ st h=>wpAny_pyIter_listiter st h
def aam {P:Program}{w:World}{K:W.Frag}{tg:Expr}(a it:Addr):Turn P w K tg (Itt K a) [it] it (λi h=>h.IsTupleIter it a i) where
 mem:=by simp
 obj:=λi h st b hb=>by
  let e:b=it:=by simpa using hb
  subst e;let⟨o,e,c,d⟩:=st;show⟨o,e,λv z=>by rw[d]at z;cases z⟩
 keep:=λi h h' st k=>st.at λo e=>k it qo o e
 item:=by intro X G hw O Y i ao s σ H E I F st hg;subst G hw O;let⟨xs,x,D,hx⟩:=hg;let⟨its,J,p,hz⟩:=I.tuple D;let⟨u,hu,ru⟩:=J.get hx;let⟨f0,f1,f2,f3,f4,f5⟩:=F it qo;calc wpAny_pyNext_tuple_item st (show s.heap.IsTuple a its.toArray from p) (x:=u) (by simpa using hu) λh' j sb=>?_;let Z:aX X ao σ H {s with heap:=h' }:=I.turned (t':=s.toks) (λb o hb e=>(sb.2 b hb).trans e) f0 f1 f3 f4 f5;let⟨o,e,c,d⟩:=id j;show⟨u,rL,Ld (s:={s with heap:=h' }) e c d qr ⟨x,H,Z,ru,⟨rL,λys hy=>by rw[I.abT hy D];show hx⟩,j,λb hb=>(F b hb).1⟩⟩
 done:=by intro X G hw O Y i ao s σ H E I F st hg;subst G hw O;let⟨xs,D,hx⟩:=hg;let⟨its,J,p,hz⟩:=I.tuple D;let⟨f0,f1,f2,f3,f4,f5⟩:=F it qo;let hl:=J.length;show wpAny_pyNext_tuple_end (I.ok.hd Y) st (show s.heap.IsTuple a its.toArray from p) (by simp;lia) λh' eb=>⟨rL,I.turned (t':=s.toks) (λb o hb e=>eb b o hb e) f0 f1 f3 f4 f5⟩
 self:=λ_ _ _ _ _ st h=>wpAny_pyIter_tupleiter st h
def aan {P:Program}{w:World}{K:W.Frag}{tg:Expr}(it:Addr)(lo:Int)(n:Nat):Turn P w K tg (Yw lo n) [it] it (λi h=>IsRangeIter h it (lo+(i:Nat)*1) ((n:Int)-(i:Nat)) 1) where
 mem:=by simp
 obj:=λi h st b hb=>by
  let e:b=it:=by simpa using hb
  subst e;show⟨_,st,λv z=>by let z':Data.fields _=Data.cell v:=z;cases z'⟩
 keep:=λi h h' st k=>k it qo _ st
 item:=by intro X F hw G J i ao s σ H E I D st hg;subst F hw G;let⟨f0,f1,f2,f3,f4,f5⟩:=D it qo;let W:=Walks.range (prog:=X.prog) (w:=X.w) (I.ok.hd J) it lo 1 n;calc W.item i s _ _ hg st λv h' tk hv j O=>?_;let⟨t,rfl⟩:=hv;let Y:aX X ao σ H {s with heap:=h',toks:=tk}:=I.turned (λb o hb e=>O b o (by simpa using hb) e) f0 f1 f3 f4 f5;calc⟨_,rL,Ld (s:={s with heap:=h',toks:=tk}) (n:="range_iterator") j rL rL qr ⟨.int (lo+i),H,Y,⟨t,?_⟩,⟨rL,rL⟩,j,λb hb=>(D b hb).1⟩⟩;rw[Int.mul_one]
 done:=by intro X F hw G J i ao s σ H E I D st hg;subst F hw G;let⟨f0,f1,f2,f3,f4,f5⟩:=D it qo;show wpAny_pyNext_range_end (I.ok.hd J) st (by have:n<=i:=hg;lia) λh' Z=>⟨rL,I.turned (t':=s.toks) (λb o hb e=>Z b o hb e) f0 f1 f3 f4 f5⟩
 self:=λ_ _ _ _ _ st h=>wpAny_pyIter_rangeiter st h
section
variable {X:Cx}{tg:Expr}
def ajJ (K:W.Frag)(tl:TE):TI:=λσ H R=>tl σ H λx H1=>∃a,x=.ref a/\(∃xs,bM K H1 a xs)/\R (Itl K a) H1
def akN (K:W.Frag)(tl:TE):TI:=λσ H R=>tl σ H λx H1=>∃a,x=.ref a/\(∃xs,aQ K H1 a xs)/\R (Itt K a) H1
def oK (hl:QE X l tl):QI X tg l (ajJ X.K tl):=⟨by
 intro ao s σ H R I h;calc cP (hl.out ao s σ H _ I h) λv s1 D=>?_;let⟨x,H1,j,r1,q1⟩:=D;obtain⟨a,e,⟨xs,F⟩,q⟩:=q1;subst e;cases r1;let⟨its,G,p,hz⟩:=j.list F;calc iq p.isList ?_;calc⟨s1.heap.objs.size,[s1.heap.objs.size],_,_,H1,rL,j.kept (t':=s1.toks) λb o e=>ag _ e,abU a _,⟨_,bu _ rL,rL,rL⟩,λb hb=>?_,q⟩;let e:b=s1.heap.objs.size:=by simpa using hb
 subst e;show j.CK (ax _) (j.hok.fresh (ax _))⟩
def jh (hl:QE X l tl):QI X tg l (akN X.K tl):=⟨by
 intro ao s σ H R I h;calc cP (hl.out ao s σ H _ I h) λv s1 D=>?_;let⟨x,H1,j,r1,q1⟩:=D;obtain⟨a,e,⟨xs,F⟩,q⟩:=q1;subst e;cases r1;let⟨its,G,p,hz⟩:=j.tuple F;calc wpAny_pyIter_tuple (show s1.heap.IsTuple a its.toArray from p) ?_;calc⟨s1.heap.objs.size,[s1.heap.objs.size],_,_,H1,rL,j.kept (t':=s1.toks) λb o e=>ag _ e,aam a _,⟨_,bu _ rL,rL,rL⟩,λb hb=>?_,q⟩;let e:b=s1.heap.objs.size:=by simpa using hb
 subst e;show j.CK (ax _) (j.hok.fresh (ax _))⟩
def Tz {ao:AF}{σ:St}{H:Hp}{s:Shared}{R:It->Hp->Prop}{E:AB}{lo hi:Int}{t u v:Tok}{tk:Nat}(I:aX X ao σ H s)(h1:-(2^62)<=lo)(h2:lo<2^62)(h3:-(2^62)<=hi)(h4:hi<2^62)(q:R (Yw lo (hi-lo).toNat) H):wpAny (model X.prog X.w) X.A (pyIter (.ref s.heap.objs.size)) (PIE X ao σ tg R) E {s with heap:=s.heap.push {cls:=.type "range",data:=.fields #[.int lo t,.int hi u,.int 1 v]},toks:=tk}:=by
 calc wpAny_pyIter_range (IsRange.new ..) (small_one h1 h2 h3 h4) ?_;let j:aX X ao σ H {s with heap:=s.heap.push {cls:=.type "range",data:=.fields #[.int lo t,.int hi u,.int 1 v]},toks:=tk}:=I.kept λb o e=>ag _ e;refine⟨(s.heap.push {cls:=.type "range",data:=.fields #[.int lo t,.int hi u,.int 1 v]}).objs.size,[(s.heap.push {cls:=.type "range",data:=.fields #[.int lo t,.int hi u,.int 1 v]}).objs.size],_,_,H,rL,
  j.kept (t':=tk) λb o e=>ag _ e,aan _ lo (hi-lo).toNat,?_,λb hb=>?_,q⟩
 .let e1:lo+((0:Nat):Int)*1=lo:=qo;let e2:(((hi-lo).toNat:Nat):Int)-((0:Nat):Int)=Builtin.Range.rangeSize lo hi 1:=by rw[rangeSize_one];split <;> grind
  show IsRangeIter _ _ (lo+((0:Nat):Int)*1) ((((hi-lo).toNat:Nat):Int)-((0:Nat):Int)) 1;rw[e1,e2];show bu _ rfl
 .let e:b=(s.heap.push {cls:=.type "range",data:=.fields #[.int lo t,.int hi u,.int 1 v]}).objs.size:=by simpa using hb
  subst e;show j.CK (ax _) (j.hok.fresh (ax _))
def ajK (ta:TA):TI:=λσ H R=>ta σ H λvs H1=>∃j:Int,vs=[.int j]/\-(2^62)<=j/\j<2^62/\R (Yw 0 j.toNat) H1
def ajL (ta:TA):TI:=λσ H R=>ta σ H λvs H1=>∃i j:Int,vs=[.int i,.int j]/\(-(2^62)<=i/\i<2^62/\-(2^62)<=j/\j<2^62)/\R (Yw i (j-i).toNat) H1
def tR (hg:Gl X "range")(hm:X.mg "range"=none)(ha:QA X [a] ta)(hs:starEach [a] X.env=[(false,eval a X.env)]:=by rfl):QI X tg (.Call (.Name "range" p) [a] [] pos) (ajK ta):=⟨by
 intro ao s σ H R I h;calc Call_ (wR I hg hm boot_range (fq (cP (ha.out pos ao s σ H _ I h) λus s1 D=>?_) hs rL));let⟨vs,H1,F,r1,q1⟩:=D;let⟨j,e,q1,q2,q⟩:=q1;subst e;cases r1 with
 | cons r rr=>cases rr;let⟨t,rfl⟩:=r;show call_range_1 (Tz F qk qk q1 q2 (by simpa using q))⟩
def Qu {a b:Expr}{ta:TA}{p pos:Pos}(hg:Gl X "range")(hm:X.mg "range"=none)(ha:QA X [a,b] ta)(hs:starEach [a,b] X.env=[(false,eval a X.env),(false,eval b X.env)]:=by rfl)(D:starEach [b] X.env=[(false,eval b X.env)]:=by rfl):QI X tg (.Call (.Name "range" p) [a,b] [] pos) (ajL ta):=⟨by
 intro ao s σ H R I h;calc Call_ (wR I hg hm boot_range (fq (cP (ha.out pos ao s σ H _ I h) λus s1 F=>?_) (by rw[hs,D]) (by rw[D];rfl)));let⟨vs,H1,G,r1,q1⟩:=F;obtain⟨i,j,e,⟨q1,q2,q3,q4⟩,q⟩:=q1;subst e;cases r1 with
 | cons r rr=>
  cases rr with
  | cons r' rr=>cases rr;let⟨t,rfl⟩:=r;let⟨t',rfl⟩:=r';show call_range_2 (Tz G q1 q2 q3 q4 q)⟩
abbrev N8 (J:It)(g:TG)(tb:TS)(D:Ends)(σ:St)(H:Hp):Prop:=∃W:Nat->Nat->St->Hp->Prop,(∃m,W 0 m σ H)/\∀i m σ H,W i m σ H->
 (J.stop i H/\D.nx σ H)\/(J.go i H/\∃N:St->Hp->Prop,(∀σ' H',N σ' H'->∃m',m'<m/\W (i+1) m' σ' H')/\∀x H',J.Qt i H x H'->g x σ H' λσ2 H2=>tb {D with nx:=N,ct:=N,bk:=D.nx} σ2 H2)
def ahN (wi:TI)(g:TG)(tb:TS):TS:=λD σ H=>wi σ H λJ H1=>N8 J g tb D σ H1
def aao {J:It}{g:TG}{tb:TS}{D:Ends}{σ:St}{H:Hp}(n:Nat)(F:Nat->St->Hp->Prop)(h0:F 0 σ H)(hg:∀i σ H,i<n->F i σ H->J.go i H/\∀x H',J.Qt i H x H'->g x σ H' λσ2 I=>tb {D with nx:=F (i+1),ct:=F (i+1),bk:=D.nx} σ2 I)(G:∀σ H,F n σ H->J.stop n H/\D.nx σ H):N8 J g tb D σ H:=by
 calc⟨λi m σ H=>m=n-i/\i<=n/\F i σ H,⟨n,qo,fe _,h0⟩,?_⟩;intro i m σ H z;let⟨rfl,hi,p⟩:=z;by_cases j:i<n;.show .inr ⟨(hg i σ H j p).1,F (i+1),λσ' H' O=>⟨n-(i+1),Nat.sub_lt_sub_left j (gX _),rL,j,O⟩,(hg i σ H j p).2⟩
 .let e:i=n:=qk;subst e;show .inl (G σ H p)
def afy {F:Hp->List V->Prop}{xs:List V}{g:TG}{tb:TS}{D:Ends}{σ:St}{H:Hp}(j:Nat->St->Hp->Prop)(h0:j 0 σ H)(hl:∀i σ H,i<=xs.length->j i σ H->F H xs)(hs:∀i x σ H,xs[i]?=some x->j i σ H->g x σ H λσ2 G=>tb {D with nx:=j (i+1),ct:=j (i+1),bk:=D.nx} σ2 G)(hd:∀σ H,j xs.length σ H->D.nx σ H):N8 (ItS F) g tb D σ H:=aao xs.length j h0 (λi σ H h p=>⟨⟨xs,xs[i],hl i σ H (ap h) p,by simp[h]⟩,λx H' ⟨e,y⟩=>by subst e;show hs i x σ _ (y xs (hl i σ _ (ap h) p)) p⟩) λσ H p=>⟨⟨xs,hl _ σ H (ax _) p,ax _⟩,hd σ H p⟩
def EY (fp:List Addr)(h:Heap):List (Addr×Obj):=fp.filterMap λb=>(h.get? b).map λo=>(b,o)
def xY {h:Heap}(hb:b∈fp)(e:h.get? b=some o):(b,o)∈EY fp h:=n5.mpr ⟨b,hb,by rw[e];rfl⟩
def abV (hp:p∈EY fp h):p.1∈fp/\h.get? p.1=some p.2:=by
 let⟨b,hb,e⟩:=n5.mp hp;cases q:h.get? b with
 | none=>rw[q]at e;cases e
 | some o=>rw[q]at e;let j:(b,o)=p:=bq e;subst j;show⟨hb,q⟩
def aX.pinned {ao:AF}{σ:St}{H:Hp}{s:Shared}{fp:List Addr}(I:aX X ao σ H s)(F:∀b∈fp,xG X ao H b)(D:∀b∈fp,∃o,s.heap.get? b=some o/\∀v,o.data≠.cell v):aX X (ao++EY fp s.heap) σ H s:=
 I.Yv λp hp=>(be.mp hp).elim (λz=>I.pin p (eI _ z)) λz=>by let⟨hb,e⟩:=abV z;let⟨f0,f1,f2,_⟩:=F p.1 hb;let⟨o,j,d⟩:=D p.1 hb;rw[e]at j;cases j;show⟨e,f0,f1,f2,d⟩
def aX.yL {ao pl:AF}{σ:St}{H:Hp}{s:Shared}(I:aX X (ao++pl) σ H s):aX X ao σ H s:=I.Yv λp hp=>I.pin p (eI _ (mP _ hp))
def ahO (hp:PassesOwn (model X.prog X.w) X.A X.env X.xe)(hc:X.calm=true)(hi:PI X tg iter wi)(hg:PG X tg g)(hb:Qo X body tb)(hs:∀x,foldedSetIterable iter X.env x=pure x:=by intro _;rfl):PS X (.For tg iter body [] pos) (ahN wi g tb):=by
 intro ao s σ H D I h;calc wpAny_For (cP (hi ao s σ H _ I h) λv s1 h1=>cP h1 λitv s2 h2=>?_) hs;obtain⟨it,fp,tn,J,H2,e,I2,T,st2,f2,W,⟨m0,w0⟩,turn⟩:=h2;subst e;let G:∀{H':Hp},(∀b∈fp,H' b=none)->∀b∈fp,xG X ao H' b:=λhn b hb=>⟨hn b hb,(f2 b hb).2⟩
 calc codeAny_forLoop_any (λn s'=>∃i σ' H',aX X ao σ' H' s'/\tn i s'.heap/\(∀b∈fp,H' b=none)/\W i n σ' H') ?_ m0 ⟨0,σ,H2,I2,st2,λb hb=>(f2 b hb).1,w0⟩;intro n s3 z;let⟨i,σ3,H3,I3,st3,fr3,w3⟩:=z;rcases turn i n σ3 H3 w3 with⟨stop,qn⟩|⟨go,N,hN,step⟩
 .calc kX hp (cP (T.done X rL rL rL hc i ao s3 σ3 H3 X.xe I3 (G fr3) st3 stop) λr s4 ⟨hr,I4⟩=>?_);subst hr;show wpAny_execs_nil ⟨σ3,H3,I4,qn⟩
 .calc kX hp (cP (T.item X rL rL rL hc i ao s3 σ3 H3 X.xe I3 (G fr3) st3 go) λr s4 zz=>?_);let⟨u,hr,h4⟩:=zz;subst hr;calc kX hp (cP h4 λ_ s5 zz=>?_);let⟨x,H5,I5,r5,y5,Y,fr5⟩:=zz;let I5':=I5.pinned (G fr5) (T.obj _ _ Y);calc kX hp (cP (hg _ s5 σ3 H5 x u _ I5' r5 (step x H5 y5)) λ_ s6 zz=>?_);let⟨σ6,H6,I6,q6⟩:=zz;calc kX hp (cP (hb _ s6 σ6 H6 _ I6 q6) λf s7 q7=>?_);let j:∀{σ7:St} {F:Hp},aX X (ao++EY fp s5.heap) σ7 F s7->N σ7 F->∃m,m<n/\∃i σ' H',aX X ao σ' H' s7/\tn i s7.heap/\(∀b∈fp,H' b=none)/\W i m σ' H':=λ{σ7 F} O Z=>by
   let⟨m',hm,w7⟩:=hN σ7 F Z;calc⟨m',hm,i+1,σ7,F,O.yL,T.keep _ _ _ Y λb hb o e=>(O.pin (b,o) (eI _ (eI _ (xY hb e)))).1,λb hb=>?_,w7⟩;let⟨o,e,d⟩:=T.obj _ _ Y b hb;show(O.pin (b,o) (eI _ (eI _ (xY hb e)))).2.1
  cases f with
  | next=>let⟨σ7,F,O,Z⟩:=q7;show j O Z
  | cont=>let⟨σ7,F,O,Z⟩:=q7;show j O Z
  | brk=>let⟨σ7,F,O,q7⟩:=q7;show⟨σ7,F,O.yL,q7⟩
  | ret v=>let⟨x7,σ7,F,O,r7,q7⟩:=q7;show⟨x7,σ7,F,O.yL,r7,q7⟩
end
def nR {K:W.Frag}{a:Addr}:=@afy λH=>bM K H a
def Ib {K:W.Frag}{a:Addr}:=@afy λH=>aQ K H a
def qD {lo:Int}{n:Nat}{g:TG}{tb:TS}{D:Ends}{σ:St}{H:Hp}(j:Nat->St->Hp->Prop)(h0:j 0 σ H)(hs:∀i σ H,i<n->j i σ H->g (.int (lo+i)) σ H λσ2 F=>tb {D with nx:=j (i+1),ct:=j (i+1),bk:=D.nx} σ2 F)(hd:∀σ H,j n σ H->D.nx σ H):N8 (Yw lo n) g tb D σ H:=aao n j h0 (λi σ H h p=>⟨h,λx H' y=>by let⟨rfl,rfl⟩:=y;show hs i σ _ h p⟩) λσ H p=>⟨ax _,hd σ H p⟩
abbrev R2:=V->V->Hp->VK->Prop
def ji (X:Cx)(f:Value->Value->Sem Value)(r:R2):Prop:=∀(ao:AF) (s:Shared) (σ:St) (H:Hp) (x y:V) (v u:Value) (Q:VK),aX X ao σ H s->cW x v->cW y u->r x y H Q->
  wpAny (model X.prog X.w) X.A (f v u) (EP X ao σ Q) X.xe s
def UnR (X:Cx)(f:Value->Sem Value)(r:V->Hp->VK->Prop):Prop:=∀(ao:AF) (s:Shared) (σ:St) (H:Hp) (x:V) (v:Value) (Q:VK),aX X ao σ H s->cW x v->r x H Q->
  wpAny (model X.prog X.w) X.A (f v) (EP X ao σ Q) X.xe s
def jJ (X:Cx)(f:Value)(r:List V->Hp->VK->Prop):Prop:=∀(ao:AF) (s:Shared) (σ:St) (H:Hp) (xs:List V) (us:List Value) (Q:VK),aX X ao σ H s->Vals xs us->r xs H Q->
  wpAny (model X.prog X.w) X.A (call f us) (EP X ao σ Q) X.xe s
def TF (r:R2)(ta tb:TE):TE:=λσ H Q=>ta σ H λx H1=>tb σ H1 λy j=>r x y j Q
def tUn (r:V->Hp->VK->Prop)(ta:TE):TE:=λσ H Q=>ta σ H λx H1=>r x H1 Q
def rI (C:Int->Int->Prop)(g:Int->Int->V):R2:=λx y H Q=>∃i j,x=.int i/\y=.int j/\C i j/\Q (g i j) H
def Qv (g:Int->Int->V):R2:=λx y H Q=>∃i j,x=.int i/\y=.int j/\Q (g i j) H
def rU (g:Int->V):V->Hp->VK->Prop:=λx H Q=>∃i,x=.int i/\Q (g i) H
section
variable {X:Cx}{a b:Expr}{ta tb:TE}{pos:Pos}
def adV (ha:PE X a ta)(hb:PE X b tb){ao:AF}{s:Shared}{σ:St}{H:Hp}{R:V->V->Hp->Prop}(I:aX X ao σ H s)(h:ta σ H λx H1=>tb σ H1 λy j=>R x y j){Q:AB}{f:Value->Value->Sem Value}(Y:∀v u s2 x y j,aX X ao σ j s2->cW x v->cW y u->R x y j->wpAny (model X.prog X.w) X.A (f v u) Q X.xe s2):wpAny (model X.prog X.w) X.A (eval a X.env) (λv J=>wpAny (model X.prog X.w) X.A (eval b X.env) (λu F=>wpAny (model X.prog X.w) X.A (f v u) Q X.xe F) X.xe J) X.xe s:=by calc cP (ha ao s σ H _ I h) λv s1 D=>?_;let⟨x,H1,G,r1,q1⟩:=D;calc cP (hb ao s1 σ H1 _ G q1) λu s2 D=>?_;let⟨y,j,O,r2,q2⟩:=D;show Y v u s2 x y j O r1 r2 q2
def aJ (G:ji X (binaryOp op) r)(ha:QE X a ta)(hb:QE X b tb):QE X (.BinOp a op b pos) (TF r ta tb):=⟨by
 intro ao s σ H Q I h;show wpAny_BinOp (adV ha.out hb.out I h λv u s2 x y F J j D q=>G ao s2 σ F x y v u Q J j D q)⟩
def m_ (j:UnR X (unaryOp op) r)(ha:QE X a ta):QE X (.UnaryOp op a pos) (tUn r ta):=⟨by
 intro ao s σ H Q I h;show UnaryOp_ (cP (ha.out ao s σ H _ I h) λv s1 ⟨x,H1,D,r1,q1⟩=>j ao s1 σ H1 x v Q D r1 q1)⟩
def opI {f:Value->Value->Sem Value}{C:Int->Int->Prop}{g:Int->Int->Int}(D:∀(i j:Int) (t u:Tok) (s:Shared) (Q:AB) (E:AB),C i j->Q (.int (g i j) s.toks) {s with toks:=s.toks+1}->wpAny (model X.prog X.w) X.A (f (.int i t) (.int j u)) Q E s):ji X f (rI C λi j=>.int (g i j)):=by intro ao s σ H x y v u Q I F G h;let⟨i,j,rfl,rfl,J,q⟩:=h;let⟨t,rfl⟩:=F;let⟨t',rfl⟩:=G;show D i j t t' s _ _ J ⟨.int (g i j),H,I.tok _,⟨_,rL⟩,q⟩
def ahP {f:Value->Value->Sem Value}{g:Int->Int->Int}(D:∀(i j:Int) (t u:Tok) (s:Shared) (Q:AB) (E:AB),Q (.int (g i j) s.toks) {s with toks:=s.toks+1}->wpAny (model X.prog X.w) X.A (f (.int i t) (.int j u)) Q E s):ji X f (Qv λi j=>.int (g i j)):=by intro ao s σ H x y v u Q I F G h;let⟨i,j,rfl,rfl,q⟩:=h;let⟨t,rfl⟩:=F;let⟨t',rfl⟩:=G;show D i j t t' s _ _ ⟨.int (g i j),H,I.tok _,⟨_,rL⟩,q⟩
def aap {f:Value->Value->Sem Value}{g:Int->Int->Bool}(D:∀(i j:Int) (t u:Tok) (s:Shared) (Q:AB) (E:AB),Q (.bool (g i j)) s->wpAny (model X.prog X.w) X.A (f (.int i t) (.int j u)) Q E s):ji X f (Qv λi j=>.bl (g i j)):=by intro ao s σ H x y v u Q I F G h;let⟨i,j,rfl,rfl,q⟩:=h;let⟨t,rfl⟩:=F;let⟨t',rfl⟩:=G;show D i j t t' s _ _ ⟨.bl (g i j),H,I,rL,q⟩
def akO (i j:Int):Prop:=0<j/\j<1073741824
def akP (i j:Int):Prop:=0<=j/\j<=1000000/\i.natAbs<2^64
def aaq (i j:Int):Prop:=(-(2^64)<i/\i<2^64)\/(-(2^64)<j/\j<2^64)
def aaq.ok (h:aaq i j):IntMulOk i j:=by
 rcases h with⟨h1,h2⟩|⟨h1,h2⟩;.show .of_left (intBits_le_64 h1 h2)
 .show .of_right (intBits_le_64 h1 h2)
def dh:ji X (binaryOp .Add) (Qv λi j=>.int (i+j)):=ahP λ_ _ _ _ _ _ _ q=>add_int q
def ni:ji X (binaryOp .Sub) (Qv λi j=>.int (i-j)):=ahP λ_ _ _ _ _ _ _ q=>sub_int q
def jN:ji X (binaryOp .Mult) (rI aaq λi j=>.int (i*j)):=opI λ_ _ _ _ _ _ _ D q=>mul_int q D.ok
def cV:ji X (binaryOp .FloorDiv) (rI akO λi j=>.int (i/j)):=opI λi j _ _ _ _ _ D q=>by let h1:(0:Int)<j:=D.1;let h2:j<1073741824:=D.2;show floordiv_int qk (by rw[on i (Int.le_of_lt h1)];show q) (.inl (PyProof.noPylong_small (by grind)))
def bZ:ji X (binaryOp .Mod) (rI (λ_ j=>0<j) λi j=>.int (i%j)):=opI λi j _ _ _ _ _ D q=>by let h1:(0:Int)<j:=D;show mod_int' qk (by rw[Int.fmod_eq_emod_of_nonneg i qk];show q)
def TJ:ji X (binaryOp .Pow) (rI akP λi j=>.int (i^j.toNat)):=opI λ_ _ _ _ _ _ _ D q=>pow_int_small D.1 D.2.1 D.2.2 q
def unI {f:Value->Sem Value}{g:Int->Int}(j:∀(i:Int) (t:Tok) (s:Shared) (Q:AB) (E:AB),Q (.int (g i) s.toks) {s with toks:=s.toks+1}->wpAny (model X.prog X.w) X.A (f (.int i t)) Q E s):UnR X f (rU λi=>.int (g i)):=by intro ao s σ H x v Q I D h;let⟨i,rfl,q⟩:=h;let⟨t,rfl⟩:=D;show j i t s _ _ ⟨.int (g i),H,I.tok _,⟨_,rL⟩,q⟩
def kJ:UnR X (unaryOp .USub) (rU λi=>.int (-i)):=unI λ_ _ _ _ _ q=>neg_int q
end
noncomputable def ahQ:V->V->Bool
 | .non,.non=>true|.non,.int _=>true|.int _,.non=>true|.non,.bl _=>true|.bl _,.non=>true|.non,.str _=>true|.str _,.non=>true
 | .int _,.int _=>true|.bl _,.bl _=>true|.str _,.str _=>true|.Em _,.Em _=>true
 | .int _,.str _=>true|.str _,.int _=>true|.bl _,.str _=>true|.str _,.bl _=>true
 | _,_=>false
def rEq:R2:=λx y H Q=>ahQ x y=true/\Q (.bl (decide (x=y))) H
def rNe:R2:=λx y H Q=>ahQ x y=true/\Q (.bl (!decide (x=y))) H
def Yx:decide (V.int i=V.int j)=(i==j):=by rw[ii];simp
def abW:decide (V.bl i=V.bl j)=(i==j):=by rw[ii];simp
def Yy:decide (V.str i=V.str j)=(i==j):=by rw[ii];simp
def Yz:decide (V.Em i=V.Em j)=(i.toList==j.toList):=by rw[ii];cases i;cases j;simp
section
variable {X:Cx}{a b c:Expr}{ta tb tc:TE}{pos:Pos}
def fK {ao:AF}{σ:St}{H:Hp}{s:Shared}{Q:VK}{k j:Bool}(I:aX X ao σ H s)(q:Q (.bl k) H)(e:k=j):EP X ao σ Q (.bool j) s:=by subst e;show⟨.bl k,H,I,rL,q⟩
def iC:ji X (compareOp .Eq) rEq:=by
 intro ao s σ H x y v u Q I F D h;let⟨hs,q⟩:=h;cases x with
 | non=>
  cases F;cases y with
  | non=>cases D;show PySem.EqNone.eq_none_none (fK I q qo)
  | bl j=>cases D;show PySem.EqNone.eq_none_bool (fK I q qo)
  | int j=>let⟨t',rfl⟩:=D;show PySem.EqNone.eq_none_int (fK I q qo)
  | str j=>let⟨t',rfl⟩:=D;show PySem.EqNone.eq_none_str (fK I q qo)
  | _=>show absurd (show false=true from hs) b9
 | bl i=>
  cases F;cases y with
  | non=>cases D;show PySem.EqNone.eq_bool_none (fK I q qo)
  | bl j=>cases D;show eq_bool (fK I q abW)
  | str j=>let⟨t',rfl⟩:=D;show PySem.EqMixed.eq_bool_str (fK I q qo)
  | _=>show absurd (show false=true from hs) b9
 | int i=>
  let⟨t,rfl⟩:=F;cases y with
  | non=>cases D;show PySem.EqNone.eq_int_none (fK I q qo)
  | int j=>let⟨t',rfl⟩:=D;show eq_int (fK I q Yx)
  | str j=>let⟨t',rfl⟩:=D;show PySem.EqMixed.eq_int_str (fK I q qo)
  | _=>show absurd (show false=true from hs) b9
 | str i=>
  let⟨t,rfl⟩:=F;cases y with
  | non=>cases D;show PySem.EqNone.eq_str_none (fK I q qo)
  | bl j=>cases D;show PySem.EqMixed.eq_str_bool (fK I q qo)
  | int j=>let⟨t',rfl⟩:=D;show PySem.EqMixed.eq_str_int (fK I q qo)
  | str j=>let⟨t',rfl⟩:=D;show eq_str (fK I q Yy)
  | _=>show absurd (show false=true from hs) b9
 | Em i=>
  let⟨t,rfl⟩:=F;cases y with
  | Em j=>let⟨t',rfl⟩:=D;show W.eq_bytes (fK I q Yz)
  | _=>show absurd (show false=true from hs) b9
 | _=>cases y <;> show absurd (show false=true from hs) b9
def CN:ji X (compareOp .NotEq) rNe:=by
 intro ao s σ H x y v u Q I F D h;let⟨hs,q⟩:=h;cases x with
 | non=>
  cases F;cases y with
  | non=>cases D;show PySem.EqNone.ne_none_none (fK I q qo)
  | bl j=>cases D;show PySem.EqNone.ne_none_bool (fK I q qo)
  | int j=>let⟨t',rfl⟩:=D;show PySem.EqNone.ne_none_int (fK I q qo)
  | str j=>let⟨t',rfl⟩:=D;show PySem.EqNone.ne_none_str (fK I q qo)
  | _=>show absurd (show false=true from hs) b9
 | bl i=>
  cases F;cases y with
  | non=>cases D;show PySem.EqNone.ne_bool_none (fK I q qo)
  | bl j=>cases D;show ne_bool (fK I q (congrArg not abW))
  | str j=>let⟨t',rfl⟩:=D;show PySem.EqMixed.ne_bool_str (fK I q qo)
  | _=>show absurd (show false=true from hs) b9
 | int i=>
  let⟨t,rfl⟩:=F;cases y with
  | non=>cases D;show PySem.EqNone.ne_int_none (fK I q qo)
  | int j=>let⟨t',rfl⟩:=D;show ne_int (fK I q (congrArg not Yx))
  | str j=>let⟨t',rfl⟩:=D;show PySem.EqMixed.ne_int_str (fK I q qo)
  | _=>show absurd (show false=true from hs) b9
 | str i=>
  let⟨t,rfl⟩:=F;cases y with
  | non=>cases D;show PySem.EqNone.ne_str_none (fK I q qo)
  | bl j=>cases D;show PySem.EqMixed.ne_str_bool (fK I q qo)
  | int j=>let⟨t',rfl⟩:=D;show PySem.EqMixed.ne_str_int (fK I q qo)
  | str j=>let⟨t',rfl⟩:=D;show ne_str (fK I q (congrArg not Yy))
  | _=>show absurd (show false=true from hs) b9
 | Em i=>
  let⟨t,rfl⟩:=F;cases y with
  | Em j=>let⟨t',rfl⟩:=D;show W.ne_bytes (fK I q (congrArg not Yz))
  | _=>show absurd (show false=true from hs) b9
 | _=>cases y <;> show absurd (show false=true from hs) b9
def uo:ji X (compareOp .Lt) (Qv λi j=>.bl (decide (i<j))):=aap λ_ _ _ _ _ _ _ q=>lt_int q
def rZ:ji X (compareOp .LtE) (Qv λi j=>.bl (decide (i<=j))):=aap λ_ _ _ _ _ _ _ q=>le_int q
def ajM:ji X (compareOp .Gt) (Qv λi j=>.bl (decide (j<i))):=aap λ_ _ _ _ _ _ _ q=>gt_int q
def Ie:ji X (compareOp .GtE) (Qv λi j=>.bl (decide (j<=i))):=aap λ_ _ _ _ _ _ _ q=>ge_int q
def abX:ji X (compareOp .In) (λx y H Q=>∃i j,x=.str i/\y=.str j/\Q (.bl (!(Builtin.Str.occurrences j i 0 j.length 1).isEmpty)) H):=by intro ao s σ H x y v u Q I F D h;let⟨i,j,rfl,rfl,q⟩:=h;let⟨t,rfl⟩:=F;let⟨t',rfl⟩:=D;show in_str (fK I q rL)
def ahR:ji X (compareOp .Is) (λx y H Q=>y=.non/\Q (.bl (decide (x=.non))) H):=by
 intro ao s σ H x y v u Q I j D h;let⟨rfl,q⟩:=h;cases D;calc is_none_gen (fK I q ?_);cases x <;> first| (cases j;rfl)| (let⟨t,rfl⟩:=j;rfl)
def bO (b)(h:op≠.In:=by decide)(h2:op≠.NotIn:=by decide):behindInMarks op b=false:=by
 let e1:(op==CmpOp.In)=false:=by cases op <;> first|rfl|show absurd rL h
 let e2:(op==CmpOp.NotIn)=false:=by cases op <;> first|rfl|show absurd rL h2
 cases b <;> simp[behindInMarks,e1,e2]
def gq (G:ji X (compareOp op) r)(ha:QE X a ta)(hb:QE X b tb)(hm:behindInMarks op b=false):QE X (.Compare a [op] [b] pos) (TF r ta tb):=⟨by
 intro ao s σ H Q I h;show wpAny_Compare1 (adV ha.out hb.out I h λv u s2 x y F J j D q=>G ao s2 σ F x y v u Q J j D q) hm⟩
def aar (t:TE):TT:=λσ H Q=>t σ H λx H'=>Qp x λk=>Q k H'
def bT (J:ji X (compareOp op) r)(ha:QE X a ta)(hb:QE X b tb)(hm:behindInMarks op b=false):QT X (.Compare a [op] [b] pos) (aar (TF r ta tb)):=⟨by
 intro ao s σ H Q I h;refine wpAny_isTrue_Compare1 (cP (ha.out ao s σ H _ I h) λv s1 ⟨x,H1,F,r1,q1⟩=>cP (hb.out ao s1 σ H1 _ F q1) λu s2 ⟨y,G,Y,r2,q2⟩=>cP (J ao s2 σ G x y v u _ Y r1 r2 q2) λc Z ⟨z,j,D,O,q3⟩=>?_) hm
 let⟨k,e,q3⟩:=uh q3;subst e;cases O;show fh ⟨j,D,q3⟩⟩
def TQ (r D:R2)(ta tb tc:TE):TE:=λσ H Q=>ta σ H λx H1=>tb σ H1 λy F=>r x y F λz j=>Qp z λk=>(if k=true then tc σ j λG I=>D y G I Q else Q (.bl false) j)
def nU (ho:ji X (compareOp op) r)(j:ji X (compareOp op') r')(ha:QE X a ta)(hb:QE X b tb)(hc:QE X c tc)(hm:lastMarks [op,op'] [b,c]=false:=by with_unfolding_all rfl):QE X (.Compare a [op,op'] [b,c] pos) (TQ r r' ta tb tc):=⟨by
 intro ao s σ H Q I h;refine Compare_chain (cP (ha.out ao s σ H _ I h) λv s1 ⟨x,H1,O,r1,q1⟩=>chain_link (cP (hb.out ao s1 σ H1 _ O q1) λu s2 ⟨y,H2,I2,r2,q2⟩=>cP (ho ao s2 σ H2 x y v u _ I2 r1 r2 q2) λd Y ⟨z,D,F,r3,q3⟩=>?_)) hm
 let⟨k,e,q3⟩:=uh q3;subst e;cases r3;calc fh ?_;cases k with
 | false=>show ite_ff ⟨.bl false,D,F,rL,q3⟩
 | true=>show ite_tt (chain_last (cP (hc.out ao Y σ D _ F q3) λw' G ⟨z',J,I4,Z,q4⟩=>j ao G σ J y z' u w' Q I4 r2 Z q4))⟩
def CP (ho:ji X (compareOp op) r)(j:ji X (compareOp op') r')(ha:QE X a ta)(hb:QE X b tb)(hc:QE X c tc)(hm:lastMarks [op,op'] [b,c]=false:=by with_unfolding_all rfl):QT X (.Compare a [op,op'] [b,c] pos) (aar (TQ r r' ta tb tc)):=⟨by
 intro ao s σ H Q I h;refine isTrue_chain (cP (ha.out ao s σ H _ I h) λv s1 ⟨x,H1,I1,r1,q1⟩=>test_link (cP (hb.out ao s1 σ H1 _ I1 q1) λu s2 ⟨y,H2,I2,r2,q2⟩=>cP (ho ao s2 σ H2 x y v u _ I2 r1 r2 q2) λd s3 ⟨z,D,F,r3,q3⟩=>?_)) hm
 let⟨k,e,q3⟩:=uh q3;subst e;cases r3;calc fh ?_;cases k with
 | false=>let⟨k',Y,q'⟩:=uh q3;cases Y;show ite_ff ⟨D,F,q'⟩
 | true=>calc ite_tt (test_last (cP (hc.out ao s3 σ D _ F q3) λw' G ⟨z',O,I4,r4,q4⟩=>cP (j ao G σ O y z' u w' _ I4 r2 r4 q4) λd' s5 ⟨z2,J,I5,Z,q5⟩=>?_));let⟨k2,e2,q5⟩:=uh q5;subst e2;cases Z;show fh ⟨J,I5,q5⟩⟩
def Bu:(sizeLine:Nat)<2^63:=by rw[sizeLine_eq];decide
def aas:ji X (binaryOp .Add) (λx y H Q=>∃i j,x=.str i/\y=.str j/\i.length+j.length<=sizeLine/\Q (.str (i++j)) H):=by intro ao s σ H x y v u Q I D F h;let⟨i,j,rfl,rfl,hz,q⟩:=h;let⟨t,rfl⟩:=D;let⟨t',rfl⟩:=F;show add_str (λt' tk=>⟨.str (i++j),H,I.tok _,⟨_,rL⟩,q⟩) hz
def vals1 (r:Vals [x] us):∃u,us=[u]/\cW x u:=by
 cases r with| cons r1 r2=>cases r2;show⟨_,rL,r1⟩
def vals2 (r:Vals [x,y] us):∃u j,us=[u,j]/\cW x u/\cW y j:=by
 cases r with
 | cons r1 r2=>
  cases r2 with| cons r3 r4=>cases r4;show⟨_,_,rL,r1,r3⟩
def Qw (F:X.calm=true):jJ X (.builtin "max") (λxs H Q=>∃i j,xs=[.int i,.int j]/\Q (.int (if j > i then j else i)) H):=by
 intro ao s σ H xs us Q I r h;let⟨i,j,rfl,q⟩:=h;obtain⟨u,G,rfl,⟨t,rfl⟩,⟨t',rfl⟩⟩:=vals2 r;refine max_two_ints (I.ok.hd F) λh' tk k=>⟨_,H,I.kept k,?_,q⟩
 by_cases D:j > i;.rw[if_pos D,if_pos D];show⟨_,rL⟩
 .rw[if_neg D,if_neg D];show⟨_,rL⟩
def Qx (F:X.calm=true):jJ X (.builtin "min") (λxs H Q=>∃i j,xs=[.int i,.int j]/\Q (.int (if j<i then j else i)) H):=by
 intro ao s σ H xs us Q I r h;let⟨i,j,rfl,q⟩:=h;obtain⟨u,G,rfl,⟨t,rfl⟩,⟨t',rfl⟩⟩:=vals2 r;refine min_two_ints (I.ok.hd F) λh' tk k=>⟨_,H,I.kept k,?_,q⟩
 by_cases D:j<i;.rw[if_pos D,if_pos D];show⟨_,rL⟩
 .rw[if_neg D,if_neg D];show⟨_,rL⟩
def Qy:jJ X (.type "int") (λxs H Q=>(∃i,xs=[.int i]/\Q (.int i) H)\/∃k,xs=[.bl k]/\Q (.int (if k then 1 else 0)) H):=by
 intro ao s σ H xs us Q I r h;rcases h with⟨i,rfl,q⟩|⟨k,rfl,q⟩
 .let⟨u,rfl,t,rfl⟩:=vals1 r;show call_int_int ⟨.int i,H,I,⟨_,rL⟩,q⟩
 .let⟨u,rfl,r1⟩:=vals1 r;cases r1;show call_int_bool ⟨.int (if k then 1 else 0),H,I.tok _,⟨_,rL⟩,q⟩
end
structure JK (h:Heap)(x dx C:Addr)(mA:Str->Option Value):Prop where
 obj:h.get? x=some (W.instObj C dx)
 ns:h.Ns1 dx mA
 ne:dx≠x
def Qz {h:Heap}(n:h.Ns1 dx mA):∃od,h.get? dx=some od/\∀name,W.lookIn name od=some (mA name):=by
 let⟨o,es,ep,G,hd,F,_,hm⟩:=n;calc⟨o,G,λname=>?_⟩;let e:=hm name;unfold nsFind findBy at e;rw[<-Array.find?_toList]at e;unfold W.lookIn;rw[hd];dsimp only;split
 .rename_i y q;rw[q]at e;show congrArg some e
 .rename_i q;rw[q]at e;let a:es.toList.any (·.refKey)=false:=by
   rw[List.any_eq_false];intro y hy;let⟨z,t,j⟩:=F y (Array.mem_toList_iff.mp hy);simp[DictEntry.refKey,j]
  let D:¬es.toList.any (·.refKey)=true:=by rw[a];show b9
  rw[if_neg D];show congrArg some e
def JK.look (I:JK h x dx C mA):∃od,W.InstAt h x (W.instObj C dx) C (some od)/\∀name,W.lookIn name od=some (mA name):=let ⟨od,ho,hl⟩:=Qz I.ns
 ⟨od,⟨I.obj,rL,rL,ho⟩,hl⟩
section
variable {prog:Program}{w:World}{A:Around}{E:AB}{s:Shared}{K:W.Frag}{x dx C f:Addr}{mA:Str->Option Value}{name:Str}{v:Value}
def get_map (X:K.In s.heap)(I:JK s.heap x dx C mA)(hg:W.plainGet K C name=true)(D:W.hasDictIn K C=true)(ha:W.findIn K (.ref C) name=some none)(hv:mA name=some v)(j:W.handedIn v=true)(h:Q v {s with toks:=s.toks+1}):wpAny (model prog w) A (getAttr (.ref x) name expr) Q E s:=by let⟨od,J,hl⟩:=I.look;show W.get_value X J (nL hg).1 (W.findObj_own D ha rL (by rw[hl,hv])) j h
def adW (X:K.In s.heap)(I:JK s.heap x dx C mA)(hg:W.plainGet K C name=true)(j:W.findIn K (.ref C) name=some (some (.ref f)))(ht:W.isFn K (.ref f)=true)(hv:mA name=none)(h:Q (.ref f,[.ref x]) s):wpAny (model prog w) A (getMethod (.ref x) name pl) Q E s:=by let⟨od,J,hl⟩:=I.look;show W.method_fn X J (nL hg).1 (nL hg).2 j (beq_iff_eq.mp ht) (by show (W.lookIn name od).map (·.isSome)=some false;rw[hl,hv];rfl) h
def afZ (X:K.In s.heap)(I:JK s.heap x dx C mA)(hs:W.findIn K (.ref C) "__setattr__"=some (some (.builtin "object.__setattr__")))(hp:W.plainOver K C=true)(ht:W.takerIn K C name=some none)(hh:W.hasDictIn K C=true)(hw:PySem.Within mA ns)(hsz:ns.length<=sizeLine)(h:∀h',JK h' x dx C (λy=>if y=name then some v else mA y)->Heap.SameBut dx s.heap h'->Q () {s with heap:=h',toks:=s.toks+2}):wpAny (model prog w) A (setAttr (.ref x) name v) Q E s:=by let⟨od,J,hl⟩:=I.look;calc W.set_plain X J hs (W.osa_open (s:={s with toks:=s.toks+1}) (r:=none) X J hp ht λb=>?_);let⟨cd,hc,F⟩:=W.any_some hh;let hx:s.heap.get? x=some ⟨.ref C,some dx,.plain,#[]⟩:=I.obj;calc ae (aI (ae (ae (nV hx (ae (W.Looks.here (s:={s with toks:=s.toks+1}) (W.looks_clsIn X hc) ?_))))));rw[F];calc aI (a:=some dx) (ae (aI (ae ?_)));calc wpAny_nsSet1 (s:={s with toks:=s.toks+1}) I.ns λh' j D=>?_;let⟨oD,esD,Z,O,Y,G⟩:=j.count (oB name v hw);calc ae (wpAny_lookBehind O (by rw[Y];show pastItsLine_dict (b8 G (by rw[dA];show g9 hsz))) ?_);show aI (h _ ⟨(D.2 _ (gm I.ne)).trans I.obj,j,I.ne⟩ D)
def adX (X:K.In s.heap)(hm:W.makesIn K C=true)(hi:W.findIn K (.ref C) "__init__"=some (some (.ref f)))(j:W.typeIn K (.ref f)=some (.type "function"))(h:codeAny (model prog w) (A.under (.builtin "type.__call__" ⟨.ref C::vs,kw⟩)) (.call (.ref f) ⟨.ref (s.heap.objs.size+1)::vs,kw⟩) (W.InitBack (s.heap.objs.size+1) R) {s with heap:=(s.heap.push W.emptyDict).push (W.instObj C s.heap.objs.size)}):codeAny (model prog w) A (.call (.ref C) ⟨vs,kw⟩) R s:=by let⟨D,g,d,t,os⟩:=s;show W.make_core (W.makes_of X hm) (W.looks_findIn X hi) (λself=>W.bind_fn X self j) (.inl rL) h
end
def jx (f:Str)(v:V):List (Str×V)->List (Str×V)
 | []=>[(f,v)]
 | (g,x)::r=>if g=f then (g,v)::r else (g,x)::jx f v r
theorem Al (f g)(v):∀fs:List (Str×V),(jx f v fs).lookup g=if g=f then some v else fs.lookup g
 | []=>by
  show List.lookup g [(f,v)]=_;by_cases h:g=f
  .let hb:(g==f)=true:=beq_iff_eq.mpr h;simp only[List.lookup,hb,if_pos h]
  .let hb:(g==f)=false:=beq_eq_false_iff_ne.mpr h;simp only[List.lookup,hb,if_neg h]
 | (k,x)::r=>by
  let D:=Al f g v r;rw[show jx f v ((k,x)::r)=(if k=f then (k,v)::r else (k,x)::jx f v r) from rfl];by_cases j:k=f
  .rw[if_pos j];by_cases h:g=k
   .let hb:(g==k)=true:=beq_iff_eq.mpr h;simp only[List.lookup,hb,if_pos (h.trans j)]
   .let hb:(g==k)=false:=beq_eq_false_iff_ne.mpr h;simp only[List.lookup,hb,if_neg (λe:g=f=>h (e.trans j.symm))]
  .rw[if_neg j];by_cases h:g=k
   .let hb:(g==k)=true:=beq_iff_eq.mpr h;simp only[List.lookup,hb,if_neg (λe:g=f=>j (h.symm.trans e))]
   .let hb:(g==k)=false:=beq_eq_false_iff_ne.mpr h;simp only[List.lookup,hb];show D
theorem wW (f)(v):∀fs:List (Str×V),f∈(jx f v fs).map (·.1)/\∀g,g∈fs.map (·.1)->g∈(jx f v fs).map (·.1)
 | []=>⟨by simp[jx],λg h=>by simp at h⟩
 | (k,x)::r=>by
  let⟨i1,i2⟩:=wW f v r;rw[show jx f v ((k,x)::r)=(if k=f then (k,v)::r else (k,x)::jx f v r) from rfl];by_cases j:k=f
  .rw[if_pos j];subst j;show⟨qo,λg h=>by simpa using h⟩
  .rw[if_neg j];refine⟨?_,λg h=>?_⟩
   .rw[cq];show bE _ i1
   .rw[cq]at h ⊢;rcases bX.mp h with e|e;.show bX.mpr (.inl e)
    .show bE _ (i2 g e)
theorem Am (f)(v):∀fs:List (Str×V),(jx f v fs).length<=fs.length+1
 | []=>by simp[jx]
 | (k,x)::r=>by
  let D:=Am f v r;rw[show jx f v ((k,x)::r)=(if k=f then (k,v)::r else (k,x)::jx f v r) from rfl];by_cases j:k=f;.rw[if_pos j,dA,dA];lia
  .rw[if_neg j,dA,dA];show g9 D
def nQ.some_of (r:nQ (some v) o):∃u,o=some u/\cW v u:=by
 cases o with| none=>show(show False from r).elim| some u=>show⟨u,rL,r⟩
def nQ.none_of (r:nQ none o):o=none:=by
 cases o with| none=>rfl| some u=>show(show False from r).elim
def E_ (r:cW v u):W.handedIn u=true:=by
 cases v with
 | non=>cases(show u=Value.none from r);rfl
 | bl b=>cases(show u=Value.bool b from r);rfl
 | int i=>let⟨t,e⟩:=(show ∃t,u=Value.int i t from r);cases e;rfl
 | str x=>let⟨t,e⟩:=(show ∃t,u=Value.str x t from r);cases e;rfl
 | Em b=>let⟨t,e⟩:=(show ∃t,u=Value.bytes b t from r);cases e;rfl
 | flt b=>let⟨t,e⟩:=(show ∃t,u=Value.float b t from r);cases e;rfl
 | ref a=>cases(show u=Value.ref a from r);rfl
 | ty n=>cases(show u=Value.type n from r);rfl
section
variable {P:Program}{w:World}{H:Hp}{h:Heap}{a C dx:Addr}{fs:List (Str×V)}
def Bv (hok:lX P w H h)(e:H a=some (.ins C dx fs)):∃mA,JK h a dx C mA/\(∀f,nQ (fs.lookup f) (mA f))/\PySem.Within mA (fs.map (·.1))/\fs.length<=1000/\H dx=some (.own a):=by
 let⟨d,z,ne,ob,mA,n,r,q⟩:=(show ig P w H h a (.ins C dx fs) from hok a _ e)
 show⟨mA,⟨ob,n,ne⟩,r,q,z,d⟩
end
structure Cls (K:W.Frag)(C:Addr):Prop where
 pg:W.plainGet K C Str.empty=true
 hd:W.hasDictIn K C=true
 po:W.plainOver K C=true
 sa:W.findIn K (.ref C) "__setattr__"=some (some (.builtin "object.__setattr__"))
def Cls.get {K:W.Frag}(c:Cls K C)(f:Str):W.plainGet K C f=true:=c.pg
def jG (K:W.Frag)(C:Addr)(f:Str):Prop:=W.findIn K (.ref C) f=some none
def jG.taker {K:W.Frag}{f:Str}(n:jG K C f):W.takerIn K C f=some none:=by unfold W.takerIn;rw[show W.findIn K (.ref C) f=some none from n];rfl
structure Meth (K:W.Frag)(C:Addr)(m:Str)(f:Addr):Prop where
 at_:W.findIn K (.ref C) m=some (some (.ref f))
 fn:W.isFn K (.ref f)=true
 kp:W.keepIn K (.ref f)=true
section
variable {X:Cx}{ao:AF}{σ:St}{H:Hp}{s:Shared}{a C dx:Addr}{fs:List (Str×V)}{f:Str}{v:V}{A:Around}{E:AB}
def aat (I:aX X ao σ H s)(e:H a=some (.ins C dx fs))(c:Cls X.K C)(n:jG X.K C f)(l:fs.lookup f=some v)(h:∀u s',aX X ao σ H s'->cW v u->Q u s'):wpAny (model X.prog X.w) A (getAttr (.ref a) f b) Q E s:=by let⟨mA,O,r,_,_,_⟩:=Bv I.hok e;let⟨u,D,j⟩:=nQ.some_of (v:=v) (o:=mA f) (by rw[<-l];show r f);show get_map I.je O (c.get f) c.hd n D (E_ j) (h u _ (I.tok _) j)
def CQ (I:aX X ao σ H s)(e:H a=some (.ins C dx fs))(c:Cls X.K C)(k:Meth X.K C m g)(l:fs.lookup m=none)(h:Q (.ref g,[.ref a]) s):wpAny (model X.prog X.w) A (getMethod (.ref a) m pl) Q E s:=by let⟨mA,O,r,_,_,_⟩:=Bv I.hok e;let hn:mA m=none:=nQ.none_of (by rw[<-l];show r m);show adW I.je O (c.get m) k.at_ k.fn hn h
def aau (I:aX X ao σ H s)(e:H a=some (.ins C dx fs))(c:Cls X.K C)(n:jG X.K C f)(hl:fs.length<1000)(F:cW y u)(h:∀s',aX X ao σ (upd H a (.ins C dx (jx f y fs))) s'->Q () s'):wpAny (model X.prog X.w) A (setAttr (.ref a) f u) Q E s:=by
 let⟨mA,O,r,wi,_,D⟩:=Bv I.hok e;let hz:(fs.map (·.1)).length<=sizeLine:=by rw[aa,sizeLine_eq];lia
 calc afZ I.je O c.sa c.po n.taker c.hd wi hz λh' j G=>h _ ?_;let hd:∃o,h'.get? dx=some o:=let ⟨o,_,_,e',_⟩:=j.ns;⟨o,e'⟩
 calc I.write (x:=a) (e:=dx) (by rw[e];show True.intro) (.inr D) (λb q hb z=>(G.2 b hb).trans z) hd ?_;calc⟨by rw[bw O.ne];show D,?_,O.ne,j.obj,_,j.ns,λg=>?_,λg hg=>?_⟩;.have:=Am f y fs;lia
 .show nQ ((jx f y fs).lookup g) (if g=f then some u else mA g);rw[Al];by_cases q:g=f;.rw[if_pos q,if_pos q];show F
  .rw[if_neg q,if_neg q];show r g
 .by_cases q:g=f;.rw[q];show(wW f y fs).1
  .calc(wW f y fs).2 g (wi g λz=>hg ?_);show (if g=f then some u else mA g)=none;rw[if_neg q];show z
def aX.made (I:aX X ao σ H s):aX X ao σ (upd (upd H s.heap.objs.size (.own (s.heap.objs.size+1))) (s.heap.objs.size+1) (.ins C s.heap.objs.size [])) {s with heap:=(s.heap.push W.emptyDict).push (W.instObj C s.heap.objs.size)}:=by
 let e1:(s.heap.push W.emptyDict).get? s.heap.objs.size=some W.emptyDict:=bu s.heap rfl;let e2:((s.heap.push W.emptyDict).push (W.instObj C s.heap.objs.size)).get? (s.heap.objs.size+1)=some (W.instObj C s.heap.objs.size):=by
  have:=bu (s.heap.push W.emptyDict) (o:=W.instObj C s.heap.objs.size) rfl
  rwa [fk]at this
 let e3:(s.heap.push W.emptyDict).Ns s.heap.objs.size (λ_=>none):=⟨W.emptyDict,#[],_,e1,rL,(λe D=>absurd D qo),λ_=>rfl⟩
 let j:=I.laid (a:=s.heap.objs.size) (o:=.own (s.heap.objs.size+1)) (h':=s.heap.push W.emptyDict) (t':=s.toks) (λb u q=>ag _ q) (ax _) ⟨_,e1⟩;calc j.laid (a:=s.heap.objs.size+1) (o:=.ins C s.heap.objs.size []) (t':=s.toks) (λb u q=>ag _ q) (iS (fk _ _)) ?_;let ne:s.heap.objs.size≠s.heap.objs.size+1:=cv (gX _);refine⟨by rw[bw ne,aA],fe _,ne,e2,λ_=>none,(Heap.Ns1.of_empty e3).at λo q=>ag _ q,λ_=>True.intro,λy hy=>absurd rL hy⟩
def N_ (hb:attributeBase e f env (eval e env)=eval e env)(h:wpAny (model prog w) A (eval e env) (λo j=>wpAny (model prog w) A (getAttr o f true) Q E j) E s):wpAny (model prog w) A (eval (.Attribute e f pos) env) Q E s:=Attribute_any_ h (by rw[arm_eval_Attribute,hb])
end
def adY (K:W.Frag)(ta:TE)(f:Str):TE:=λσ H Q=>ta σ H λx H1=>∃a C dx fs v,x=.ref a/\H1 a=some (.ins C dx fs)/\Cls K C/\jG K C f/\fs.lookup f=some v/\Q v H1
def akQ (K:W.Frag)(ta tv:TE)(f:Str):TS:=λD σ H=>tv σ H λy H1=>ta σ H1 λx j=>∃a C dx fs,x=.ref a/\j a=some (.ins C dx fs)/\Cls K C/\jG K C f/\fs.length<1000/\
 D.nx σ (upd j a (.ins C dx (jx f y fs)))
section
variable {X:Cx}{o e value:Expr}{f:Str}{pos pos':Pos}{ta tv:TE}
variable {ao:AF}{σ:St}{H:Hp}{s:Shared}{A:Around}{E Q:AB}{c:Value}{b:Bool}
def cF (J:QE X e ta)(hb:attributeBase e f X.env (eval e X.env)=eval e X.env):QE X (.Attribute e f pos) (adY X.K ta f):=⟨by
 intro ao s σ H Q I h;calc N_ hb (cP (J.out ao s σ H _ I h) λu s1 ⟨x,H1,D,F,a,C,dx,fs,v,ex,j,c,n,l,q⟩=>?_);subst ex;obtain rfl:u=Value.ref a:=F;show aat D j c n l λY s2 O G=>⟨v,H1,O,G,q⟩⟩
def nj (ha:QE X o ta)(hv:QE X value tv)(hs:swapsWith value (some (.Attribute o f pos')) pos.line X.env=pure false):QS X (.Assign [.Attribute o f pos'] value pos) (akQ X.K ta tv f):=⟨by
 intro ao s σ H D I h;calc plainObj_wpAny_Assign_Attribute (cP (hv.out ao s σ H _ I h) λu s1 ⟨y,H1,G,O,q⟩=>cP (ha.out ao s1 σ H1 _ G q) λov s2 ⟨x,H2,Y,J,a,C,dx,fs,ex,j,c,n,l,q2⟩=>?_) hs;subst ex;obtain rfl:ov=Value.ref a:=J;show aau Y j c n l O λZ F=>⟨σ,_,F,q2⟩⟩
inductive oM (K:W.Frag) (H:Hp):V->Value->Prop where
 | non:oM K H .non (.type "NoneType")
 | bl (x:Bool):oM K H (.bl x) (.type "bool")
 | int (i:Int):oM K H (.int i) (.type "int")
 | str (x:Str):oM K H (.str x) (.type "str")
 | flt (x:UInt64):oM K H (.flt x) (.type "float")
 | lst {a:Addr} {xs:List V} (e:H a=some (.lst xs)):oM K H (.ref a) (.type "list")
 | rO {a:Addr} {o:Obj} {xs:List V} (e:H a=some (.rO o (.lst xs))):oM K H (.ref a) (.type "list")
 | tup {a:Addr} {xs:List V} (e:H a=some (.tup xs)):oM K H (.ref a) (.type "tuple")
 | dK {a:Addr} {kvs:List (Key×V)} (e:H a=some (.dK kvs)):oM K H (.ref a) (.type "dict")
 | dT {a:Addr} {kvs:List (List Key×V)} (e:H a=some (.dT kvs)):oM K H (.ref a) (.type "dict")
 | ins {a C dx:Addr} {fs:List (Str×V)} (e:H a=some (.ins C dx fs)) (cl:Cls K C) (ha:W.findIn K (.ref C) "__class__"=some (some (.builtin "object.__class__")))
   (hn:W.specialIn K (.builtin "object.__class__") "__get__"=some (some (.builtin "getset_descriptor.__get__"))) (htk:W.takesIn K (.builtin "object.__class__")=some true)
   (hm:W.mroIn K C (.type "object")=some true):oM K H (.ref a) (.ref C)
def abY (I:aX X ao σ H s)(j:cW x u)(ty:oM X.K H x t)(e:W.kitOne X.K t c=some b)(h:∀tk,Q (.bool b) {s with toks:=tk}):wpAny (model X.prog X.w) A (call (.builtin "isinstance") [u,c]) Q E s:=by
 cases ty with
 | non=>cases(show u=Value.none from j);show fm W.kitx_none I.je True.intro e (λz=>nomatch z) h
 | bl y=>cases(show u=Value.bool y from j);show fm W.kitx_bool I.je True.intro e (λz=>nomatch z) h
 | int i=>let⟨t,q⟩:=(show ∃t,u=Value.int i t from j);cases q;show fm W.kitx_int I.je True.intro e (λz=>nomatch z) h
 | str y=>let⟨t,q⟩:=(show ∃t,u=Value.str y t from j);cases q;show fm W.kitx_str I.je True.intro e (λz=>nomatch z) h
 | flt y=>let⟨t,q⟩:=(show ∃t,u=Value.float y t from j);cases q;show fm W.kitx_float I.je True.intro e (λz=>nomatch z) h
 | @lst a xs ea=>
  cases(show u=Value.ref a from j);let⟨_,_,n,_,h1⟩:=(show ig X.prog X.w H s.heap a (.lst xs) from I.hok a _ ea)
  show fm W.kitx_list I.je ⟨_,h1,rL⟩ e (λz=>nomatch z) h
 | @rO a ob xs ea=>
  cases(show u=Value.ref a from j);let⟨_,_,_,n,_,h1⟩:=(show ig X.prog X.w H s.heap a (.rO ob (.lst xs)) from I.hok a _ ea)
  show fm W.kitx_list I.je ⟨_,h1,rL⟩ e (λz=>nomatch z) h
 | @tup a xs ea=>
  cases(show u=Value.ref a from j);let⟨_,_,_,p⟩:=(show ig X.prog X.w H s.heap a (.tup xs) from I.hok a _ ea)
  let⟨o,h1,h2,_⟩:=p;show fm W.kitx_tuple I.je ⟨o,h1,h2⟩ e (λz=>nomatch z) h
 | @dK a kvs ea=>
  cases(show u=Value.ref a from j);let⟨_,_,vs,_,p⟩:=(show ig X.prog X.w H s.heap a (.dK kvs) from I.hok a _ ea)
  let⟨o,es,ep,h1,h2,_⟩:=p;show fm W.kitx_dict I.je ⟨o,h1,h2.1⟩ e (λz=>nomatch z) h
 | @dT a kvs ea=>
  cases(show u=Value.ref a from j);let⟨_,_,xs,_,o,es,ep,h1,h2,_⟩:=(show ig X.prog X.w H s.heap a (.dT kvs) from I.hok a _ ea)
  show fm W.kitx_dict I.je ⟨o,h1,h2.1⟩ e (λz=>nomatch z) h
 | @ins a C dx fs ea cl ha hn htk hm=>cases(show u=Value.ref a from j);let⟨mA,O,_⟩:=Bv I.hok ea;let⟨od,J,_⟩:=O.look;show fm (W.kitx_own (cl.get _) cl.hd ha hn htk hm) I.je J e (λz=>nomatch z) h
end
structure iu (k:Nat)(A:Around):Prop where
 hd:A.handled=none
 dp:A.depth+3*k+5<recursionLimit
 un:A.units+16*k+200<cLine
def iu.mono (r:iu k A)(h:j<=k:=by decide):iu j A:=⟨r.hd,by have:=r.dp;lia,by have:=r.un;lia⟩
def iu.deeper (r:iu (k+1) A)(env):iu k (A.deeper env):=⟨r.hd,by have:=r.dp;show A.depth+1+3*k+5<_;lia,by have:=r.un;show A.units+3+16*k+200<_;lia⟩
def aav {A:Around}:(A.under (.builtin "type.__call__" ⟨.ref C::us,kw⟩)).depth=A.depth+1:=by first|rfl|simp[Around.under,Code.weight,Code.isCreation,Code.isGuard,Code.isCaller,Code.frames,Code.isFrame,guardIds]
def aaw {A:Around}:(A.under (.builtin "type.__call__" ⟨.ref C::us,kw⟩)).units=A.units+1:=by first|rfl|simp[Around.under,Code.cUnits,Code.frames,Code.isFrame]
def iu.make (r:iu (k+1) A)(C)(us)(kw):iu k (A.under (.builtin "type.__call__" ⟨.ref C::us,kw⟩)):=⟨r.hd,by have:=r.dp;rw[aav];(simp_all;lia),by have:=r.un;rw[aaw];(simp_all;lia)⟩
def iu.depth (r:iu k A):A.depth<recursionLimit:=by have:=r.dp;lia
def iu.units (r:iu k A):A.units+64<cLine:=by have:=r.un;lia
def iu.ahS (r:iu k A):A.units<cLine:=by have:=r.un;lia
def TV:TA:=λ_ H Q=>Q [] H
def Ig (ta:TE)(tr:TA):TA:=λσ H Q=>ta σ H λx H1=>tr σ H1 λxs j=>Q (x::xs) j
section
variable {X:Cx}{e:Expr}{es:List Expr}{te:TE}{t:TA}{pos:Pos}
def ak  : QA X [] TV:=⟨λ_ _ _ _ H Q I h=>ir ⟨[],H,I,.nil,h⟩⟩
def aj (ha:QE X e te)(hr:QA X es t)(hs:starEach (e::es) X.env=(false,eval e X.env)::starEach es X.env:=by rfl):QA X (e::es) (Ig te t):=⟨by
 intro pos ao s σ H Q I h;rw[hs];show wpAny _ _ (spliced ((false,eval e X.env)::backTo pos (starEach es X.env))) _ _ s;calc ft (cP (ha.out ao s σ H _ I h) λu s1 ⟨x,H1,j,r1,q1⟩=>?_);show cP (hr.out pos ao s1 σ H1 _ j q1) λus s2 ⟨xs,D,F,r2,q2⟩=>⟨x::xs,D,F,.cons r1 r2,q2⟩⟩
def akR (t:TA):TE:=λσ H Q=>t σ H λxs H1=>xs.length<=sizeLine/\∀p,H1 p=none->Q (.ref p) (upd H1 p (.tup xs))
def akS (t:TA):TE:=λσ H Q=>t σ H λxs H1=>xs.length<=sizeLine/\∀p,H1 p=none->Q (.ref p) (upd H1 p (.lst xs))
def bF {x1}(h:QA X es t):QE X (.Tuple es x1 pos) (akR t):=⟨by
 intro ao s σ H Q I D;calc wpAny_Tuple_spliced (cP (h.out pos ao s σ H _ I D) λus s1 ⟨xs,H1,j,r,z,q⟩=>⟨by rw[<-r.length];show z,?_⟩);let F:H1 s1.heap.objs.size=none:=j.hok.fresh (ax _);calc⟨.ref s1.heap.objs.size,upd H1 s1.heap.objs.size (.tup xs),j.laid (t':=s1.toks) (λb u e=>ag _ e) (ax _) ?_,rL,q _ F⟩;show⟨z,us,r,⟨_,bu _ rL,rL,_,rL⟩⟩⟩
def g_ (h:QA X es t):QE X (.List es pos) (akS t):=⟨by
 intro ao s σ H Q I D;calc wpAny_List_spliced (cP (h.out pos ao s σ H _ I D) λus s1 ⟨xs,H1,j,r,z,q⟩=>⟨by rw[<-r.length];show z,?_⟩);let F:H1 s1.heap.objs.size=none:=j.hok.fresh (ax _);calc⟨.ref s1.heap.objs.size,upd H1 s1.heap.objs.size (.lst xs),j.laid (t':=s1.toks) (λb u e=>ag _ e) (ax _) ?_,rL,q _ F⟩;show⟨z,us,0,r,bu _ rL⟩⟩
end
abbrev Sp:=List V->Hp->VK->XK->Prop
abbrev Bw:=List Env->Hp->Shared->XK->Value->Shared->Prop
structure CV (P:Program)(w:World)(K:W.Frag)(mg:Str->Option Value)(base:Heap)(A:Around)(outer:List Env)(s:Shared)(H:Hp):Prop where
 frames:A.frames=some outer
 mod:Mod K mg base
 bs:∀b o,base.get? b=some o->s.heap.get? b=some o/\H b=none
 zJ:base.objs.size<=s.heap.objs.size
 ql:s.heap.FunFrames base outer
 Bs:∀b∈frs outer,H b=none
 hok:lX P w H s.heap
 bare:AllBare s.gens
def CE (outer:List Env)(P:Program)(w:World)(H:Hp)(s:Shared)(Q:VK)(u:Value)(s':Shared):Prop:=∃v H',s'.os=s.os/\AllBare s'.gens/\Un (frs outer) [] H H' s.heap s'.heap/\lX P w H' s'.heap/\cW v u/\Q v H'
def CR (CX:Bw)(outer:List Env)(P:Program)(w:World)(H:Hp)(s:Shared)(Q:VK)(E:XK)(r:Result)(s':Shared):Prop:=match r with| .ok (.ret u)=>CE outer P w H s Q u s'| .ok _=>False| .error e=>CX outer H s E e s'
structure cU (P:Program)(w:World)(K:W.Frag)(mg:Str->Option Value)(base:Heap)(CX:Bw)(k:Nat)(f:Addr)(fd:FuncData)(ps:List Str)(sp:Sp):Prop where
 len:∀vs H Q E,sp vs H Q E->vs.length=ps.length
 run:∀(A:Around) (outer:List Env) (s:Shared) (H:Hp) (args:Args) (us:List Value) (vs:List V) (Q:VK) (E:XK),iu k A->CV P w K mg base A outer s H->BindsTo s fd args (ps.zip us)->Vals vs us->sp vs H Q E->
  codeAny (model P w) A (.call (.ref f) args) (CR CX outer P w H s Q E) s
def CV.make {K:W.Frag}{mg:Str->Option Value}{outer:List Env}(e:CV P w K mg base A outer s H)(C:Addr)(us:List Value)(j:List (Str×Value)):CV P w K mg base (A.under (.builtin "type.__call__" ⟨.ref C::us,j⟩)) outer s H:=⟨by first|show e.frames|(simpa [Around.under,Code.envs,Code.isFrame,pushEnvs] using e.frames),e.mod,e.bs,e.zJ,e.ql,e.Bs,e.hok,e.bare⟩
section
variable {X:Cx}{ao:AF}{σ:St}{H:Hp}{s s':Shared}
def aX.env0 (I:aX X ao σ H s):CV X.prog X.w X.K X.mg X.base X.A X.stack s H:=⟨I.ok.frames,I.ok.mod,I.bs,b8 I.ok.zJ I.sz,I.stack,I.Bt,I.hok,I.bare⟩
def aX.after (I:aX X ao σ H s)(h:CE X.stack X.prog X.w H s Q u s'):EP X ao σ Q u s':=by let⟨v,H',os,bare,un,hok,r,q⟩:=h;let⟨D,g,d,t,j⟩:=s';obtain rfl:j=s.os:=os;show⟨v,H',I.call (h':=D) (g':=g) (d':=d) (t':=t) (ch:=[]) un hok bare (λb z=>absurd z qo),r,q⟩
end
def aax (sp:Sp)(rP:List V)(E:XK)(t:TA):TE:=λσ H Q=>t σ H λvs H1=>sp (vs++rP) H1 Q E
def afz (C:Addr)(m:Str)(sp:Sp)(rP:List V)(E:XK)(ta:TE)(t:TA):TE:=λσ H Q=>ta σ H λx H1=>∃a dx fs,x=.ref a/\H1 a=some (.ins C dx fs)/\fs.lookup m=none/\
 t σ H1 λvs j=>sp (x::(vs++rP)) j Q E
def ajN (C:Addr)(sp:Sp)(rP:List V)(E:XK)(t:TA):TE:=λσ H Q=>t σ H λvs H1=>∀x dx,H1 x=none->H1 dx=none->dx≠x->
 sp (.ref x::(vs++rP)) (upd (upd H1 dx (.own x)) x (.ins C dx [])) (λv j=>v=.non/\Q (.ref x) j) E
def cD (K:W.Frag)(fd:FuncData)(ps:List Str)(ds:List Value):Prop:=∀(s:Shared) (us:List Value),K.In s.heap->(us++ds).length=ps.length->BindsTo s fd ⟨us,[]⟩ (ps.zip (us++ds))
def cD.all {K:W.Frag}{ps:List Str}(h:∀us:List Value,us.length=ps.length->bindArgs fd ⟨us,[]⟩=pure (ps.zip us)):cD K fd ps []:=λs us _ hl=>by rw[e_]at hl ⊢;show .of_eq (h us hl)
def Passes (CX:Bw)(X:Cx)(E:XK):Prop:=∀(ao:AF) (σ:St) (H:Hp) (s:Shared) (e:Value) (s':Shared),aX X ao σ H s->CX X.stack H s E e s'->X.xe e s'
section
variable {X:Cx}{CX:Bw}{k:Nat}{f C:Addr}{fd:FuncData}{ps:List Str}{sp:Sp}{rP:List V}{ds:List Value}{E:XK}{x m:Str}{p pos apos:Pos}{e o:Expr}{es:List Expr}{ta:TE}{t:TA}
def TX {ao:AF}{σ:St}{H:Hp}{s:Shared}{Q:VK}{us:List Value}{vs:List V}(F:cU X.prog X.w X.K X.mg X.base CX k f fd ps sp)(hr:iu k X.A)(hb:cD X.K fd ps ds)(hd:Vals rP ds)(hx:Passes CX X E)(I:aX X ao σ H s)(r:Vals vs us)(h:sp (vs++rP) H Q E):wpAny (model X.prog X.w) X.A (call (.ref f) us) (EP X ao σ Q) X.xe s:=by
 let r2:Vals (vs++rP) (us++ds):=r.append hd;let hl:(us++ds).length=ps.length:=by rw[<-r2.length];show F.len _ _ _ _ h
 calc gu (iX (F.run X.A X.stack s H ⟨us,[]⟩ (us++ds) (vs++rP) Q E hr I.env0 (hb s us I.je hl) r2 h) λr s' j=>?_);cases r with
 | error e=>show hx ao σ H s e s' I j
 | ok fl=>
  cases fl with| ret u=>show I.after j| next=>show False.elim j| brk=>show False.elim j| cont=>show False.elim j
def af0 (F:cU X.prog X.w X.K X.mg X.base CX k f fd ps sp)(hr:iu k X.A)(hg:Gl X x)(hm:X.mg x=some (.ref f))(J:W.keepIn X.K (.ref f)=true)(hb:cD X.K fd ps ds)(hd:Vals rP ds)(hx:Passes CX X E)(ha:PA X (e::es) t)(D:(x==("__debug__":Str))=false:=by decide)(O:starEach (e::es) X.env=(false,eval e X.env)::starEach es X.env:=by rfl)(j:(backTo pos (starEach es X.env)).any (·.1)=false:=by rfl):PE X (.Call (.Name x p) (e::es) [] pos) (aax sp rP E t):=by intro ao s σ H Q I h;calc gp (oJ I hg hm ?_ D);calc ic (h₀:=X.base) I.ok.mod.En J (cP (ha pos ao s σ H _ I h) λus s1 ⟨vs,H1,G,r,q⟩=>⟨G.je,?_⟩) O j;show TX F hr hb hd hx G r q
def qT {pl:Sem Bool}(Z:QE X o ta)(c:Cls X.K C)(hm:Meth X.K C m f)(F:cU X.prog X.w X.K X.mg X.base CX k f fd ps sp)(hr:iu k X.A)(hb:cD X.K fd ps ds)(hd:Vals rP ds)(hx:Passes CX X E)(ha:QA X (e::es) t)(D:starEach (e::es) X.env=(false,eval e X.env)::starEach es X.env:=by rfl)(j:(backTo pos (starEach es X.env)).any (·.1)=false:=by rfl)(ht:eval (.Call (.Attribute o m apos) (e::es) [] pos) X.env=(do
   let ov <- eval o X.env
   standAt apos.atName
   let (f,first) <- holding [ov] (getMethod ov m pl)
   callWith pos f first (backTo pos (starEach (e::es) X.env)) (backToKw pos (keywordEach [] X.env))):=by rfl):QE X (.Call (.Attribute o m apos) (e::es) [] pos) (afz C m sp rP E ta t):=⟨by
 intro ao s σ H Q I h;calc W.methodCall_KW (pl:=pl) (cP (Z.out ao s σ H _ I h) λu s1 ⟨x,H1,G,Y,a,dx,fs,ex,O,l,q⟩=>?_) ht;subst ex;obtain rfl:u=Value.ref a:=Y;calc CQ G O c hm l ?_;calc ic (first:=[.ref a]) (h₀:=X.base) I.ok.mod.En hm.kp (cP (ha.out pos ao s1 σ H1 _ G q) λus s2 ⟨vs,H2,J,r,q2⟩=>⟨J.je,?_⟩) D j;show TX (us:=.ref a::us) (vs:=.ref a::vs) F hr hb hd hx J (.cons rL r) q2⟩
def jk (J:QE X o ta)(c:Cls X.K C)(hm:Meth X.K C m f)(F:cU X.prog X.w X.K X.mg X.base CX k f fd ps sp)(hr:iu k X.A)(hb:cD X.K fd ps ds)(hd:Vals rP ds)(hx:Passes CX X E)(ht:eval (.Call (.Attribute o m apos) [] [] pos) X.env=(do
   let ov <- eval o X.env
   standAt apos.atName
   let (f,first) <- holding [ov] (getMethod ov m pl)
   callWith pos f first (backTo pos (starEach [] X.env)) (backToKw pos (keywordEach [] X.env))):=by rfl):QE X (.Call (.Attribute o m apos) [] [] pos) (afz C m sp rP E ta TV):=⟨by
 intro ao s σ H Q I h;calc W.methodCall_KW (pl:=pl) (cP (J.out ao s σ H _ I h) λu s1 ⟨x,H1,j,G,a,dx,fs,ex,D,l,q⟩=>?_) ht;subst ex;obtain rfl:u=Value.ref a:=G;calc CQ j D c hm l ?_;show W.callWith_K0 (first:=[.ref a]) j.je hm.kp (TX (us:=[.ref a]) (vs:=[.ref a]) F hr hb hd hx j (.cons rL .nil) q)⟩
structure Mk (K:W.Frag)(C f:Addr):Prop where
 makes:W.makesIn K C=true
 init:W.findIn K (.ref C) "__init__"=some (some (.ref f))
 fn:W.isFn K (.ref f)=true
 kp:W.keepIn K (.ref C)=true
def adZ {ao:AF}{σ:St}{H:Hp}{s:Shared}{Q:VK}{us:List Value}{vs:List V}(M:Mk X.K C f)(F:cU X.prog X.w X.K X.mg X.base CX k f fd ps sp)(hr:iu (k+1) X.A)(hb:cD X.K fd ps ds)(hd:Vals rP ds)(hx:Passes CX X E)(I:aX X ao σ H s)(r:Vals vs us)(h:∀x dx,H x=none->H dx=none->dx≠x->sp (.ref x::(vs++rP)) (upd (upd H dx (.own x)) x (.ins C dx [])) (λv Z=>v=.non/\Q (.ref x) Z) E):wpAny (model X.prog X.w) X.A (call (.ref C) us) (EP X ao σ Q) X.xe s:=by
 let G:=h (s.heap.objs.size+1) s.heap.objs.size (I.hok.fresh (kS _)) (I.hok.fresh (ax _)) (cv (gX _));let D:=aX.made (C:=C) I;let r2:Vals (V.ref (s.heap.objs.size+1)::(vs++rP)) (Value.ref (s.heap.objs.size+1)::(us++ds)):=.cons rL (r.append hd);let hl:(Value.ref (s.heap.objs.size+1)::us++ds).length=ps.length:=by let e:=r2.length;rw[F.len _ _ _ _ G]at e;show e.symm
 refine gu (adX (f:=f) I.je M.makes M.init (beq_iff_eq.mp M.fn) (iX (F.run _ X.stack _ _ ⟨Value.ref (s.heap.objs.size+1)::us,[]⟩ (Value.ref (s.heap.objs.size+1)::(us++ds)) _ _ E (hr.make C us [])
  (D.env0.make C us []) (hb _ (Value.ref (s.heap.objs.size+1)::us) D.je hl) r2 G) λr s' j=>?_))
 cases r with
 | error e=>show hx ao σ _ _ e s' D j
 | ok fl=>
  cases fl with
  | ret u=>let⟨v,H',J,O,Y,q3⟩:=D.after j;subst Y;show⟨O,⟨V.ref (s.heap.objs.size+1),H',J,rL,q3⟩⟩
  | next=>show False.elim j
  | brk=>show False.elim j
  | cont=>show False.elim j
def tU (M:Mk X.K C f)(F:cU X.prog X.w X.K X.mg X.base CX k f fd ps sp)(hr:iu (k+1) X.A)(hg:Gl X x)(hm:X.mg x=some (.ref C))(hb:cD X.K fd ps ds)(hd:Vals rP ds)(hx:Passes CX X E)(ha:QA X (e::es) t)(D:(x==("__debug__":Str))=false:=by decide)(J:starEach (e::es) X.env=(false,eval e X.env)::starEach es X.env:=by rfl)(j:(backTo pos (starEach es X.env)).any (·.1)=false:=by rfl):QE X (.Call (.Name x p) (e::es) [] pos) (ajN C sp rP E t):=⟨by
 intro ao s σ H Q I h;calc gp (oJ I hg hm ?_ D);calc ic (h₀:=X.base) I.ok.mod.En M.kp (cP (ha.out pos ao s σ H _ I h) λus s1 ⟨vs,H1,G,r,q⟩=>⟨G.je,?_⟩) J j;show adZ M F hr hb hd hx G r q⟩
end
structure bD (N P:List Str)(sc:Scope):Prop where
 kind:sc.kind=.function:=by rfl
 co:sc.isCoroutine=false:=by rfl
 gen:sc.isGenerator=false:=by rfl
 nd:N.Nodup:=by decide +kernel
 pre:N.take P.length=P:=by rfl
 par:∀x∈P,sc.names.lookup x=some .local\/sc.names.lookup x=some .cell:=by decide +kernel
 ahT:∀y∈sc.names,y.2≠.free:=by decide +kernel
theorem QB {kindOf:Str->Option NameKind}{x:Str}:∀{binds:List (Str×Value)} {m:Str->Option Value},(∀v,(x,v)∉binds)->bindL kindOf binds m x=m x
 | [],_,_=>rfl
 | (n,v)::r,m,h=>by
  unfold bindL;rw[QB λw hw=>h w (bE _ hw)];split
  .have:x≠n:=by rintro rfl;show h v bS
   simp[this]
  .rfl
theorem QD {kindOf:Str->Option NameKind}{x:Str}:∀{binds:List (Str×Value)} {m:Str->Option Value},(∀v,(x,v)∉binds)->bindC kindOf binds m x=m x
 | [],_,_=>rfl
 | (n,v)::r,m,h=>by
  unfold bindC;rw[QD λw hw=>h w (bE _ hw)];split;.rfl
  .have:x≠n:=by rintro rfl;show h v bS
   simp[this]
theorem QF {kindOf:Str->Option NameKind}{x:Str}:∀{P:List Str} {vs:List Value} {i:Nat} {m:Str->Option Value},P.Nodup->P[i]?=some x->vs[i]?=some v->kindOf x=some .local->
  bindL kindOf (P.zip vs) m x=some v
 | [],_,_,_,_,h,_,_=>by simp at h
 | _::_,[],_,_,_,_,h,_=>by simp at h
 | p::P,w::vs,0,m,nd,h1,h2,hk=>by simp at h1 h2;subst h1;subst h2;show bindL kindOf ((p,w)::P.zip vs) m p=_;unfold bindL;rw[QB λv hv=>(ij.mp nd).1 (mT hv).1,if_pos hk];simp
 | p::P,w::vs,i+1,m,nd,h1,h2,hk=>by show bindL kindOf ((p,w)::P.zip vs) m x=_;unfold bindL;show QF (i:=i) (ij.mp nd).2 (by simpa using h1) (by simpa using h2) hk
theorem QJ {kindOf:Str->Option NameKind}{x:Str}:∀{P:List Str} {vs:List Value} {i:Nat} {m:Str->Option Value},P.Nodup->P[i]?=some x->vs[i]?=some v->kindOf x≠some .local->
  bindC kindOf (P.zip vs) m x=some v
 | [],_,_,_,_,h,_,_=>by simp at h
 | _::_,[],_,_,_,_,h,_=>by simp at h
 | p::P,w::vs,0,m,nd,h1,h2,hk=>by simp at h1 h2;subst h1;subst h2;show bindC kindOf ((p,w)::P.zip vs) m p=_;unfold bindC;rw[QD λv hv=>(ij.mp nd).1 (mT hv).1,if_neg hk];simp
 | p::P,w::vs,i+1,m,nd,h1,h2,hk=>by show bindC kindOf ((p,w)::P.zip vs) m x=_;unfold bindC;show QJ (i:=i) (ij.mp nd).2 (by simpa using h1) (by simpa using h2) hk
def start (N:List Str)(vs:List V):St:=vs.map some++List.replicate (N.length-vs.length) none
noncomputable def rM (CX:Bw)(P:Program)(w:World)(K:W.Frag)(mg:Str->Option Value)(base:Heap)(N:List Str)(qual:Str)(scope:Scope)(f:Addr)(cd:Value)(A:Around)(outer:List Env)(s:Shared)(H:Hp)(E:XK):Cx where
 prog:=P
 w:=w
 K:=K
 mg:=mg
 base:=base
 A:=A.deeper (envOfC qual scope s.heap.objs.size f cd)
 N:=N
 s₀:=s
 H₀:=H
 env:=envOfC qual scope s.heap.objs.size f cd
 outer:=outer
 stack:=envOfC qual scope s.heap.objs.size f cd::outer
 ex:=[]
 calm:=true
 fn:=λ_=>true
 pn:=[]
 xe:=λe s'=>wpAny (model P w) (A.deeper (envOfC qual scope s.heap.objs.size f cd)) (leaving (envOfC qual scope s.heap.objs.size f cd) e) (λ_ j=>CX outer H s E e j) (λD j=>CX outer H s E D j) s'
def TY {sc:Scope}(h:sc.names.lookup x=some .cell):∃c,(cellsFrom n sc.names []).lookup x=some c:=by let q:=ma sc.names n [] (.inl h);show gv.mp q
def QK {CX:Bw}{K:W.Frag}{mg:Str->Option Value}{N ps:List Str}{qual:Str}{scope:Scope}{A:Around}{outer:List Env}{E:XK}{vs:List V}(S:bD N ps scope)(hd:A.handled=none)(j:CV P w K mg base A outer s H)(hl:vs.length=ps.length)(r:Vals vs us)(x:InCallC s s.heap.objs.size (bindL (envOfC qual scope s.heap.objs.size f cd).kindOf (ps.zip us) λ_=>none) (cellsFrom (s.heap.objs.size+1) scope.names []) (bindC (envOfC qual scope s.heap.objs.size f cd).kindOf (ps.zip us) λ_=>none) s1):aX (rM CX P w K mg base N qual scope f cd A outer s H E) [] (start N vs) H s1:=by
 let J:ps.length<=N.length:=by have:=congrArg List.length S.pre;rw[av]at this;lia
 let⟨h1,tk,rfl,G⟩:=x.done;let D:∀b:Addr,b∉(rM CX P w K mg base N qual scope f cd A outer s H E).ex:=λb z=>absurd (show b∈([]:List Addr) from z) qo;refine⟨⟨j.mod,S.kind,rL,rL,ax _,λy z c h1 h2=>?_,λy hy=>?_,λy c _ h=>?_,λ_=>hd,Around.frames_deeper j.frames,.inr ⟨rL,rL⟩,λb z=>absurd z (D b),j.bs,j.zJ,λb _ _=>D b,λb z=>absurd z (D b),j.ql,j.Bs⟩,
  rfl,j.bare,Un.kept G,⟨_,x.toInCall.ns,λi y v h1 h2 h3=>?_⟩,λy c h=>⟨_,x.cell y c h⟩,j.hok.fresh (ax _),λy c h=>?_,λp hp=>absurd (show p∈([]:AF) from hp) qo,j.hok.kept G,?_⟩
 .show name_of_addr x.apart (ja h1) (ja h2)
 .let hy:scope.names.lookup y=some .cell\/scope.names.lookup y=some .free:=hy;rcases hy with hy|hy;.show TY hy
  .show absurd rL (S.ahT _ (ja hy))
 .show ap (x.above y c (ja h))
 .let hi:i<vs.length:=by
   unfold start at h2;by_cases hi:i<vs.length;.show hi
   .rw[du (by simpa using hi)]at h2;rw[List.getElem?_replicate]at h2;split at h2 <;> cases h2
  let ha:vs[i]?=some v:=by
   unfold start at h2;rw[dE (by simpa using hi),ck]at h2;cases e:vs[i]? with
   | none=>rw[e]at h2;cases h2
   | some a=>rw[e]at h2;cases h2;rfl
  let⟨u,I,O⟩:=r.get ha;let hp:ps[i]?=some y:=by rw[<-S.pre,List.getElem?_take_of_lt (by simp_all)];show h1
  let F:ps.Nodup:=by rw[<-S.pre];show S.nd.sublist (List.take_sublist _ _)
  calc⟨u,O,?_⟩;rcases S.par y (bp hp) with k|k;.show .inl ⟨k,QF F hp I k⟩
  .let⟨c,e⟩:=TY (n:=s.heap.objs.size+1) k;calc .inr ⟨.inl k,c,e,?_⟩;let q:=x.cell y c e;rw[QJ F hp I (by show scope.names.lookup y≠_;rw[k];decide)]at q;show q
 .show j.hok.fresh (ap (x.above y c (ja h)))
 .unfold start;show _=N.length;rw[am,aa,de];simp_all
def afA {CX:Bw}{P:Program}{w:World}{K:W.Frag}{mg:Str->Option Value}{base:Heap}{k:Nat}{f:Addr}{name qual:Str}{j:Arguments}{body:List Stmt}{scope:Scope}{dV kV doc pm bV ct oc:Value}{an od:Option Addr}{osl:Array (Option Value)}{N ps:List Str}{sp:Sp}(lk:K.lookup f=some ⟨oc,od,.func (W.fnOf name qual j body scope dV kV doc pm an bV ct),osl⟩)(Z:W.codeIn K bV qual=true)(S:bD N ps scope)(len:∀vs H Q E,sp vs H Q E->vs.length=ps.length)(F:∀(A:Around) (outer:List Env) (s:Shared) (H:Hp) (vs:List V) (Q:VK) (E:XK),iu k (A.deeper (envOfC qual scope s.heap.objs.size f bV))->sp vs H Q E->
   ∃t,Qo (rM CX P w K mg base N qual scope f bV A outer s H E) body t/\t {nx:=λ_ H'=>Q .non H',rt:=Q} (start N vs) H) :
  cU P w K mg base CX (k+1) f (W.fnOf name qual j body scope dV kV doc pm an bV ct) ps sp:=by
 calc⟨len,λA outer s H args us vs Q E hr O hb r Y=>?_⟩;let hl:=len _ _ _ _ Y;let KX:K.In s.heap:=O.mod.En.keeps λb o e=>(O.bs b o e).1;let lim:s.heap.NoLimit:=O.mod.nolimit.keeps λb o e=>(O.bs b o e).1;let D:∀y∈ps.zip us,scope.names.lookup y.1=some .local\/(scope.names.lookup y.1=some .cell/\((cellsFrom (s.heap.objs.size+1) scope.names []).lookup y.1).isSome=true):=λ⟨n,v⟩ hy=>by
  rcases S.par n (mT hy).1 with q|q;.show .inl q
  .show .inr ⟨q,ma _ _ _ (.inl q)⟩
 calc codeAny_call_function hr.depth (KX _ _ lk) rL S.co S.gen rL (W.codeRec_of KX Z) (hb _ _ _ _ ?_);calc wpAny_newFunctionEnv_cells S.kind D λenv he s1 x=>?_;subst he;calc⟨lim.keeps x.toInCall.keep,codeAny_func ?_⟩;let⟨t,ht,hq⟩:=F A outer s H vs Q E (hr.deeper _) Y;let I:aX (rM CX P w K mg base N qual scope f bV A outer s H E) [] (start N vs) H s1:=QK S hr.hd O hl r x;calc eh (ht [] s1 (start N vs) H _ I hq) (λfl s' hs=>?_) λe s' hs=>hs;let G:∀{σ':St} {H':Hp} {v:V} {u:Value},aX (rM CX P w K mg base N qual scope f bV A outer s H E) [] σ' H' s'->cW v u->Q v H'->CE outer P w H s Q u s':=λ{σ' H' v u} J rv q=>⟨v,H',J.os,J.bare,J.base,J.hok,rv,q⟩
 cases fl with
 | ret u=>let⟨v,σ',H',J,rv,q⟩:=hs;show G J rv q
 | next=>let⟨σ',H',J,q⟩:=hs;show G (v:=V.non) (u:=Value.none) J rL q
 | brk=>let⟨_,_,_,q⟩:=hs;show False.elim q
 | cont=>let⟨_,_,_,q⟩:=hs;show False.elim q
section
variable {X:Cx}{x:Str}{p pos:Pos}{e:Expr}{es:List Expr}{t:TA}{id T:String}{r:List V->Hp->VK->Prop}
def tCB (r:List V->Hp->VK->Prop)(t:TA):TE:=λσ H Q=>t σ H λvs H1=>r vs H1 Q
def aP (J:jJ X (.builtin id) r)(hg:Gl X x)(hm:X.mg x=none)(hv:bootBuiltins x=some (.builtin id))(ha:QA X (e::es) t)(hn:x≠"__name__":=by decide)(D:(x==("__debug__":Str))=false:=by decide)(G:starEach (e::es) X.env=(false,eval e X.env)::starEach es X.env:=by rfl)(j:(backTo pos (starEach es X.env)).any (·.1)=false:=by rfl):QE X (.Call (.Name x p) (e::es) [] pos) (tCB r t):=⟨by
 intro ao s σ H Q I h;calc gp (wR I hg hm hv ?_ hn D);show nc (cP (ha.out pos ao s σ H _ I h) λus s1 ⟨vs,H1,F,r1,q1⟩=>J ao s1 σ H1 vs us Q F r1 q1) G j⟩
def fY (J:jJ X (.type T) r)(hg:Gl X x)(hm:X.mg x=none)(hv:bootBuiltins x=some (.type T))(ha:QA X (e::es) t)(hn:x≠"__name__":=by decide)(D:(x==("__debug__":Str))=false:=by decide)(G:starEach (e::es) X.env=(false,eval e X.env)::starEach es X.env:=by rfl)(j:(backTo pos (starEach es X.env)).any (·.1)=false:=by rfl):QE X (.Call (.Name x p) (e::es) [] pos) (tCB r t):=⟨by
 intro ao s σ H Q I h;calc gp (wR I hg hm hv ?_ hn D);show fq (cP (ha.out pos ao s σ H _ I h) λus s1 ⟨vs,H1,F,r1,q1⟩=>J ao s1 σ H1 vs us Q F r1 q1) G j⟩
end
end L2
namespace HT
open PySem PyProof.Rows
section
variable {prog:Program}{w:World}{A:Around}{E:AB}{s:Shared}
def af2 {vs ws:List Value}(ht:IsTup s.heap t vs.toArray)(hb:IsTup s.heap b ws.toArray)(hv:vs≠[])(h1:ws=[]->Q (.ref t) s)(h2:ws≠[]->Q (.ref s.heap.objs.size) {s with heap:=s.heap.push {cls:=.type "tuple",data:=.seq (vs++ws).toArray} })(hsz:vs.length+ws.length<=sizeLine):wpAny (model prog w) A (binaryOp .Add (.ref t) (.ref b)) Q E s:=by
 obtain⟨⟨cls,dd,data,sl⟩,J,hc,n,hd⟩:=id ht;obtain⟨⟨Y,F,O,G⟩,j,D,Z,I⟩:=id hb;simp only at hc hd D I;subst hc hd D I;let e:vs.toArray++ws.toArray=(vs++ws).toArray:=qo;by_cases hw:ws=[]
 .show concat_meets ⟨_,J,rL⟩ ⟨_,j,rL⟩ noFill_tuple_add seq_tuple_add md lI (lm _ _)
   (tuple_addW1 t b vs.toArray ws.toArray n Z dd F sl G (by simpa using hv) (by simp[hw])) ⟨J,j,h1 hw⟩
 .refine concat_meets ⟨_,J,rL⟩ ⟨_,j,rL⟩ noFill_tuple_add seq_tuple_add md lI (lm _ _)
   (tuple_addW2 t b vs.toArray ws.toArray n Z dd F sl G (by simpa using hv) (by simpa using hw) (by rw[bz,bz];show hsz)) ⟨J,j,?_⟩
  rw[e];show h2 hw
def dY (n d:Nat):Option Int->Nat
 | none=>d
 | some v=>if v<0 then (v+(n:Int)).toNat else min v.toNat n
def vC (n d):dY n d none=d:=rfl
def mV (n d k:Nat):dY n d (some (k:Int))=min k n:=by show (if (k:Int)<0 then ((k:Int)+(n:Int)).toNat else min (k:Int).toNat n)=min k n;rw[if_neg qk,ee]
def abZ (n d)(hd:d<=n)(o):dY n d o<=n:=by
 cases o with
 | none=>show hd
 | some v=>
  show (if v<0 then (v+(n:Int)).toNat else min v.toNat n)<=n;by_cases hv:v<0;.rw[if_pos hv];lia
  .rw[if_neg hv];show Nat.min_le_right _ _
def Oa (v:Int)(n d:Nat):(if v<0 then max (v+(n:Int)) 0 else min v (n:Int))=((dY n d (some v):Nat):Int):=by
 show (if v<0 then max (v+(n:Int)) 0 else min v (n:Int))=(((if v<0 then (v+(n:Int)).toNat else min v.toNat n):Nat):Int)
 by_cases hv:v<0;.simp only[if_pos hv];lia
 .simp only[if_neg hv];grind
def aay (lo hi:Option Int)(n:Nat):Builtin.Slice.sliceAdjust lo hi 1 (n:Int)=(((dY n 0 lo:Nat):Int),((dY n n hi:Nat):Int)):=by
 let h1:¬((1:Int)<0):=qk;unfold Builtin.Slice.sliceAdjust;simp only[h1,if_false];refine Prod.ext ?_ ?_
 .cases lo with| none=>rfl| some v=>show Oa v n 0
 .cases hi with| none=>rfl| some v=>show Oa v n n
def aaz (i j:Nat):Builtin.Slice.slicePlaces (i:Int) (j:Int) 1=j-i:=by unfold Builtin.Slice.slicePlaces;let h1:(1:Int) > 0:=qk;simp only[h1,if_true,Int.ediv_one];split <;> simp_all
def Le (p:IsPart v o)(h:Q o s):wpAny (model prog w) A (Builtin.Slice.slicePartIndex v) Q E s:=by
 cases p with| none=>show slicePart_none h| int i t=>show slicePart_int h
def yM {sl:Addr}{G F:Value}{lo hi:Option Int}{n:Nat}{Q:Int×Int×Nat->Shared->Prop}(hs:s.heap.IsSliceOf sl G F .none)(pl:IsPart G lo)(J:IsPart F hi)(h:Q (((dY n 0 lo:Nat):Int),1,dY n n hi-dY n 0 lo) s):wpAny (model prog w) A (Builtin.Slice.sliceApplied (.ref sl) (pure (n:Int))) Q E s:=by let⟨os,D,I,j⟩:=id hs;unfold Builtin.Slice.sliceApplied Builtin.Slice.sliceFields;calc ae (ae (fo D j (x:=G) rL (ae (fo D j (x:=F) rL (ae (fo D j (x:=.none) rL (aI ?_)))))));calc ae (slicePart_none ?_);show wpAny _ _ (if ((1:Int)==0)=true then _ else _) _ _ s;rw[if_neg qr];calc ae (Le pl (ae (Le J (ae (aI ?_)))));show wpAny _ _ (match Builtin.Slice.sliceAdjust lo hi 1 (n:Int) with|(lo,hi)=>pure (lo,(1:Int),Builtin.Slice.slicePlaces lo hi 1)) _ _ s;rw[aay lo hi n];show wpAny _ _ (pure (((dY n 0 lo:Nat):Int),(1:Int),Builtin.Slice.slicePlaces ((dY n 0 lo:Nat):Int) ((dY n n hi:Nat):Int) 1)) _ _ s;rw[aaz];show aI h
def ad0 (xs:Array Value)(i k:Nat):((List.range k).filterMap λ(m:Nat)=>xs[((i:Int)+(m:Int)*1).toNat]?).toArray=((xs.toList.drop i).take k).toArray:=by
 let e:(λ(m:Nat)=>xs[((i:Int)+(m:Int)*1).toNat]?)=λm=>xs[i+m]?:=by
  funext m;have:((i:Int)+(m:Int)*1).toNat=i+m:=by lia
  rw[this]
 rw[e];have:=pick_run xs i k;rw[List.filterMap_map]at this;let e2:((λx=>xs[x]?) ∘ λx=>i+x)=λm=>xs[i+m]?:=rfl;rw[e2]at this;rw[this]
def Jf {lo hi:Option Int}(ht:IsTup s.heap t items)(hs:s.heap.IsSliceOf sl vl vu .none)(pl:IsPart vl lo)(J:IsPart vu hi)(hw:¬(dY items.size 0 lo=0/\dY items.size items.size hi=items.size))(h:Q (.ref s.heap.objs.size) {s with heap:=s.heap.push {cls:=.type "tuple",data:=.seq ((items.toList.drop (dY items.size 0 lo)).take (dY items.size items.size hi-dY items.size 0 lo)).toArray} })(hsz:items.size<=sizeLine):wpAny (model prog w) A (getItem (.ref t) (.ref sl)) Q E s:=by
 let j:sizeOk (.seq ((items.toList.drop (dY items.size 0 lo)).take (dY items.size items.size hi-dY items.size 0 lo)).toArray):=by show ((items.toList.drop (dY items.size 0 lo)).take (dY items.size items.size hi-dY items.size 0 lo)).toArray.size<=sizeLine;rw[bz,av,aS,fN];lia
 let Y:dY items.size items.size hi<=items.size:=abZ _ _ (ax _) hi;let⟨os,G,D,O⟩:=id hs;let I:s.TypeIs (.ref sl) "slice":=⟨os,G,D⟩
 unfold getItem
 try with_reducible refine fz ?_
 first|refine ae (aI ?_)|skip
 calc ae (wpAny_sequenceKey ht.typeIs qr ?_);refine ae (jn (name:=Str.ofString "__getitem__") ht.typeIs fA
  (hV fA ht.typeIs entry_tuple_getitem ?_ (args_tuple_getitem _ _)))
 show wpAny _ _ (Builtin.Tuple.tupleItemsOf (.ref t) >>= _) _ _ s;calc ae (tupleItemsOf_ ht ?_);calc ae (wpAny_typeOf I ?_);rw[if_pos qr];calc ae (yM hs pl J ?_);let F:¬((((dY items.size 0 lo:Nat):Int)==0&&(1:Int)==1&&(dY items.size items.size hi-dY items.size 0 lo)==items.size)=true):=by intro q;rw[cp,cp]at q;let q1:((dY items.size 0 lo:Nat):Int)=0:=eq_of_beq q.1.1;let q2:dY items.size items.size hi-dY items.size 0 lo=items.size:=eq_of_beq q.2;show hw ⟨Iff.mp Int.ofNat_inj q1,by simp_all⟩
 show wpAny _ _ (if (((dY items.size 0 lo:Nat):Int)==0&&(1:Int)==1&&(dY items.size items.size hi-dY items.size 0 lo)==items.size)=true then _ else _) _ _ s;rw[if_neg F,ad0]
 first| show ae (m:=Builtin.Tuple.tupleExact _) (gS (aI ⟨_,rL,aI h⟩) j)| show ae (m:=Builtin.Tuple.tupleExact _) (gS (ae (aI (aI ⟨_,rL,aI h⟩))) j)| show ae (ae (m:=Builtin.Tuple.tupleExact _) (gS (aI (aI ⟨_,rL,aI h⟩)) j))| show ae (ae (m:=Builtin.Tuple.tupleExact _) (gS (aI ⟨_,rL,aI h⟩) j))
end
end HT
namespace L2
open PySem PySem.Spec PyProof.Rows
abbrev TO:=St->Hp->(Option Int->Hp->Prop)->Prop
def PO (X:Cx)(e:Option Expr)(t:TO):Prop:=∀(ao:AF) (s:Shared) (σ:St) (H:Hp) (Q:Option Int->Hp->Prop),aX X ao σ H s->t σ H Q->
  wpAny (model X.prog X.w) X.A (evalPart e X.env) (λu s'=>∃o H',aX X ao σ H' s'/\IsPart u o/\Q o H') X.xe s
structure QO (X:Cx)(e:Option Expr)(t:TO):Prop where
 out:PO X e t
def af3:TO:=λ_ H Q=>Q none H
def ajO (t:TE):TO:=λσ H Q=>t σ H λx H1=>∃i,x=.int i/\Q (some i) H1
section
variable {X:Cx}{e:Expr}{te:TE}{lo hi:Option Expr}{tl th:TO}{pos p2:Pos}
def eO  : QO X none af3:=⟨by
 intro ao s σ H Q I h;rw[evalPart_none];show aI ⟨none,H,I,.none,h⟩⟩
def dM (h:QE X e te):QO X (some e) (ajO te):=⟨by
 intro ao s σ H Q I hw;rw[evalPart_some];calc cP (h.out ao s σ H _ I hw) λu s1 ⟨x,H1,j,r1,q1⟩=>?_;let⟨i,rfl,q⟩:=q1;let⟨t,rfl⟩:=r1;show⟨some i,H1,j,.int i t,q⟩⟩
def SlR (X:Cx)(r:V->Option Int->Option Int->Hp->VK->Prop):Prop:=∀(ao:AF) (s:Shared) (σ:St) (H:Hp) (x:V) (v D j:Value) (lo hi:Option Int) (sl:Addr) (Q:VK),aX X ao σ H s->cW x v->s.heap.IsSliceOf sl D j .none->IsPart D lo->IsPart j hi->r x lo hi H Q->
  ∃T id,typeLookup (.type T) "__getitem__"=pure (some (.builtin id))/\s.TypeIs v T/\wpAny (model X.prog X.w) X.A (getItem v (.ref sl)) (EP X ao σ Q) X.xe s
def tSl (r:V->Option Int->Option Int->Hp->VK->Prop)(te:TE)(tl th:TO):TE:=λσ H Q=>te σ H λx H1=>tl σ H1 λl j=>th σ j λu D=>r x l u D Q
def dj (hr:SlR X r)(he:QE X e te)(hl:QO X lo tl)(hu:QO X hi th):QE X (.Subscript e (.Slice lo hi none p2) pos) (tSl r te tl th):=⟨by
 intro ao s σ H Q I h;calc Subscript_ (cP (he.out ao s σ H _ I h) λv s1 ⟨x,H1,Y,r1,q1⟩=>?_);calc wpAny_Slice (cP (hl.out ao s1 σ H1 _ Y q1) λF s2 ⟨l,H2,I2,pl,q2⟩=>cP (hu.out ao s2 σ H2 _ I2 q2) λD j ⟨u,G,J,O,q3⟩=>?_);rw[evalPart_none];calc aI ?_;let I4:aX X ao σ G {j with heap:=j.heap.push {cls:=.type "slice",data:=.fields #[F,D,.none]} }:=J.kept (t':=j.toks) λb ob q=>ag _ q;let⟨T,id,Z,ht,hg⟩:=hr ao {j with heap:=j.heap.push {cls:=.type "slice",data:=.fields #[F,D,.none]} } σ G x v F D l u j.heap.objs.size Q I4 r1 (Heap.IsSliceOf.new ..) pl O q3;show wpAny (model X.prog X.w) X.A (subscriptTail e (.Slice lo hi none p2) v (.ref j.heap.objs.size)) (EP X ao σ Q) X.xe {j with heap:=j.heap.push {cls:=.type "slice",data:=.fields #[F,D,.none]} };show tail_any (ops:=[.ref j.heap.objs.size,v]) ht Z hg (by with_unfolding_all rfl)⟩
noncomputable def jy (xs:List V)(lo hi:Option Int):List V:=(xs.drop (HT.dY xs.length 0 lo)).take (HT.dY xs.length xs.length hi-HT.dY xs.length 0 lo)
def Jq (xs)(lo hi):(jy xs lo hi).length<=xs.length:=by unfold jy;rw[av,aS];lia
def Vals.Bx (r:Vals xs us):us=[]↔xs=[]:=by
 cases r with| nil=>simp| cons _ _=>simp
end
noncomputable def Eo (n:Nat)(i:Int):Option Nat:=if 0<=i then (if i<n then some i.toNat else none) else if -(n:Int)<=i then some (i+n).toNat else none
def tV {α:Type}(xs:List α)(i:Int):Option α:=(Eo xs.length i).bind λj=>xs[j]?
def YB (h:Eo n i=some j):seqIndex? i n=some j/\j<n/\-(n:Int)<=i/\i<n:=by
 unfold Eo at h;by_cases h0:0<=i
 .rw[if_pos h0]at h;by_cases h1:i<n
  .rw[if_pos h1]at h;let e:i.toNat=j:=bq h;show⟨by rw[seqIndex_of h0 h1,e],qk,qk,h1⟩
  .rw[if_neg h1]at h;cases h
 .rw[if_neg h0]at h;by_cases h1:-(n:Int)<=i
  .rw[if_pos h1]at h;let e:(i+n).toNat=j:=bq h;show⟨by rw[seqIndex_neg qk h1,e],qk,h1,qk⟩
  .rw[if_neg h1]at h;cases h
def Ob {α:Type}{xs:List α}{v:α}(h:tV xs i=some v):∃j,seqIndex? i xs.length=some j/\xs[j]?=some v/\j<xs.length/\-(xs.length:Int)<=i/\i<xs.length:=by
 unfold tV at h;cases e:Eo xs.length i with
 | none=>rw[e]at h;cases h
 | some j=>rw[e]at h;let⟨h1,h2,h3,h4⟩:=YB e;show⟨j,h1,h,h2,h3,h4⟩
def aM {α:Type}{xs:List α}{j:Nat}{v:α}(h:xs[j]?=some v):tV xs (j:Int)=some v:=by
 let D:j<xs.length:=(ah.mp h).1;let e:Eo xs.length (j:Int)=some j:=by unfold Eo;rw[if_pos qk,if_pos (Iff.mpr nl D)];simp
 unfold tV;rw[e];show h
def JL {α:Type}(xs:List α)(v:α):tV (xs++[v]) (-1)=some v:=by
 let hl:(xs++[v]).length=xs.length+1:=qo;let e:Eo (xs++[v]).length (-1)=some xs.length:=by unfold Eo;rw[hl,if_neg qr,if_pos qk];congr 1;simp +arith
 unfold tV;rw[e];show (xs++[v])[xs.length]?=some v;simp
def Oc (b:Expr):Prop:=∀o i,subscripted b false o i=operate [o,i] (getItem o i)
def Lg (X:Cx)(r:R2):Prop:=∀(value j:Expr) (ao:AF) (s:Shared) (σ:St) (H:Hp) (x y:V) (v u:Value) (Q:VK),aX X ao σ H s->cW x v->cW y u->r x y H Q->
  subscripted j false v u=operate [v,u] (getItem v u)->wpAny (model X.prog X.w) X.A (subscriptTail value j v u) (EP X ao σ Q) X.xe s
def Ep (X:Cx)(id:String)(r:V->List V->Hp->VK->Prop):Prop:=∀(ao:AF) (s:Shared) (σ:St) (H:Hp) (x:V) (xs:List V) (v:Value) (us:List Value) (Q:VK),aX X ao σ H s->cW x v->Vals xs us->r x xs H Q->
  wpAny (model X.prog X.w) X.A (call (.builtin id) (v::us)) (EP X ao σ Q) X.xe s
section
variable {X:Cx}{a b:Expr}{ta tb:TE}{pos:Pos}
def aZ (hr:Lg X r)(ha:QE X a ta)(hb:QE X b tb)(hs:Oc b):QE X (.Subscript a b pos) (TF r ta tb):=⟨by
 intro ao s σ H Q I h;show Subscript_ (adV ha.out hb.out I h λv u s2 x y F G j D q=>hr a b ao s2 σ F x y v u Q G j D q (hs _ _))⟩
def ahU (K:W.Frag):R2:=λx y H Q=>∃p xs i v,x=.ref p/\y=.int i/\bM K H p xs/\tV xs i=some v/\Q v H
def ahV (K:W.Frag):R2:=λx y H Q=>∃p xs i v,x=.ref p/\y=.int i/\aQ K H p xs/\tV xs i=some v/\Q v H
def akT:R2:=λx y H Q=>∃z i c,x=.str z/\y=.int i/\z.length<=sizeLine/\tV z.cps.toList i=some c/\Q (.str ⟨#[c]⟩) H
def gA:Lg X (ahU X.K):=by
 intro value G ao s σ H x y v u Q I Y Z h hs;let⟨p,xs,i,z,rfl,rfl,hq,he,q⟩:=h;cases Y;let⟨t,rfl⟩:=Z;let⟨its,r,pl,hz⟩:=I.list hq;let⟨j,h1,h2,h3,h4,h5⟩:=Ob he;let⟨w,O,F⟩:=r.get h2;let hl:=r.length;let hn:=Bu;let D:EP X ao σ Q w s:=⟨z,H,I,F,q⟩
 by_cases h0:0<=i
 .let J:i.toNat=j:=by
   rw[seqIndex_of h0 h5]at h1;show bq h1
  show item_listR pl.isList h0 qk (by rw[J];simpa using O) D hs
 .let J:(i+(its.toArray.size:Int)).toNat=j:=by
   rw[seqIndex_neg qk h4]at h1;rw[bz,<-hl];show bq h1
  show subscriptTail_builtinR (x:=w) pl.isList.typeIs slot_list_getitem.lookup
   (wpAny_getItem_list_neg (Q:=λr s'=>r=w/\EP X ao σ Q r s') pl.isList qk (by rw[bz] <;> lia) qk (by rw[J];simpa using O) ⟨rL,D⟩) hs
def bI:Lg X (ahV X.K):=by
 intro value G ao s σ H x y v u Q I J O h hs;let⟨p,xs,i,z,rfl,rfl,Z,Y,q⟩:=h;cases J;let⟨t,rfl⟩:=O;let⟨its,r,pl,hz⟩:=I.tuple Z;let⟨j,h1,h2,h3,h4,h5⟩:=Ob Y;let⟨w,ew,F⟩:=r.get h2;let hl:=r.length;let hn:=Bu;let D:EP X ao σ Q w s:=⟨z,H,I,F,q⟩
 show subscriptTail_builtinR (x:=w) pl.typeIs slot_tuple_getitem.lookup
  (getItem_tuple (j:=j) (Q:=λr s'=>r=w/\EP X ao σ Q r s') pl qk qk (by rw[bz,<-hl];show h1) (by simpa using ew) ⟨rL,D⟩) hs
def ahW:Lg X akT:=by
 intro value D ao s σ H x y v u Q I F G h hs;let⟨z,i,c,rfl,rfl,hz,J,q⟩:=h;let⟨t,rfl⟩:=F;let⟨t',rfl⟩:=G;let⟨j,h1,h2,h3,h4,h5⟩:=Ob J;let hl:z.cps.toList.length=z.length:=by simp[Str.length]
 rw[hl]at h1 h4 h5;let hn:=Bu;show tail_any (typeIs_str s z t) slot_str_getitem.lookup (getItem_str (c:=c) (by
  let e1:decide (i < -(2^63:Int))=false:=af qk;let e2:decide (i>=2^63)=false:=af qk;rw[e1,e2,Bool.or_false]) (by rw[h1];simpa using h2) ⟨.str ⟨#[c]⟩,H,I.tok _,⟨_,rL⟩,q⟩) hs
def aaA (its:List Value)(n j)(u):Obj.mapSeq (·.setIfInBounds j u) {cls:=.type "list",data:=.seq its.toArray n}={cls:=.type "list",data:=.seq (its.set j u).toArray n}:=by simp[Obj.mapSeq]
def aX.lst {ao:AF}{σ:St}{H:Hp}{s:Shared}{p:Addr}{xs:List V}(I:aX X ao σ H s)(h:H p=some (.lst xs)):∃(its:List Value) (n:Nat),Vals xs its/\s.heap.get? p=some {cls:=.type "list",data:=.seq its.toArray n}/\xs.length<=sizeLine:=by let⟨z,its,n,r,e⟩:=I.hok p _ h;show⟨its,n,r,e,z⟩
def aX.ahX {ao:AF}{σ:St}{H:Hp}{s:Shared}{p:Addr}{xs ys:List V}{its its':List Value}{n j:Nat}{f:Obj->Obj}(I:aX X ao σ H s)(h:H p=some (.lst xs))(F:s.heap.get? p=some {cls:=.type "list",data:=.seq its.toArray n})(D:f {cls:=.type "list",data:=.seq its.toArray n}={cls:=.type "list",data:=.seq its'.toArray j })(r:Vals ys its')(hz:ys.length<=sizeLine)(t:Nat):aX X ao σ (upd H p (.lst ys)) {s with heap:=s.heap.update p f,toks:=t}:=by
 let e:(s.heap.update p f).get? p=some {cls:=.type "list",data:=.seq its'.toArray j }:=by rw[ik f F (by rw[D] <;> rfl),D]
 calc I.write (x:=p) (e:=p) (by rw[h];trivial) (.inl rL) (λb u hb q=>(fF _ _ (gm hb)).trans q) ⟨_,e⟩ ?_;show⟨hz,its',j,r,e⟩
def ajP:V->V->V->Hp->(Hp->Prop)->Prop:=λo i v H Q=>∃p xs k j,o=.ref p/\i=.int k/\H p=some (.lst xs)/\Eo xs.length k=some j/\Q (upd H p (.lst (xs.set j v)))
def set_list:adU X ajP:=by
 intro ao s σ H o i v ov Z u Q I O ri J h;let⟨p,xs,k,j,rfl,rfl,hp,Y,q⟩:=h;cases O;let⟨t,rfl⟩:=ri;let⟨its,n,r,F,hz⟩:=I.lst hp;let⟨h1,h2,h3,h4⟩:=YB Y;let hl:=r.length;let hn:=Bu;let G:aX X ao σ (upd H p (.lst (xs.set j v))) {s with heap:=s.heap.update p (Obj.mapSeq (·.setIfInBounds j u))}:=I.ahX hp F (aaA its n j u) (r.set J j) (by rw[fb];show hz) s.toks
 by_cases h0:0<=k
 .let D:k.toNat=j:=by
   rw[seqIndex_of h0 h4]at h1;show bq h1
  show W.ki_setAt F h0 qk (by rw[bz,<-hl];show h4) (by rw[D];show⟨_,G,q⟩)
 .let D:(k+(its.toArray.size:Int)).toNat=j:=by
   rw[seqIndex_neg qk h3]at h1;rw[bz,<-hl];show bq h1
  show W.ki_setBack F qk (by rw[bz,<-hl];show h3) qk (by rw[D];show⟨_,G,q⟩)
def T_ (lo hi)(n):(sliceBounds lo hi none n).1=((HT.dY n 0 lo:Nat):Int)/\(sliceBounds lo hi none n).2.1=((HT.dY n n hi:Nat):Int)/\(sliceBounds lo hi none n).2.2=1:=by
 refine⟨?_,?_,rL⟩
 .cases lo with
  | none=>simp[sliceBounds,HT.dY]
  | some i=>
   simp only[sliceBounds,HT.dY,Option.getD_none,show (1:Int) > 0 by decide,if_true];by_cases h:i<0
   .simp only[h,if_true] <;> grind
   .simp only[h,if_false] <;> grind
 .cases hi with
  | none=>simp[sliceBounds,HT.dY]
  | some i=>
   simp only[sliceBounds,HT.dY,Option.getD_none,show (1:Int) > 0 by decide,if_true];by_cases h:i<0
   .simp only[h,if_true] <;> lia
   .simp only[h,if_false] <;> lia
def RL (its:List Value)(lo hi):slicePick its.toArray lo hi none=((its.drop (HT.dY its.length 0 lo)).take (HT.dY its.length its.length hi-HT.dY its.length 0 lo)).toArray:=by let⟨h1,h2,h3⟩:=T_ lo hi its.toArray.size;unfold slicePick;rw[h1,h2,h3];simp only[sliceRange_one,pick_run,bz] <;> rfl
def ahY (K:W.Frag):V->Option Int->Option Int->Hp->VK->Prop:=λx lo hi H Q=>∃a xs,x=.ref a/\bM K H a xs/\∀p,H p=none->Q (.ref p) (upd H p (.lst (jy xs lo hi)))
def oN:SlR X (ahY X.K):=by intro ao s σ H x v J G lo hi sl Q I D hs pl j h;let⟨a,xs,rfl,hx,q⟩:=h;cases D;let⟨its,r,ht,hz⟩:=I.list hx;let F:=r.length;calc⟨"list",_,slot_list_getitem.lookup,ht.isList.typeIs,?_⟩;calc wpAny_getItem_list_slice ht.isList hs pl j .none qo ?_ (by rw[bz] <;> simp_all);rw[RL,<-F];calc⟨.ref s.heap.objs.size,_,I.laid (t':=s.toks) (o:=.lst (jy xs lo hi)) (λb ob q=>ag _ q) (ax _) ?_,rL,q _ (I.hok.fresh (ax _))⟩;show⟨b8 (Jq xs lo hi) hz,_,0,(r.drop (HT.dY xs.length 0 lo)).take (HT.dY xs.length xs.length hi-HT.dY xs.length 0 lo),bu _ rL⟩
def xZ:V->Bool
 | .non=>true
 | .bl _=>true
 | .int _=>true
 | .str _=>true
 | _=>false
noncomputable def Jr:V->V->Bool
 | .non,.non=>true
 | .bl a,.bl b=>a==b
 | .bl a,.int b=>(if a then 1 else 0)==b
 | .int a,.bl b=>a==(if b then 1 else 0)
 | .int a,.int b=>a==b
 | .str a,.str b=>a==b
 | _,_=>false
def ahZ (D:cW y u)(j:cW x v)(G:xZ y=true)(F:xZ x=true):SeqAt.EqAt A s u v (Jr y x):=by
 cases y with
 | non=>
  cases D;cases x with
  | non=>cases j;show SeqAt.EqAt.same _
  | bl b=>cases j;show SeqAt.EqAt.none_bool b
  | int b=>let⟨t,rfl⟩:=j;show SeqAt.EqAt.none_int b t
  | str b=>let⟨t,rfl⟩:=j;show SeqAt.EqAt.none_str b t
  | _=>show absurd (show false=true from F) b9
 | bl a=>
  cases D;cases x with
  | non=>cases j;show SeqAt.EqAt.bool_none a
  | bl b=>cases j;show SeqAt.EqAt.bool_bool a b
  | int b=>let⟨t,rfl⟩:=j;show SeqAt.EqAt.bool_int a b t
  | str b=>let⟨t,rfl⟩:=j;show SeqAt.EqAt.bool_str a b t
  | _=>show absurd (show false=true from F) b9
 | int a=>
  let⟨t',rfl⟩:=D;cases x with
  | non=>cases j;show SeqAt.EqAt.int_none a t'
  | bl b=>cases j;show SeqAt.EqAt.int_bool a t' b
  | int b=>let⟨t,rfl⟩:=j;show jv a t' b t
  | str b=>let⟨t,rfl⟩:=j;show SeqAt.EqAt.int_str a t' b t
  | _=>show absurd (show false=true from F) b9
 | str a=>
  let⟨t',rfl⟩:=D;cases x with
  | non=>cases j;show SeqAt.EqAt.str_none a t'
  | bl b=>cases j;show SeqAt.EqAt.str_bool a t' b
  | int b=>let⟨t,rfl⟩:=j;show SeqAt.EqAt.str_int a t' b t
  | str b=>let⟨t,rfl⟩:=j;show SeqAt.EqAt.str_str a t' b t
  | _=>show absurd (show false=true from F) b9
 | _=>show absurd (show false=true from G) b9
noncomputable def Lh (x:V)(u:Value):Bool:=match u with| .none=>Jr .non x| .bool b=>Jr (.bl b) x| .int i _=>Jr (.int i) x| .str z _=>Jr (.str z) x| _=>false
def ab0 (r:cW y u)(f:xZ y=true):Lh x u=Jr y x:=by
 cases y with
 | non=>cases r;rfl
 | bl b=>cases r;rfl
 | int i=>let⟨t,rfl⟩:=r;rfl
 | str z=>let⟨t,rfl⟩:=r;rfl
 | _=>show absurd (show false=true from f) b9
theorem Od:∀{xs:List V} {us:List Value},Vals xs us->xs.all xZ=true->us.any (Lh x)=xs.any λy=>Jr y x
 | _,_,.nil,_=>rfl
 | y::xs,u::us,.cons r t,f=>by rw[List.all_cons,cp]at f;rw[kR,kR,ab0 r f.1,Od t f.2]
theorem JM (D:cW x v)(F:xZ x=true):∀{xs:List V} {us:List Value},Vals xs us->xs.all xZ=true->∀u∈us,SeqAt.EqAt A s u v (Lh x u)
 | _,_,.nil,_=>λu j=>by cases j
 | y::xs,u::us,.cons r t,f=>λG j=>by
  rw[List.all_cons,cp]at f;rcases bX.mp j with rfl|j;.rw[ab0 r f.1];show ahZ r D f.1 F
  .show JM D F t f.2 G j
def inV (x:V)(xs:List V):Bool:=xs.any λy=>Jr y x
def rIn (K:W.Frag)(j:Bool):R2:=λx y H Q=>∃p xs,y=.ref p/\(bM K H p xs\/aQ K H p xs)/\xZ x=true/\xs.all xZ=true/\Q (.bl (if j then !inV x xs else inV x xs)) H
def uq:ji X (compareOp .NotIn) (rIn X.K true):=by
 intro ao s σ H x y v u Q I F G h;let⟨p,xs,rfl,j,D,fs,q⟩:=h;cases G;rcases j with j|j
 .let⟨its,r,pl,hz⟩:=I.list j;calc SeqAt.notIn_listAt (Lh x) pl.isList (λw hw=>JM F D r fs w (by simpa using hw)) ⟨.bl _,H,I,rL,?_⟩;rw[show its.toArray.any (Lh x)=its.any (Lh x) by simp,Od r fs];show q
 .let⟨its,r,pl,hz⟩:=I.tuple j;calc SeqAt.notIn_tupleAt (Lh x) pl (λw hw=>JM F D r fs w (by simpa using hw)) ⟨.bl _,H,I,rL,?_⟩;rw[show its.toArray.any (Lh x)=its.any (Lh x) by simp,Od r fs];show q
def Ua:ji X (compareOp .NotIn) (λx y H Q=>∃i j,x=.str i/\y=.str j/\Q (.bl (!(!(Builtin.Str.occurrences j i 0 j.length 1).isEmpty))) H):=by intro ao s σ H x y v u Q I F D h;let⟨i,j,rfl,rfl,q⟩:=h;let⟨t,rfl⟩:=F;let⟨t',rfl⟩:=D;show notIn_str ⟨.bl _,H,I,rL,q⟩
def b_:jJ X (.builtin "len") (λxs H Q=>∃p ys,xs=[.ref p]/\(bM X.K H p ys\/aQ X.K H p ys)/\Q (.int ys.length) H):=by
 intro ao s σ H xs us Q I r h;let⟨p,ys,rfl,j,q⟩:=h;let⟨u,rfl,G⟩:=vals1 r;cases G;let hn:=Bu;rcases j with j|j
 .let⟨its,D,pl,hz⟩:=I.list j;let F:=D.length;show Calls.call_len_list pl.isList (by simp only[bz] <;> lia) ⟨.int ys.length,H,I.tok _,⟨s.toks+1,by rw[bz,F]⟩,q⟩
 .let⟨its,D,pl,hz⟩:=I.tuple j;let F:=D.length;show len_tuple pl (by simp only[bz] <;> lia) ⟨.int ys.length,H,I.tok _,⟨s.toks+1,by rw[bz,F]⟩,q⟩
def Ub:jJ X (.builtin "len") (λxs H Q=>∃z,xs=[.str z]/\z.length<=sizeLine/\Q (.int z.length) H):=by intro ao s σ H xs us Q I r h;let⟨z,rfl,hz,q⟩:=h;let⟨u,rfl,t,rfl⟩:=vals1 r;let hn:=Bu;show len_str qk ⟨.int z.length,H,I.tok _,⟨_,rL⟩,q⟩
def jB:jJ X (.type "tuple") (λxs H Q=>∃p ys,xs=[.ref p]/\((bM X.K H p ys/\∀l,H l=none->Q (.ref l) (upd H l (.tup ys)))\/(aQ X.K H p ys/\Q (.ref p) H))):=by
 intro ao s σ H xs us Q I r h;let⟨p,ys,rfl,h⟩:=h;let⟨u,rfl,G⟩:=vals1 r;cases G;rcases h with⟨D,q⟩|⟨D,q⟩
 .let⟨its,j,pl,hz⟩:=I.list D;let O:=j.length;calc call_tuple_list pl.isList (λh' kp=>?_) (by simp only[bz] <;> lia);let F:aX X ao σ H {s with heap:=h' }:=I.kept (t':=s.toks) kp;let J:aX X ao σ (upd H h'.objs.size (.tup ys)) {s with heap:=h'.push {cls:=.type "tuple",data:=.seq its.toArray} }:=
   F.laid (t':=s.toks) (λb o e=>ag _ e) (ax _) (show ig X.prog X.w _ _ _ (.tup ys) from ⟨hz,its,j,IsTup.new _ _⟩)
  show⟨.ref h'.objs.size,_,J,rL,q _ (F.hok.fresh (ax _))⟩
 .let⟨its,j,pl,hz⟩:=I.tuple D;show call_tuple_same pl ⟨.ref p,H,I,rL,q⟩
def tyV (K:W.Frag)(T:String)(x:V)(H:Hp):Prop:=match x with
 | .str _=>T="str"
 | .int _=>T="int"
 | .ref p=>(T="list"/\∃xs,bM K H p xs)\/(T="tuple"/\∃o,K.lookup p=some o/\o.cls=.type "tuple"/\o.dict=none)\/
   (T="dict"/\((∃kvs,H p=some (.dK kvs))\/∃kvs,H p=some (.dT kvs)))\/(T="set"/\∃S n,H p=some (.set S n))
 | _=>False
def ab1 {ao:AF}{σ:St}{H:Hp}{s:Shared}{T:String}{x:V}{v:Value}(I:aX X ao σ H s)(r:cW x v)(ty:tyV X.K T x H):s.TypeIs v T/\∀a,v=.ref a->∃ob,s.heap.get? a=some ob/\ob.dict=none:=by
 cases x with
 | str z=>let⟨t,rfl⟩:=r;cases(show T="str" from ty);show⟨typeIs_str s z t,λ_ e=>nomatch e⟩
 | int i=>let⟨t,rfl⟩:=r;cases(show T="int" from ty);show⟨typeIs_int s i t,λ_ e=>nomatch e⟩
 | ref p=>
  cases r;rcases ty with⟨rfl,xs,D⟩|⟨rfl,o,j,F,hd⟩|⟨rfl,j⟩|⟨rfl,S,n,j⟩
  .let⟨its,_,pl,_⟩:=I.list D;calc⟨pl.isList.typeIs,λa e=>?_⟩;cases e;let⟨o,n,e,c,hd,_⟩:=pl;show⟨o,e,hd⟩
  .calc⟨⟨o,I.je p o j,F⟩,λa e=>?_⟩;cases e;show⟨o,I.je _ o j,hd⟩
  .let z:∃o,s.heap.get? p=some o/\o.ExactDict:=by
    rcases j with⟨kvs,j⟩|⟨kvs,j⟩
    .let⟨_,_,_,_,o,_,_,e,ex,_⟩:=I.hok p _ j;show⟨o,e,ex⟩
    .let⟨_,_,_,_,o,_,_,e,ex,_⟩:=I.hok p _ j;show⟨o,e,ex⟩
   let⟨o,e,ex⟩:=z;calc⟨⟨o,e,ex.1⟩,λa e2=>?_⟩;cases e2;show⟨o,e,ex.2.1⟩
  .let⟨o,_,_,_,e,ex,_⟩:=I.hok p _ j;calc⟨⟨o,e,ex.1⟩,λa e2=>?_⟩;cases e2;show⟨o,e,ex.2.1⟩
 | _=>show False.elim ty
def ah0 (K:W.Frag)(T:String)(r:V->List V->Hp->VK->Prop)(to:TE):TE:=λσ H Q=>to σ H λx H1=>tyV K T x H1/\r x [] H1 Q
def tBM (K:W.Frag)(T:String)(r:V->List V->Hp->VK->Prop)(to:TE)(t:TA):TE:=λσ H Q=>to σ H λx H1=>tyV K T x H1/\t σ H1 λxs j=>r x xs j Q
variable {o e:Expr}{es:List Expr}{to:TE}{t:TA}{name:Str}{apos cpos:Pos}{T id:String}{r:V->List V->Hp->VK->Prop}
def Fb (J:PlainAttrs T)(slot:Slot T name id)(F:typeOf (.builtin id)=pure (.type "method_descriptor"))(hm:Ep X id r)(O:QE X o to)(D:attributeBase o name X.env (eval o X.env)=eval o X.env:=by rfl)(j:(apos.endLine==cpos.line)=true:=by rfl):QE X (.Call (.Attribute o name apos) [] [] cpos) (ah0 X.K T r to):=⟨by
 intro ao s σ H Q I h;calc wpAny_Call_method0_late D j (cP (O.out ao s σ H _ I h) λv s1 ⟨x,H1,G,r1,ty,q1⟩=>?_);let⟨h1,h2⟩:=ab1 G r1 ty;show⟨T,id,J,slot,F,h1,h2,ia rL (PySem.evalArgs_none (hm ao s1 σ H1 x [] v [] Q G r1 .nil q1))⟩⟩
def gG (Z:PlainAttrs T)(slot:Slot T name id)(J:typeOf (.builtin id)=pure (.type "method_descriptor"))(hm:Ep X id r)(ho:QE X o to)(ha:QA X (e::es) t)(F:attributeBase o name X.env (eval o X.env)=eval o X.env:=by rfl)(G:((backTo cpos (starEach (e::es) X.env)).all (λx=>!x.1)&&(backToKw cpos (keywordEach [] X.env)).all (λx=>x.1.isSome)
   && decide ((e::es).length+([]:List Keyword).length+(if ([]:List Keyword).isEmpty then 0 else 1)<30))=true:=by rfl) (D:(apos.endLine==cpos.line)=true:=by rfl) (hs:starEach (e::es) X.env=(false,eval e X.env)::starEach es X.env:=by rfl) (j:(backTo cpos (starEach es X.env)).any (·.1)=false:=by rfl):QE X (.Call (.Attribute o name apos) (e::es) [] cpos) (tBM X.K T r to t):=⟨by
 intro ao s σ H Q I h;calc wpAny_Call_method_late F G D rL (cP (ho.out ao s σ H _ I h) λv s1 ⟨x,H1,O,r1,ty,q1⟩=>?_);let⟨h1,h2⟩:=ab1 O r1 ty;calc⟨T,id,Z,slot,J,h1,h2,?_⟩;let Y:=ha.out cpos ao s1 σ H1 _ O q1;rw[hs]at Y ⊢;calc ia (by show (false||(backTo cpos (starEach es X.env)).any (·.1))=false;rw[j] <;> rfl) (iF ?_);show cP Y λus s2 ⟨vs,H2,I2,r2,q2⟩=>hm ao s2 σ H2 x vs v us Q I2 r1 r2 q2⟩
end
def MtM (X:Cx)(id:String)(r:V->List V->Hp->VK->Prop):Prop:=∀(ao:AF) (s:Shared) (σ:St) (H:Hp) (x:V) (xs:List V) (v:Value) (us:List Value) (Q:VK),aX X ao σ H s->cW x v->Vals xs us->r x xs H Q->
  wpAny (model X.prog X.w) X.A (call (.builtin id) (v::us)) (EP X ao σ Q) X.xe s
theorem Vals.one:∀{x:V} {us:List Value},Vals [x] us->∃u,us=[u]/\cW x u
 | _,_,.cons r .nil=>⟨_,rL,r⟩
theorem Vals.zero:∀{us:List Value},Vals [] us->us=[]
 | _,.nil=>rfl
theorem Vals.eraseIdx:∀{xs:List V} {us:List Value} (i:Nat),Vals xs us->Vals (xs.eraseIdx i) (us.eraseIdx i)
 | _,_,_,.nil=>.nil
 | _,_,0,.cons _ t=>t
 | _,_,i+1,.cons r t=>.cons r (Vals.eraseIdx i t)
theorem Vals.rep (h:Vals xs us):∀k:Nat,Vals (List.replicate k xs).flatten (List.replicate k us).flatten
 | 0=>.nil
 | k+1=>by rw[dS,dS,fi,fi];show Vals.append h (Vals.rep h k)
theorem foldl_rep (its:List Value):∀(k:Nat) (j:List Value),
  List.foldl (λx1 D=>x1++D) j.toArray (List.replicate k its.toArray)=(j++(List.replicate k its).flatten).toArray
 | 0,j=>by simp
 | k+1,j=>by
  let e:j.toArray++its.toArray=(j++its).toArray:=qo;let e2:(j++its)++(List.replicate k its).flatten=j++(List.replicate (k+1) its).flatten:=by rw[dS,fi,List.append_assoc]
  rw[<-e2,<-foldl_rep its k (j++its),<-e,dS,nv]
section
variable {X:Cx}{ao:AF}{σ:St}{H:Hp}{s:Shared}{l:Addr}{xs ys:List V}
def aX.ad1 {its its':List Value}(I:aX X ao σ H s)(D:H l=some (.lst xs))(e:s.heap.get? l=some {cls:=.type "list",data:=.seq its.toArray n})(j:f its.toArray=its'.toArray)(hv:Vals ys its')(hz:ys.length<=sizeLine):aX X ao σ (upd H l (.lst ys)) {s with heap:=s.heap.update l (Obj.mapSeq f),toks:=t' }:=by let q:=PySem.IsL.update e f;rw[j]at q;calc I.write (x:=l) (e:=l) (by rw[D];show trivial) (.inl rL) (λG u hb F=>(fF s.heap (Obj.mapSeq f) (gm hb)).trans F) ⟨_,q⟩ ?_;show⟨hz,its',_,hv,q⟩
def aX.ad2 (I:aX X ao σ H s)(hv:Vals ys its)(hz:ys.length<=sizeLine):aX X ao σ (upd H s.heap.objs.size (.lst ys)) {s with heap:=s.heap.push {cls:=.type "list",data:=.seq its.toArray},toks:=t' }:=I.laid (λ_ _ q=>ag _ q) (ax _) ⟨hz,its,0,hv,bu _ rL⟩
def aX.fresh (I:aX X ao σ H s):H s.heap.objs.size=none:=I.hok.fresh (ax _)
def aX.CZ (I:aX X ao σ H s)(j:H l=some (.lst xs)):xs.length<=sizeLine/\∃(its:List Value) (n:Nat),Vals xs its/\xs.length=its.length/\s.heap.get? l=some {cls:=.type "list",data:=.seq its.toArray n}:=by let⟨z,its,n,r,e⟩:=I.hok l _ j;show⟨z,its,n,r,r.length,e⟩
def Uc (h:n<=sizeLine):Builtin.List.listTooLong n=false:=by unfold Builtin.List.listTooLong;show af qk
end
section
variable {X:Cx}
def af4:V->List V->Hp->VK->Prop:=λx vs H Q=>∃l xs y,x=.ref l/\vs=[y]/\H l=some (.lst xs)/\xs.length<sizeLine/\Q .non (upd H l (.lst (xs++[y])))
def kO:MtM X "list.append" af4:=by intro ao s σ H x vs v us Q I D G h;let⟨l,xs,y,rfl,rfl,j,hz,q⟩:=h;cases D;let⟨u,rfl,J⟩:=G.one;let⟨z,its,n,r,hl,e⟩:=I.CZ j;calc call_meets F.slot_list_append ⟨_,e,rL⟩ F.entry_list_append (F.args_list_append_2 _ _) (PySem.list_append l its.toArray n u (by rw[bz];simp_all)) ⟨e,?_⟩;calc⟨.non,_,I.ad1 (its':=its++[u]) j e qo (r.append (.cons J .nil)) ?_,rL,q⟩;rw[am,mB];show hz
def af5:V->List V->Hp->VK->Prop:=λx vs H Q=>∃l b xs zs,x=.ref l/\vs=[.ref b]/\H l=some (.lst xs)/\H b=some (.lst zs)/\xs.length+zs.length<=sizeLine/\Q .non (upd H l (.lst (xs++zs)))
def ab2:MtM X "list.extend" af5:=by
 intro ao s σ H x vs v us Q I J Y h;let⟨l,b,xs,zs,rfl,rfl,D,hB,hz,q⟩:=h;cases J;let⟨u,rfl,Z⟩:=Y.one;cases Z;let⟨z,its,n,r,hl,e⟩:=I.CZ D;let⟨z2,j,O,r2,hl2,e2⟩:=I.CZ hB;let hsz:its.toArray.size+j.toArray.size<=sizeLine:=by rw[bz,bz];simp_all
 let G:¬(!its.toArray.isEmpty&&Builtin.List.listTooLong (its.toArray.size+j.toArray.size))=true:=by rw[Uc hsz,Bool.and_false];show b9
 refine call_meets F.slot_list_extend ⟨_,e,rL⟩ F.entry_list_extend (F.args_list_extend_2 _ _)
  (AutoSeq1.list_extend_list_list_0 l its.toArray n b j.toArray O G (by rw[bz];simp_all) (Nat.le_succ_of_le hsz)) ⟨e,e2,?_⟩
 calc⟨.non,_,I.ad1 (its':=its++j) D e qo (r.append r2) ?_,rL,q⟩;rw[am];show hz
def akU:R2:=λx y H Q=>∃l b xs zs,x=.ref l/\y=.ref b/\H l=some (.lst xs)/\H b=some (.lst zs)/\xs.length+zs.length<=sizeLine/\∀p,H p=none->Q (.ref p) (upd H p (.lst (xs++zs)))
def yN:ji X (binaryOp .Add) akU:=by intro ao s σ H x y v u Q I F G h;let⟨l,b,xs,zs,rfl,rfl,J,hB,hz,q⟩:=h;cases F;cases G;let⟨z,its,n,r,hl,e⟩:=I.CZ J;let⟨Y,j,Z,r2,O,e2⟩:=I.CZ hB;calc PySem.P.add_list e e2 ?_ (by rw[bz,bz];lia);let D:its.toArray++j.toArray=(its++j).toArray:=qo;rw[D];show⟨.ref _,_,I.ad2 (t':=s.toks) (r.append r2) (by rw[am];lia),rL,q _ I.fresh⟩
def akV:R2:=λx y H Q=>∃l k xs,x=.ref l/\y=.int k/\H l=some (.lst xs)/\-(2^63)<=k/\k<2^63/\xs.length*k.toNat<=sizeLine/\
 ∀p,H p=none->Q (.ref p) (upd H p (.lst (List.replicate k.toNat xs).flatten))
def len_rep {α:Type}(xs:List α)(k):(List.replicate k xs).flatten.length=k*xs.length:=by
 induction k with| zero=>simp| succ k ih=>rw[dS,fi,am,ih,pj,Nat.add_comm]
def ab3:ji X (binaryOp .Mult) akV:=by
 intro ao s σ H x y v u Q I Y Z h;let⟨l,k,xs,rfl,rfl,hH,h1,h2,hz,q⟩:=h;cases Y;let⟨t,rfl⟩:=Z;let⟨z,its,n,r,hl,e⟩:=I.CZ hH;let dR:its.toArray.size*k.toNat<=sizeLine:=by rw[bz,<-hl];show hz
 let D:¬its.toArray.size*k.toNat > (2^63-1)/8:=by
  have:(sizeLine:Nat)<=(2^63-1)/8:=by decide
  lia
 let G:¬(!Builtin.List.listFitsIndex k)=true:=by rw[fitsIndex_both h1 h2];show b9
 let O:¬Builtin.List.listTooLong (its.toArray.size*k.toNat)=true:=by rw[Uc dR];show b9
 let j:List.foldl (λx1 J=>x1++J) #[] (List.replicate (if its.toArray.isEmpty=true then 0 else k.toNat) its.toArray)=(List.replicate k.toNat its).flatten.toArray:=by
  let f0:∀m:Nat,List.foldl (λx1 J=>x1++J) #[] (List.replicate m its.toArray)=(List.replicate m its).flatten.toArray:=λm=>by have:=foldl_rep its m [];rw[List.nil_append]at this;show this
  rw[f0];cases its with| nil=>simp| cons a r'=>rw[if_neg qo]
 refine k9 (T:="list") (U:="int") qr ⟨_,e,rL⟩ (λs'=>typeIs_int s' k t) noFill_list_mul F.fills_int_mul F.slot_int_rmul repeat_list F.slot_int_index.lookup
  (call_meets F.slot_int_rmul (typeIs_int s k t) F.entry_int_rmul (F.args_int_rmul_2 _ _) (int___rmul___int_list k t l its.toArray n)
   ⟨e,rL,⟨_,e,rL⟩,call_meets F.slot_list_mul ⟨_,e,rL⟩ F.entry_list_mul (F.args_list_mul_2 _ _) (AutoListH.list___mul___list_int_3 l its.toArray n k t G D O) ⟨e,?_⟩⟩)
 rw[j];show⟨.ref _,_,I.ad2 (t':=s.toks) (r.rep k.toNat) (by rw[len_rep,Nat.mul_comm];show hz),rL,q _ I.fresh⟩
end
section
variable {κ:Type}[DecidableEq κ]
def iz (kvs:List (κ×V))(k:κ):Option V:=(kvs.find? λj=>decide (j.1=k)).map (·.2)
noncomputable def putK (kvs:List (κ×V))(k:κ)(v:V):List (κ×V):=if (kvs.any λj=>decide (j.1=k))=true then kvs.map (λj=>if j.1=k then (j.1,v) else j) else kvs++[(k,v)]
def lH {p:κ×V}(e:p.1=k):iz (p::r) k=some p.2:=by simp[iz,gy,e]
def lJ {p:κ×V}(e:¬p.1=k):iz (p::r) k=iz r k:=by simp[iz,gy,e]
theorem vD (k:κ):∀kvs:List (κ×V),(kvs.any λj=>decide (j.1=k))=(iz kvs k).isSome
 | []=>rfl
 | p::r=>by
  rw[kR];by_cases e:p.1=k;.simp only[lH e,ai e,Bool.true_or,Option.isSome_some]
  .rw[lJ e,af e,oq];show vD k r
theorem Ud (k j:κ)(y):∀kvs:List (κ×V),iz (kvs.map λD=>if D.1=k then (D.1,y) else D) j=(iz kvs j).map λx=>if j=k then y else x
 | []=>rfl
 | p::r=>by
  let F:=Ud k j y r;rw[cq];by_cases h:p.1=k
  .rw[if_pos h];by_cases e:p.1=j;.rw[lH (p:=(p.1,y)) e,lH e,lh,if_pos (e.symm.trans h)]
   .rw[lJ (p:=(p.1,y)) e,lJ e,F]
  .rw[if_neg h];by_cases e:p.1=j;.rw[lH (p:=p) e,lH e,lh,if_neg (λz=>h (e.trans z))]
   .rw[lJ (p:=p) e,lJ e,F]
theorem QM (k j:κ)(y):∀kvs:List (κ×V),iz kvs k=none->iz (kvs++[(k,y)]) j=if j=k then some y else iz kvs j
 | [],_=>by
  by_cases e:k=j;.rw[if_pos e.symm];show lH (p:=(k,y)) e
  .rw[if_neg (λz=>e z.symm)];show lJ (p:=(k,y)) e
 | p::r,hn=>by
  rw[pk];let D:¬p.1=k:=λz=>by rw[lH z]at hn;cases hn
  rw[lJ D]at hn;let F:=QM k j y r hn;by_cases e:p.1=j;.rw[lH e,lH e,if_neg (λz=>D (e.trans z))]
  .rw[lJ e,lJ e,F]
def ad3 (kvs:List (κ×V))(k j:κ)(y):iz (putK kvs k y) j=if j=k then some y else iz kvs j:=by
 unfold putK;by_cases a:(kvs.any λD=>decide (D.1=k))=true
 .rw[if_pos a,Ud];rw[vD]at a;by_cases e:j=k
  .let⟨x,hx⟩:=gv.mp a;rw[if_pos e,e,hx,lh,if_pos rfl]
  .rw[if_neg e];cases iz kvs j with| none=>rfl| some x=>rw[lh,if_neg e]
 .rw[if_neg a];calc QM k j y kvs ?_;rw[vD]at a;cases q:iz kvs k with| none=>rfl| some x=>rw[q]at a;show(a rL).elim
def Ao (kvs:List (κ×V))(k:κ)(v):(putK kvs k v).length<=kvs.length+1:=by
 unfold putK;split;.rw[aa];lia
 .rw[am,dA,p_];lia
def ad4 {kvs:List (κ×V)}{k:κ}(v:V)(h:iz kvs k=none):putK kvs k v=kvs++[(k,v)]:=by unfold putK;rw[vD,h];show if_neg qr
def nQ.Fd (r:nQ o u):o.isSome=u.isSome:=by
 cases o with
 | none=>cases u with| none=>rfl| some _=>show(show False from r).elim
 | some _=>cases u with| none=>show(show False from r).elim| some _=>rfl
def nQ.getD (r:nQ o u)(rd:cW d d'):cW (o.getD d) (u.getD d'):=by
 cases o with
 | none=>cases u with| none=>show rd| some _=>show(show False from r).elim
 | some _=>cases u with| none=>show(show False from r).elim| some _=>show r
def KV.val (r:KV kvs vs)(k:κ):nQ (iz kvs k) (valueAt vs k):=by
 unfold KV at r
 induction r with
 | nil=>show True.intro
 | @cons p q ps qs h t ih=>
  let⟨h1,h2⟩:=h;by_cases e:p.1=k
  .let j:q.1=k:=h1.symm.trans e;let b:valueAt (q::qs) k=some q.2:=by simp[valueAt,gy,j]
   rw[lH e,b];show h2
  .let j:¬q.1=k:=λz=>e (h1.trans z)
   let b:valueAt (q::qs) k=valueAt qs k:=by simp[valueAt,gy,j]
   rw[lJ e,b];show ih
def KV.any (r:KV kvs vs)(k:κ):(kvs.any λj=>decide (j.1=k))=vs.any λj=>decide (j.1=k):=by
 unfold KV at r
 induction r with| nil=>rfl| cons h t ih=>rw[kR,kR,ih,h.1]
def KV.repl (r:KV kvs vs)(k:κ)(D:cW y u):KV (kvs.map λj=>if j.1=k then (j.1,y) else j) (vs.map λj=>if j.1=k then (j.1,u) else j):=by
 unfold KV at r ⊢
 induction r with
 | nil=>show .nil
 | @cons p q ps qs h t ih=>
  rw[cq,cq];calc .cons ?_ ih;let⟨h1,h2⟩:=h;by_cases e:p.1=k;.rw[if_pos e,if_pos (h1.symm.trans e)];show⟨h1,D⟩
  .rw[if_neg e,if_neg (λz=>e (h1.trans z))];show⟨h1,h2⟩
def KV.put (r:KV kvs vs)(k:κ)(j:cW y u):KV (putK kvs k y) (stored vs k u):=by
 unfold putK stored;rw[r.any k];by_cases e:(vs.any λD=>decide (D.1=k))=true;.rw[if_pos e,if_pos e];show r.repl k j
 .rw[if_neg e,if_neg e];show Paired.snoc r ⟨rL,j⟩
def KV.keys {kvs:List (κ×V)}{vs:List (κ×Value)}(r:KV kvs vs):kvs.map (·.1)=vs.map (·.1):=by
 unfold KV at r
 induction r with| nil=>rfl| cons h t ih=>rw[cq,cq,ih,h.1]
def KV.length {kvs:List (κ×V)}{vs:List (κ×Value)}(r:KV kvs vs):kvs.length=vs.length:=Paired.length r
end
def Lk (r:cW (kV k) u):(jf P w).is k u=true:=by
 cases k with
 | inl i=>let⟨t,e⟩:=(show ∃t,u=Value.int i t from r);subst e;show Xw P w i t
 | inr x=>let⟨t,e⟩:=(show ∃t,u=Value.str x t from r);subst e;show nP P w x t
theorem QV:∀{j:List Key} {us:List Value},Vals (j.map kV) us->ItemsAre (jf P w) j us
 | [],_,r=>by rw[pv]at r;cases r;show .nil
 | k::j,_,r=>by
  rw[cq]at r;cases r with| cons h t=>show .cons (Lk h) (QV t)
abbrev KT (H:Hp):List (List Key×V)->List (List Key×Addr×Value)->Prop:=Paired λp q=>p.1=q.1/\H q.2.1=some (.tup (p.1.map kV))/\cW p.2 q.2.2
def KT.val (r:KT H kvs xs)(k:List Key):nQ (iz kvs k) ((atKey xs k).map (·.2)):=by
 induction r with
 | nil=>show True.intro
 | @cons p q ps qs h t ih=>
  let⟨h1,_,h2⟩:=h;by_cases e:p.1=k
  .let j:q.1=k:=h1.symm.trans e;let b:atKey (q::qs) k=some q.2:=by simp[atKey,gy,j]
   rw[lH e,b];show h2
  .let j:¬q.1=k:=λz=>e (h1.trans z)
   let b:atKey (q::qs) k=atKey qs k:=by simp[atKey,gy,j]
   rw[lJ e,b];show ih
def KT.repl (r:KT H kvs xs)(k:List Key)(D:cW y u):KT H (kvs.map λj=>if j.1=k then (j.1,y) else j) (xs.map (putAt k u)):=by
 induction r with
 | nil=>show .nil
 | @cons p q ps qs h t ih=>
  rw[cq,cq];calc .cons ?_ ih;let⟨h1,h2,h3⟩:=h;unfold putAt;by_cases e:p.1=k;.rw[if_pos e,if_pos (h1.symm.trans e)];show⟨h1,h2,D⟩
  .rw[if_neg e,if_neg (λz=>e (h1.trans z))];show⟨h1,h2,h3⟩
def KT.put (r:KT H kvs xs)(k:List Key)(hb:H b=some (.tup (k.map kV)))(j:cW y u):KT H (putK kvs k y) (storedH xs k b u):=by
 let e:(kvs.any λD=>decide (D.1=k))=(atKey xs k).isSome:=by rw[vD,(r.val k).Fd,Option.isSome_map]
 unfold putK storedH;rw[e];by_cases q:(atKey xs k).isSome=true;.rw[if_pos q,if_pos q];show r.repl k j
 .rw[if_neg q,if_neg q];show Paired.snoc r ⟨rL,hb,j⟩
def KT.keeps (r:KT H kvs xs)(ht:∀b ys,H b=some (.tup ys)->H' b=some (.tup ys)):KT H' kvs xs:=Paired.adS r λ_ _ z=>⟨z.1,ht _ _ z.2.1,z.2.2⟩
section
variable {P:Program}{w:World}{H:Hp}{h:Heap}{a:Addr}
def afB (ok:lX P w H h)(e:Rd H a u):ig P w H h a u:=e.ok ok
def Lp (ok:lX P w H h)(e:Rd H a (.dK kvs)):kvs.length<=sizeLine/\(a==sysModules)=false/\∃vs,KV kvs vs/\h.DictOf (jf P w) a vs:=show ig P w H h a (.dK kvs) from afB ok e
def aaB (ok:lX P w H h)(e:H a=some (.dK kvs)):kvs.length<=sizeLine/\(a==sysModules)=false/\∃vs,KV kvs vs/\h.DictOf (jf P w) a vs:=Lp ok (.inl e)
def Lq {j:List Key}(ok:lX P w H h)(e:H a=some (.tup (j.map kV))):(tupleKind (jf P w)).is h j a:=by
 let⟨_,its,r,o,h1,h2,n,h3⟩:=(show ig P w H h a (.tup (j.map kV)) from ok a _ e)
 show⟨o,its.toArray,n,h1,h2,h3,by simpa using QV r⟩
def Sx (ok:lX P w H h)(e:Rd H a (.dT kvs)):kvs.length<=sizeLine/\(a==sysModules)=false/\
  ∃xs,KT H kvs xs/\h.DictOfH (tupleKind (jf P w)) a xs:=by
 let⟨z,y,xs,r,o,es,ep,h1,h2,h3,h4,h5⟩:=(show ig P w H h a (.dT kvs) from afB ok e)
 calc⟨z,y,xs,r,o,es,ep,h1,h2,h3,h4,λx hx=>?_,h5⟩;let all:∀{l:List (List Key×V)} {m:List (List Key×Addr×Value)},KT H l m->∀x∈m,(tupleKind (jf P w)).is h x.1 x.2.1:=by
  intro l m q
  induction q with
  | nil=>intro x hx;show nomatch hx
  | @cons p q ps qs hq t ih=>
   intro x hx;rcases bX.mp hx with e|hx
   .subst e;show Lq ok (by rw[<-hq.1];show hq.2.1)
   .show ih x hx
 show all r x hx
def ajQ (ok:lX P w H h)(e:H a=some (.dT kvs)):kvs.length<=sizeLine/\(a==sysModules)=false/\
  ∃xs,KT H kvs xs/\h.DictOfH (tupleKind (jf P w)) a xs:=Sx ok (.inl e)
end
def Aq (H:Hp)(a:Addr)(y:V)(r:Option V):Prop:=(∃kvs k,Rd H a (.dK kvs)/\y=kV k/\r=iz kvs k)\/∃kvs k b,Rd H a (.dT kvs)/\y=.ref b/\H b=some (.tup (k.map kV))/\r=iz kvs k
def JN (H:Hp)(a:Addr)(y v:V)(H':Hp):Prop:=(∃kvs k,H a=some (.dK kvs)/\y=kV k/\kvs.length<sizeLine/\H'=upd H a (.dK (putK kvs k v)))\/
 ∃kvs k b,H a=some (.dT kvs)/\y=.ref b/\H b=some (.tup (k.map kV))/\kvs.length<sizeLine/\H'=upd H a (.dT (putK kvs k v))
theorem Aq.k {kvs:List (Key×V)}{k:Key}(e:H a=some (.dK kvs)):Aq H a (kV k) (iz kvs k):=.inl ⟨kvs,k,.inl e,rL,rL⟩
theorem JN.k {kvs:List (Key×V)}{k:Key}{v:V}(e:H a=some (.dK kvs))(hl:kvs.length<sizeLine):JN H a (kV k) v (upd H a (.dK (putK kvs k v))):=.inl ⟨kvs,k,e,rL,hl,rL⟩
section
variable {X:Cx}{ao:AF}{σ:St}{H:Hp}{s:Shared}{a:Addr}{y v:V}{u r:Value}{o:Option V}{A:Around}{E:AB}
variable {kvs:List (Key×V)}
def aX.big (I:aX X ao σ H s):sysModules<s.heap.objs.size:=by let h:mainGlobals<s.heap.objs.size:=(I.mod.glob.keeps I.bk).lt;show Nat.lt_trans qr h
def akW (G:A.units+1<cLine)(I:aX X ao σ H s)(g:Aq H a y o)(F:cW y u)(h:∀s',aX X ao σ H s'->Q (.bool o.isSome) s'):wpAny (model X.prog X.w) A (compareOp .In u (.ref a)) Q E s:=by
 rcases g with⟨kvs,k,e,D,l⟩|⟨kvs,k,b,e,D,J,l⟩
 .subst D;let⟨z,hd,vs,j,dd⟩:=Lp I.hok e;calc wpAny_in_of (Lk F) hd dd.mapOf ?_;rw[<-(j.val k).Fd,<-l];show h _ (I.tok _)
 .subst D;cases(show u=Value.ref b from F);let⟨z,hd,xs,j,dd⟩:=Sx I.hok e;calc wpAny_in_heap (tupleKind_room_in1 G) (Lq I.hok J) hd dd ?_;let q:=(j.val k).Fd;rw[Option.isSome_map]at q;rw[<-q,<-l];show h _ (I.tok _)
def YC (I:aX X ao σ H s)(D:Mut (H a))(hs:Heap.SameBut a s.heap h')(j:∃q,h'.get? a=some q)(new:ig X.prog X.w (upd H a ob) h' a ob):aX X ao σ (upd H a ob) {s with heap:=h',toks:=t' }:=I.write (x:=a) (e:=a) D (.inl rL) (λb q hb z=>(hs.2 b hb).trans z) j new
def ah1 {h':Heap}{kvs:List (Key×V)}(z:kvs.length<=sizeLine)(hd:(a==sysModules)=false)(j:KV kvs vs)(dd:h'.DictOf (jf P w) a vs):ig P w H' h' a (.dK kvs):=⟨z,hd,vs,j,dd⟩
def ab4 (hu:A.units+1<cLine)(I:aX X ao σ H s)(g:JN H a y v H')(Y:cW y u)(Z:cW v r)(h:∀s',aX X ao σ H' s'->Q () s'):wpAny (model X.prog X.w) A (setItem (.ref a) u r) Q E s:=by
 rcases g with⟨kvs,k,e,G,l,J⟩|⟨kvs,k,b,e,G,eb,l,J⟩
 .subst G J;let⟨z,hd,vs,j,dd⟩:=aaB I.hok e;let hz:vs.length<=sizeLine:=by rw[<-j.length];show z
  let hl:(putK kvs k v).length<=sizeLine:=by have:=Ao kvs k v;lia
  calc wpAny_setItem_pairs (hsz:=hz) (Lk Y) dd λh' D hs=>h _ ?_;let he:∃q,h'.get? a=some q:=let ⟨q,_,_,F,_⟩:=D;⟨q,F⟩
  show YC I (by rw[e];show True.intro) hs he (ah1 hl hd (j.put k Z) D)
 .subst G J;cases(show u=Value.ref b from Y);let⟨z,hd,xs,j,dd⟩:=ajQ I.hok e;let hz:xs.length<=sizeLine:=by rw[<-Paired.length j];show z
  let hl:(putK kvs k v).length<=sizeLine:=by have:=Ao kvs k v;lia
  calc wpAny_setItem_heap (hsz:=hz) (tupleKind_room_in1 hu) (Lq I.hok eb) dd λh' D hs=>h _ ?_;let⟨q,es,ep,F,h2,h3,h4,_,h5⟩:=D;calc YC I (by rw[e];show True.intro) hs ⟨q,F⟩ ⟨hl,hd,_,(j.put k eb Z).keeps λc ys O=>?_,q,es,ep,F,h2,h3,h4,h5⟩;rw[bw (Cw O e (λz=>nomatch z))];show O
def ajR (I:aX X ao σ H s)(e:Rd H a (.dK kvs))(h:∀t s',aX X ao σ H s'->Q (.int kvs.length t) s'):wpAny (model X.prog X.w) A (call (.builtin "len") [.ref a]) Q E s:=by let⟨z,hd,vs,j,dd⟩:=Lp I.hok e;calc call_len_dict hd dd (by rw[<-j.length];rw[sizeLine_eq]at z;lia) ?_;rw[<-j.length];show h _ _ (I.tok _)
end
def akX (ty td:TE):TE:=λσ H Q=>ty σ H λy H1=>td σ H1 λx j=>∃a o,x=.ref a/\Aq j a y o/\Q (.bl o.isSome) j
def ajS (td ty tv:TE):TS:=λD σ H=>tv σ H λv H1=>td σ H1 λx F=>ty σ F λy G=>∃a j,x=.ref a/\JN G a y v j/\D.nx σ j
section
variable {X:Cx}{o i value:Expr}{pos pos':Pos}{td ty tv:TE}
def ah2 (J:X.A.units+1<cLine)(hi:QE X i ty)(Y:QE X o td):QC X .In i o (akX ty td):=⟨by
 intro ao s σ H Q I h;calc cP (hi.out ao s σ H _ I h) λiv s1 ⟨y,H1,D,G,q1⟩=>cP (Y.out ao s1 σ H1 _ D q1) λu s2 ⟨x,O,Z,F,a,ov,ex,g,q2⟩=>?_;subst ex;obtain rfl:u=Value.ref a:=F;show akW J Z g G λs3 j=>⟨.bl ov.isSome,O,j,rL,q2⟩⟩
def YD (Z:X.A.units+1<cLine)(ho:QE X o td)(hi:QE X i ty)(hv:QE X value tv)(hs:swapsWith value (some (.Subscript o i pos')) pos.line X.env=pure false):QS X (.Assign [.Subscript o i pos'] value pos) (ajS td ty tv):=⟨by
 intro ao s σ H D I h;calc wpAny_Assign_Subscript (cP (hv.out ao s σ H _ I h) λr s1 ⟨v,H1,G,Y,q1⟩=>cP (ho.out ao s1 σ H1 _ G q1) λu s2 ⟨x,H2,I2,J,q2⟩=>cP (hi.out ao s2 σ H2 _ I2 q2) λiv s3 ⟨y,H3,j,O,a,F,ex,g,q3⟩=>?_) hs;subst ex;obtain rfl:u=Value.ref a:=J;show ab4 Z j g O Y λs4 I4=>⟨σ,F,I4,q3⟩⟩
end
def ad5 (h:Heap)(hb:sysModules<h.objs.size):ig P w H (h.push {cls:=.type "dict",data:=.dict #[]}) h.objs.size (.dK []):=⟨fe _,beq_eq_false_iff_ne.mpr (gm (cv hb)),[],.nil,Heap.DictOf.new h⟩
def ah3:TE:=λ_ H Q=>∀p,H p=none->Q (.ref p) (upd H p (.dK []))
section
variable {X:Cx}{pos:Pos}
def Ue  : QE X (.Dict [] [] pos) ah3:=⟨λao s σ H Q I h=>wpAny_Dict_empty ⟨.ref s.heap.objs.size,_,I.laid (a:=s.heap.objs.size) (o:=.dK []) (t':=s.toks) (λ_ _ q=>ag _ q) (ax _) (ad5 s.heap I.big),rL,h _ (I.hok.fresh (ax _))⟩⟩
end
structure M2 (X:Cx)(o:Expr)(m:Str)(apos:Pos)(e f:Expr)(cpos:Pos):Prop where
 base:attributeBase o m X.env (eval o X.env)=eval o X.env
 few:((backTo cpos (starEach [e,f] X.env)).all (λx=>!x.1)&&(backToKw cpos (keywordEach [] X.env)).all (λx=>x.1.isSome)
  && decide (([e,f]:List Expr).length+([]:List Keyword).length+(if ([]:List Keyword).isEmpty then 0 else 1)<30))=true
 line:(apos.endLine==cpos.line)=true
 trees:backTo cpos (starEach [e,f] X.env)=[(false,eval e X.env),(false,eval f X.env)]
def IsD (H:Hp)(a:Addr):Prop:=(∃kvs,Rd H a (.dK kvs))\/∃kvs,Rd H a (.dT kvs)
def ah4 {X:Cx}{ao:AF}{σ:St}{H:Hp}{s:Shared}{a:Addr}(I:aX X ao σ H s)(d:IsD H a):s.TypeIs (.ref a) "dict"/\(∀b,Value.ref a=.ref b->∃ob,s.heap.get? b=some ob/\ob.dict=none)/\(a==sysModules)=false:=by
 rcases d with⟨kvs,e⟩|⟨kvs,e⟩
 .let⟨_,hd,vs,_,dd⟩:=Lp I.hok e;calc⟨dd.typeIs,λb q=>?_,hd⟩;cases q;let⟨ob,_,_,h1,h2,_⟩:=dd;show⟨ob,h1,h2.2.1⟩
 .let⟨_,hd,xs,_,dd⟩:=Sx I.hok e;calc⟨dd.typeIs,λb q=>?_,hd⟩;cases q;let⟨ob,_,_,h1,h2,_⟩:=dd;show⟨ob,h1,h2.2.1⟩
section
variable {X:Cx}{ao:AF}{σ:St}{H:Hp}{s:Shared}{a:Addr}{y d:V}{u r:Value}{o:Option V}{A:Around}{E:AB}
def ah5 (J:A.units+1<cLine)(I:aX X ao σ H s)(g:Aq H a y o)(F:cW y u)(rd:cW d r)(h:∀G s',aX X ao σ H s'->cW (o.getD d) G->Q G s'):wpAny (model X.prog X.w) A (call (.builtin "dict.get") [.ref a,u,r]) Q E s:=by
 rcases g with⟨kvs,k,e,D,l⟩|⟨kvs,k,b,e,D,O,l⟩
 .subst D;let⟨z,hd,vs,j,dd⟩:=Lp I.hok e;calc call_meetsIn im dd.typeIs me (lL _ _ _) (meets_dict_get_default (jf X.prog X.w) a (Lk F) hd r) ⟨_,dd.mapOf,h _ _ (I.tok _) ?_⟩;rw[l];show(j.val k).getD rd
 .subst D;cases(show u=Value.ref b from F);let⟨z,hd,xs,j,dd⟩:=Sx I.hok e;calc call_meetsIn im dd.typeIs me (lL _ _ _) (meetsH_dict_get_default (tupleKind (jf X.prog X.w)) a b hd r) ⟨tupleKind_room_in1 J,k,xs,Lq I.hok O,dd,h _ _ (I.tok _) ?_⟩;rw[l];show(j.val k).getD rd
end
def ab5 (td ty tx:TE):TE:=λσ H Q=>td σ H λx H1=>∃a,x=.ref a/\IsD H1 a/\ty σ H1 λy D=>tx σ D λz j=>∃o,Aq j a y o/\Q (o.getD z) j
section
variable {X:Cx}{o e f:Expr}{apos cpos:Pos}{td ty tx:TE}
def ad6 (hu:X.A.units+1<cLine)(ho:PE X o td)(he:PE X e ty)(hf:PE X f tx)(m:M2 X o "get" apos e f cpos):PE X (.Call (.Attribute o "get" apos) [e,f] [] cpos) (ab5 td ty tx):=by
 intro ao s σ H Q I h;calc wpAny_Call_method m.base m.few m.line PySem.F.plainAttrs_dict im PySem.F.type_dict_get (cP (ho ao s σ H _ I h) λu s1 ⟨x,H1,D,O,a,ex,d,q1⟩=>?_);subst ex;obtain rfl:u=Value.ref a:=O;let⟨J,t2,_⟩:=ah4 D d;calc⟨J,t2,?_⟩;rw[m.trees];refine ia rL (iF (ft (cP (he ao s1 σ H1 _ D q1) λiv s2 ⟨y,H2,I2,Y,q2⟩=>ft (cP (hf ao s2 σ H2 _ I2 q2) λfv s3 ⟨z,F,G,Z,ov,g,q3⟩=>ir ?_))))
 show ah5 hu G g Y Z λw' s4 I4 j=>⟨_,F,I4,j,q3⟩
end
end L2
namespace Att
open PySem PySem.W PySem.Calls PyProof.Rows
def Lr:∀(ns:List Int) (vs:List Value),WellAll P h vs (ns.map WData.int)->IntsAre vs ns:=by
 intro ns
 induction ns with
 | nil=>intro vs w;rw[pv]at w;cases w;show .nil
 | cons n ns ih=>
  intro vs w;rw[cq]at w;cases w with| cons a b=>cases a;show .cons _ _ (ih _ b)
def ab6 {l:OpenLaw}(hn:l.most=some n)(j:l.row.toRowW.claim.pre args=true)(D:WellAll P h vals args):∃a vs ns,vals=[Value.ref a]/\args=[WData.list (ns.map WData.int)]/\h.get? a=some {cls:=.type "list",data:=.seq vs.toArray}/\IntsAre vs ns/\ns.length<=n:=by
 let F:WShape.hasAll [] args [.list .int]=true:=(pre_splitW j).1;let G:l.pre.holds [] {args:=args}=true:=(pre_splitW j).2;let⟨d,r,rfl,h1,h2⟩:=hasAllW_cons F;obtain rfl:=hasAllW_nil h2;let⟨xs,rfl,h3⟩:=hasW_list h1;let⟨ns,rfl⟩:=items_int h3;let J:ns.length<=n:=by
  unfold OpenLaw.pre at G;let h4:(WTm.not (.lt (.lit (.int (n:Int))) (.len (.arg 0)))).holds [] {args:=[.list (ns.map .int)]}=true:=by let h4:=(holds_andW G).1;rw[hn]at h4;show h4
  let h5:=condW_of h4 (w_not (w_lt w_lit (w_len_list (w_arg rL))));rw[aa]at h5;calc Nat.le_of_not_lt λq=>?_;let I:(n:Int)<((ns.length:Nat):Int):=Iff.mpr nl q
  first| (rw[ai I]at h5;show absurd h5 qr)| (simp at h5;lia)
 cases D with
 | cons w1 w2=>
  cases w2;cases w1 with| list ho hall=>show⟨_,_,ns,rL,rL,ho,Lr ns _ hall,J⟩
def ab7 (l:OpenLaw)(args:List WData):l.row.toRowW.claim.post args (.bool true) args=true:=postW_of (r:=l.row.toRowW) (X:=(true==true))
  (show WShape.has [] (.bool true) .bool=true by first|rfl|decide|simp[WShape.has,WShape.arms,WShape.armsAll])
  (show (WTm.eq .res (.lit (.bool true))).value [] {args:=args,res:=some (.bool true),after:=args}=some (.bool (true==true)) from w_eq_bool (w_res rL) w_lit) rfl
def Xx {l:OpenLaw}{d:DefRec}(hn:l.most=some n)(Z:d.params.defaults=[])(call:∀(w:World) (s₀ j:Shared) (mg mb:Str->Option Value) (F:Addr) (o:Obj) (pm cd doc:Value) (a:Addr) (vs:List Value) (ns:List Int),
   Ground q loose [] XP w s₀ mg mb j.heap->YP w j.heap->
   j.heap.get? F=some o->o.data=.func (docDef d.name d.params d.body d.scope pm cd doc)->j.heap.CodeRec cd d.name->mg d.name=some (.ref F)->
   j.heap.get? a=some {cls:=.type "list",data:=.seq vs.toArray}->IntsAre vs ns->ns.length<=n->j.gens=#[]->
   codeAny (model l.prog w) callerA (.call (.ref F) ⟨[.ref a],[]⟩) (λr s'=>r=.ok (.ret (.bool true))/\OldK j.heap s'.heap/\s'.os=j.os/\AllBare s'.gens) j) :
  WalkO q loose XP YP l.row.toRowW d [] (λf vs=>PySem.call f vs):=by
 intro w s₀ j mg mb G Y F o pm cd doc dV kV ho hd hcd hD hmg hg args vals as J hlay hrd O hlo;obtain rfl:dV=.none:=Dflts.none hD Z;obtain rfl:kV=.none:=Dflts.noKw hD;let⟨a,vs,ns,rfl,rfl,I,D,dR⟩:=ab6 hn J O;calc enter_call (iX (call w s₀ j mg mb F o pm cd doc a vs ns G Y ho (fd_plain hd) hcd hmg I D dR hg) λr s' hq=>?_);let⟨rfl,h2,h3,h4⟩:=hq;show⟨.inl ⟨.bool true,.bool true,[],rL,λ_=>rfl,.bool true,ab7 l _,λ_=>⟨List.Pairwise.nil,λ_ hm=>(nomatch hm)⟩⟩,h2,h3,h4⟩
end Att
namespace L2
open PySem PySem.Spec PyProof.Rows
theorem QX:∀{vs:List Value} {ns:List Int},IntsAre vs ns->Vals (ns.map V.int) vs
 | _,_,.nil=>.nil
 | _,_,.cons n t h=>.cons ⟨t,rL⟩ (QX h)
def Only (H:Hp):Prop:=∀b,H b=none\/∃o xs,H b=some (.rO o (.lst xs))
def ad7 {K:W.Frag}{j:Shared}{vs:List Value}(KX:K.In j.heap)(hns:j.heap.Ns mainGlobals mg)(hb:j.heap.Ns builtinsNs mb)(hbb:∀x:Str,x≠"__name__"->mb x=bootBuiltins x)(J:j.heap.NoLimit)(hg:j.gens=#[])(ha:j.heap.get? a=some {cls:=.type "list",data:=.seq vs.toArray})(hi:IntsAre vs ns)(hl:ns.length<=sizeLine)(hr:iu k callerA)(F:∀base:Heap,K.In base->base.Ns mainGlobals mg->cU P w K mg base CX k fa fd [x] sp)(I:∀(s:Shared) (u:Value),BindsTo s fd ⟨[u],[]⟩ [(x,u)])(hsp:∀H:Hp,Only H->bM K H a (ns.map V.int)->sp [.ref a] H (λv _=>v=.bl true) λ_ _ _=>False)(hCX:∀H e s',CX [] H j (λ_ _ _=>False) e s'->False):codeAny (model P w) callerA (.call (.ref fa) ⟨[.ref a],[]⟩) (λr s'=>r=.ok (.ret (.bool true))/\OldK j.heap s'.heap/\s'.os=j.os/\AllBare s'.gens) j:=by
 let rv:=QX hi;let Y:=hi.length;let G:∀H:Hp,Only H->bM K H a (ns.map V.int)->lX P w H j.heap->(∀b,H b≠none->b=a)->(H a≠none->K.lookup a=none)->
   codeAny (model P w) callerA (.call (.ref fa) ⟨[.ref a],[]⟩) (λr s'=>r=.ok (.ret (.bool true))/\OldK j.heap s'.heap/\s'.os=j.os/\AllBare s'.gens) j:=by
  intro H hO hS hok hA hK;let YF:∀{b:Addr} {o:Obj},j.heap.get? b=some o->H b=none->(Cy j.heap H).get? b=some o:=λe n=>adT e n;let noA:∀{b:Addr} {o:Obj} {es:Array DictEntry} {ep:Nat},j.heap.get? b=some o->o.data=.dict es ep->H b=none:=λ{b o es ep} e d=>by
   cases q:H b with| none=>rfl| some u=>have e':b=a:=hA b (by rw[q];simp);subst e';rw[ha]at e;cases e;let d':Data.seq vs.toArray _=Data.dict es ep:=d;cases d'
  let D:∀{b:Addr} {m:Str->Option Value},j.heap.Ns b m->(Cy j.heap H).Ns b m:=λ{b m} ⟨o,es,ep,e,d,r⟩=>⟨o,es,ep,YF e (noA e d),d,r⟩
  let O:K.In (Cy j.heap H):=λb o e=>YF (KX b o e) (by
   cases q:H b with
   | none=>rfl
   | some u=>have e':b=a:=hA b (by rw[q];simp);subst e';rw[hK (by rw[q];simp)]at e;cases e)
  let hM:Mod K mg (Cy j.heap H):=⟨O,D hns,⟨mb,D hb,hbb⟩,let ⟨mc,h1,h2⟩:=J;⟨mc,D h1,h2⟩⟩
  let e0:CV P w K mg (Cy j.heap H) callerA [] j H:=⟨rL,hM,λb o e=>afY e,iS (abR _ _),trivial,λb hb=>absurd (show b∈([]:List Addr) from hb) qo,hok,.of_eq hg⟩
  calc iX ((F _ O (D hns)).run callerA [] j H ⟨[.ref a],[]⟩ [.ref a] [.ref a] _ _ hr e0 (I j (.ref a)) (.cons rL .nil) (hsp H hO hS)) λr s' h=>?_;cases r with
  | error e=>show(hCX H e s' h).elim
  | ok fl=>
   cases fl with
   | next=>show False.elim h
   | brk=>show False.elim h
   | cont=>show False.elim h
   | ret u=>
    let⟨v,H',os,bare,un,Z,r',q⟩:=h;let q':v=.bl true:=q;subst q';obtain rfl:u=Value.bool true:=r';calc⟨rL,OldK.of_keep λb o e=>?_,os,bare⟩;cases q:H b with
    | none=>show un.keep b o e q (by intro z;show absurd (show b∈([]:List Addr) from z) qo) qo
    | some u=>
     rcases hO b with z|⟨ob,xs,z⟩;.rw[q]at z;cases z
     .let z2:=un.rK b ob _ z;let⟨e1,_⟩:=hok b _ z;let⟨e2,_⟩:=Z b _ z2;rw[e]at e1;cases e1;show e2
 cases hk:K.lookup a with
 | some o=>have e:=KX a o hk;rw[ha]at e;cases e;refine G (λ_=>none) (λ_=>.inl rL) (.inr ⟨_,vs.toArray,_,hk,rL,rL,rL,by rw[bz,Y];show hl,by simpa using rv⟩) (λb u z=>by let z':(none:Option HO)=some u:=z;cases z') (λb z=>absurd rL z) λz=>absurd rL z
 | none=>
  refine G (λb=>if b=a then some (.rO {cls:=.type "list",data:=.seq vs.toArray} (.lst (ns.map V.int))) else none) (λb=>?_) (.inl (.inr ⟨{cls:=.type "list",data:=.seq vs.toArray},if_pos rL⟩)) (λb u z=>?_) (λb z=>?_) λ_=>hk
  .by_cases hb:b=a;.show .inr ⟨_,_,if_pos hb⟩
   .show .inl (if_neg hb)
  .by_cases hb:b=a
   .let z':=(if_pos hb).symm.trans z;cases z';subst hb;show⟨ha,by rw[aa];show hl,vs,_,rv,ha⟩
   .let z':=(if_neg hb).symm.trans z;cases z'
  .by_cases hb:b=a;.show hb
   .show absurd (if_neg hb) z
abbrev KOf {K:W.Frag}{h:Heap}(_:K.In h):W.Frag:=K
def af6 {l:W.OpenLaw}{n k:Nat}{D:List Str}{XP:(Str->Option Value)->Heap->Prop}{YP:World->Heap->Prop}{d:DefRec}{K:Params->W.Frag}{CX:World->Bw}{sp:World->Sp}{x:Str}(hn:l.most=some n)(O:n<=sizeLine)(Z:d.params.defaults=[])(hr:iu k callerA)(hY:∀(w:World) (h:Heap),YP w h->(K w.params).In h)(F:∀(w:World) (mg:Str->Option Value) (J:Addr) (h:Heap),(K w.params).In h->h.Ns mainGlobals mg->mg d.name=some (.ref J)->
   ∃fd:FuncData,(∀(s:Shared) (u:Value),BindsTo s fd ⟨[u],[]⟩ [(x,u)])/\
    ∀base:Heap,(K w.params).In base->base.Ns mainGlobals mg->cU l.prog w (K w.params) mg base (CX w) k J fd [x] (sp w))
  (hsp:∀(w:World) (H:Hp) (a:Addr) (ns:List Int),ns.length<=n->Only H->bM (K w.params) H a (ns.map V.int)->sp w [.ref a] H (λv _=>v=.bl true) λ_ _ _=>False)
  (hCX:∀(w:World) (H:Hp) (s:Shared) (e:Value) (s':Shared),CX w [] H s (λ_ _ _=>False) e s'->False) :
  W.WalkO q D XP YP l.row.toRowW d [] (λf vs=>PySem.call f vs):=by
 calc Att.Xx hn Z λw s₀ s₁ mg mb J o pm cd doc a vs ns G Y ho hd hcd hmg I j dR hg=>?_;let KX:=hY w _ Y;let⟨fd,hb,hF⟩:=F w mg J _ KX G.T.g hmg;show ad7 KX G.T.g G.T.b G.T.builtins G.T.nolimit hg I j (b8 dR O) hr hF hb (λH hO hS=>hsp w H a ns dR hO hS) λH e s'=>hCX w H s₁ e s'
def inClass (s:Stmt)(j:Nat):Stmt:=match s with| .ClassDef _ _ _ body _ _ _ _ _ _ _=>body.getD j (.Pass ⟨0,0,0,0⟩)| _=>.Pass ⟨0,0,0,0⟩
noncomputable def eU (s:Stmt):Arguments:=match s with| .FunctionDef _ a _ _ _ _ _ _ _ _=>a| _=>{posonlyargs:=[],args:=[],vararg:=none,kwonlyargs:=[],kw_defaults:=[],kwarg:=none,defaults:=[]}
def dG (s:Stmt):List Stmt:=match s with| .FunctionDef _ _ b _ _ _ _ _ _ _=>b| _=>[]
noncomputable def aL (s:Stmt):Scope:=match s with| .FunctionDef _ _ _ _ _ _ sc _ _ _=>sc| _=>{kind:=.function,names:=[],isGenerator:=false,isCoroutine:=false}
abbrev eV:Bw:=λ_ _ _ _ _ _=>False
abbrev E0:XK:=λ_ _ _=>False
def gM:Passes eV X E0:=λ_ _ _ _ _ _ _ h=>h.elim
structure gJ (K:W.Frag)(x qual:Str)(st:Stmt)(f:Addr)(fd:FuncData):Prop where
 ex:∃(oc:Value) (od:Option Addr) (kV doc pm:Value) (an:Option Addr) (bV ct:Value) (osl:Array (Option Value)),
  fd=W.fnOf x qual (eU st) (dG st) (aL st) .none kV doc pm an bV ct/\K.lookup f=some ⟨oc,od,.func fd,osl⟩/\W.codeIn K bV qual=true
 kp:W.keepIn K (.ref f)=true
section
variable {P:Program}{w:World}{K:W.Frag}{mg:Str->Option Value}{base:Heap}
def gJ.ok {x qual:Str}{st:Stmt}{N ps:List Str}{k:Nat}{sp:Sp}(F:gJ K x qual st f fd)(S:bD N ps (aL st))(len:∀vs H Q E,sp vs H Q E->vs.length=ps.length)(j:∀(bV:Value) (A:Around) (outer:List Env) (s:Shared) (H:Hp) (vs:List V) (Q:VK) (E:XK),iu k (A.deeper (envOfC qual (aL st) s.heap.objs.size f bV))->sp vs H Q E->
   ∃t,Qo (rM eV P w K mg base N qual (aL st) f bV A outer s H E).La (dG st) t/\t {nx:=λ_ H'=>Q .non H',rt:=Q} (start N vs) H):cU P w K mg base eV (k+1) f fd ps sp:=by
 let⟨oc,od,kV,doc,pm,an,bV,ct,osl,rfl,I,D⟩:=F.ex;calc afA I D S len λA outer s H vs Q E hr G=>?_;let⟨t,h,q⟩:=j bV A outer s H vs Q E hr G;show⟨t,h.La,q⟩
def gJ.binds {x qual:Str}{st:Stmt}{ps:List Str}(F:gJ K x qual st f fd)(h:∀(kV doc pm:Value) (an:Option Addr) (bV ct:Value) (us:List Value),us.length=ps.length->bindArgs (W.fnOf x qual (eU st) (dG st) (aL st) .none kV doc pm an bV ct) ⟨us,[]⟩=pure (ps.zip us)):cD K fd ps []:=by let⟨oc,od,kV,doc,pm,an,bV,ct,osl,rfl,D,j⟩:=F.ex;show .all (h kV doc pm an bV ct)
def iB {x qual:Str}{st:Stmt}{f:Addr}{oc:Value}{od an:Option Addr}{osl:Array (Option Value)}{kV doc pm bV ct:Value}(l:K.lookup f=some ⟨oc,od,.func (W.fnOf x qual (eU st) (dG st) (aL st) .none kV doc pm an bV ct),osl⟩)(c:W.codeIn K bV qual=true)(k:W.keepIn K (.ref f)=true):gJ K x qual st f (W.fnOf x qual (eU st) (dG st) (aL st) .none kV doc pm an bV ct):=⟨⟨oc,od,kV,doc,pm,an,bV,ct,osl,rL,l,c⟩,k⟩
end
def Sy (hr:iu k A):A.units+1<cLine:=jI (Nat.add_le_add_left (by decide:1<=64) _) hr.units
def aN (h:n<=1000):n<sizeLine:=jI h qr
section
variable {X:Cx}
def qv (i:Nat){x:Str}{pos:Pos}(D:X.N[i]?=some x:=by rfl)(hv:Vis X.env.scope x:=by first|show Or.inl rfl|show Or.inr (Or.inl rL)|show Or.inr (Or.inr rL))(hd:(x==("__debug__":Str))=false:=by decide)(j:(x==("__classdict__":Str))=false:=by decide):QE X (.Name x pos) (N6 i):=⟨ahG D hv hd j⟩
end
def aH {X:Cx}{x:Str}{pos:Pos}:=@qv X 0 x pos
def bh {X:Cx}{x:Str}{pos:Pos}:=@qv X 1 x pos
def bG {X:Cx}{x:Str}{pos:Pos}:=@qv X 2 x pos
def bU {X:Cx}{x:Str}{pos:Pos}:=@qv X 3 x pos
def cQ {X:Cx}{x:Str}{pos:Pos}:=@qv X 4 x pos
def dD {X:Cx}{x:Str}{pos:Pos}:=@qv X 5 x pos
def fU {X:Cx}{x:Str}{pos:Pos}:=@qv X 6 x pos
def gY {X:Cx}{x:Str}{pos:Pos}:=@qv X 7 x pos
def mQ {X:Cx}{x:Str}{pos:Pos}:=@qv X 8 x pos
def lq {X:Cx}{x:Str}{pos:Pos}:=@qv X 9 x pos
def jz {X:Cx}{x:Str}{pos:Pos}:=@qv X 10 x pos
def oO {X:Cx}{x:Str}{pos:Pos}:=@qv X 11 x pos
def rQ {X:Cx}{x:Str}{pos:Pos}:=@qv X 12 x pos
def cI {A B:Prop}(h:B):if false=true then A else B:=by rw[if_neg b9];show h
def cH {A B:Prop}(h:A):if true=true then A else B:=by rw[if_pos rfl];show h
def iR {c A B:Prop} [Decidable c] (h1:c->A)(h2:¬c->B):if c then A else B:=by
 by_cases h:c
 .rw[if_pos h];show h1 h
 .rw[if_neg h];show h2 h
def Ls {c A B:Prop} [Decidable c] (j:c)(h:B):if (!decide c)=true then A else B:=by rw[ai j];show cI h
def aB (H H':Hp):Prop:=∀b o,H b=some o->H' b=some o
def aB.refl (H):aB H H:=λ_ _ h=>h
def aB.trans (a:aB H H1)(b:aB H1 H2):aB H H2:=λc o h=>b c o (a c o h)
def aB.free (e:aB H H')(h:H' l=Option.none):H l=Option.none:=by
 cases q:H l with| none=>rfl| some o=>rw[e l o q]at h;cases h
def aB.seq {K:W.Frag}{xs:List V}(e:aB H H')(h:bM K H a xs):bM K H' a xs:=by
 rcases h with(h|⟨o,h⟩)|h;.show .inl (.inl (e _ _ h))
 .show .inl (.inr ⟨o,e _ _ h⟩)
 .show .inr h
section
variable {X:Cx}
def ab8:jJ X (.builtin "len") (λxs H Q=>∃a kvs,xs=[V.ref a]/\H a=some (.dK kvs)/\Q (.int kvs.length) H):=by intro ao s σ H xs us Q I r h;let⟨a,kvs,rfl,ha,q⟩:=h;let⟨u,rfl,D⟩:=vals1 r;cases D;show ajR I (.inl ha) λt s' j=>⟨.int kvs.length,H,j,⟨t,rL⟩,q⟩
end
section
variable {κ:Type}[DecidableEq κ]
theorem YG:∀{l:List κ} {k:κ},l.Nodup->¬k∈l->(l++[k]).Nodup
 | [],k,_,_=>by simp
 | a::r,k,h,hk=>by
  let⟨h1,h2⟩:=ij.mp h;show (a::(r++[k])).Nodup;calc ij.mpr ⟨λm=>?_,YG h2 λm=>hk (bX.mpr (Or.inr m))⟩;rcases be.mp m with q|q;.show h1 q
  .show hk (bX.mpr (Or.inl (bc.mp q).symm))
end
noncomputable def blk (X:Cx)(scope:Scope)(cl:List (Str×Addr))(C:Addr)(x:Str)(s₀:Shared)(H₀:Hp)(fp:List Addr):Cx:={X with N:=x::X.N,s₀:=s₀,H₀:=H₀,env:=compEnvC scope cl C X.env,outer:=X.stack,ex:=fp,fn:=λ_=>false,pn:=[],xe:=λ_ _=>False}
structure jW (X:Cx)(scope:Scope)(x:Str):Prop where
 kind:scope.kind=.function
 Lw:∀y∈scope.names,y.2≠.cell
 names:∀y∈scope.names,y.2=.local->scope.names.lookup y.1=some .local
 hx:scope.names.lookup x=some .local
 free:∀y∈scope.names,y.2=.free->X.env.kindOf y.1=some .cell\/X.env.kindOf y.1=some .free
 out:∀y∈X.N,scope.names.lookup y≠some .local
 nd:X.N.Nodup
noncomputable def YH (sc:Scope)(N:List Str)(scope:Scope)(x:Str):Bool:=scope.kind == .function&&scope.names.all (λy=>y.2 != .cell)&&scope.names.all (λy=>y.2 != .local||scope.names.lookup y.1==some .local)&&scope.names.lookup x==some .local &&
 scope.names.all (λy=>y.2 != .free||sc.names.lookup y.1==some .cell||sc.names.lookup y.1==some .free)&&N.all (λy=>scope.names.lookup y != some .local)
def jW.of {X:Cx}(D:X.N.Nodup)(h:YH X.env.scope X.N scope x=true):jW X scope x:=by
 unfold YH at h;simp only[cp,eK,qa,bne_iff_ne,beq_iff_eq,ne_eq]at h;obtain⟨⟨⟨⟨⟨h1,h2⟩,h3⟩,h4⟩,h5⟩,j⟩:=h;calc⟨h1,λy hy=>h2 y hy,λy hy e=>(h3 y hy).resolve_left λz=>z e,h4,λy hy e=>?_,λy hy=>j y hy,D⟩;rcases h5 y hy with(z|z)|z;.show absurd e z
 .show .inl z
 .show .inr z
theorem nW {α:Type}:∀{l:List (Str×α)} {x:Str} {a:α},l.lookup x=some a->(x,a)∈l
 | [],_,_,h=>by simp at h
 | (y,b)::r,x,a,h=>by
  rw[gh]at h;split at h
  .rename_i e;let j:x=y:=by simpa using e
   cases h;subst j;show bS
  .show bE _ (nW h)
theorem C_ {env:Env}:∀(names:List (Str×NameKind)),(∀y∈names,y.2=.free->∃c,env.cells.lookup y.1=some c)->∀j:List (Str×Addr),(∀n c,j.lookup n=some c->env.cells.lookup n=some c)->
  ∃cl,(forIn names j (λ(p:Str×NameKind) (cs:List (Str×Addr))=>if (p.2==NameKind.free)=true then (do let a <- cellOf env p.1;pure (ForInStep.yield ((p.1,a)::cs))) else (pure (ForInStep.yield cs):Sem _)):Sem (List (Str×Addr)))=pure cl/\
   (∀n c,cl.lookup n=some c->env.cells.lookup n=some c)/\(∀n,(∃c,j.lookup n=some c)->∃c,cl.lookup n=some c)/\∀n,(n,NameKind.free)∈names->∃c,cl.lookup n=some c
 | [],_,j,ha=>⟨j,qo,ha,λ_ h=>h,λ_ h=>by simp at h⟩
 | (n,k)::r,hf,j,ha=>by
  let hr:∀y∈r,y.2=.free->∃c,env.cells.lookup y.1=some c:=λy hy=>hf y (bE _ hy);by_cases G:k=.free
  .subst G;let⟨c,J⟩:=hf (n,.free) bS rfl;let⟨cl,e,h1,h2,h3⟩:=C_ r hr ((n,c)::j) (λD I h=>by
    rw[gh]at h;split at h
    .rename_i q;let O:D=n:=by simpa using q
     cases h;subst O;show J
    .show ha D I h)
   refine⟨cl,?_,h1,λD h=>h2 D ?_,λD h=>?_⟩
   .rw[gI];simp only[beq_self_eq_true,if_true];let e2:cellOf env n=pure c:=by unfold cellOf;rw[J]
    rw[e2];simp only[pure_bind];show e
   .let⟨I,F⟩:=h;rw[gh];split;.show⟨c,rL⟩
    .show⟨I,F⟩
   .rcases bX.mp h with q|q
    .calc h2 D ⟨c,?_⟩;cases q;rw[gh,beq_self_eq_true]
    .show h3 D q
  .let hb:(k==NameKind.free)=false:=by simpa using G
   let⟨cl,e,h1,h2,h3⟩:=C_ r hr j ha;refine⟨cl,?_,h1,h2,λD h=>?_⟩
   .rw[gI];simp only[hb,f_,if_false,pure_bind];show e
   .rcases bX.mp h with q|q;.cases q;show absurd rL G
    .show h3 D q
theorem lW {env:Env}:∀{names:List (Str×NameKind)} {x:Str} {k:NameKind},
  (names.map λ(n,k)=>if (k==NameKind.free&&env.scope.kind == .function&&env.kindOf n==some .cell) then (n,NameKind.cell) else (n,k)).lookup x=some k->names.lookup x=some k\/(k=.cell/\names.lookup x=some .free)
 | [],_,_,h=>by simp at h
 | (n,j)::r,x,k,h=>by
  let F:=@lW env r x k;let h':List.lookup x ((if (j==NameKind.free&&env.scope.kind == .function&&env.kindOf n==some .cell)=true then (n,NameKind.cell) else (n,j))::_)=some k:=h;by_cases D:(j==NameKind.free&&env.scope.kind == .function&&env.kindOf n==some .cell)=true
  .rw[if_pos D]at h';cases hx:x==n with
   | true=>
    simp only[gh,hx]at h' ⊢;cases h';have:j=.free:=by simp at D;show D.1.1
    show .inr ⟨rL,by rw[this]⟩
   | false=>simp only[gh,hx]at h' ⊢;show F h'
  .rw[if_neg D]at h';cases hx:x==n with| true=>simp only[gh,hx]at h' ⊢;show .inl h'| false=>simp only[gh,hx]at h' ⊢;show F h'
def aaC (I:Nat->Shared->Prop)(turn:∀n s,I n s->wpAny (model prog w) A (pyNext it) (λr D=>match r with
   | none=>R (.ok .next) D
   | some v=>wpAny (model prog w) A (letOwnedTupleGo target it v) (λ_ s₀=>wpAny (model prog w) A (assign target env v) (λ_ F=>
     wpAny (model prog w) A (forIn ifs true λc r=>if r=true then do let ok <- isTrue c env (eval c env);pure (ForInStep.yield ok) else pure (ForInStep.yield r)) (λok j=>
      if ok=true then wpAny (model prog w) A (eval elt env) (λx G=>wpAny (model prog w) A (call (.builtin "list.append") [acc,x]) (λ_ J=>∃m,m<n/\I m J) (λ_ _=>False) G) (λ_ _=>False) j
      else ∃m,m<n/\I m j) (λ_ _=>False) F) (λ_ _=>False) s₀) (λ_ _=>False) D) (λ_ _=>False) s)
  (n) (h:I n s) :
  codeAny (model prog w) A (.compLoop (.ListComp elt [⟨target,iter,ifs,0⟩] scope pos) 0 it acc env) R s:=by
 calc codeAny_loop rL I (λn s hI=>?_) n h;show wpAny _ A ((compTurn (.ListComp elt [⟨target,iter,ifs,0⟩] scope pos) 0 it acc env).onRaise (λx=>do noteFrame x env;theTreesLotGoes x)) _ _ s;calc wpAny_noted ?_;rw[compTurn_list];calc ae (mm (ae (eh (turn n s hI) (λr D O=>?_) λ_ _ h'=>h'.elim)));cases r with
 | none=>show aI O
 | some v=>
  calc ae (eh O (λ_ s₀ h₀=>?_) λ_ _ h'=>h'.elim);calc ae (eh h₀ (λ_ F h₂=>ae (eh h₂ (λok j Y=>?_) λ_ _ h'=>h'.elim)) λ_ _ h'=>h'.elim);cases ok with| false=>show aI ⟨rL,Y⟩| true=>show ae (ae (eh Y (λx G h₄=>ae (eh h₄ (λ_ J Z=>aI (aI ⟨rL,Z⟩)) λ_ _ h'=>h'.elim)) λ_ _ h'=>h'.elim))
def PTs (X:Cx)(ifs:List Expr)(t:TT):Prop:=∀(ao:AF) (s:Shared) (σ:St) (H:Hp) (Q:Bool->Hp->Prop),aX X ao σ H s->t σ H Q->
  wpAny (model X.prog X.w) X.A (forIn ifs true λc r=>if r=true then do let ok <- isTrue c X.env (eval c X.env);pure (ForInStep.yield ok) else pure (ForInStep.yield r)) (TP X ao σ Q) X.xe s
structure QTs (X:Cx)(ifs:List Expr)(t:TT):Prop where
 out:PTs X ifs t
def nY:TT:=λ_ H Q=>Q true H
def fO  : QTs X [] nY:=⟨λ_ _ _ H _ I h=>wpAny_tests_nil ⟨H,I,h⟩⟩
def af7 (h:QT X c t):QTs X [c] t:=⟨λao s σ H Q I q=>wpAny_tests_one (h.out ao s σ H Q I q)⟩
def iV (n i:Nat)(P:Prop):Prop:=∃j,j<n-i/\j=n-(i+1)/\i+1<=n/\P
abbrev JQ (n i:Nat)(D:Addr)(ys:List V)(P:List V->Hp->Prop)(y:V)(H3:Hp):Prop:=H3 D=some (.lst ys)/\ys.length<sizeLine/\iV n i (P (ys++[y]) (upd H3 D (.lst (ys++[y]))))
abbrev Ar (J:It)(D:Addr)(H:Hp)(R:Hp->Prop)(B:V->Hp->VK->(Hp->Prop)->Prop):Prop:=∃W:Nat->Nat->List V->Hp->Prop,(∃m,W 0 m [] (upd H D (.lst [])))/\
 ∀i m ys H,W i m ys H->(J.stop i H/\R H)\/(J.go i H/\∀x H',J.Qt i H x H'->B x H' (λy H3=>H3 D=some (.lst ys)/\ys.length<sizeLine/\∃m',m'<m/\W (i+1) m' (ys++[y]) (upd H3 D (.lst (ys++[y])))) λH2=>∃m',m'<m/\W (i+1) m' ys H2)
def Ug {J:It}{D:Addr}{H:Hp}{R:Hp->Prop}{B:V->Hp->VK->(Hp->Prop)->Prop}(n:Nat)(j:Nat->List V->Hp->Prop)(h0:j 0 [] (upd H D (.lst [])))(hg:∀i ys H,i<n->j i ys H->J.go i H/\∀x H',J.Qt i H x H'->B x H' (JQ n i D ys (j (i+1))) λI=>iV n i (j (i+1) ys I))(G:∀ys H,j n ys H->J.stop n H/\R H):Ar J D H R B:=by
 calc⟨λi m ys H=>m=n-i/\i<=n/\j i ys H,⟨n,qo,fe _,h0⟩,?_⟩;intro i m ys H z;let⟨rfl,hi,p⟩:=z;by_cases F:i<n;.show .inr (hg i ys H F p)
 .let e:i=n:=qk;subst e;show .inl (G ys H p)
def SJ {F:Hp->List V->Prop}{B:V->Hp->VK->(Hp->Prop)->Prop}{xs:List V}{D:Addr}{H:Hp}{R:Hp->Prop}(j:Nat->List V->Hp->Prop)(h0:j 0 [] (upd H D (.lst [])))(hl:∀i ys H,i<=xs.length->j i ys H->F H xs)(hs:∀i x ys H,xs[i]?=some x->j i ys H->B x H (JQ xs.length i D ys (j (i+1))) λG=>iV xs.length i (j (i+1) ys G))(hd:∀ys H,j xs.length ys H->R H):Ar (ItS F) D H R B:=Ug xs.length j h0 (λi ys H h p=>⟨⟨xs,xs[i],hl i ys H (ap h) p,by simp[h]⟩,λx H' ⟨e,y⟩=>by subst e;show hs i x ys _ (y xs (hl i ys _ (ap h) p)) p⟩) λys H p=>⟨⟨xs,hl _ ys H (ax _) p,ax _⟩,hd ys H p⟩
abbrev Uh (σ:St)(tt:TT)(te:TE)(x:V)(H:Hp)(k:VK)(l:Hp->Prop):Prop:=tt (some x::σ) H λb H2=>if b=true then te (some x::σ) H2 k else l H2
def ajT (wi:TI)(tt:TT)(te:TE):TE:=λσ H Q=>wi σ H λJ H1=>∀D,H1 D=none->Ar J D H1 (Q (.ref D)) (Uh σ tt te)
noncomputable def iW (X:Cx)(scope:Scope)(cl:List (Str×Addr))(C:Addr)(N:List Str)(s₀:Shared)(H₀:Hp)(fp:List Addr):Cx:={X with N:=N,s₀:=s₀,H₀:=H₀,env:=compEnvC scope cl C X.env,outer:=X.stack,ex:=fp,fn:=λ_=>false,pn:=[],xe:=λ_ _=>False}
structure kh (X:Cx)(scope:Scope)(ns N2:List Str)(f:St->St):Prop where
 kind:scope.kind=.function
 Lw:∀y∈scope.names,y.2≠.cell
 names:∀y∈scope.names,y.2=.local->scope.names.lookup y.1=some .local
 free:∀y∈scope.names,y.2=.free->X.env.kindOf y.1=some .cell\/X.env.kindOf y.1=some .free
 akY:∀σ:St,(f σ).length=σ.length
 akZ:N2.length=X.N.length
 out:∀(σ:St) (i:Nat) (y:Str) (v:V),N2[i]?=some y->(f σ)[i]?=some (some v)->X.N[i]?=some y/\σ[i]?=some (some v)/\scope.names.lookup y≠some .local
def QZ (X:Cx)(tg:Expr)(k:Nat)(TP:V->Hp->(St->Prop)->Prop):Prop:=∀(ao:AF) (s:Shared) (pre rest:St) (H:Hp) (v:V) (u:Value) (Q:St->Prop),pre.length=k->aX X ao (pre++rest) H s->cW v u->TP v H Q->
  wpAny (model X.prog X.w) X.A (assign tg X.env u) (λ_ s'=>∃j,j.length=k/\aX X ao (j++rest) H s'/\Q j) (λ_ _=>False) s
def YJ (TP:V->Hp->(St->Prop)->Prop)(f:St->St)(σ:St)(tt:TT)(te:TE)(x:V)(H:Hp)(k:VK)(l:Hp->Prop):Prop:=TP x H λpre=>tt (pre++f σ) H λb j=>if b=true then te (pre++f σ) j k else l j
def Fe (f:St->St)(k:Nat)(wi:TI)(TP:V->Hp->(St->Prop)->Prop)(tt:TT)(te:TE):TE:=λσ H Q=>wi σ H λJ H1=>∀D,H1 D=none->Ar J D H1 (Q (.ref D)) (YJ TP f σ tt te)
def Fg {X:Cx}{elt iter tg:Expr}{ns N2:List Str}{f:St->St}{TP:V->Hp->(St->Prop)->Prop}{ifs:List Expr}{scope:Scope}{pos:Pos}{wi:TI}{tt:TT}{te:TE}(hc:X.calm=true)(ok:kh X scope ns N2 f)(hi:PI X tg iter wi)(hg:∀cl C s₀ H₀ fp,QZ (iW X scope cl C (ns++N2) s₀ H₀ fp) tg ns.length TP)(ht:∀cl C s₀ H₀ fp,PTs (iW X scope cl C (ns++N2) s₀ H₀ fp) ifs tt)(he:∀cl C s₀ H₀ fp,PE (iW X scope cl C (ns++N2) s₀ H₀ fp) elt te)(hs:∀x,foldedSetIterable iter X.env x=pure x:=by intro _;rfl){use:Option (Value->Sem Unit)}{RR:AB}{p1:Pos}{ao:AF}{s:Shared}{σ:St}{H:Hp}{Q:V->Hp->Prop}(I:aX X ao σ H s)(h:Fe f ns.length wi TP tt te σ H Q)(fin:∀(D C:Addr) (H4:Hp) (s5:Shared) (m:Str->Option Value),s5.heap.Ns C m->(∀h',Heap.SameBut C s5.heap h'->aX X ao σ H4 {s5 with heap:=h' })->xG X ao H4 C->Q (.ref D) H4->compPost (model X.prog X.w) X.A X.xe use RR (.ref D) C (.ok .next) s5):wpAny (model X.prog X.w) X.A (comprehension (.ListComp elt [⟨tg,iter,ifs,0⟩] scope pos) scope X.env p1 (newList []) false (eval iter X.env) use) RR X.xe s:=by
 let⟨cl,hcl,j,_,hall⟩:=C_ (env:=X.env) scope.names (λy hy e=>I.ok.has y.1 (ok.free y hy e)) [] (λ_ _ z=>by simp at z);let hclos:closureFor scope X.env=pure cl:=by unfold closureFor;simp only[bind_pure];show hcl
 calc wpAny_comprehension_free (use:=use) (E:=X.xe) (cl:=cl) rL hs hclos ok.kind ok.names (cP (hi ao s σ H _ I h) λv s1 h1=>cP h1 λitv s2 h2=>?_);let⟨it,fp,tn,J,H2,e,I2,T,st2,f2,R⟩:=h2;subst e;obtain⟨W,⟨m0,w0⟩,turn⟩:=R s2.heap.objs.size I2.fresh;calc gS (wpAny_newFunctionEnv ok.Lw (by intro y hy;simp at hy) (λh₁ hns₁ hsb₁=>?_) ok.kind);dsimp only at hns₁ hsb₁ ⊢;let F:aX X ao σ (upd H2 s2.heap.objs.size (.lst [])) {s2 with heap:=s2.heap.push {cls:=.type "list",data:=.seq ([]:List Value).toArray} }:=I2.ad2 (t':=s2.toks) (ys:=[]) (its:=[]) .nil (fe _);generalize hH3:upd H2 s2.heap.objs.size (HO.lst [])=H3 at *
 generalize hs3:s2.heap.push {cls:=.type "list",data:=.seq ([]:List Value).toArray}=hp3 at *
 generalize hD:s2.heap.objs.size=D at *
 generalize hC:hp3.objs.size=C at *
 let hDC:D<C:=by rw[<-hC,<-hs3,fk,hD];show gX _
 let Y:∀b o,hp3.get? b=some o->h₁.get? b=some o:=λb o e=>(hsb₁.2 b (by rw[<-hC];show cv (a_ e))).trans (ag _ e);let fpl:∀b∈fp,b<C:=λb hb=>by let⟨o,e,_⟩:=T.obj _ _ st2 b hb;rw[<-hC,<-hs3,fk];show lT (a_ e)
 let f3:∀b∈fp,xG X ao H3 b:=λb hb=>by let⟨o,e,_⟩:=T.obj _ _ st2 b hb;calc⟨?_,(f2 b hb).2⟩;rw[<-hH3,bw (by rw[<-hD];show cv (a_ e))];show(f2 b hb).1
 let ah6:∀b∈fp,b∉frs X.stack:=λb hb z=>by
  let⟨_,g1,g2,_⟩:=f3 b hb;rcases bX.mp (F.K9 b z) with q|q;.show g1 q
  .show g2 q
 let YOk:(iW X scope cl C (ns++N2) {s2 with heap:=hp3} H3 fp).Ok:=by
  calc⟨I.ok.mod,?_,I.ok.glob,I.ok.blt,iS hC,?_,?_,?_,I.ok.hd,I.ok.frames,.inl rL,?_,?_,?_,?_,?_,?_,?_⟩;.show ok.kind
  .show λa b c h1 h2=>I.ok.inj a b c (j a c h1) (j b c h2)
  .intro a ha;calc hall a ?_;rcases ha with z|z
   .rcases lW (env:=X.env) z with q|⟨_,q⟩;.show absurd rL (ok.Lw _ (nW q))
    .show nW q
   .rcases lW (env:=X.env) z with q|⟨q,_⟩;.show nW q
    .cases q
  .intro a c hf;cases hf
  .intro b hb;refine⟨cv (fpl b hb),λa c h1=>(f3 b hb).2.2.2.2.1 a c (j a c h1)⟩
  .show F.bs
  .show b8 I.ok.zJ F.sz
  .intro b o e hb;rcases(f3 b hb).2.2.2.1 with z|z;.show I.ok.Cz b o e z
   .show absurd (cS (a_ e) (b8 I.ok.zJ z)) (fw _)
  .show ah6
  .show F.stack
  .show F.Bt
 let Y0:aX (iW X scope cl C (ns++N2) {s2 with heap:=hp3} H3 fp) [] (List.replicate ns.length none++f σ) H3 {s2 with heap:=h₁,toks:=s2.toks+([]:List (Str×Value)).length}:=by
  refine⟨YOk,rL,F.bare,Un.kept Y,⟨_,hns₁,?_⟩,?_,?_,?_,λp hp=>by simp[iW]at hp,F.hok.kept Y,?_⟩
  .intro i y v e1 e2 e3;by_cases fZ:i<ns.length
   .rw[dE (by rw[de];show fZ),List.getElem?_replicate,if_pos fZ]at e2;simp at e2
   .obtain⟨i,rfl⟩:∃k,i=ns.length+k:=⟨i-ns.length,by simp_all⟩
    let e1a:(ns++N2)[ns.length+i]?=some y:=e1;rw[du qk,lP]at e1a;rw[du (by rw[de];lia),de,lP]at e2;let⟨e1',e2',hout⟩:=ok.out σ i y v e1a e2;let G:(y,NameKind.free)∈scope.names:=by
     let key:∀k,(relabel scope X.env).names.lookup y=some k->k≠.local->k=.cell\/k=.free->(y,NameKind.free)∈scope.names:=λk q n hk=>by
      rcases lW (env:=X.env) q with z|⟨_,z⟩
      .rcases hk with rfl|rfl;.show absurd rL (ok.Lw _ (nW z))
       .show nW z
      .show nW z
     rcases e3 with z|z|z
     .rcases lW (env:=X.env) z with q|⟨q,_⟩;.show absurd q hout
      .cases q
     .show key _ z qr (.inl rL)
     .show key _ z qr (.inr rL)
    let hk:=ok.free _ G rfl;let⟨m,hn,hl⟩:=F.loc;let⟨u,r,q⟩:=hl i y v e1' e2' (by rcases hk with z|z;show .inr (.inl z);show .inr (.inr z));refine⟨u,r,.inr ⟨?_,?_⟩⟩
    .rcases e3 with z|z|z
     .rcases lW (env:=X.env) z with q|⟨q,_⟩;.show absurd q hout
      .cases q
     .show .inl z
     .show .inr z
    .rcases q with⟨z,_⟩|⟨_,c,hc',hcell⟩
     .rcases hk with q|q <;> (rw[z]at q;cases q)
     .let⟨c',hc2⟩:=hall y G;have:c'=c:=by have:=j y c' hc2;rw[hc']at this;show(bq this).symm
      subst this;let⟨o,ho,hd⟩:=hcell;show⟨c',hc2,o,Y _ _ ho,hd⟩
  .intro a c h1;let⟨v,o,ho,hd⟩:=F.cell a c (j a c h1);show⟨v,o,Y _ _ ho,hd⟩
  .show H3 C=none;show F.hok.fresh (iS hC)
  .show λa c h1=>F.mZ a c (j a c h1)
  .show (List.replicate ns.length none++f σ).length=(ns++N2).length;rw[am,am,de,ok.akY,I.len,ok.akZ]
 let back:∀(s':Shared) (v:St) (H':Hp) (h':Heap),aX (iW X scope cl C (ns++N2) {s2 with heap:=hp3} H3 fp) [] v H' s'->Heap.SameBut C s'.heap h'->(∀b∈fp,H' b=none)->aX X ao σ H' {s' with heap:=h' }:=by
  intro s' v H' h' I' sb fr;let Qm:∀b o,hp3.get? b=some o->b≠C:=λb o e=>by rw[<-hC];show cv (a_ e)
  let U:Un (frs X.stack) fp H3 H' hp3 s'.heap:=I'.base;refine F.call' (ch:=fp) (H':=H') (s':={s' with heap:=h' }) I'.os ⟨λb o e n h1 h2=>(sb.2 b (Qm b o e)).trans (U.keep b o e n h1 h2),λb o e n h1 h2=>?_,U.free,λb o e h2=>?_,U.tups,U.rK,U.tG⟩ (λb ob e=>?_) I'.bare λb hb=>?_
  .let⟨sl,q⟩:=U.slot b o e n h1 h2;show⟨sl,(sb.2 b (Qm b o e)).trans q⟩
  .let⟨o',q⟩:=U.there b o e h2;show⟨o',(sb.2 b (Qm b o e)).trans q⟩
  .let fC:H' C=none:=I'.free;calc(I'.hok b ob e).stay (λc w' hc q=>(sb.2 c ?_).trans q) (λ_ q=>q) λ_ _ q=>q;rintro rfl;rcases hc with rfl|hc
   .rw[fC]at e;cases e
   .rw[fC]at hc;cases hc
  .let⟨_,g1,_,g3,g4,g5⟩:=f3 b hb;show⟨g3,g1,g4,g5⟩
 let Z:∀{H':Hp},(∀b∈fp,H' b=none)->∀b∈fp,xG (iW X scope cl C (ns++N2) {s2 with heap:=hp3} H3 fp) [] H' b:=λhn b hb=>⟨hn b hb,cv (fpl b hb),ah6 b hb,.inl hb,λa c h1=>(f3 b hb).2.2.2.2.1 a c (j a c h1),λp hp=>by simp[iW]at hp⟩
 let st₁:tn 0 h₁:=T.keep _ _ _ st2 λb _ o e=>Y b o (by rw[<-hs3];show ag _ e);let loop:codeAny (model X.prog X.w) X.A (.compLoop (.ListComp elt [⟨tg,iter,ifs,0⟩] scope pos) 0 (.ref it) (.ref D) (compEnvC scope cl C X.env)) (compPost (model X.prog X.w) X.A X.xe use RR (.ref D) C)
   {s2 with heap:=h₁,toks:=s2.toks+([]:List (Str×Value)).length}:=by
  calc aaC (λn s'=>∃i v ys H',v.length=ns.length/\aX (iW X scope cl C (ns++N2) {s2 with heap:=hp3} H3 fp) [] (v++f σ) H' s'/\tn i s'.heap/\(∀b∈fp,H' b=none)/\W i n ys H') ?_ m0 ⟨0,List.replicate ns.length none,[],H3,de,Y0,st₁,λb hb=>(f3 b hb).1,w0⟩;intro n s4 z;let⟨i,v,ys,H4,hv4,I4,st4,fr4,w4⟩:=z;rcases turn i n ys H4 w4 with⟨stop,qn⟩|⟨go,step⟩
  .refine cP (T.done (iW X scope cl C (ns++N2) {s2 with heap:=hp3} H3 fp) rL rL rL hc i [] s4 (v++f σ) H4 _ I4 (Z fr4) st4 stop) λr s5 ⟨hr,I5⟩=>?_
   subst hr;let⟨m,hn,_⟩:=id I5.loc;show fin D C H4 s5 m hn (λh' sb=>back s5 (v++f σ) H4 h' I5 sb fr4) ⟨I5.free,(F.CK (H':=H3) (iS hC) (F.hok.fresh (iS hC))).2⟩ qn
  .calc cP (T.item (iW X scope cl C (ns++N2) {s2 with heap:=hp3} H3 fp) rL rL rL hc i [] s4 (v++f σ) H4 _ I4 (Z fr4) st4 go) λr s5 O=>?_;let⟨u,hr,h5⟩:=O
   subst hr;calc cP h5 λ_ s6 O=>?_;let⟨y,H6,I6,r6,y6,st6,fr6⟩:=O;let I6':=I6.pinned (Z fr6) (T.obj _ _ st6);calc cP (hg cl C {s2 with heap:=hp3} H3 fp _ s6 v (f σ) H6 y u _ hv4 I6' r6 (step y H6 y6)) λ_ s7 O=>?_;let⟨pre,hpre,I7',q7⟩:=O;calc cP (ht cl C {s2 with heap:=hp3} H3 fp _ s7 _ H6 _ I7' q7) λb s8 O=>?_;let⟨H8,I8,q8⟩:=O;let ab9:∀{σ':St} {H':Hp} {s':Shared},aX (iW X scope cl C (ns++N2) {s2 with heap:=hp3} H3 fp) ([]++EY fp s6.heap) σ' H' s'->tn (i+1) s'.heap/\∀b∈fp,H' b=none:=λ{σ' H' s'} I9=>by calc⟨T.keep _ _ _ st6 λb hb o e=>(I9.pin (b,o) (eI _ (eI _ (xY hb e)))).1,λb hb=>?_⟩;let⟨o,e,d⟩:=T.obj _ _ st6 b hb;show(I9.pin (b,o) (eI _ (eI _ (xY hb e)))).2.1
   cases b with
   | false=>let⟨m',hm,w'⟩:=q8;let⟨k1,k2⟩:=ab9 I8;show⟨m',hm,i+1,pre,ys,H8,hpre,I8.yL,k1,k2,w'⟩
   | true=>have q8':te (pre++f σ) H8 _:=q8;show wpAny _ _ (eval elt _) _ _ _;calc cP (he cl C {s2 with heap:=hp3} H3 fp _ s8 _ H8 _ I8 q8') λz s9 O=>?_;let⟨zv,H9,I9,r9,hD9,hz9,m',hm,w'⟩:=O;calc cP (kO (X:=iW X scope cl C (ns++N2) {s2 with heap:=hp3} H3 fp) _ s9 _ H9 (.ref D) [zv] (.ref D) [z] (λ_ H'=>H'=upd H9 D (.lst (ys++[zv]))) I9 rL (.cons r9 .nil) ⟨D,ys,zv,rL,rL,hD9,hz9,rL⟩) λ_ Fi O=>?_;let⟨_,Ui,I10,_,e10⟩:=O;subst e10;let⟨k1,k2⟩:=ab9 I10;show⟨m',hm,i+1,pre,ys++[zv],_,hpre,I10.yL,k1,k2,w'⟩
 show codeAny_compStart_list loop (T.self X.A 0 _ _ _ st₁ loop)
def Ih {scope:Scope}{N:List Str}(D:N.Nodup)(h0:N[0]?=some x)(hx:scope.names.lookup x=some .local):QZ (iW X scope cl C N s₀ H₀ fp) (.Name x pos) 1 (λv _ Q=>Q [some v]):=by intro ao s pre rest H v u Q hp I r q;let⟨G,rfl⟩:=List.length_eq_one_iff.mp hp;calc cP (vA (X:=iW X scope cl C N s₀ H₀ fp) (i:=0) D h0 (.inl (lookup_relabel_local hx)) (.inr (lookup_relabel_local hx)) ao s _ H v u (λσ' H'=>H'=H/\σ'=some v::rest) I r ⟨rL,rL⟩) λ_ s' j=>?_;let⟨σ',H',F,e1,e2⟩:=j;subst e1 e2;show⟨[some v],rL,F,q⟩
def jY {X:Cx}(O:X.calm=true)(ok:jW X scope x)(hi:QI X (.Name x px) iter wi)(ht:∀cl C s₀ H₀ fp,QTs (blk X scope cl C x s₀ H₀ fp) ifs tt)(F:∀cl C s₀ H₀ fp,QE (blk X scope cl C x s₀ H₀ fp) elt te)(hs:∀x,foldedSetIterable iter X.env x=pure x:=by intro _;rfl):QE X (.ListComp elt [⟨.Name x px,iter,ifs,0⟩] scope pos) (ajT wi tt te):=⟨λao s σ H Q I h=>by
 let e:∀cl C s₀ H₀ fp,iW X scope cl C ([x]++X.N) s₀ H₀ fp=blk X scope cl C x s₀ H₀ fp:=λ_ _ _ _ _=>rfl;let nd:([x]++X.N).Nodup:=ij.mpr ⟨λz=>ok.out x z ok.hx,ok.nd⟩;let G:kh X scope [x] X.N id:=⟨ok.kind,ok.Lw,ok.names,ok.free,λ_=>rfl,rL,λσ i y v e1 e2=>⟨e1,e2,ok.out y (bp e1)⟩⟩
 rw[eval_ListComp];show Fg O G hi.out (λcl C s₀ H₀ fp=>Ih nd rL ok.hx) (λcl C s₀ H₀ fp=>(λcl C s₀ H₀ fp=>(ht cl C s₀ H₀ fp).out) cl C s₀ H₀ fp) (λcl C s₀ H₀ fp=>(λcl C s₀ H₀ fp=>(F cl C s₀ H₀ fp).out) cl C s₀ H₀ fp) hs I h λD C j Y m hn bk _ q=>⟨m,hn,λh' J=>⟨.ref D,j,bk h' J,rL,q⟩⟩⟩
def iV.mk {P:Prop}(h:i<n)(p:P):iV n i P:=⟨_,Nat.sub_lt_sub_left h (gX _),rL,h,p⟩
def ab_ {K:W.Frag}{a D:Addr}{xs:List V}{te:TE}{σ:St}{H:Hp}{R:Hp->Prop}(j:Nat->List V->Hp->Prop)(h0:j 0 [] (upd H D (.lst [])))(hl:∀i ys H,i<=xs.length->j i ys H->bM K H a xs)(hs:∀i x ys H,xs[i]?=some x->j i ys H->te (some x::σ) H (JQ xs.length i D ys (j (i+1))))(hd:∀ys H,j xs.length ys H->R H):Ar (Itl K a) D H R (Uh σ nY te):=SJ j h0 hl hs hd
def aaD {lo:Int}{n:Nat}{D:Addr}{te:TE}{σ:St}{H:Hp}{R:Hp->Prop}(j:Nat->List V->Hp->Prop)(h0:j 0 [] (upd H D (.lst [])))(hs:∀i ys H,i<n->j i ys H->te (some (.int (lo+i))::σ) H (JQ n i D ys (j (i+1))))(hd:∀ys H,j n ys H->R H):Ar (Yw lo n) D H R (Uh σ nY te):=Ug n j h0 (λi ys H h p=>⟨h,λx H' y=>by let⟨rfl,rfl⟩:=y;show hs i ys _ h p⟩) λys H p=>⟨ax _,hd ys H p⟩
def S (l:List Nat):Str:=⟨l.toArray⟩
def aaE (l):(S l).cps.toList=l:=rfl
def uw (l):(S l).length=l.length:=rfl
def zK (h:S a=S b):a=b:=congrArg (λs:Str=>s.cps.toList) h
def ah7 (z:Str):S z.cps.toList=z:=by cases z;rfl
def ajU (a b):S a++S b=S (a++b):=by
 show (⟨a.toArray++b.toArray⟩:Str)=⟨(a++b).toArray⟩
 simp
def afC (a b):decide (V.str (S a)=V.str (S b))=decide (a=b):=by
 by_cases e:a=b;.subst e;simp
 .rw[af e,af];intro z;injection z with z;show e (zK z)
section
variable {X:Cx}{a b c e o:Expr}{pos:Pos}
def af8 (l){j pos}(h:x=S l):PE X (.Constant (.str x) j pos) (tC (.str (S l))):=by rw[h];show ahH
def ajV:R2:=λx y H Q=>∃i j,x=.str (S i)/\y=.str (S j)/\i.length+j.length<=sizeLine/\Q (.str (S (i++j))) H
def jt:ji X (binaryOp .Add) ajV:=by intro ao s σ H x y v u Q I F D h;let⟨i,j,rfl,rfl,hz,q⟩:=h;show aas ao s σ H _ _ v u Q I F D ⟨S i,S j,rL,rL,hz,by rw[ajU];show q⟩
def ajW:R2:=λx y H Q=>∃l i c,x=.str (S l)/\y=.int i/\l.length<=sizeLine/\tV l i=some c/\Q (.str (S [c])) H
def vG:Lg X ajW:=by intro value j ao s σ H x y v u Q I D F h hs;let⟨l,i,c,rfl,rfl,hz,G,q⟩:=h;show ahW value j ao s σ H _ _ v u Q I D F ⟨S l,i,c,rL,rL,hz,G,q⟩ hs
def ajX:List V->Hp->VK->Prop:=λxs H Q=>∃l,xs=[.str (S l)]/\l.length<=sizeLine/\Q (.int l.length) H
def dw:jJ X (.builtin "len") ajX:=by intro ao s σ H xs us Q I r h;let⟨l,rfl,hz,q⟩:=h;show Ub ao s σ H _ us Q I r ⟨S l,rL,hz,q⟩
def ak0:R2:=λx y H Q=>∃i j,x=.str (S i)/\y=.str (S j)/\Q (.bl (decide (i=j))) H
def kY:ji X (compareOp .Eq) ak0:=by intro ao s σ H x y v u Q I F D h;let⟨i,j,rfl,rfl,q⟩:=h;show iC ao s σ H _ _ v u Q I F D ⟨rL,by rw[afC];show q⟩
def ak1:R2:=λx y H Q=>∃i j,x=.str (S i)/\y=.str (S j)/\Q (.bl (!decide (i=j))) H
def Lx:ji X (compareOp .NotEq) ak1:=by intro ao s σ H x y v u Q I F D h;let⟨i,j,rfl,rfl,q⟩:=h;show CN ao s σ H _ _ v u Q I F D ⟨rL,by rw[afC];show q⟩
def ak2:R2:=λx y H Q=>∃c l,x=.str (S [c])/\y=.str (S l)/\Q (.bl (decide (c∈l))) H
def ah8:ji X (compareOp .In) ak2:=by
 intro ao s σ H x y v u Q I D j h;let⟨c,l,rfl,rfl,q⟩:=h;show abX ao s σ H _ _ v u Q I D j ⟨S [c],S l,rL,rL,by
  let e:=StrLaws.found_one (S l) c;rw[aaE]at e;rw[show (S [c])=(⟨#[c]⟩:Str) from rL,e];show q⟩
noncomputable def iY (l:List Nat)(lo hi:Option Int):List Nat:=(l.drop (HT.dY l.length 0 lo)).take (HT.dY l.length l.length hi-HT.dY l.length 0 lo)
def YK (lo hi)(n):Builtin.Str.strSliceIndices lo hi 1 n=(List.range (HT.dY n n hi-HT.dY n 0 lo)).map (λk=>HT.dY n 0 lo+k):=by
 let D:∀(v:Int) (d:Nat),max (0:Int) (min (if v<0 then v+(n:Int) else v) (n:Int))=((HT.dY n d (some v):Nat):Int):=λv d=>by rw[<-HT.Oa];split <;> grind
 let F:∀a b:Nat,sliceRange (a:Int) (b:Int) 1=(List.range (b-a)).map (λk=>a+k):=λa b=>by
  simp only[sliceRange,show ((1:Int) > 0)=True from by simp,if_true];by_cases G:(a:Int)<b
  .let e3:(((b:Int)-a+1-1)/1).toNat=b-a:=by first|simp|(simp;done)|(simp;lia)
   simp only[G,if_true,e3];calc fR λk _=>?_;lia
  .have:b-a=0:=by simp_all
   simp[G,this]
 unfold Builtin.Str.strSliceIndices;simp only[show ((1:Int) > 0)=True from by simp,if_true];cases lo with
 | none=>
  cases hi with| none=>show F 0 n| some j=>dsimp only;rw[D j n];show F 0 _
 | some i=>
  cases hi with| none=>dsimp only;rw[D i 0];show F _ n| some j=>dsimp only;rw[D i 0,D j n];show F _ _
def acd (l)(lo hi):Txt.slice (S l) lo hi=S (iY l lo hi):=by
 let I:HT.dY l.length l.length hi<=l.length:=HT.abZ _ _ (ax _) _;let j:((Builtin.Str.strSliceIndices lo hi 1 (S l).length).filterMap ((S l).cps[·]?))=iY l lo hi:=by
  rw[YK];let h:=StrLaws.picks l (HT.dY l.length l.length hi-HT.dY l.length 0 lo) (HT.dY l.length 0 lo);unfold iY;by_cases D:HT.dY l.length 0 lo<=HT.dY l.length l.length hi
  .let h2:=h (by simp_all);rw[uw];simpa [S] using h2
  .let e:HT.dY l.length l.length hi-HT.dY l.length 0 lo=0:=Nat.sub_eq_zero_of_le qk;rw[uw,e];simp
 unfold Txt.slice;split
 .rename_i D;let G:(Builtin.Str.strSliceIndices lo hi 1 (S l).length).length=l.length:=by
   simp at D;simpa [uw] using D
  let F:HT.dY l.length l.length hi-HT.dY l.length 0 lo=l.length:=by rw[YK,uw]at G;simpa using G
  let h0:HT.dY l.length 0 lo=0\/l.length=0:=qk;let e:iY l lo hi=l:=by
   unfold iY;rw[F];rcases h0 with z|z;.rw[z];simp
   .have:l=[]:=gT.mp z;subst this;simp
  rw[e]
 .rw[j];rfl
def ak3:V->Option Int->Option Int->Hp->VK->Prop:=λx lo hi H Q=>∃l,x=.str (S l)/\l.length<=sizeLine/\Q (.str (S (iY l lo hi))) H
def part_of {o:Option Int}(p:IsPart v o):∃l:Option (Int×Tok),v=partValue l/\l.map (·.1)=o:=by
 cases p with| none=>show⟨none,rL,rL⟩| int i t=>show⟨some (i,t),rL,rL⟩
def qm:SlR X ak3:=by intro ao s σ H x v Y O lo hi sl Q I J hs pl D h;let⟨l,rfl,hz,q⟩:=h;let⟨t,rfl⟩:=J;let⟨p1,rfl,rfl⟩:=part_of pl;let⟨p2,rfl,rfl⟩:=part_of D;calc⟨"str",_,F.slot_str_getitem.lookup,typeIs_str _ _ _,?_⟩;calc wpAny_getItem_str_slice (l:=p1) (u:=p2) (st:=none) hs rL ?_;let e:=acd l (p1.map (·.1)) (p2.map (·.1));let j:(Txt.slice (S l) (p1.map (·.1)) (p2.map (·.1))).length<=sizeLine:=b8 (Txt.slice_le _ _ _) hz;calc post_val_or_str ⟨j,λt' k=>?_⟩;let G:(if ((Option.map (λx:Int×Tok=>x.1) none).getD 1==1&&(slicePicked (S l) p1 p2 none).length==(S l).length)=true then S l else ⟨((slicePicked (S l) p1 p2 none).filterMap ((S l).cps[·]?)).toArray⟩)=S (iY l (p1.map (·.1)) (p2.map (·.1))):=e;show⟨.str (S (iY l (p1.map (·.1)) (p2.map (·.1)))),H,I.tok _,⟨t',congrArg (λz=>Value.str z t') G⟩,q⟩
abbrev Ts (ls:AA):List V:=ls.map λl=>V.str (S l)
def afD (K:W.Frag):List V->Hp->VK->Prop:=λxs H Q=>∃x n t b,xs=[x,.ty n]/\oM K H x t/\W.kitOne K t (.type n)=some b/\Q (.bl b) H
def iG:jJ X (.builtin "isinstance") (afD X.K):=by intro ao s σ H xs us Q I r h;let⟨x,n,t,b,rfl,ty,k,q⟩:=h;let⟨u,j,rfl,r1,r2⟩:=vals2 r;cases r2;show abY I r1 ty k λtk=>⟨.bl b,H,I.tok tk,rL,q⟩
def ajY:R2:=λx y H Q=>∃l n,x=.str (S l)/\y=.int (n:Nat)/\1<=n/\n<1000/\l.length<1000/\Q (.str (S (List.replicate n l).flatten)) H
theorem Uj (l:List Nat):∀(n:Nat) (j:Array Nat),((List.replicate n l.toArray).foldl (· ++ ·) j).toList=j.toList++(List.replicate n l).flatten
 | 0,j=>by simp
 | n+1,j=>by rw[dS,nv,Uj l n,dS];simp
def Ii:ji X (binaryOp .Mult) ajY:=by
 intro ao s σ H x y v u Q I J O h;let⟨l,n,rfl,rfl,h1,h2,h3,q⟩:=h;let⟨t,rfl⟩:=J;let⟨t',rfl⟩:=O;let j:l.length*n<=1000*1000:=gt (ap h3) (ap h2);let F:(1000*1000:Nat)<=sizeLine:=by decide
 calc PySem.P.mul_str ?_ ?_ ?_ ?_;.rw[af qo,af qk];rfl
 .intro _ _;let e:(2^63-1:Int)/(n:Int)>=1000:=by
   calc Int.le_ediv_of_mul_le (Iff.mpr nl h1) ?_;have:(1000:Int)*(n:Int)<=1000*1000:=by lia
   lia
  rw[uw];lia
 .intro _ _;show decide (_ > _)=false;rw[af];rw[uw,ee];lia
 .rw[if_neg qk];let D:(⟨(List.replicate (n:Int).toNat (S l).cps).foldl (· ++ ·) #[]⟩:Str)=S (List.replicate n l).flatten:=by
   let e:=Uj l n #[];rw[ee];unfold S;congr 1;apply pE.mp;simpa using e
  rw[D];split
  .rename_i G;let e:(List.replicate n l).flatten=l:=by
    simp at G;rcases G with z|z
    .have:n=1:=by lia
     subst this;simp
    .have:l=[]:=by simpa [S,Str.length] using z
     subst this;simp
   rw[e]at q;show⟨.str (S l),H,I,⟨t,rL⟩,q⟩
  .calc⟨?_,.str (S (List.replicate n l).flatten),H,I.tok _,⟨_,rL⟩,q⟩;rw[uw,len_rep,Nat.mul_comm];show b8 j F
def YL (ls:AA):Txt.join (S []) (ls.map S)=S ls.flatten:=by
 unfold Txt.join Builtin.Str.glued;let D:∀(ls:AA) (j:Array Nat),((ls.map S).foldl (λj p=>j++(S []).cps++p.cps) j).toList=j.toList++ls.flatten:=by
  intro ls
  induction ls with| nil=>intro j;simp| cons l r ih=>intro j;rw[cq,nv,ih];simp[S]
 unfold S;congr 1;apply pE.mp;cases ls with| nil=>rfl| cons l r=>have:=D r (S l).cps;let e:(List.map S (l::r)).drop 1=List.map S r:=rfl;show (((List.map S (l::r)).drop 1).foldl _ (S l).cps).toList=_;rw[e];show this.trans (by simp[S])
def rJoin (K:W.Frag):V->List V->Hp->VK->Prop:=λx vs H Q=>∃p ls,x=.str (S [])/\vs=[.ref p]/\bM K H p (Ts ls)/\ls.flatten.length<=1000/\Q (.str (S ls.flatten)) H
theorem Ij:∀{ls:AA} {us:List Value},Vals (Ts ls) us->StrsAre us (ls.map S)
 | [],_,.nil=>.nil
 | l::r,_,.cons q t=>by let⟨t',rfl⟩:=q;show .cons (S l) t' (Ij t)
def YM (ls:AA):((ls.map S).map (·.length)).sum=ls.flatten.length:=by
 induction ls with| nil=>rfl| cons l r ih=>rw[cq,cq,ot,ih,fi,am,uw]
def oR:Ep X "str.join" (rJoin X.K):=by
 intro ao s σ H x vs v us Q I j D h;let⟨p,ls,rfl,rfl,G,hz,q⟩:=h;let⟨t,rfl⟩:=j;let⟨u,rfl,F⟩:=vals1 D;cases F;let⟨its,r,pl,_⟩:=I.list G;refine join_list pl.isList (ys:=ls.map S) (by simpa using Ij r) ?_ λt' k=>?_
 .rw[YM];show _+_*0<=_;lia
 .show⟨.str (S ls.flatten),H,I.tok k,⟨t',congrArg (λz=>Value.str z t') (YL ls)⟩,q⟩
end
structure aO (K:W.Frag)(mg:Str->Option Value)(name:Str)(st:Stmt)(ps:List Str):Prop where
 ex:∃f fd,gJ K name name st f fd/\cD K fd ps []/\mg name=some (.ref f)
structure cA (P:Program)(w:World)(K:W.Frag)(mg:Str->Option Value)(base:Heap)(name:Str)(k:Nat)(ps:List Str)(sp:Sp):Prop where
 ex:∃f fd,cU P w K mg base eV k f fd ps sp/\cD K fd ps []/\mg name=some (.ref f)/\W.keepIn K (.ref f)=true
def aO.ok {K:W.Frag}{mg:Str->Option Value}{name:Str}{st:Stmt}{N ps:List Str}{k:Nat}{sp:Sp}(D:aO K mg name st ps)(S:bD N ps (aL st))(len:∀vs H Q E,sp vs H Q E->vs.length=ps.length)(j:∀(f:Addr) (bV:Value) (A:Around) (outer:List Env) (s:Shared) (H:Hp) (vs:List V) (Q:VK) (E:XK),iu k (A.deeper (envOfC name (aL st) s.heap.objs.size f bV))->sp vs H Q E->
   ∃t,Qo (rM eV P w K mg base N name (aL st) f bV A outer s H E).La (dG st) t/\t {nx:=λ_ H'=>Q .non H',rt:=Q} (start N vs) H):cA P w K mg base name (k+1) ps sp:=by
 let⟨f,fd,F,b,g⟩:=D.ex;show⟨f,fd,F.ok S len (j f),b,g,F.kp⟩
section
variable {X:Cx}{x:Str}{p pos:Pos}{e:Expr}{es:List Expr}{t:TA}
def bQ (D:cA X.prog X.w X.K X.mg X.base x k ps sp)(hr:iu k X.A)(hg:Gl X x)(ha:QA X (e::es) t)(F:(x==("__debug__":Str))=false:=by decide)(hs:starEach (e::es) X.env=(false,eval e X.env)::starEach es X.env:=by rfl)(j:(backTo pos (starEach es X.env)).any (·.1)=false:=by rfl):QE X (.Call (.Name x p) (e::es) [] pos) (aax sp [] E0 t):=⟨by
 let⟨f,fd,G,b,g,kp⟩:=D.ex;show af0 G hr hg g kp b .nil gM ha.out F hs j⟩
end
theorem aB.upd (h:H p=none):aB H (upd H p o):=λb o' e=>by rw[bw (bL e h)];show e
def aB.eE (s:aB H H')(h:H p=none):aB H (L2.upd H' p o):=λb o' e=>by rw[bw (bL e h)];show s b o' e
def ad8 {K:W.Frag}{h:Heap}{mg:Str->Option Value}{name:Str}{st:Stmt}{ps:List Str}{f:Addr}{oc:Value}{od an:Option Addr}{osl:Array (Option Value)}{kV doc pm bV ct:Value}(X:K.In h)(G:h.Ns mainGlobals mg)(a:W.nsIn K mainGlobals name=some (some (.ref f)))(l:K.lookup f=some ⟨oc,od,.func (W.fnOf name name (eU st) (dG st) (aL st) .none kV doc pm an bV ct),osl⟩)(c:W.codeIn K bV name=true)(k:W.keepIn K (.ref f)=true)(hb:∀(kV doc pm:Value) (an:Option Addr) (bV ct:Value) (us:List Value),us.length=ps.length->bindArgs (W.fnOf name name (eU st) (dG st) (aL st) .none kV doc pm an bV ct) ⟨us,[]⟩=pure (ps.zip us)):aO K mg name st ps:=⟨f,_,iB l c k,(iB l c k).binds hb,cn X G a⟩
def ah9 {K:W.Frag}{h:Heap}{mg:Str->Option Value}{st:Stmt}{x:Str}{f D:Addr}{oc:Value}{od an:Option Addr}{osl:Array (Option Value)}{kV doc pm bV ct:Value}(X:K.In h)(G:h.Ns mainGlobals mg)(j:mg "law"=some (.ref D))(a:W.nsIn K mainGlobals "law"=some (some (.ref f)))(l:K.lookup f=some ⟨oc,od,.func (W.fnOf "law" "law" (eU st) (dG st) (aL st) .none kV doc pm an bV ct),osl⟩)(c:W.codeIn K bV "law"=true)(k:W.keepIn K (.ref f)=true)(hb:∀(kV doc pm:Value) (an:Option Addr) (bV ct v:Value),bindArgs (W.fnOf "law" "law" (eU st) (dG st) (aL st) .none kV doc pm an bV ct) ⟨[v],[]⟩=pure [(x,v)]):∃fd:FuncData,gJ K "law" "law" st D fd/\∀(s:Shared) (v:Value),BindsTo s fd ⟨[v],[]⟩ [(x,v)]:=by let e:=j.symm.trans (cn X G a);cases e;show⟨_,iB l c k,λs v=>.of_eq (hb kV doc pm an bV ct v)⟩
def SM (K:W.Frag):Sp:=λvs H Q _=>∃(a:Addr) (ns:List Int),vs=[.ref a]/\bM K H a (ns.map V.int)/\ns.length<=63/\∀H',Q (.bl true) H'
def af9 {x:Str}{l:W.OpenLaw}{j:List Str}{J:(Str->Option Value)->Heap->Prop}{Y:World->Heap->Prop}{d:DefRec}{K:Params->W.Frag}(hn:l.most=some 63)(D:d.params.defaults=[])(O:∀(w:World) (h:Heap),Y w h->(K w.params).In h)(F:∀(w:World) (mg:Str->Option Value) (G:Addr) (h:Heap),(K w.params).In h->h.Ns mainGlobals mg->mg d.name=some (.ref G)->
   ∃fd:FuncData,(∀(s:Shared) (u:Value),BindsTo s fd ⟨[u],[]⟩ [(x,u)])/\∀base:Heap,(K w.params).In base->base.Ns mainGlobals mg->cU l.prog w (K w.params) mg base eV 20 G fd [x] (SM (K w.params))) :
  W.WalkO q j J Y l.row.toRowW d [] (λf vs=>PySem.call f vs):=
 L2.af6 (n:=63) (k:=20) (x:=x) (CX:=λ_=>eV) (sp:=λw=>SM (K w.params)) hn qr D ⟨rL,qr,qr⟩ O F (λ_ _ a ns hl _ I=>⟨a,ns,rL,I,hl,λ_=>rfl⟩) λ_ _ _ _ _ z=>z
namespace RV
end RV
section
variable {X:Cx}{e st:Expr}{te tst:TE}{pos p2:Pos}
theorem ace {α β:Type}{f:α->Option β}{g:α->β}:∀l:List α,(∀k∈l,f k=some (g k))->l.filterMap f=l.map g
 | [],_=>rfl
 | a::r,h=>by rw[i9,h a bS,cq,ace r λk j=>h k (bE _ j)]
def ajZ (te tst:TE):TE:=λσ H Q=>te σ H λx H1=>tst σ H1 λy j=>∃l,x=.str (S l)/\y=.int (-1)/\l.length<=sizeLine/\Q (.str (S l.reverse)) j
def YQ (he:QE X e te)(J:QE X st tst):QE X (.Subscript e (.Slice none none (some st) p2) pos) (ajZ te tst):=⟨by
 intro ao s σ H Q I h;calc Subscript_ (cP (he.out ao s σ H _ I h) λv s1 G=>?_);let⟨x,H1,I1,r1,q1⟩:=G;calc wpAny_Slice ?_;rw[evalPart_none,evalPart_some];calc aI (aI (cP (J.out ao s1 σ H1 _ I1 q1) λvst s2 G=>?_));let⟨y,O,I2,r2,l,ex,Y,hz,q⟩:=G;subst ex Y;let⟨t,rfl⟩:=r1;let⟨D,rfl⟩:=r2;let I4:aX X ao σ O {s2 with heap:=s2.heap.push {cls:=.type "slice",data:=.fields #[.none,.none,.int (-1) D]} }:=I2.kept (t':=s2.toks) λb ob z=>ag _ z;show wpAny (model X.prog X.w) X.A (subscriptTail e (.Slice none none (some st) p2) (.str (S l) t) (.ref s2.heap.objs.size)) (EP X ao σ Q) X.xe {s2 with heap:=s2.heap.push {cls:=.type "slice",data:=.fields #[.none,.none,.int (-1) D]} };calc tail_any (ops:=[.ref s2.heap.objs.size,.str (S l) t]) (typeIs_str _ _ _) PySem.F.slot_str_getitem.lookup ?_ (by with_unfolding_all rfl);calc wpAny_getItem_str_slice (l:=none) (u:=none) (st:=some (-1,D)) ⟨_,bu _ rL,rL,rL⟩ rL ?_;let ep:slicePicked (S l) none none (some (-1,D))=(List.range l.length).map λk=>l.length-1-k:=picked_rev l.length;let er:((slicePicked (S l) none none (some (-1,D))).filterMap ((S l).cps[·]?))=l.reverse:=by
  rw[ep];calc List.ext_getElem? λj=>?_;let hm:((List.range l.length).map λk=>l.length-1-k).filterMap ((S l).cps[·]?)=(List.range l.length).map λk=>l.getD (l.length-1-k) 0:=by rw[List.filterMap_map];calc ace _ λk hk=>?_;let Z:=fE.mp hk;show (l.toArray)[l.length-1-k]?=some (l.getD (l.length-1-k) 0);simp[List.getD,show l.length-1-k<l.length from Nat.sub_lt_of_lt qk]
  rw[hm,ck];by_cases F:j<l.length
  .rw[List.getElem?_range F,mE F];simp[List.getD,show l.length-1-j<l.length by lia]
  .rw[ko (by simpa using F),ko (by simpa using F)];rfl
 unfold sliceMade;rw[if_neg qo];rw[er];calc⟨?_,.str (S l.reverse),O,I4.tok _,⟨_,rL⟩,q⟩;show l.reverse.toArray.size<=sizeLine;simpa using hz⟩
end
def QW.qt (h:QW X e t):QT X e t:=⟨h.out.pt⟩
section
variable {X:Cx}{tg:Expr}
def h_ (hp:PassesOwn (model X.prog X.w) X.A X.env X.xe)(j:X.calm=true)(hi:QI X tg iter wi)(hg:QG X tg g)(hb:wQ X body tb)(hs:∀x,foldedSetIterable iter X.env x=pure x:=by intro _;rfl):QS X (.For tg iter body [] pos) (ahN wi g tb):=⟨ahO hp j hi.out hg.out hb.out hs⟩
end
section
variable {X:Cx}{pos:Pos}
def bY (j:X.N.Nodup)(hi:X.N[i]?=some x)(hx:Loc X.env.scope x)(D:X.fn x=true\/X.env.scope.names.lookup x=some .local:=by first|show .inl rfl|show .inr rfl|assumption):QG X (.Name x pos) (vY i):=⟨vA j hi hx D⟩
def qF {es:List Expr}{k:Nat}{t:Qs}{n:Nat}(D:X.calm=true)(h:QGs X es t)(hn:(assignEach es X.env).length=n:=by rfl)(j:(assignEach es X.env).findIdx? (·.1)=none:=by rfl):QG X (.Tuple es k pos) (aak X.K n t):=⟨Tw D h.out hn j⟩
def oU  : QGs X [] aaj:=⟨N7⟩
def cJ (h1:QG X e t)(h2:QGs X es u)(hs:(assignEach (e::es) X.env).map (·.2)=assign e X.env::(assignEach es X.env).map (·.2):=by rfl):QGs X (e::es) (CJ t u):=⟨vB h1.out h2.out hs⟩
end
section
variable {X:Cx}
def bA (l){j pos}(h:x=S l):QE X (.Constant (.str x) j pos) (tC (.str (S l))):=⟨af8 l h⟩
end
def rfg {as:List Addr}{n:Nat}{x:V}(h:(as.map V.ref)[n]?=some x):∃h:n<as.length,V.ref as[n]=x:=by
 let hn:n<as.length:=by have:=(ah.mp h).1;simpa using this
 rw[ck,ac hn]at h;show⟨hn,bq h⟩
def aO.d8 {K:W.Frag}{mg:Str->Option Value}{name:Str}{st:Stmt}{N ps:List Str}{k:Nat}{sp:Sp}(D:aO K mg name st ps)(S:bD N ps (aL st))(j:∀(f:Addr) (bV:Value) (A:Around) (outer:List Env) (s:Shared) (H:Hp) (vs:List V) (Q:VK) (E:XK),iu k (A.deeper (envOfC name (aL st) s.heap.objs.size f bV))->sp vs H Q E->
   ∃t,wQ (rM eV P w K mg base N name (aL st) f bV A outer s H E).La (dG st) t/\t {nx:=λ_ H'=>Q .non H',rt:=Q} (start N vs) H) (len:∀vs H Q E,sp vs H Q E->vs.length=ps.length:=by intro _ _ _ _ h;repeat (first|(let⟨rfl,_⟩:=h;rfl)|let⟨_,h⟩:=h)):cA P w K mg base name (k+1) ps sp:=
 D.ok S len λf bV A outer s H vs Q E hr h=>let ⟨t,a,b⟩:=j f bV A outer s H vs Q E hr h;⟨t,a.out,b⟩
def gJ.d8 {K:W.Frag}{mg:Str->Option Value}{x qual:Str}{st:Stmt}{N ps:List Str}{k:Nat}{sp:Sp}(F:gJ K x qual st f fd)(S:bD N ps (aL st))(j:∀(bV:Value) (A:Around) (outer:List Env) (s:Shared) (H:Hp) (vs:List V) (Q:VK) (E:XK),iu k (A.deeper (envOfC qual (aL st) s.heap.objs.size f bV))->sp vs H Q E->
   ∃t,wQ (rM eV P w K mg base N qual (aL st) f bV A outer s H E).La (dG st) t/\t {nx:=λ_ H'=>Q .non H',rt:=Q} (start N vs) H) (len:∀vs H Q E,sp vs H Q E->vs.length=ps.length:=by intro _ _ _ _ h;repeat (first|(let⟨rfl,_⟩:=h;rfl)|let⟨_,h⟩:=h)):cU P w K mg base eV (k+1) f fd ps sp:=
 F.ok S len λbV A outer s H vs Q E hr h=>let ⟨t,a,b⟩:=j bV A outer s H vs Q E hr h;⟨t,a.out,b⟩
section
variable {prog:Program}{w:World}{A:Around}{E:AB}{s:Shared}
def Ly (J:wpAny (model prog w) A.in1 (collect v) (λvs s1=>∃Y,StrsAre vs Y/\vs.length<64/\
   ∀(h':Heap) (G:List Value) (j:List Str) (e:Nat),(∀b o,s1.heap.get? b=some o->h'.get? b=some o)->h'.get? s1.heap.objs.size=some (seqObj "list" G.toArray e)->StrsAre G j->j.Perm Y->sortedS j=true->
    Q (.ref s1.heap.objs.size) {s1 with heap:=h' }) E s):wpAny (model prog w) A (call (.builtin "sorted") [v]) Q E s:=by
 calc Calls.call_function_entry kind_sorted plain_sorted entry_sorted (args_sorted1 _) ?_;unfold Builtin.«sorted»;calc ae (m:=checkCount "sorted" 1 1 _) (aI ?_);calc ae (cP J λvs s1 ⟨Y,O,I,h⟩=>?_);calc ae (wpAny_newList ?_);let D:(s1.heap.push (seqObj "list" vs.toArray 0)).get? s1.heap.objs.size=some (seqObj "list" vs.toArray 0):=bu _ rfl;refine ae (fz (hV slot_list_sort (s:={s1 with heap:=s1.heap.push (seqObj "list" vs.toArray 0)}) ⟨_,D,rL⟩ entry_list_sort
  (list_sort_treeK (s:={s1 with heap:=s1.heap.push (seqObj "list" vs.toArray 0)}) strKind_oneLt D O.keysOf (λv₁ v₂ rest e=>keyKind_strs (by rw[<-e];show O)) I λF hp hs=>⟨_,rL,?_⟩) (args_list_sort _)))
 let⟨j,h1,h2,h3⟩:=sorted_out_str O hp hs;let⟨e,Z⟩:=sortedHeap_at (vs:=vs) (out:=(arrOf F).map (·.2)) D;calc aI ⟨_,rL,h _ ((arrOf F).map (·.2)).toList j e (λb o z=>?_) (by rw[Array.toArray_toList];show Z) h1 h2 h3⟩;let hb:b<s1.heap.objs.size:=a_ z;rw[sortedHeap_old (cv hb) (by rw[fk];show lT hb)];show ag _ z
end
def ad9 (h:ItemsOf (SignAt x) vs x.cps.size):StrsAre vs.toList (x.cps.toList.map λc=>(⟨#[c]⟩:Str)):=by
 let D:∀(l:List Value) (m:List Nat),l.length=m.length->(∀(j:Nat) v,l[j]?=some v->∃c u,m[j]?=some c/\v=.str ⟨#[c]⟩ u)->StrsAre l (m.map λc=>(⟨#[c]⟩:Str)):=by
  intro l
  induction l with
  | nil=>
   intro m hl _;cases m with| nil=>show .nil| cons c r=>simp at hl
  | cons a r ih=>
   intro m hl hv;cases m with
   | nil=>simp at hl
   | cons c m=>
    let⟨I,u,e,rfl⟩:=hv 0 a rfl;let G:c=I:=by simpa using e
    subst G;show .cons _ u (ih m (by simpa using hl) λj v F=>hv (j+1) v F)
 calc D _ _ (by simpa using h.1) λj v F=>?_;let⟨c,u,e1,e2⟩:=h.2 j v (by simpa using F);show⟨c,u,by simpa using e1,e2⟩
section
theorem ux:∀{j:List Str} {us:List Value},StrsAre us j->Vals (j.map V.str) us
 | _,_,.nil=>.nil
 | _,_,.cons x t r=>.cons ⟨t,rL⟩ (ux r)
end
def Its (l:List Nat):It:=⟨λi _=>i<l.length,λi H x H'=>H'=H/\∃c,l[i]?=some c/\x=.str (S [c]),λi _=>l.length<=i⟩
def ad_ {P:Program}{w:World}{K:W.Frag}{tg:Expr}{ty:String}(F:ty="str_ascii_iterator"\/ty="str_iterator")(l:List Nat)(t:Tok)(it:Addr):Turn P w K tg (Its l) [it] it (λi h=>i<=l.length/\h.IsStrIter it ty (S l) t i) where
 mem:=by simp
 obj:=λi h st b hb=>by
  let e:b=it:=by simpa using hb
  subst e;let⟨_,o,e,c,d⟩:=st;show⟨o,e,λv z=>by rw[d]at z;cases z⟩
 keep:=λi h h' st k=>⟨st.1,let ⟨o,ho,r⟩:=st.2;⟨o,k it qo o ho,r⟩⟩
 item:=by
  intro X hP hw hK O i ao s σ H E I Y st hg;subst hP hw hK;let⟨f0,f1,f2,f3,f4,f5⟩:=Y it qo;let J:i<(S l).cps.size:=hg;let G:∀(v:Value) (h':Heap) (tk:Nat),SignAt (S l) i v->h'.IsStrIter it ty (S l) t (i+1)->(∀b o,b∉[it]->s.heap.get? b=some o->h'.get? b=some o)->
    ∃u,some v=some u/\wpAny (model X.prog X.w) X.A (letOwnedTupleGo tg (.ref it) u) (λ_ s2=>∃x H',aX X ao σ H' s2/\cW x u/\(Its l).Qt i H x H'/\(i+1<=l.length/\s2.heap.IsStrIter it ty (S l) t (i+1))/\∀b∈[it],H' b=none) E {s with heap:=h',toks:=tk}:=by
   intro v h' tk hv j D;let⟨c,u,Z,rfl⟩:=hv;let I1:aX X ao σ H {s with heap:=h',toks:=tk}:=I.turned (λb o hb e=>D b o (by simpa using hb) e) f0 f1 f3 f4 f5;let⟨o,e,c2,d2⟩:=id j;refine⟨_,rL,Ld (s:={s with heap:=h',toks:=tk}) e c2 d2 (by rcases F with rfl|rfl <;> decide) ⟨.str (S [c]),H,I1,⟨u,rL⟩,⟨rL,c,by simpa [S] using Z,rL⟩,⟨hg,j⟩,λb hb=>(Y b hb).1⟩⟩
  rcases F with rfl|rfl;.show(Walks.strAscii (prog:=X.prog) (w:=X.w) (I.ok.hd O) it (S l) t).item i s _ _ J st.2 λv h' tk hv j D=>G v h' tk hv j D
  .show(Walks.strWide (prog:=X.prog) (w:=X.w) (I.ok.hd O) it (S l) t).item i s _ _ J st.2 λv h' tk hv j D=>G v h' tk hv j D
 done:=by
  intro X hP hw hK O i ao s σ H E I Y st hg;subst hP hw hK;let⟨f0,f1,f2,f3,f4,f5⟩:=Y it qo;let hi:i=(S l).cps.size:=Nat.le_antisymm st.1 hg;let j:=st.2;rw[hi]at j;rcases F with rfl|rfl
  .show(Walks.strAscii (prog:=X.prog) (w:=X.w) (I.ok.hd O) it (S l) t).done s _ _ j λh' tk D=>⟨rL,I.turned (λb o hb e=>D b o (by simpa using hb) e) f0 f1 f3 f4 f5⟩
  .show(Walks.strWide (prog:=X.prog) (w:=X.w) (I.ok.hd O) it (S l) t).done s _ _ j λh' tk D=>⟨rL,I.turned (λb o hb e=>D b o (by simpa using hb) e) f0 f1 f3 f4 f5⟩
 self:=λA i s Q E st h=>by
  rcases F with rfl|rfl;.show wpAny_pyIter_striter_ascii st.2 h
  .show wpAny_pyIter_striter_wide st.2 h
def acf {a b c:List Nat}(h1:¬b<a)(h2:¬c<b):¬c<a:=by let j:a<=b:=h1;let D:b<=c:=h2;show List.le_trans j D
theorem Q0:∀(r:List Str) (p:Str),risingS p r=true->(∀x∈r,¬x.cps.toList<p.cps.toList)/\(r.map λy=>y.cps.toList).Pairwise (λa b=>decide (b<a)=false)
 | [],_,_=>⟨λ_ h=>by simp at h,List.Pairwise.nil⟩
 | y::r,p,h=>by
  rw[risingS,cp]at h;let h0:¬y.cps.toList<p.cps.toList:=by have:=h.1;simpa [ltCps_eq] using this
  let⟨h1,h2⟩:=Q0 r y h.2;refine⟨λx hx=>?_,?_⟩
  .rcases bX.mp hx with e|e;.rw[e];show h0
   .show acf h0 (h1 x e)
  .rw[cq];calc List.Pairwise.cons (λb hb=>?_) h2;let⟨x,hx,rfl⟩:=bd.mp hb;show af (h1 x hx)
def Fj (ss)(h:sortedS ss=true):(ss.map λy=>y.cps.toList).Pairwise (λa b=>decide (b<a)=false):=by
 cases ss with| nil=>show List.Pairwise.nil| cons x r=>let⟨h1,h2⟩:=Q0 r x h;rw[cq];calc List.Pairwise.cons (λb hb=>?_) h2;let⟨y,hy,rfl⟩:=bd.mp hb;show af (h1 y hy)
section
variable {X:Cx}{tg:Expr}
def ak5 (tl:TE):TI:=λσ H R=>tl σ H λx H1=>∃l,x=.str (S l)/\R (Its l) H1
def qG (hl:QE X l tl):QI X tg l (ak5 tl):=⟨by
 intro ao s σ H R I h;calc cP (hl.out ao s σ H _ I h) λv s1 F=>?_;let⟨x,H1,j,r1,q1⟩:=F;let⟨l,e,q⟩:=q1;subst e;let⟨t,rfl⟩:=r1;calc wpAny_pyIter_strU ?_;let D:strIterType (S l)="str_ascii_iterator"\/strIterType (S l)="str_iterator":=by unfold strIterType;split <;> simp
 calc⟨s1.heap.objs.size,[s1.heap.objs.size],_,_,H1,rL,j.kept (t':=s1.toks) λb o e=>ag _ e,ad_ D l t _,⟨fe _,_,bu _ rL,rL,rL⟩,λb hb=>?_,q⟩;let e:b=s1.heap.objs.size:=by simpa using hb
 subst e;show j.CK (ax _) (j.hok.fresh (ax _))⟩
def yO {l:List Nat}{D:Addr}{te:TE}{σ:St}{H:Hp}{R:Hp->Prop}(j:Nat->List V->Hp->Prop)(h0:j 0 [] (upd H D (.lst [])))(hs:∀i c ys H,l[i]?=some c->j i ys H->te (some (.str (S [c]))::σ) H (JQ l.length i D ys (j (i+1))))(hd:∀ys H,j l.length ys H->R H):Ar (Its l) D H R (Uh σ nY te):=Ug l.length j h0 (λi ys H h p=>⟨h,λx H' y=>by let⟨rfl,c,F,rfl⟩:=y;show hs i c ys _ F p⟩) λys H p=>⟨ax _,hd ys H p⟩
def lK (hc:X.calm=true):jJ X (.builtin "all") (λxs H Q=>∃(p:Addr) (bs:List Bool),xs=[.ref p]/\bM X.K H p (bs.map V.bl)/\Q (.bl (bs.all id)) H):=by
 intro ao s σ H xs us Q I r h;let⟨p,bs,rfl,hq,q⟩:=h;let⟨u,rfl,J⟩:=vals1 r;cases J;let⟨its,G,pl,hz⟩:=I.list hq;let D:p≠s.heap.objs.size:=by let⟨o,ho,_⟩:=pl.isList;show cv (a_ ho)
 let hb:∀(i:Nat) (v:Value),its[i]?=some v->v=.bool (bs.getD i true):=λi v hv=>by
  let Y:=G.length;let hi:i<bs.length:=by have:=(ah.mp hv).1;simp at Y;simp_all
  let⟨u,Z,J⟩:=G.get (i:=i) (x:=.bl bs[i]) (by simp[hi]);rw[hv]at Z;cases Z;cases J;simp[List.getD,hi]
 calc call_all_walk (iq pl.isList ?_);refine⟨s.heap.objs.size,_,_,_,_,_,λi=>bs.getD i true,rL,Walks.list (A:=X.A.in1) (I.ok.hd hc) s.heap.objs.size p D its.toArray,⟨⟨_,bu _ rL,rL,rL⟩,pl.isList.at λo e=>ag _ e⟩,?_,λh' tk kk=>?_⟩
 .intro i v s' Q' E' hv j;let e:=hb i v (by simpa using hv);subst e;show fh j
 .let I1:aX X ao σ H {s with heap:=h',toks:=tk}:=I.kept λb o e=>kk b o (by
   intro hm;have:b=s.heap.objs.size:=by simpa using hm
   subst this;show absurd (a_ e) (fw _)) (ag _ e)
  calc⟨.bl (bs.all id),H,I1,?_,q⟩;show Value.bool _=Value.bool _;let Y:its.toArray.size=bs.length:=by have:=G.length;simp at this;simp[this]
  rw[Y];congr 1;let O:∀bs:List Bool,(List.range bs.length).all (λi=>bs.getD i true)=bs.all id:=λbs=>by
   rw[ii,eK,eK];constructor
   .intro h x hx;let⟨i,hi,rfl⟩:=iL.mp hx;have:=h i (fE.mpr hi);simpa [List.getD,hi] using this
   .intro h i hi;let F:=fE.mp hi;have:=h bs[i] (ba _);simpa [List.getD,F] using this
  show O bs
def aea:R2:=λx y H Q=>∃i j,x=.str (S i)/\y=.str (S j)/\Q (.bl (!decide (j<i))) H
def pX:ji X (compareOp .LtE) aea:=by intro ao s σ H x y v u Q I F D h;let⟨i,j,rfl,rfl,q⟩:=h;let⟨t,rfl⟩:=F;let⟨t',rfl⟩:=D;show PySem.P.le_str ⟨.bl _,H,I,rL,q⟩
abbrev dX (l:List Nat):Key:=Sum.inr (S l)
def Uk (hc:X.calm=true):jJ X (.builtin "sorted") (λxs H Q=>∃(d:Addr) (kvs:List (Key×V)) (ws:AA),xs=[.ref d]/\H d=some (.dK kvs)/\kvs.map (·.1)=ws.map dX/\ws.length<64/\
  ∀(p:Addr) (O:AA),H p=none->O.Perm ws->O.Pairwise (λa b=>decide (b<a)=false)->Q (.ref p) (upd H p (.lst (Ts O)))):=by
 intro ao s σ H xs us Q I r h;let⟨d,kvs,ws,rfl,hd,hk,h64,q⟩:=h;let⟨u,rfl,ru⟩:=vals1 r;cases ru;let⟨hz,lo,vs,Y,dd⟩:=aaB I.hok hd;let⟨ep,hat⟩:=dd.dictAt;let hkv:=KV.keys Y;let J:vs.length=ws.length:=by let h1:=KV.length Y;let h2:=congrArg List.length hk;simp at h2;lia
 calc Ly (W.kdu_collect (A:=X.A.in1) (W.kdl_dict (knd:=jf X.prog X.w) (kvs:=vs) (ep:=ep) lo) (I.ok.hd hc) hat (by rw[J];show ap (aN qk)) λh' tk acc kk G=>?_);let hS:StrsAre acc.toList (ws.map S):=by
  let key:∀(l:List Value) (m:AA),l.length=m.length->(∀(j:Nat) v,l[j]?=some v->∃c,m[j]?=some c/\∃u,v=.str (S c) u)->StrsAre l (m.map S):=by
   intro l
   induction l with
   | nil=>intro m hl _;cases m with|nil=>show .nil|cons c r=>simp at hl
   | cons a r ih=>
    intro m hl hv;cases m with
    | nil=>simp at hl
    | cons c m=>
     let⟨c',e,u,rfl⟩:=hv 0 a rfl;let e':c=c':=by simpa using e
     subst e';show .cons _ u (ih m (by simpa using hl) λj v hj=>hv (j+1) v hj)
  calc key _ _ (by rw[fN,G.1,J]) λj v hj=>?_;let⟨k,x,hx,hi⟩:=G.2 j v (by simpa using hj);let F:(ws.map dX)[j]?=some k:=by rw[<-hk,hkv,ck,hx];rfl
  rw[ck]at F;cases hw:ws[j]? with
  | none=>rw[hw]at F;cases F
  | some c=>
   rw[hw]at F;let e:dX c=k:=by simpa using F
   subst e;calc⟨c,rL,?_⟩;rcases jM (show Cv (Sum.inr (S c)) v=true from hi) with⟨i,t,e1,_⟩|⟨y,t,e1,e2⟩;.cases e1
   .cases e1;show⟨t,e2⟩
 let I1:aX X ao σ H {s with heap:=h',toks:=tk}:=I.kept kk;calc⟨_,hS,by rw[fN,G.1,J];show h64,λh2 Z D e k2 he hS' pm so=>?_⟩;let es:D=(D.map λy=>y.cps.toList).map S:=by rw[gc];calc(kU _).symm.trans (fR λy _=>?_);show(ah7 y).symm
 let Q5:(D.map λy=>y.cps.toList).Perm ws:=by have:=pm.map λy:Str=>y.cps.toList;rw[gc]at this;let e:((λy:Str=>y.cps.toList) ∘ S)=id:=rfl;rw[e,kU]at this;show this
 let hv:Vals (Ts (D.map λy=>y.cps.toList)) Z:=by have:=ux hS';rw[es]at this;simpa [Ts,oC] using this
 let hl:(Ts (D.map λy=>y.cps.toList)).length<=sizeLine:=by rw[aa,Q5.length_eq];show ap (aN qk)
 refine⟨.ref h'.objs.size,_,I1.laid (o:=.lst _) (t':=tk) k2 (ax _) ⟨hl,Z,e,hv,he⟩,rL,q _ _ I1.fresh Q5 (Fj D so)⟩
def QI.or (h1:QI X tg iter w1)(h2:QI X tg iter w2):QI X tg iter (λσ H R=>w1 σ H R\/w2 σ H R):=⟨λao s σ H R I h=>by
 rcases h with h|h;.show h1.out ao s σ H R I h
 .show h2.out ao s σ H R I h⟩
end
def bM.keep {K:W.Frag}{xs:List V}(k:∀b o,H b=some o->b≠p->H' b=some o)(hp:∀o,H p=some o->(∀ys,o≠.lst ys)/\∀u ys,o≠.rO u (.lst ys))(h:bM K H a xs):bM K H' a xs:=by
 rcases h with(h|⟨o,h⟩)|h;.show .inl (.inl (k _ _ h λe=>(hp _ (e ▸ h)).1 _ rL))
 .show .inl (.inr ⟨o,k _ _ h λe=>(hp _ (e ▸ h)).2 _ _ rL⟩)
 .show .inr h
def aQ.keep {K:W.Frag}{xs:List V}(k:∀b o,H b=some o->b≠p->H' b=some o)(hp:∀o,H p=some o->(∀ys,o≠.tup ys)/\∀u ys,o≠.rO u (.tup ys))(h:aQ K H a xs):aQ K H' a xs:=by
 rcases h with(h|⟨o,h⟩)|h;.show .inl (.inl (k _ _ h λe=>(hp _ (e ▸ h)).1 _ rL))
 .show .inl (.inr ⟨o,k _ _ h λe=>(hp _ (e ▸ h)).2 _ _ rL⟩)
 .show .inr h
end L2
namespace L2
open PySem PySem.Spec PyProof.Rows PySem.W
def af_:List V->Hp->VK->Prop:=λxs H Q=>∃l,xs=[.str (S l)]/\l.length<64/\∀(p:Addr) (j:List Nat),H p=none->j.Perm l->(j.map λc=>[c]).Pairwise (λa b=>decide (b<a)=false)->Q (.ref p) (upd H p (.lst (Ts (j.map λc=>[c]))))
section
variable {X:Cx}
def xH (hc:X.calm=true):jJ X (.builtin "sorted") af_:=by
 intro ao s σ H xs us Q I r h;let⟨l,rfl,G,q⟩:=h;let⟨u,rfl,ru⟩:=vals1 r;let⟨t,rfl⟩:=ru;let hz:(S l).cps.size<=sizeLine:=by show l.length<=sizeLine;show ap (aN qk)
 calc Ly (wpAny_collect_str (A:=X.A.in1) (I.ok.hd hc) (S l) t (λs1 acc k1 k2 k3 k4 D=>?_) hz);let hS:=ad9 D;calc⟨_,hS,?_,λh' F j e kk he O pm J=>?_⟩;.rw[fN,D.1];show G
 let Y:aX X ao σ H s1:=by let I5:=I.kept (h':=s1.heap) (t':=s1.toks) k1;let⟨h',g',d',t'',o'⟩:=s1;simp only at k2 k3 k4;subst k2 k3 k4;show I5
 let Z:(j.map λy=>y.cps.toList.headD 0).Perm l:=by have:=pm.map λy:Str=>y.cps.toList.headD 0;rw[gc]at this;let e:((λy:Str=>y.cps.toList.headD 0) ∘ λc=>(⟨#[c]⟩:Str))=id:=rfl;rw[e,kU,aaE]at this;show this
 let es:j=(j.map λy=>y.cps.toList.headD 0).map λc=>(⟨#[c]⟩:Str):=by rw[gc];calc(kU _).symm.trans (fR λy hy=>?_);let⟨c,_,rfl⟩:=bd.mp (pm.mem_iff.mp hy);rfl
 let hn:H s1.heap.objs.size=none:=Y.fresh;let hv:Vals (Ts ((j.map λy=>y.cps.toList.headD 0).map λc=>[c])) F:=by have:=ux O;rw[es]at this;simpa [Ts,S,oC] using this
 let hl:(Ts ((j.map λy=>y.cps.toList.headD 0).map λc=>[c])).length<=sizeLine:=by rw[aa,aa,Z.length_eq];show ap (aN qk)
 calc⟨.ref s1.heap.objs.size,_,Y.laid (o:=.lst _) (t':=s1.toks) kk (ax _) ⟨hl,F,e,hv,he⟩,rL,q _ _ hn Z ?_⟩;let pw:=Fj j J;rw[es,gc]at pw;show pw
end
end L2
namespace L2
open PySem PySem.Spec PyProof.Rows
section
variable {X:Cx}
def aj0 (i j:Int):Prop:=0<j/\j.natAbs.log2<9000
def JR:ji X (binaryOp .FloorDiv) (rI aj0 λi j=>.int (i/j)):=opI λi j _ _ _ _ _ D q=>by let e:i.fdiv j=i/j:=on _ (Int.le_of_lt D.1);rw[<-e]at q;show floordiv_int (Int.ne_of_gt D.1) q (.inl (PyProof.noPylong_of_log2 D.2))
def ak6:V->List V->Hp->VK->Prop:=λx vs H Q=>∃l,x=.str (S l)/\vs=[]/\l.length<=1000/\(∀c∈l,c<128)/\Q (.str (S (l.map up1))) H
def acg:Ep X "str.upper" ak6:=by
 intro ao s σ H x vs v us Q I G J h;let⟨l,rfl,rfl,hz,ha,q⟩:=h;let⟨t,rfl⟩:=G;let D:=J.zero;subst D;let j:Builtin.Str.tooLong (Txt.upper (S l)).length=false:=fit_upper (by rw[uw];lia);calc call_gives F.slot_str_upper (typeIs_str s _ t) F.entry_str_upper (F.args_str_upper_1 _) (gives_str_upper (S l) t j) ⟨fit_le j,?_⟩;let e:Txt.upper (S l)=S (l.map up1):=by rw[upper_ascii (x:=S l) ha];simp[S]
 show⟨.str (S (l.map up1)),H,I.tok _,⟨s.toks,congrArg (λz=>Value.str z s.toks) e⟩,q⟩
def ak7:V->List V->Hp->VK->Prop:=λx vs H Q=>∃l,x=.str (S l)/\vs=[]/\l.length<=1000/\(∀c∈l,c<128)/\Q (.str (S (l.map lo1))) H
def Ul:Ep X "str.lower" ak7:=by
 intro ao s σ H x vs v us Q I G J h;let⟨l,rfl,rfl,hz,ha,q⟩:=h;let⟨t,rfl⟩:=G;let D:=J.zero;subst D;let j:Builtin.Str.tooLong (Txt.lower (S l)).length=false:=fit_lower (by rw[uw];lia);calc call_gives F.slot_str_lower (typeIs_str s _ t) F.entry_str_lower (F.args_str_lower_1 _) (gives_str_lower (S l) t j) ⟨fit_le j,?_⟩;let e:Txt.lower (S l)=S (l.map lo1):=by rw[lower_ascii (x:=S l) ha];simp[S]
 show⟨.str (S (l.map lo1)),H,I.tok _,⟨s.toks,congrArg (λz=>Value.str z s.toks) e⟩,q⟩
end
def BJ {l:List Nat}{g:TG}{tb:TS}{D:Ends}{σ:St}{H:Hp}(j:Nat->St->Hp->Prop)(h0:j 0 σ H)(hs:∀i c σ H,l[i]?=some c->j i σ H->g (.str (S [c])) σ H λσ2 F=>tb {D with nx:=j (i+1),ct:=j (i+1),bk:=D.nx} σ2 F)(hd:∀σ H,j l.length σ H->D.nx σ H):N8 (Its l) g tb D σ H:=aao l.length j h0 (λi σ H h p=>⟨h,λx H' y=>by let⟨rfl,c,G,rfl⟩:=y;show hs i c σ _ G p⟩) λσ H p=>⟨ax _,hd σ H p⟩
def AL:List Nat:=(List.range 26).map (97 + ·)
def yG {α:Type}{xs:List α}(hn:xs.length=n)(h:0<n)(c):∃v,tV xs (c%(n:Int))=some v/\v∈xs:=by
 let h0:0<=c%(n:Int):=df _ qk;let h1:c%(n:Int)<n:=dq _ (Iff.mpr nl h);obtain⟨k,hk⟩:∃k:Nat,c%(n:Int)=(k:Int):=⟨(c%(n:Int)).toNat,qk⟩
 rw[hk];let hl:k<xs.length:=by simp_all
 show⟨xs[k],aM (by simp[hl]),ba _⟩
inductive Dt where
 | non|int (i:Int)|str (l:List Nat)|tup (ds:List Dt)|lst (ds:List Dt)
mutual
def toP:Dt->PyData
 | .non=>.none
 | .int i=>.int i
 | .str l=>.str (S l)
 | .tup ds=>.tuple (oV ds)
 | .lst ds=>.list (oV ds)
def oV:List Dt->List PyData
 | []=>[]
 | d::ds=>toP d::oV ds
end
mutual
theorem aaF:∀d e:Dt,PyData.eqv (toP d) (toP e)=true↔d=e
 | .non,.non=>by simp[toP,PyData.eqv]
 | .non,.int _=>by simp[toP,PyData.eqv]
 | .non,.str _=>by simp[toP,PyData.eqv]
 | .non,.tup _=>by simp[toP,PyData.eqv]
 | .non,.lst _=>by simp[toP,PyData.eqv]
 | .int _,.non=>by simp[toP,PyData.eqv]
 | .int _,.int _=>by simp[toP,PyData.eqv]
 | .int _,.str _=>by simp[toP,PyData.eqv]
 | .int _,.tup _=>by simp[toP,PyData.eqv]
 | .int _,.lst _=>by simp[toP,PyData.eqv]
 | .str _,.non=>by simp[toP,PyData.eqv]
 | .str _,.int _=>by simp[toP,PyData.eqv]
 | .str a,.str b=>by simp only[toP,PyData.eqv,beq_iff_eq,Dt.str.injEq];show⟨zK,λz=>by rw[z]⟩
 | .str _,.tup _=>by simp[toP,PyData.eqv]
 | .str _,.lst _=>by simp[toP,PyData.eqv]
 | .tup _,.non=>by simp[toP,PyData.eqv]
 | .tup _,.int _=>by simp[toP,PyData.eqv]
 | .tup _,.str _=>by simp[toP,PyData.eqv]
 | .tup ds,.tup es=>by simp only[toP,PyData.eqv,Dt.tup.injEq];show Um ds es
 | .tup _,.lst _=>by simp[toP,PyData.eqv]
 | .lst _,.non=>by simp[toP,PyData.eqv]
 | .lst _,.int _=>by simp[toP,PyData.eqv]
 | .lst _,.str _=>by simp[toP,PyData.eqv]
 | .lst _,.tup _=>by simp[toP,PyData.eqv]
 | .lst ds,.lst es=>by simp only[toP,PyData.eqv,Dt.lst.injEq];show Um ds es
theorem Um:∀ds es:List Dt,PyData.eqvAll (oV ds) (oV es)=true↔ds=es
 | [],[]=>by simp[oV,PyData.eqvAll]
 | [],_::_=>by simp[oV,PyData.eqvAll]
 | _::_,[]=>by simp[oV,PyData.eqvAll]
 | d::ds,e::es=>by simp only[oV,PyData.eqvAll,cp,List.cons.injEq];rw[aaF d e,Um ds es]
end
open Classical in
def Oe (d e:Dt):PyData.eqv (toP d) (toP e)=decide (d=e):=by
 by_cases h:d=e;.rw[ai h];show(aaF d e).mpr h
 .rw[af h];cases z:PyData.eqv (toP d) (toP e) with| false=>rfl| true=>show absurd ((aaF d e).mp z) h
mutual
inductive jO (K:W.Frag) (H:Hp):Nat->Dt->V->Prop
 | non {n}:jO K H n .non .non
 | int {n} (i:Int):jO K H n (.int i) (.int i)
 | str {n} (l:List Nat) (h:∀c∈l,c<128):jO K H n (.str l) (.str (S l))
 | tup {n a ds xs} (h:aQ K H a xs) (hs:d9 K H n ds xs):jO K H (n+1) (.tup ds) (.ref a)
 | lst {n a ds xs} (h:bM K H a xs) (hs:d9 K H n ds xs):jO K H (n+1) (.lst ds) (.ref a)
inductive d9 (K:W.Frag) (H:Hp):Nat->List Dt->List V->Prop
 | nil {n}:d9 K H n [] []
 | cons {n d ds x xs} (h:jO K H n d x) (hs:d9 K H n ds xs):d9 K H n (d::ds) (x::xs)
end
def aga (h:∀c∈l,c<128):PyData.strOk (S l)=true:=by unfold PyData.strOk;show l.toArray.all _=true;rw[Array.all_eq_true_iff_forall_mem];intro x hx;have:=h x (by simpa using hx);show ai qk
mutual
theorem jO.lay {K:W.Frag}:∀{n:Nat} {d:Dt} {x:V},jO K H n d x->(toP d).canLay0=true/\(toP d).depth<=n
 | _,_,_,.non=>by simp[toP,PyData.canLay0,PyData.depth]
 | _,_,_,.int _=>by simp[toP,PyData.canLay0,PyData.depth]
 | _,_,_,.str l h=>by simp only[toP,PyData.canLay0,PyData.depth];show⟨aga h,fe _⟩
 | _,_,_,.tup _ hs=>by simp only[toP,PyData.canLay0,PyData.depth];have:=hs.lay;show⟨this.1,g9 this.2⟩
 | _,_,_,.lst _ hs=>by simp only[toP,PyData.canLay0,PyData.depth];have:=hs.lay;show⟨this.1,g9 this.2⟩
theorem d9.lay {K:W.Frag}:∀{n:Nat} {ds:List Dt} {xs:List V},d9 K H n ds xs->PyData.canLayAll0 (oV ds)=true/\PyData.depthAll (oV ds)<=n
 | _,_,_,.nil=>by simp[oV,PyData.canLayAll0,PyData.depthAll]
 | _,_,_,.cons h hs=>by let a:=h.lay;let b:=hs.lay;simp only[oV,PyData.canLayAll0,PyData.depthAll,cp];show⟨⟨a.1,b.1⟩,Nat.max_le.mpr ⟨a.2,b.2⟩⟩
end
mutual
theorem jO.same {K:W.Frag}(j:aB H H')(st:∀a xs,aQ K H a xs->aQ K H' a xs):∀{n:Nat} {d:Dt} {x:V},jO K H n d x->jO K H' n d x
 | _,_,_,.non=>.non
 | _,_,_,.int i=>.int i
 | _,_,_,.str l h=>.str l h
 | _,_,_,.tup h hs=>.tup (st _ _ h) (hs.same j st)
 | _,_,_,.lst h hs=>.lst (j.seq h) (hs.same j st)
theorem d9.same {K:W.Frag}(j:aB H H')(st:∀a xs,aQ K H a xs->aQ K H' a xs):∀{n:Nat} {ds:List Dt} {xs:List V},d9 K H n ds xs->d9 K H' n ds xs
 | _,_,_,.nil=>.nil
 | _,_,_,.cons h hs=>.cons (h.same j st) (hs.same j st)
end
def aB.ak8 {K:W.Frag}{xs:List V}(e:aB H H')(h:aQ K H a xs):aQ K H' a xs:=by
 rcases h with(h|⟨o,h⟩)|h;.show .inl (.inl (e _ _ h))
 .show .inl (.inr ⟨o,e _ _ h⟩)
 .show .inr h
def d9.mv {K:W.Frag}(j:aB H H'){n:Nat}{d:List Dt}{x:List V}(h:d9 K H n d x):d9 K H' n d x:=h.same j λ_ _=>j.ak8
section
variable {X:Cx}
mutual
theorem jO.reads {ao:AF}{σ:St}{H:Hp}{s:Shared}(I:aX X ao σ H s):∀{n:Nat} {d:Dt} {x:V} {u:Value},jO X.K H n d x->cW x u->∃as,Reads s.heap u (toP d) as
 | _,_,_,u,.non,r=>by cases r;show⟨[],by rw[toP];show .none⟩
 | _,_,_,u,.int i,r=>by let⟨t,rfl⟩:=r;show⟨[],by rw[toP];show .int i t⟩
 | _,_,_,u,.str l h,r=>by let⟨t,rfl⟩:=r;show⟨[],by rw[toP];show .str _ t⟩
 | _,_,_,u,.tup h hs,r=>by cases r;let⟨its,D,pl,_⟩:=I.tuple h;let⟨as,j⟩:=hs.reads I D;let⟨o,F,G,n,hd⟩:=pl;show⟨as,by rw[toP];show .tuple F G hd (by simpa using j)⟩
 | _,_,_,u,.lst h hs,r=>by cases r;let⟨its,D,pl,_⟩:=I.list h;let⟨as,j⟩:=hs.reads I D;let⟨o,F,G,n,hd⟩:=pl.isList;show⟨_::as,by rw[toP];show .list F G hd (by simpa using j)⟩
theorem d9.reads {ao:AF}{σ:St}{H:Hp}{s:Shared}(I:aX X ao σ H s):∀{n:Nat} {ds:List Dt} {xs:List V} {us:List Value},d9 X.K H n ds xs->Vals xs us->∃as,ReadsAll s.heap us (oV ds) as
 | _,_,_,us,.nil,r=>by cases r;show⟨[],by rw[oV];show .nil⟩
 | _,_,_,us,.cons h hs,r=>by
  cases r with| cons q t=>let⟨as,a⟩:=h.reads I q;let⟨bs,b⟩:=hs.reads I t;show⟨as++bs,by rw[oV];show .cons a b⟩
end
def jO.shaped {K:W.Frag}{n:Nat}{d:Dt}{x:V}(h:jO K H n d x)(hn:n<=64):SeqAt.shaped (toP d)=true:=by unfold SeqAt.shaped;rw[h.lay.1,ai (b8 h.lay.2 hn)];rfl
open Classical in
def ah_ (K:W.Frag)(j:Bool):R2:=λx y H Q=>∃n d e,n<=64/\jO K H n d x/\jO K H n e y/\Q (.bl (if j then !decide (d=e) else decide (d=e))) H
def BL (O:X.A.units+64<cLine):ji X (compareOp .Eq) (ah_ X.K false):=by intro ao s σ H x y v u Q I G J h;let⟨n,d,e,hn,hd,j,q⟩:=h;let⟨as,D⟩:=hd.reads I G;let⟨bs,F⟩:=j.reads I J;calc SeqAt.compareEq_shaped D F (hd.shaped hn) (j.shaped hn) O ⟨.bl _,H,I,rL,?_⟩;rw[Oe];show q
def uy (O:X.A.units+64<cLine):ji X (compareOp .NotEq) (ah_ X.K true):=by intro ao s σ H x y v u Q I G J h;let⟨n,d,e,hn,hd,j,q⟩:=h;let⟨as,D⟩:=hd.reads I G;let⟨bs,F⟩:=j.reads I J;calc SeqAt.compareNe_shaped D F (hd.shaped hn) (j.shaped hn) O ⟨.bl _,H,I,rL,?_⟩;rw[Oe];show q
def aia (K:W.Frag):V->List V->Hp->VK->Prop:=λx vs H Q=>∃p ls,x=.str (S [])/\vs=[.ref p]/\aQ K H p (Ts ls)/\ls.flatten.length<=1000/\Q (.str (S ls.flatten)) H
def JT:Ep X "str.join" (aia X.K):=by
 intro ao s σ H x vs v us Q I j D h;let⟨p,ls,rfl,rfl,G,hz,q⟩:=h;let⟨t,rfl⟩:=j;let⟨u,rfl,F⟩:=vals1 D;cases F;let⟨its,r,pl,_⟩:=I.tuple G;refine join_tuple pl (ys:=ls.map S) (by simpa using Ij r) ?_ λt' k=>?_
 .rw[YM];show _+_*0<=_;lia
 .show⟨.str (S ls.flatten),H,I.tok k,⟨t',congrArg (λz=>Value.str z t') (YL ls)⟩,q⟩
def Uo (lo c:Int)(n:Nat):It:=⟨λi _=>i<n,λi H x H'=>H'=H/\x=.int (lo+i*c),λi _=>n<=i⟩
def Xy {P:Program}{w:World}{K:W.Frag}{tg:Expr}(it:Addr)(lo c:Int)(n:Nat):Turn P w K tg (Uo lo c n) [it] it (λi h=>IsRangeIter h it (lo+(i:Nat)*c) ((n:Int)-(i:Nat)) c) where
 mem:=by simp
 obj:=λi h st b hb=>by
  let e:b=it:=by simpa using hb
  subst e;show⟨_,st,λv z=>by let z':Data.fields _=Data.cell v:=z;cases z'⟩
 keep:=λi h h' st k=>k it qo _ st
 item:=by intro X F hw G J i ao s σ H E I D st hg;subst F hw G;let⟨f0,f1,f2,f3,f4,f5⟩:=D it qo;let W:=Walks.range (prog:=X.prog) (w:=X.w) (I.ok.hd J) it lo c n;calc W.item i s _ _ hg st λv h' tk hv j O=>?_;let⟨t,rfl⟩:=hv;let Y:aX X ao σ H {s with heap:=h',toks:=tk}:=I.turned (λb o hb e=>O b o (by simpa using hb) e) f0 f1 f3 f4 f5;show⟨_,rL,Ld (s:={s with heap:=h',toks:=tk}) (n:="range_iterator") j rL rL qr ⟨.int (lo+i*c),H,Y,⟨t,rL⟩,⟨rL,rL⟩,j,λb hb=>(D b hb).1⟩⟩
 done:=by intro X F hw G J i ao s σ H E I D st hg;subst F hw G;let⟨f0,f1,f2,f3,f4,f5⟩:=D it qo;show wpAny_pyNext_range_end (I.ok.hd J) st (by have:n<=i:=hg;lia) λh' Z=>⟨rL,I.turned (t':=s.toks) (λb o hb e=>Z b o hb e) f0 f1 f3 f4 f5⟩
 self:=λ_ _ _ _ _ st h=>wpAny_pyIter_rangeiter st h
variable {tg:Expr}
def aj1 (ta:TA):TI:=λσ H R=>ta σ H λvs H1=>∃r c:Nat,vs=[.int 0,.int ((r*c:Nat):Int),.int (c:Int)]/\1<=r/\r<=9/\1<=c/\c<=9/\R (Uo 0 c r) H1
def aib:∀r c:Fin 10,1<=r.val->1<=c.val->Builtin.Range.small 0 ((r.val*c.val:Nat):Int) (c.val:Int)=true/\Builtin.Range.rangeSize 0 ((r.val*c.val:Nat):Int) (c.val:Int)=(r.val:Int):=by decide +kernel
def ach {a b c:Expr}{ta:TA}{p pos:Pos}(hg:Gl X "range")(hm:X.mg "range"=none)(ha:QA X [a,b,c] ta)(hs:starEach [a,b,c] X.env=[(false,eval a X.env),(false,eval b X.env),(false,eval c X.env)]:=by rfl)(j:starEach [b,c] X.env=[(false,eval b X.env),(false,eval c X.env)]:=by rfl):QI X tg (.Call (.Name "range" p) [a,b,c] [] pos) (aj1 ta):=⟨by
 intro ao s σ H R I h;calc Call_ (wR I hg hm boot_range (fq (cP (ha.out pos ao s σ H _ I h) λus s1 O=>?_) (by rw[hs,j]) (by rw[j];rfl)));let⟨vs,H1,Y,r1,q1⟩:=O;let⟨r,c,e,q1,q2,q3,q4,q⟩:=q1;subst e;cases r1 with
 | cons r1 rr=>
  cases rr with
  | cons r2 rr=>
   cases rr with
   | cons r3 rr=>
    cases rr;let⟨D,rfl⟩:=r1;let⟨F,rfl⟩:=r2;let⟨G,rfl⟩:=r3;let⟨Z,sz⟩:=aib ⟨r,Nat.lt_succ_of_le q2⟩ ⟨c,qk⟩ q1 q3;calc call_range_3 qk ?_ (.inl (PyProof.noPylong_small (by simp_all;lia)));calc wpAny_pyIter_range (IsRange.new ..) Z ?_;let J:aX X ao σ H1 {s1 with heap:=s1.heap.push {cls:=.type "range",data:=.fields #[.int 0 D,.int ((r*c:Nat):Int) F,.int (c:Int) G]},toks:=s1.toks}:=Y.kept λb o e=>ag _ e;refine⟨(s1.heap.push {cls:=.type "range",data:=.fields #[.int 0 D,.int ((r*c:Nat):Int) F,.int (c:Int) G]}).objs.size,[(s1.heap.push {cls:=.type "range",data:=.fields #[.int 0 D,.int ((r*c:Nat):Int) F,.int (c:Int) G]}).objs.size],_,_,H1,rL,
     J.kept (t':=s1.toks) λb o e=>ag _ e,Xy _ 0 (c:Int) r,?_,λb hb=>?_,q⟩
    .let e1:(0:Int)+((0:Nat):Int)*(c:Int)=0:=qo;let e2:(r:Int)-((0:Nat):Int)=Builtin.Range.rangeSize 0 ((r*c:Nat):Int) (c:Int):=by rw[sz];simp
     show IsRangeIter _ _ ((0:Int)+((0:Nat):Int)*(c:Int)) ((r:Int)-((0:Nat):Int)) (c:Int);rw[e1,e2];show bu _ rfl
    .let e:b=(s1.heap.push {cls:=.type "range",data:=.fields #[.int 0 D,.int ((r*c:Nat):Int) F,.int (c:Int) G]}).objs.size:=by simpa using hb
     subst e;show J.CK (ax _) (J.hok.fresh (ax _))⟩
end
def Xz {lo c:Int}{n:Nat}{D:Addr}{te:TE}{σ:St}{H:Hp}{R:Hp->Prop}(I:Nat->List V->Hp->Prop)(h0:I 0 [] (upd H D (.lst [])))(hs:∀i ys H,i<n->I i ys H->te (some (.int (lo+i*c))::σ) H λy j=>j D=some (.lst ys)/\ys.length<sizeLine/\iV n i (I (i+1) (ys++[y]) (upd j D (.lst (ys++[y])))))(hd:∀ys H,I n ys H->R H):∃W:Nat->Nat->List V->Hp->Prop,(∃m,W 0 m [] (upd H D (.lst [])))/\
   ∀i m ys H,W i m ys H->((Uo lo c n).stop i H/\R H)\/((Uo lo c n).go i H/\∀x H',(Uo lo c n).Qt i H x H'->nY (some x::σ) H' λb J=>
    if b=true then te (some x::σ) J λy j=>j D=some (.lst ys)/\ys.length<sizeLine/\∃F,F<m/\W (i+1) F (ys++[y]) (upd j D (.lst (ys++[y])))
    else ∃F,F<m/\W (i+1) F ys J):=by
 calc⟨λi m ys H=>m=n-i/\i<=n/\I i ys H,⟨n,qo,fe _,h0⟩,?_⟩;intro i m ys H z;let⟨rfl,hi,p⟩:=z;by_cases G:i<n
 .calc .inr ⟨G,λx H' y=>?_⟩;let⟨e,y⟩:=y;subst e y;show hs i ys H' G p
 .let e:i=n:=qk;subst e;show .inl ⟨ax _,hd ys H p⟩
def tH {K:W.Frag}{a D:Addr}{xs:List V}{te:TE}{σ:St}{H:Hp}{R:Hp->Prop}(j:Nat->List V->Hp->Prop)(h0:j 0 [] (upd H D (.lst [])))(hl:∀i ys H,i<=xs.length->j i ys H->aQ K H a xs)(hs:∀i x ys H,xs[i]?=some x->j i ys H->te (some x::σ) H (JQ xs.length i D ys (j (i+1))))(hd:∀ys H,j xs.length ys H->R H):Ar (Itt K a) D H R (Uh σ nY te):=SJ j h0 hl hs hd
section
variable {X:Cx}{x:Str}{pos:Pos}
def vZ (hg:Gl X x)(hm:∃t,X.mg x=some (.str (S l) t))(hd:(x==("__debug__":Str))=false:=by decide):QE X (.Name x pos) (tC (.str (S l))):=let ⟨t,e⟩:=hm;jg hg e ⟨t,rL⟩ hd
def aaG (hg:Gl X x)(hm:∃t,X.mg x=some (.int i t))(hd:(x==("__debug__":Str))=false:=by decide):QE X (.Name x pos) (tC (.int i)):=let ⟨t,e⟩:=hm;jg hg e ⟨t,rL⟩ hd
def Uq (j:QE X o to)(hi:QE X i ti)(hs:adU X t)(ha:∀v,assign (.Subscript o i pos) X.env v=(do
   let ov <- holding [v] (eval o X.env)
   let iv <- holding [v,ov] (eval i X.env)
   standAt pos
   holding [v,ov,iv] (setItem ov iv v)
   release [v,ov,iv] []):=by intro _;rfl):QG X (.Subscript o i pos) (ahL to ti t):=⟨ahM j.out hi.out hs ha⟩
end
def kZ:bootBuiltins "all"=some (.builtin "all"):=by decide +kernel
def Q6:bootBuiltins "any"=some (.builtin "any"):=by decide +kernel
def Ur {K:W.Frag}(X:K.In h)(G:h.Ns mainGlobals mg)(a:W.nsIn K mainGlobals x=some (some (.str (S l) t))):∃t,mg x=some (.str (S l) t):=⟨t,cn X G a⟩
def Us {K:W.Frag}(X:K.In h)(G:h.Ns mainGlobals mg)(a:W.nsIn K mainGlobals x=some (some (.int i t))):∃t,mg x=some (.int i t):=⟨t,cn X G a⟩
section
variable {X:Cx}
def aeb (K:W.Frag)  (h:X.K=K:=by rfl):Lg X (ahU K):=by subst h;show gA
def lu (K:W.Frag)  (h:X.K=K:=by rfl):Lg X (ahV K):=by subst h;show bI
def aec (K:W.Frag)  (h:X.K=K:=by rfl):SlR X (ahY K):=by subst h;show oN
def RM (K:W.Frag)  (h:X.K=K:=by rfl):jJ X (.builtin "len") (λxs H Q=>∃p ys,xs=[.ref p]/\(bM K H p ys\/aQ K H p ys)/\Q (.int ys.length) H):=by subst h;show b_
def Ut (K:W.Frag)  (h:X.K=K:=by rfl):jJ X (.builtin "isinstance") (afD K):=by subst h;show iG
def JV (K:W.Frag)  (h:X.K=K:=by rfl):Ep X "str.join" (rJoin K):=by subst h;show oR
def Uu {name:Str}{apos cpos:Pos}{T id:String}(K:W.Frag)(J:PlainAttrs T)(slot:Slot T name id)(I:typeOf (.builtin id)=pure (.type "method_descriptor"))(hm:Ep X id r)(O:QE X o to)(ha:QA X (e::es) t)(F:attributeBase o name X.env (eval o X.env)=eval o X.env:=by rfl)(G:((backTo cpos (starEach (e::es) X.env)).all (λx=>!x.1)&&(backToKw cpos (keywordEach [] X.env)).all (λx=>x.1.isSome)
   && decide ((e::es).length+([]:List Keyword).length+(if ([]:List Keyword).isEmpty then 0 else 1)<30))=true:=by rfl) (D:(apos.endLine==cpos.line)=true:=by rfl) (hs:starEach (e::es) X.env=(false,eval e X.env)::starEach es X.env:=by rfl) (j:(backTo cpos (starEach es X.env)).any (·.1)=false:=by rfl) (h:X.K=K:=by rfl):QE X (.Call (.Attribute o name apos) (e::es) [] cpos) (tBM K T r to t):=by subst h;show gG J slot I hm O ha F G D hs j
end
def kj (l:List Nat):List Nat:=l.takeWhile λc=>c != 46
def jC (l:List Nat):List Nat:=(l.reverse.takeWhile λc=>c != 46).reverse
theorem JW:∀{l:List Nat} {i:Nat},l[i]?=some 46->(∀k,k<i->l[k]?≠some 46)->kj l=l.take i
 | [],i,h,_=>by simp at h
 | c::l,0,h,_=>by
  have:c=46:=by simpa using h
  subst this;simp[kj]
 | c::l,i+1,h,hk=>by let F:c≠46:=λe=>hk 0 qk (by simp[e]);let D:=JW (l:=l) (i:=i) (by simpa using h) (λk j=>by have:=hk (k+1) (Nat.succ_lt_succ j);simpa using this);unfold kj at D ⊢;rw[ow (by simpa using F),D,List.take_succ_cons]
def Q7 (h:46∉l):kj l=l:=by
 unfold kj
 induction l with| nil=>rfl| cons c r ih=>have j:c≠46:=λe=>h (by rw[e];show bS);rw[ow (by simpa using j),ih λz=>h (bE _ z)]
def aci (h:46∉l):jC l=l:=by have:=Q7 (l:=l.reverse) (by simpa using h);unfold kj at this;unfold jC;rw[this,List.reverse_reverse]
def aed (h:l[i]?=some 46)(D:∀k,i<k->l[k]?≠some 46):jC l=l.drop (i+1):=by
 let hi:i<l.length:=(ah.mp h).1;let e:kj l.reverse=l.reverse.take (l.length-(i+1)):=by
  refine JW ?_ λk j=>?_
  .rw[mE (Nat.sub_lt_left_of_lt_add qk qk),show l.length-1-(l.length-(i+1))=i by lia];show h
  .rw[mE (by simp[Nat.sub_le_iff_le_add,Nat.lt_sub_iff_add_lt]at *;lia)];show D _ (by simp[Nat.sub_le_iff_le_add,Nat.lt_sub_iff_add_lt]at *;lia)
 unfold kj at e;unfold jC;rw[e,List.take_reverse,List.reverse_reverse,show l.length-(l.length-(i+1))=i+1 by rw[Nat.sub_sub_self (by assumption)]]
def acj (l:List Nat)(n:Nat):iY l none (some (n:Int))=l.take n:=by
 unfold iY;rw[HT.mV];show (l.drop 0).take (min n l.length-0)=_;rw[iP,Nat.sub_zero];by_cases h:n<=l.length;.rw[fS h]
 .rw[kL qk,cz (ax _),cz qk]
def Uv (l:List Nat)(n:Nat):iY l (some (n:Int)) none=l.drop n:=by
 unfold iY;rw[HT.mV];show (l.drop (min n l.length)).take (l.length-min n l.length)=_;rw[cz (by rw[aS];lia)];by_cases h:n<=l.length;.rw[fS h]
 .rw[kL qk,ib (ax _),ib qk]
def afE (l)(i j):Builtin.Str.strSub (S l) i j=S ((l.take j).drop i):=by unfold Builtin.Str.strSub S;congr 1;apply pE.mp;simp[List.drop_take]
section
variable {X:Cx}
def acn (l):(Txt.partition (S l) (S [46])).1=S (kj l):=by
 rcases partition_head (S l) (S [46]) with⟨e,h⟩|⟨i,e,h,D⟩
 .rw[e,Q7 λhm=>?_];let⟨i,hi⟩:=List.mem_iff_getElem?.mp hm;show h i ((iA (S l) 46 i).mpr hi)
 .rw[e,afE,iP,JW (l:=l) ((iA (S l) 46 i).mp h) λk j z=>D k j ((iA (S l) 46 k).mpr z)]
def aaH (l):(Txt.rpartition (S l) (S [46])).2.2=S (jC l):=by
 unfold Txt.rpartition;rcases StrLaws.last_spec (S l) (S [46]) with⟨e,h⟩|⟨i,e,h,D⟩
 .rw[e];show S l=_;rw[aci λhm=>?_];let⟨i,hi⟩:=List.mem_iff_getElem?.mp hm;show h i ((iA (S l) 46 i).mpr hi)
 .rw[e];show Builtin.Str.strSub (S l) (i+1) l.length=_;rw[afE,cz (ax _),aed (l:=l) ((iA (S l) 46 i).mp h) λk j z=>D k j ((iA (S l) 46 k).mpr z)]
def aj2:V->List V->Hp->VK->Prop:=λx vs H Q=>∃l,x=.str (S l)/\vs=[.str (S [46])]/\l.length<=1000/\∀(p:Addr) (b c:Str),H p=none->Q (.ref p) (upd H p (.tup [.str (S (kj l)),.str b,.str c]))
def agb:Ep X "str.partition" aj2:=by
 intro ao s σ H x vs v us Q I D G h;let⟨l,rfl,rfl,hz,q⟩:=h;let⟨t,rfl⟩:=D;let⟨u,rfl,J⟩:=vals1 G;let⟨O,rfl⟩:=J;let hsz:(S l).length<=sizeLine:=ap (aN hz);calc call_meets F.slot_str_partition (typeIs_str _ _ _) F.entry_str_partition (F.args_str_partition_2 _ _) (meets_str_partition (S l) (S [46]) t O rL hsz) ?_;let e:=acn l;let j:=λb c=>q s.heap.objs.size b c (I.hok.fresh (ax _));rw[<-e]at j;unfold Txt.partition at j
 revert j
 cases Builtin.Str.occurrences (S l) (S [46]) 0 (S l).length 1 with| nil=>intro j;calc⟨.ref s.heap.objs.size,_,I.laid (o:=.tup _) (t':=s.toks+1) (λb ob z=>ag _ z) (ax _) ?_,rL,j Str.empty Str.empty⟩;show⟨zsz 3,_,.cons ⟨_,rL⟩ (.cons ⟨_,rL⟩ (.cons ⟨_,rL⟩ .nil)),⟨_,bu _ rL,rL,0,rL⟩⟩| cons i r=>intro j;calc⟨.ref s.heap.objs.size,_,I.laid (o:=.tup _) (t':=s.toks+1+1) (λb ob z=>ag _ z) (ax _) ?_,rL,j (S [46]) (Builtin.Str.strSub (S l) (i+(S [46]).length) (S l).length)⟩;show⟨zsz 3,_,.cons ⟨_,rL⟩ (.cons ⟨_,rL⟩ (.cons ⟨_,rL⟩ .nil)),⟨_,bu _ rL,rL,0,rL⟩⟩
def aic:V->List V->Hp->VK->Prop:=λx vs H Q=>∃l,x=.str (S l)/\vs=[.str (S [46])]/\l.length<=1000/\∀(p:Addr) (a b:Str),H p=none->Q (.ref p) (upd H p (.tup [.str a,.str b,.str (S (jC l))]))
def aee:Ep X "str.rpartition" aic:=by
 intro ao s σ H x vs v us Q I D G h;let⟨l,rfl,rfl,hz,q⟩:=h;let⟨t,rfl⟩:=D;let⟨u,rfl,J⟩:=vals1 G;let⟨O,rfl⟩:=J;let hsz:(S l).length<=sizeLine:=ap (aN hz);calc call_meets F.slot_str_rpartition (typeIs_str _ _ _) F.entry_str_rpartition (F.args_str_rpartition_2 _ _) (meets_str_rpartition (S l) (S [46]) t O rL hsz) ?_;let e:=aaH l;let j:=λb c=>q s.heap.objs.size b c (I.hok.fresh (ax _));rw[<-e]at j;unfold Txt.rpartition at j
 revert j
 cases Builtin.Str.lastOccurrence (S l) (S [46]) 0 (S l).length with| none=>intro j;calc⟨.ref s.heap.objs.size,_,I.laid (o:=.tup _) (t':=s.toks+1) (λb ob z=>ag _ z) (ax _) ?_,rL,j Str.empty Str.empty⟩;show⟨zsz 3,_,.cons ⟨_,rL⟩ (.cons ⟨_,rL⟩ (.cons ⟨_,rL⟩ .nil)),⟨_,bu _ rL,rL,0,rL⟩⟩| some i=>intro j;calc⟨.ref s.heap.objs.size,_,I.laid (o:=.tup _) (t':=s.toks+1+1) (λb ob z=>ag _ z) (ax _) ?_,rL,j (Builtin.Str.strSub (S l) 0 i) (S [46])⟩;show⟨zsz 3,_,.cons ⟨_,rL⟩ (.cons ⟨_,rL⟩ (.cons ⟨_,rL⟩ .nil)),⟨_,bu _ rL,rL,0,rL⟩⟩
end
def aef {X:Cx}{j iter tg:Expr}{ns N2:List Str}{f:St->St}{TP:V->Hp->(St->Prop)->Prop}{ifs:List Expr}{scope:Scope}{wi:TI}(O:X.calm=true)(ok:kh X scope ns N2 f)(hi:PI X tg iter wi)(hg:∀cl C s₀ H₀ fp,QZ (iW X scope cl C (ns++N2) s₀ H₀ fp) tg ns.length TP)(ht:∀cl C s₀ H₀ fp,PTs (iW X scope cl C (ns++N2) s₀ H₀ fp) ifs tt)(G:∀cl C s₀ H₀ fp,PE (iW X scope cl C (ns++N2) s₀ H₀ fp) j te)(hs:∀x,foldedSetIterable iter X.env x=pure x:=by intro _;rfl):PE X (.ListComp j [⟨tg,iter,ifs,0⟩] scope pos) (Fe f ns.length wi TP tt te):=λao s σ H Q I h=>by rw[eval_ListComp];show Fg O ok hi hg ht G hs I h λD C F Y m hn bk _ q=>⟨m,hn,λh' J=>⟨.ref D,F,bk h' J,rL,q⟩⟩
def kE (j:List Nat):Nat->St->St
 | _,[]=>[]
 | i,v::r=>(if j.contains i=true then none else v)::kE j (i+1) r
theorem Q8 (ks):∀(i:Nat) (σ:St),(kE ks i σ).length=σ.length
 | _,[]=>rfl
 | i,_::r=>by rw[kE,dA,dA,Q8 ks (i+1) r]
theorem Q9 (ks):∀(i:Nat) (σ:St) (j:Nat) (v:V),(kE ks i σ)[j]?=some (some v)->ks.contains (i+j)=false/\σ[j]?=some (some v)
 | _,[],j,v,h=>by simp[kE]at h
 | i,x::r,0,v,h=>by
  rw[kE]at h;cases e:ks.contains i with| true=>rw[e]at h;simp at h| false=>rw[e]at h;show⟨by first|rfl|show e,by simpa using h⟩
 | i,x::r,j+1,v,h=>by rw[kE,List.getElem?_cons_succ]at h;let⟨a,b⟩:=Q9 ks (i+1) r j v h;show⟨by rw[show i+(j+1)=i+1+j by lia];show a,by rw[List.getElem?_cons_succ];show b⟩
noncomputable def aie (sc:Scope)(N:List Str)(scope:Scope)(N2:List Str)(j:List Nat):Bool:=scope.kind == .function&&scope.names.all (λy=>y.2 != .cell)&&scope.names.all (λy=>y.2 != .local||scope.names.lookup y.1==some .local) &&
 scope.names.all (λy=>y.2 != .free||sc.names.lookup y.1==some .cell||sc.names.lookup y.1==some .free)&&N2.length==N.length &&
 (List.range N.length).all (λi=>j.contains i||(N2[i]? == N[i]? && (N[i]?.map λy=>scope.names.lookup y != some .local)==some true))
def kh.of {X:Cx}(N2)(ks)(h:aie X.env.scope X.N scope N2 ks=true):kh X scope ns N2 (kE ks 0):=by
 unfold aie at h;simp only[cp,eK,qa,bne_iff_ne,beq_iff_eq,ne_eq]at h;obtain⟨⟨⟨⟨⟨h1,h2⟩,h3⟩,h5⟩,F⟩,h7⟩:=h;refine⟨h1,λy hy=>h2 y hy,λy hy e=>(h3 y hy).resolve_left λz=>z e,λy hy e=>?_,Q8 ks 0,F,λσ i y v e1 e2=>?_⟩
 .rcases h5 y hy with(z|z)|z;.show absurd e z
  .show .inl z
  .show .inr z
 .let⟨a,b⟩:=Q9 ks 0 σ i v e2;rw[Nat.zero_add]at a;let hi:i<X.N.length:=by rw[<-F];show(ah.mp e1).1
  rcases h7 i (fE.mpr hi) with z|⟨D,j⟩;.rw[a]at z;cases z
  .rw[<-D,e1]at j;rw[D]at e1;show⟨e1,b,by simpa using j⟩
def agc {X:Cx}{scope:Scope}{N:List Str}(K:W.Frag)(O:X.calm=true)(F:N.Nodup)(h0:N[0]?=some x)(h1:N[1]?=some y)(hx:scope.names.lookup x=some .local)(hy:scope.names.lookup y=some .local)(G:X.K=K:=by rfl):QZ (iW X scope cl C N s₀ H₀ fp) (.Tuple [.Name x px,.Name y py] k pos) 2 (λv H Q=>∃a p q,v=.ref a/\aQ K H a [p,q]/\Q [some p,some q]):=by
 subst G;intro ao s pre rest H v u Q hp I r q;let⟨a,p,j,rfl,J,q⟩:=q;obtain⟨D,p1,rfl⟩:∃D p1,pre=[D,p1]:=by
  match pre,hp with| [D,p1],_=>show⟨D,p1,rL⟩
 let P:PG (iW X scope cl C N s₀ H₀ fp) (.Tuple [.Name x px,.Name y py] k pos) (aak X.K 2 (CJ (vY 0) (CJ (vY 1) aaj))):=Tw (X:=iW X scope cl C N s₀ H₀ fp) O (vB (vA (i:=0) F h0 (.inl (lookup_relabel_local hx)) (.inr (lookup_relabel_local hx))) (vB (vA (i:=1) F h1 (.inl (lookup_relabel_local hy)) (.inr (lookup_relabel_local hy))) N7));refine cP (P ao s _ H (.ref a) u (λσ' H'=>H'=H/\σ'=some p::some j::rest) I r
  ⟨a,[p,j],rL,J,rL,p,[j],rL,j,[],rL,rL,rL,rL⟩) λ_ s' ⟨σ',H',Y,e1,e2⟩=>?_
 subst e1 e2;show⟨[some p,some j],rL,Y,q⟩
def qU {X:Cx}{scope:Scope}{N:List Str}(K:W.Frag)(Y:X.calm=true)(G:N.Nodup)(h0:N[0]?=some x)(h1:N[1]?=some y)(h2:N[2]?=some z)(hx:scope.names.lookup x=some .local)(hy:scope.names.lookup y=some .local)(hz:scope.names.lookup z=some .local)(J:X.K=K:=by rfl):QZ (iW X scope cl C N s₀ H₀ fp) (.Tuple [.Name x px,.Name y py,.Name z pz] k pos) 3 (λv H Q=>∃a p q r,v=.ref a/\aQ K H a [p,q,r]/\Q [some p,some q,some r]):=by
 subst J;intro ao s pre rest H v u Q hp I r q;let⟨a,p,D,j,rfl,O,q⟩:=q;obtain⟨F,p1,p2,rfl⟩:∃F p1 p2,pre=[F,p1,p2]:=by
  match pre,hp with| [F,p1,p2],_=>show⟨F,p1,p2,rL⟩
 let P:PG (iW X scope cl C N s₀ H₀ fp) (.Tuple [.Name x px,.Name y py,.Name z pz] k pos) (aak X.K 3 (CJ (vY 0) (CJ (vY 1) (CJ (vY 2) aaj)))):=Tw (X:=iW X scope cl C N s₀ H₀ fp) Y (vB (vA (i:=0) G h0 (.inl (lookup_relabel_local hx)) (.inr (lookup_relabel_local hx))) (vB (vA (i:=1) G h1 (.inl (lookup_relabel_local hy)) (.inr (lookup_relabel_local hy))) (vB (vA (i:=2) G h2 (.inl (lookup_relabel_local hz)) (.inr (lookup_relabel_local hz))) N7)));refine cP (P ao s _ H (.ref a) u (λσ' H'=>H'=H/\σ'=some p::some D::some j::rest) I r
  ⟨a,[p,D,j],rL,O,rL,p,[D,j],rL,D,[j],rL,j,[],rL,rL,rL,rL⟩) λ_ s' ⟨σ',H',Z,e1,e2⟩=>?_
 subst e1 e2;show⟨[some p,some D,some j],rL,Z,q⟩
def lY {X:Cx}{j iter tg:Expr}{ns N2:List Str}{f:St->St}{TP:V->Hp->(St->Prop)->Prop}{ifs:List Expr}{scope:Scope}{wi:TI}(F:X.calm=true)(ok:kh X scope ns N2 f)(hi:QI X tg iter wi)(hg:∀cl C s₀ H₀ fp,QZ (iW X scope cl C (ns++N2) s₀ H₀ fp) tg ns.length TP)(ht:∀cl C s₀ H₀ fp,QTs (iW X scope cl C (ns++N2) s₀ H₀ fp) ifs tt)(D:∀cl C s₀ H₀ fp,QE (iW X scope cl C (ns++N2) s₀ H₀ fp) j te)(hs:∀x,foldedSetIterable iter X.env x=pure x:=by intro _;rfl):QE X (.ListComp j [⟨tg,iter,ifs,0⟩] scope pos) (Fe f ns.length wi TP tt te):=⟨aef F ok hi.out hg (λcl C s₀ H₀ fp=>(ht cl C s₀ H₀ fp).out) (λcl C s₀ H₀ fp=>(D cl C s₀ H₀ fp).out) hs⟩
def Lz (n i:Nat)(D:Addr)(TP:V->Hp->(St->Prop)->Prop)(f:St->St)(σ:St)(tt:TT)(te:TE)(x:V)(H:Hp)(ys:List V)(P:List V->Hp->Prop):Prop:=YJ TP f σ tt te x H (JQ n i D ys P) λj=>iV n i (P ys j)
def LC {K:W.Frag}{a:Addr}{f:St->St}{σ:St}{tt:TT}{te:TE}:=@SJ (λH=>aQ K H a) (YJ (λv _ Q=>Q [some v]) f σ tt te)
def aaI {l:List Nat}{f:St->St}{tt:TT}{D:Addr}{te:TE}{σ:St}{H:Hp}{R:Hp->Prop}(j:Nat->List V->Hp->Prop)(h0:j 0 [] (upd H D (.lst [])))(hs:∀i c ys H,l[i]?=some c->j i ys H->Lz l.length i D (λv _ Q=>Q [some v]) f σ tt te (.str (S [c])) H ys (j (i+1)))(hd:∀ys H,j l.length ys H->R H):Ar (Its l) D H R (YJ (λv _ Q=>Q [some v]) f σ tt te):=Ug l.length j h0 (λi ys H h p=>⟨h,λx H' y=>by let⟨rfl,c,F,rfl⟩:=y;show hs i c ys _ F p⟩) λys H p=>⟨ax _,hd ys H p⟩
noncomputable def lR {K KT:W.Frag}{a:Addr}{f:St->St}{σ:St}{tt:TT}{te:TE}:=@SJ (λH=>aQ K H a) (YJ (λv H Q=>∃a p q r,v=.ref a/\aQ KT H a [p,q,r]/\Q [some p,some q,some r]) f σ tt te)
def afF (h:te ([some x]++f σ) H λy j=>j D=some (.lst ys)/\ys.length<sizeLine/\iV n i (P (ys++[y]) (upd j D (.lst (ys++[y]))))):Lz n i D (λv _ Q=>Q [some v]) f σ nY te x H ys P:=by show (if true=true then (te ([some x]++f σ) H λy j=>j D=some (.lst ys)/\ys.length<sizeLine/\iV n i (P (ys++[y]) (upd j D (.lst (ys++[y]))))) else iV n i (P ys H));rw[if_pos rfl];show h
def aj3 {KT:W.Frag}{n i:Nat}{p q:V}{f:St->St}{x:V}{ys:List V}{P:List V->Hp->Prop}(hx:x=.ref a)(F:aQ KT H a [p,q])(h:te ([some p,some q]++f σ) H λy j=>j D=some (.lst ys)/\ys.length<sizeLine/\iV n i (P (ys++[y]) (upd j D (.lst (ys++[y]))))):Lz n i D (λv H Q=>∃a p q,v=.ref a/\aQ KT H a [p,q]/\Q [some p,some q]) f σ nY te x H ys P:=by calc⟨a,p,q,hx,F,?_⟩;show (if true=true then (te ([some p,some q]++f σ) H λy j=>j D=some (.lst ys)/\ys.length<sizeLine/\iV n i (P (ys++[y]) (upd j D (.lst (ys++[y]))))) else iV n i (P ys H));rw[if_pos rfl];show h
def yc {KT:W.Frag}{n i:Nat}{p q r:V}{f:St->St}{x:V}{ys:List V}{P:List V->Hp->Prop}(hx:x=.ref a)(F:aQ KT H a [p,q,r])(h:te ([some p,some q,some r]++f σ) H λy j=>j D=some (.lst ys)/\ys.length<sizeLine/\iV n i (P (ys++[y]) (upd j D (.lst (ys++[y]))))):Lz n i D (λv H Q=>∃a p q r,v=.ref a/\aQ KT H a [p,q,r]/\Q [some p,some q,some r]) f σ nY te x H ys P:=by calc⟨a,p,q,r,hx,F,?_⟩;show (if true=true then (te ([some p,some q,some r]++f σ) H λy j=>j D=some (.lst ys)/\ys.length<sizeLine/\iV n i (P (ys++[y]) (upd j D (.lst (ys++[y]))))) else iV n i (P ys H));rw[if_pos rfl];show h
section
variable {X:Cx}
def agd:V->List V->Hp->VK->Prop:=λx vs H Q=>∃(l:Addr) (us:AA) (w:List Nat),x=.ref l/\vs=[.str (S w)]/\H l=some (.lst (Ts us))/\w∈us/\us.length<=1000/\Q .non (upd H l (.lst (Ts (us.erase w))))
def strEq (w:List Nat)(u:Value):Bool:=match u with| .str z _=>z.cps.toList==w| _=>false
def aco {us:AA}:us.erase w=us.eraseIdx (us.idxOf w):=by
 induction us with
 | nil=>rfl
 | cons a r ih=>
  by_cases h:a=w;.subst h;simp
  .rw[List.erase_cons_tail (by simpa using h),List.idxOf_cons,cond_eq_ite,if_neg (by simpa using h),lS,ih]
def wX:MtM X "list.remove" agd:=by
 intro ao s σ H x vs v us Q I J Y h;let⟨l,ls,w,rfl,rfl,G,hw,hz,q⟩:=h;cases J;let⟨u,rfl,Z⟩:=Y.one;let⟨t,rfl⟩:=Z;let⟨z,its,n,r,hl,e⟩:=I.CZ G;let dR:its.length=ls.length:=by rw[<-hl,aa]
 let hj:ls.idxOf w<ls.length:=List.idxOf_lt_length_of_mem hw;let get:∀(m:Nat) (hm:m<its.toArray.size),∃(tk:Tok) (j:m<ls.length),its.toArray[m]=.str (S ls[m]) tk:=λm hm=>by
  let j:m<ls.length:=by simp at hm;simp_all
  let⟨u1,e1,s1⟩:=r.get (i:=m) (x:=.str (S ls[m])) (by simp[j]);let⟨tk,rfl⟩:=s1;calc⟨tk,j,?_⟩;rw[ac hm]at e1;simpa using e1
 refine call_meets F.slot_list_remove ⟨_,e,rL⟩ F.entry_list_remove (F.args_list_remove_2 _ _) (PySem.MeetsSeq.list_remove l its.toArray n (.str (S w) t) (strEq w) (λy hy=>?_) (ls.idxOf w) (by rw[bz];simp_all) ?_ (λm hm D=>?_) (by rw[bz,dR];show ap (aN hz))) ⟨e,?_⟩
 .let⟨m,hm,rfl⟩:=Array.mem_iff_getElem.mp hy;let⟨tk,_,e1⟩:=get m hm;rw[e1];show PySem.SeqRoads2.EqGives.str _ _ _ _
 .let⟨tk,j,e1⟩:=get (ls.idxOf w) (by rw[bz];lia);rw[e1];show (ls[ls.idxOf w]==w)=true;rw[List.getElem_idxOf];simp
 .let⟨tk,j,e1⟩:=get m hm;rw[e1];show (ls[m]==w)=false;have:=List.not_of_lt_findIdx (p:=λa=>a==w) (xs:=ls) (show m<ls.findIdx (λa=>a==w) from D);simpa using this
 .refine⟨.non,_,I.ad1 (its':=its.eraseIdx (ls.idxOf w)) G e ?_ ?_ ?_,rL,q⟩
  .rw[Array.eraseIdxIfInBounds,dif_pos (by rw[bz];lia)];simp
  .rw[aco];let hv:=Vals.eraseIdx (ls.idxOf w) r;let O:∀(xs:AA) (i:Nat),Ts (xs.eraseIdx i)=(Ts xs).eraseIdx i:=by
    intro xs
    induction xs with
    | nil=>intro i;rfl
    | cons a r ih=>
     intro i;cases i with| zero=>rfl| succ i=>rw[lS,Ts,cq,Ts,cq,lS];congr 1;show ih i
   rw[O];show hv
  .rw[aa];show b8 (List.length_erase_le ..) (ap (aN hz))
def aif (K:W.Frag):List V->Hp->VK->Prop:=λxs H Q=>∃(a:Addr) (ws:AA),xs=[.ref a]/\bM K H a (Ts ws)/\ws.length<64/\∀(p:Addr) (j:AA),H p=none->j.Perm ws->j.Pairwise (λa b=>decide (b<a)=false)->Q (.ref p) (upd H p (.lst (Ts j)))
def Fl:jJ X (.builtin "sorted") (aif X.K):=by
 intro ao s σ H xs us Q I r h;let⟨a,ws,rfl,J,G,q⟩:=h;let⟨u,rfl,O⟩:=vals1 r;cases O;let⟨its,D,pl,_⟩:=I.list J;let Z:its.length=ws.length:=by have:=D.length;simpa using this.symm
 calc sorted_strs pl.isList (Ij D) (by simp_all) λout j a1 a2 a3=>?_;let⟨e,Y⟩:=sortedAll_at s.heap its out;let F:(j.map λy=>y.cps.toList).Perm ws:=by have:=a2.map λy:Str=>y.cps.toList;rw[gc]at this;let e:((λy:Str=>y.cps.toList) ∘ S)=id:=rfl;rw[e,kU]at this;show this
 let hv:Vals (Ts (j.map λy=>y.cps.toList)) out.toList:=by
  have:=ux a1;let es:(j.map V.str)=Ts (j.map λy=>y.cps.toList):=by rw[Ts,gc];show fR λy _=>by simp[oC,ah7]
  rw[es]at this;show this
 let hl:(Ts (j.map λy=>y.cps.toList)).length<=sizeLine:=by rw[aa,F.length_eq];show ap (aN qk)
 refine⟨.ref (s.heap.objs.size+1),_,I.laid (o:=.lst _) (t':=s.toks) (λb o z=>sortedAll_old z) (kS _) ⟨hl,out.toList,e,hv,by rw[Array.toArray_toList];show Y⟩,rL,q _ _ (I.hok.fresh (kS _)) F (Fj j a3)⟩
def ak9 (t:TS):TS:=λD σ H=>∃I:St->Hp->Prop,t {D with nx:=I} σ H/\∀σ' H',I σ' H'->D.nx σ' H'
def f9 {st:Stmt}(h:QS X st t):QS X st (ak9 t):=⟨λao s σ H D I ⟨J,a,b⟩=>by
 calc cP (h.out ao s σ H _ I a) λf s' q=>?_;cases f with
 | next=>let⟨σ7,j,F,G⟩:=q;show⟨σ7,j,F,b _ _ G⟩
 | cont=>show q
 | brk=>show q
 | ret v=>show q⟩
end
end L2
namespace L2
open PySem PySem.Spec PyProof.Rows PySem.W
section
variable {prog:Program}{w:World}{A:Around}{E:AB}{s:Shared}
variable {X:Cx}
open Classical in
theorem YS (d:Dt):∀es:List Dt,((oV es).any λy=>PyData.eqv y (toP d))=decide (d∈es)
 | []=>by simp[oV]
 | e::es=>by
  rw[oV,kR,YS d es,Oe];by_cases z:e=d;.subst z;simp
  .let z':¬d=e:=λy=>z y.symm
   simp[z,z']
def aii {a b:Addr}{I ob:Obj}{na nb:Nat}{x1 j G D:Nat}{Y t2 t3 Z:Tok}{r1 r2:List Value}{Q:AB}(ha:s.heap.get? a=some I)(ca:I.cls=.type "tuple")(da:I.data=.seq (Value.int x1 Y::Value.int j t2::r1).toArray na)(hb:s.heap.get? b=some ob)(cb:ob.cls=.type "tuple")(db:ob.data=.seq (Value.int G t3::Value.int D Z::r2).toArray nb)(l1:j<1000)(l2:D<1000)(hu:A.units<cLine)(O:x1*1000+j≠G*1000+D)(q:Q (.bool (decide (x1*1000+j<G*1000+D))) s):wpAny (model prog w) A (compareOp .Lt (.ref a) (.ref b)) Q E s:=by
 let Ta:s.TypeIs (.ref a) "tuple":=⟨I,ha,ca⟩
 let Tb:s.TypeIs (.ref b) "tuple":=⟨ob,hb,cb⟩
 show wpAny _ _ (richCompare .Lt (.ref a) (.ref b)) Q E s;calc wpAny_richCompare_same_room (op:=.Lt) (T:="tuple") Ta Tb ny (hV ny Ta F.entry_tuple_lt ?_ (F.args_tuple_lt_2 _ _)) hu;show wpAny _ _ (isInstance (.ref b) (.type "tuple") >>= _) _ _ s;calc ae (wpAny_isInstance Tb isSubtype_tuple_tuple ?_);simp only[mn,f_,if_false];calc ae (lp ha da (ae (lp hb db (ae ?_))));rw[show (Value.int (x1:Int) Y::Value.int (j:Int) t2::r1).toArray.toList.zip (Value.int (G:Int) t3::Value.int (D:Int) Z::r2).toArray.toList=(Value.int (x1:Int) Y,Value.int (G:Int) t3)::(Value.int (j:Int) t2,Value.int (D:Int) Z)::r1.zip r2 from rfl];rw[gI];calc ae ?_;dsimp only;calc ae (jv _ _ _ _ prog w _ _ ?_);by_cases ex:x1=G
 .subst ex;simp only[beq_self_eq_true,mn,f_,if_false];calc aI ?_;dsimp only;rw[gI];calc ae ?_;dsimp only;calc ae (jv _ _ _ _ prog w _ _ ?_);let J:((j:Int)==(D:Int))=false:=by
   apply beq_eq_false_iff_ne.mpr;intro z;show O qk
  simp only[J,Bool.not_false,if_true];calc ae (oQ (ae (lt_int ?_)));calc ae (aI (aI (aI (aI ⟨_,rL,qo,?_⟩))));rw[show decide ((j:Int)<(D:Int))=decide (x1*1000+j<x1*1000+D) by simp];show q
 .let J:((x1:Int)==(G:Int))=false:=by
   apply beq_eq_false_iff_ne.mpr;intro z;show ex qk
  simp only[J,Bool.not_false,if_true];calc ae (oQ (ae (lt_int ?_)));calc ae (aI (aI (aI (aI ⟨_,rL,qo,?_⟩))));rw[show decide ((x1:Int)<(G:Int))=decide (x1*1000+j<G*1000+D) by
    by_cases z:x1<G;.rw[ai (Iff.mpr nl z),ai qk]
    .rw[af (by simp[*]),af qk]]
  show q
def ak_:R2:=λx y H Q=>∃(a b:Addr) (x1 D F j:Nat) (r1 r2:List V),x=.ref a/\y=.ref b/\H a=some (.tup (.int x1 :: .int D::r1))/\H b=some (.tup (.int F :: .int j::r2))/\D<1000/\j<1000/\x1*1000+D≠F*1000+j/\
 Q (.bl (decide (x1*1000+D<F*1000+j))) H
def aij (hu:X.A.units<cLine):ji X (compareOp .Lt) ak_:=by
 intro ao s σ H x y v u Q I Z ry h;let⟨a,b,x1,y1,x2,y2,r1,r2,rfl,rfl,Y,eb,l1,l2,D,q⟩:=h;cases Z;cases ry;let⟨_,tv,O,o,ho,hc,n,hd⟩:=I.hok _ _ Y;let⟨_,tv',J,o',G,j,n',F⟩:=I.hok _ _ eb;cases O with
 | cons q1 rr=>
  cases rr with
  | cons q2 rr=>
   cases J with
   | cons q3 rr'=>
    cases rr' with| cons q4 rr'=>let⟨t1,rfl⟩:=q1;let⟨t2,rfl⟩:=q2;let⟨t3,rfl⟩:=q3;let⟨t4,rfl⟩:=q4;show aii ho hc hd G j F l1 l2 hu D ⟨.bl _,H,I,rL,q⟩
def aik:List V->Hp->VK->Prop:=λxs H Q=>∃l:List Nat,xs=[.str (S l)]/\l.length<=1000/\∀p,H p=none->Q (.ref p) (upd H p (.lst (Ts (l.map λc=>[c]))))
theorem Q_:∀(l:List Nat) (us:List Value),us.length=l.length->(∀(i c:Nat),l[i]?=some c->∃t,us[i]?=some (.str (S [c]) t))->Vals (Ts (l.map λc=>[c])) us
 | [],[],_,_=>.nil
 | [],_::_,h,_=>by simp at h
 | _::_,[],h,_=>by simp at h
 | c::l,u::us,h,k=>by let⟨t,e⟩:=k 0 c rfl;let e:u=.str (S [c]) t:=bq e;show .cons ⟨t,e⟩ (Q_ l us (by simpa using h) λi d hd=>k (i+1) d hd)
def nq (F:X.calm=true):jJ X (.type "list") aik:=by
 intro ao s σ H xs us Q I r h;let⟨l,rfl,hl,q⟩:=h;let⟨u,rfl,J⟩:=vals1 r;let⟨t,rfl⟩:=J;let hz:l.length<=sizeLine:=ap (aN hl);calc call_list_str (I.ok.hd F) (S l) t (λh' tk j Y O G D=>?_) (by show l.toArray.size<=_;simpa using hz);let hsz:j.size=l.length:=by rw[D.1];show l.toArray.size=_;simp
 calc⟨.ref s.heap.objs.size,_,I.laid (o:=.lst (Ts (l.map λc=>[c]))) (t':=tk) O (ax _) ⟨by rw[aa,aa];show hz,j.toList,Y,?_,by simpa using G⟩,rL,q _ (I.hok.fresh (ax _))⟩;calc Q_ l j.toList (by rw[fN];show hsz) λi c F=>?_;let hi:i<j.size:=by rw[hsz];show(ah.mp F).1
 let⟨c2,Z,e1,e2⟩:=D.2 i j[i] (by simp[hi]);let e1:l.toArray[i]?=some c2:=e1;rw[List.getElem?_toArray,F]at e1;let e1:=bq e1;show⟨Z,by rw[Array.getElem?_toList,oS hi,e2,e1];rfl⟩
end
end L2
namespace L2
open PySem PySem.Spec PyProof.Rows
def agf {X:Cx}{ix:Nat}{F:Str}{Z j:Pos}{G iter tg:Expr}{ns N2:List Str}{f:St->St}{TP:V->Hp->(St->Prop)->Prop}{ifs:List Expr}{scope:Scope}{pos:Pos}{wi:TI}{tt:TT}{te:TE}(hN:X.N.Nodup)(hxi:X.N[ix]?=some F)(hxl:Loc X.env.scope F)(hc:X.calm=true)(ok:kh X scope ns N2 f)(hi:PI X tg iter wi)(hg:∀cl C s₀ H₀ fp,QZ (iW X scope cl C (ns++N2) s₀ H₀ fp) tg ns.length TP)(ht:∀cl C s₀ H₀ fp,PTs (iW X scope cl C (ns++N2) s₀ H₀ fp) ifs tt)(he:∀cl C s₀ H₀ fp,PE (iW X scope cl C (ns++N2) s₀ H₀ fp) G te)(hs:∀x,foldedSetIterable iter X.env x=pure x:=by intro _;rfl)(Y:swapsWith (.ListComp G [⟨tg,iter,ifs,0⟩] scope pos) (some (.Name F Z)) j.line X.env=pure true:=by rfl)(hf:X.fn F=true\/X.env.scope.names.lookup F=some .local:=by first|show .inl rfl|show .inr rfl|assumption):PS X (.Assign [.Name F Z] (.ListComp G [⟨tg,iter,ifs,0⟩] scope pos) j) (aal (Fe f ns.length wi TP tt te) (vY ix)):=λao s σ H De I h=>by
 rw[exec_Assign_Name_used _ _ _ _ Y];calc ae (mm (ae (ae ?_)));calc cP (Q:=λ_ s'=>∃σ' H',aX X ao σ' H' s'/\De.nx σ' H') ?_ λ_ s' hq=>aI (aI hq);calc Fg (use:=some (assign (.Name F Z) X.env)) hc ok hi hg ht he hs I h λD C H4 s5 m hn bk J qn=>?_;calc wpAny_assign_Name (Qn (bk s5.heap (Heap.SameBut.refl _ _)) hN hxi hxl (show cW (.ref D) (.ref D) from rL) (λs6 I6 ⟨a,O,ha⟩ _=>?_) hf);let nCa:C≠a:=by
  rcases ha with z|z;.rw[z];show J.2.1
  .show λy=>J.2.2.2.2.1 _ _ z y.symm
 let⟨o,es,ep,e1,e2⟩:=hn;refine⟨m,⟨o,es,ep,(O.2 C nCa).trans e1,e2⟩,λh' sb=>⟨_,H4,I6.turned (t':=s6.toks) (λb o hb e=>(sb.2 b hb).trans e) J.1 J.2.1 J.2.2.2.1 J.2.2.2.2.1 J.2.2.2.2.2,qn⟩⟩
def YT {X:Cx}{ix:Nat}{F:Str}{O j:Pos}{D iter tg:Expr}{ns N2:List Str}{f:St->St}{TP:V->Hp->(St->Prop)->Prop}{ifs:List Expr}{scope:Scope}{pos:Pos}{wi:TI}{tt:TT}{te:TE}(Y:X.N.Nodup)(I:X.N[ix]?=some F)(J:Loc X.env.scope F)(hc:X.calm=true)(ok:kh X scope ns N2 f)(hi:QI X tg iter wi)(hg:∀cl C s₀ H₀ fp,QZ (iW X scope cl C (ns++N2) s₀ H₀ fp) tg ns.length TP)(ht:∀cl C s₀ H₀ fp,QTs (iW X scope cl C (ns++N2) s₀ H₀ fp) ifs tt)(Z:∀cl C s₀ H₀ fp,QE (iW X scope cl C (ns++N2) s₀ H₀ fp) D te)(hs:∀x,foldedSetIterable iter X.env x=pure x:=by intro _;rfl)(G:swapsWith (.ListComp D [⟨tg,iter,ifs,0⟩] scope pos) (some (.Name F O)) j.line X.env=pure true:=by rfl)(hf:X.fn F=true\/X.env.scope.names.lookup F=some .local:=by first|show .inl rfl|show .inr rfl|assumption):QS X (.Assign [.Name F O] (.ListComp D [⟨tg,iter,ifs,0⟩] scope pos) j) (aal (Fe f ns.length wi TP tt te) (vY ix)):=⟨agf Y I J hc ok hi.out hg (λa b c d e=>(ht a b c d e).out) (λa b c d e=>(Z a b c d e).out) hs G hf⟩
section
variable {X:Cx}
def agg:V->List V->Hp->VK->Prop:=λx vs H Q=>∃l w,x=.str (S l)/\vs=[.str (S w)]/\∀n:Nat,Q (.int n) H
def acp:Ep X "str.count" agg:=by intro ao s σ H x vs v us Q I j D h;let⟨l,w,rfl,rfl,q⟩:=h;let⟨t,rfl⟩:=j;let⟨u,rfl,G⟩:=D.one;let⟨t',rfl⟩:=G;calc call_gives F.slot_str_count (typeIs_str s _ t) F.entry_str_count (F.args_str_count_2 _ _) (gives_str_count (S l) (S w) t t') ?_;show EP X ao σ Q _ _;show⟨.int (Builtin.Str.occurrences (S l) (S w) 0 (S l).length ((S l).length+1)).length,H,I.tok _,⟨s.toks,rL⟩,q _⟩
end
end L2
namespace L2
open PySem PySem.Spec PyProof.Rows PySem.W
open AutoSeq1 (wpAny_loadPart')
section
variable {X:Cx}{ao:AF}{σ:St}{H:Hp}{s:Shared}{h':Heap}
def aX.Oh {t':Nat}{fp:List Addr}(I:aX X ao σ H s)(k:∀b o,b∉fp->s.heap.get? b=some o->h'.get? b=some o)(F:∀b∈fp,xG X ao H b):aX X ao σ H {s with heap:=h',toks:=t' }:=by
 let D:∀b u,H b=some u->b∉fp:=λb u e z=>by rw[(F b z).1]at e;cases e
 refine I.step (g':=s.gens) (d':=s.drawn) (ch:=fp) (λb hb=>?_) (λb o _ _ j e _=>k b o j e) (λb o _ _ j e _=>⟨o.slots,k b o j e⟩) (λ_ _ _ _ n=>n)
  (λb o j e=>⟨o,k b o j e⟩) (λ_ _ e=>e) (λ_ _ _ e=>e) (λb ps e=>⟨#[],by rw[e];simp⟩) (λm hm=>?_) (λb u e=>?_) I.bare
 .let⟨f0,f1,f2,f3,f4,f5⟩:=F b hb;show⟨f3,f1,f4,f5⟩
 .let⟨o,es,ep,G,r⟩:=hm;show⟨o,es,ep,k _ o (λz=>(F _ z).2.1 rL) G,r⟩
 .refine(I.hok b u e).stay (λc v j q=>k c v ?_ q) (λ_ q=>q) λ_ _ q=>q
  rcases j with z|z;.rw[z];show D b u e
  .show D c _ z
def aX.pair {e it:Addr}{i tk:Nat}{x:V}{u:Value}{h1 h2:Heap}(I:aX X ao σ H s)(F:∀b∈[e,it],xG X ao H b)(le:e<s.heap.objs.size)(Y:it<s.heap.objs.size)(O:cW x u)(Z:h1.get? s.heap.objs.size=some {cls:=.type "tuple",data:=.seq #[.int i tk,u]})(hk:∀b o,b≠e->b≠it->s.heap.get? b=some o->h1.get? b=some o)(hs:Heap.SameBut e h1 h2):aX X ao σ (upd H s.heap.objs.size (.tup [.int i,x])) {s with heap:=h2,toks:=tk+1}/\∀b∈[e,it],upd H s.heap.objs.size (.tup [.int i,x]) b=none:=by
 let I2:aX X ao σ (upd H s.heap.objs.size (.tup [.int i,x])) {s with heap:=s.heap.push {cls:=.type "tuple",data:=.seq #[.int i tk,u]},toks:=tk+1}:=I.laid (λb v e=>ag _ e) (ax _) ⟨zsz 2,[.int i tk,u],.cons ⟨tk,rL⟩ (.cons O .nil),⟨_,bu _ rL,rL,_,rL⟩⟩
 let ne:∀b∈[e,it],b≠s.heap.objs.size:=λb hb=>by
  rcases bX.mp hb with z|z;.rw[z];show cv le
  .rw[bc.mp z];show cv Y
 let fr:∀b∈[e,it],upd H s.heap.objs.size (.tup [.int i,x]) b=none:=λb hb=>by rw[bw (ne b hb)];show(F b hb).1
 let J:=aX.Oh (s:={s with heap:=s.heap.push {cls:=.type "tuple",data:=.seq #[.int i tk,u]},toks:=tk+1}) (h':=h2) (fp:=[e,it]) (t':=tk+1) I2 (λb o hb g=>?_) λb hb=>?_
 .show⟨J,fr⟩
 .let j:b≠e:=λz=>hb (by simp[z])
  let D:b≠it:=λz=>hb (by simp[z]);rw[hs.2 b j];rcases Heap.get?_push_cases g with⟨z1,G⟩|z
  .rw[z1,G];show Z
  .show hk b o j D z
 .let⟨f0,f1,f2,f3,f4,f5⟩:=F b hb;show⟨fr b hb,f1,f2,f3,f4,f5⟩
end
def Uw (l:List Nat):It:=⟨λi _=>i<l.length,λi H v H'=>∃T c,H T=none/\v=.ref T/\l[i]?=some c/\H'=upd H T (.tup [.int i,.str (S [c])]),λi _=>l.length<=i⟩
section
variable {prog:Program}{w:World}{A:Around}{E:AB}{s:Shared}
def XC {it:Addr}{fp:List Addr}{n:Nat}{I:Nat->Value->Prop}{St:Nat->Heap->Prop}(D:Draws prog w A it fp n I St)(k:Nat):Draws prog w A it fp (k+n) (λj v=>∃i,j=k+i/\I i v) (λj h=>∃i,j=k+i/\St i h) where
 live:=λj h ⟨i,_,st⟩=>D.live i h st
 frame:=λj h h' ⟨i,e,st⟩ O=>⟨i,e,D.frame i h h' st O⟩
 item:=λj s Q E Z ⟨i,e,st⟩ J=>by subst e;show D.item i s Q E (by simp_all) st λv h' tk hp G F=>J v h' tk ⟨i,rL,hp⟩ ⟨i+1,rL,G⟩ F
 done:=λs Q E ⟨i,e,st⟩ Y=>by
  have:i=n:=by lia
  subst this;show D.done s Q E st Y
end
def aaJ (l:List Nat)(k:Nat):It:=⟨λi _=>i<l.length,λi H v H'=>∃T c,H T=none/\v=.ref T/\l[i]?=some c/\H'=upd H T (.tup [.int ((k+i:Nat):Int),.str (S [c])]),λi _=>l.length<=i⟩
def aaK {P:Program}{w:World}{K:W.Frag}{elts:List Expr}{x1}{pos:Pos}{ty:String}(hty:ty="str_ascii_iterator"\/ty="str_iterator")(l:List Nat)(k:Nat)(t:Tok)(it e:Addr):Turn P w K (.Tuple elts x1 pos) (aaJ l k) [e,it] e (λi h=>e≠it/\i<=l.length/\(∃j,IsEnum h e it ((k+i:Nat):Int) j)/\h.IsStrIter it ty (S l) t i) where
 mem:=by simp
 obj:=λi h st b hb=>by
  obtain⟨_,_,⟨j,G⟩,o,Y,_,hd⟩:=st;rcases bX.mp hb with z|z;.show⟨_,by rw[z];show G,λv y=>by cases y⟩
  .show⟨o,by rw[bc.mp z];show Y,λv y=>by rw[hd]at y;cases y⟩
 keep:=λi h h' st k=>by obtain⟨n,le,⟨j,G⟩,o,Y,r⟩:=st;show⟨n,le,⟨j,k e qo _ G⟩,o,k it qo o Y,r⟩
 item:=by
  intro X hP hw hK hc i ao s σ H E I hf st hg;subst hP hw hK;obtain⟨ne,le,⟨j,G⟩,hs⟩:=st;let J:X.A.in1.handled=none:=by simp[I.ok.hd hc]
  let hg':k+i<k+(S l).cps.size:=Nat.add_lt_add_left hg k;let Z:∀(D:Draws X.prog X.w X.A.in1 it [it] (S l).cps.size (λi v=>∃c u,(S l).cps[i]?=some c/\v=.str ⟨#[c]⟩ u) (λi h=>h.IsStrIter it ty (S l) t i)),
    wpAny (model X.prog X.w) X.A (pyNext (.ref e)) (λr s1=>∃u,r=some u/\wpAny (model X.prog X.w) X.A (letOwnedTupleGo (.Tuple elts x1 pos) (.ref e) u) (λ_ s2=>∃x H',aX X ao σ H' s2/\cW x u/\(aaJ l k).Qt i H x H'/\(e≠it/\i+1<=l.length/\(∃j,IsEnum s2.heap e it ((k+(i+1):Nat):Int) j)/\s2.heap.IsStrIter it ty (S l) t (i+1))/\∀b∈[e,it],H' b=none) E s1) E s:=by
   intro D;calc wpAny_pyNext_enum_itemD (XC D k) G ⟨i,rL,hs⟩ hg' ne (by simp[ne]) λx h' tk hP Y F hT hsz hk=>?_;let⟨i',ei,c,u,hc',rfl⟩:=hP;let⟨i'',ei2,F⟩:=F;obtain rfl:i'=i:=by lia
   obtain rfl:i''=i'+1:=by lia
   calc⟨_,rL,wpAny_letOwnedTupleGo_enum Y λh2 he2 O=>?_⟩;let⟨o,ho2,r2⟩:=F;let⟨oi,hoi,_⟩:=id hs;let⟨I3,fr⟩:=aX.pair (i:=k+i') (x:=.str (S [c])) I hf (a_ G) (a_ hoi) ⟨u,rL⟩ hT hk O;refine⟨.ref s.heap.objs.size,_,I3,rL,⟨s.heap.objs.size,c,I.hok.fresh (ax _),rL,by simpa [S] using hc',rL⟩,⟨ne,hg,⟨_,by simpa [Int.add_assoc] using he2⟩,o,(O.2 it (gm ne)).trans ho2,r2⟩,fr⟩
  rcases hty with rfl|rfl;.show Z (Draws.strAscii J it (S l) t)
  .show Z (Draws.strWide J it (S l) t)
 done:=by
  intro X hP hw hK hc i ao s σ H E I hf st hg;subst hP hw hK;obtain⟨ne,le,⟨j,G⟩,hs⟩:=st;let J:X.A.in1.handled=none:=by simp[I.ok.hd hc]
  let hi:i=(S l).cps.size:=Nat.le_antisymm le hg;let F:=hs;rw[hi]at F;let⟨f0,f1,f2,f3,f4,f5⟩:=hf it qo;rcases hty with rfl|rfl
  .show wpAny_pyNext_enum_endD (Draws.strAscii J it (S l) t) G F λh' eb=>⟨rL,I.turned (t':=s.toks) (λb o hb e=>eb b o hb e) f0 f1 f3 f4 f5⟩
  .show wpAny_pyNext_enum_endD (Draws.strWide J it (S l) t) G F λh' eb=>⟨rL,I.turned (t':=s.toks) (λb o hb e=>eb b o hb e) f0 f1 f3 f4 f5⟩
 self:=λA i s Q E st h=>by obtain⟨_,_,⟨j,G⟩,_⟩:=st;show wpAny_pyIter_enum G h
def aaL {K:W.Frag}{elts:List Expr}{x1}{ty:String}(D:ty="str_ascii_iterator"\/ty="str_iterator")(l:List Nat)(t:Tok)(it e:Addr):Turn P w K (.Tuple elts x1 pos) (Uw l) [e,it] e (λi h=>e≠it/\i<=l.length/\(∃j,IsEnum h e it i j)/\h.IsStrIter it ty (S l) t i):=by
 let h:=aaK (P:=P) (w:=w) (K:=K) (elts:=elts) (x1:=x1) (pos:=pos) D l 0 t it e;let e1:aaJ l 0=Uw l:=by unfold aaJ Uw;simp only[Nat.zero_add]
 simp only[Nat.zero_add]at h;rw[e1]at h;show h
section
variable {X:Cx}{elts:List Expr}{x1:Nat}{tp:Pos}
def ail (ta:TA):TI:=λσ H R=>ta σ H λvs H1=>∃l,vs=[.str (S l)]/\R (Uw l) H1
def aeh (hg:Gl X "enumerate")(hm:X.mg "enumerate"=none)(ha:QA X [a] ta)(hs:starEach [a] X.env=[(false,eval a X.env)]:=by rfl):QI X (.Tuple elts x1 tp) (.Call (.Name "enumerate" p) [a] [] pos) (ail ta):=⟨by
 intro ao s σ H R I h;calc Call_ (wR I hg hm boot_enumerate (fq (cP (ha.out pos ao s σ H _ I h) λus s1 J=>?_) hs rL));let⟨vs,H1,j,r1,q1⟩:=J;let⟨l,e,q⟩:=q1;subst e;cases r1 with
 | cons r rr=>
  cases rr;let⟨t,rfl⟩:=r;let F:strIterType (S l)="str_ascii_iterator"\/strIterType (S l)="str_iterator":=by unfold strIterType;split <;> simp
  calc call_enumerate_str λh' G D hsz O=>wpAny_pyIter_enum G ?_;calc⟨s1.heap.objs.size+1,[s1.heap.objs.size+1,s1.heap.objs.size],_,_,H1,rL,j.kept (t':=s1.toks) O,aaL F l t s1.heap.objs.size _,⟨Nat.succ_ne_self _,fe _,⟨_,G⟩,D⟩,λb hb=>?_,q⟩;rcases bX.mp hb with z|z
  .rw[z];show j.CK (kS _) (j.hok.fresh (kS _))
  .rw[bc.mp z];show j.CK (ax _) (j.hok.fresh (ax _))⟩
def Ux (hc:X.calm=true):jJ X (.builtin "any") (λxs H Q=>∃(p:Addr) (bs:List Bool),xs=[.ref p]/\bM X.K H p (bs.map V.bl)/\Q (.bl (bs.any id)) H):=by
 intro ao s σ H xs us Q I r h;let⟨p,bs,rfl,hq,q⟩:=h;let⟨u,rfl,J⟩:=vals1 r;cases J;let⟨its,G,pl,hz⟩:=I.list hq;let D:p≠s.heap.objs.size:=by let⟨o,ho,_⟩:=pl.isList;show cv (a_ ho)
 let hb:∀(i:Nat) (v:Value),its[i]?=some v->v=.bool (bs.getD i false):=λi v hv=>by
  let Y:=G.length;let hi:i<bs.length:=by have:=(ah.mp hv).1;simp at Y;simp_all
  let⟨u,Z,J⟩:=G.get (i:=i) (x:=.bl bs[i]) (by simp[hi]);rw[hv]at Z;cases Z;cases J;simp[List.getD,hi]
 calc call_any_walk (iq pl.isList ?_);refine⟨s.heap.objs.size,_,_,_,_,_,λi=>bs.getD i false,rL,Walks.list (A:=X.A.in1) (I.ok.hd hc) s.heap.objs.size p D its.toArray,⟨⟨_,bu _ rL,rL,rL⟩,pl.isList.at λo e=>ag _ e⟩,?_,λh' tk kk=>?_⟩
 .intro i v s' Q' E' hv j;let e:=hb i v (by simpa using hv);subst e;show fh j
 .let I1:aX X ao σ H {s with heap:=h',toks:=tk}:=I.kept λb o e=>kk b o (by
   intro hm;have:b=s.heap.objs.size:=by simpa using hm
   subst this;show absurd (a_ e) (fw _)) (ag _ e)
  calc⟨.bl (bs.any id),H,I1,?_,q⟩;show Value.bool _=Value.bool _;let Y:its.toArray.size=bs.length:=by have:=G.length;simp at this;simp[this]
  rw[Y];congr 1;let O:∀bs:List Bool,(List.range bs.length).any (λi=>bs.getD i false)=bs.any id:=λbs=>by
   rw[ii,List.any_eq_true,List.any_eq_true];constructor
   .intro z;let⟨i,hi,h⟩:=z;let F:=fE.mp hi;show⟨bs[i],ba _,by simpa [List.getD,F] using h⟩
   .intro z;let⟨x,hx,h⟩:=z;let⟨i,hi,rfl⟩:=iL.mp hx;show⟨i,fE.mpr hi,by simpa [List.getD,hi] using h⟩
  show O bs
end
structure ZA (z ti to u v a b:Addr):Prop where
 q1:ti≠z
 q2:to≠z
 q3:u≠z
 q4:v≠z
 q5:ti≠to
 q6:ti≠u
 q7:ti≠v
 q8:to≠u
 q9:to≠v
 p1:u≠v
 p2:a≠z
 p3:a≠to
 p4:a≠u
 p5:a≠v
 p6:b≠z
 p7:b≠to
 p8:b≠u
 p9:b≠v
section
variable {X:Cx}{ao:AF}{σ:St}{H:Hp}{s:Shared}
def aX.aj4 {fp:List Addr}{tk:Nat}{x y:V}{p q:Value}{h2:Heap}(I:aX X ao σ H s)(j:∀b∈fp,xG X ao H b)(lt:∀b∈fp,b<s.heap.objs.size)(G:cW x p)(O:cW y q)(J:h2.get? s.heap.objs.size=some {cls:=.type "tuple",data:=.seq #[p,q]})(Z:∀b o,b∉fp->s.heap.get? b=some o->h2.get? b=some o):aX X ao σ (upd H s.heap.objs.size (.tup [x,y])) {s with heap:=h2,toks:=tk}/\∀b∈fp,upd H s.heap.objs.size (.tup [x,y]) b=none:=by
 let I2:aX X ao σ (upd H s.heap.objs.size (.tup [x,y])) {s with heap:=s.heap.push {cls:=.type "tuple",data:=.seq #[p,q]},toks:=tk}:=I.laid (λb v e=>ag _ e) (ax _) ⟨zsz 2,[p,q],.cons G (.cons O .nil),⟨_,bu _ rL,rL,_,rL⟩⟩
 let fr:∀b∈fp,upd H s.heap.objs.size (.tup [x,y]) b=none:=λb hb=>by rw[bw (cv (lt b hb))];show(j b hb).1
 let F:=aX.Oh (s:={s with heap:=s.heap.push {cls:=.type "tuple",data:=.seq #[p,q]},toks:=tk}) (h':=h2) (fp:=fp) (t':=tk) I2 (λb o hb g=>?_) λb hb=>?_
 .show⟨F,fr⟩
 .rcases Heap.get?_push_cases g with⟨Y,D⟩|z;.rw[Y,D];show J
  .show Z b o hb z
 .let⟨f0,f1,f2,f3,f4,f5⟩:=j b hb;show⟨fr b hb,f1,f2,f3,f4,f5⟩
def acq:bootBuiltins "zip"=some (.type "zip"):=by decide +kernel
end
structure vh (B:Heap)(l:List Env)(e:Addr)(cls:Value)(dd:Option Addr)(fl:Value)(h:Heap):Prop where
 stays:B.StaysIn h
 new:B.get? e=none
 frames:h.FunFrames B l
 tr:∃oe vs T oT ts,h.get? e=some oe/\oe.cls=cls/\oe.dict=dd/\oe.data=.fields vs/\vs[1]?=some (.ref T)/\vs[2]?=some .none/\B.get? T=none/\T≠e/\h.get? T=some oT/\oT.data=.fields ts/\ts[3]?=some fl
def vh.outer (x:vh B (env::l) e cls dd fl h):vh B l e cls dd fl h:=⟨x.stays,x.new,x.frames.2.2,x.tr⟩
def Ra (o:Obj)(f):(o.mapFields f).dict=o.dict:=by let⟨c,d,j,sl⟩:=o;cases j <;> rfl
section
variable {M:Model}{A:Around}{E:AB}{s:Shared}{B:Heap}{env:Env}{outer l:List Env}{L e:Addr}{oe:Obj}{vs:Array Value}{head cls fl:Value}{dd:Option Addr}{hadNext:Bool}{Q:Unit->Shared->Prop}
def LK (I:A.frames=some (env::outer))(hl:s.heap.FunFrames B (env::outer))(hf:env.frame=some L)(J:s.heap.get? e=some oe)(kb:B.StaysIn s.heap)(Z:B.get? e=none)(hd:oe.data=.fields vs)(hz:1<vs.size)(h2:vs[2]?=some .none)(h:∀h',vh B (env::outer) e oe.cls oe.dict (rawInt L) h'->s.heap.UpToSlots h'->Q () {s with heap:=h' }):wpAny M A (do let a <- frameOf env;let pl <- entryPlaceOf L hadNext;let b <- EntryCells.newEntry head a .none (rawInt L) .none pl;setField (.ref e) 1 b) Q E s:=by
 let out:e∉(env::outer).filterMap (·.frame):=λz=>by let⟨_,u,hu,j⟩:=hl.mem z;rw[J]at hu;cases hu;show j vs hd
 calc ae (wpAny_frameOf_fun I hl hf λg hg=>ae (wpAny_entryPlaceOf λpl F=>?_));unfold EntryCells.newEntry newFields;calc ae (gS ?_ (F.sizeOk5 _ _ _ _ _));generalize hO:({cls:=.type "traceback",dict:=none,data:=.fields ([head,.ref L,.none,rawInt L,.none]++(if pl.isEmpty then List.replicate 6 Value.none else pl)).toArray}:Obj)=O;let G:∃ts,O.data=.fields ts/\ts[3]?=some (rawInt L):=⟨_,by rw[<-hO],by first|(simp;done)|(rcases F with rfl|⟨_,_,_,_,_,_,_,rfl⟩ <;> simp)⟩
 let Y:g.get? e=some oe:=(hg.2.1 e out).trans J;let gB:B.StaysIn g:=λb o q=>(hg.2.1 b λz=>by rw[(hl.mem z).1]at q;cases q).trans (kb b o q);let Te:g.objs.size≠e:=kn (a_ Y);let pe:(g.push O).get? e=some oe:=ag O Y;let⟨ts,D,h3⟩:=G;let pT:(g.push O).get? g.objs.size=some O:=bu g (kq D);let mv:∀b o,b≠e->g.get? b=some o->((g.push O).update e (Obj.mapFields (·.setIfInBounds 1 (Value.ref g.objs.size)))).get? b=some o:=λb o nb q=>(fF _ _ (gm nb)).trans (ag O q)
 let nr:∀b o,s.heap.get? b=some o->(∀vs,o.data≠.fields vs)->b≠e:=λb o q j z=>by rw[z,J]at q;cases q;show j vs hd
 refine nX pe hd hz (h _ ⟨λb o q=>mv b o (λz=>by rw[z,Z]at q;cases q) (gB b o q),Z,hl.of_keeps λb o q j=>?_,?_⟩ λb o q j=>?_)
 .let⟨sl,z⟩:=hg.2.2 b o q;show⟨_,mv b _ (nr b o q j) z,rL⟩
 .let dd:=n9 hd (·.setIfInBounds 1 (Value.ref g.objs.size));refine⟨_,_,g.objs.size,O,ts,ik _ pe (kq dd),Obj.cls_mapFields _ _,Ra _ _,dd,by simp[hz],by rw[jb qr];show h2,gB.fresh,Te,(fF _ _ (gm Te)).trans pT,D,h3⟩
 .let⟨sl,z⟩:=hg.2.2 b o q;show⟨sl,mv b _ (nr b o q j) z⟩
def qW (x:vh B l e cls dd fl s.heap)(h:∀h',vh B l e cls dd .none h'->s.heap.UpToSlots h'->Q () {s with heap:=h' }):wpAny M A (setFlight (.ref e) none) Q E s:=by
 let⟨st,en,fr,oe,vs,T,oT,ts,Z,hc,G,hd,h1,h2,I,O,F,j,h3⟩:=x;let J:3<ts.size:=(gf.mp h3).1;let mv:∀b,b≠T->(s.heap.update T (Obj.mapFields (·.setIfInBounds 3 ((none:Option Addr).elim Value.none λf=>rawInt f)))).get? b=s.heap.get? b:=λb nb=>fF _ _ (gm nb);let nr:∀b o,s.heap.get? b=some o->(∀vs,o.data≠.fields vs)->b≠T:=λb o q D z=>by rw[z,F]at q;cases q;show D ts j
 unfold setFlight;calc ae (fo Z hd h1 ?_);rw[if_pos (show (Value.ref T != Value.none)=true by simp)];calc nX F j J (h _ ⟨λb o q=>(mv b λz=>by rw[z,I]at q;cases q).trans (st b o q),en,fr.of_keeps λb o q D=>⟨o,(mv b (nr b o q D)).trans q,rL⟩,?_⟩ λb o q D=>⟨o.slots,(mv b (nr b o q D)).trans q⟩);let Y:=n9 j (·.setIfInBounds 3 ((none:Option Addr).elim Value.none λf=>rawInt f));show⟨oe,vs,T,_,_,(mv e (gm O)).trans Z,hc,G,hd,h1,h2,I,O,ik _ F (kq Y),Y,by simp[J]⟩
def aei (j:A.frames=some (env::outer))(hl:s.heap.FunFrames B (env::outer))(F:env.frame=some L)(D:s.heap.get? e=some oe)(G:B.StaysIn s.heap)(I:B.get? e=none)(hd:oe.data=.fields vs)(h1:vs[1]?=some .none)(h2:vs[2]?=some .none)(h:∀h',vh B (env::outer) e oe.cls oe.dict (rawInt L) h'->s.heap.UpToSlots h'->Q () {s with heap:=h' }):wpAny M A (noteFrame (.ref e) env) Q E s:=by unfold noteFrame;simp only[F];calc ae (fo D hd h1 ?_);rw[if_neg qr];show LK j hl F D G I hd (gf.mp h1).1 h2 h
def Oi (F:A.frames=some (env::outer))(O:env.frame=some L)(x:vh B (env::outer) e cls dd .none s.heap)(h:∀h',vh B (env::outer) e cls dd (rawInt L) h'->s.heap.UpToSlots h'->Q () {s with heap:=h' }):wpAny M A (noteFrame (.ref e) env) Q E s:=by
 let⟨st,Y,fr,oe,vs,T,oT,ts,J,hc,I,hd,h1,h2,Z,Te,G,j,h3⟩:=x;subst hc I;let mv:∀b,b≠T->(s.heap.update T (Obj.mapFields (·.setIfInBounds 3 Value.none))).get? b=s.heap.get? b:=λb nb=>fF _ _ (gm nb);let nr:∀b o,s.heap.get? b=some o->(∀vs,o.data≠.fields vs)->b≠T:=λb o q D z=>by rw[z,G]at q;cases q;show D ts j
 unfold noteFrame;simp only[O];calc ae (fo J hd h1 ?_);rw[if_pos (show (Value.ref T != Value.none)=true by simp)];calc ae (fo G j h3 ?_);rw[if_neg (show ¬((Value.none==rawInt L)=true) by simp[rawInt])];calc ae (nX G j (gf.mp h3).1 ?_);refine LK F (fr.of_keeps λb o q D=>⟨o,(mv b (nr b o q D)).trans q,rL⟩) O ((mv e (gm Te)).trans J) (λb o q=>(mv b λz=>by rw[z,Z]at q;cases q).trans (st b o q)) Y hd (gf.mp h1).1 h2
  λh' y k=>h h' y λb o q D=>k b o ((mv b (nr b o q D)).trans q) D
def leave_new (j:A.frames=some (env::outer))(hl:s.heap.FunFrames B (env::outer))(I:env.frame=some L)(F:s.heap.get? e=some oe)(G:B.StaysIn s.heap)(D:B.get? e=none)(hd:oe.data=.fields vs)(h1:vs[1]?=some .none)(h2:vs[2]?=some .none)(h:∀h',vh B outer e oe.cls oe.dict .none h'->s.heap.UpToSlots h'->Q () {s with heap:=h' }):wpAny M A (leaving env (.ref e)) Q E s:=by unfold leaving;show ae (aei j hl I F G D hd h1 h2 λh1 x k=>qW x λh2 y k2=>h h2 y.outer (k.trans k2))
def aej (j:A.frames=some (env::outer))(D:env.frame=some L)(x:vh B (env::outer) e cls dd .none s.heap)(h:∀h',vh B outer e cls dd .none h'->s.heap.UpToSlots h'->Q () {s with heap:=h' }):wpAny M A (leaving env (.ref e)) Q E s:=by unfold leaving;show ae (Oi j D x λh1 x k=>qW x λh2 y k2=>h h2 y.outer (k.trans k2))
end
def ig.there (x:ig P w H h a o):∃u,h.get? a=some u:=by
 cases o with
 | lst xs=>let⟨_,_,_,_,e⟩:=x;show⟨_,e⟩
 | tup xs=>let⟨_,_,_,_,e,_⟩:=x;show⟨_,e⟩
 | dK kvs=>let⟨_,_,_,_,o,_,_,e,_⟩:=x;show⟨_,e⟩
 | dT kvs=>let⟨_,_,_,_,o,_,_,e,_⟩:=x;show⟨_,e⟩
 | set S n=>let⟨o,_,_,_,e,_⟩:=x;show⟨_,e⟩
 | ins C dx fs=>let⟨_,_,_,e,_⟩:=x;show⟨_,e⟩
 | own y=>show x
 | xd fs=>obtain⟨_,⟨_,_,_,e,_⟩,_⟩:=x;show⟨_,e⟩
 | rng lo hi=>let⟨_,_,_,e⟩:=x;show⟨_,e⟩
 | rO ob u=>let⟨e,_⟩:=x;show⟨_,e⟩
 | Qk ps=>show⟨_,(show h.get? a=some _ from x)⟩
 | met f y=>show⟨_,(show h.get? a=some _ from x)⟩
 | ext φ=>let⟨_,e,_⟩:=x;show e
structure YW (P:Program)(w:World)(outer:List Env)(H:Hp)(s:Shared)(a:Addr)(cls:Value)(dd:Option Addr)(H':Hp)(s':Shared)(B:Heap):Prop where
 os:s'.os=s.os
 bare:AllBare s'.gens
 un:Un (frs outer) [] H H' s.heap s'.heap
 hok:lX P w H' s'.heap
 fly:vh B outer a cls dd .none s'.heap
 na:H' a=none
 Ql:∀b u,H' b=some u->∃o,B.get? b=some o
 kp:∀b o,s.heap.get? b=some o->b∉frs outer->H b=none->B.get? b=some o
 th:∀b o,s.heap.get? b=some o->b∉frs outer->∃o',B.get? b=some o'
noncomputable def vm (P:Program)(w:World):Bw:=λouter H s E e s'=>∃(a:Addr) (cls:Value) (dd:Option Addr) (H':Hp) (B:Heap),e=.ref a/\YW P w outer H s a cls dd H' s' B/\E cls dd H'
section
variable {X:Cx}{ao:AF}{σ:St}{H1 H':Hp}{s1 s2:Shared}{e:Addr}{oe:Obj}{vs:Array Value}{Q:Unit->Shared->Prop}{E:AB}{cls:Value}{dd:Option Addr}{B:Heap}
def aX.LQ (I:aX X ao σ H1 s1)(q:X.s₀.heap.get? b=some o)(nb:b∉frs X.outer):b∉frs X.stack:=λz=>by
 rcases bX.mp (I.K9 b z) with z|z;.show absurd (cS (a_ q) I.ok.above) (by rw[z];show fw _)
 .show nb z
def aX.aek (I:aX X ao σ H1 s1)(z:b∈frs X.outer):b∈frs X.stack:=by
 rcases I.ok.stk with e|⟨e,j⟩;.rw[e];show z
 .rw[e];unfold frs;rw[i9,j];show bE _ z
def aX.raised (I:aX X ao σ H1 s1)(J:X.stack=X.env::X.outer)(hf:X.env.frame=some X.env.locals)(hex:X.ex=[])(he:s1.heap.get? e=some oe)(hd:oe.data=.fields vs)(h1:vs[1]?=some .none)(h2:vs[2]?=some .none)(ne:H1 e=none)(O:∀b o,X.s₀.heap.get? b=some o->b≠e)(q:∀s2 B,YW X.prog X.w X.outer X.H₀ X.s₀ e oe.cls oe.dict H1 s2 B->Q () s2):wpAny (model X.prog X.w) X.A (leaving X.env (.ref e)) Q E s1:=by
 let Y:X.A.frames=some (X.env::X.outer):=by rw[<-J];show I.ok.frames
 let hl:s1.heap.FunFrames (hideAll s1.heap (e::frs X.stack)) (X.env::X.outer):=by rw[<-J];show funFrames_hide I.stack λenv he b hb=>bE _ (n5.mpr ⟨env,he,hb⟩)
 let D:∀b:Addr,b∉X.ex:=λb=>by rw[hex];simp
 calc leave_new Y hl hf he (λb o z=>of_hideAll _ z) (hideAll_none _ (.head _)) hd h1 h2 λh' x k=>q _ (hideAll s1.heap (e::frs X.stack)) ?_;let F:∀b o,s1.heap.get? b=some o->b≠e->b∉frs X.stack->(hideAll s1.heap (e::frs X.stack)).get? b=some o:=λb o z n1 n2=>hideAll_get _ z λm=>by
  rcases bX.mp m with m|m;.show n1 m
  .show n2 m
 let kF:∀b o,s1.heap.get? b=some o->b∈frs X.stack->∃sl,h'.get? b=some {o with slots:=sl}:=λb o z m=>by let⟨_,u,hu,nf⟩:=I.stack.mem m;rw[z]at hu;cases hu;show k b _ z nf
 let Z:∀b u,H1 b=some u->∀o,s1.heap.get? b=some o->(hideAll s1.heap (e::frs X.stack)).get? b=some o:=λb u t o z=>F b o z (λm=>by rw[m,ne]at t;cases t) λm=>by rw[I.Bt b m]at t;cases t
 calc⟨I.os,I.bare,⟨λb o z n hb _=>?_,λb o z n hb _=>?_,λb o z n _=>I.base.free b o z n (D b),λb o z _=>?_,I.base.tups,I.base.rK,I.base.tG⟩,λb o t=>?_,x,ne,λb u t=>?_,λb o z hb n=>?_,λb o z hb=>?_⟩;.show x.stays b o (F b o (I.base.keep b o z n hb (D b)) (O b o z) (I.LQ z hb))
 .let⟨sl,e1⟩:=I.base.slot b o z n hb (D b);let⟨G,e2⟩:=kF b _ e1 (I.aek hb);show⟨G,e2⟩
 .let⟨j,e1⟩:=I.base.there b o z (D b);by_cases m:b∈frs X.stack
  .let⟨G,e2⟩:=kF b _ e1 m;show⟨_,e2⟩
  .show⟨j,x.stays b j (F b j e1 (O b o z) m)⟩
 .refine(I.hok b o t).stay (λc u hc z=>x.stays c u ?_) (λ_ r=>r) λ_ _ r=>r
  rcases hc with rfl|hc;.show Z c _ t u z
  .show Z c _ hc u z
 .let⟨o,z⟩:=(I.hok b u t).there;show⟨o,Z b u t o z⟩
 .show F b o (I.base.keep b o z n hb (D b)) (O b o z) (I.LQ z hb)
 .let⟨j,e1⟩:=I.base.there b o z (D b);show⟨j,F b j e1 (O b o z) (I.LQ z hb)⟩
def aX.passed (I:aX X ao σ H1 s1)(D:X.stack=X.env::X.outer)(hf:X.env.frame=some X.env.locals)(J:X.ex=[])(x:YW X.prog X.w X.stack H1 s1 e cls dd H' s2 B)(q:∀Z,YW X.prog X.w X.outer X.H₀ X.s₀ e cls dd H' Z B->Q () Z):wpAny (model X.prog X.w) X.A (leaving X.env (.ref e)) Q E s2:=by
 let G:X.A.frames=some (X.env::X.outer):=by rw[<-D];show I.ok.frames
 let j:∀b:Addr,b∉X.ex:=λb=>by rw[J];simp
 let n0:∀b:Addr,b∉([]:List Addr):=λb=>by simp
 calc aej G hf (by rw[<-D];show x.fly) λh' y k=>q _ ?_;let kp:∀b o,X.s₀.heap.get? b=some o->b∉frs X.outer->X.H₀ b=none->B.get? b=some o:=λb o z hb n=>x.kp b o (I.base.keep b o z n hb (j b)) (I.LQ z hb) (I.base.free b o z n (j b));let th:∀b o,X.s₀.heap.get? b=some o->b∉frs X.outer->∃o',B.get? b=some o':=λb o z hb=>by let⟨F,e1⟩:=I.base.there b o z (j b);show x.th b F e1 (I.LQ z hb)
 let Y:∀b o,X.s₀.heap.get? b=some o->b∈frs X.outer->∃sl,h'.get? b=some {o with slots:=sl}:=λb o z m=>by let⟨sl,e1⟩:=I.base.slot b o z (I.ok.Bs b m) m (j b);let⟨sl2,e2⟩:=x.un.slot b _ e1 (I.Bt b (I.aek m)) (I.aek m) (n0 b);let⟨_,u,hu,nf⟩:=I.ok.ql.mem m;rw[z]at hu;cases hu;let⟨LR,e3⟩:=k b _ e2 nf;show⟨LR,e3⟩
 refine⟨x.os.trans I.os,x.bare,⟨λb o z n hb _=>y.stays b o (kp b o z hb n),λb o z n hb _=>Y b o z hb,λb o z n _=>?_,λb o z _=>?_,λb xs t=>x.un.tups b xs (I.base.tups b xs t),λb o u t=>x.un.rK b o u (I.base.rK b o u t),λb ps t=>?_⟩,λb o t=>?_,y,x.na,x.Ql,kp,th⟩
 .let⟨F,e1⟩:=I.base.there b o z (j b);show x.un.free b F e1 (I.base.free b o z n (j b)) (n0 b)
 .by_cases m:b∈frs X.outer
  .let⟨sl,e3⟩:=Y b o z m;show⟨_,e3⟩
  .let⟨o',e1⟩:=th b o z m;show⟨o',y.stays b o' e1⟩
 .let⟨m1,e1⟩:=I.base.tG b ps t;let⟨m2,e2⟩:=x.un.tG b _ e1;show⟨m1++m2,by rw[e2,Array.append_assoc]⟩
 .refine(x.hok b o t).stay (λc u O z=>?_) (λ_ r=>r) λ_ _ r=>r
  have:∃v,H' c=some v:=by
   rcases O with rfl|O;.show⟨_,t⟩
   .show⟨_,O⟩
  let⟨v,hv⟩:=this;let⟨o',hB⟩:=x.Ql c v hv;have:=x.fly.stays c o' hB;rw[z]at this;cases this;show y.stays c u hB
end
def Lets (X:Cx)(E:XK):Prop:=∀(ao:AF) (σ:St) (H:Hp) (s:Shared) (e:Addr) (oe:Obj) (vs:Array Value),aX X ao σ H s->s.heap.get? e=some oe->oe.data=.fields vs->vs[1]?=some .none->vs[2]?=some .none->H e=none->
 (∀b o,X.s₀.heap.get? b=some o->b≠e)->E oe.cls oe.dict H->X.xe (.ref e) s
section
variable {P:Program}{w:World}{K:W.Frag}{mg:Str->Option Value}{base:Heap}{N:List Str}{qual:Str}{scope:Scope}{f:Addr}{cd:Value}{A:Around}{outer:List Env}{s:Shared}{H:Hp}{E:XK}
def oW:Lets (rM (vm P w) P w K mg base N qual scope f cd A outer s H E) E:=λao σ H1 s1 e oe vs I j hd h1 h2 ne D q=>I.raised rL rL rL j hd h1 h2 ne D λs2 B x=>⟨e,_,_,_,B,rL,x,q⟩
def qX:Passes (vm P w) (rM (vm P w) P w K mg base N qual scope f cd A outer s H E) E:=λao σ H1 s1 e s2 I ⟨a,cls,dd,H',B,z,x,q⟩=>by subst z;show I.passed rL rL rL x λj y=>⟨a,cls,dd,H',B,rL,y,q⟩
end
structure DefX (P:Program)(w:World)(K:W.Frag)(mg:Str->Option Value)(base:Heap)(name:Str)(k:Nat)(ps:List Str)(sp:Sp):Prop where
 ex:∃f fd,cU P w K mg base (vm P w) k f fd ps sp/\cD K fd ps []/\mg name=some (.ref f)/\W.keepIn K (.ref f)=true
def gJ.yQ {K:W.Frag}{mg:Str->Option Value}{x qual:Str}{st:Stmt}{N ps:List Str}{k:Nat}{sp:Sp}(F:gJ K x qual st f fd)(S:bD N ps (aL st))(len:∀vs H Q E,sp vs H Q E->vs.length=ps.length)(j:∀(bV:Value) (A:Around) (outer:List Env) (s:Shared) (H:Hp) (vs:List V) (Q:VK) (E:XK),iu k (A.deeper (envOfC qual (aL st) s.heap.objs.size f bV))->sp vs H Q E->
   ∃t,wQ (rM (vm P w) P w K mg base N qual (aL st) f bV A outer s H E) (dG st) t/\t {nx:=λ_ H'=>Q .non H',rt:=Q} (start N vs) H):cU P w K mg base (vm P w) (k+1) f fd ps sp:=by
 let⟨oc,od,kV,doc,pm,an,bV,ct,osl,rfl,I,D⟩:=F.ex;calc afA I D S len λA outer s H vs Q E hr G=>?_;let⟨t,h,q⟩:=j bV A outer s H vs Q E hr G;show⟨t,h.out,q⟩
def aO.yQ {K:W.Frag}{mg:Str->Option Value}{name:Str}{st:Stmt}{N ps:List Str}{k:Nat}{sp:Sp}(D:aO K mg name st ps)(S:bD N ps (aL st))(len:∀vs H Q E,sp vs H Q E->vs.length=ps.length)(j:∀(f:Addr) (bV:Value) (A:Around) (outer:List Env) (s:Shared) (H:Hp) (vs:List V) (Q:VK) (E:XK),iu k (A.deeper (envOfC name (aL st) s.heap.objs.size f bV))->sp vs H Q E->
   ∃t,wQ (rM (vm P w) P w K mg base N name (aL st) f bV A outer s H E) (dG st) t/\t {nx:=λ_ H'=>Q .non H',rt:=Q} (start N vs) H):DefX P w K mg base name (k+1) ps sp:=by
 let⟨f,fd,F,b,g⟩:=D.ex;show⟨f,fd,F.yQ S len (j f),b,g,F.kp⟩
def tW (CX:Bw)(X:Cx)(E:XK)(S:St->Prop):Prop:=∀(ao:AF) (σ:St) (H:Hp) (s:Shared) (e:Value) (s':Shared),aX X ao σ H s->S σ->CX X.stack H s E e s'->X.xe e s'
def Passes.all (h:Passes CX X E):tW CX X E λ_=>True:=λao σ H s e s' I _ q=>h ao σ H s e s' I q
def ain (sp:Sp)(E:XK)(S:St->Prop)(t:TA):TE:=λσ H Q=>S σ/\t σ H λvs H1=>sp vs H1 Q E
section
variable {X:Cx}{k:Nat}{f:Addr}{fd:FuncData}{ps:List Str}{sp:Sp}{E:XK}{S:St->Prop}{x:Str}{p pos:Pos}{e:Expr}{es:List Expr}{t:TA}
def mW (D:DefX X.prog X.w X.K X.mg X.base x k ps sp)(hr:iu k X.A)(hg:Gl X x)(hx:tW (vm X.prog X.w) X E S)(ha:QA X (e::es) t)(O:(x==("__debug__":Str))=false:=by decide)(hs:starEach (e::es) X.env=(false,eval e X.env)::starEach es X.env:=by rfl)(J:(backTo pos (starEach es X.env)).any (·.1)=false:=by rfl):QE X (.Call (.Name x p) (e::es) [] pos) (ain sp E S t):=⟨by
 let⟨f,fd,F,hb,hm,Z⟩:=D.ex;intro ao s σ H Q I h;let⟨Y,h⟩:=h;calc gp (oJ I hg hm ?_ O);calc ic (h₀:=X.base) I.ok.mod.En Z (cP (ha.out pos ao s σ H _ I h) λus s1 ⟨vs,H1,j,r,q⟩=>⟨j.je,?_⟩) hs J;let hl:us.length=ps.length:=by rw[<-r.length];show F.len _ _ _ _ q
 let hB:=hb s1 us j.je (by rw[e_];show hl);rw[e_]at hB;calc gu (iX (F.run X.A X.stack s1 H1 ⟨us,[]⟩ us vs Q E hr j.env0 hB r q) λr s' G=>?_);cases r with
 | error e=>show hx ao σ H1 s1 e s' j Y G
 | ok fl=>
  cases fl with
  | ret u=>show j.after G
  | next=>show False.elim G
  | brk=>show False.elim G
  | cont=>show False.elim G⟩
end
def agh {K:W.Frag}(X:K.In h)(q:excIn K C bmB newId=true):∃bm N nm q bs hdct sn sub ab col dd k0 k1 k2 k3 k5 mN,h.get? C=some (excClassObj nm q C N bs bm hdct sn sub ab col dd k0 k1 k2 k3 k5 newId)/\h.Ns N mN/\mN "__init__"=none/\OwnTail h bmB bm:=by
 unfold excIn at q;split at q
 .next dd cd sl ho=>
  split at q
  .next C' bm k0 k1 k2 k3 n k5 hm hs=>
   simp only[cp,beq_iff_eq,Bool.not_eq_true']at q;obtain⟨⟨⟨⟨⟨e1,e2⟩,j⟩,ht⟩,hok⟩,D⟩:=q;subst e1 e2;let⟨nm,bs,mro,ns,G,hd,sn,sub,ab,col,I⟩:=cd;dsimp only at hm j hok D;subst hm j;let F:sl=#[k0,k1,k2,k3,some (.builtin n),k5]:=by cases sl;simp only at hs;rw[hs]
   subst F;show⟨bm,ns,nm,G,bs,hd,sn,sub,ab,col,dd,k0,k1,k2,k3,k5,_,X _ _ ho,.of_isNs (isNs_of_in X hok),nsMap_none_of_in X hok D,tail_of_in X ht⟩
  .cases q
 .cases q
abbrev jl:List Value:=[.type "ValueError",.type "Exception",.type "BaseException",.type "object"]
def aio (C:Addr)(E:XK)(t:TA):TS:=λ_ σ H=>t σ H λvs H1=>vs.length<=sizeLine/\E (.ref C) none H1
section
variable {X:Cx}{C:Addr}{E:XK}{x:Str}{np cpos pos:Pos}{e:Expr}{es:List Expr}{t:TA}
def vH (hl:Lets X E)(hc:X.calm=true)(O:X.ex=[])(hg:Gl X x)(hm:X.mg x=some (.ref C))(hC:excIn X.K C jl "ValueError.__new__"=true)(ha:QA X (e::es) t)(J:(x==("__debug__":Str))=false:=by decide)(hs:starEach (e::es) X.env=(false,eval e X.env)::starEach es X.env:=by rfl)(G:(backTo cpos (starEach es X.env)).any (·.1)=false:=by rfl):QS X (.Raise (some (.Call (.Name x np) (e::es) [] cpos)) none pos) (aio C E t):=⟨by
 intro ao s σ H D I h;let⟨tl,N,nm,q,bs,hdct,sn,sub,ab,col,dd,k0,k1,k2,k3,k5,mN,cC,cN,Z,T⟩:=agh I.ok.mod.En hC;let ar:=ha.out cpos ao s σ H _ I h;rw[hs]at ar;refine wpAny_Raise_call_subT (C:=C) (nm:=nm) (q:=q) (N:=N) (bs:=bs) (bm:=tl) (hdct:=hdct) (sn:=sn) (sub:=sub) (ab:=ab) (col:=col) (dd:=dd) (k0:=k0) (k1:=k1) (k2:=k2) (k3:=k3) (k5:=k5) gg (mN:=mN)
  (T.hasType gg.hasBase) (I.ok.hd hc) (by rw[hs];show (false||(backTo cpos (starEach es X.env)).any (·.1))=false;rw[G];rfl) Z (oJ I hg hm ⟨rL,?_⟩ J)
 rw[hs];calc iF (eh ar (λus s2 z=>?_) λ_ _ y=>y);let⟨vs,H1,j,r,hv,hE⟩:=z;calc⟨rL,by rw[<-r.length];show hv,j.bk _ _ cC,cN.keeps j.bk,T.keeps j.bk,λh' a hx=>?_⟩;let⟨tt,Y,_,_⟩:=hx.there;refine hl ao σ H1 _ a _ _ (j.kept (t':=s2.toks) hx.keeps) Y rL rL rL ?_ (λb o z y=>?_) hE
 .cases z:H1 a with| none=>rfl| some u=>let⟨o,F⟩:=(j.hok a u z).there;rw[hx.new]at F;cases F
 .let⟨o',F⟩:=j.base.there b o z (by rw[O];simp);rw[y,hx.new]at F;cases F⟩
end
def xJ (a:Addr)(cls:Value)(dd:Option Addr):Heap->Prop:=λh=>∃oe vs,h.get? a=some oe/\oe.cls=cls/\oe.dict=dd/\oe.data=.fields vs/\vs[2]?=some .none
section
variable {X:Cx}{ao:AF}{σ:St}{H H':Hp}{s s':Shared}{a:Addr}{cls fl:Value}{dd:Option Addr}{B h3:Heap}
def aX.caught (I:aX X ao σ H s)(x:YW X.prog X.w X.stack H s a cls dd H' s' B)(y:vh B X.stack a cls dd fl h3)(k:s'.heap.UpToSlots h3):aX X ao σ (upd H' a (.ext (xJ a cls dd))) {s' with heap:=h3}:=by
 let n0:∀b:Addr,b∉([]:List Addr):=λb=>by simp
 let⟨oe,vs,T,oT,ts,J,D,O,hd,_,h2,_⟩:=y.tr;let G:∀b o,s.heap.get? b=some o->b∈frs X.stack->(∃sl,h3.get? b=some {o with slots:=sl})/\∀vs,o.data≠.fields vs:=λb o z m=>by let⟨_,u,hu,F⟩:=I.stack.mem m;rw[z]at hu;cases hu;let⟨sl2,e2⟩:=x.un.slot b _ z (I.Bt b m) m (n0 b);let⟨LR,e3⟩:=k b _ e2 F;show⟨⟨LR,e3⟩,F⟩
 let na:∀b o,s.heap.get? b=some o->b≠a:=λb o z m=>by
  by_cases hb:b∈frs X.stack
  .obtain⟨⟨sl,e3⟩,F⟩:=G b o z hb;rw[m,J]at e3;cases e3;show F vs hd
  .let⟨o',Y⟩:=x.th b o z hb;rw[m,y.new]at Y;cases Y
 let j:∀b u,H' b=some u->b≠a:=λb u z m=>by rw[m,x.na]at z;cases z
 let Z:∀c u v,H' c=some v->s'.heap.get? c=some u->h3.get? c=some u:=λc u v t z=>by let⟨o',hB⟩:=x.Ql c v t;have:=x.fly.stays c o' hB;rw[z]at this;cases this;show y.stays c u hB
 refine I.call' (s':={s' with heap:=h3}) (ch:=[]) x.os ⟨λb o z n hb _=>y.stays b o (x.kp b o z hb n),λb o z n hb _=>(G b o z hb).1,λb o z n _=>?_,λb o z _=>?_,λb xs t=>?_,λb o u t=>?_,λb ps t=>?_⟩ (λb o t=>?_) x.bare λb z=>absurd z qo
 .rw[bw (na b o z)];show x.un.free b o z n (n0 b)
 .by_cases m:b∈frs X.stack
  .obtain⟨⟨sl,e3⟩,_⟩:=G b o z m;show⟨_,e3⟩
  .let⟨o',e1⟩:=x.th b o z m;show⟨o',y.stays b o' e1⟩
 .let t':=x.un.tups b xs t;rw[bw (j b _ t')];show t'
 .let t':=x.un.rK b o u t;rw[bw (j b _ t')];show t'
 .let⟨more,t'⟩:=x.un.tG b ps t;show⟨more,by rw[bw (j b _ t')];show t'⟩
 .by_cases hb:b=a
  .subst hb;rw[aA]at t;cases t;show⟨⟨oe,vs,J,D,O,hd,h2⟩,⟨oe,J⟩,λh h' ⟨oe,vs,e1,e2,e3,e4⟩ q=>⟨oe,vs,q oe e1,e2,e3,e4⟩⟩
  .rw[bw hb]at t;refine(x.hok b o t).stay (λc u D z=>?_) (λc r=>by rw[bw (j c _ r)];show r) λc xs r=>by rw[bw (j c _ r)];show r
   rcases D with rfl|D;.show Z c u _ t z
   .show Z c u _ D z
def aX.unbound {h':Heap}(I:aX X ao σ H s)(hN:X.N.Nodup)(hi:X.N[i]?=some n)(hk:X.env.kindOf n=some .local)(hm:s.heap.Ns X.env.locals m)(hn:h'.Ns X.env.locals (λy=>if y=n then v else m y))(hs:Heap.SameBut X.env.locals s.heap h'):aX X ao (σ.set i none) H {s with heap:=h',toks:=s.toks+1}:=by
 let ab:∀b o,X.s₀.heap.get? b=some o->b≠X.env.locals:=λb o e=>cv (cS (a_ e) I.ok.above);let⟨m1,F,hl⟩:=I.loc;let em:m1=m:=by let⟨o1,es1,ep1,g1,Z,_,f1⟩:=F;let⟨o2,es2,ep2,g2,G,_,f2⟩:=hm;rw[g1]at g2;cases g2;rw[Z]at G;cases G;funext y;rw[<-f1 y,<-f2 y]
 subst em;refine⟨I.ok,I.os,I.bare,⟨λb o e n hb hx=>(hs.2 b (ab b o e)).trans (I.base.keep b o e n hb hx),λb o e n hb hx=>?_,I.base.free,λb o e hx=>?_,I.base.tups,I.base.rK,I.base.tG⟩,⟨_,hn,λj y Y e1 e2 e3=>?_⟩,λy c e=>?_,I.free,I.mZ,λp hp=>?_,λb ob e=>?_,by simpa using I.len⟩
 .let⟨sl,e1⟩:=I.base.slot b o e n hb hx;show⟨sl,(hs.2 b (ab b o e)).trans e1⟩
 .let⟨o',e1⟩:=I.base.there b o e hx;show⟨o',(hs.2 b (ab b o e)).trans e1⟩
 .let O:j≠i:=λz=>by
   subst z;rw[List.getElem?_set]at e2;simp only[if_true]at e2;split at e2 <;> simp at e2
  rw[kK (gm O)]at e2;let⟨u,r,l⟩:=hl j y Y e1 e2 e3;calc⟨u,r,?_⟩;let yn:y≠n:=λz=>O (JF hN e1 (z ▸ hi));rcases l with⟨a1,a2⟩|⟨a1,c,a2,a3⟩
  .show .inl ⟨a1,by simp[yn,a2]⟩
  .show .inr ⟨a1,c,a2,a3.sameBut hs (I.Jp y c a2)⟩
 .let⟨J,z⟩:=I.cell y c e;show⟨J,z.sameBut hs (I.Jp y c e)⟩
 .let⟨e,n,ne,nf,d⟩:=I.pin p hp;show⟨(hs.2 p.1 ne).trans e,n,ne,nf,d⟩
 .refine(I.hok b ob e).stay (λc J D q=>(hs.2 c ?_).trans q) (λ_ q=>q) λ_ _ q=>q
  rintro rfl;rcases D with rfl|D;.rw[I.free]at e;cases e
  .rw[I.free]at D;cases D
end
abbrev Cx.tried (X:Cx)(pn:AF)(xe:AB):Cx:={X with pn:=pn,xe:=xe}
abbrev Cx.held (X:Cx)(a:Addr):Cx:={X with A:=X.A.mark (some (.ref a)),calm:=false,xe:=λ_ _=>False}
section
variable {X:Cx}{ao Ia pn:AF}{σ:St}{H:Hp}{s:Shared}{xe:AB}{a:Addr}
def aX.tried (I:aX X ao σ H s)(xe:AB):aX (X.tried (X.pn++ao) xe) [] σ H s:=⟨⟨I.ok.mod,I.ok.kind,I.ok.glob,I.ok.blt,I.ok.above,I.ok.inj,I.ok.has,I.ok.cab,I.ok.hd,I.ok.frames,I.ok.stk,I.ok.Yu,I.ok.bs,I.ok.zJ,I.ok.Cz,I.ok.Ez,I.ok.ql,I.ok.Bs⟩,I.os,I.bare,I.base,I.loc,I.cell,I.free,I.mZ,λp hp=>I.pin p (by simpa using hp),I.hok,I.len⟩
def aX.qY (I:aX (X.tried (X.pn++ao) xe) Ia σ H s):aX X ao σ H s:=⟨⟨I.ok.mod,I.ok.kind,I.ok.glob,I.ok.blt,I.ok.above,I.ok.inj,I.ok.has,I.ok.cab,I.ok.hd,I.ok.frames,I.ok.stk,I.ok.Yu,I.ok.bs,I.ok.zJ,I.ok.Cz,I.ok.Ez,I.ok.ql,I.ok.Bs⟩,I.os,I.bare,I.base,I.loc,I.cell,I.free,I.mZ,λp hp=>I.pin p (mP _ hp),I.hok,I.len⟩
def SP.qY (h:SP (X.tried (X.pn++ao) xe) Ia D f s):SP X ao D f s:=by
 cases f with
 | next=>let⟨σ',H',I,q⟩:=h;show⟨σ',H',I.qY,q⟩
 | brk=>let⟨σ',H',I,q⟩:=h;show⟨σ',H',I.qY,q⟩
 | cont=>let⟨σ',H',I,q⟩:=h;show⟨σ',H',I.qY,q⟩
 | ret u=>let⟨v,σ',H',I,r,q⟩:=h;show⟨v,σ',H',I.qY,r,q⟩
def aX.held (I:aX X ao σ H s)(a):aX (X.held a) ao σ H s:=⟨⟨I.ok.mod,I.ok.kind,I.ok.glob,I.ok.blt,I.ok.above,I.ok.inj,I.ok.has,I.ok.cab,(λz=>nomatch z),I.ok.frames,I.ok.stk,I.ok.Yu,I.ok.bs,I.ok.zJ,I.ok.Cz,I.ok.Ez,I.ok.ql,I.ok.Bs⟩,I.os,I.bare,I.base,I.loc,I.cell,I.free,I.mZ,I.pin,I.hok,I.len⟩
def aX.Fo (I:aX (X.held a) ao σ H s)(ok:X.Ok):aX X ao σ H s:=⟨ok,I.os,I.bare,I.base,I.loc,I.cell,I.free,I.mZ,I.pin,I.hok,I.len⟩
end
noncomputable def unb (i:Nat)(D:Ends):Ends:={nx:=λσ H=>D.nx (σ.set i none) H,rt:=D.rt,bk:=λσ H=>D.bk (σ.set i none) H,ct:=λσ H=>D.ct (σ.set i none) H}
structure wg (K:W.Frag)(C:Addr):Prop where
 cl:(clsIn K C).isSome=true
 ga:findIn K (.ref C) "__getattribute__"=some (some (.builtin "BaseException.__getattribute__"))
 gx:findIn K (.ref C) "__getattr__"=some none
 ha:findIn K (.ref C) "__class__"=some (some (.builtin "object.__class__"))
 hn:specialIn K (.builtin "object.__class__") "__get__"=some (some (.builtin "getset_descriptor.__get__"))
 ht:takesIn K (.builtin "object.__class__")=some true
 hm:mroIn K C (.type "object")=some true
 hb:mroIn K C (.type "BaseException")=some true
section
variable {prog:Program}{w:World}{A:Around}{E:AB}{s:Shared}{K:W.Frag}{x C:Addr}{ox:Obj}{odo:Option Obj}
def ael (T:wg K C):findObj K C odo "__class__"=some (.bind (.builtin "getset_descriptor.__get__") (.builtin "object.__class__")):=by let⟨cd,j⟩:=gv.mp T.cl;unfold findObj;rw[j,Option.bind_some,T.ha,Option.bind_some];simp[T.hn,T.ht]
def acr (T:wg K C)(X:K.In s.heap)(I:InstAt s.heap x ox C odo)(h:Q (.done (.ret (.ref C))) s):wpAny (model prog w) A (Builtin.«object.__getattribute__» ⟨[.ref x,.str "__class__" tk],[]⟩) Q E s:=by
 let⟨F,g,d,t,os⟩:=s;let j:=I.type (M:=model prog w);let D:=looks_find (M:=model prog w) X I (ael T);unfold Builtin.«object.__getattribute__»
 repeat (first|with_reducible refine gu (class_get X I T.hm ?_)|lk)
 show h
def acs (T:wg K C)(X:K.In s.heap)(I:InstAt s.heap x ox C odo)(h:Q (some (.ref C)) {s with toks:=s.toks+1}):wpAny (model prog w) A (getAttr? (.ref x) "__class__") Q E s:=by
 let⟨Z,g,d,t,os⟩:=s;let G:=I.type (M:=model prog w);let J:=looks_findIn (M:=model prog w) X T.ga;let L2:=looks_findIn (M:=model prog w) X T.gx;unfold getAttr? getAttrBy? getAttrBy;calc ae (wpAny_mkText (ae (mo (fz (ae (G.at (ae (J.at ?_))))))));show wpAny _ _ (getAttrByItsOwn _ _ _ _ _ _) _ _ _;unfold getAttrByItsOwn hookBefore;rw[if_pos (show onTheHeap (Value.ref C)=true from rL)];calc ae (L2.at (ae (mo (fz ?_))));unfold callGetattribute boundAndCalled;rw[if_neg qr];let f3:=ip.ga.bind (.ref x);rw[f3];calc ae (aI ?_);calc gu (kM ip.ga.plain F.entry_bexc_ga ?_);let O:builtinKind "BaseException.__getattribute__"=some .slot:=by decide +kernel
 let D:splitId "BaseException.__getattribute__"=some ("BaseException","__getattribute__"):=by decide +kernel
 let Y:=looks_mroIn (M:=model prog w) X T.hb;let j:=F.args_bexc_ga (.ref x) (.str "__class__" t);simp only[checkBuiltinCall,O,D];calc ae ?_;unfold isInstance;refine ae (G.at (Y.at ?_))
 repeat (first|refine acr (x:=x) T X I ?_|assumption|wp_step)
def aem {y:Addr}(T:wg K C):KitX K (.ref y) (.ref C) (λh=>∃ox odo,InstAt h y ox C odo) where
 ty:=λ_ _ _ ⟨_,_,I⟩=>I.type
 it:=λ_ _ X _=>by
  let⟨cd,j⟩:=gv.mp T.cl;unfold clsIn at j;split at j
  .next ho=>intro J F G s' k q;unfold isType loadHead;show ae (nV (k _ _ (X _ _ ho)) (aI q))
  .cases j
 ne:=λh tp dd its n sl X D=>by
  calc ki.mpr λq=>?_;let e:C=tp:=Value.ref.inj (beq_iff_eq.mp q);subst e;let⟨cd,j⟩:=gv.mp T.cl;unfold clsIn at j
  split at j
  .next ho=>have z:=(X _ _ ho).symm.trans D;cases z
  .cases j
 ca:=λX ⟨_,_,I⟩ k=>acs T X I k
end
def lQ (H:Hp):Option Addr->Prop
 | none=>True
 | some d=>∃o,H d=some o
def aip (K:W.Frag):List V->Hp->VK->Prop:=λxs H Q=>∃(a C:Addr) (c:V) (u:Value) (dd:Option Addr) (b:Bool),xs=[.ref a,c]/\((∃D,c=.ref D/\u=.ref D)\/∃n,c=.ty n/\u=.type n)/\H a=some (.ext (xJ a (.ref C) dd))/\lQ H dd/\wg K C/\kitOne K (.ref C) u=some b/\Q (.bl b) H
section
variable {X:Cx}
def fV (hc:True:=True.intro):jJ X (.builtin "isinstance") (aip X.K):=by
 intro ao s σ H xs us Q I r h;let⟨a,C,c,u,dd,b,rfl,G,ha,hd,T,k,q⟩:=h;let⟨F,Z,rfl,r1,r2⟩:=vals2 r;obtain rfl:F=Value.ref a:=r1;let Y:Z=u:=by
  rcases G with⟨D,rfl,rfl⟩|⟨n,rfl,rfl⟩;.show r2
  .show r2
 subst Y;obtain⟨⟨oe,vs,e1,e2,e3,e4,_⟩,_,_⟩:=(show ig X.prog X.w H s.heap a (.ext (xJ a (.ref C) dd)) from I.hok a _ ha)
 let J:∃ox odo,InstAt s.heap a ox C odo:=by
  cases dd with| none=>show⟨oe,none,e1,e2,by unfold notCls;rw[e4],by rw[e3];trivial⟩| some d=>let⟨o1,j⟩:=hd;let⟨o,O⟩:=(I.hok d _ j).there;show⟨oe,some o,e1,e2,by unfold notCls;rw[e4],by rw[e3];show O⟩
 show kia_one (aem T) I.je J k (λz=>nomatch z) λtk=>⟨.bl b,H,I.tok tk,rL,q⟩
end
end L2
namespace HT
open PySem PySem.Spec PyProof.Rows
section
variable {prog:Program}{w:World}{A:Around}{E:AB}{s:Shared}
def Jg {lo hi:Option Int}(ht:IsTup s.heap t items)(hs:s.heap.IsSliceOf sl vl vu .none)(pl:IsPart vl lo)(F:IsPart vu hi)(hw:dY items.size 0 lo=0/\dY items.size items.size hi=items.size)(h:Q (.ref t) s):wpAny (model prog w) A (getItem (.ref t) (.ref sl)) Q E s:=by
 let⟨D,h1,h2,h3⟩:=id hs;let ty:s.TypeIs (.ref sl) "slice":=⟨D,h1,h2⟩
 unfold getItem
 try with_reducible refine fz ?_
 first|refine ae (aI ?_)|skip
 calc ae (wpAny_sequenceKey ht.typeIs qr (ae (jn (name:=Str.ofString "__getitem__") ht.typeIs fA (hV fA ht.typeIs entry_tuple_getitem ?_ (args_tuple_getitem _ _)))));show wpAny _ _ (Builtin.Tuple.tupleItemsOf (.ref t) >>= _) _ _ s;calc ae (tupleItemsOf_ ht (ae (wpAny_typeOf ty ?_)));rw[if_pos qr];calc ae (yM hs pl F ?_);let j:((((dY items.size 0 lo:Nat):Int)==0&&(1:Int)==1&&(dY items.size items.size hi-dY items.size 0 lo)==items.size)=true):=by rw[hw.1,hw.2];simp
 show wpAny _ _ (if (((dY items.size 0 lo:Nat):Int)==0&&(1:Int)==1&&(dY items.size items.size hi-dY items.size 0 lo)==items.size)=true then _ else _) _ _ s;rw[if_pos j];calc ae ?_;unfold Builtin.Tuple.tupleIsExact;calc ae (wpAny_typeOf ht.typeIs (aI ?_));rw[if_pos qr];show ae (oQ (aI ⟨_,rL,aI h⟩))
end
end HT
namespace L2
open PySem PySem.Spec PyProof.Rows PySem.W
section
variable {X:Cx}
def aj5 (K:W.Frag):R2:=λx y H Q=>∃a b xs ys,x=.ref a/\y=.ref b/\aQ K H a xs/\aQ K H b ys/\xs.length+ys.length<=sizeLine/\(xs=[]->H b=some (.tup ys))/\(ys=[]->xs≠[]->H a=some (.tup xs))/\
 ∀p H',aB H H'->H' p=some (.tup (xs++ys))->Q (.ref p) H'
def yH:ji X (binaryOp .Add) (aj5 X.K):=by
 intro ao s σ H x y v u Q I rx ry h;let⟨a,b,xs,ys,rfl,rfl,ha,hb,hz,e1,e2,q⟩:=h;cases rx;cases ry;let⟨its,r1,p1,_⟩:=I.tuple ha;let⟨D,r2,p2,_⟩:=I.tuple hb;by_cases hx:xs=[]
 .let hi:its=[]:=r1.Bx.mpr hx;obtain⟨⟨cls,dd,data,sl⟩,ho,hc,n,hd⟩:=id p1;obtain⟨⟨Z,J,O,Y⟩,j,F,n2,G⟩:=id p2;simp only at hc hd F G;subst hc hd F G;show concat_meets ⟨_,ho,rL⟩ ⟨_,j,rL⟩ noFill_tuple_add seq_tuple_add md lI (lm _ _)
   (tuple_addW0 a b its.toArray D.toArray n n2 dd J sl Y (by simp[hi])) ⟨ho,j,⟨.ref b,H,I,rL,q b H (aB.refl _) (by rw[hx];show e1 hx)⟩⟩
 .refine HT.af2 p1 p2 (λz=>hx (r1.Bx.mp z)) (λz=>⟨.ref a,H,I,rL,?_⟩) (λz=>?_) (by rw[<-r1.length,<-r2.length];show hz)
  .let hy:=r2.Bx.mp z;show q a H (aB.refl _) (by rw[hy,e_];show e2 hy hx)
  .calc⟨.ref s.heap.objs.size,_,I.laid (t':=s.toks) (o:=.tup (xs++ys)) (λb ob q=>ag _ q) (ax _) ?_,rL,q _ _ (aB.upd (I.hok.fresh (ax _))) aA⟩;show⟨by rw[am];show hz,_,r1.append r2,IsTup.new _ _⟩
def ala (K:W.Frag):V->Option Int->Option Int->Hp->VK->Prop:=λx lo hi H Q=>∃a xs,x=.ref a/\H a=some (.tup xs)/\∀p H',aB H H'->H' p=some (.tup (jy xs lo hi))->Q (.ref p) H'
def yI:SlR X (ala X.K):=by
 intro ao s σ H x v J G lo hi sl Q I F hs pl D h;let⟨a,xs,rfl,hx,q⟩:=h;cases F;let⟨its,r,ht,hz⟩:=I.tuple (aQ.of hx);let j:its.toArray.size=xs.length:=by rw[bz];show r.length.symm
 calc⟨"tuple",_,fA.lookup,ht.typeIs,?_⟩;by_cases hw:HT.dY xs.length 0 lo=0/\HT.dY xs.length xs.length hi=xs.length
 .calc HT.Jg ht hs pl D (by rw[j];show hw) ⟨.ref a,H,I,rL,q a H (aB.refl _) ?_⟩;unfold jy;rw[hw.1,hw.2];simpa using hx
 .calc HT.Jf ht hs pl D (by rw[j];show hw) ?_ (by rw[j];show hz);rw[j];calc⟨.ref s.heap.objs.size,_,I.laid (t':=s.toks) (o:=.tup (jy xs lo hi)) (λb ob q=>ag _ q) (ax _) ?_,rL,q _ _ (aB.upd (I.hok.fresh (ax _))) aA⟩;show⟨b8 (Jq xs lo hi) hz,_,(r.drop (HT.dY xs.length 0 lo)).take (HT.dY xs.length xs.length hi-HT.dY xs.length 0 lo),IsTup.new _ _⟩
def yR:fillsNumberSlot (.type "tuple") "mul"=pure false:=PySem.fillsNumberSlot_seq (id:="tuple.__mul__") (r:=some (.builtin "tuple.__rmul__")) kf.lookup qS (by rw[typeLookup_type,builtinLookup_eq_fast];kernel_rfl) qS
def Fp:seqRepeat? (.type "tuple")=pure (some (.builtin "tuple.__mul__")):=by unfold seqRepeat?;rw[PySem.seqSlot_of (T:="tuple") (name:="__mul__") (id:="tuple.__mul__") kf.lookup qS,PySem.seqSlot_of (T:="tuple") (name:="__rmul__") (id:="tuple.__rmul__") (by rw[typeLookup_type,builtinLookup_eq_fast];kernel_rfl) qS];rfl
def L_ (a)(t:Tok)(l)(items)(n)(dd)(sl):Meets (Builtin.«int.__rmul__» ⟨[.int a t,.ref l],[]⟩) (λ_ R s=>s.heap.get? l=some {cls:=.type "tuple",dict:=dd,data:=.seq items n,slots:=sl}/\R (.ok (.ret Value.notImplemented)) s):=
 .of_wp λprog w A R s h=>by
  let⟨hp,g,d,tk,os⟩:=s;let⟨hl,h⟩:=h
  wp_walk
  show⟨_,rL,h⟩
def YX {α:Type}(n)(l:List α):(List.replicate n l).flatten.length=n*l.length:=by
 induction n with| zero=>simp| succ n ih=>rw[dS,fi,am,ih,pj];lia
theorem YZ:∀(n:Nat) (a j:Array Value),List.foldl (λx1 D=>x1++D) j (List.replicate n a)=(j.toList++(List.replicate n a.toList).flatten).toArray
 | 0,a,j=>by simp
 | n+1,a,j=>by rw[dS,nv,YZ n a (j++a)];simp[dS]
def Rb (n:Nat)(a:Array Value):List.foldl (λx1 j=>x1++j) #[] (List.replicate n a)=((List.replicate n a.toList).flatten).toArray:=by rw[YZ];simp
def aaM (l)(j:Array Value)(n)(dd)(sl)(x)(u:Tok)(h0:¬j.isEmpty=true)(h1:2<=x)(h2:x<=100)(h3:j.size<=100):Meets (Builtin.«tuple.__mul__» ⟨[.ref l,.int x u],[]⟩) (λ_ R s=>s.heap.get? l=some {cls:=.type "tuple",dict:=dd,data:=.seq j n,slots:=sl}/\R (.ok (.ret (.ref s.heap.objs.size))) {s with heap:=s.heap.push {cls:=.type "tuple",data:=.seq (List.foldl (λx1 D=>x1++D) #[] (List.replicate x.toNat j))} }):=
 .of_wp λprog w A R s h=>by
  let⟨hp,g,d,tk,os⟩:=s;let⟨hl,h⟩:=h;let f1:=AutoSeq1.idx_int;let f2:=AutoSeq1.sub_tuple_tuple;let c1:(decide (x < -(2^63))||decide (x>=2^63))=false:=by simp;lia
  let c2:(j.isEmpty||x==1)=false:=by simp at h0;simp[h0];lia
  let c3:(decide (x<=0)||j.isEmpty)=false:=by simp at h0;simp[h0];show Int.le_of_lt h1
  wp_walk using jS hl
  rw[if_neg (by rw[c1];decide)]
  wp_walk using jS hl
  rw[if_neg (by rw[c2];decide)]
  try wp_walk using jS hl
  rw[if_neg (by rw[c3];decide)];let c4:(j.size:Int)*x<=10000:=lx (show (j.size:Int)<=100 by lia) h2 qk qk
  try wp_walk using jS hl
  rw[if_neg qk]
  try wp_walk using jS hl
  rw[if_neg (by unfold Builtin.Tuple.tupleTooMany;simp[sizeLine];lia)];let hz:(List.foldl (λx1 D=>x1++D) #[] (List.replicate x.toNat j)).size<=sizeLine:=by rw[Rb,bz,YX,fN];have:x.toNat*j.size<=100*100:=gt (by simp_all) h3;show b8 this qr
  calc ae ?_;unfold Builtin.Tuple.tupleExact;calc gS ?_ hz;show aI ⟨_,rL,h⟩
def aj6 (K:W.Frag):R2:=λx y H Q=>∃a xs,∃n:Nat,x=.ref a/\y=.int n/\aQ K H a xs/\xs≠[]/\2<=n/\n<=100/\xs.length<=100/\∀p,H p=none->Q (.ref p) (upd H p (.tup (List.replicate n xs).flatten))
theorem Uy (r:Vals xs us):∀n,Vals (List.replicate n xs).flatten (List.replicate n us).flatten
 | 0=>.nil
 | n+1=>by rw[dS,dS,fi,fi];show r.append (Uy r n)
def agi:ji X (binaryOp .Mult) (aj6 X.K):=by
 intro ao s σ H x y v u Q I J O h;let⟨a,xs,n,rfl,rfl,ha,hx,Y,F,j,q⟩:=h;cases J;let⟨tk,rfl⟩:=O;let⟨its,r1,p1,_⟩:=I.tuple ha;let hl:=r1.length;obtain⟨⟨cls,dd,data,sl⟩,D,G,m,hd⟩:=id p1;simp only at G hd;subst G hd;let h0:¬its.toArray.isEmpty=true:=λz=>hx (r1.Bx.mp (by simpa using z));refine k9 (T:="tuple") (U:="int") qr ⟨_,D,rL⟩ (λs'=>typeIs_int s' _ _) yR PySem.F.fills_int_mul kr Fp PySem.F.slot_int_index.lookup
  (call_meets kr (typeIs_int s _ _) PySem.F.entry_int_rmul (PySem.F.args_int_rmul_2 _ _) (L_ _ _ a its.toArray m dd sl) ⟨D,rL,⟨_,D,rL⟩,?_⟩)
 calc call_meets kf ⟨_,D,rL⟩ PySem.F.entry_tuple_mul (PySem.F.args_tuple_mul_2 _ _) (aaM a its.toArray m dd sl (n:Int) _ h0 qk qk (by rw[bz,<-hl];show j)) ⟨D,?_⟩;calc⟨.ref s.heap.objs.size,_,I.laid (t':=s.toks) (o:=.tup (List.replicate n xs).flatten) (λb ob q=>ag _ q) (ax _) ?_,rL,q _ (I.hok.fresh (ax _))⟩;refine⟨?_,(List.replicate n its).flatten,Uy r1 n,?_⟩
 .rw[YX];have:n*xs.length<=100*100:=gt F j;show b8 this qr
 .rw[Rb,show ((n:Int)).toNat=n from rL,show its.toArray.toList=its by simp];show IsTup.new _ _
end
def zL (K:Frag)(C fI:Addr):Bool:=match K.lookup C with
 | some ⟨.type "type",_,.cls cd,sl⟩=>(match cd.mro,sl.toList with
  | .ref D::tl,[_,_,_,_,some (.builtin n),_]=>(D==C)&&(n=="ValueError.__new__")&&(!cd.hasDel)&&(cd.hasDict&&(tailIn K jl tl&&(nsOkIn K cd.ns&&(nsIn K cd.ns "__init__" == some (some (.ref fI))))))
  | _,_=>false)
 | _=>false
def alb {K:Frag}(X:K.In h)(G:h.Ns N m)(e:nsIn K N n=some (some v)):m n=some v:=by
 let⟨o,es,ep,j,hd,_,D⟩:=G;unfold nsIn at e;split at e
 .next c0 d0 es0 n0 Rc q=>
  let z:=X _ _ q;rw[j]at z;cases z;cases hd;split at e
  .next en he=>cases e;rw[<-D];unfold nsFind findBy;rw[<-Array.find?_toList,he];rfl
  .split at e <;> cases e
 .cases e
def Oj {K:Frag}(X:K.In h)(q:zL K C fI=true):∃bm N nm q bs sn sub ab col dd k0 k1 k2 k3 k5 mN,h.get? C=some (excClassObj nm q C N bs bm true sn sub ab col dd k0 k1 k2 k3 k5 "ValueError.__new__")/\h.Ns N mN/\mN "__init__"=some (.ref fI)/\OwnTail h jl bm:=by
 unfold zL at q;split at q
 .next dd cd sl ho=>
  split at q
  .next D tl k0 k1 k2 k3 n k5 hm hs=>rw[cp,cp,cp,cp,cp,cp,beq_iff_eq,beq_iff_eq,beq_iff_eq,Bool.not_eq_true']at q;obtain⟨⟨⟨e1,e2⟩,e3⟩,e4,ht,hok,hi⟩:=q;subst e1 e2;let⟨nm,bs,mro,ns,j,hd,sn,sub,ab,col,G⟩:=cd;dsimp only at hm e3 e4 hok hi;subst hm e3 e4;let⟨F⟩:=sl;dsimp only at hs;subst hs;show⟨tl,ns,nm,j,bs,sn,sub,ab,col,dd,k0,k1,k2,k3,k5,_,X _ _ ho,.of_isNs (isNs_of_in X hok),alb X (.of_isNs (isNs_of_in X hok)) hi,tail_of_in X ht⟩
  .cases q
 .cases q
section
variable {prog:Program}{w:World}{A:Around}{E:AB}{h:Heap}{g:Array GenState}{d:Drawn}{t:Nat}{os:OsState}
variable {nm q:Str}{C N fI:Addr}{bs bm:List Value}{sn:List Str}{sub:List Value}{ab:Bool}{col:Option Bool}{dd:Option Addr}{k0 k1 k2 k3 k5:Option Value}{oI:Obj}{mN:Str->Option Value}{rest:List Value}
abbrev newArgs (rest:List Value):Obj:={cls:=.type "tuple",data:=.seq rest.toArray}
abbrev newExc (C a:Addr):Obj:={cls:=.ref C,data:=.fields #[.ref a,.none,.none,.none,.bool false,.none]}
def Uz (T:OwnTail h jl bm)(j:h.get? C=some (excClassObj nm q C N bs bm true sn sub ab col dd k0 k1 k2 k3 k5 "ValueError.__new__"))(hn:h.Ns N mN)(hi:mN "__init__"=some (.ref fI))(hf:h.get? fI=some oI)(G:oI.cls=.type "function")(hz:rest.length<=sizeLine)(hq:wpAny (model prog w) A (call (.ref fI) (.ref (h.objs.size+1)::rest)) (λr s'=>r=.none/\Q (.done (.ret (.ref (h.objs.size+1)))) s') E ⟨(h.push (newArgs rest)).push (newExc C h.objs.size),g,d,t,os⟩):wpAny (model prog w) A (Builtin.«type.__call__» ⟨.ref C::rest,[]⟩) Q E ⟨h,g,d,t,os⟩:=by
 let F:=gg
 repeat (first|with_reducible refine iE j ?_|with_reducible refine wpAny_madeBy_exc j ?_|wp_step)
 calc codeAny_call_builtin_code (Code.quiet_builtin _ F.quiet) (wpAny_check_new_subT F T j (codeAny_exc_new_subT F T j ?_ hz));show wpAny _ _ _ _ _ _;let up:∀b o,h.get? b=some o->((h.push (newArgs rest)).push (newExc C h.objs.size)).get? b=some o:=λb o z=>ag _ (ag _ z);let I:=up _ _ j;let Y:=up _ _ hf;let J:=hn.keeps up;let Z:=T.keeps up;let O:((h.push (newArgs rest)).push (newExc C h.objs.size)).get? (h.objs.size+1)=some (newExc C h.objs.size):=by heap_get
 let D:(Value.ref C::bm).contains (.ref C)=true:=qo;unfold isInstance
 repeat (first|with_reducible refine iE O ?_|(with_reducible calc wpAny_isSubtype_exc I ?_;rw[D])|wp_step)
 show wpAny _ _ (typeLookup (.ref C) "__init__") _ _ _;calc wpAny_typeLookup_tail I J Z F.mroIs F.init.lookup ?_;rw[hi];calc fz (ae ?_);unfold bindSpecial;calc ae (wpAny_typeOf (T:="function") ⟨_,Y,G⟩ ?_);rw[if_pos qr];calc aI (ae (eh hq (λr s' z=>?_) λ_ _ y=>y));let⟨rfl,z⟩:=z
 wp_walk
 show z
def aeo (T:OwnTail h jl bm)(j:h.get? C=some (excClassObj nm q C N bs bm true sn sub ab col dd k0 k1 k2 k3 k5 "ValueError.__new__"))(hn:h.Ns N mN)(hi:mN "__init__"=some (.ref fI))(G:h.get? fI=some oI)(D:oI.cls=.type "function")(hz:rest.length<=sizeLine)(F:wpAny (model prog w) (A.under (.builtin "type.__call__" ⟨.ref C::rest,[]⟩)) (call (.ref fI) (.ref (h.objs.size+1)::rest)) (λr s'=>r=.none/\Q (.ref (h.objs.size+1)) s') E ⟨(h.push (newArgs rest)).push (newExc C h.objs.size),g,d,t,os⟩):wpAny (model prog w) A (call (.ref C) rest) Q E ⟨h,g,d,t,os⟩:=by
 let f1:=tc_lookup;let f2:=tc_bind (.ref C);let I:(⟨h,g,d,t,os⟩:Shared).TypeIs (.ref C) "type":=⟨_,j,rL⟩
 calc gu (codeAny_of_tree ?_);show wpAny _ _ (callAny (.ref C) _) _ _ _
 repeat (any_goals (first|assumption|with_reducible refine iE j ?_|wp_step))
 show⟨rL,codeAny_call_builtin_at (Code.quiet_builtin _ qS) entry_typeCall (wpAny_check_type_call_sub j (Uz T j hn hi G D hz F))⟩
end
section
variable {M:Model}{A:Around}{E:AB}{s:Shared}{env:Env}{x:Sem Value}{Q:Flow->Shared->Prop}
variable {nm q:Str}{C N:Addr}{bs bm:List Value}{hdct:Bool}{sn:List Str}{sub:List Value}{ab:Bool}{col:Option Bool}{dd:Option Addr}{k0 k1 k2 k3 k5:Option Value}{newId:String}
def acu (hb:bm.contains (.type "BaseException")=true)(F:A.handled=none)(hx:wpAny M A x (λv s1=>∃e oe vs,v=.ref e/\s1.heap.get? C=some (excClassObj nm q C N bs bm hdct sn sub ab col dd k0 k1 k2 k3 k5 newId)/\s1.heap.get? e=some oe/\oe.cls=.ref C/\oe.data=.fields vs/\vs[1]?=some .none/\E (.ref e) s1) E s):wpAny M A (raiseStmt env (some x) none) Q E s:=by
 let inB:(Value.ref C::bm).contains (.type "BaseException")=true:=by rw[List.contains_cons,hb,Bool.or_true]
 unfold raiseStmt;calc ae (eh hx (λv s1 z=>?_) λ_ _ y=>y);let⟨e,oe,vs,rfl,j,G,D,hd,h1,J⟩:=z;let⟨oc,od,I,osl⟩:=oe;dsimp only at D hd;subst D hd;let⟨hp,g,d,tk,os⟩:=s1
 repeat (first|with_reducible refine iE G ?_|with_reducible refine iE j ?_|(with_reducible calc wpAny_isSubtype_exc j ?_;rw[inB])|wp_step)
 rw[h1];calc aI ?_;rw[if_neg qr];show aI (wpAny_raiseNew_none F J)
end
def jP (a:Addr)(cls:Value)(dd:Option Addr):Heap->Prop:=λh=>∃oe vs,h.get? a=some oe/\oe.cls=cls/\oe.dict=dd/\oe.data=.fields vs/\vs[1]?=some .none/\vs[2]?=some .none/\dd≠some a
def jP.at {h h':Heap}(x:jP a cls dd h)(k:∀o,h.get? a=some o->h'.get? a=some o):jP a cls dd h':=let ⟨oe,vs,e,r⟩:=x;⟨oe,vs,k oe e,r⟩
def jP.ok (x:jP a cls dd h):ig P w H h a (.ext (jP a cls dd)):=⟨x,let ⟨oe,_,e,_⟩:=x;⟨oe,e⟩,λ_ _ y k=>y.at k⟩
def drop (H:Hp)(a:Addr):Hp:=λb=>if b=a then none else H b
def tX:drop H a a=none:=by unfold drop;rw[if_pos rfl]
def lB (h:b≠a):drop H a b=H b:=by unfold drop;rw[if_neg h]
section
variable {X:Cx}{ao:AF}{σ:St}{H:Hp}{s:Shared}{a:Addr}{φ:Heap->Prop}
def aX.drop (I:aX X ao σ H s)(ha:H a=some (.ext φ))(LQ:∀b o,X.s₀.heap.get? b=some o->b≠a):aX X ao σ (L2.drop H a) s:=by
 let ne:∀b u,H b=some u->(∀φ,u≠.ext φ)->b≠a:=λb u e n z=>by rw[z,ha]at e;cases e;show n φ rfl
 refine⟨I.ok,I.os,I.bare,⟨I.base.keep,I.base.slot,λb o e n hx=>?_,I.base.there,λb xs e=>?_,λb o u e=>?_,λb ps e=>?_⟩,I.loc,I.cell,?_,λx c e=>?_,λp hp=>?_,λb o e=>?_,I.len⟩
 .by_cases hb:b=a;.rw[hb];show tX
  .rw[lB hb];show I.base.free b o e n hx
 .let z:=I.base.tups b xs e;rw[lB (ne b _ z λφ=>by simp)];show z
 .let z:=I.base.rK b o u e;rw[lB (ne b _ z λφ=>by simp)];show z
 .let⟨more,z⟩:=I.base.tG b ps e;show⟨more,by rw[lB (ne b _ z λφ=>by simp)];show z⟩
 .by_cases hb:X.env.locals=a;.rw[hb];show tX
  .rw[lB hb];show I.free
 .by_cases hb:c=a;.rw[hb];show tX
  .rw[lB hb];show I.mZ x c e
 .let⟨e1,e2,e3⟩:=I.pin p hp;calc⟨e1,?_,e3⟩;by_cases hb:p.1=a;.rw[hb];show tX
  .rw[lB hb];show e2
 .by_cases hb:b=a;.rw[hb,tX]at e;cases e
  .rw[lB hb]at e;refine(I.hok b o e).stay (λc u _ z=>z) (λc r=>?_) λc xs r=>?_
   .rw[lB (ne c _ r λφ=>by simp)];show r
   .rw[lB (ne c _ r λφ=>by simp)];show r
end
structure MkX (K:Frag)(C f:Addr):Prop where
 ini:zL K C f=true
 fn:W.isFn K (.ref f)=true
 kp:W.keepIn K (.ref C)=true
def agj (C:Addr)(sp:Sp)(E:XK)(t:TA):TS:=λ_ σ H=>t σ H λvs H1=>vs.length<=sizeLine/\∀a,H1 a=none->sp (.ref a::vs) (upd H1 a (.ext (jP a (.ref C) none))) (λv j=>v=.non/\∃dd,j a=some (.ext (jP a (.ref C) dd))/\E (.ref C) dd (drop j a)) E0
section
variable {X:Cx}{k:Nat}{f C:Addr}{fd:FuncData}{ps:List Str}{sp:Sp}{x:Str}{p pos cpos:Pos}{e:Expr}{es:List Expr}{t:TA}{E:XK}
def agk {ao:AF}{s:Shared}{σ:St}{H:Hp}{G:Addr->Hp->Prop}(M:MkX X.K C f)(F:cU X.prog X.w X.K X.mg X.base eV k f fd ps sp)(hr:iu (k+1) X.A)(hg:Gl X x)(hm:X.mg x=some (.ref C))(hb:cD X.K fd ps [])(ha:QA X (e::es) t)(I:aX X ao σ H s)(h:t σ H λvs H1=>vs.length<=sizeLine/\∀a,H1 a=none->sp (.ref a::vs) (upd H1 a (.ext (jP a (.ref C) none))) (λv Y=>v=.non/\G a Y) E0)(hdb:(x==("__debug__":Str))=false)(hs:starEach (e::es) X.env=(false,eval e X.env)::starEach es X.env)(hpl:(backTo cpos (starEach es X.env)).any (·.1)=false):wpAny (model X.prog X.w) X.A (eval (.Call (.Name x p) (e::es) [] cpos) X.env) (λv s'=>∃a Y,v=.ref a/\aX X ao σ Y s'/\X.s₀.heap.objs.size<=a/\G a Y) X.xe s:=by
 calc gp (oJ I hg hm ?_ hdb);calc ic (h₀:=X.base) I.ok.mod.En M.kp (cP (ha.out cpos ao s σ H _ I h) λus s1 ⟨vs,H1,J,r,hz,q⟩=>⟨J.je,?_⟩) hs hpl;let⟨bm,N,nm,qn,bs,sn,sub,ab,col,dd,k0,k1,k2,k3,k5,mN,cC,cN,ci,T⟩:=Oj J.je M.ini;obtain⟨oI,hoI,hcI⟩:∃oI,s1.heap.get? f=some oI/\oI.cls=.type "function":=by
  let z:(X.K.lookup f).map (·.cls)=some (.type "function"):=beq_iff_eq.mp M.fn;cases y:X.K.lookup f with
  | none=>rw[y]at z;cases z
  | some of=>rw[y]at z;show⟨of,J.je _ _ y,bq z⟩
 let O:X.s₀.heap.objs.size<=s1.heap.objs.size+1:=Nat.le_succ_of_le J.sz;let⟨j,g,d,tk,os⟩:=s1;let I2:aX X ao σ H1 ⟨j.push (newArgs us),g,d,tk,os⟩:=J.kept (t':=tk) λb u z=>ag _ z;let hsz:(j.push (newArgs us)).objs.size=j.objs.size+1:=fk _ _;let eX:((j.push (newArgs us)).push (newExc C j.objs.size)).get? (j.objs.size+1)=some (newExc C j.objs.size):=by heap_get
 let Z:aX X ao σ (upd H1 (j.objs.size+1) (.ext (jP (j.objs.size+1) (.ref C) none))) ⟨(j.push (newArgs us)).push (newExc C j.objs.size),g,d,tk,os⟩:=I2.laid (t':=tk) (λb u z=>ag _ z) (iS hsz) (jP.ok ⟨_,_,eX,rL,rL,rL,rL,rL,qo⟩)
 let hq:=q (j.objs.size+1) (I2.hok.fresh (iS hsz));let r2:Vals (V.ref (j.objs.size+1)::vs) (Value.ref (j.objs.size+1)::us):=.cons rL r;let hl:(Value.ref (j.objs.size+1)::us).length=ps.length:=by rw[<-r2.length];show F.len _ _ _ _ hq
 let hB:=hb ⟨(j.push (newArgs us)).push (newExc C j.objs.size),g,d,tk,os⟩ (Value.ref (j.objs.size+1)::us) Z.je (by rw[e_];show hl);rw[e_]at hB;calc aeo T cC cN ci hoI hcI (by show us.length<=sizeLine;rw[<-r.length];show hz) (gu (iX (F.run _ X.stack _ _ ⟨Value.ref (j.objs.size+1)::us,[]⟩ (Value.ref (j.objs.size+1)::us) _ _ E0 (hr.make C us []) (Z.env0.make C us []) hB r2 hq) λr s' D=>?_));cases r with
 | error e=>show False.elim D
 | ok fl=>
  cases fl with
  | ret u=>let⟨v,H',I4,rv,ev,q3⟩:=Z.after D;subst ev;show⟨rv,_,H',rL,I4,O,q3⟩
  | next=>show False.elim D
  | brk=>show False.elim D
  | cont=>show False.elim D
def wY (hl:Lets X E)(hc:X.calm=true)(M:MkX X.K C f)(F:cU X.prog X.w X.K X.mg X.base eV k f fd ps sp)(hr:iu (k+1) X.A)(hg:Gl X x)(hm:X.mg x=some (.ref C))(hb:cD X.K fd ps [])(ha:QA X (e::es) t)(O:(x==("__debug__":Str))=false:=by decide)(hs:starEach (e::es) X.env=(false,eval e X.env)::starEach es X.env:=by rfl)(J:(backTo cpos (starEach es X.env)).any (·.1)=false:=by rfl):QS X (.Raise (some (.Call (.Name x p) (e::es) [] cpos)) none pos) (agj C sp E t):=⟨by
 intro ao s σ H D I h;let run:=agk (p:=p) M F hr hg hm hb ha I h O hs J;let⟨bm,N,nm,qn,bs,sn,sub,ab,col,dd,k0,k1,k2,k3,k5,mN,cC,cN,ci,T⟩:=Oj I.ok.mod.En M.ini;rw[arm_exec_Raise];refine ae (mm (acu (C:=C) (nm:=nm) (q:=qn) (N:=N) (bs:=bs) (bm:=bm) (hdct:=true) (sn:=sn) (sub:=sub) (ab:=ab) (col:=col) (dd:=dd) (k0:=k0) (k1:=k1) (k2:=k2) (k3:=k3) (k5:=k5) (newId:="ValueError.__new__")
  (T.hasType gg.hasBase) (I.ok.hd hc) (ae (eh run (λv s1 z=>ae (mm (aI ?_))) λ_ _ y=>y))))
 let⟨a,H2,rfl,Y,Z,dd2,j,hE⟩:=z;obtain⟨⟨oe,vs,he,h1,h2,h3,h4,G,_⟩,_⟩:=Y.hok a _ j;let LQ:∀b o,X.s₀.heap.get? b=some o->b≠a:=λb o z y=>absurd (a_ z) (by rw[y];show Nat.not_lt.mpr Z);let I3:=Y.drop j LQ;calc⟨a,oe,vs,rL,Y.bk _ _ cC,he,h1,h3,h4,hl ao σ _ _ a oe vs I3 he h3 h4 G tX LQ ?_⟩;rw[h1,h2];show hE⟩
end
section
variable {prog:Program}{w:World}{A:Around}{E:AB}{h:Heap}{g:Array GenState}{d:Drawn}{t:Nat}{os:OsState}
variable {nm q:Str}{C N a:Addr}{bs bm:List Value}{sn:List Str}{sub:List Value}{ab:Bool}{col:Option Bool}{dd:Option Addr}{k0 k1 k2 k3 k5:Option Value}{rest:List Value}{Q:AB}{oe:Obj}{vs:Array Value}
def acv (T:OwnTail h jl bm)(Y:h.get? C=some (excClassObj nm q C N bs bm true sn sub ab col dd k0 k1 k2 k3 k5 "ValueError.__new__"))(G:h.get? a=some oe)(J:oe.cls=.ref C)(hd:oe.data=.fields vs)(hz:0<vs.size)(hr:rest.length<=sizeLine)(I:Q .none ⟨(h.push (newArgs rest)).update a (Obj.mapFields (·.setIfInBounds 0 (.ref h.objs.size))),g,d,t,os⟩):wpAny (model prog w) A (call (.builtin "ValueError.__init__") (.ref a::rest)) Q E ⟨h,g,d,t,os⟩:=by
 let F:=gg;let⟨oc,od,O,osl⟩:=oe;dsimp only at J hd;subst J hd;calc gu (kM F.init.plain F.initEntry (wpAny_check_init_subT F T Y G rL ?_));let j:(h.push (newArgs rest)).get? a=some ⟨.ref C,od,.fields vs,osl⟩:=ag _ G;unfold Builtin.«BaseException.__init__»
 repeat (first|with_reducible refine iE j ?_|wp_step)
 obtain⟨D,e0⟩:∃D,vs[0]?=some D:=⟨_,oS hz⟩
 rw[e0];calc aI (ae (nX j rL hz ?_));cases D <;> first|show wpAny_letGo (aI I)|show aI (aI I)
end
def vI:List Value->Bool
 | .ref _::r=>vI r
 | l=>l==jl
theorem Fq (self):∀{l:List Value},vI l=true->refuseLoop self "__setattr__" l=pure ()
 | .ref _::r,e=>(refuseLoop_ref self "__setattr__" _ r).trans (Fq self (l:=r) e)
 | [],e=>by cases e
 | .type n::r,e=>by rw[beq_iff_eq.mp (show (Value.type n::r==jl)=true from e)];show PySem.F.store_ValueError.passes self
 | .none::r,e=>by cases(beq_iff_eq.mp (show (Value.none::r==jl)=true from e))
 | .bool b::r,e=>by cases(beq_iff_eq.mp (show (Value.bool b::r==jl)=true from e))
 | .int i t::r,e=>by cases(beq_iff_eq.mp (show (Value.int i t::r==jl)=true from e))
 | .float i t::r,e=>by cases(beq_iff_eq.mp (show (Value.float i t::r==jl)=true from e))
 | .str i t::r,e=>by cases(beq_iff_eq.mp (show (Value.str i t::r==jl)=true from e))
 | .bytes i t::r,e=>by cases(beq_iff_eq.mp (show (Value.bytes i t::r==jl)=true from e))
 | .builtin n::r,e=>by cases(beq_iff_eq.mp (show (Value.builtin n::r==jl)=true from e))
structure Ft (K:Frag)(C:Addr):Prop where
 ln:((clsIn K C).any λcd=>cd.hasDict&&vI cd.mro)=true
 ob:mroIn K C (.type "object")=some true
 sa:findIn K (.ref C) "__setattr__"=some (some (.builtin "object.__setattr__"))
section
open Builtin Builtin.ObjectAttr
variable {prog:Program}{w:World}{A:Around}{E:AB}{s:Shared}{K:Frag}{x C:Addr}{ox:Obj}{od:Option Obj}{name:Str}{v:Value}
def Rg (X:K.In s.heap)(T:Ft K C)(hn:findIn K (.ref C) name=some none)(I:InstAt s.heap x ox C od)(h:wpAny (model prog w) A.in1 (storeInOwnDict (.ref x) (.ref C) (.str name s.toks) name v false) (λj s'=>match j with|.done (.ret _)=>Q () s'|_=>False) (λ_ _=>False) {s with toks:=s.toks+1}):wpAny (model prog w) A (setAttr (.ref x) name v) Q E s:=by
 let F:=PySem.F.store_ValueError;let⟨cd,Z,G⟩:=any_some T.ln;rw[cp]at G;let D:=I.type (M:=model prog w);let J:Looks (model prog w) s.heap (mroOf (.ref C)) cd.mro:=(looks_clsIn X Z).andThen .now;let O:Looks (model prog w) s.heap (isInstance (.ref x) (.type "object")) true:=D.andThen (looks_mroIn X T.ob);let Y:=looks_findIn (M:=model prog w) X hn;let⟨hh,g,d,t,os⟩:=s;unfold setAttr;calc ae (wpAny_mkText (ae (ae (ae (D.at ((looks_findIn X T.sa).at (fz (ae ?_))))))));rw[F.slot.bind (.ref x)];calc aI (ae (gu (kM F.slot.plain F.entry (@check_slot (model prog w) _ _ _ "object.__setattr__" "object" "__setattr__" (.ref x) [.str name t,v] [] _ F.kind F.split O (F.args (.ref x) (.str name t) v) ?_))));show wpAny (model prog w) A.in1 (Builtin.«object.__setattr__» ⟨[.ref x,.str name t,v],[]⟩) _ _ _;rw[osa_eq,refuse_eq];calc ae (ae (D.at (ae (J.at ?_))));rw[Fq _ G.2];calc aI (ae (D.at (ae (Y.at (ae (aI ?_))))));calc eh h (λj s' z=>?_) λ_ _ z=>z.elim;cases j with
 | done f=>cases f with| ret u=>show aI (aI z)| next=>show z.elim| brk=>show z.elim| cont=>show z.elim
 | again c=>show z.elim
end
section
open Builtin Builtin.ObjectAttr
variable {prog:Program}{w:World}{A:Around}{E:AB}{h:Heap}{g:Array GenState}{d:Drawn}{t:Nat}{os:OsState}{K:Frag}{x C dx:Addr}{vs:Array Value}{sl:Array (Option Value)}{name:Str}{v:Value}{Q:Fin->Shared->Prop}{b:Bool}{tk:Tok}
def aaO (X:K.In h)(T:Ft K C)(hx:h.get? x=some ⟨.ref C,none,.fields vs,sl⟩)(hq:∀h' t',h'.Ns1 h.objs.size (λy=>if y=name then some v else none)->h'.get? x=some ⟨.ref C,some h.objs.size,.fields vs,sl⟩->(∀c o,c≠x->h.get? c=some o->h'.get? c=some o)->Q (.done (.ret .none)) ⟨h',g,d,t',os⟩):wpAny (model prog w) A (storeInOwnDict (.ref x) (.ref C) (.str name tk) name v b) Q E ⟨h,g,d,t,os⟩:=by
 let⟨cd,hc,J⟩:=any_some T.ln;rw[cp]at J;let xs:x≠h.objs.size:=cv (a_ hx);calc ae (aI (ae (ae (nV hx (ae ((looks_clsIn X hc).here ?_))))));rw[J.1];let j:(h.push {cls:=.type "dict",data:=.dict #[]}).get? x=some ⟨.ref C,none,.fields vs,sl⟩:=ag _ hx;calc ae (wpAny_alloc' ?_);calc ae (wpAny_update' j ?_);calc aI ?_;generalize e1:((h.push {cls:=.type "dict",data:=.dict #[]}).update x λo=>{cls:=o.cls,dict:=some h.objs.size,data:=o.data,slots:=o.slots})=h1;let g1:h1.get? h.objs.size=some {cls:=.type "dict",data:=.dict #[]}:=by rw[<-e1];show(Heap.get?_update_ne _ _ _ _ xs.symm).trans (Heap.get?_push_at rL rL)
 let g2:h1.get? x=some ⟨.ref C,some h.objs.size,.fields vs,sl⟩:=by rw[<-e1];show ik _ j rfl
 let O:∀c o,c≠x->h.get? c=some o->h1.get? c=some o:=λc o n z=>by rw[<-e1];show(Heap.get?_update_ne _ _ _ _ n).trans (ag _ z)
 let n1:h1.Ns h.objs.size (λ_=>none):=⟨_,#[],_,g1,rL,(λe Z=>absurd Z qo),λ_=>rfl⟩
 show wpAny _ _ (storeInDict h.objs.size (.str name tk) name v) _ _ _;unfold storeInDict newKeyGuard;calc ae (aI (ae (wpAny_nsSet1 (Heap.Ns1.of_empty n1) λh2 I k2=>?_)));let⟨oD,esD,Y,F,G,D⟩:=I.count (oB name v PySem.Within.nil);calc ae (wpAny_lookBehind F (by rw[G];show pastItsLine_dict (b8 D (by rw[dA,p_,sizeLine_eq];lia))) (aI ?_));show hq h2 _ I ((k2.2 x xs).trans g2) λc o n z=>(k2.2 c (cv (a_ z))).trans (O c o n z)
def XF (X:K.In h)(T:Ft K C)(hx:h.get? x=some ⟨.ref C,some dx,.fields vs,sl⟩)(hn:h.Ns1 dx mA)(hw:PySem.Within mA ns)(hl:ns.length<=100)(O:∀h' t',h'.Ns1 dx (λy=>if y=name then some v else mA y)->(∀c o,c≠dx->h.get? c=some o->h'.get? c=some o)->Q (.done (.ret .none)) ⟨h',g,d,t',os⟩):wpAny (model prog w) A (storeInOwnDict (.ref x) (.ref C) (.str name tk) name v b) Q E ⟨h,g,d,t,os⟩:=by let⟨cd,Y,I⟩:=any_some T.ln;rw[cp]at I;calc ae (aI (ae (ae (nV hx (ae ((looks_clsIn X Y).here ?_))))));rw[I.1];calc aI ?_;show wpAny _ _ (storeInDict dx (.str name tk) name v) _ _ _;unfold storeInDict newKeyGuard;calc ae (aI (ae (wpAny_nsSet1 hn λh2 G k2=>?_)));let⟨oD,Z,J,j,F,D⟩:=G.count (oB name v hw);calc ae (wpAny_lookBehind j (by rw[F];show pastItsLine_dict (b8 D (by rw[dA,sizeLine_eq];lia))) (aI ?_));show O h2 _ G λc o n z=>(k2.2 c n).trans z
end
def XD (a:Addr)(fs:List (Str×V)):Heap->Prop:=λh=>∃mA,h.Ns1 a mA/\(∀f,nQ (fs.lookup f) (mA f))/\PySem.Within mA (fs.map (·.1))/\fs.length<=50
def XD.at {h h':Heap}(x:XD a fs h)(k:∀o,h.get? a=some o->h'.get? a=some o):XD a fs h':=let ⟨mA,n,r⟩:=x;⟨mA,n.at k,r⟩
def XD.ok (x:XD a fs h):ig P w H h a (.ext (XD a fs)):=⟨x,let ⟨_,⟨o,_,_,e,_⟩,_⟩:=x;⟨o,e⟩,λ_ _ y k=>y.at k⟩
def aj7 (K : Frag)(ta tv : TE)(f : Str) : TS := λD σ H => tv σ H λy H1 => ta σ H1 λx j => ∃a C dd, x = .ref a /\ j a = some (.ext (jP a (.ref C) dd)) /\ Ft K C /\ findIn K (.ref C) f = some none /\
  ((dd = none /\ ∀dx, dx ≠ a -> j dx = none -> D.nx σ (upd (upd j dx (.ext (XD dx [(f, y)]))) a (.ext (jP a (.ref C) (some dx))))) \/
   ∃dx fs, dd = some dx /\ j dx = some (.ext (XD dx fs)) /\ fs.length<50 /\ D.nx σ (upd j dx (.ext (XD dx (jx f y fs)))))
section
variable {X:Cx}{o value:Expr}{f:Str}{pos pos':Pos}{ta tv:TE}
def yJ (ha:QE X o ta)(hv:QE X value tv)(hs:swapsWith value (some (.Attribute o f pos')) pos.line X.env=pure false):QS X (.Assign [.Attribute o f pos'] value pos) (aj7 X.K ta tv f):=⟨by
 intro ao s σ H D I h;calc plainObj_wpAny_Assign_Attribute (cP (hv.out ao s σ H _ I h) λu s1 zz=>?_) hs;let⟨y,H1,I1,ry,q⟩:=zz;calc cP (ha.out ao s1 σ H1 _ I1 q) λov s2 zz=>?_;let⟨x,J,G,rx,a,C,dd,ex,ea,T,hn,q2⟩:=zz;subst ex;obtain rfl:ov=Value.ref a:=rx;obtain⟨⟨oe,vs,Z,h1,h2,h3,h4,h42,h5⟩,_⟩:=G.hok a _ ea;let⟨oc,od,oda,osl⟩:=oe;dsimp only at h1 h2 h3;subst h1 h2 h3;let hk:X.K.In s2.heap:=G.je;let⟨j,g,d,t,os⟩:=s2;rcases q2 with⟨rfl,q2⟩|⟨dx,fs,rfl,hdx,hl,q2⟩
 .calc Rg hk T hn (od:=none) ⟨Z,rL,rL,True.intro⟩ (aaO hk T Z λh' t' n' e' O=>?_);let xs:a≠j.objs.size:=cv (a_ Z);let nN:J j.objs.size=none:=G.hok.fresh (ax _);let na:∀b,J b=none->b≠a:=λb n z=>by rw[z,ea]at n;cases n
  let ne:∀b w,J b=some w->(∀φ,w≠.ext φ)->b≠a/\b≠j.objs.size:=λb w e n=>⟨λz=>by rw[z,ea]at e;cases e;show n _ rL,λz=>by rw[z,nN]at e;cases e⟩
  let up:∀b,b≠a->b≠j.objs.size->upd (upd J j.objs.size (.ext (XD j.objs.size [(f,y)]))) a (.ext (jP a (.ref C) (some j.objs.size))) b=J b:=λb n1 F=>by rw[bw n1,bw F]
  let lt:∀b o,j.get? b=some o->b≠j.objs.size:=λb o z=>cv (a_ z);let hD:XD j.objs.size [(f,y)] h':=⟨_,n',λg'=>by
    show nQ (List.lookup g' [(f,y)]) (if g'=f then some u else none);by_cases q:g'=f;.rw[if_pos q,q];simp only[List.lookup,beq_self_eq_true];show ry
    .rw[if_neg q];have:(g'==f)=false:=beq_false_of_ne q;simp only[List.lookup,this];trivial,λg' hg=>by
    by_cases q:g'=f;.rw[q];simp
    .show absurd (show (if g'=f then some u else none)=none by rw[if_neg q]) hg,by show 1<=50;decide⟩
  let I3:aX X ao σ (upd (upd J j.objs.size (.ext (XD j.objs.size [(f,y)]))) a (.ext (jP a (.ref C) (some j.objs.size)))) ⟨h',g,d,t',os⟩:=G.un (t':=t')
   ⟨λb o z n _ _=>O b o (na b n) z,λb o z n _ _=>⟨o.slots,O b o (na b n) z⟩,λb o z n _=>(up b (na b n) (lt b o z)).trans n,λb o z _=>by
    by_cases hb:b=a;.show⟨_,by rw[hb];show e'⟩
    .show⟨o,O b o hb z⟩,λb xs e=>by
    let⟨n1,F⟩:=ne b _ e λφ=>by simp
    show(up b n1 F).trans e,λb o xs e=>by
    let⟨n1,F⟩:=ne b _ e λφ=>by simp
    show(up b n1 F).trans e,λb ps e=>by
    let⟨n1,F⟩:=ne b _ e λφ=>by simp
    show⟨#[],by rw[up b n1 F,e];simp⟩⟩ λb o e=>by
   by_cases hb:b=a
   .subst hb;rw[aA]at e;cases e;show jP.ok ⟨_,_,e',rL,rL,rL,h4,h42,λz=>xs (bq z).symm⟩
   .rw[bw hb]at e;by_cases hn:b=j.objs.size
    .subst hn;rw[aA]at e;cases e;show hD.ok
    .rw[bw hn]at e;refine(G.hok b o e).stay (λc w Y z=>O c w (λy=>?_) z) (λc r=>?_) λc xs r=>?_
     .rcases Y with Y|Y;.show hb (Y.symm.trans y)
      .rw[y,ea]at Y;cases Y
     .let⟨n1,F⟩:=ne c _ r λφ=>by simp
      show(up c n1 F).trans r
     .let⟨n1,F⟩:=ne c _ r λφ=>by simp
      show(up c n1 F).trans r
  show⟨σ,_,I3,q2 _ xs.symm nN⟩
 .obtain⟨⟨mA,nA,rA,wA,lA⟩,⟨od,hod⟩,_⟩:=G.hok dx _ hdx;calc Rg hk T hn (od:=some od) ⟨Z,rL,rL,hod⟩ (XF (ns:=fs.map (·.1)) hk T Z nA wA (by rw[aa];lia) λh' t' n' O=>?_);let I3:aX X ao σ (upd J dx (.ext (XD dx (jx f y fs)))) ⟨h',g,d,t',os⟩:=G.write (t':=t') (e:=dx) (by rw[hdx];trivial) (.inl rL) (λb o n z=>O b o n z) (let ⟨o,_,_,e,_⟩:=n';⟨o,e⟩)
   (XD.ok ⟨_,n',λg'=>?_,λg' hg=>?_,?_⟩)
  .show⟨σ,_,I3,q2⟩
  .show nQ ((jx f y fs).lookup g') (if g'=f then some u else mA g');rw[Al];by_cases q:g'=f;.rw[if_pos q,if_pos q];show ry
   .rw[if_neg q,if_neg q];show rA g'
  .by_cases q:g'=f;.rw[q];show(wW f y fs).1
   .calc(wW f y fs).2 g' (wA g' λz=>hg ?_);show (if g'=f then some u else mA g')=none;rw[if_neg q];show z
  .have:=Am f y fs;lia⟩
end
structure InitOf (K:Frag)(R:Addr):Prop where
 ga:specialIn K (.ref R) "__getattribute__"=some (some (.builtin "type.__getattribute__"))
 rd:readsIn K R (.type "type")=true
 fc:findCls K (.ref R) (.type "type") "__init__"=some (.val (.builtin "ValueError.__init__"))
def aep (K:Frag)(t:TA):TE:=λσ H Q=>t σ H λvs H1=>∃a C f dd rest,vs=.ref a::rest/\H1 a=some (.ext (jP a (.ref C) dd))/\zL K C f=true/\rest.length<=sizeLine/\Q .non H1
section
variable {X:Cx}{R:Addr}{x:Str}{np apos pos:Pos}{e:Expr}{es:List Expr}{t:TA}
def yd {pl:Sem Bool}(hg:Gl X x)(hm:X.mg x=some (.ref R))(F:InitOf X.K R)(ha:QA X (e::es) t)(Y:(x==("__debug__":Str))=false:=by decide)(hs:starEach (e::es) X.env=(false,eval e X.env)::starEach es X.env:=by rfl)(hpl:(backTo pos (starEach es X.env)).any (·.1)=false:=by rfl)(ht:eval (.Call (.Attribute (.Name x np) "__init__" apos) (e::es) [] pos) X.env=(do
   let ov <- eval (.Name x np) X.env
   standAt apos.atName
   let (f,first) <- holding [ov] (getMethod ov "__init__" pl)
   callWith pos f first (backTo pos (starEach (e::es) X.env)) (backToKw pos (keywordEach [] X.env))):=by rfl) :
  QE X (.Call (.Attribute (.Name x np) "__init__" apos) (e::es) [] pos) (aep X.K t):=⟨by
 intro ao s σ H Q I h;calc methodCall_KW (pl:=pl) (oJ I hg hm ?_ Y) ht;calc method_cls I.je F.ga (cls_value I.je F.rd F.fc rL ?_);let I0:=I.tok (s.toks+1);calc nc (cP (ha.out pos ao _ σ H _ I0 h) λus s1 zz=>?_) hs hpl;let⟨vs,H1,O,r1,a,C,f,dd,rest,ev,J,hC,hz,q⟩:=zz;subst ev;let⟨bm,N,nm,qn,bs,sn,sub,ab,col,dd',k0,k1,k2,k3,k5,mN,cC,cN,ci,T⟩:=Oj O.je hC;obtain⟨⟨oe,ws,he,h1,h2,h3,h4,Z,h5⟩,_⟩:=O.hok a _ J;obtain⟨u,j,rfl,ra,rr⟩:∃u j,us=u::j/\cW (.ref a) u/\Vals rest j:=by
  cases r1 with| cons ra rr=>show⟨_,_,rL,ra,rr⟩
 obtain rfl:u=Value.ref a:=ra;let⟨D,g,d,tk,os⟩:=s1;let hsz:0<ws.size:=jI (fe 1) (gf.mp h4).1;calc acv T cC he h1 h3 hsz (by rw[<-rr.length];show hz) ?_;let e1:(D.push (newArgs j)).get? a=some oe:=ag _ he;let I2:aX X ao σ H1 ⟨D.push (newArgs j),g,d,tk,os⟩:=O.kept (t':=tk) λb u z=>ag _ z;let G:=n9 h3 (·.setIfInBounds 0 (Value.ref D.objs.size));let e2:((D.push (newArgs j)).update a (Obj.mapFields (·.setIfInBounds 0 (.ref D.objs.size)))).get? a=some (oe.mapFields (·.setIfInBounds 0 (.ref D.objs.size))):=ik _ e1 (kq G);let I3:aX X ao σ (upd H1 a (.ext (jP a (.ref C) dd))) ⟨(D.push (newArgs j)).update a (Obj.mapFields (·.setIfInBounds 0 (.ref D.objs.size))),g,d,tk,os⟩:=I2.write (t':=tk) (e:=a) (by rw[J];trivial) (.inl rL)
  (λb u n z=>(fF _ _ (gm n)).trans z) ⟨_,e2⟩ (jP.ok ⟨_,_,e2,(Obj.cls_mapFields _ _).trans h1,(Ra _ _).trans h2,G,by rw[jb qr];show h4,by rw[jb qr];show Z,h5⟩)
 rw[show upd H1 a (.ext (jP a (.ref C) dd))=H1 from funext λb=>by
  by_cases hb:b=a;.rw[hb,aA,J]
  .rw[bw hb]]at I3
 show⟨.non,H1,I3,rL,q⟩⟩
end
def afG (K:Frag)(ta:TE)(f:Str):TE:=λσ H Q=>ta σ H λx H1=>∃a C dx fs v,x=.ref a/\H1 a=some (.ext (xJ a (.ref C) (some dx)))/\H1 dx=some (.ext (XD dx fs))/\wg K C/\hasDictIn K C=true/\findIn K (.ref C) f=some none/\fs.lookup f=some v/\Q v H1
section
variable {prog:Program}{w:World}{A:Around}{E:AB}{s:Shared}{K:Frag}{x C:Addr}{ox:Obj}{od:Obj}{name:Str}{v:Value}
variable {X:Cx}{e:Expr}{f:Str}{pos:Pos}{ta:TE}
def aaP (X:K.In s.heap)(I:InstAt s.heap x ox C (some od))(j:findObj K C (some od) name=some (.value v))(h:Q (.done (.ret v)) s):wpAny (model prog w) A (Builtin.«object.__getattribute__» ⟨[.ref x,.str name tk],[]⟩) Q E s:=by
 let⟨G,g,d,t,os⟩:=s;let D:=I.type (M:=model prog w);let F:=looks_find (M:=model prog w) X I j;unfold Builtin.«object.__getattribute__»
 repeat (first|lk)
 show h
def alc (T:wg K C)(X:K.In s.heap)(I:InstAt s.heap x ox C (some od))(Y:findObj K C (some od) name=some (.value v))(hv:handedIn v=true)(h:Q v {s with toks:=s.toks+1}):wpAny (model prog w) A (getAttr (.ref x) name expr) Q E s:=by
 let⟨hh,g,d,t,os⟩:=s;let G:=I.type (M:=model prog w);let J:=looks_findIn (M:=model prog w) X T.ga;let L2:=looks_findIn (M:=model prog w) X T.gx;unfold getAttr getAttrBy;calc ae (wpAny_mkText (fz (ae (G.at (ae (J.at ?_))))));show wpAny _ _ (getAttrByItsOwn _ _ _ _ _ _) _ _ _;unfold getAttrByItsOwn hookBefore;rw[if_pos (show onTheHeap (Value.ref C)=true from rL)];calc ae (L2.at (ae (mo (fz ?_))));unfold callGetattribute boundAndCalled;rw[if_neg (by simp[onTheHeap])];let f3:=ip.ga.bind (.ref x);rw[f3];calc ae (aI ?_);calc gu (kM ip.ga.plain F.entry_bexc_ga ?_);let O:builtinKind "BaseException.__getattribute__"=some .slot:=by decide +kernel
 let D:splitId "BaseException.__getattribute__"=some ("BaseException","__getattribute__"):=by decide +kernel
 let Z:=looks_mroIn (M:=model prog w) X T.hb;let j:=F.args_bexc_ga (.ref x) (.str name t);simp only[checkBuiltinCall,O,D];calc ae ?_;unfold isInstance;refine ae (G.at (Z.at ?_))
 repeat (first|refine aaP (x:=x) X I Y ?_|assumption|wp_step)
 show handed_on hv h
def agl (he:QE X e ta)(hb:attributeBase e f X.env (eval e X.env)=eval e X.env):QE X (.Attribute e f pos) (afG X.K ta f):=⟨by
 intro ao s σ H Q I h;calc N_ hb (cP (he.out ao s σ H _ I h) λu s1 G=>?_);let⟨x,H1,j,Y,a,C,dx,fs,v,ex,O,ed,T,hd,hn,hl,q⟩:=G;subst ex;obtain rfl:u=Value.ref a:=Y;obtain⟨⟨oe,vs,e1,e2,e3,e4,_⟩,_⟩:=j.hok a _ O;obtain⟨⟨mA,Z,rA,wA,lA⟩,_⟩:=j.hok dx _ ed;let⟨od,ho,D⟩:=Qz Z;let⟨u,hu,F⟩:=nQ.some_of (v:=v) (o:=mA f) (by rw[<-hl];show rA f);let J:InstAt s1.heap a oe C (some od):=⟨e1,e2,by unfold notCls;rw[e4],by rw[e3];show ho⟩
 show alc T j.je J (findObj_own hd hn rL (by rw[D,hu])) (E_ F) ⟨v,H1,j.tok _,F,q⟩⟩
def vJ (K)(j:QE X e ta)(hb:attributeBase e f X.env (eval e X.env)=eval e X.env)(h:X.K=K:=by rfl):QE X (.Attribute e f pos) (afG K ta f):=by subst h;show agl j hb
end
def drop_new (na:H a=none)(ne:dx≠a)(nd:upd H a o dx=none):aB H (drop (upd (upd (upd H a o) dx p) a q) a)/\drop (upd (upd (upd H a o) dx p) a q) a dx=some p:=by
 rw[bw ne]at nd;refine⟨λb u e=>?_,?_⟩
 .let h1:b≠a:=bL e na;let h2:b≠dx:=bL e nd;rw[lB h1,bw h1,bw h2,bw h1];show e
 .rw[lB ne,bw ne,aA]
structure rN (K:Frag)(mg:Str->Option Value)(name:Str)(C f:Addr)(fs:List Str):Prop where
 xU:mg name=some (.ref C)
 M:MkX K C f
 T:Ft K C
 is:wg K C
 hd:hasDictIn K C=true
 no:∀g∈fs,findIn K (.ref C) g=some none
def Ma (C:Addr)(nm:Str):Sp:=λvs H Q _=>∃(a:Addr) (v:V),vs=[.ref a,v]/\H a=some (.ext (jP a (.ref C) none))/\∀dx,dx≠a->H dx=none->Q .non (upd (upd H dx (.ext (XD dx [(nm,v)]))) a (.ext (jP a (.ref C) (some dx))))
def Mf (C:Addr)(n1 j:Str):Sp:=λvs H Q _=>∃(a:Addr) (v w:V),vs=[.ref a,v,w]/\H a=some (.ext (jP a (.ref C) none))/\∀dx,dx≠a->H dx=none->Q .non (upd (upd (upd H dx (.ext (XD dx [(n1,v)]))) a (.ext (jP a (.ref C) (some dx)))) dx (.ext (XD dx (jx j w [(n1,v)]))))
def aiq (C:Addr)(m:Str)(sp:Sp)(E:XK)(S:St->Prop)(ta:TE)(t:TA):TE:=λσ H Q=>S σ/\ta σ H λx H1=>∃a dx fs,x=.ref a/\H1 a=some (.ins C dx fs)/\fs.lookup m=none/\t σ H1 λvs j=>sp (x::vs) j Q E
section
variable {X:Cx}{C f:Addr}{m:Str}{k:Nat}{fd:FuncData}{ps:List Str}{sp:Sp}{E:XK}{S:St->Prop}{o e:Expr}{es:List Expr}{ta:TE}{t:TA}{apos pos:Pos}
def UG {pl:Sem Bool}(he:QE X o ta)(c:Cls X.K C)(hm:Meth X.K C m f)(F:cU X.prog X.w X.K X.mg X.base (vm X.prog X.w) k f fd ps sp)(hr:iu k X.A)(hb:cD X.K fd ps [])(hx:tW (vm X.prog X.w) X E S)(ha:QA X (e::es) t)(hs:starEach (e::es) X.env=(false,eval e X.env)::starEach es X.env:=by rfl)(G:(backTo pos (starEach es X.env)).any (·.1)=false:=by rfl)(ht:eval (.Call (.Attribute o m apos) (e::es) [] pos) X.env=(do
   let ov <- eval o X.env
   standAt apos.atName
   let (f,first) <- holding [ov] (getMethod ov m pl)
   callWith pos f first (backTo pos (starEach (e::es) X.env)) (backToKw pos (keywordEach [] X.env))):=by rfl) :
  QE X (.Call (.Attribute o m apos) (e::es) [] pos) (aiq C m sp E S ta t):=⟨by
 intro ao s σ H Q I h;let⟨hS,h⟩:=h;calc methodCall_KW (pl:=pl) (cP (he.out ao s σ H _ I h) λu s1 Y=>?_) ht;let⟨x,H1,J,rx,a,dx,fs,ex,Z,l,q⟩:=Y;subst ex;obtain rfl:u=Value.ref a:=rx;calc CQ J Z c hm l (callWith_K (first:=[.ref a]) (h₀:=X.base) I.ok.mod.En hm.kp (cP (ha.out pos ao s1 σ H1 _ J q) λus s2 ⟨vs,O,D,r,q2⟩=>⟨D.je,?_⟩) hs G);let r2:Vals (V.ref a::vs) (Value.ref a::us):=.cons rL r;let hl:(Value.ref a::us).length=ps.length:=by rw[<-r2.length];show F.len _ _ _ _ q2
 let hB:=hb s2 (Value.ref a::us) D.je (by rw[e_];show hl);rw[e_]at hB;calc gu (iX (F.run X.A X.stack s2 O ⟨Value.ref a::us,[]⟩ (Value.ref a::us) _ Q E hr D.env0 hB r2 q2) λr s' j=>?_);cases r with
 | error e=>show hx ao σ O s2 e s' D hS j
 | ok fl=>
  cases fl with
  | ret u=>show D.after j
  | next=>show False.elim j
  | brk=>show False.elim j
  | cont=>show False.elim j⟩
end
def Y4:Value->Bool
 | .bool b=>b
 | _=>false
section
variable {X:Cx}
theorem JX:∀{bs:List Bool} {its:List Value},Vals (bs.map V.bl) its->its.map Y4=bs
 | [],_,.nil=>rfl
 | b::bs,_,.cons r t=>by cases r;rw[cq,JX t];rfl
def agm:V->List V->Hp->VK->Prop:=λx vs H Q=>∃(l:Addr) (bs:List Bool),x=.ref l/\vs=[.bl true]/\H l=some (.lst (bs.map V.bl))/\Q (.int (bs.count true:Nat)) H
def Y5 {bs:List Bool}(r:Vals (bs.map V.bl) its):∀y∈its.toArray,SeqAt.EqAt A s y (.bool true) (Y4 y):=λy hy=>by
 let⟨m,hm,rfl⟩:=Array.mem_iff_getElem.mp hy;let hl:=r.length;let j:m<bs.length:=by simp at hm hl;simp_all
 let⟨D,e1,s1⟩:=r.get (i:=m) (x:=.bl bs[m]) (by simp[j]);cases s1;let e2:its.toArray[m]=.bool bs[m]:=by rw[ac (by simpa using hm)]at e1;simpa using e1
 rw[e2];have:=SeqAt.EqAt.bool_bool (A:=A) (s:=s) bs[m] true;cases z:bs[m] <;> (rw[z]at this;show this)
def acw:MtM X "list.count" agm:=by
 intro ao s σ H x vs v us Q I D G h;let⟨l,bs,rfl,rfl,O,q⟩:=h;cases D;let⟨u,rfl,J⟩:=G.one;cases J;let⟨z,its,n,r,hl,e⟩:=I.CZ O;calc call_meets F.slot_list_count ⟨_,e,rL⟩ F.entry_list_count (F.args_list_count_2 _ _) (SeqAt.list_countAt l its.toArray n _ _ (.bool true) Y4) ⟨e,Y5 r,?_⟩;let j:its.countP Y4=bs.count true:=by rw[<-JX r,List.count,List.countP_map];congr 1;funext y;simp
 show⟨.int (bs.count true:Nat),H,I.tok _,⟨s.toks,by rw[<-j]⟩,q⟩
def agn:V->List V->Hp->VK->Prop:=λx vs H Q=>∃(l:Addr) (bs:List Bool) (j:Nat),x=.ref l/\vs=[.bl true]/\H l=some (.lst (bs.map V.bl))/\bs[j]?=some true/\(∀m,m<j->bs[m]?=some false)/\bs.length<=1000/\Q (.int j) H
def acy:MtM X "list.index" agn:=by
 intro ao s σ H x vs v us Q I Z rv h;let⟨l,bs,j,rfl,rfl,hH,Y,D,hz,q⟩:=h;cases Z;let⟨u,rfl,ru⟩:=rv.one;cases ru;let⟨z,its,n,r,hl,e⟩:=I.CZ hH;let O:=JX r;let dR:its.length=bs.length:=by rw[<-O,aa]
 let hjb:j<bs.length:=(ah.mp Y).1;let at_:∀m (hm:m<its.toArray.size),bs[m]?=some (Y4 its.toArray[m]):=λm hm=>by
  let J:m<its.length:=by simpa using hm
  rw[<-O,ck,ac J];simp
 refine call_meets F.slot_list_index ⟨_,e,rL⟩ F.entry_list_index (F.args_list_index_2 _ _) (SeqAt.list_indexAt l its.toArray n _ _ (.bool true) Y4 j (by simp;simp_all) qk ?_ ?_) ⟨e,Y5 r,?_⟩
 .have:=at_ j (by simp;lia);rw[Y]at this;show(bq this).symm
 .intro m hm G;have:=at_ m hm;rw[D m G]at this;show(bq this).symm
 .show⟨.int j,H,I.tok _,⟨s.toks,rL⟩,q⟩
end
section
variable {prog:Program}{w:World}{A:Around}{E:AB}{s:Shared}{z ti to u v a b:Addr}{i:Nat}{f g:Array Value}{x y m n:Value}
def acz {Q:AB}(D:ZA z ti to u v a b)(hz:IsZip s.heap z ti to .none)(hi:IsPair s.heap ti (.ref u) (.ref v))(ho:IsPair s.heap to m n)(hu:s.heap.IsListIter u a i)(hv:s.heap.IsListIter v b i)(ha:s.heap.IsList a f)(hb:s.heap.IsList b g)(hx:f[i]?=some x)(hy:g[i]?=some y)(q:∀h',IsZip h' z ti to (rawInt s.heap.objs.size)->IsPair h' to x y->h'.IsListIter u a (i+1)->h'.IsListIter v b (i+1)->IsPair h' s.heap.objs.size x y->
   (∀c o,c≠z->c≠to->c≠u->c≠v->s.heap.get? c=some o->h'.get? c=some o)->Q (.ref s.heap.objs.size) {s with heap:=h' }) :
  wpAny (model prog w) A (Builtin.«zip.__next__» ⟨[.ref z],[]⟩) (λJ s'=>∃r,J=.done (.ret r)/\Q r s') E s:=by
 show wpAny _ _ (field (.ref z) 2 >>= _) _ _ _;calc ae (fo hz rL (x:=.bool false) rL ?_);show wpAny _ _ (field (.ref z) 3 >>= _) _ _ _;calc ae (fo hz rL (x:=.ref ti) rL (ae (ku hi rL ?_)));show wpAny _ _ (Builtin.SmallTypes.ownedTupleIsFree (.ref z) >>= _) _ _ _;calc ae ?_;unfold Builtin.SmallTypes.ownedTupleIsFree;calc ae (fo hz rL (x:=.none) rL (aI ?_));simp only[if_true];calc ae (oQ (ae (fo hz rL (x:=.ref to) rL (ae (j3 hz qo λg1 Y k1=>?_)))));replace Y:IsZip g1 z ti to .ellipsis:=Y;calc ae ?_;simp only[List.zipIdx_cons,List.zipIdx_nil,gI,qh];calc ae (ae (oy ?_));show wpAny _ _ (Builtin.SmallTypes.nextOf (.ref u) >>= _) _ _ _;calc ae (mf (hu.at λo e=>k1.extBut _ o D.q3 e) (ly ha λo e=>k1.extBut _ o D.p2 e) hx λg2 u2 k2=>aI ?_);let o2:IsPair g2 to m n:=k2.extBut _ _ D.q8 (k1.extBut _ _ D.q2 ho);calc ae (ku o2 rL (ae (nB o2 λg3 Z k3=>?_)));replace Z:IsPair g3 to x n:=Z;calc ae (wpAny_letGo (aI ?_));calc ae (ae (oy ?_));show wpAny _ _ (Builtin.SmallTypes.nextOf (.ref v) >>= _) _ _ _;calc ae (mf (hv.at λo e=>k3.extBut _ o D.q9.symm (k2.extBut _ o D.p1.symm (k1.extBut _ o D.q4 e))) (ly hb λo e=>k3.extBut _ o D.p7 (k2.extBut _ o D.p8 (k1.extBut _ o D.p6 e))) hy λg4 v4 k4=>aI ?_);let o4:IsPair g4 to x n:=k4.extBut _ _ D.q9 Z;calc ae (ku o4 rL (ae (nB o4 λj F k5=>?_)));replace F:IsPair j to x y:=F;calc ae (wpAny_letGo (aI (aI ?_)));calc ae (ku F rL (ae (wpAny_newTuple ?_)));let sz:j.objs.size=s.heap.objs.size:=by rw[k5.1,k4.1,k3.1,k2.1,k1.1]
 let z5:IsZip j z ti to .ellipsis:=k5.extBut _ _ D.q2.symm (k4.extBut _ _ D.q4.symm (k3.extBut _ _ D.q2.symm (k2.extBut _ _ D.q3.symm Y)));let kk:∀c o,c≠z->c≠to->c≠u->c≠v->s.heap.get? c=some o->j.get? c=some o:=λc o c1 c2 c3 c4 e=>k5.extBut _ _ c2 (k4.extBut _ _ c4 (k3.extBut _ _ c2 (k2.extBut _ _ c3 (k1.extBut _ _ c1 e))));let u5:j.IsListIter u a (i+1):=u2.at λo e=>k5.extBut _ o D.q8.symm (k4.extBut _ o D.p1 (k3.extBut _ o D.q8.symm e));let v5:j.IsListIter v b (i+1):=v4.at λo e=>k5.extBut _ o D.q9.symm e;let lz:z<j.objs.size:=a_ z5;show wpAny _ _ (Builtin.SmallTypes.ownedTupleHandOut (.ref z) (.ref j.objs.size) >>= _) _ _ _;calc ae ?_;unfold Builtin.SmallTypes.ownedTupleHandOut;let z6:IsZip (j.push {cls:=.type "tuple",data:=.seq #[x,y]}) z ti to .ellipsis:=ag _ z5;refine ae (j3 z6 qo λg7 O k7=>?_)
 replace O:IsZip g7 z ti to (rawInt j.objs.size):=O;refine j3 O qo λI G k8=>?_
 replace G:IsZip I z ti to (rawInt j.objs.size):=G;let up:∀c o,c≠z->j.get? c=some o->I.get? c=some o:=λc o c1 e=>k8.extBut _ _ c1 (k7.extBut _ _ c1 (ag _ e));let t8:IsPair I j.objs.size x y:=k8.extBut _ _ (kn lz) (k7.extBut _ _ (kn lz) (bu _ rL));rw[sz]at G t8;calc aI ⟨_,rL,?_⟩;show Q (.ref j.objs.size) _;rw[sz];show q I G (up _ _ D.q2 F) (u5.at λo e=>up _ o D.q3 e) (v5.at λo e=>up _ o D.q4 e) t8 λc o c1 c2 c3 c4 e=>up c o c1 (kk c o c1 c2 c3 c4 e)
def aer (Y:A.handled=none)(D:ZA z ti to u v a b)(hz:IsZip s.heap z ti to .none)(hi:IsPair s.heap ti (.ref u) (.ref v))(ho:IsPair s.heap to m n)(hu:s.heap.IsListIter u a i)(hv:s.heap.IsListIter v b i)(ha:s.heap.IsList a f)(hb:s.heap.IsList b g)(hx:f[i]?=some x)(hy:g[i]?=none)(q:∀h' e,(∀c o,c≠z->c≠to->c≠u->c≠v->s.heap.get? c=some o->h'.get? c=some o)->(∃o,h'.get? e=some o/\o.cls=.type "StopIteration")->E (.ref e) {s with heap:=h' }):wpAny (model prog w) A (Builtin.«zip.__next__» ⟨[.ref z],[]⟩) Q E s:=by
 show wpAny _ _ (field (.ref z) 2 >>= _) _ _ _;calc ae (fo hz rL (x:=.bool false) rL ?_);show wpAny _ _ (field (.ref z) 3 >>= _) _ _ _;calc ae (fo hz rL (x:=.ref ti) rL (ae (ku hi rL ?_)));show wpAny _ _ (Builtin.SmallTypes.ownedTupleIsFree (.ref z) >>= _) _ _ _;calc ae ?_;unfold Builtin.SmallTypes.ownedTupleIsFree;calc ae (fo hz rL (x:=.none) rL (aI ?_));simp only[if_true];calc ae (oQ (ae (fo hz rL (x:=.ref to) rL (ae (j3 hz qo λg1 j k1=>?_)))));replace j:IsZip g1 z ti to .ellipsis:=j;calc ae ?_;simp only[List.zipIdx_cons,List.zipIdx_nil,gI,qh];calc ae (ae (oy ?_));show wpAny _ _ (Builtin.SmallTypes.nextOf (.ref u) >>= _) _ _ _;calc ae (mf (hu.at λo e=>k1.extBut _ o D.q3 e) (ly ha λo e=>k1.extBut _ o D.p2 e) hx λg2 u2 k2=>aI ?_);let G:IsPair g2 to m n:=k2.extBut _ _ D.q8 (k1.extBut _ _ D.q2 ho);calc ae (ku G rL (ae (nB G λO I k3=>?_)));replace I:IsPair O to x n:=I;calc ae (wpAny_letGo (aI ?_));calc ae (ae (oy ?_));show wpAny _ _ (Builtin.SmallTypes.nextOf (.ref v) >>= _) _ _ _;calc ae (wpAny_nextOf_list_end Y (hv.at λo e=>k3.extBut _ o D.q9.symm (k2.extBut _ o D.p1.symm (k1.extBut _ o D.q4 e))) (ly hb λo e=>k3.extBut _ o D.p7 (k2.extBut _ o D.p8 (k1.extBut _ o D.p6 e))) hy λZ e k4 he=>?_);let⟨oe,e1,e2⟩:=he;let F:IsZip Z z ti to .ellipsis:=k4 _ _ D.q4.symm (k3.extBut _ _ D.q2.symm (k2.extBut _ _ D.q3.symm j));let J:e≠z:=λt=>by subst t;rw[F]at e1;cases e1;simp at e2
 show j3 F qo λg5 _ k5=>q g5 e (λc o c1 c2 c3 c4 t=>k5.extBut _ _ c1 (k4 _ _ c4 (k3.extBut _ _ c2 (k2.extBut _ _ c3 (k1.extBut _ _ c1 t))))) ⟨oe,k5.extBut _ _ J e1,e2⟩
abbrev zl1 (h:Heap)(a:Addr):Heap:=h.push {cls:=.type "list_iterator",data:=.fields #[.ref a,.int 0 0]}
abbrev zl2 (h:Heap)(a b:Addr):Heap:=(zl1 h a).push {cls:=.type "list_iterator",data:=.fields #[.ref b,.int 0 0]}
abbrev zl3 (h:Heap)(a b:Addr):Heap:=(zl2 h a b).push {cls:=.type "tuple",data:=.seq #[.ref h.objs.size,.ref (zl1 h a).objs.size]}
abbrev zl4 (h:Heap)(a b:Addr):Heap:=(zl3 h a b).push {cls:=.type "tuple",data:=.seq #[.none,.none]}
abbrev Y6 (h:Heap)(a b:Addr):Heap:=(zl4 h a b).push {cls:=.type "zip",data:=.fields #[.none,.bool false,.bool false,.ref (zl2 h a b).objs.size,.ref (zl3 h a b).objs.size]}
def ago (a b)(f g):Meets (Builtin.«zip.__new__» ⟨[.type "zip",.ref a,.ref b],[]⟩) (λ_ R s=>s.heap.IsList a f/\s.heap.IsList b g/\R (.ok (.ret (.ref (zl4 s.heap a b).objs.size))) {s with heap:=Y6 s.heap a b}):=
 .of_wp λprog w A R s h=>by
  let⟨hp,D,d,tk,os⟩:=s;let⟨h1,h2,h⟩:=h;let j:=sub_zip;let j1:Heap.IsList (Shared.heap ⟨hp,D,d,tk,os⟩) a f:=h1;let j2:Heap.IsList (Shared.heap ⟨hp.push {cls:=.type "list_iterator",data:=.fields #[.ref a,.int 0 0]},D,d,tk,os⟩) b g:=ly h2 λo e=>ag _ e
  wp_walk using iq j1,iq j2
  show⟨_,rL,h⟩
def ald (ha:s.heap.IsList a f)(hb:s.heap.IsList b g)(q:∀h',IsZip h' (s.heap.objs.size+4) (s.heap.objs.size+2) (s.heap.objs.size+3) .none->IsPair h' (s.heap.objs.size+2) (.ref s.heap.objs.size) (.ref (s.heap.objs.size+1))->IsPair h' (s.heap.objs.size+3) .none .none->
   h'.IsListIter s.heap.objs.size a 0->h'.IsListIter (s.heap.objs.size+1) b 0->(∀c o,s.heap.get? c=some o->h'.get? c=some o)->Q (.ref (s.heap.objs.size+4)) {s with heap:=h' }) :
  wpAny (model prog w) A (call (.type "zip") [.ref a,.ref b]) Q E s:=by
 calc callType_new F.called_zip qr (F.typeCall_zip_2 _ _) (F.newCall_zip_2 _ _) (λobj=>F.args_object_init_3 obj _ _) F.entry_zip_new (ago a b f g) ⟨ha,hb,?_⟩;let n1:(zl1 s.heap a).objs.size=s.heap.objs.size+1:=fk ..;let D:(zl2 s.heap a b).objs.size=s.heap.objs.size+2:=by rw[fk,n1]
 let j:(zl3 s.heap a b).objs.size=s.heap.objs.size+3:=by rw[fk,D]
 let n4:(zl4 s.heap a b).objs.size=s.heap.objs.size+4:=by rw[fk,j]
 let e5:(Y6 s.heap a b).get? (zl4 s.heap a b).objs.size=some _:=bu _ rfl;let e4:(Y6 s.heap a b).get? (zl3 s.heap a b).objs.size=some _:=ag _ (bu _ rL);let e3:(Y6 s.heap a b).get? (zl2 s.heap a b).objs.size=some _:=ag _ (ag _ (bu _ rL));let e2:(Y6 s.heap a b).get? (zl1 s.heap a).objs.size=some _:=ag _ (ag _ (ag _ (bu _ rL)));let e1:(Y6 s.heap a b).get? s.heap.objs.size=some _:=ag _ (ag _ (ag _ (ag _ (bu _ rL))));show _/\_;rw[D,j,n4]at e5;rw[n1,D]at e3;rw[j]at e4;rw[n1]at e2;rw[n4];show⟨⟨_,e5,rL⟩,q _ e5 e3 e4 ⟨_,e1,rL,rL⟩ ⟨_,e2,rL,rL⟩ λc o t=>ag _ (ag _ (ag _ (ag _ (ag _ t))))⟩
end
def aes (K:W.Frag)(a b:Addr):It:=⟨λi H=>∃xs ys x y,bM K H a xs/\bM K H b ys/\xs[i]?=some x/\ys[i]?=some y,λi H t H'=>∃T x y,H T=none/\t=.ref T/\(∀xs,bM K H a xs->xs[i]?=some x)/\(∀ys,bM K H b ys->ys[i]?=some y)/\H'=upd H T (.tup [x,y]),λi H=>∃xs ys,bM K H a xs/\bM K H b ys/\i<xs.length/\ys.length<=i⟩
def acA {P:Program}{w:World}{K:W.Frag}{elts:List Expr}{x1:Nat}{pos:Pos}{z ti to u v a b:Addr}(D:ZA z ti to u v a b):Turn P w K (.Tuple elts x1 pos) (aes K a b) [z,ti,to,u,v] z (λi h=>IsZip h z ti to .none/\IsPair h ti (.ref u) (.ref v)/\(∃m n,IsPair h to m n)/\h.IsListIter u a i/\h.IsListIter v b i) where
 mem:=by simp
 obj:=λi h st c j=>by
  obtain⟨h1,h2,⟨m,n,h3⟩,⟨o4,h4,_,d4⟩,⟨o5,h5,_,d5⟩⟩:=st;simp only[bX,kN,or_false]at j;rcases j with e|e|e|e|e <;> subst e
  .show⟨_,h1,λv y=>by cases y⟩
  .show⟨_,h2,λv y=>by cases y⟩
  .show⟨_,h3,λv y=>by cases y⟩
  .show⟨o4,h4,λv y=>by rw[d4]at y;cases y⟩
  .show⟨o5,h5,λv y=>by rw[d5]at y;cases y⟩
 keep:=λi h h' st k=>by obtain⟨h1,h2,⟨m,n,h3⟩,h4,h5⟩:=st;show⟨k z qo _ h1,k ti qo _ h2,⟨m,n,k to qo _ h3⟩,h4.at λo e=>k u qo o e,h5.at λo e=>k v qo o e⟩
 item:=by
  intro X hP hw hK j i ao s σ H E I hf st hg;subst hP hw hK;obtain⟨h1,h2,⟨m,n,h3⟩,h4,h5⟩:=st;let⟨xs,ys,x,y,J,G,hx,hy⟩:=hg;let⟨fs,rf,pf,_⟩:=I.list J;let⟨gs,rg,pg,_⟩:=I.list G;let⟨p,ep,rp⟩:=rf.get hx;let⟨q,eq,rq⟩:=rg.get hy;let lt:∀c∈[z,ti,to,u,v],c<s.heap.objs.size:=λc j=>by
   simp only[bX,kN,or_false]at j;rcases j with e|e|e|e|e <;> subst e
   .show a_ h1
   .show a_ h2
   .show a_ h3
   .let⟨o,e,_⟩:=h4;show a_ e
   .let⟨o,e,_⟩:=h5;show a_ e
  let Y:s.TypeIs (.ref z) "zip":=⟨_,h1,rL⟩
  unfold pyNext;calc ae (mo (jn (name:=Str.ofString "__next__") Y nE (hV nE Y F.entry_zip_next ?_ (F.args_zip_next_1 _))));calc acz D h1 h2 h3 h4 h5 (show s.heap.IsList a fs.toArray from pf.isList) (show s.heap.IsList b gs.toArray from pg.isList) (x:=p) (y:=q) (by simpa using ep) (by simpa using eq) λh' k1 k2 k3 k4 k5 k6=>aI ?_;calc⟨_,rL,wpAny_letOwnedTupleGo_zip k1 λZ e2 O=>?_⟩;let up:∀c o,c∉[z,ti,to,u,v]->s.heap.get? c=some o->Z.get? c=some o:=λc o j e=>by simp only[bX,kN,or_false,not_or]at j;show O.extBut _ _ j.1 (k6 c o j.1 j.2.2.1 j.2.2.2.1 j.2.2.2.2 e)
  let nz:s.heap.objs.size≠z:=kn (lt z qo);let⟨I3,fr⟩:=aX.aj4 (tk:=s.toks) I hf lt rp rq (O.extBut _ _ nz k5) up;show⟨.ref s.heap.objs.size,_,I3,rL,⟨s.heap.objs.size,x,y,I.hok.fresh (ax _),rL,λzs hz=>by rw[I.JH hz J];show hx,λzs hz=>by rw[I.JH hz G];show hy,rL⟩,
   ⟨e2,O.extBut _ _ D.q1 (k6 _ _ D.q1 D.q5 D.q6 D.q7 h2),⟨_,_,O.extBut _ _ D.q2 k2⟩,k3.at λo e=>O.extBut _ o D.q3 e,k4.at λo e=>O.extBut _ o D.q4 e⟩,fr⟩
 done:=by
  intro X hP hw hK j i ao s σ H E I hf st hg;subst hP hw hK;obtain⟨h1,h2,⟨m,n,h3⟩,h4,h5⟩:=st;let⟨xs,ys,J,G,hx,hl⟩:=hg;let⟨fs,rf,pf,_⟩:=I.list J;let⟨gs,rg,pg,_⟩:=I.list G;let dR:=rg.length;let⟨p,ep,rp⟩:=rf.get (ac hx);let hh:X.A.in1.handled=none:=by simp[I.ok.hd j]
  let Y:s.TypeIs (.ref z) "zip":=⟨_,h1,rL⟩
  unfold pyNext;calc ae (mo (jn (name:=Str.ofString "__next__") Y nE (hV nE Y F.entry_zip_next ?_ (F.args_zip_next_1 _))));calc aer hh D h1 h2 h3 h4 h5 (show s.heap.IsList a fs.toArray from pf.isList) (show s.heap.IsList b gs.toArray from pg.isList) (x:=p) (by simpa using ep) (by simp;simp_all) λh' e k zz=>?_;let⟨o,e1,e2⟩:=zz;calc ae (wpAny_isInstance (T:="StopIteration") (b:=true) ⟨o,e1,e2⟩ isSubtype_stop ?_);calc aI ⟨rL,aX.Oh (fp:=[z,ti,to,u,v]) (t':=s.toks) I (λc o j e=>?_) hf⟩;simp only[bX,kN,or_false,not_or]at j;show k c o j.1 j.2.2.1 j.2.2.2.1 j.2.2.2.2 e
 self:=λA i s Q E st h=>wpAny_pyIter_zip st.1 h
section
variable {X:Cx}{elts:List Expr}{x1:Nat}{tp:Pos}
def aj8 (K:W.Frag)(ta:TA):TI:=λσ H R=>ta σ H λvs H1=>∃a b,vs=[.ref a,.ref b]/\(∃xs,bM K H1 a xs)/\(∃ys,bM K H1 b ys)/\R (aes K a b) H1
def agp {a b:Expr}{ta:TA}{p pos:Pos}(hg:Gl X "zip")(hm:X.mg "zip"=none)(ha:QA X [a,b] ta)(hs:starEach [a,b] X.env=[(false,eval a X.env),(false,eval b X.env)]:=by rfl)(J:starEach [b] X.env=[(false,eval b X.env)]:=by rfl):QI X (.Tuple elts x1 tp) (.Call (.Name "zip" p) [a,b] [] pos) (aj8 X.K ta):=⟨by
 intro ao s σ H R I h;calc Call_ (wR I hg hm acq (fq (cP (ha.out pos ao s σ H _ I h) λus s1 zz=>?_) (by rw[hs,J]) (by rw[J];rfl)));let⟨vs,H1,G,r1,q1⟩:=zz;obtain⟨a,b,e,⟨xs,Y⟩,⟨ys,O⟩,q⟩:=q1;subst e;cases r1 with
 | cons r rr=>
  cases rr with
  | cons r' rr=>
   cases rr;cases r;cases r';let⟨fs,rf,pf,_⟩:=G.list Y;let⟨gs,rg,pg,_⟩:=G.list O;let la:a<s1.heap.objs.size:=by
    let⟨o,Z,_⟩:=(show s1.heap.IsList a fs.toArray from pf.isList)
    show a_ Z
   let lb:b<s1.heap.objs.size:=by
    let⟨o,Z,_⟩:=(show s1.heap.IsList b gs.toArray from pg.isList)
    show a_ Z
   calc ald (show s1.heap.IsList a fs.toArray from pf.isList) (show s1.heap.IsList b gs.toArray from pg.isList) λh' k1 k2 k3 k4 k5 kk=>wpAny_pyIter_zip k1 ?_;let D:ZA (s1.heap.objs.size+4) (s1.heap.objs.size+2) (s1.heap.objs.size+3) s1.heap.objs.size (s1.heap.objs.size+1) a b:=by
    let j:∀N a b:Nat,a<N->b<N->ZA (N+4) (N+2) (N+3) N (N+1) a b:=λN a b la lb=>by constructor <;> (show (_:Nat)≠_) <;> lia
    show j _ _ _ la lb
   calc⟨s1.heap.objs.size+4,[s1.heap.objs.size+4,s1.heap.objs.size+2,s1.heap.objs.size+3,s1.heap.objs.size,s1.heap.objs.size+1],_,_,H1,rL,G.kept (t':=s1.toks) kk,acA D,⟨k1,k2,⟨_,_,k3⟩,k4,k5⟩,λc hc=>?_,q⟩;let F:s1.heap.objs.size<=c:=by
    simp only[bX,kN,or_false]at hc;let j:∀N c:Nat,(c=N+4\/c=N+2\/c=N+3\/c=N\/c=N+1)->N<=c:=λN c h=>by lia
    show j _ _ hc
   show G.CK F (G.hok.fresh F)⟩
end
def air {K KT:W.Frag}{a b D:Addr}{xs ys:List V}{f:St->St}{tt:TT}{te:TE}{σ:St}{H:Hp}{R:Hp->Prop}(G:xs.length=ys.length+1)(j:Nat->List V->Hp->Prop)(h0:j 0 [] (upd H D (.lst [])))(hl:∀i zs H,i<=ys.length->j i zs H->bM K H a xs/\bM K H b ys)(hs:∀i x y zs H T,xs[i]?=some x->ys[i]?=some y->j i zs H->H T=none->Lz ys.length i D (λv H Q=>∃a p q,v=.ref a/\aQ KT H a [p,q]/\Q [some p,some q]) f σ tt te (.ref T) (upd H T (.tup [x,y])) zs (j (i+1)))(hd:∀zs H,j ys.length zs H->R H):Ar (aes K a b) D H R (YJ (λv H Q=>∃a p q,v=.ref a/\aQ KT H a [p,q]/\Q [some p,some q]) f σ tt te):=
 Ug ys.length j h0 (λi zs H h p=>by let⟨q1,q2⟩:=hl i zs H (ap h) p;show⟨⟨xs,ys,xs[i],ys[i],q1,q2,by simp[show i<xs.length by lia],by simp[h]⟩,λt H' y=>by let⟨T,x,y,F,rfl,hx,hy,rfl⟩:=y;show hs i x y zs H T (hx xs q1) (hy ys q2) p F⟩) λzs H p=>⟨⟨xs,ys,(hl _ zs H (ax _) p).1,(hl _ zs H (ax _) p).2,qk,ax _⟩,hd zs H p⟩
section
variable {prog:Program}{w:World}{A:Around}{E:AB}{s:Shared}
variable {X:Cx}
def agq {a b:Addr}{D ob:Obj}{na nb:Nat}{x1 j:Nat}{G J O I:Tok}{Q:AB}(ha:s.heap.get? a=some D)(ca:D.cls=.type "tuple")(da:D.data=.seq [Value.int x1 G,Value.int j J].toArray na)(hb:s.heap.get? b=some ob)(cb:ob.cls=.type "tuple")(db:ob.data=.seq [Value.int x1 O,Value.int j I].toArray nb)(hu:A.units<cLine)(q:Q (.bool false) s):wpAny (model prog w) A (compareOp .Lt (.ref a) (.ref b)) Q E s:=by
 let Z:s.TypeIs (.ref a) "tuple":=⟨D,ha,ca⟩
 let Y:s.TypeIs (.ref b) "tuple":=⟨ob,hb,cb⟩
 show wpAny _ _ (richCompare .Lt (.ref a) (.ref b)) Q E s;calc wpAny_richCompare_same_room (op:=.Lt) (T:="tuple") Z Y ny (hV ny Z F.entry_tuple_lt ?_ (F.args_tuple_lt_2 _ _)) hu;show wpAny _ _ (isInstance (.ref b) (.type "tuple") >>= _) _ _ s;calc ae (wpAny_isInstance Y isSubtype_tuple_tuple ?_);simp only[mn,f_,if_false];calc ae (lp ha da (ae (lp hb db (ae ?_))));rw[show [Value.int (x1:Int) G,Value.int (j:Int) J].toArray.toList.zip [Value.int (x1:Int) O,Value.int (j:Int) I].toArray.toList=[(Value.int (x1:Int) G,Value.int (x1:Int) O),(Value.int (j:Int) J,Value.int (j:Int) I)] from rfl];rw[gI];calc ae ?_;dsimp only;calc ae (jv _ _ _ _ prog w _ _ ?_);simp only[beq_self_eq_true,mn,f_,if_false];calc aI ?_;dsimp only;rw[gI];calc ae ?_;dsimp only;calc ae (jv _ _ _ _ prog w _ _ ?_);simp only[beq_self_eq_true,mn,f_,if_false];calc aI ?_;dsimp only;rw[qh];calc aI ?_;dsimp only;show aI ⟨_,rL,by show Builtin.Tuple.tupleCompareSizes CmpOp.Lt 2 2≠_;decide,q⟩
def ale:R2:=λx y H Q=>∃(a b:Addr) (x1 D F j:Nat),x=.ref a/\y=.ref b/\H a=some (.tup [.int x1,.int D])/\H b=some (.tup [.int F,.int j])/\D<1000/\j<1000/\
 Q (.bl (decide (x1*1000+D<F*1000+j))) H
def ais (hu:X.A.units<cLine):ji X (compareOp .Lt) ale:=by
 intro ao s σ H x y v u Q I rx ry h;let⟨a,b,x1,J,x2,O,rfl,rfl,ea,eb,l1,l2,q⟩:=h;by_cases D:x1*1000+J=x2*1000+O
 .let e1:x1=x2:=qk;let e2:J=O:=by simp_all
  subst e1 e2;rw[af (fw _)]at q;cases rx;cases ry;let⟨_,tv,Z,o,ho,hc,n,hd⟩:=I.hok _ _ ea;let⟨_,tv',Y,o',G,j,n',F⟩:=I.hok _ _ eb;cases Z with
  | cons q1 rr=>
   cases rr with
   | cons q2 rr=>
    cases rr;cases Y with
    | cons q3 rr'=>
     cases rr' with| cons q4 rr'=>cases rr';let⟨t1,rfl⟩:=q1;let⟨t2,rfl⟩:=q2;let⟨t3,rfl⟩:=q3;let⟨t4,rfl⟩:=q4;show agq ho hc hd G j F hu ⟨.bl _,H,I,rL,q⟩
 .show aij hu ao s σ H _ _ _ _ Q I rx ry ⟨a,b,x1,J,x2,O,[],[],rL,rL,ea,eb,l1,l2,D,q⟩
open Classical in
def aj9 (K:W.Frag)(j:Bool):R2:=λx y H Q=>∃n d es,n<=60/\jO K H n d x/\jO K H n (.lst es) y/\Q (.bl (if j then !decide (d∈es) else decide (d∈es))) H
def Y7 (O:X.A.units+64<cLine):ji X (compareOp .In) (aj9 X.K false):=by intro ao s σ H x y v u Q I G J h;let⟨n,d,es,hn,hd,D,q⟩:=h;let⟨as,F⟩:=hd.reads I G;let⟨bs,j⟩:=D.reads I J;let l1:=hd.lay;let l2:=D.lay;rw[toP]at j;simp only[toP,PyData.canLay0,PyData.depth]at l2;calc SeqAt.in_list_reads j F l2.1 l1.1 (by have:=Nat.min_le_right (PyData.depthAll (oV es)) (toP d).depth;lia) ⟨.bl _,H,I,rL,?_⟩;rw[YS];show q
end
def agr {name:Str}{apos cpos:Pos}{T id:String}(K:W.Frag)(G:PlainAttrs T)(slot:Slot T name id)(F:typeOf (.builtin id)=pure (.type "method_descriptor"))(hm:Ep X id r)(I:QE X o to)(D:attributeBase o name X.env (eval o X.env)=eval o X.env:=by rfl)(j:(apos.endLine==cpos.line)=true:=by rfl)(h:X.K=K:=by rfl):QE X (.Call (.Attribute o name apos) [] [] cpos) (ah0 K T r to):=by subst h;show Fb G slot F hm I D j
section
variable {X:Cx}{o e f:Expr}{apos cpos:Pos}{td ty tx:TE}
def aeu (G:X.A.units+1<cLine)(D:QE X o td)(j:QE X e ty)(F:QE X f tx)(m:M2 X o "get" apos e f cpos):QE X (.Call (.Attribute o "get" apos) [e,f] [] cpos) (ab5 td ty tx):=⟨ad6 G D.out j.out F.out m⟩
structure KDict (P:Program)(w:World)(K:W.Frag)(a:Addr)(kvs:List (Key×V)):Prop where
 z:(a==sysModules)=false
 ex:∃o vs,K.lookup a=some o/\KV kvs vs/\o.IsDictOf (jf P w) vs
def ait (P:Program)(w:World)(K:W.Frag)(td ty tx:TE):TE:=λσ H Q=>td σ H λx H1=>∃a kvs,x=.ref a/\KDict P w K a kvs/\ty σ H1 λy j=>tx σ j λz D=>∃k,y=kV k/\Q ((iz kvs k).getD z) D
def UJ (ho:QE X o td)(he:QE X e ty)(hf:QE X f tx)(m:M2 X o "get" apos e f cpos):QE X (.Call (.Attribute o "get" apos) [e,f] [] cpos) (ait X.prog X.w X.K td ty tx):=⟨by
 intro ao s σ H Q I h;calc wpAny_Call_method m.base m.few m.line PySem.F.plainAttrs_dict im PySem.F.type_dict_get (cP (ho.out ao s σ H _ I h) λu s1 O=>?_);let⟨x,H1,F,rx,a,kvs,ex,d,q1⟩:=O;subst ex;obtain rfl:u=Value.ref a:=rx;let⟨ob,vs,hk,D,hd⟩:=d.ex;let dd:∀{s':Shared} {σ':St} {H':Hp},aX X ao σ' H' s'->s'.heap.DictOf (jf X.prog X.w) a vs:=λJ=>Heap.dictOf_iff.mpr ⟨ob,J.je a ob hk,hd⟩;refine⟨(dd F).typeIs,λb q=>?_,?_⟩
 .cases q;let⟨ob,_,_,h1,h2,_⟩:=dd F;show⟨ob,h1,h2.2.1⟩
 rw[m.trees];refine ia rL (iF (ft (cP (he.out ao s1 σ H1 _ F q1) λiv s2 ⟨y,H2,I2,ry,q2⟩=>ft (cP (hf.out ao s2 σ H2 _ I2 q2) λZ s3 ⟨z,Y,j,rz,k,G,q3⟩=>ir ?_))))
 subst G;calc call_meetsIn im (dd j).typeIs me (lL _ _ _) (meets_dict_get_default (jf X.prog X.w) a (Lk ry) d.z Z) ⟨_,(dd j).mapOf,?_⟩;show⟨_,Y,j.tok _,(D.val k).getD rz,q3⟩⟩
def aiu:List V->Hp->VK->Prop:=λxs H Q=>∃(d:Addr) (kvs:List (Key×V)),xs=[.ref d]/\H d=some (.dK kvs)/\∀p:Addr,H p=none->Q (.ref p) (upd H p (.dK kvs))
def aaQ:jJ X (.type "dict") aiu:=by
 intro ao s σ H xs us Q I r h;let⟨d,kvs,rfl,hd,q⟩:=h;let⟨u,rfl,F⟩:=vals1 r;cases F;let⟨hz,lo,vs,j,dd⟩:=aaB I.hok hd;calc kt_call_dict lo dd (by rw[<-j.length];show hz) λh' D hs=>?_;let lt:sysModules<s.heap.objs.size:=I.big;refine⟨.ref s.heap.objs.size,_,I.laid (o:=.dK kvs) (t':=s.toks) (λb u e=>?_) (ax _) ⟨hz,?_,vs,j,D⟩,rL,q _ (I.hok.fresh (ax _))⟩
 .show hs.extBut b u (cv (a_ e)) (ag _ e)
 .show beq_eq_false_iff_ne.mpr (kn lt)
end
def acB {l:List Nat}{g:TG}{tb:TS}{D:Ends}{σ:St}{H:Hp}(j:Nat->St->Hp->Prop)(h0:j 0 σ H)(hs:∀i c σ H T,l[i]?=some c->j i σ H->H T=none->g (.ref T) σ (upd H T (.tup [.int i,.str (S [c])])) λσ2 G=>tb {D with nx:=j (i+1),ct:=j (i+1),bk:=D.nx} σ2 G)(hd:∀σ H,j l.length σ H->D.nx σ H):N8 (Uw l) g tb D σ H:=aao l.length j h0 (λi σ H h p=>⟨h,λx H' y=>by let⟨T,c,F,rfl,I,rfl⟩:=y;show hs i c σ _ T I p F⟩) λσ H p=>⟨ax _,hd σ H p⟩
end L2
namespace PySem.F
end PySem.F
namespace L2
open PySem PySem.Spec PyProof.Rows PySem.W
section
variable {X:Cx}
def aev (a:List Int)(x:Int):(a++[x]).sum=a.sum+x:=by
 induction a with| nil=>simp| cons y r ih=>rw[pk,ot,ot,ih];lia
theorem Dc (ns:List Int):∀k,k<=ns.length->preSum (λi=>ns.getD i 0) k=(ns.take k).sum
 | 0,_=>by simp[preSum]
 | k+1,h=>by
  show preSum (λi=>ns.getD i 0) k+ns.getD k 0=_;let e:ns.take (k+1)=ns.take k++[ns[k]]:=by rw[c8,ac h];rfl
  rw[Dc ns k (ap h),e,aev];simp[List.getD,show k<ns.length by lia]
def aiv (ns:List Int)(b:Int)(hb:0<=b)(h:∀x∈ns,-b<=x/\x<=b):-(b*ns.length)<=ns.sum/\ns.sum<=b*ns.length:=by
 induction ns with
 | nil=>simp
 | cons a r ih=>
  let h1:=h a bS;let h2:=ih λx hx=>h x (bE _ hx);rw[ot,dA];let e:b*((r.length+1:Nat):Int)=b*r.length+b:=by rw[Int.natCast_add,Int.mul_add];simp
  rw[e];lia
def Y8:R2:=λx y H Q=>∃c l,x=.str (S [c])/\y=.str (S l)/\Q (.bl (!decide (c∈l))) H
def acC:ji X (compareOp .NotIn) Y8:=by
 intro ao s σ H x y v u Q I D j h;let⟨c,l,rfl,rfl,q⟩:=h;show Ua ao s σ H _ _ v u Q I D j ⟨S [c],S l,rL,rL,by
  let e:=StrLaws.found_one (S l) c;rw[aaE]at e;rw[show (S [c])=(⟨#[c]⟩:Str) from rL,e];show q⟩
def aj_ (K:W.Frag):List V->Hp->VK->Prop:=λxs H Q=>∃(p:Addr) (ns:List Int),xs=[.ref p]/\bM K H p (ns.map V.int)/\ns.length<=1000/\(∀x∈ns,-1000000000000000<=x/\x<=1000000000000000)/\Q (.int ns.sum) H
def acD (hc:X.calm=true):jJ X (.builtin "sum") (aj_ X.K):=by
 intro ao s σ H xs us Q I r h;let⟨p,ns,rfl,hq,hn,hb,q⟩:=h;let⟨u,rfl,G⟩:=vals1 r;cases G;let⟨its,O,pl,hz⟩:=I.list hq;let Z:=O.length;rw[aa]at Z;let F:p≠s.heap.objs.size:=by let⟨o,J,_⟩:=pl.isList;show cv (a_ J)
 let hv:∀(i:Nat) (v:Value),its.toArray[i]?=some v->∃t,v=.int (ns.getD i 0) t:=λi v hv=>by
  let hv:its[i]?=some v:=by simpa using hv
  let hi:i<ns.length:=by have:=(ah.mp hv).1;simp_all
  let⟨u,Y,G⟩:=O.get (i:=i) (x:=.int ns[i]) (by simp[hi]);rw[hv]at Y;cases Y;let⟨t,e⟩:=G;show⟨t,by rw[e];simp[List.getD,hi]⟩
 let hsz:its.toArray.size=ns.length:=by simp[Z]
 calc call_sum_walk (iq pl.isList ?_);refine⟨s.heap.objs.size,_,_,_,_,_,_,rL,Walks.list (A:=X.A.in1) (I.ok.hd hc) s.heap.objs.size p F its.toArray,⟨⟨_,bu _ rL,rL,rL⟩,pl.isList.at λo e=>ag _ e⟩,?_,hv,λj hj=>?_,λh' tk t' kk=>?_⟩
 .intro b hb;have:b=s.heap.objs.size\/b=p:=by simpa using hb
  rw[fk];rcases this with e|e;.rw[e];show gX _
  .rw[e];let⟨o,J,_⟩:=pl.isList;show lT (a_ J)
 .let D:j<ns.length:=by simp_all
  let h1:=hb _ (ba D);let e1:ns.getD j 0=ns[j]:=by simp[List.getD,D]
  let h2:=aiv (ns.take (j+1)) 1000000000000000 qr λx hx=>hb x (cf hx);let hl:(ns.take (j+1)).length<=1000:=by rw[av];lia
  rw[Dc ns (j+1) D,e1];unfold InLong;lia
 .let I1:aX X ao σ H {s with heap:=h',toks:=tk}:=I.kept λb o e=>kk b o (by
   intro hm;have:b=s.heap.objs.size:=by simpa using hm
   subst this;show absurd (a_ e) (fw _)) (ag _ e)
  rw[hsz,Dc ns ns.length (ax _),cw];show⟨.int _,H,I1,⟨t',rL⟩,q⟩
def Aq.rd {kvs:List (Key×V)}{k:Key}(e:Rd H a (.dK kvs)):Aq H a (kV k) (iz kvs k):=.inl ⟨kvs,k,e,rL,rL⟩
def Rd.mv (k:aB H H')(r:Rd H a u):Rd H' a u:=by
 rcases r with r|⟨o,r⟩;.show .inl (k _ _ r)
 .show .inr ⟨o,k _ _ r⟩
end
end L2
namespace L2
open PySem PySem.Spec PyProof.Rows
section
variable {X:Cx}{ao:AF}{σ:St}{H:Hp}{s:Shared}
def aiw (X:Cx)(s:Shared)(x:Str)(u:Value):Prop:=∃m,s.heap.Ns X.env.locals m/\Look X.env s.heap m x u
def aew {E:AB}{x:Str}{u:Value}{pos:Pos}{Q:AB}(I:aX X ao σ H s)(h:aiw X s x u)(q:Q u s)(hd:(x==("__debug__":Str))=false:=by decide)(F:(x==("__classdict__":Str))=false:=by decide):wpAny (model X.prog X.w) X.A (eval (.Name x pos) X.env) Q E s:=by
 let⟨m,hn,l⟩:=h;rcases l with⟨D,hm⟩|⟨D,c,G,j⟩;.show mS (wpAny_loadName_local I.ok.kind D hn hm q) hd
 .rcases D with D|D;.show mS (wpAny_loadName_cell I.ok.kind D G j q) hd
  .show mS (wpAny_loadName_free I.ok.kind D G j q F) hd
end
end L2
namespace L2
open PySem PySem.Spec PyProof.Rows PySem.Builtin PySem.Builtin.Str
def Ol (x y z:Str)(t u v:Tok)(h0:(u==0||v==0)=false)(D:(y==z)=false)(hl:tooLong (x.length+(occurrences x y 0 x.length (x.length+1)).length*z.length)=false):Gives («str.replace» ⟨[.str x t,.str y u,.str z v],[]⟩) (if (((occurrences x y 0 x.length (x.length+1)).isEmpty||(y.length==0&&z.length==0))||u==v)=true then .val (.str x t) else .str (glued z (partsBetween x (occurrences x y 0 x.length (x.length+1)) y.length))):=by
 show Gives (if ((occurrences x y 0 x.length (x.length+1)).isEmpty||(y.length==0&&z.length==0))=true then (rule "str.replace.nothing" >>= λ_=>ret (.str x t)) else
     (isSame (.str y u) (.str z v) >>= λsame=>if same=true then (rule "str.replace.old-is-new" >>= λ_=>ret (.str x t)) else if tooLong (x.length+(occurrences x y 0 x.length (x.length+1)).length*z.length)=true then unsupported "str.replace:memory" else retStr (glued z (partsBetween x (occurrences x y 0 x.length (x.length+1)) y.length)))) _
 cases F:((occurrences x y 0 x.length (x.length+1)).isEmpty||(y.length==0&&z.length==0))
 .cases j:(u==v)
  .rw[isSame_str_other y z u v h0 j D,hl];show .of_eq rfl
  .let e:isSame (.str y u) (.str z v)=pure true:=by
    show isSame.created (y==z) u v=_;unfold isSame.created;rw[h0,j];rfl
   rw[e];show .rule (.of_eq rL)
 .show .rule (.of_eq rL)
def qH (c:Nat):Nat:=if 65<=c/\c<=90 then 63 else c
theorem Y9:∀j:List Str,(Str.join ⟨#[65]⟩ j).cps.toList.map qH=(Str.join ⟨#[63]⟩ j).cps.toList.map qH
 | []=>rfl
 | [a]=>rfl
 | a::b::r=>by let D:=Y9 (b::r);show ((a++⟨#[65]⟩++Str.join ⟨#[65]⟩ (b::r)).cps.toList).map qH=((a++⟨#[63]⟩++Str.join ⟨#[63]⟩ (b::r)).cps.toList).map qH;simp only[Str.cps_append,Array.toList_append,bP,D];rfl
def ags (l:List Nat)(n:Nat):((glued (S [65]) (partsBetween (S l) (occurrences (S l) (S [63]) 0 (S l).length n) (S [63]).length)).cps.toList).map qH=l.map qH:=by let e:=StrLaws.glued_between_self (S l) (S [63]) n;rw[StrLaws.glued_eq_join]at e ⊢;have:=Y9 (partsBetween (S l) (occurrences (S l) (S [63]) 0 (S l).length n) (S [63]).length);rw[show (⟨#[65]⟩:Str)=S [65] from rL,show (⟨#[63]⟩:Str)=S [63] from rL,e]at this;show this
section
variable {X:Cx}
def PEt (X:Cx)(e:Expr)(t:TE):Prop:=∀(ao:AF) (s:Shared) (σ:St) (H:Hp) (Q:VK),aX X ao σ H s->t σ H Q->wpAny (model X.prog X.w) X.A (eval e X.env) (λu s'=>EP X ao σ Q u s'/\0<s'.toks) X.xe s
def agt {e:Expr}{ta:TE}{f:Str}{pos:Pos}(Z:PE X e ta)(hb:attributeBase e f X.env (eval e X.env)=eval e X.env):PEt X (.Attribute e f pos) (adY X.K ta f):=by intro ao s σ H Q I h;calc N_ hb (cP (Z ao s σ H _ I h) λu s1 F=>?_);let⟨x,H1,j,J,a,C,dx,fs,v,ex,G,c,n,l,q⟩:=F;subst ex;obtain rfl:u=Value.ref a:=J;let⟨mA,O,r,_,_,_⟩:=Bv j.hok G;let⟨u,Y,D⟩:=nQ.some_of (v:=v) (o:=mA f) (by rw[<-l];show r f);show get_map j.je O (c.get f) c.hd n Y (E_ D) ⟨⟨v,H1,j.tok _,D,q⟩,Nat.succ_pos _⟩
def aix {a b:Expr}{ta tb:TE}{pos:Pos}{r:R2}(hr:Lg X r)(ha:PEt X a ta)(hb:PE X b tb)(hs:Oc b):PEt X (.Subscript a b pos) (TF r ta tb):=by intro ao s σ H Q I h;calc Subscript_ (cP (ha ao s σ H _ I h) λv s1 z=>?_);obtain⟨⟨x,H1,F,r1,q1⟩,D⟩:=z;calc Tv (eh (hb ao s1 σ H1 _ F q1) (λu s2 z ht=>?_) λ_ _ z _=>z);let⟨y,G,J,r2,q2⟩:=z;show Tv (eh (hr a b ao s2 σ G x y v u Q J r1 r2 q2 (hs _ _)) (λw O z j=>⟨z,cS D (b8 ht j)⟩) λ_ _ z _=>z)
def aiy (ix:Nat):TE:=λσ H Q=>∃l:List Nat,σ[ix]?=some (some (.str (S l)))/\l.length<=63/\∀j:List Nat,j.map qH=l.map qH->Q (.str (S j)) H
def aiz {e1:Expr}{t1:TE}{x g:Str}{ix:Nat}{px pg apos cpos G:Pos}{j:Nat}{z:Str}(h1:PEt X e1 t1)(hN:X.N[ix]?=some x)(hv:Vis X.env.scope x)(hg:Gl X g)(hm:∃t,t≠0/\X.mg g=some (.str (S [63]) t))(hz:z=S [65])(hst:starEach [e1,.Call (.Attribute (.Name x px) "replace" apos) [.Name g pg,.Constant (.str z) j G] [] cpos] X.env=[(false,eval e1 X.env),(false,eval (.Call (.Attribute (.Name x px) "replace" apos) [.Name g pg,.Constant (.str z) j G] [] cpos) X.env)])(O:((backTo cpos (starEach [.Name g pg,.Constant (.str z) j G] X.env)).all (λx=>!x.1)&&(backToKw cpos (keywordEach [] X.env)).all (λx=>x.1.isSome)&&decide ([Expr.Name g pg,.Constant (.str z) j G].length+([]:List Keyword).length+(if ([]:List Keyword).isEmpty then 0 else 1)<30))=true)(D:(apos.endLine==cpos.line)=true)(hd:(x==("__debug__":Str))=false)(hcd:(x==("__classdict__":Str))=false)(hgd:(g==("__debug__":Str))=false):PA X [e1,.Call (.Attribute (.Name x px) "replace" apos) [.Name g pg,.Constant (.str z) j G] [] cpos] (Ig t1 (Ig (aiy ix) TV)):=by
 subst hz;let⟨tB,hB,hm⟩:=hm;intro pos ao s σ H Q I h;rw[hst];show wpAny _ _ (spliced ((false,eval e1 X.env)::(false,eval _ X.env)::[])) _ _ s;calc ft (cP (h1 ao s σ H _ I h) λu s1 y=>?_);obtain⟨⟨x1,H1,Z,r1,l,hl,h63,q⟩,tk⟩:=y;let⟨m,hn,hlm⟩:=id Z.loc;obtain⟨ur,⟨tr,er⟩,lr⟩:=hlm ix x _ hN hl hv;subst er;let exr:aiw X s1 x (.str (S l) tr):=⟨m,hn,lr⟩
 calc ft (wpAny_Call_method_late rL O D rL (aew Z exr ?_ hd hcd));calc⟨"str","str.replace",bv,PySem.F.slot_str_replace,PySem.F.type_str_replace,typeIs_str s1 _ tr,λ_ e=>(nomatch e),?_⟩;calc ia rL (iF ?_);show wpAny _ _ (spliced ((false,eval (.Name g pg) X.env)::(false,eval (.Constant (.str (S [65])) j G) X.env)::[])) _ _ _;calc ft (oJ Z hg hm (ft (Calls.Constant_str (ir ?_))) hgd);let dR:=StrLaws.occ_length_le (S l) (S [63]) 0 (S l).length ((S l).length+1);let hsl:(S l).length=l.length:=uw l;let Lj:tooLong ((S l).length+(occurrences (S l) (S [63]) 0 (S l).length ((S l).length+1)).length*(S [65]).length)=false:=by unfold tooLong sizeLine;rw[show (S [65]).length=1 from rfl];show af qk
 refine call_gives F.slot_str_replace (typeIs_str _ _ tr) F.entry_str_replace (F.args_str_replace_3 _ _ _) (Ol (S l) (S [63]) (S [65]) tr tB s1.toks ?_ rL Lj) ?_
 .have:s1.toks≠0:=kn tk;simp[*]
 let J:∀(Y:List Nat) (t':Tok) (k:Nat),Y.map qH=l.map qH->AP X ao σ Q [u,.str (S Y) t'] {s1 with toks:=k}:=λY t' k e=>⟨[x1,.str (S Y)],H1,Z.tok _,.cons r1 (.cons ⟨_,rL⟩ .nil),q Y e⟩
 split;.show ir (J l _ _ rL)
 .calc⟨?_,ir ?_⟩;.show fits_replaced (S [63]) (by rw[hsl,show (S [65]).length=1 from rfl];lia)
  .show J _ _ _ (ags l _)
end
structure QEt (X:Cx)(e:Expr)(t:TE):Prop where
 out:PEt X e t
end L2
namespace L2
open PySem PySem.Spec PyProof.Rows
section
variable {X:Cx}
def agu {e:Expr}{ta:TE}{f:Str}{pos:Pos}(j:QE X e ta)(hb:attributeBase e f X.env (eval e X.env)=eval e X.env):QEt X (.Attribute e f pos) (adY X.K ta f):=⟨agt j.out hb⟩
def aiA {a b:Expr}{ta tb:TE}{pos:Pos}{r:R2}(hr:Lg X r)(ha:QEt X a ta)(hb:QE X b tb)(hs:Oc b):QEt X (.Subscript a b pos) (TF r ta tb):=⟨aix hr ha.out hb.out hs⟩
def aiB {e1:Expr}{Z:TE}{x g:Str}(ix:Nat){I pg apos cpos G:Pos}{j:Nat}{z:Str}(h1:QEt X e1 Z)(hm:∃t,t≠0/\X.mg g=some (.str (S [63]) t))(hN:X.N[ix]?=some x)(hv:Vis X.env.scope x)(hg:Gl X g)(hz:z=S [65])(Y:starEach [e1,.Call (.Attribute (.Name x I) "replace" apos) [.Name g pg,.Constant (.str z) j G] [] cpos] X.env=[(false,eval e1 X.env),(false,eval (.Call (.Attribute (.Name x I) "replace" apos) [.Name g pg,.Constant (.str z) j G] [] cpos) X.env)])(F:((backTo cpos (starEach [.Name g pg,.Constant (.str z) j G] X.env)).all (λx=>!x.1)&&(backToKw cpos (keywordEach [] X.env)).all (λx=>x.1.isSome)&&decide ([Expr.Name g pg,.Constant (.str z) j G].length+([]:List Keyword).length+(if ([]:List Keyword).isEmpty then 0 else 1)<30))=true)(D:(apos.endLine==cpos.line)=true)(hd:(x==("__debug__":Str))=false:=by decide)(J:(x==("__classdict__":Str))=false:=by decide)(O:(g==("__debug__":Str))=false:=by decide):QA X [e1,.Call (.Attribute (.Name x I) "replace" apos) [.Name g pg,.Constant (.str z) j G] [] cpos] (Ig Z (Ig (aiy ix) TV)):=⟨aiz h1.out hN hv hg hm hz Y F D hd J O⟩
end
end L2
namespace L2
open PySem PySem.Spec PyProof.Rows PySem.W
def aaR (l)(j:Array Value)(n)(dd)(sl)(u:Tok)(h0:¬j.isEmpty=true):Meets (Builtin.«tuple.__mul__» ⟨[.ref l,.int 1 u],[]⟩) (λ_ R s=>s.heap.get? l=some {cls:=.type "tuple",dict:=dd,data:=.seq j n,slots:=sl}/\R (.ok (.ret (.ref l))) s):=
 .of_wp λprog w A R s h=>by
  let⟨hp,g,d,tk,os⟩:=s;let⟨hl,h⟩:=h;let f1:=AutoSeq1.idx_int;let f2:=AutoSeq1.sub_tuple_tuple
  wp_walk using jS hl
  show⟨_,rL,h⟩
section
variable {X:Cx}
def akb (K:W.Frag):R2:=λx y H Q=>∃a xs,∃n:Nat,x=.ref a/\y=.int n/\H a=some (.tup xs)/\xs≠[]/\1<=n/\n<=100/\xs.length<=100/\∀p H',aB H H'->H' p=some (.tup (List.replicate n xs).flatten)->Q (.ref p) H'
def Y_:ji X (binaryOp .Mult) (akb X.K):=by
 intro ao s σ H x y v u Q I G J h;let⟨a,xs,n,rfl,rfl,ha,hx,n1,D,F,q⟩:=h;by_cases h2:2<=n;.show agi ao s σ H _ _ v u Q I G J ⟨a,xs,n,rL,rL,aQ.of ha,hx,h2,D,F,λp hp=>q p _ (aB.upd hp) aA⟩
 .let e:n=1:=qk;subst e;cases G;let⟨tk,rfl⟩:=J;let⟨its,r1,p1,_⟩:=I.tuple (aQ.of ha);obtain⟨⟨cls,dd,data,sl⟩,j,O,m,hd⟩:=id p1;simp only at O hd;subst O hd;let h0:¬its.toArray.isEmpty=true:=λz=>hx (r1.Bx.mp (by simpa using z));refine k9 (T:="tuple") (U:="int") qr ⟨_,j,rL⟩ (λs'=>typeIs_int s' _ _) yR PySem.F.fills_int_mul kr Fp PySem.F.slot_int_index.lookup
   (call_meets kr (typeIs_int s _ _) PySem.F.entry_int_rmul (PySem.F.args_int_rmul_2 _ _) (L_ _ _ a its.toArray m dd sl) ⟨j,rL,⟨_,j,rL⟩,?_⟩)
  calc call_meets kf ⟨_,j,rL⟩ PySem.F.entry_tuple_mul (PySem.F.args_tuple_mul_2 _ _) (aaR a its.toArray m dd sl _ h0) ⟨j,?_⟩;show⟨.ref a,H,I,rL,q a H (aB.refl _) (by simpa using ha)⟩
end
def akc (K:W.Frag)(C:Addr)(tb:XK->St->TS)(th:TS):TS:=λD σ H=>∃E:XK,tb E σ D σ H/\∀(a:Addr) (cls:Value) (dd:Option Addr) (H':Hp),E cls dd H'->H' a=none->
 exmOne K cls (.ref C)=some true/\th D σ (upd H' a (.ext (xJ a cls dd)))
section
variable {X:Cx}{C:Addr}{x:Str}{np hpos pos:Pos}{body suite:List Stmt}{b0:Stmt}{tb:XK->St->TS}{th:TS}
def agv (j:X.stack=X.env::X.outer)(hf:X.env.frame=some X.env.locals)(hg:Gl X x)(hm:X.mg x=some (.ref C))(hb:∀(pn:AF) (xe:AB) (E:XK) (σ0:St),PassesOwn (model X.prog X.w) X.A X.env xe->tW (vm X.prog X.w) (X.tried pn xe) E (·=σ0)->wQ (X.tried pn xe) body (tb E σ0))(hh:∀a,wQ (X.held a) (b0::suite) th)(hdb:(x==("__debug__":Str))=false:=by decide):QS X (.Try body [.ExceptHandler (some (.Name x np)) none (b0::suite) hpos] [] [] pos) (akc X.K C tb th):=⟨by
 intro ao s σ H D I h;let⟨E,G,UL⟩:=h;let hp:PassesOwn (model X.prog X.w) X.A X.env (λe s₁=>wpAny (model X.prog X.w) X.A (noteFrame e X.env) (λ_ O=>wpAny (model X.prog X.w) X.A (setFlight e none) (λ_ s₃=>wpAny (model X.prog X.w) X.A (handleBy e X.env [.ExceptHandler (some (.Name x np)) none (b0::suite) hpos]) (SP X ao D) X.xe s₃) X.xe O) X.xe s₁):=PassesOwn.looking;let hP:tW (vm X.prog X.w) (X.tried (X.pn++ao) (λe s₁=>wpAny (model X.prog X.w) X.A (noteFrame e X.env) (λ_ O=>wpAny (model X.prog X.w) X.A (setFlight e none) (λ_ s₃=>wpAny (model X.prog X.w) X.A (handleBy e X.env [.ExceptHandler (some (.Name x np)) none (b0::suite) hpos]) (SP X ao D) X.xe s₃) X.xe O) X.xe s₁)) E (·=σ):=by
  intro Ia σ' H1 s1 e s2 I1 hσ hq;let⟨a,cls,dd,H',B,ea,ex,q⟩:=hq;subst ea;let J:=I1.qY;let hσ:σ'=σ:=hσ;subst hσ;let fl:vh B (X.env::X.outer) a cls dd .none s2.heap:=by rw[<-j];show ex.fly
  let Z:X.A.frames=some (X.env::X.outer):=by rw[<-j];show J.ok.frames
  let⟨hmt,Y⟩:=UL a cls dd H' q ex.na;calc Oi Z hf fl λh1 y1 k1=>qW y1 λh2 y2 k2=>?_;let I2:=J.caught ex (by rw[j];show y2) (k1.trans k2);calc wpAny_handleBy_cons (codeAny_handlers_test (oJ (X:=X.held a) (I2.held a) hg hm ?_ hdb)) (by intro q;cases q);let LT:Looks (model X.prog X.w) h2 (typeOf (.ref a)) cls:=by let⟨oe,_,_,_,_,he,hc,_⟩:=y2.tr;show hc ▸ (Looks.ld he).andThen .now
  calc(exm_one (K:=X.K) I2.je LT hmt).here ?_;calc codeAny_handlers_suite (qW y2 λh3 y3 k3=>?_);let I3:=J.caught ex (by rw[j];show y3) ((k1.trans k2).trans k3);calc eh ((hh a).out ao _ _ _ D (I3.held a) Y) (λf s5 hs=>?_) λ_ _ z=>z.elim;cases f with
  | next=>let⟨σ5,H5,F,q5⟩:=hs;show⟨_,_,F.Fo J.ok,q5⟩
  | brk=>let⟨σ5,H5,F,q5⟩:=hs;show⟨_,_,F.Fo J.ok,q5⟩
  | cont=>let⟨σ5,H5,F,q5⟩:=hs;show⟨_,_,F.Fo J.ok,q5⟩
  | ret u=>let⟨v,σ5,H5,F,r5,q5⟩:=hs;show⟨v,_,_,F.Fo J.ok,r5,q5⟩
 calc wpAny_Try_except (eh ((hb _ _ E σ hp hP).out [] s σ H D (I.tried _) G) (λf s1 hs=>?_) λe s1 z=>z);let hs:=hs.qY;cases f with
 | next=>let⟨σ',H',I',q⟩:=hs;show(bR (X:=X)).out ao s1 σ' H' D I' q
 | brk=>show hs
 | cont=>show hs
 | ret u=>show hs⟩
end
abbrev TH:=Addr->Value->TS
structure QH (X:Cx)(hs:List ExceptHandler)(t:TH):Prop where
 out:∀{ao:AF} {σ:St} {H H':Hp} {s s':Shared} {a:Addr} {cls:Value} {dd:Option Addr} {B h2:Heap} {D:Ends},aX X ao σ H s->YW X.prog X.w X.stack H s a cls dd H' s' B->vh B X.stack a cls dd .none h2->s'.heap.UpToSlots h2->t a cls D σ (upd H' a (.ext (xJ a cls dd)))->
  wpAny (model X.prog X.w) X.A (handleBy (.ref a) X.env hs) (SP X ao D) X.xe {s' with heap:=h2}
noncomputable def alf (K:W.Frag)(C:Addr)(i:Nat)(th:Addr->TS)(tr:TH):TH:=λa cls D σ H=>(exmOne K cls (.ref C)=some true/\th a (unb i D) (σ.set i (some (.ref a))) H)\/(exmOne K cls (.ref C)=some false/\tr a cls D σ H)
def alg:TH:=λ_ _ _ _ _=>False
def akd (t:TH)(tb:XK->St->TS):TS:=λD σ H=>∃E:XK,tb E σ D σ H/\∀(a:Addr) (cls:Value) (dd:Option Addr) (H':Hp),E cls dd H'->H' a=none->t a cls D σ (upd H' a (.ext (xJ a cls dd)))
section
variable {X:Cx}{C:Addr}{x n:Str}{np hpos pos:Pos}{body suite:List Stmt}{b0:Stmt}{i:Nat}{tb:XK->St->TS}{th:Addr->TS}{tr:TH}{rest:List ExceptHandler}
def aiC:QH X [] alg:=⟨λ_ _ _ _ h=>h.elim⟩
def Fv (hg:Gl X x)(hm:X.mg x=some (.ref C))(hN:X.N.Nodup)(hi:X.N[i]?=some n)(hk:X.env.scope.names.lookup n=some .local)(hh:∀a,wQ (X.held a) (b0::suite) (th a))(hr:QH X rest tr)(hdb:(x==("__debug__":Str))=false:=by decide):QH X (.ExceptHandler (some (.Name x np)) (some n) (b0::suite) hpos::rest) (alf X.K C i th tr):=⟨by
 intro ao σ H H' s s' a cls dd B h2 D J ex y2 k2 h;let I2:=J.caught ex y2 k2;calc wpAny_handleBy_cons (codeAny_handlers_test (oJ (X:=X.held a) (I2.held a) hg hm ?_ hdb)) (by intro q;cases q);let LT:Looks (model X.prog X.w) h2 (typeOf (.ref a)) cls:=by let⟨oe,_,_,_,_,he,hc,_⟩:=y2.tr;show hc ▸ (Looks.ld he).andThen .now
 rcases h with⟨F,hsu⟩|⟨F,hre⟩
 .calc(exm_one (K:=X.K) I2.je LT F).here ?_;calc codeAny_handlers_suite_as (qW y2 λh3 y3 k3=>?_);let I3:=J.caught ex y3 (k2.trans k3);calc JG (X:=X.held a) (I3.held a) hN hi (.inl hk) (v:=.ref a) rL (λs4 I4=>?_) (.inr hk);calc eh ((hh a).out ao s4 _ _ (unb i D) I4 hsu) (λf s5 hs=>?_) λ_ _ z=>z.elim;let Z:(X.env.scope.kind == .class||(X.env.scope.kind == .module&&X.env.locals != X.env.globals))=false:=by rw[J.ok.kind];rfl
  let j:∀{σ5:St} {O:Hp} {Q:Unit->Shared->Prop},aX (X.held a) ao σ5 O s5->(∀Y,aX X ao (σ5.set i none) O Y->Q () Y)->wpAny (model X.prog X.w) X.A (do bindName X.env n .none;unbindBehindTheSuite X.env n hpos) Q X.xe s5:=λI hQ=>by let I5':=I.Fo J.ok;let⟨m,hm5,_⟩:=id I5'.loc;show wpAny_nameGoes_keeps hk hm5 Z λh' v hn hs=>hQ _ (I5'.unbound hN hi hk hm5 hn hs)
  cases f with
  | next=>let⟨σ5,O,I,q5⟩:=hs;show j I λY G=>⟨_,_,G,q5⟩
  | brk=>let⟨σ5,O,I,q5⟩:=hs;show j I λY G=>⟨_,_,G,q5⟩
  | cont=>let⟨σ5,O,I,q5⟩:=hs;show j I λY G=>⟨_,_,G,q5⟩
  | ret u=>let⟨v,σ5,O,I,r5,q5⟩:=hs;show j I λY G=>⟨v,_,_,G,r5,q5⟩
 .calc(exm_one (K:=X.K) I2.je LT F).here ?_;show hr.out J ex y2 k2 hre⟩
def agw {h0:ExceptHandler}{hs:List ExceptHandler}{t:TH}(F:X.stack=X.env::X.outer)(hf:X.env.frame=some X.env.locals)(hb:∀(pn:AF) (xe:AB) (E:XK) (σ0:St),PassesOwn (model X.prog X.w) X.A X.env xe->tW (vm X.prog X.w) (X.tried pn xe) E (·=σ0)->wQ (X.tried pn xe) body (tb E σ0))(hh:QH X (h0::hs) t):QS X (.Try body (h0::hs) [] [] pos) (akd t tb):=⟨by
 intro ao s σ H D I h;let⟨E,j,UL⟩:=h;let hp:PassesOwn (model X.prog X.w) X.A X.env (λe Z=>wpAny (model X.prog X.w) X.A (noteFrame e X.env) (λ_ G=>wpAny (model X.prog X.w) X.A (setFlight e none) (λ_ Y=>wpAny (model X.prog X.w) X.A (handleBy e X.env (h0::hs)) (SP X ao D) X.xe Y) X.xe G) X.xe Z):=PassesOwn.looking;let hP:tW (vm X.prog X.w) (X.tried (X.pn++ao) (λe Z=>wpAny (model X.prog X.w) X.A (noteFrame e X.env) (λ_ G=>wpAny (model X.prog X.w) X.A (setFlight e none) (λ_ Y=>wpAny (model X.prog X.w) X.A (handleBy e X.env (h0::hs)) (SP X ao D) X.xe Y) X.xe G) X.xe Z)) E (·=σ):=by
  intro Ia σ' H1 s1 e s2 I1 hσ hq;let⟨a,cls,dd,H',B,ea,ex,q⟩:=hq;subst ea;let J:=I1.qY;let hσ:σ'=σ:=hσ;subst hσ;let fl:vh B (X.env::X.outer) a cls dd .none s2.heap:=by rw[<-F];show ex.fly
  let O:X.A.frames=some (X.env::X.outer):=by rw[<-F];show J.ok.frames
  calc Oi O hf fl λh1 y1 k1=>qW y1 λh2 y2 k2=>?_;let y3:vh B X.stack a cls dd .none h2:=by rw[F];show y2
  show hh.out (s':=s2) J ex y3 (k1.trans k2) (UL a cls dd H' q ex.na)
 calc wpAny_Try_except (eh ((hb _ _ E σ hp hP).out [] s σ H D (I.tried _) j) (λf s1 hs=>?_) λe s1 z=>z);let hs:=hs.qY;cases f with
 | next=>let⟨σ',H',I',q⟩:=hs;show(bR (X:=X)).out ao s1 σ' H' D I' q
 | brk=>show hs
 | cont=>show hs
 | ret u=>show hs⟩
end
structure Mg (k:Nat)(A:Around):Prop where
 dp:A.depth+3*k+5<recursionLimit
 un:A.units+16*k+200<cLine
def iu.mark (r:iu k A)(h:j<=k)(e:Option Value):Mg j (A.mark e):=⟨(r.mono h).dp,(r.mono h).un⟩
structure aaS (P:Program)(w:World)(K:W.Frag)(mg:Str->Option Value)(base:Heap)(name:Str)(k:Nat)(ps:List Str)(sp:Sp):Prop where
 ex:∃f fd,(∀vs H Q E,sp vs H Q E->vs.length=ps.length)/\(∀(A:Around) (outer:List Env) (s:Shared) (H:Hp) (args:Args) (us:List Value) (vs:List V) (Q:VK) (E:XK),Mg k A->CV P w K mg base A outer s H->BindsTo s fd args (ps.zip us)->Vals vs us->sp vs H Q E->
  codeAny (model P w) A (.call (.ref f) args) (CR eV outer P w H s Q E) s)/\cD K fd ps []/\mg name=some (.ref f)/\W.keepIn K (.ref f)=true
abbrev Cx.rough (X:Cx):Cx:={X with calm:=false}
def aO.alh {P:Program}{w:World}{K:W.Frag}{mg:Str->Option Value}{base:Heap}{name:Str}{st:Stmt}{N ps:List Str}{k:Nat}{sp:Sp}(D:aO K mg name st ps)(S:bD N ps (aL st))(len:∀vs H Q E,sp vs H Q E->vs.length=ps.length)(Y:∀(f:Addr) (bV:Value) (A:Around) (outer:List Env) (s:Shared) (H:Hp) (vs:List V) (Q:VK) (E:XK),Mg k (A.deeper (envOfC name (aL st) s.heap.objs.size f bV))->sp vs H Q E->
   ∃t,wQ (rM eV P w K mg base N name (aL st) f bV A outer s H E).rough.La (dG st) t/\t {nx:=λ_ H'=>Q .non H',rt:=Q} (start N vs) H):aaS P w K mg base name (k+1) ps sp:=by
 let⟨f,fd,F,b,g⟩:=D.ex;calc⟨f,fd,len,?_,b,g,F.kp⟩;let⟨oc,od,kV,doc,pm,an,bV,ct,osl,rfl,lk,hcd⟩:=F.ex;intro A outer s H args us vs Q E hr G hb r hsp;let hl:=len _ _ _ _ hsp;let KX:K.In s.heap:=G.mod.En.keeps λb o e=>(G.bs b o e).1;let lim:s.heap.NoLimit:=G.mod.nolimit.keeps λb o e=>(G.bs b o e).1;let O:∀y∈ps.zip us,(aL st).names.lookup y.1=some .local\/((aL st).names.lookup y.1=some .cell/\((cellsFrom (s.heap.objs.size+1) (aL st).names []).lookup y.1).isSome=true):=λ⟨n,v⟩ hy=>by
  rcases S.par n (mT hy).1 with q|q;.show .inl q
  .show .inr ⟨q,ma _ _ _ (.inl q)⟩
 calc codeAny_call_function (by have:=hr.dp;lia) (KX _ _ lk) rL S.co S.gen rL (W.codeRec_of KX hcd) (hb _ _ _ _ ?_);calc wpAny_newFunctionEnv_cells S.kind O λenv he s1 x=>?_;subst he;calc⟨lim.keeps x.toInCall.keep,codeAny_func ?_⟩;let hrd:Mg k (A.deeper (envOfC name (aL st) s.heap.objs.size f bV)):=⟨by have:=hr.dp;show A.depth+1+3*k+5<_;lia,by have:=hr.un;show A.units+3+16*k+200<_;lia⟩
 let⟨t,ht,hq⟩:=Y f bV A outer s H vs Q E hrd hsp;let e1:CV P w K mg base {A with handled:=none} outer s H:=⟨G.frames,G.mod,G.bs,G.zJ,G.ql,G.Bs,G.hok,G.bare⟩
 let j:=QK (CX:=eV) (E:=E) (cd:=bV) (f:=f) S (A:={A with handled:=none}) rL e1 hl r x;let I:aX (rM eV P w K mg base N name (aL st) f bV A outer s H E).rough [] (start N vs) H s1:=⟨⟨j.ok.mod,j.ok.kind,j.ok.glob,j.ok.blt,j.ok.above,j.ok.inj,j.ok.has,j.ok.cab,(λz=>nomatch z),Around.frames_deeper G.frames,j.ok.stk,j.ok.Yu,j.ok.bs,j.ok.zJ,j.ok.Cz,j.ok.Ez,j.ok.ql,j.ok.Bs⟩,j.os,j.bare,j.base,j.loc,j.cell,j.free,j.mZ,j.pin,j.hok,j.len⟩
 calc eh (ht.out.La [] s1 (start N vs) H _ I hq) (λfl s' hs=>?_) λe s' hs=>hs;let Z:∀{σ':St} {H':Hp} {v:V} {u:Value},aX (rM eV P w K mg base N name (aL st) f bV A outer s H E).rough [] σ' H' s'->cW v u->Q v H'->CE outer P w H s Q u s':=λ{σ' H' v u} J rv q=>⟨v,H',J.os,J.bare,J.base,J.hok,rv,q⟩
 cases fl with
 | ret u=>let⟨v,σ',H',J,rv,q⟩:=hs;show Z J rv q
 | next=>let⟨σ',H',J,q⟩:=hs;show Z (v:=V.non) (u:=Value.none) J rL q
 | brk=>let⟨_,_,_,q⟩:=hs;show False.elim q
 | cont=>let⟨_,_,_,q⟩:=hs;show False.elim q
section
variable {X:Cx}{x:Str}{p pos:Pos}{e:Expr}{es:List Expr}{t:TA}{k:Nat}{ps:List Str}{sp:Sp}
def BP (D:aaS X.prog X.w X.K X.mg X.base x k ps sp)(hr:Mg k X.A)(hg:Gl X x)(ha:QA X (e::es) t)(J:(x==("__debug__":Str))=false:=by decide)(hs:starEach (e::es) X.env=(false,eval e X.env)::starEach es X.env:=by rfl)(G:(backTo pos (starEach es X.env)).any (·.1)=false:=by rfl):QE X (.Call (.Name x p) (e::es) [] pos) (aax sp [] E0 t):=⟨by
 let⟨f,fd,O,run,b,g,kp⟩:=D.ex;intro ao s σ H Q I h;calc gp (oJ I hg g ?_ J);calc ic (h₀:=X.base) I.ok.mod.En kp (cP (ha.out pos ao s σ H _ I h) λus s1 ⟨vs,H1,F,r,q⟩=>⟨F.je,?_⟩) hs G;let q:sp (vs++[]) H1 Q E0:=q;rw[e_]at q;let hl:us.length=ps.length:=by rw[<-r.length];show O _ _ _ _ q
 let hB:=b s1 us F.je (by rw[e_];show hl);rw[e_]at hB;calc gu (iX (run X.A X.stack s1 H1 ⟨us,[]⟩ us vs Q E0 hr F.env0 hB r q) λr s' j=>?_);cases r with
 | error e=>show j.elim
 | ok fl=>
  cases fl with
  | ret u=>show F.after j
  | next=>show False.elim j
  | brk=>show False.elim j
  | cont=>show False.elim j⟩
end
section
variable {X:Cx}
def vals3 {x y z:V}{us:List Value}(r:Vals [x,y,z] us):∃u v j,us=[u,v,j]/\cW x u/\cW y v/\cW z j:=by
 cases r with| cons r1 r2=>let⟨v,j,rfl,D,F⟩:=vals2 r2;show⟨_,v,j,rL,r1,D,F⟩
def acE (G:X.calm=true):jJ X (.builtin "min") (λxs H Q=>∃i j k,xs=[.int i,.int j,.int k]/\∀m:Int,m<=i->m<=j->m<=k->(m=i\/m=j\/m=k)->Q (.int m) H):=by
 intro ao s σ H xs us Q I r h;let⟨i,j,k,rfl,q⟩:=h;obtain⟨u,v,O,rfl,⟨t,rfl⟩,⟨t',rfl⟩,⟨J,rfl⟩⟩:=vals3 r;calc min_three_ints (I.ok.hd G) λh' tk F=>?_;let D:∀(m:Int) (t:Tok),m<=i->m<=j->m<=k->(m=i\/m=j\/m=k)->EP X ao σ Q (.int m t) {heap:=h',gens:=s.gens,drawn:=s.drawn,toks:=tk,os:=s.os}:=λm t h1 h2 h3 h4=>⟨.int m,H,I.kept F,⟨_,rL⟩,q m h1 h2 h3 h4⟩
 split
 .split;.show D _ _ qk qk qk (.inr (.inr rL))
  .show D _ _ qk qk qk (.inr (.inl rL))
 .split;.show D _ _ qk qk qk (.inr (.inr rL))
  .show D _ _ qk qk qk (.inl rL)
def acF (hc:X.calm=true):jJ X (.builtin "min") (λxs H Q=>∃(p:Addr) (ns:List Int),xs=[.ref p]/\aQ X.K H p (ns.map V.int)/\0<ns.length/\∀m∈ns,(∀x∈ns,m<=x)->Q (.int m) H):=by
 intro ao s σ H xs us Q I r h;let⟨p,ns,rfl,hq,h0,q⟩:=h;let⟨u,rfl,F⟩:=vals1 r;cases F;let⟨its,J,pl,hz⟩:=I.tuple hq;let Y:=J.length;rw[aa]at Y;let D:p≠s.heap.objs.size:=by let⟨o,G,_⟩:=pl;show cv (a_ G)
 let hb:∀(i:Nat) (v:Value),its.toArray[i]?=some v->∃t,v=.int (ns.getD i 0) t:=λi v hv=>by
  let hv:its[i]?=some v:=by simpa using hv
  let hi:i<ns.length:=by have:=(ah.mp hv).1;lia
  let⟨u,O,F⟩:=J.get (i:=i) (x:=.int ns[i]) (by simp[hi]);rw[hv]at O;cases O;let⟨t,e⟩:=F;show⟨t,by rw[e];simp[List.getD,hi]⟩
 calc call_min_walk (wpAny_pyIter_tuple (show s.heap.IsTuple p its.toArray from pl) ?_);refine⟨s.heap.objs.size,_,_,_,_,_,_,rL,Walks.tuple (A:=X.A.in1) (I.ok.hd hc) s.heap.objs.size p D its.toArray,⟨⟨_,bu _ rL,rL,rL⟩,pl.push _⟩,?_,by simp;lia,CmpOf.ints_lt (λi=>ns.getD i 0) hb,λv h' tk hP Z=>?_⟩
 .intro b hb;have:b=s.heap.objs.size\/b=p:=by simpa using hb
  rw[fk];rcases this with e|e;.rw[e];show gX _
  .rw[e];let⟨o,G,_⟩:=pl;show lT (a_ G)
 .let I1:aX X ao σ H {s with heap:=h',toks:=tk}:=I.kept λb o e=>Z b o (by
   intro hm;have:b=s.heap.objs.size:=by simpa using hm
   subst this;show absurd (a_ e) (fw _)) (ag _ e)
  let⟨k1,k2⟩:=argBest_lt (λi=>ns.getD i 0) (its.toArray.size-1);let hsz:its.toArray.size=ns.length:=by simp[Y]
  let⟨t,e⟩:=hb _ v hP;generalize argBest _ _=j at k1 k2 e;let hj:j<ns.length:=qk;calc⟨.int (ns.getD j 0),H,I1,⟨t,e⟩,q _ (by simp[List.getD,hj]) λx hx=>?_⟩;let⟨i,hi,rfl⟩:=iL.mp hx;have:=k2 i qk;simpa [List.getD,hi] using this
def ake (t:TT):TT:=λσ H Q=>∃R:Bool->Hp->Prop,t σ H R/\∀b H',R b H'->Q b H'
def acG {e:Expr}{t:TT}(h:QT X e t):QT X e (ake t):=⟨λao s σ H Q I ⟨R,a,b⟩=>by calc cP (h.out ao s σ H R I a) λf s' q=>?_;let⟨j,D,F⟩:=q;show⟨j,D,b _ _ F⟩⟩
end
end L2
def L2.cj {o p q:Prop}(O:o)(P:p)(Q:q):o/\p/\q:=⟨O,P,Q⟩
def L2.SN {o p q r:Prop}(O:o)(P:p)(Q:q)(R:r):o/\p/\q/\r:=⟨O,P,Q,R⟩
def L2.Fw {o p q r s t:A->B->C->D->E->F->G->H->I->J->Prop}(a b c d e f g h i j)(O:o a b c d e f g h i j)(P:p a b c d e f g h i j)(Q:q a b c d e f g h i j)(R:r a b c d e f g h i j)(S:s a b c d e f g h i j)(T:t a b c d e f g h i j):∃a b c d e f g h i j,o a b c d e f g h i j/\p a b c d e f g h i j/\q a b c d e f g h i j/\r a b c d e f g h i j/\s a b c d e f g h i j/\t a b c d e f g h i j:=⟨a,b,c,d,e,f,g,h,i,j,O,P,Q,R,S,T⟩
def L2.Fx {o p q r s:A->B->C->D->E->F->G->H->I->J->K->L->Prop}(a b c d e f g h i j k l)(O:o a b c d e f g h i j k l)(P:p a b c d e f g h i j k l)(Q:q a b c d e f g h i j k l)(R:r a b c d e f g h i j k l)(S:s a b c d e f g h i j k l):∃a b c d e f g h i j k l,o a b c d e f g h i j k l/\p a b c d e f g h i j k l/\q a b c d e f g h i j k l/\r a b c d e f g h i j k l/\s a b c d e f g h i j k l:=⟨a,b,c,d,e,f,g,h,i,j,k,l,O,P,Q,R,S⟩
def L2.aG {o p:A->Prop}(a)(O:o a)(P:p a):∃a,o a/\p a:=⟨a,O,P⟩
def L2.bJ {o p q:A->Prop}(a)(O:o a)(P:p a)(Q:q a):∃a,o a/\p a/\q a:=⟨a,O,P,Q⟩
def L2.iU {o p q r:A->Prop}(a)(O:o a)(P:p a)(Q:q a)(R:r a):∃a,o a/\p a/\q a/\r a:=⟨a,O,P,Q,R⟩
def L2.nu {o p q r s:A->Prop}(a)(O:o a)(P:p a)(Q:q a)(R:r a)(S:s a):∃a,o a/\p a/\q a/\r a/\s a:=⟨a,O,P,Q,R,S⟩
def L2.dW {o p:A->B->Prop}(a b)(O:o a b)(P:p a b):∃a b,o a b/\p a b:=⟨a,b,O,P⟩
def L2.aK {o p q:A->B->Prop}(a b)(O:o a b)(P:p a b)(Q:q a b):∃a b,o a b/\p a b/\q a b:=⟨a,b,O,P,Q⟩
def L2.aU {o p q r:A->B->Prop}(a b)(O:o a b)(P:p a b)(Q:q a b)(R:r a b):∃a b,o a b/\p a b/\q a b/\r a b:=⟨a,b,O,P,Q,R⟩
def L2.cT {o p q r s:A->B->Prop}(a b)(O:o a b)(P:p a b)(Q:q a b)(R:r a b)(S:s a b):∃a b,o a b/\p a b/\q a b/\r a b/\s a b:=⟨a,b,O,P,Q,R,S⟩
def L2.wj {o p q r s t:A->B->Prop}(a b)(O:o a b)(P:p a b)(Q:q a b)(R:r a b)(S:s a b)(T:t a b):∃a b,o a b/\p a b/\q a b/\r a b/\s a b/\t a b:=⟨a,b,O,P,Q,R,S,T⟩
def L2.Ik {o p q r s t u:A->B->Prop}(a b)(O:o a b)(P:p a b)(Q:q a b)(R:r a b)(S:s a b)(T:t a b)(U:u a b):∃a b,o a b/\p a b/\q a b/\r a b/\s a b/\t a b/\u a b:=⟨a,b,O,P,Q,R,S,T,U⟩
def L2.yg {o p:A->B->C->Prop}(a b c)(O:o a b c)(P:p a b c):∃a b c,o a b c/\p a b c:=⟨a,b,c,O,P⟩
def L2.pK {o p q:A->B->C->Prop}(a b c)(O:o a b c)(P:p a b c)(Q:q a b c):∃a b c,o a b c/\p a b c/\q a b c:=⟨a,b,c,O,P,Q⟩
def L2.dJ {o p q r:A->B->C->Prop}(a b c)(O:o a b c)(P:p a b c)(Q:q a b c)(R:r a b c):∃a b c,o a b c/\p a b c/\q a b c/\r a b c:=⟨a,b,c,O,P,Q,R⟩
def L2.gH {o p q r s:A->B->C->Prop}(a b c)(O:o a b c)(P:p a b c)(Q:q a b c)(R:r a b c)(S:s a b c):∃a b c,o a b c/\p a b c/\q a b c/\r a b c/\s a b c:=⟨a,b,c,O,P,Q,R,S⟩
def L2.nC {o p q r s t:A->B->C->Prop}(a b c)(O:o a b c)(P:p a b c)(Q:q a b c)(R:r a b c)(S:s a b c)(T:t a b c):∃a b c,o a b c/\p a b c/\q a b c/\r a b c/\s a b c/\t a b c:=⟨a,b,c,O,P,Q,R,S,T⟩
def L2.Il {o p q r s t u:A->B->C->Prop}(a b c)(O:o a b c)(P:p a b c)(Q:q a b c)(R:r a b c)(S:s a b c)(T:t a b c)(U:u a b c):∃a b c,o a b c/\p a b c/\q a b c/\r a b c/\s a b c/\t a b c/\u a b c:=⟨a,b,c,O,P,Q,R,S,T,U⟩
def L2.SQ {o p q r s t u v:A->B->C->Prop}(a b c)(O:o a b c)(P:p a b c)(Q:q a b c)(R:r a b c)(S:s a b c)(T:t a b c)(U:u a b c)(V:v a b c):∃a b c,o a b c/\p a b c/\q a b c/\r a b c/\s a b c/\t a b c/\u a b c/\v a b c:=⟨a,b,c,O,P,Q,R,S,T,U,V⟩
def L2.SX {o p q r s t u v w:A->B->C->Prop}(a b c)(O:o a b c)(P:p a b c)(Q:q a b c)(R:r a b c)(S:s a b c)(T:t a b c)(U:u a b c)(V:v a b c)(W:w a b c):∃a b c,o a b c/\p a b c/\q a b c/\r a b c/\s a b c/\t a b c/\u a b c/\v a b c/\w a b c:=⟨a,b,c,O,P,Q,R,S,T,U,V,W⟩
def L2.gO {o p q r:A->B->C->D->Prop}(a b c d)(O:o a b c d)(P:p a b c d)(Q:q a b c d)(R:r a b c d):∃a b c d,o a b c d/\p a b c d/\q a b c d/\r a b c d:=⟨a,b,c,d,O,P,Q,R⟩
def L2.aY {o p q r s:A->B->C->D->Prop}(a b c d)(O:o a b c d)(P:p a b c d)(Q:q a b c d)(R:r a b c d)(S:s a b c d):∃a b c d,o a b c d/\p a b c d/\q a b c d/\r a b c d/\s a b c d:=⟨a,b,c,d,O,P,Q,R,S⟩
def L2.gb {o p q r s t:A->B->C->D->Prop}(a b c d)(O:o a b c d)(P:p a b c d)(Q:q a b c d)(R:r a b c d)(S:s a b c d)(T:t a b c d):∃a b c d,o a b c d/\p a b c d/\q a b c d/\r a b c d/\s a b c d/\t a b c d:=⟨a,b,c,d,O,P,Q,R,S,T⟩
def L2.S5 {o p q r s t u:A->B->C->D->Prop}(a b c d)(O:o a b c d)(P:p a b c d)(Q:q a b c d)(R:r a b c d)(S:s a b c d)(T:t a b c d)(U:u a b c d):∃a b c d,o a b c d/\p a b c d/\q a b c d/\r a b c d/\s a b c d/\t a b c d/\u a b c d:=⟨a,b,c,d,O,P,Q,R,S,T,U⟩
def L2.lU {o p q r s t u v:A->B->C->D->Prop}(a b c d)(O:o a b c d)(P:p a b c d)(Q:q a b c d)(R:r a b c d)(S:s a b c d)(T:t a b c d)(U:u a b c d)(V:v a b c d):∃a b c d,o a b c d/\p a b c d/\q a b c d/\r a b c d/\s a b c d/\t a b c d/\u a b c d/\v a b c d:=⟨a,b,c,d,O,P,Q,R,S,T,U,V⟩
def L2.S6 {o p q r:A->B->C->D->E->Prop}(a b c d e)(O:o a b c d e)(P:p a b c d e)(Q:q a b c d e)(R:r a b c d e):∃a b c d e,o a b c d e/\p a b c d e/\q a b c d e/\r a b c d e:=⟨a,b,c,d,e,O,P,Q,R⟩
def L2.su {o p q r s:A->B->C->D->E->Prop}(a b c d e)(O:o a b c d e)(P:p a b c d e)(Q:q a b c d e)(R:r a b c d e)(S:s a b c d e):∃a b c d e,o a b c d e/\p a b c d e/\q a b c d e/\r a b c d e/\s a b c d e:=⟨a,b,c,d,e,O,P,Q,R,S⟩
def L2.cR {o p q r s t:A->B->C->D->E->Prop}(a b c d e)(O:o a b c d e)(P:p a b c d e)(Q:q a b c d e)(R:r a b c d e)(S:s a b c d e)(T:t a b c d e):∃a b c d e,o a b c d e/\p a b c d e/\q a b c d e/\r a b c d e/\s a b c d e/\t a b c d e:=⟨a,b,c,d,e,O,P,Q,R,S,T⟩
def L2.Mh {o p q r s t u:A->B->C->D->E->Prop}(a b c d e)(O:o a b c d e)(P:p a b c d e)(Q:q a b c d e)(R:r a b c d e)(S:s a b c d e)(T:t a b c d e)(U:u a b c d e):∃a b c d e,o a b c d e/\p a b c d e/\q a b c d e/\r a b c d e/\s a b c d e/\t a b c d e/\u a b c d e:=⟨a,b,c,d,e,O,P,Q,R,S,T,U⟩
def L2.S7 {o p q r s t u v w:A->B->C->D->E->Prop}(a b c d e)(O:o a b c d e)(P:p a b c d e)(Q:q a b c d e)(R:r a b c d e)(S:s a b c d e)(T:t a b c d e)(U:u a b c d e)(V:v a b c d e)(W:w a b c d e):∃a b c d e,o a b c d e/\p a b c d e/\q a b c d e/\r a b c d e/\s a b c d e/\t a b c d e/\u a b c d e/\v a b c d e/\w a b c d e:=⟨a,b,c,d,e,O,P,Q,R,S,T,U,V,W⟩
def L2.Dd {o p q r:A->B->C->D->E->F->Prop}(a b c d e f)(O:o a b c d e f)(P:p a b c d e f)(Q:q a b c d e f)(R:r a b c d e f):∃a b c d e f,o a b c d e f/\p a b c d e f/\q a b c d e f/\r a b c d e f:=⟨a,b,c,d,e,f,O,P,Q,R⟩
def L2.S8 {o p q r s:A->B->C->D->E->F->Prop}(a b c d e f)(O:o a b c d e f)(P:p a b c d e f)(Q:q a b c d e f)(R:r a b c d e f)(S:s a b c d e f):∃a b c d e f,o a b c d e f/\p a b c d e f/\q a b c d e f/\r a b c d e f/\s a b c d e f:=⟨a,b,c,d,e,f,O,P,Q,R,S⟩
def L2.oE {o p q r s t u:A->B->C->D->E->F->Prop}(a b c d e f)(O:o a b c d e f)(P:p a b c d e f)(Q:q a b c d e f)(R:r a b c d e f)(S:s a b c d e f)(T:t a b c d e f)(U:u a b c d e f):∃a b c d e f,o a b c d e f/\p a b c d e f/\q a b c d e f/\r a b c d e f/\s a b c d e f/\t a b c d e f/\u a b c d e f:=⟨a,b,c,d,e,f,O,P,Q,R,S,T,U⟩
def L2.Df {o p q r s t u v:A->B->C->D->E->F->Prop}(a b c d e f)(O:o a b c d e f)(P:p a b c d e f)(Q:q a b c d e f)(R:r a b c d e f)(S:s a b c d e f)(T:t a b c d e f)(U:u a b c d e f)(V:v a b c d e f):∃a b c d e f,o a b c d e f/\p a b c d e f/\q a b c d e f/\r a b c d e f/\s a b c d e f/\t a b c d e f/\u a b c d e f/\v a b c d e f:=⟨a,b,c,d,e,f,O,P,Q,R,S,T,U,V⟩
def L2.S9 {o p q:A->B->C->D->E->F->G->H->I->Prop}(a b c d e f g h i)(O:o a b c d e f g h i)(P:p a b c d e f g h i)(Q:q a b c d e f g h i):∃a b c d e f g h i,o a b c d e f g h i/\p a b c d e f g h i/\q a b c d e f g h i:=⟨a,b,c,d,e,f,g,h,i,O,P,Q⟩
namespace L2
open PySem
theorem eS {n:Nat}{P:List Value->Prop}(h:∀a us,us.length=n->P (a::us)):∀us,us.length=n+1->P us
 | a::us,e=>h a us (Nat.succ.inj e)
@[elab_as_elim] theorem e1 {P:List Value->Prop} (h:∀a,P [a]) (us:List Value) (hl:us.length=1):P us:=eS (λa us e=>(by rw[List.eq_nil_of_length_eq_zero e];show h a)) us hl
@[elab_as_elim] theorem e2 {P:List Value->Prop} (h:∀a b,P [a,b]) (us:List Value) (hl:us.length=2):P us:=eS (λa us e=>e1 (P:=λr=>P (a::r)) (h a) us e) us hl
@[elab_as_elim] theorem e3 {P:List Value->Prop} (h:∀a b c,P [a,b,c]) (us:List Value) (hl:us.length=3):P us:=eS (λa us e=>e2 (P:=λr=>P (a::r)) (h a) us e) us hl
@[elab_as_elim] theorem e4 {P:List Value->Prop} (h:∀a b c d,P [a,b,c,d]) (us:List Value) (hl:us.length=4):P us:=eS (λa us e=>e3 (P:=λr=>P (a::r)) (h a) us e) us hl
@[elab_as_elim] theorem e5 {P:List Value->Prop} (h:∀a b c d e,P [a,b,c,d,e]) (us:List Value) (hl:us.length=5):P us:=eS (λa us e=>e4 (P:=λr=>P (a::r)) (h a) us e) us hl
@[elab_as_elim] theorem e6 {P:List Value->Prop} (h:∀a b c d e f,P [a,b,c,d,e,f]) (us:List Value) (hl:us.length=6):P us:=eS (λa us e=>e5 (P:=λr=>P (a::r)) (h a) us e) us hl
@[elab_as_elim] theorem e7 {P:List Value->Prop} (h:∀a b c d e f g,P [a,b,c,d,e,f,g]) (us:List Value) (hl:us.length=7):P us:=eS (λa us e=>e6 (P:=λr=>P (a::r)) (h a) us e) us hl
@[elab_as_elim] theorem e8 {P:List Value->Prop} (h:∀a b c d e f g i,P [a,b,c,d,e,f,g,i]) (us:List Value) (hl:us.length=8):P us:=eS (λa us e=>e7 (P:=λr=>P (a::r)) (h a) us e) us hl
end L2
namespace My
open PySem L2
def top (i:Nat):Stmt:=PySem.Challenge.pw_letterrack_k61_deeds_refused.main.body.getD i (.Pass ⟨0,0,0,0⟩)
noncomputable abbrev lM:Stmt:=inClass (top 5) 0
def Om:bD sw sw (aL lM):={}
noncomputable abbrev lZ:Stmt:=inClass (top 8) 0
def RN:bD cO cO (aL lZ):={}
noncomputable abbrev pN:Stmt:=inClass (top 10) 0
def XH:bD cO cO (aL pN):={}
noncomputable abbrev jZ:Stmt:=inClass (top 12) 0
def Mi:bD sQ sQ (aL jZ):={}
noncomputable abbrev uz:Stmt:=top 19
def Js:bD ey ey (aL uz):={}
noncomputable abbrev zM:Stmt:=top 20
def aaT:bD ey ey (aL zM):={}
noncomputable abbrev wk:Stmt:=top 21
def UW:bD [tP] [tP] (aL wk):={}
noncomputable abbrev zN:Stmt:=top 22
def aaU:bD [tP] [tP] (aL zN):={}
noncomputable abbrev zO:Stmt:=top 23
def yh:bD ["rack","signs","tiles",tP,"tile"] sr (aL zO):={}
noncomputable abbrev yj:Stmt:=top 28
def wu:bD ["thing","width"] ey (aL yj):={}
noncomputable abbrev yp:Stmt:=top 29
def Jt:bD ey ey (aL yp):={}
noncomputable abbrev wB:Stmt:=top 30
def Fy:bD ey ey (aL wB):={}
noncomputable abbrev qI:Stmt:=top 31
def Er:bD oo oo (aL qI):={}
noncomputable abbrev sJ:Stmt:=top 32
def Oo:bD tm tm (aL sJ):={}
noncomputable abbrev yq:Stmt:=top 33
def XJ:bD rV rV (aL yq):={}
noncomputable abbrev sO:Stmt:=top 34
def BR:bD tf tf (aL sO):={}
noncomputable abbrev mj:Stmt:=inClass (top 35) 0
def RP:bD ms ms (aL mj):={}
noncomputable abbrev pO:Stmt:=inClass (top 35) 1
def XM:bD cO cO (aL pO):={}
noncomputable abbrev jQ:Stmt:=inClass (top 35) 2
def yS:bD aw aw (aL jQ):={}
noncomputable abbrev nZ:Stmt:=inClass (top 35) 3
def oX:bD ["self","row",tF,"way","line","place","ahead","signs","first"] rl (aL nZ):={}
noncomputable abbrev mq:Stmt:=inClass (top 35) 5
def mX:bD ["self",tN,"lines","row",tF,tP] pu (aL mq):={}
noncomputable abbrev wC:Stmt:=top 38
def U0:bD re re (aL wC):={}
noncomputable abbrev wD:Stmt:=top 39
def yU:bD [tJ,"thing","cells"] re (aL wD):={}
noncomputable abbrev yr:Stmt:=top 40
def XQ:bD jj jj (aL yr):={}
noncomputable abbrev rR:Stmt:=top 41
def Fz:bD jj jj (aL rR):={}
noncomputable abbrev zP:Stmt:=top 42
def aaV:bD jj jj (aL zP):={}
noncomputable abbrev nD:Stmt:=top 43
def qp:bD [tJ,"row",tF,"around"] sg (aL nD):={}
noncomputable abbrev Dg:Stmt:=top 44
def nF:bD [tJ,tN,"after","way","asked","row",tF,"words","along","run"] fx (aL Dg):={}
noncomputable abbrev uD:Stmt:=top 45
def sS:bD [tJ,tN,"row",tF,tP] fx (aL uD):={}
noncomputable abbrev pP:Stmt:=top 46
def Jh:bD jj jj (aL pP):={}
noncomputable abbrev uE:Stmt:=top 47
def sU:bD [tJ,tN,"after","row",tF] fx (aL uE):={}
noncomputable abbrev qZ:Stmt:=top 48
def uF:bD [tJ,tN,"joined"] fx (aL qZ):={}
noncomputable abbrev sV:Stmt:=top 49
def j4:bD [tJ,"book",tN,"words","row",tF,"way","signs","word"] sf (aL sV):={}
noncomputable abbrev q_:Stmt:=top 50
def Mj:bD li li (aL q_):={}
noncomputable abbrev yt:Stmt:=top 54
def XR:bD tj tj (aL yt):={}
noncomputable abbrev zQ:Stmt:=top 55
def aaW:bD tq tq (aL zQ):={}
noncomputable abbrev sW:Stmt:=top 56
def gC:bD [tJ,t6,tN,"word","cells","total","times","place",tP,"cell","worth","mark"] rn (aL sW):={}
noncomputable abbrev yu:Stmt:=top 57
def XS:bD sv sv (aL yu):={}
noncomputable abbrev wF:Stmt:=top 58
def FJ:bD [tJ,t6,"bonus",tN,"counted"] oA (aL wF):={}
noncomputable abbrev sX:Stmt:=top 60
def Oq:bD sq sq (aL sX):={}
noncomputable abbrev wG:Stmt:=top 63
def FN:bD ey ey (aL wG):={}
noncomputable abbrev zR:Stmt:=top 64
def aaX:bD ey ey (aL zR):={}
noncomputable abbrev yw:Stmt:=top 65
def X3:bD ["tiles"] ["tiles"] (aL yw):={}
noncomputable abbrev wH:Stmt:=top 66
def U3:bD rj rj (aL wH):={}
noncomputable abbrev mz:Stmt:=inClass (top 67) 0
def RQ:bD cZ cZ (aL mz):={}
noncomputable abbrev qu:Stmt:=top 68
def j5:bD ["stand","turn","size",tN,"points","left","many","rack","racks","sums"] pc (aL qu):={}
noncomputable abbrev sY:Stmt:=top 69
def oY:bD ["stand","turn","tiles","left","many","rack","bag"] sh (aL sY):={}
noncomputable abbrev n6:Stmt:=inClass (top 70) 0
def FP:bD dt dt (aL n6):={}
noncomputable abbrev qJ:Stmt:=inClass (top 70) 1
def pQ:bD ["self","deed","stand","turn","points"] si (aL qJ):={}
noncomputable abbrev jD:Stmt:=inClass (top 70) 3
def Ji:bD aw aw (aL jD):={}
noncomputable abbrev jE:Stmt:=inClass (top 70) 4
def Jj:bD aw aw (aL jE):={}
noncomputable abbrev j6:Stmt:=inClass (top 70) 5
def Ml:bD aw aw (aL j6):={}
noncomputable abbrev jm:Stmt:=inClass (top 70) 6
def FQ:bD aw aw (aL jm):={}
noncomputable abbrev n8:Stmt:=inClass (top 70) 7
def U4:bD aw aw (aL n8):={}
noncomputable abbrev j7:Stmt:=inClass (top 70) 8
def qw:bD ["self","racks","many","last"] aw (aL j7):={}
noncomputable abbrev zT:Stmt:=top 72
def Mp:bD ["text"] ["text"] (aL zT):={}
noncomputable abbrev uG:Stmt:=top 73
def RT:bD ["text"] ["text"] (aL uG):={}
noncomputable abbrev n_:Stmt:=inClass (top 74) 0
def FT:bD ["self","words","word"] r_ (aL n_):={}
noncomputable abbrev mC:Stmt:=inClass (top 74) 1
def RW:bD aw aw (aL mC):={}
noncomputable abbrev pR:Stmt:=inClass (top 74) 2
def X4:bD s_ s_ (aL pR):={}
noncomputable abbrev oh:Stmt:=inClass (top 74) 6
def U5:bD aw aw (aL oh):={}
noncomputable abbrev zU:Stmt:=top 76
def aaY:bD ro ro (aL zU):={}
noncomputable abbrev Dh:Stmt:=top 77
def pA:bD [tI,"_law_many","_law_found","_law_number","_law_k"] n7 (aL Dh):={}
noncomputable abbrev zV:Stmt:=top 78
def uH:bD [tI,t9,"_law_found","_law_k"] rX (aL zV):={}
noncomputable abbrev Im:Stmt:=top 79
def ou:bD [tI,t9,ua,"_law_number","_law_size","_law_word","_law_rest","_law_k"] jw (aL Im):={}
noncomputable abbrev Mq:Stmt:=top 80
def lC:bD [tI,t9,ui,"_law_columns","_law_signs","_law_marks","_law_number","_law_sign","_law_begin","_law_texts","_law_some"] jw (aL Mq):={}
noncomputable abbrev Io:Stmt:=top 81
def yV:bD [tI,t9,"_law_many","_law_blanks",ub,"_law_number"] kB (aL Io):={}
noncomputable abbrev Ip:Stmt:=top 82
def gW:bD ["_law_script",t9,tI,"_law_size","_law_many","_law_few",ub,"_law_racks","_law_k","_law_less","_law_worths","_law_letter","_law_bonus",ui,"_law_marks","_law_begin","_law_board",ua] sj (aL Ip):={}
noncomputable abbrev Ir:Stmt:=top 83
def JZ:bD ["_law_parts_here","_law_racks"] tz (aL Ir):={}
noncomputable abbrev wI:Stmt:=top 84
def iZ:bD [ui,"_law_word","_law_place",t7,"_law_row","_law_column","_law_way","_law_left","_law_laying_here","_law_letter","_law_tile"] mu (aL wI):={}
noncomputable abbrev Mr:Stmt:=top 85
def agx:bD ge ge (aL Mr):={}
noncomputable abbrev Di:Stmt:=top 86
def wZ:bD ["_law_board","_law_book",ua,t7,tI,"_law_number","_law_place","_law_laying_here"] g8 (aL Di):={}
noncomputable abbrev Ms:Stmt:=top 87
def lD:bD ["_law_now","_law_book",ua,tI,"_law_board","_law_racks","_law_bag","_law_sums","_law_done","_law_passed","_law_over","_law_numbers",t7,"_law_laying_here","_law_many","_law_by"] nt (aL Ms):={}
noncomputable abbrev BW:Stmt:=top 88
def vK:bD [t7,ub,"_law_left","_law_tile"] fv (aL BW):={}
noncomputable abbrev Mt:Stmt:=top 89
def iT:bD fy oa (aL Mt):={}
noncomputable abbrev Dj:Stmt:=top 90
def nG:bD ["_law_game","_law_now","_law_board","_law_racks","_law_bag","_law_sums","_law_done","_law_passed","_law_over","_law_there"] sk (aL Dj):={}
noncomputable abbrev zW:Stmt:=top 91
def Mu:bD [tI,"_law_some"] rX (aL zW):={}
noncomputable abbrev wJ:Stmt:=top 92
def yW:bD [tI,ui,"_law_far","_law_some"] rS (aL wJ):={}
noncomputable abbrev Mv:Stmt:=top 93
def BX:bD ["_law_e","_law_some"] ["_law_e"] (aL Mv):={}
noncomputable abbrev Iu:Stmt:=top 94
def lN:bD ["_law_game","_law_now","_law_book","_law_deed_here","_law_found","_law_e"] nT (aL Iu):={}
noncomputable abbrev zX:Stmt:=top 95
def Mw:bD [t7,"_law_letter",tI,"_law_away"] rb (aL zX):={}
noncomputable abbrev qx:Stmt:=top 96
def tK:bD [t7,ub,"_law_left","_law_tile"] fv (aL qx):={}
noncomputable abbrev S_:Stmt:=top 97
def pY:bD ["_law_now",ua,tI,ui,t7,"_law_way",ub,"_law_numbers","_law_row","_law_column","_law_word","_law_laying_here"] pa (aL S_):={}
noncomputable abbrev Tc:Stmt:=top 98
def oZ:bD ["_law_script","_law_parts_here","_law_book","_law_game","_law_now",tI,"_law_deed_here","_law_due"] sj (aL Tc):={}
section
variable {P:Program}{w:World}{K:W.Frag}{mg:Str->Option Value}{base:Heap}
def uI (c:Nat):Bool:=decide (97<=c)&&decide (c<=122)
def vo (c:Nat):Bool:=decide (65<=c)&&decide (c<=90)
def uJ (l:List Nat):Bool:=match l with|[c]=>uI c||vo c|_=>false
def lt1 (a b:Nat):([a]<[b])↔a<b:=by simp[io]
def Ot (a b:Nat):(!decide ([a]<[b]))=decide (b<=a):=by
 by_cases h:a<b;.rw[ai ((lt1 a b).mpr h),af qk];rfl
 .rw[af (λz=>h ((lt1 a b).mp z)),ai qk];rfl
def afH (K:W.Frag)(H:Hp)(x:V):Prop:=∃t,oM K H x t/\W.kitOne K t (.type "str")=some false
def U6 (K:W.Frag):Sp:=λvs H Q _=>(∃x,vs=[x]/\afH K H x/\Q (.bl false) H)\/(∃l,vs=[.str (S l)]/\l.length<=1000/\Q (.bl (uJ l)) H)
def aaZ (D:aO K mg "is_sign" zM ey)(O:mg "len"=none)(F:mg "str"=none)(I:mg "isinstance"=none):cA P w K mg base "is_sign" 1 ey (U6 K):=by
 refine D.d8 aaT (λf bV A outer s H vs Q E hr h=>?_) (λvs H Q E h=>?_)
 .refine(aG _ (au (cG (QW.qt (pI (gU (fJ (aP iG qA I a9 (aj aH (aj (lV (v:=.ty "str") qA F mI rL) ak)))))
     (m8 (bT CN (aP dw qA O ay (aj aH ak)) aq (bO _))))) (aF (bC jr)) bR)
   (aF (bC (Sv (nU pX pX (bA [97] qS) aH (bA [122] qS))
    (kI (nU pX pX (bA [65] qS) aH (bA [90] qS))))))) ?_)
  rcases h with⟨x,rfl,⟨t,ty,J⟩,q⟩|⟨l,rfl,hl,q⟩;.show(gO _ _ _ false rL ty J (cH (cH q)))
  .let hz:l.length<=sizeLine:=ap (aN qk);calc(gO _ _ _ true rL (.str _) qB (cI (iU l rL hz rL (bf _ rL ?_))));by_cases h1:l.length=1
   .let⟨c,rfl⟩:=List.length_eq_one_iff.mp h1;calc Ls rL ?_;calc(aK [97] [c] rL rL (bf (decide (97<=c)) (by rw[Ot]) ?_));let G:Q (.bl (uI c||vo c)) H:=q;let j:(vo c=(uI c||vo c))->TQ aea aea (tC (.str (S [65]))) (N6 0) (tC (.str (S [90]))) [some (.str (S [c]))] H Q:=λe=>by
     calc(aK [65] [c] rL rL (bf (decide (65<=c)) (by rw[Ot]) ?_));rw[<-e]at G;by_cases h2:65<=c
     .rw[ai h2];calc cH (aK [c] [90] rL rL ?_);rw[Ot];simpa [vo,h2] using G
     .rw[af h2];calc cI ?_;simpa [vo,h2] using G
    by_cases h2:97<=c
    .rw[ai h2];calc cH (aK [c] [122] rL rL (bf _ rL ?_));rw[Ot];by_cases h3:c<=122
     .rw[ai h3];calc cH ?_;simpa [uI,h2,h3] using G
     .rw[af h3];show cI (j (by simp[uI,h2,h3]))
    .rw[af h2];show cI (j (by simp[uI,h2]))
   .let e:(!decide (V.int (l.length:Int)=V.int 1))=true:=by
     rw[af];rfl;intro z;injection z with z;lia
    rw[e];let e2:uJ l=false:=by
     match l,h1 with| [],_=>rfl| [c],h=>show absurd rL h| _::_::_,_=>rfl
    rw[e2]at q;show cH q
 .rcases h with⟨x,rfl,_⟩|⟨x,rfl,_⟩ <;> rfl
def U7 (K:W.Frag):Sp:=λvs H Q _=>∃(a:Addr) (ns:List Int) (k:Nat),vs=[.ref a,.int k]/\bM K H a (ns.map V.int)/\∀v:Int,Q (.int v) H
def isLet (c:Nat):Prop:=97<=c/\c<=122
structure aa0 (ls:List Nat):Prop where
 lo:2<=ls.length
 hi:ls.length<=26
 az:∀c∈ls,isLet c
def aa1 (D:aO K mg "_law_cell_at" zU ro)(I:mg "len"=none):cA P w K mg base "_law_cell_at" 1 ro (U7 K):=by
 calc D.d8 aaY (λf bV A outer s H vs Q E hr h=>?_);let⟨a,ns,k,rfl,j,q⟩:=h;calc(aG _ (au (cG (bT uo bh (aP b_ qA I ay (aj aH ak)) (bO _)) (aF (bC (aZ gA aH bh (λ_ _=>rfl)))) bR) (aF (bC aq))) ?_);calc(aK a _ rL (.inl j) (aK _ _ rL rL (bf _ rL ?_)));refine iR (λG=>?_) (λ_=>?_)
 .let F:k<ns.length:=by
   have:=dC G;rw[aa]at this;lia
  show(aY a _ _ (.int ns[k]) rL rL j (aM (by simp[F])) (q _))
 .show q _
def jV (l:List Nat):(l.map λc=>[c]).flatten=l:=by
 induction l with| nil=>rfl| cons c r ih=>rw[cq,fi,ih];rfl
def akf:∀c∈AL,isLet c:=λc j=>by let⟨k,D,rfl⟩:=bd.mp j;have:=fE.mp D;show⟨qk,qk⟩
def rH (c:Nat):Prop:=uJ [c]=true
def rH.lt {c:Nat}(h:rH c):c<128:=by unfold rH uJ uI vo at h;simp at h;lia
def U8 {c:Nat}(h:isLet c):rH c:=by simp[rH,uJ,uI,h.1,h.2]
def acH {c:Nat}(h:isLet c):rH (c-32):=by let h1:=h.1;let h2:=h.2;simp[rH,uJ,uI,vo];lia
def agy {xs:List V}{a b:Nat}(h1:a<=b)(h2:b<=xs.length):jy xs (some (a:Int)) (some (b:Int))=(xs.drop a).take (b-a):=by unfold jy;rw[HT.mV,HT.mV,fS h2,fS (show a<=xs.length by lia)]
abbrev ones (cs:List Nat):List (List Nat):=cs.map λc=>[c]
structure Blk (r w:Nat)(ls:AA):Prop where
 len:ls.length=r
 uK:∀l∈ls,l.length=w
def MK:List Nat:=[46,50,51,52,98,99,100]
def Es (c:Nat):Prop:=c=46\/rH c
def Mx (c:Nat):Prop:=c∈MK
structure Mz (r w:Nat)(aD aV:AA)(i j:Nat):Prop where
 r1:1<=r
 r9:r<=9
 w1:1<=w
 w9:w<=9
 br:Blk r w aD
 bm:Blk r w aV
 cr:∀l∈aD,∀c∈l,Es c
 cm:∀l∈aV,∀c∈l,Mx c
 bi:i<r
 bj:j<w
def Ou (ls:AA)(l:List Nat):Ts ls++[V.str (S l)]=Ts (ls++[l]):=by simp[Ts]
def acI (cs:List Nat)(c:Nat):ones cs++[[c]]=ones (cs++[c]):=by simp[ones]
def cell (R:AA)(i j:Nat):Nat:=(R.getD i []).getD j 0
def cell_eq {R:AA}{i j:Nat}(hi:i<R.length)(D:j<R[i].length):cell R i j=R[i][j]:=by unfold cell;rw[aE (l:=R),ac hi];show (R[i]).getD j 0=_;rw[aE,ac D];rfl
def Za:Sp:=λvs H Q _=>∃i:Int,vs=[.int i]/\Q (.bl true) H
def X5 (D:aO K mg "is_whole" uz ey)(G:mg "int"=none)(F:mg "bool"=none)(j:mg "isinstance"=none):cA P w K mg base "is_whole" 1 ey Za:=by calc D.d8 Js (λf bV A outer s H vs Q E hr h=>?_);let⟨i,rfl,q⟩:=h;calc(aG _ (aF (bC (lO (aP iG qA j a9 (aj aH (aj (lV (v:=.ty "int") qA G kz rL) ak))) (kI (abS (aP iG qA j a9 (aj aH (aj (lV (v:=.ty "bool") qA F mh rL) ak)))))))) ?_);show(gO _ _ _ true rL (.int _) qB (cH (gO _ _ _ false rL (.int _) qB q)))
def lE {ls:AA}{i:Nat}{l:List Nat}(h:ls[i]?=some l):(Ts ls)[i]?=some (.str (S l)):=by simp[Ts,h]
def yX {ls:AA}{i:Nat}{x:V}(h:(Ts ls)[i]?=some x):∃l,ls[i]?=some l/\x=.str (S l):=by rw[ck]at h;let⟨l,h1,h2⟩:=dv.mp h;show(aG l h1 h2.symm)
def Iw (n:Nat):((List.replicate n true).all id)=true:=by simp
def Dk (n:Nat):(List.replicate n true).map V.bl++[V.bl true]=(List.replicate (n+1) true).map V.bl:=by rw[kP,bP];rfl
def Ov:Sp:=λvs H Q _=>∃(p:Addr) (ls:AA) (r w:Nat),vs=[.ref p]/\H p=some (.tup (Ts ls))/\Blk r w ls/\1<=r/\r<=9/\1<=w/\w<=9/\∀H',aB H H'->Q (.bl true) H'
def X6 (D:aO K mg "is_block" yj ey)(bH:mg "len"=none)(cX:mg "tuple"=none)(yx:mg "str"=none)(gZ:mg "all"=none)(bK:mg "isinstance"=none)(BZ:∃t,mg "MOST"=some (.int 9 t)):cA P w K mg base "is_block" 1 ey Ov:=by
 calc D.d8 wu (λf bV A outer s H vs Q E hr h=>?_);let⟨p,ls,r,w,rfl,hp,hb,r1,r9,w1,w9,q⟩:=h;let qL:(Ts ls).length=r:=by rw[aa,hb.len]
 let h0:0<ls.length:=by rw[hb.len];lia
 calc(aG _ (au (cG (QW.qt (pI (gU (fJ (aP iG qA bK a9 (aj aH (aj (lV (v:=.ty "tuple") qA cX c9 rL) ak))))) (m8 (gU (CP rZ rZ aq (aP b_ qA bH ay (aj aH ak)) (aaG qA BZ)))))) (aF (bC jr)) bR) (au (cG (gU (fJ (aP (lK rL) qA gZ kZ (aj (jY rL (jW.of wu.nd qB) (jh aH) (λ_ _ _ _ _=>fO) (λ_ _ _ _ _=>(aP (Ut K) qA bK a9 (aj aH (aj (lV (v:=.ty "str") qA yx mI rL) ak))))) ak)))) (aF (bC jr)) bR) (au (aW (i:=1) wu.nd rL (Or.inr rL) (aP dw qA bH ay (aj (aZ bI aH aq (λ_ _=>rfl)) ak))) (aF (bC (lO (nU rZ rZ aq bh (aaG qA BZ)) (kI (aP (lK rL) qA gZ kZ (aj (jY rL (jW.of wu.nd qB) (jh aH) (λ_ _ _ _ _=>fO) (λ_ _ _ _ _=>(gq iC (aP dw qA bH ay (aj aH ak)) bG (bO _)))) ak))))))))) ?_);calc(gO _ _ _ true rL (.tup hp) qB (cI ?_));calc(aK p _ rL (.inr (aQ.of hp)) (aK _ _ rL rL (bf true (by rw[qL];simp;lia) (cH (aK _ _ rL rL (bf true (by rw[qL];simp;lia) (cI ?_)))))));refine(bJ p rL ⟨_,aQ.of hp⟩ (λL hL=>tH (xs:=Ts ls) (λi ys Y=>ys=(List.replicate i true).map V.bl/\Y L=some (.lst ys)/\aB H Y) (cj rL aA (aB.upd hL)) (λi ys Y _ h=>aQ.of (h.2.2 _ _ hp)) ?_ ?_))
 .intro i x ys Y hi z;let⟨rfl,F,O⟩:=z;let⟨l,hl,rfl⟩:=yX hi;let I:i<(Ts ls).length:=(ah.mp hi).1;refine(gb _ _ _ true rL (.str _) qB F (by rw[aa,de];show aN qk) (iV.mk I (cj (Dk i) aA (O.eE hL))))
 .intro ys Y z;let⟨rfl,F,O⟩:=z;calc(aK L _ rL (bM.of F) ?_);rw[Iw];calc ?_;let J:ls[0].length=w:=hb.uK _ (ba _);let hz:ls[0].length<=sizeLine:=ap (aN qk);calc(aY p _ _ (.str (S ls[0])) rL rL (aQ.of (O _ _ hp)) (aM (j:=0) (lE (by simp[h0]))) (bJ _ rL hz ?_));calc(aK _ _ rL rL (bf true (by rw[J];simp;lia) (cH (aK _ _ rL rL (bf true (by rw[J];simp;lia) (cH ?_))))));refine(bJ p rL ⟨_,aQ.of (O _ _ hp)⟩ (λL2 xV=>tH (xs:=Ts ls) (λi ys Z=>ys=(List.replicate i true).map V.bl/\Z L2=some (.lst ys)/\aB H Z) (cj rL aA (O.eE (O.free xV))) (λi ys Y _ h=>aQ.of (h.2.2 _ _ hp)) ?_ ?_))
  .intro i x ys Z hi z;let⟨rfl,B_,G⟩:=z;let⟨l,hl,rfl⟩:=yX hi;let I:i<(Ts ls).length:=(ah.mp hi).1;let hlw:l.length=w:=hb.uK _ (bp hl);calc⟨_,rL,ap (aN qk),rL,B_,by rw[aa,de];show aN qk,iV.mk I (cj ?_ aA (G.eE (O.free xV)))⟩;rw[hlw,J,ai rfl];show Dk i
  .intro ys Z z;let⟨rfl,B_,G⟩:=z;calc(aK L2 _ rL (bM.of B_) ?_);rw[Iw];show q Z G
def J0 {r w:Nat}{ls:AA}(h:Blk r w ls):ls.flatten.length=r*w:=by
 rw[List.length_flatten];have:ls.map List.length=List.replicate r w:=by rw[<-h.len,List.eq_replicate_iff];show⟨qo,λb hb=>by let⟨l,hl,rfl⟩:=bd.mp hb;show h.uK l hl⟩
 rw[this,List.sum_replicate_nat]
def acJ:Sp:=λvs H Q _=>∃(p:Addr) (ls:AA) (r w:Nat),vs=[.ref p]/\H p=some (.tup (Ts ls))/\Blk r w ls/\1<=r/\r<=9/\1<=w/\w<=9/\(∀l∈ls,∀c∈l,Es c)/\∀H',aB H H'->Q (.bl true) H'
def X7 (D:aO K mg "are_rows" yp ey)(gZ:mg "all"=none)(iM:∃t,mg "FREE"=some (.str (S [46]) t))(Dl:cA P w K mg base "is_block" 1 ey Ov)(FW:cA P w K mg base "is_sign" 1 ey (U6 K)):cA P w K mg base "are_rows" 2 ey acJ:=by
 calc D.d8 Jt (λf bV A outer s H vs Q E hr h=>?_);let⟨p,ls,r,w,rfl,hp,hb,r1,r9,w1,w9,hc,q⟩:=h;let hrw:r*w<=81:=gt r9 w9;let hfl:=J0 hb;calc(aG _ (aF (bC (lO (bQ Dl hr.mono rL (aj aH ak)) (kI (aP (lK rL) qA gZ kZ (aj (jY rL (jW.of Jt.nd qB) (qG (gG bv cE cK JT (bA [] qS) (aj aH ak))) (λ_ _ _ _ _=>fO) (λ_ _ _ _ _=>(Sv (gq kY aH (vZ qA iM) (bO _)) (kI (bQ FW hr.mono rL (aj aH ak)))))) ak)))))) ?_);calc(lU p ls r w rL hp hb r1 r9 w1 w9 (λH1 s1=>?_));calc⟨rL,cT p ls rL rL (aQ.of (s1 _ _ hp)) qk (aG _ rL (λL Z=>?_))⟩;refine yO (λi ys j=>ys=(List.replicate i true).map V.bl/\j L=some (.lst ys)/\aB H j) (cj rL aA (s1.eE (s1.free Z))) ?_ ?_
 .intro i c ys j hi z;let⟨rfl,G,Y⟩:=z;let O:i<ls.flatten.length:=(ah.mp hi).1;let⟨l,hl,J⟩:=pS.mp (bp hi);let F:j L=some (.lst ((List.replicate i true).map V.bl))/\((List.replicate i true).map V.bl).length<sizeLine/\iV ls.flatten.length i ((List.replicate i true).map V.bl++[V.bl true]=(List.replicate (i+1) true).map V.bl/\upd j L (.lst ((List.replicate i true).map V.bl++[V.bl true])) L=some (.lst ((List.replicate i true).map V.bl++[V.bl true]))/\aB H (upd j L (.lst ((List.replicate i true).map V.bl++[V.bl true])))):=
   (cj G (by rw[aa,de];show aN qk) (iV.mk O (cj (Dk i) aA (Y.eE (s1.free Z)))))
  calc(aK [c] [46] rL rL (bf _ rL ?_));rcases hc l hl c J with e|e
  .subst e;rw[ai rfl];show cH F
  .by_cases I:[c]=[46]
   .rw[ai I];show cH F
   .rw[af I];calc cI (.inr (bJ [c] rL (by show 1<=1000;decide) ?_));rw[show uJ [c]=true from e];show F
 .intro ys j z;let⟨rfl,G,Y⟩:=z;calc(aK L _ rL (bM.of G) ?_);rw[Iw];show q j Y
def Zb:Sp:=λvs H Q _=>∃(p:Addr) (ls:AA) (r w:Nat),vs=[.ref p]/\H p=some (.tup (Ts ls))/\Blk r w ls/\1<=r/\r<=9/\1<=w/\w<=9/\(∀l∈ls,∀c∈l,Mx c)/\∀H',aB H H'->Q (.bl true) H'
def U9 (D:aO K mg "are_marks" wB ey)(gZ:mg "all"=none)(Y:∃t,mg "MARKS"=some (.str (S MK) t))(Dl:cA P w K mg base "is_block" 1 ey Ov):cA P w K mg base "are_marks" 2 ey Zb:=by
 calc D.d8 Fy (λf bV A outer s H vs Q E hr h=>?_);let⟨p,ls,r,w,rfl,hp,hb,r1,r9,w1,w9,hc,q⟩:=h;let hrw:r*w<=81:=gt r9 w9;let Z:=J0 hb;calc(aG _ (aF (bC (lO (bQ Dl hr.mono rL (aj aH ak)) (kI (aP (lK rL) qA gZ kZ (aj (jY rL (jW.of Fy.nd qB) (qG (gG bv cE cK JT (bA [] qS) (aj aH ak))) (λ_ _ _ _ _=>fO) (λ_ _ _ _ _=>(gq ah8 aH (vZ qA Y) rL))) ak)))))) ?_);calc(lU p ls r w rL hp hb r1 r9 w1 w9 (λH1 s1=>?_));calc⟨rL,cT p ls rL rL (aQ.of (s1 _ _ hp)) qk (aG _ rL (λL O=>?_))⟩;refine yO (λi ys F=>ys=(List.replicate i true).map V.bl/\F L=some (.lst ys)/\aB H F) (cj rL aA (s1.eE (s1.free O))) ?_ ?_
 .intro i c ys F hi z;let⟨rfl,j,J⟩:=z;let I:i<ls.flatten.length:=(ah.mp hi).1;let⟨l,hl,G⟩:=pS.mp (bp hi);calc(cT c MK rL rL j (by rw[aa,de];show aN qk) (iV.mk I (cj ?_ aA (J.eE (s1.free O)))));rw[ai (show c∈MK from hc l hl c G)];show Dk i
 .intro ys F z;let⟨rfl,j,J⟩:=z;calc(aK L _ rL (bM.of j) ?_);rw[Iw];show q F J
def J1 (K:W.Frag):Sp:=λvs H Q _=>∃(p:Addr) (ls:AA) (r w:Nat) (i j:Int),vs=[.ref p,.int i,.int j]/\aQ K H p (Ts ls)/\Blk r w ls/\1<=r/\r<=9/\w<=9/\Q (.bl (decide (0<=i/\i<r/\0<=j/\j<w))) H
def RX (D:aO K mg "is_cell_of" qI oo)(G:mg "len"=none)(I:cA P w K mg base "is_whole" 1 ey Za):cA P w K mg base "is_cell_of" 2 oo (J1 K):=by
 calc D.d8 Er (λf bV A outer s H vs Q E hr h=>?_);let⟨p,ls,r,w,i,j,rfl,hp,hb,r1,r9,w9,q⟩:=h;let J:(Ts ls).length=r:=by rw[aa,hb.len]
 let h0:0<ls.length:=by rw[hb.len];lia
 let F:ls[0].length=w:=hb.uK _ (ba _);calc(aG _ (au (cG (QW.qt (pI (gU (fJ (bQ I hr.mono rL (aj bh ak)))) (m8 (gU (fJ (bQ I hr.mono rL (aj bG ak))))))) (aF (bC jr)) bR) (aF (bC (lO (nU rZ uo aq bh (aP b_ qA G ay (aj aH ak))) (kI (nU rZ uo aq bG (aP dw qA G ay (aj (aZ bI aH aq (λ_ _=>rfl)) ak)))))))) ?_);calc(aG i rL (cI (aG j rL (cI ?_))));calc(aK _ _ rL rL (bf _ rL ?_));by_cases h1:0<=i
 .rw[ai h1];calc cH (aK p _ rL (.inr hp) (aK _ _ rL rL (bf _ rL ?_)));rw[J];by_cases h2:i<(r:Int)
  .rw[ai h2];calc cH (aK _ _ rL rL (bf _ rL ?_));by_cases h3:0<=j
   .rw[ai h3];calc cH (aY p _ _ (.str (S ls[0])) rL rL hp (aM (j:=0) (lE (by simp[h0]))) (bJ _ rL (ap (aN qk)) (aK _ _ rL rL ?_)));rw[F];simpa [h1,h2,h3] using q
   .rw[af h3];calc cI ?_;simpa [h1,h2,h3] using q
  .rw[af h2];calc cI ?_;simpa [h1,h2] using q
 .rw[af h1];calc cI ?_;show Q (.bl false) H;simpa [h1] using q
def Zd (K:W.Frag):Sp:=λvs H Q _=>∃(p b:Addr) (ls:AA) (r w:Nat) (i j:Nat),vs=[.ref p,.ref b]/\H p=some (.tup (Ts ls))/\H b=some (.tup [.int i,.int j])/\Blk r w ls/\1<=r/\r<=9/\w<=9/\i<r/\j<w/\Q (.bl true) H
def Ow (D:aO K mg "is_begin_of" sJ tm)(G:mg "len"=none)(F:mg "tuple"=none)(I:mg "isinstance"=none)(J:cA P w K mg base "is_cell_of" 2 oo (J1 K)):cA P w K mg base "is_begin_of" 3 tm (Zd K):=by calc D.d8 Oo (λf bV A outer s H vs Q E hr h=>?_);let⟨p,b,ls,r,w,i,j,rfl,hp,hb,hB,r1,r9,w9,hi,O,q⟩:=h;calc(aG _ (aF (bC (lO (aP iG qA I a9 (aj bh (aj (lV (v:=.ty "tuple") qA F c9 rL) ak))) (lO (gq iC (aP b_ qA G ay (aj bh ak)) aq (bO _)) (kI (bQ J hr.mono rL (aj aH (aj (aZ bI bh aq (λ_ _=>rfl)) (aj (aZ bI bh aq (λ_ _=>rfl)) ak))))))))) ?_);calc(gO _ _ _ true rL (.tup hb) qB (cH ?_));calc(aU b _ rL (.inr (aQ.of hb)) rL (cH ?_));calc(aY b _ _ (.int i) rL rL (aQ.of hb) (aM (j:=0) rL) (aY b _ _ (.int j) rL rL (aQ.of hb) (aM (j:=1) rL) ?_));calc(oE p ls r w i j rL (aQ.of hp) hB r1 r9 w9 ?_);rw[ai (SN qk qk qk qk)];show q
def Ze:Sp:=λvs H Q _=>∃(pr pm pb:Addr) (r w:Nat) (aD aV:AA) (i j:Nat),vs=[.ref pr,.ref pm,.ref pb]/\H pr=some (.tup (Ts aD))/\H pm=some (.tup (Ts aV))/\H pb=some (.tup [.int i,.int j])/\Mz r w aD aV i j/\∀H',aB H H'->Q (.bl true) H'
def X8 (D:aO K mg "is_board" yq rV)(I:mg "len"=none)(O:cA P w K mg base "are_rows" 2 ey acJ)(Z:cA P w K mg base "are_marks" 2 ey Zb)(RZ:cA P w K mg base "is_begin_of" 3 tm (Zd K)):cA P w K mg base "is_board" 4 rV Ze:=by
 calc D.d8 XJ (λf bV A outer s H vs Q E hr h=>?_);let⟨pr,pm,pb,r,w,aD,aV,i,j,rfl,G,hm,hb,B,q⟩:=h;let l1:(Ts aD).length=r:=by rw[aa,B.br.len]
 let l2:(Ts aV).length=r:=by rw[aa,B.bm.len]
 let h0:0<aD.length:=by rw[B.br.len];show B.r1
 let J:0<aV.length:=by rw[B.bm.len];show B.r1
 let w0:aD[0].length=w:=B.br.uK _ (ba _);let Y:aV[0].length=w:=B.bm.uK _ (ba _);let w9:=B.w9;calc(aG _ (au (cG (QW.qt (pI (gU (fJ (bQ O hr.mono rL (aj aH ak)))) (m8 (gU (fJ (bQ Z hr.mono rL (aj bh ak))))))) (aF (bC jr)) bR) (au (cG (QW.qt (pI (bT CN (aP b_ qA I ay (aj bh ak)) (aP b_ qA I ay (aj aH ak)) (bO _)) (m8 (bT CN (aP dw qA I ay (aj (aZ bI bh aq (λ_ _=>rfl)) ak)) (aP dw qA I ay (aj (aZ bI aH aq (λ_ _=>rfl)) ak)) (bO _))))) (aF (bC jr)) bR) (aF (bC (bQ RZ hr.mono rL (aj aH (aj bG ak))))))) ?_);calc⟨pr,aD,r,w,rL,G,B.br,B.r1,B.r9,B.w1,B.w9,B.cr,λH1 s1=>?_⟩;calc⟨pm,aV,r,w,rL,s1 _ _ hm,B.bm,B.r1,B.r9,B.w1,B.w9,B.cm,λH2 s2=>?_⟩;let F:=s1.trans s2;calc(aK pm _ rL (.inr (aQ.of (F _ _ hm))) (aU pr _ rL (.inr (aQ.of (F _ _ G))) rL (bf _ rL ?_)));calc Ls (by rw[l1,l2]) ?_;calc(aY pm _ _ (.str (S aV[0])) rL rL (aQ.of (F _ _ hm)) (aM (j:=0) (lE (by simp[J]))) (bJ _ rL (ap (aN qk)) (aY pr _ _ (.str (S aD[0])) rL rL (aQ.of (F _ _ G)) (aM (j:=0) (lE (by simp[h0]))) (iU _ rL (ap (aN qk)) rL (bf _ rL ?_)))));calc Ls (by rw[w0,Y]) ?_;calc⟨pr,pb,aD,r,w,i,j,rL,F _ _ G,F _ _ hb,B.br,B.r1,B.r9,B.w9,B.bi,B.bj,?_⟩;show q H2 F
structure iJ (K:W.Frag)(C:Addr):Prop where
 cl:Cls K C
 nr:jG K C "rows"
 nm:jG K C "marks"
 nb:jG K C "begin"
structure dN (C:Addr)(H:Hp)(p:Addr)(r w:Nat)(aD aV:AA)(i j:Nat):Prop where
 ex:∃dx pr pm pb,H p=some (.ins C dx [("rows",.ref pr),("marks",.ref pm),("begin",.ref pb)])/\H pr=some (.tup (Ts aD))/\H pm=some (.tup (Ts aV))/\H pb=some (.tup [.int i,.int j])
 ok:Mz r w aD aV i j
def dN.mv {C:Addr}{H H':Hp}{p:Addr}{r w:Nat}{aD aV:AA}{i j:Nat}(B:dN C H p r w aD aV i j)(s:aB H H'):dN C H' p r w aD aV i j:=by obtain⟨⟨dx,pr,pm,pb,a,b,c,d⟩,o⟩:=B;show⟨(gO dx pr pm pb (s _ _ a) (s _ _ b) (s _ _ c) (s _ _ d)),o⟩
def Ox (C:Addr):Sp:=λvs H Q _=>∃(p dx pr pm pb:Addr) (r w:Nat) (aD aV:AA) (i j:Nat),vs=[.ref p,.ref pr,.ref pm,.ref pb]/\H p=some (.ins C dx [])/\H pr=some (.tup (Ts aD))/\H pm=some (.tup (Ts aV))/\H pb=some (.tup [.int i,.int j])/\Mz r w aD aV i j/\
 ∀H',(∀b o,H b=some o->b≠p->H' b=some o)->H' p=some (.ins C dx [("rows",.ref pr),("marks",.ref pm),("begin",.ref pb)])->Q .non H'
def R0 {f C:Addr}{fd:FuncData}(F:gJ K "__init__" "Board.__init__" mj f fd)(T:iJ K C)(G:cA P w K mg base "is_board" 4 rV Ze):cU P w K mg base eV 5 f fd ms (Ox C):=by
 calc F.d8 RP (λbV A outer s H vs Q E hr h=>?_);let⟨p,dx,pr,pm,pb,r,w,aD,aV,i,j,rfl,hp,I,hm,hb,B,q⟩:=h;calc(aG _ (au (cG (gU (fJ (bQ G hr.mono rL (aj bh (aj bG (aj bU ak)))))) Qq bR) (au (nj aH bh rL) (au (nj aH bG rL) (aF (nj aH bU rL))))) ?_);calc⟨pr,pm,pb,r,w,aD,aV,i,j,rL,I,hm,hb,B,λH1 s1=>?_⟩;calc(gb p C dx _ rL (s1 _ _ hp) T.cl T.nr (by show 0<1000;decide) ?_);calc(gb p C dx _ rL aA T.cl T.nm (by show 1<1000;decide) ?_);calc(gb p C dx _ rL aA T.cl T.nb (by show 2<1000;decide) ?_);calc q _ (λb o e D=>?_) ?_;.rw[bw D,bw D,bw D];show s1 _ _ e
 .show aA
def atC (aD:AA)(r w:Nat)(i j:Int):Nat:=if 0<=i/\i<r/\0<=j/\j<w then (aD.getD i.toNat []).getD j.toNat 0 else 46
def aa4 (C:Addr):Sp:=λvs H Q _=>∃(p:Addr) (r w:Nat) (aD aV:AA) (bi bj:Nat) (i j:Int),vs=[.ref p,.int i,.int j]/\dN C H p r w aD aV bi bj/\Q (.str (S [atC aD r w i j])) H
def akg {f C:Addr}{fd:FuncData}(F:gJ K "at" "Board.at" pO f fd)(T:iJ K C)(J:∃t,mg "FREE"=some (.str (S [46]) t))(Y:cA P w K mg base "is_cell_of" 2 oo (J1 K)):cU P w K mg base eV 3 f fd cO (aa4 C):=by
 calc F.d8 XM (λbV A outer s H vs Q E hr h=>?_);let⟨p,r,w,aD,aV,bi,bj,i,j,rfl,B,q⟩:=h;obtain⟨⟨dx,pr,pm,pb,hp,G,hm,hb⟩,O⟩:=B;let w9:=O.w9;calc(aG _ (aF (bC (pJ (fJ (bQ Y hr.mono rL (aj (cF aH rL) (aj bh (aj bG ak))))) (aZ vG (aZ bI (cF aH rL) bh (λ_ _=>rfl)) bG (λ_ _=>rfl)) (vZ qA J)))) ?_);calc(cR p C dx _ _ rL hp T.cl T.nr rL (oE pr aD r w i j rL (aQ.of G) O.br O.r1 O.r9 O.w9 (bf _ rL ?_)));by_cases h:0<=i/\i<r/\0<=j/\j<w
 .rw[ai h];let e:atC aD r w i j=(aD.getD i.toNat []).getD j.toNat 0:=if_pos h;rw[e]at q;obtain⟨i,rfl⟩:∃k:Nat,i=k:=⟨i.toNat,qk⟩
  obtain⟨j,rfl⟩:∃k:Nat,j=k:=⟨j.toNat,qk⟩
  rw[ee,ee]at q;let hi:i<aD.length:=by rw[O.br.len];lia
  let D:aD[i]?=some (aD.getD i []):=by rw[aE,ac hi];rfl
  let hw:(aD.getD i []).length=w:=O.br.uK _ (bp D);let I:(aD.getD i [])[j]?=some ((aD.getD i []).getD j 0):=by rw[aE (l:=aD.getD i []),ac qk];rfl
  refine cH (cR p C dx _ _ rL hp T.cl T.nr rL (aY pr _ _ _ rL rL (aQ.of G) (aM (lE D)) (gH _ _ _ rL rL (ap (aN qk)) (aM I) q)))
 .rw[af h];let e:atC aD r w i j=46:=if_neg h;rw[e]at q;show cI q
def isFree (aD:AA):Bool:=aD.flatten.all λc=>decide ([c]=[46])
def U_ (C:Addr):Sp:=λvs H Q _=>∃(p:Addr) (r w:Nat) (aD aV:AA) (bi bj:Nat),vs=[.ref p]/\dN C H p r w aD aV bi bj/\∀H',aB H H'->Q (.bl (isFree aD)) H'
def aa5 {f C:Addr}{fd:FuncData}(F:gJ K "is_free" "Board.is_free" jQ f fd)(T:iJ K C)(gZ:mg "all"=none)(iM:∃t,mg "FREE"=some (.str (S [46]) t)):cU P w K mg base eV 1 f fd aw (U_ C):=by
 calc F.d8 yS (λbV A outer s H vs Q E hr h=>?_);let⟨p,r,w,aD,aV,bi,bj,rfl,B,q⟩:=h;obtain⟨⟨dx,pr,pm,pb,hp,J,hm,hb⟩,O⟩:=B;let hrw:r*w<=81:=gt O.r9 O.w9;let Z:=J0 O.br;calc(aG _ (aF (bC (aP (lK rL) qA gZ kZ (aj (jY rL (jW.of yS.nd qB) (qG (gG bv cE cK JT (bA [] qS) (aj (cF aH rL) ak))) (λ_ _ _ _ _=>fO) (λ_ _ _ _ _=>(gq kY aH (vZ qA iM) (bO _)))) ak)))) ?_);calc⟨rL,cR p C dx _ _ rL hp T.cl T.nr rL (cT pr aD rL rL (aQ.of J) qk (aG _ rL (λL Y=>?_)))⟩;refine yO (λi ys D=>ys=((aD.flatten.take i).map λc=>decide ([c]=[46])).map V.bl/\D L=some (.lst ys)/\aB H D) (cj rL aA (aB.upd Y)) ?_ ?_
 .intro i c ys D hi z;let⟨rfl,j,I⟩:=z;let G:i<aD.flatten.length:=(ah.mp hi).1;calc(cT [c] [46] rL rL j ?_ (iV.mk G (cj ?_ aA (I.eE Y))));.rw[aa,aa,av];show aN qk
  .rw[c8,hi];simp
 .intro ys D z;let⟨rfl,j,I⟩:=z;rw[cw]at j;calc(aK L _ rL (bM.of j) ?_);let e:((aD.flatten.map λc=>decide ([c]=[46])).all id)=isFree aD:=by
   unfold isFree;rw[List.all_map];rfl
  rw[e];show q D I
def Td (aD:AA)(j:Nat):List Nat:=aD.map λl=>l.getD j 0
def lineOf (aD:AA)(i j:Nat)(way:Int):List Nat:=if way=0 then aD.getD i [] else Td aD j
def placeOf (i j:Nat)(way:Int):Nat:=if way=0 then j else i
def afI:Sp:=λvs H Q _=>∃(p:Addr) (aD:AA) (r w j:Nat),vs=[.ref p,.int j]/\H p=some (.tup (Ts aD))/\Blk r w aD/\r<=9/\w<=9/\j<w/\∀H',aB H H'->Q (.str (S (Td aD j))) H'
def Oz (D:aO K mg "column_text" sO tf):cA P w K mg base "column_text" 1 tf afI:=by
 calc D.d8 BR (λf bV A outer s H vs Q E hr h=>?_);let⟨p,aD,r,w,j,rfl,hp,hb,r9,w9,hj,q⟩:=h;calc(aG _ (aF (bC (gG bv cE cK oR (bA [] qS) (aj (jY rL (jW.of BR.nd qB) (jh aH) (λ_ _ _ _ _=>fO) (λ_ _ _ _ _=>(aZ vG aH bG (λ_ _=>rfl)))) ak)))) ?_);let Z:(Ts aD).length=r:=by rw[aa,hb.len]
 refine⟨rL,bJ p rL ⟨_,aQ.of hp⟩ (λL O=>tH (xs:=Ts aD) (λi ys G=>ys=Ts (ones ((aD.take i).map λl=>l.getD j 0))/\G L=some (.lst ys)/\aB H G) (cj rL aA (aB.upd O)) (λi ys G _ h=>aQ.of (h.2.2 _ _ hp)) ?_ ?_)⟩
 .intro i x ys G hi z;let⟨rfl,F,J⟩:=z;let⟨l,hl,rfl⟩:=yX hi;let I:i<(Ts aD).length:=(ah.mp hi).1;let Y:l.length=w:=hb.uK _ (bp hl);calc(Il l _ (l.getD j 0) rL rL (ap (aN qk)) ?_ F ?_ (iV.mk I (cj ?_ aA (J.eE O))));.show aM (by rw[aE,ac qk];rfl)
  .rw[aa,aa,aa,av];show aN qk
  .rw[Ou,acI,c8,hl];simp
 .intro ys G z;let⟨rfl,F,J⟩:=z;rw[Z,<-hb.len,cw]at F;calc(cT L _ rL rL (bM.of F) ?_ ?_);.rw[jV,aa,hb.len];lia
  .rw[jV];show q G J
def yC {r w:Nat}{aD:AA}(hb:Blk r w aD){i j:Nat}(hi:i<r){way:Int}:(lineOf aD i j way).length=if way=0 then w else r:=by
 unfold lineOf;by_cases h:way=0
 .rw[if_pos h,if_pos h,aE,ac (by rw[hb.len];show hi)];show hb.uK _ (ba _)
 .rw[if_neg h,if_neg h];unfold Td;rw[aa,hb.len]
def tY (l:List Nat):(jC l).length<=l.length:=by unfold jC;rw[eW];show b8 (List.takeWhile_prefix _).length_le (by rw[eW];show ax _)
def zY (l:List Nat):(kj l).length<=l.length:=(List.takeWhile_prefix _).length_le
noncomputable def aex (i j:Nat)(way:Int)(l:List Nat):List V:=if way=0 then [.int i,.int ((j:Int)-(jC (l.take j)).length),.str (S (jC (l.take j)++kj (l.drop j)))] else [.int ((i:Int)-(jC (l.take i)).length),.int j,.str (S (jC (l.take i)++kj (l.drop i)))]
def afJ (C:Addr):Sp:=λvs H Q _=>∃(p:Addr) (r w:Nat) (aD aV:AA) (bi bj i j:Nat) (way:Int),vs=[.ref p,.int i,.int j,.int way]/\dN C H p r w aD aV bi bj/\i<r/\j<w/\(way=0\/way=1)/\
 ∀(t:Addr) (H':Hp),aB H H'->H t=none->H' t=some (.tup (aex i j way (lineOf aD i j way)))->Q (.ref t) H'
def aiD {f C:Addr}{fd:FuncData}(F:gJ K "run" "Board.run" nZ f fd)(T:iJ K C)(bH:mg "len"=none)(iM:∃t,mg "FREE"=some (.str (S [46]) t))(R3:cA P w K mg base "column_text" 1 tf afI):cU P w K mg base eV 2 f fd rl (afJ C):=by
 calc F.d8 oX (λbV A outer s H vs Q E hr h=>?_);let⟨p,r,w,aD,aV,bi,bj,i,j,way,rfl,B,hi,hj,alj,q⟩:=h;obtain⟨⟨dx,pr,pm,pb,hp,Y,hm,hb⟩,O⟩:=B;let r9:=O.r9;let w9:=O.w9;calc(aG _ (au (aW (i:=4) oX.nd rL (Or.inl rL) (pJ (bT iC bU aq (bO _)) (aZ bI (cF aH rL) bh (λ_ _=>rfl)) (bQ R3 hr.mono rL (aj (cF aH rL) (aj bG ak))))) (au (aW (i:=5) oX.nd rL (Or.inl rL) (pJ (bT iC bU aq (bO _)) bG bh)) (au (aW (i:=6) oX.nd rL (Or.inl rL) (aZ bI (gG bv PySem.F.slot_str_rpartition PySem.F.type_str_rpartition aee (dj qm cQ eO (dM dD)) (aj (vZ qA iM) ak)) aq (λ_ _=>rfl))) (au (aW (i:=7) oX.nd rL (Or.inl rL) (aJ jt fU (aZ bI (gG bv PySem.F.slot_str_partition PySem.F.type_str_partition agb (dj qm cQ (dM dD) eO) (aj (vZ qA iM) ak)) aq (λ_ _=>rfl)))) (au (aW (i:=8) oX.nd rL (Or.inl rL) (aJ ni dD (aP dw qA bH ay (aj fU ak)))) (aF (bC (pJ (bT iC bU aq (bO _)) (bF (aj bh (aj mQ (aj gY ak)))) (bF (aj mQ (aj bG (aj gY ak)))))))))))) ?_);let I:aD[i]?=some (aD.getD i []):=by rw[aE,ac (by rw[O.br.len];show hi)];rfl
 rcases alj with rfl|rfl
 .let G:(lineOf aD i j 0).length=w:=yC O.br hi;let Z:aD.getD i []=lineOf aD i j 0:=rfl;rw[Z]at I;let hz:∀l:List Nat,l.length<=100->l.length<=sizeLine:=λl h=>ap (aN qk);calc⟨rL,cH ?_⟩;calc(cR p C dx _ _ rL hp T.cl T.nr rL (aY pr _ _ _ rL rL (aQ.of Y) (aM (lE I)) ?_));generalize hL:lineOf aD i j 0=l at G I ⊢;calc⟨rL,cH ?_⟩;calc(aG _ rL (iU l rL (hz _ qk) rL ?_));rw[acj];calc(iU _ rL rL (by rw[av];lia) (λp1 a1 b1 J=>?_));calc(aY p1 _ _ _ rL rL (aQ.of aA) (aM (j:=2) rL) ?_);let s1:aB H (upd H p1 (.tup [.str a1,.str b1,.str (S (jC (l.take j)))])):=aB.upd J;generalize upd H p1 (.tup [.str a1,.str b1,.str (S (jC (l.take j)))])=H1 at s1 ⊢;let t1:=tY (l.take j);let t2:=zY (l.drop j);rw[av]at t1;rw[aS]at t2;calc(aG _ rL (iU l rL (hz _ qk) rL ?_));rw[Uv];calc(iU _ rL rL (by rw[aS];lia) (λp2 b2 c2 D=>?_));calc(aY p2 _ _ _ rL rL (aQ.of aA) (aM (j:=0) rL) (aU _ _ rL rL (ap (aN qk)) ?_));let s2:=s1.eE (o:=HO.tup [.str (S (kj (l.drop j))),.str b2,.str c2]) (s1.free D);generalize upd H1 p2 (HO.tup [.str (S (kj (l.drop j))),.str b2,.str c2])=H2 at s2 ⊢;calc(bJ _ rL (hz _ qk) (aK _ _ rL rL ?_));calc⟨rL,cH ?_⟩;calc⟨zsz 3,λt ht=>?_⟩;show q t _ (s2.eE (s2.free ht)) (s2.free ht) (by rw[aA,hL];rfl)
 .let G:(lineOf aD i j 1).length=r:=yC O.br hi;let Z:Td aD j=lineOf aD i j 1:=rfl;let hz:∀l:List Nat,l.length<=100->l.length<=sizeLine:=λl h=>ap (aN qk);calc⟨rL,cI ?_⟩;calc(cR p C dx _ _ rL hp T.cl T.nr rL (Mh pr aD r w j rL Y O.br r9 w9 hj (λH0 s0=>?_)));rw[Z];generalize hL:lineOf aD i j 1=l at G ⊢;calc⟨rL,cI ?_⟩;calc(aG _ rL (iU l rL (hz _ qk) rL ?_));rw[acj];calc(iU _ rL rL (by rw[av];lia) (λp1 a1 b1 J=>?_));calc(aY p1 _ _ _ rL rL (aQ.of aA) (aM (j:=2) rL) ?_);let s1:aB H (upd H0 p1 (.tup [.str a1,.str b1,.str (S (jC (l.take i)))])):=s0.eE (s0.free J);generalize upd H0 p1 (.tup [.str a1,.str b1,.str (S (jC (l.take i)))])=H1 at s1 ⊢;let t1:=tY (l.take i);let t2:=zY (l.drop i);rw[av]at t1;rw[aS]at t2;calc(aG _ rL (iU l rL (hz _ qk) rL ?_));rw[Uv];calc(iU _ rL rL (by rw[aS];lia) (λp2 b2 c2 D=>?_));calc(aY p2 _ _ _ rL rL (aQ.of aA) (aM (j:=0) rL) (aU _ _ rL rL (ap (aN qk)) ?_));let s2:=s1.eE (o:=HO.tup [.str (S (kj (l.drop i))),.str b2,.str c2]) (s1.free D);generalize upd H1 p2 (HO.tup [.str (S (kj (l.drop i))),.str b2,.str c2])=H2 at s2 ⊢;calc(bJ _ rL (hz _ qk) (aK _ _ rL rL ?_));calc⟨rL,cI ?_⟩;calc⟨zsz 3,λt ht=>?_⟩;show q t _ (s2.eE (s2.free ht)) (s2.free ht) (by rw[aA,hL];rfl)
abbrev cu:=Nat×Nat×Nat
def rT (H:Hp)(a:Addr)(t:cu):Prop:=H a=some (.tup [.int t.1,.int t.2.1,.str (S [t.2.2])])
noncomputable def tO (H:Hp)(a:Addr):cu:=match H a with| some (.tup [.int x,.int y,.str z])=>(x.toNat,y.toNat,z.cps.toList.headD 0)| _=>(0,0,0)
def MF {H:Hp}{a:Addr}{t:cu}(h:rT H a t):tO H a=t:=by unfold tO;rw[show H a=_ from h];rfl
structure fW (H:Hp)(as:List Addr)(ts:List cu):Prop where
 at_:∀a∈as,rT H a (tO H a)
 eq:as.map (tO H)=ts
def fW.Ju {H H':Hp}{as:List Addr}{ts:List cu}(k:∀a xs,H a=some (.tup xs)->H' a=some (.tup xs))(h:fW H as ts):fW H' as ts:=by let e:∀a∈as,tO H' a=tO H a:=λa ha=>MF (k a _ (h.at_ a ha));show⟨λa ha=>by rw[e a ha];show k a _ (h.at_ a ha),by rw[<-h.eq];show fR e⟩
def fW.mv {H H':Hp}{as:List Addr}{ts:List cu}(k:aB H H')(h:fW H as ts):fW H' as ts:=h.Ju λa xs e=>k a _ e
def aey {H:Hp}{M:Addr}{ys zs:List V}(j:H M=some (.lst ys)):∀a xs,H a=some (.tup xs)->upd H M (.lst zs) a=some (.tup xs):=λa xs e=>by
 let ne:a≠M:=λz=>by rw[z,j]at e;cases e
 rw[bw ne];show e
def fW.snoc {H:Hp}{as:List Addr}{ts:List cu}{a:Addr}{t:cu}(h:fW H as ts)(ha:rT H a t):fW H (as++[a]) (ts++[t]):=by
 calc⟨λb hb=>?_,by rw[bP,h.eq,List.map_singleton,MF ha]⟩;rcases be.mp hb with z|z;.show h.at_ b z
 .rw[bc.mp z,MF ha];show ha
def fW.nil {H:Hp}:fW H [] []:=⟨λa h=>by simp at h,rL⟩
def fW.len {H:Hp}{as:List Addr}{ts:List cu}(h:fW H as ts):as.length=ts.length:=by rw[<-h.eq,aa]
def fW.get {H:Hp}{as:List Addr}{ts:List cu}(h:fW H as ts){i:Nat}(hi:i<as.length):∃t,ts[i]?=some t/\rT H as[i] t:=(aG (tO H as[i]) (by rw[<-h.eq];simp[hi]) (h.at_ _ (ba _)))
def setAt (R:AA)(i j z:Nat):List (List Nat):=R.set i ((R.getD i []).set j z)
def fX (R:AA)(ts:List cu):List (List Nat):=ts.foldl (λR t=>setAt R t.1 t.2.1 t.2.2) R
def Zf {r w:Nat}{R:AA}(h:Blk r w R){i j z:Nat}(hi:i<r):Blk r w (setAt R i j z):=by
 calc⟨by unfold setAt;rw[fb,h.len],λl hl=>?_⟩;rcases eQ hl with y|y;.show h.uK l y
 .rw[y,fb,aE,ac (by rw[h.len];show hi)];show h.uK _ (ba _)
def agz {r w:Nat}{R:AA}(h:Blk r w R){i j z:Nat}(hi:i<r){F:Nat->Prop}(hp:∀l∈R,∀c∈l,F c)(hz:F z):∀l∈setAt R i j z,∀c∈l,F c:=λl hl c D=>by
 rcases eQ hl with y|y;.show hp l y c D
 .rw[y]at D;rcases eQ D with u|u
  .rw[aE,ac (by rw[h.len];show hi)]at u;show hp _ (ba _) c u
  .rw[u];show hz
def inB (r w:Nat)(t:cu):Prop:=t.1<r/\t.2.1<w/\rH t.2.2
theorem tL {r w:Nat}:∀{ts:List cu} {R:AA},Blk r w R->(∀t∈ts,inB r w t)->Blk r w (fX R ts)
 | [],_,h,_=>h
 | t::ts,_,h,k=>tL (ts:=ts) (Zf h (k t bS).1) λx hx=>k x (bE _ hx)
theorem Dm {r w:Nat}:∀{ts:List cu} {R:AA},Blk r w R->(∀t∈ts,inB r w t)->(∀l∈R,∀c∈l,Es c)->∀l∈fX R ts,∀c∈l,Es c
 | [],_,_,_,g=>g
 | t::ts,_,h,k,g=>Dm (ts:=ts) (Zf h (k t bS).1) (λx hx=>k x (bE _ hx)) (agz h (k t bS).1 g (.inr (k t bS).2.2))
def aez {r w:Nat}{aD aV:AA}{bi bj:Nat}(B:Mz r w aD aV bi bj){ts:List cu}(k:∀t∈ts,inB r w t):Mz r w (fX aD ts) aV bi bj:=⟨B.r1,B.r9,B.w1,B.w9,tL B.br k,B.bm,Dm B.br k B.cr,B.cm,B.bi,B.bj⟩
def acK (R:AA)(ts:List cu)(t:cu):fX R (ts++[t])=setAt (fX R ts) t.1 t.2.1 t.2.2:=by unfold fX;rw[List.foldl_append];rfl
structure j8 (H0 H:Hp)(ps:List Addr)(R:AA):Prop where
 len:ps.length=R.length
 nd:ps.Nodup
 fr:∀p∈ps,H0 p=none
 at_:∀(i:Nat) (h:i<ps.length),H ps[i]=some (.lst (Ts (ones (R.getD i []))))
def j8.mv {H0 H H':Hp}{ps:List Addr}{R:AA}(h:j8 H0 H ps R)(k:∀p∈ps,H' p=H p):j8 H0 H' ps R:=⟨h.len,h.nd,h.fr,λi hi=>by rw[k _ (ba _)];show h.at_ i hi⟩
def j8.mvS {H0 H H':Hp}{ps:List Addr}{R:AA}(h:j8 H0 H ps R)(k:aB H H'):j8 H0 H' ps R:=⟨h.len,h.nd,h.fr,λi hi=>k _ _ (h.at_ i hi)⟩
def j8.snoc {H0 H:Hp}{ps:List Addr}{R:AA}(h:j8 H0 H ps R){p:Addr}{l:List Nat}(hn:p∉ps)(h0:H0 p=none)(hp:H p=some (.lst (Ts (ones l)))):j8 H0 H (ps++[p]) (R++[l]):=by
 refine⟨by simp[h.len],?_,λx hx=>?_,λi hi=>?_⟩
 .rw[List.nodup_append];calc(cj h.nd qo (λa ha b hb=>?_));rw[bc.mp hb];show λz=>hn (z ▸ ha)
 .rcases be.mp hx with z|z;.show h.fr x z
  .rw[bc.mp z];show h0
 .by_cases c:i<ps.length;.rw[List.getElem_append_left c,h.at_ i c,aE,aE,dE (by rw[<-h.len];show c)]
  .let e:i=ps.length:=by simp at hi;lia
   subst e;rw[List.getElem_append_right (ax _)];simp only[Nat.sub_self,List.getElem_singleton];rw[hp,aE,du (by rw[h.len];show ax _),h.len];simp
def j8.set {H0 H:Hp}{ps:List Addr}{R:AA}(h:j8 H0 H ps R){i j z:Nat}(hi:i<ps.length):j8 H0 (upd H ps[i] (.lst ((Ts (ones (R.getD i []))).set j (.str (S [z]))))) ps (setAt R i j z):=by
 let e:(Ts (ones (R.getD i []))).set j (.str (S [z]))=Ts (ones ((R.getD i []).set j z)):=by show List.set (((R.getD i []).map λc=>[c]).map λl=>V.str (S l)) j (V.str (S [z]))=((List.set (R.getD i []) j z).map λc=>[c]).map λl=>V.str (S l);rw[nI,nI]
 rw[e];calc⟨by unfold setAt;rw[fb];show h.len,h.nd,h.fr,λk D=>?_⟩;by_cases c:k=i
 .subst c;rw[aA];unfold setAt;rw[aE (l:=R.set _ _),ke (by rw[<-h.len];show hi)];rfl
 .rw[bw (λz=>c ((List.getElem_inj h.nd).mp z)),h.at_ k D];unfold setAt;rw[aE (l:=R.set _ _),kK (λz=>c z.symm),<-aE]
def FZ (C:Addr):Sp:=λvs H Q _=>∃(p t:Addr) (as:List Addr) (ts:List cu) (r w:Nat) (aD aV:AA) (bi bj:Nat),vs=[.ref p,.ref t]/\dN C H p r w aD aV bi bj/\H t=some (.tup (as.map V.ref))/\fW H as ts/\(∀t∈ts,inB r w t)/\
 ∀(j:Addr) (H':Hp),aB H H'->dN C H' j r w (fX aD ts) aV bi bj->Q (.ref j) H'
def agA {f C f0:Addr}{fd gk:FuncData}(F:gJ K "laid" "Board.laid" mq f fd)(T:iJ K C)(iQ:mg "list"=none)(cX:mg "tuple"=none)(J2:mg "Board"=some (.ref C))(OD:Mk K C f0)(OJ:cU P w K mg base eV 5 f0 gk ms (Ox C))(O1:cD K gk ms []):cU P w K mg base eV 8 f fd pu (FZ C):=by
 calc F.d8 mX (λbV A outer s H vs Q E hr h=>?_);let⟨p,t,as,ts,r,w,aD,aV,bi,bj,rfl,BA,ht,hL,fZ,q⟩:=h;obtain⟨⟨dx,pr,pm,pb,hx,hpr,hpm,hpb⟩,B⟩:=BA;let r9:=B.r9;let w9:=B.w9;let Y:=B.br;calc(aG _ (au (YT (ix:=2) (ns:=["row"]) mX.nd rL (Or.inl rL) rL (kh.of ["self",tN,"lines",".3",tF,tP] [3] qB) (jh (cF aH rL)) (λ_ _ _ _ _=>(Ih (show (["row","self",tN,"lines",".3",tF,tP]:List Str).Nodup by decide +kernel) rL qA)) (λ_ _ _ _ _=>fO) (λ_ _ _ _ _=>(fY (nq rL) qA iQ fg (aj aH ak)))) (au (h_ di rL (jh bh) (qF rL (cJ (bY (i:=3) mX.nd rL (Or.inl rL)) (cJ (bY (i:=4) mX.nd rL (Or.inl rL)) (cJ (bY (i:=5) mX.nd rL (Or.inl rL)) oU)))) (aF (um dD (Uq (aZ gA bG bU (λ_ _=>rfl)) cQ set_list)))) (aF (bC (tU OD OJ hr.mono rL J2 O1 .nil gM (aj (fY jB qA cX c9 (aj (jY rL (jW.of mX.nd qB) (oK bG) (λ_ _ _ _ _=>fO) (λ_ _ _ _ _=>(Uu K bv cE cK (JV K) (bA [] qS) (aj aH ak)))) ak)) (aj (cF aH rL) (aj (cF aH rL) ak)))))))) ?_);refine(cR p C dx _ _ rL hx T.cl T.nr rL (bJ pr rL ⟨_,aQ.of hpr⟩ (λM hM=>LC (f:=kE [3] 0) (tt:=nY) (xs:=Ts aD) (λi ys H2=>∃ps:List Addr,ys=ps.map V.ref/\H2 M=some (.lst ys)/\aB H H2/\j8 H H2 ps (aD.take i)/\M∉ps)
  (nu [] rL aA (aB.upd hM) ⟨qo,qi,λp h=>by simp at h,λi h=>by simp at h⟩ qo) (λi ys H2 _ h=>by let⟨_,_,_,G,_⟩:=h;show aQ.of (G _ _ hpr)) ?_ ?_)))
 .intro i x ys H2 hi z;let⟨ps,rfl,MJ,G,Zg,nM⟩:=z;let⟨l,hl,rfl⟩:=yX hi;let hil:i<(Ts aD).length:=(ah.mp hi).1;let hlw:l.length=w:=Y.uK _ (bp hl);let qL:(Ts aD).length=r:=by rw[aa,Y.len]
  let hpl:ps.length<=9:=by rw[Zg.len,av,Y.len];lia
  calc afF (bJ l rL qk (λc hc=>?_));let ncM:M≠c:=λz=>by rw[<-z,MJ]at hc;cases hc
  let ncp:c∉ps:=λz=>by let⟨k,hk,e⟩:=iL.mp z;have:=Zg.at_ k hk;rw[e,hc]at this;cases this
  refine(cj (by rw[bw ncM];show MJ) (by rw[aa];show aN qk) (iV.mk hil (nu (ps++[c]) qo aA ((G.eE (G.free hc)).eE hM) ?_ ?_)))
  .rw[show aD.take (i+1)=aD.take i++[l] by rw[c8,hl];rfl];calc j8.mv ((Zg.mvS (aB.upd hc)).snoc ncp (G.free hc) aA) λy hy=>bw λz=>?_;rcases be.mp hy with u|u
   .show nM (z ▸ u)
   .show ncM (z.symm.trans (bc.mp u))
  .intro z;rcases be.mp z with u|u;.show nM u
   .show ncM (bc.mp u)
 .intro ys H2 z;let⟨ps,rfl,MJ,G,Zg,nM⟩:=z;rw[cz (by rw[aa];show ax _)]at Zg;refine(bJ t rL ⟨_,aQ.of (G _ _ ht)⟩ (Ib (K:=K) (a:=t) (xs:=as.map V.ref) (λi σ H3=>∃v3 v4 v5:Option V,σ=[some (.ref p),some (.ref t),some (.ref M),v3,v4,v5]/\aB H H3/\H3 M=some (.lst (ps.map V.ref))/\j8 H H3 ps (fX aD (ts.take i)))
   (dJ none none none rL G MJ Zg) (λi σ H3 _ h=>by let⟨_,_,_,_,G,_⟩:=h;show aQ.of (G _ _ ht)) ?_ ?_))
  .intro i x σ H3 j z;let⟨v3,v4,v5,rfl,D,Jv,I⟩:=z;rw[ck]at j;let hi:i<as.length:=by
    rcases Nat.lt_or_ge i as.length with z|z;.show z
    .rw[ko z]at j;cases j
   rw[ac hi]at j;let j:V.ref as[i]=x:=bq j;subst j;let⟨u,eu,hU⟩:=hL.get hi;let hum:=bp eu;let⟨u1,u2,u3⟩:=fZ u hum;let hb3:Blk r w (fX aD (ts.take i)):=tL Y λy hy=>fZ y (cf hy);let hpl:ps.length=r:=by rw[I.len,hb3.len]
   let hps:u.1<ps.length:=qk;calc(aU (as[i]) _ rL (aQ.of (D _ _ hU)) rL (dW _ _ rL (dW _ _ rL (aK _ _ rL rL ?_))));refine(aY M _ _ (.ref ps[u.1]) rL rL (bM.of Jv) (aM (by simp[hps])) (aY (ps[u.1]) _ _ u.2.1 rL rL (I.at_ u.1 hps) ?_ ?_))
   .have:((fX aD (ts.take i)).getD u.1 []).length=w:=by
     rw[aE,ac (by rw[hb3.len];show u1)];show hb3.uK _ (ba _)
    unfold Eo;rw[aa,aa,this,if_pos qk,if_pos qk];congr 1
   .refine(dJ _ _ _ rL (D.eE (I.fr _ (ba _))) ?_ ?_)
    .let ne:M≠ps[u.1]:=λz=>nM (by rw[z];show ba _)
     rw[bw ne];show Jv
    .rw[show fX aD (ts.take (i+1))=setAt (fX aD (ts.take i)) u.1 u.2.1 u.2.2 by rw[c8,eu];show acK _ _ _];show I.set hps
  .intro σ H3 z;let⟨v3,v4,v5,rfl,D,Jv,I⟩:=z;rw[cz (by rw[aa,hL.len];show ax _)]at I;let B':=aez B fZ;let hpl:ps.length=r:=by rw[I.len,B'.br.len]
   refine(bJ M rL ⟨_,bM.of Jv⟩ (λN hN=>ab_ (xs:=ps.map V.ref) (λi ys Z=>ys=Ts ((fX aD ts).take i)/\Z N=some (.lst ys)/\aB H3 Z) (cj rL aA (aB.upd hN)) (λi ys Z _ h=>bM.of (h.2.2 _ _ Jv)) ?_ ?_))
   .intro i x ys Z hi z;let⟨rfl,O,MN⟩:=z;rw[ck]at hi;let J:i<ps.length:=by
     rcases Nat.lt_or_ge i ps.length with z|z;.show z
     .rw[ko z]at hi;cases hi
    rw[ac J]at hi;let hi:V.ref ps[i]=x:=bq hi;subst hi;let Jw:i<(fX aD ts).length:=by rw[<-I.len];show J
    let hg:(fX aD ts).getD i []=(fX aD ts)[i]:=by rw[aE,ac Jw];rfl
    let hw:(fX aD ts)[i].length=w:=B'.br.uK _ (ba _);let hat:=I.at_ i J;rw[hg]at hat;calc⟨rL,Ik (ps[i]) (ones (fX aD ts)[i]) rL rL (bM.of (MN _ _ hat)) (by rw[jV,hw];lia) O ?_ (iV.mk (by rw[aa];show J) (cj ?_ aA (MN.eE hN)))⟩;.rw[aa,av];show aN qk
    .rw[jV,Ou,c8,ac Jw];rfl
   .intro ys Z z;let⟨rfl,O,MN⟩:=z;rw[cz (by rw[aa,I.len];show ax _)]at O;calc(dW N _ rL (.inl ⟨bM.of O,λl hl=>?_⟩));let s5:=(D.trans MN).eE (o:=.tup (Ts (fX aD ts))) ((D.trans MN).free hl);calc(cR p C dx _ _ rL (s5 _ _ hx) T.cl T.nm rL (cR p C dx _ _ rL (s5 _ _ hx) T.cl T.nb rL (λx dy nx ndx yP=>?_)));let s6:aB (upd Z l (.tup (Ts (fX aD ts)))) (upd (upd (upd Z l (.tup (Ts (fX aD ts)))) dy (HO.own x)) x (HO.ins C dy [])):=λb o e=>by rw[bw (bL e nx),bw (bL e ndx)];show e
    calc⟨x,dy,l,pm,pb,r,w,fX aD ts,aV,bi,bj,rL,aA,s6 _ _ aA,s6 _ _ (s5 _ _ hpm),s6 _ _ (s5 _ _ hpb),B',λH5 kp hx5=>⟨rL,?_⟩⟩;let s7:aB (upd Z l (.tup (Ts (fX aD ts)))) H5:=λb o e=>kp b o (s6 b o e) (bL e nx);show q x H5 (s5.trans s7) ⟨(gO dy l pm pb hx5 (s7 _ _ aA) (s7 _ _ (s5 _ _ hpm)) (s7 _ _ (s5 _ _ hpb))),B'⟩
def Iz (ts:List cu):Prop:=ts.Pairwise (λa b=>a.1=b.1)\/ts.Pairwise (λa b=>a.1<b.1)
def aa6 {H:Hp}{M:Addr}{ys zs:List V}(j:H M=some (.lst ys)):∀a xs,H a=some (.tup xs)->upd H M (.lst zs) a=some (.tup xs):=λa xs e=>by
 let ne:a≠M:=λz=>by rw[z,j]at e;cases e
 rw[bw ne];show e
abbrev mD:=Nat×Nat×Nat×List Nat
def acL (H:Hp)(a:Addr)(q:mD):Prop:=H a=some (.tup [.int q.1,.int q.2.1,.int q.2.2.1,.str (S q.2.2.2)])
noncomputable def vL (R:AA)(i j wy:Nat):mD:=(if wy=0 then i else i-(jC ((lineOf R i j (wy:Int)).take i)).length,if wy=0 then j-(jC ((lineOf R i j (wy:Int)).take j)).length else j,wy,jC ((lineOf R i j (wy:Int)).take (placeOf i j (wy:Int)))++kj ((lineOf R i j (wy:Int)).drop (placeOf i j (wy:Int))))
structure jF {α:Type}(enc:α->List V)(H:Hp)(as:List Addr)(xs:List α):Prop where
 len:as.length=xs.length
 at_:∀(i:Nat) (a:Addr) (x:α),as[i]?=some a->xs[i]?=some x->H a=some (.tup (enc x))
def jF.Ju {α:Type}{enc:α->List V}{H H':Hp}{as:List Addr}{xs:List α}(k:∀a ys,H a=some (.tup ys)->H' a=some (.tup ys))(h:jF enc H as xs):jF enc H' as xs:=⟨h.len,λi a x h1 h2=>k _ _ (h.at_ i a x h1 h2)⟩
def jF.mv {α:Type}{enc:α->List V}{H H':Hp}{as:List Addr}{xs:List α}(k:aB H H')(h:jF enc H as xs):jF enc H' as xs:=h.Ju λa ys e=>k a _ e
def jF.nil {α:Type}{enc:α->List V}{H:Hp}:jF enc H [] []:=⟨rL,λi a x h=>by simp at h⟩
def jF.one {α:Type}{enc:α->List V}{H:Hp}{a:Addr}{x:α}(h:H a=some (.tup (enc x))):jF enc H [a] [x]:=⟨rL,λi b y h1 h2=>by
 match i,h1,h2 with
 | 0,h1,h2=>have e1:a=b:=bq h1;let e2:x=y:=bq h2;rw[<-e1,<-e2];show h
 | n+1,h1,h2=>show absurd h1 qo⟩
def jF.app {α:Type}{enc:α->List V}{H:Hp}{as bs:List Addr}{xs ys:List α}(h:jF enc H as xs)(g:jF enc H bs ys):jF enc H (as++bs) (xs++ys):=by
 calc⟨by rw[am,am,h.len,g.len],λi a x h1 h2=>?_⟩;by_cases c:i<as.length
 .rw[dE c]at h1;rw[dE (by rw[<-h.len];show c)]at h2;show h.at_ i a x h1 h2
 .rw[du qk]at h1;rw[du (by rw[<-h.len];lia),<-h.len]at h2;show g.at_ _ a x h1 h2
def jF.get {α:Type}{enc:α->List V}{H:Hp}{as:List Addr}{xs:List α}(h:jF enc H as xs){i:Nat}(hi:i<as.length):∃x,xs[i]?=some x/\H as[i]=some (.tup (enc x)):=by
 let hx:i<xs.length:=by rw[<-h.len];show hi
 show(aG (xs[i]) (ac hx) (h.at_ i _ _ (ac hi) (ac hx)))
abbrev QL:=jF (λq:mD=>[V.int q.1,V.int q.2.1,V.int q.2.2.1,V.str (S q.2.2.2)])
abbrev AL3:=jF (λq:Nat×Nat×Nat=>[V.int q.1,V.int q.2.1,V.int q.2.2])
def pB (ts:List cu):Nat:=if ts.head?.map (·.1)=ts.getLast?.map (·.1) then 0 else 1
def Dn (ts:List cu):List (Nat×Nat×Nat):=(ts.take 1).map (λt=>(t.1,t.2.1,pB ts))++ts.map λt=>(t.1,t.2.1,1-pB ts)
def qd (R:AA)(a:Nat×Nat×Nat):mD:=vL R a.1 a.2.1 a.2.2
def MP (q:mD):Bool:=decide (1<q.2.2.2.length)
def k_ (aD:AA)(ts:List cu):List mD:=((Dn ts).map (qd (fX aD ts))).filter MP
def acM (ts:List cu):pB ts<=1:=by unfold pB;split <;> decide
def J3 {r w:Nat}{R:AA}(hb:Blk r w R)(r9:r<=9)(w9:w<=9){i j wy:Nat}(hi:i<r):(vL R i j wy).2.2.2.length<=20:=by
 let D:=yC hb hi (j:=j) (way:=(wy:Int));let F:(lineOf R i j (wy:Int)).length<=9:=by rw[D];split <;> assumption
 show (jC _++kj _).length<=20;let a1:=tY ((lineOf R i j (wy:Int)).take (placeOf i j (wy:Int)));let a2:=zY ((lineOf R i j (wy:Int)).drop (placeOf i j (wy:Int)));rw[av]at a1;rw[aS]at a2;rw[am];lia
def acN {ts:List cu}(h:0<ts.length):pB ts=if ts[0].1=ts[ts.length-1].1 then 0 else 1:=by unfold pB;rw[List.head?_eq_getElem?,o0,ac h,ac qk];simp only[lh,Option.some.injEq]
def lg {H:Hp}{as:List Addr}{ts:List cu}(j:fW H as ts){i:Nat}(hi:i<ts.length):∃(h:i<as.length),H as[i]=some (.tup [.int ts[i].1,.int ts[i].2.1,.str (S [ts[i].2.2])]):=by
 let h:i<as.length:=by rw[j.len];show hi
 let⟨t,e,ht⟩:=j.get h;rw[ac hi]at e;let e:=bq e;rw[<-e]at ht;show⟨h,ht⟩
def agB {as:List Addr}(h:0<as.length):tV (as.map V.ref) (-1)=some (.ref as[as.length-1]):=by
 let e:as.map V.ref=(as.take (as.length-1)).map V.ref++[V.ref as[as.length-1]]:=by rw[<-List.map_singleton,<-bP];congr 1;have:=kA (as.length-1) as;rw[f8 qk,show as.length-1+1=as.length by lia,kQ]at this;show this.symm
 rw[e];show JL _ _
def acO {ts:List cu}(hl:Iz ts)(h0:0<ts.length):((ts.map λt=>decide (V.int (t.1:Int)=V.int (ts[0].1:Int))).all id)=decide (pB ts=0):=by
 let hd:∀a b:Nat,decide (V.int (a:Int)=V.int (b:Int))=decide (a=b):=λa b=>by
  by_cases h:a=b;.subst h;simp
  .have:¬V.int (a:Int)=V.int (b:Int):=λz=>h (by injection z with z;show oz z)
   simp[h,this]
 let j:(∀t∈ts,t.1=ts[0].1)↔ts[0].1=ts[ts.length-1].1:=by
  constructor
  .intro h;show(h _ (ba _)).symm
  .intro h t ht;let⟨i,hi,rfl⟩:=iL.mp ht;rcases hl with hl|hl
   .rw[iN]at hl;rcases lv i with z|z;.subst z;rfl
    .show(hl 0 i h0 hi z).symm
   .rw[iN]at hl;rcases lv (ts.length-1) with z|z
    .have:i=0:=by lia
     subst this;rfl
    .have:=hl 0 (ts.length-1) h0 qk z;lia
 rw[acN h0,ii,eK,decide_eq_true_iff];constructor
 .intro h;rw[if_pos];calc j.mp λt ht=>?_;have:=h _ (bd.mpr (aG t ht rL));rw[hd]at this;show dC this
 .intro h x hx;let⟨t,ht,rfl⟩:=bd.mp hx;let D:ts[0].1=ts[ts.length-1].1:=by
   by_cases z:ts[0].1=ts[ts.length-1].1;.show z
   .rw[if_neg z]at h;cases h
  rw[hd];show ai (j.mpr D t ht)
def Va:Sp:=λvs H Q _=>∃(t:Addr) (as:List Addr) (ts:List cu),vs=[.ref t]/\H t=some (.tup (as.map V.ref))/\fW H as ts/\0<ts.length/\ts.length<=7/\Iz ts/\∀H',aB H H'->Q (.bl (decide (pB ts=0))) H'
def Vb (D:aO K mg "is_across" rR jj)(gZ:mg "all"=none):cA P w K mg base "is_across" 1 jj Va:=by
 calc D.d8 Fz (λf bV A outer s H vs Q E hr h=>?_);let⟨t,as,ts,rfl,ht,J,h0,h7,hl,q⟩:=h;let O:=J.len;calc(aG _ (aF (bC (aP (lK rL) qA gZ kZ (aj (lY (ns:=rh) rL (kh.of jj [] qB) (jh aH) (λ_ _ _ _ _=>(qU K rL (show (sd:List Str).Nodup by decide +kernel) rL rL rL qA qA qA)) (λ_ _ _ _ _=>fO) (λ_ _ _ _ _=>(gq iC aH (aZ (lu K) (aZ (lu K) bU aq (λ_ _=>rfl)) aq (λ_ _=>rfl)) (bO _)))) ak)))) ?_);refine(bJ t rL ⟨_,aQ.of ht⟩ (λN Y=>lR (K:=K) (KT:=K) (a:=t) (f:=kE [] 0) (tt:=nY) (xs:=as.map V.ref) (λn ys G=>ys=((ts.take n).map λt=>decide (V.int (t.1:Int)=V.int (ts[0].1:Int))).map V.bl/\G N=some (.lst ys)/\aB H G)
  (cj rL aA (aB.upd Y)) (λn ys G _ h=>aQ.of (h.2.2 _ _ ht)) ?_ ?_))
 .intro n x ys G hx z;let⟨rfl,Z,F⟩:=z;let⟨hn,hx⟩:=rfg hx;let I:n<ts.length:=qk;let⟨_,en⟩:=lg (J.mv F) I;let⟨g0,e0⟩:=lg (J.mv F) h0;calc yc hx.symm (aQ.of en) ?_;calc(aY t _ _ (.ref as[0]) rL rL (aQ.of (F _ _ ht)) (aM (j:=0) (by simp[g0])) (lU (as[0]) _ _ _ rL rL (aQ.of e0) (aM (j:=0) rL) rL Z ?_ (iV.mk (by rw[aa];show hn) (cj ?_ aA (F.eE Y)))));.rw[aa,aa,av];show aN qk
  .rw[show ts.take (n+1)=ts.take n++(some ts[n]).toList by rw[c8,ac I],bP,bP];rfl
 .intro ys G z;let⟨rfl,Z,F⟩:=z;calc(aK N _ rL (bM.of Z) ?_);rw[aa,O,cw,acO hl h0];show q G F
def acP {r w:Nat}{R:AA}{i j wy:Nat}(D:wy<=1):aex i j (wy:Int) (lineOf R i j (wy:Int))=[.int (vL R i j wy).1,.int (vL R i j wy).2.1,.str (S (vL R i j wy).2.2.2)]:=by
 unfold aex vL placeOf;by_cases z:wy=0
 .subst z;let a1:=tY ((lineOf R i j ((0:Nat):Int)).take j);rw[av]at a1;rw[if_pos rfl];show [V.int (i:Int),V.int ((j:Int)-_),_]=[V.int (i:Int),V.int ((j-_:Nat):Int),_]
  rw[Int.ofNat_sub qk];rfl
 .have:wy=1:=by lia
  subst this;let a1:=tY ((lineOf R i j ((1:Nat):Int)).take i);rw[av]at a1;rw[if_neg qr];show [V.int ((i:Int)-_),V.int (j:Int),_]=[V.int ((i-_:Nat):Int),V.int (j:Int),_]
  rw[Int.ofNat_sub qk];rfl
def J4 (C:Addr):Sp:=λvs H Q _=>∃(b t:Addr) (as:List Addr) (ts:List cu) (r w:Nat) (aD aV:AA) (bi bj:Nat),vs=[.ref b,.ref t]/\dN C H b r w aD aV bi bj/\H t=some (.tup (as.map V.ref))/\fW H as ts/\(∀t∈ts,inB r w t)/\0<ts.length/\ts.length<=7/\Iz ts/\
 ∀(T:Addr) (bs:List Addr) (H':Hp),aB H H'->H' T=some (.tup (bs.map V.ref))->QL H' bs (k_ aD ts)->Q (.ref T) H'
def acQ {C f1 f2:Addr}{fB fd2:FuncData}(D:aO K mg "formed" Dg fx)(bH:mg "len"=none)(cX:mg "tuple"=none)(cM:iJ K C)(mF:Meth K C "laid" f1)(mG:cU P w K mg base eV 8 f1 fB pu (FZ C))(mH:cD K fB pu [])(Yb:Meth K C "run" f2)(Yc:cU P w K mg base eV 2 f2 fd2 rl (afJ C))(Yd:cD K fd2 rl [])(Aw:cA P w K mg base "is_across" 1 jj Va):cA P w K mg base "formed" 10 fx (J4 C):=by
 calc D.d8 nF (λf bV A outer s H vs Q E hr h=>?_);let⟨b,t,as,ts,r,w,aD,aV,bi,bj,rfl,BA,ht,hL,fZ,h0,h7,hl,q⟩:=h;let⟨dx,_,_,_,ex,_⟩:=id BA.ex;let r9:=BA.ok.r9;let w9:=BA.ok.w9;let hal:=hL.len;let qL:=acM ts;calc(aG _ (au (aW (i:=2) nF.nd rL (Or.inl rL) (qT aH cM.cl mF mG hr.mono mH .nil gM (aj bh ak))) (au (f9 (aW (i:=3) nF.nd rL (Or.inr rL) (pJ (fJ (bQ Aw hr.mono rL (aj bh ak))) aq aq))) (au (aW (i:=4) nF.nd rL (Or.inl rL) (g_ (aj (bF (aj (aZ bI (aZ bI bh aq (λ_ _=>rfl)) aq (λ_ _=>rfl)) (aj (aZ bI (aZ bI bh aq (λ_ _=>rfl)) aq (λ_ _=>rfl)) (aj bU ak)))) ak))) (au (eG (gG ce PySem.F.slot_list_extend PySem.F.type_list_extend ab2 cQ (aj (lY (ns:=rh) rL (kh.of [tJ,tN,"after","way","asked",".5",".6","words","along","run"] [5,6] qB) (jh bh) (λ_ _ _ _ _=>(qU K rL (show (["row",tF,tP,tJ,tN,"after","way","asked",".5",".6","words","along","run"]:List Str).Nodup by decide +kernel) rL rL rL qA qA qA)) (λ_ _ _ _ _=>fO) (λ_ _ _ _ _=>(bF (aj aH (aj bh (aj (aJ ni aq fU) ak)))))) ak))) (au (aW (i:=7) nF.nd rL (Or.inl rL) (g_ ak)) (au (h_ di rL (oK cQ) (qF rL (cJ (bY (i:=5) nF.nd rL (Or.inl rL)) (cJ (bY (i:=6) nF.nd rL (Or.inl rL)) (cJ (bY (i:=8) nF.nd rL (Or.inl rL)) oU)))) (au (aW (i:=9) nF.nd rL (Or.inl rL) (qT bG cM.cl Yb Yc hr.mono Yd .nil gM (aj dD (aj fU (aj mQ ak))))) (aF (cG (bT Ie (aP dw qA bH ay (aj (aZ bI lq aq (λ_ _=>rfl)) ak)) aq (bO _)) (aF (eG (gG ce dL dP kO gY (aj (bF (aj (aZ bI lq aq (λ_ _=>rfl)) (aj (aZ bI lq aq (λ_ _=>rfl)) (aj mQ (aj (aZ bI lq aq (λ_ _=>rfl)) ak))))) ak)))) bR)))) (aF (bC (fY jB qA cX c9 (aj gY ak)))))))))) ?_);calc(dJ b dx _ rL ex rL (Fw b t as ts r w aD aV bi bj rL BA ht hL fZ (λx1 H1 s1 B1=>?_)));let hb':=tL BA.ok.br fZ;generalize hR:fX aD ts=R at B1 hb';refine(aG (λσ H'=>aB H1 H'/\σ=[some (.ref b),some (.ref t),some (.ref x1),some (.int (pB ts)),none,none,none,none,none,none]) ?_ ?_)
 .calc(Il t as ts rL (s1 _ _ ht) (hL.mv s1) h0 h7 hl (λH2 s2=>(bf _ rL ?_)));by_cases z:pB ts=0
  .rw[ai z];calc cH ⟨s2,?_⟩;rw[z];rfl
  .rw[af z];calc cI ⟨s2,?_⟩;rw[show pB ts=1 by lia];rfl
 rintro σ H2 ⟨s2,rfl⟩;let s12:=s1.trans s2;let hL2:=hL.mv s12;let Jx:=s12 _ _ ht;let⟨g0,e0⟩:=lg hL2 h0;calc(aY t _ _ (.ref as[0]) rL rL (aQ.of Jx) (aM (j:=0) (by simp[g0])) (aY (as[0]) _ _ _ rL rL (aQ.of e0) (aM (j:=0) rL) (aY t _ _ (.ref as[0]) rL rL (aQ.of Jx) (aM (j:=0) (by simp[g0])) (gb (as[0]) _ _ _ rL rL (aQ.of e0) (aM (j:=1) rL) (zsz 3) (λF ht1=>⟨zsz 1,λG hA0=>?_⟩)))));let k3:aB H2 (upd H2 F (HO.tup [.int ts[0].1,.int ts[0].2.1,.int (pB ts)])):=aB.upd ht1;let k4:=k3.eE (o:=HO.lst [.ref F]) (k3.free hA0);let hA0':=k3.free hA0;let n1A:F≠G:=λz=>by rw[<-z,aA]at hA0;cases hA0
 let e1:upd (upd H2 F (HO.tup [.int ts[0].1,.int ts[0].2.1,.int (pB ts)])) G (HO.lst [.ref F]) F=some (.tup [.int ts[0].1,.int ts[0].2.1,.int (pB ts)]):=by rw[bw n1A,aA]
 let eA:upd (upd H2 F (HO.tup [.int ts[0].1,.int ts[0].2.1,.int (pB ts)])) G (HO.lst [.ref F]) G=some (.lst [.ref F]):=aA;generalize upd (upd H2 F (HO.tup [.int ts[0].1,.int ts[0].2.1,.int (pB ts)])) G (HO.lst [.ref F])=H4 at k4 e1 eA ⊢;let ht4:=k4 _ _ Jx;let B_:=hL2.mv k4;let e1l:(1:Int)-(pB ts:Int)=((1-pB ts:Nat):Int):=qk;refine⟨.inl ⟨rL,_,bM.of eA⟩,bJ t rL ⟨_,aQ.of ht4⟩ (λN hN=>lR (K:=K) (KT:=K) (a:=t) (f:=kE [5,6] 0) (tt:=nY) (xs:=as.map V.ref) (λn ys I=>∃cs:List Addr,ys=cs.map V.ref/\cs.length=n/\I N=some (.lst ys)/\aB H4 I/\AL3 I cs ((ts.take n).map λt=>(t.1,t.2.1,1-pB ts)))
  (nu [] rL rL aA (aB.upd hN) jF.nil) (λn ys I _ h=>by let⟨_,_,_,_,J,_⟩:=h;show aQ.of (J _ _ ht4)) ?_ ?_)⟩
 .intro n x ys I hx z;let⟨cs,rfl,Y,uM,rJ,M4⟩:=z;let⟨hn,hx⟩:=rfg hx;let hnt:n<ts.length:=qk;let⟨_,en⟩:=lg (B_.mv rJ) hnt;calc yc hx.symm (aQ.of en) ?_;calc(aU _ _ rL rL (zsz 3) (λg hg=>?_));let kg:aB I (upd I g (HO.tup [.int ts[n].1,.int ts[n].2.1,.int (1-(pB ts:Int))])):=aB.upd hg;let hNg:=kg _ _ uM;calc(cj hNg (by rw[aa];show aN qk) (iV.mk (by rw[aa];show hn) (nu (cs++[g]) qo (by simp[Y]) (by rw[aA]) ((rJ.trans kg).eE hN) ?_)));rw[show ts.take (n+1)=ts.take n++[ts[n]] by rw[c8,ac hnt];rfl,bP];calc((M4.mv kg).app (jF.one (x:=(ts[n].1,ts[n].2.1,1-pB ts)) ?_)).Ju (aa6 hNg);rw[aA,e1l]
 intro ys I z;let⟨cs,rfl,Y,uM,rJ,M4⟩:=z;rw[aa]at Y;rw[aa,hal,cw]at M4;let eA5:=rJ _ _ eA;calc(gb G N _ _ rL rL eA5 uM (by rw[aa,Y];show ap (aN (by simp;lia))) ?_);let aeA:AL3 (upd I G (HO.lst ([V.ref F]++cs.map V.ref))) ([F]++cs) (Dn ts):=by
  let hone:AL3 I [F] ((ts.take 1).map λt=>(t.1,t.2.1,pB ts)):=by rw[List.take_one,List.head?_eq_getElem?,ac h0];show jF.one (x:=(ts[0].1,ts[0].2.1,pB ts)) (rJ _ _ e1)
  show(hone.app M4).Ju (aa6 eA5)
 let O:aB H1 (upd I G (HO.lst ([V.ref F]++cs.map V.ref))):=λa o e=>by have:=(k4.trans rJ) _ _ (s2 _ _ e);rw[bw (λz=>by rw[z]at e;have:=s2 _ _ e;rw[hA0']at this;cases this)];show this
 let Z:upd I G (HO.lst ([V.ref F]++cs.map V.ref)) G=some (.lst (([F]++cs).map V.ref)):=by rw[aA];simp
 generalize upd I G (HO.lst ([V.ref F]++cs.map V.ref))=H6 at aeA O Z ⊢;let aiE:=aeA.len;let hak:(Dn ts).length=1+ts.length:=by unfold Dn;rw[am,aa,aa,av];lia
 let alk:∀n (a:Nat×Nat×Nat),(Dn ts)[n]?=some a->a.1<r/\a.2.1<w/\a.2.2<=1:=λn a ha=>by
  rcases be.mp (bp ha) with z|z
  .let⟨u,hu,rfl⟩:=bd.mp z;have:=fZ u (cf hu);show(cj this.1 this.2.1 qL)
  .let⟨u,hu,rfl⟩:=bd.mp z;have:=fZ u hu;show(cj this.1 this.2.1 (by show 1-pB ts<=1;lia))
 calc⟨zsz 0,λW hW=>?_⟩;let hW0:=O.free hW;let nWA:G≠W:=λz=>by rw[<-z,Z]at hW;cases hW
 let kW:aB H6 (upd H6 W (HO.lst [])):=aB.upd hW;refine(bJ G rL ⟨_,bM.of (kW _ _ Z)⟩ (nR (K:=K) (a:=G) (xs:=([F]++cs).map V.ref) (λn σ H'=>∃(v6 v7 v8 v9:Option V) (bs:List Addr),σ=[some (.ref b),some (.ref t),some (.ref x1),some (.int (pB ts)),some (.ref G),v6,v7,some (.ref W),v8,v9]/\aB H6 H'/\H' W=some (.lst (bs.map V.ref))/\bs.length<=n/\QL H' bs ((((Dn ts).take n).map (qd R)).filter MP))
  (su none none none none [] rL kW aA (ax _) jF.nil) (λn σ H' _ h=>by let⟨_,_,_,_,_,_,J,_⟩:=h;show bM.of (J _ _ Z)) ?_ ?_))
 .intro n x σ H' hx z;let⟨v6,v7,v8,v9,bs,rfl,J,hWb,Ga,hQ⟩:=z;let hn:n<([F]++cs).length:=by have:=(ah.mp hx).1;simpa using this
  rw[ck,ac hn]at hx;let hx:V.ref ([F]++cs)[n]=x:=bq hx;subst hx;let⟨a,ea,hat⟩:=(aeA.mv J).get hn;let⟨c1,c2,c3⟩:=alk n a ea;let hn9:n<9:=by rw[aiE,hak]at hn;lia
  calc(aU (([F]++cs)[n]) _ rL (aQ.of hat) rL (dW _ _ rL (dW _ _ rL (aK _ _ rL rL ?_))));let B2:=B1.mv (O.trans J);let⟨dx1,_,_,_,Zh,_⟩:=id B2.ex;calc(dJ x1 dx1 _ rL Zh rL (Fw x1 r w R aV bi bj a.1 a.2.1 (a.2.2:Int) rL B2 c1 c2 qk (λt2 H7 s7 _ ht7=>?_)));rw[acP (r:=r) (w:=w) c3]at ht7;let dR:=J3 hb' r9 w9 c1 (j:=a.2.1) (wy:=a.2.2);let hS7:=aQ.of (K:=K) ht7;let aeB:=s7 _ _ hWb;calc(aY t2 _ _ _ rL rL hS7 (aM (j:=2) rL) (bJ _ rL (ap (aN qk)) (aK _ _ rL rL (bf _ rL ?_))));let afK:(Dn ts).take (n+1)=(Dn ts).take n++[a]:=by rw[c8,ea];rfl
  by_cases hc:MP (qd R a)=true
  .have:decide ((2:Int)<=((vL R a.1 a.2.1 a.2.2).2.2.2.length:Int))=true:=ai (by have:=dC hc;show (2:Int)<=((qd R a).2.2.2.length:Int);lia);rw[this];calc cH ⟨.inl ⟨rL,_,bM.of aeB⟩,aY t2 _ _ _ rL rL hS7 (aM (j:=0) rL) (aY t2 _ _ _ rL rL hS7 (aM (j:=1) rL) (gb t2 _ _ _ rL rL hS7 (aM (j:=2) rL) (zsz 4) (λg hg=>?_)))⟩;let kg:aB H7 (upd H7 g (HO.tup [.int (vL R a.1 a.2.1 a.2.2).1,.int (vL R a.1 a.2.1 a.2.2).2.1,.int a.2.2,.str (S (vL R a.1 a.2.1 a.2.2).2.2.2)])):=aB.upd hg;let hWg:=kg _ _ aeB;calc(gH W _ _ rL rL hWg (by rw[aa];show aN qk) ?_);calc(su _ _ _ _ (bs++[g]) rL (((J.trans s7).trans kg).eE hW) (by rw[aA];simp) (by simp;lia) ?_);rw[afK,bP,og];let e2:([a].map (qd R)).filter MP=[qd R a]:=by simp[hc]
   rw[e2];show(((hQ.mv s7).mv kg).app (jF.one (x:=qd R a) aA)).Ju (aa6 hWg)
  .have:decide ((2:Int)<=((vL R a.1 a.2.1 a.2.2).2.2.2.length:Int))=false:=af (λz=>hc (ai (by let z:(2:Int)<=((qd R a).2.2.2.length:Int):=z;lia)));rw[this];calc cI (su _ _ _ _ bs rL (J.trans s7) aeB qk ?_);rw[afK,bP,og];let e2:([a].map (qd R)).filter MP=[]:=by simp[hc]
   rw[e2,e_];show hQ.mv s7
 .intro σ H' z;let⟨v6,v7,v8,v9,bs,rfl,J,hWb,Ga,hQ⟩:=z;rw[aa,aiE,cw]at hQ;calc(dW W _ rL (.inl ⟨bM.of hWb,λT hT=>?_⟩));let k:aB H' (upd H' T (HO.tup (bs.map V.ref))):=aB.upd hT;calc q T bs _ (((s1.trans O).trans J).trans k) aA ?_;unfold k_;rw[hR];show hQ.mv k
def Ax (K:W.Frag)(T:String)(H:Hp)(x:V):Prop:=∃t,oM K H x t/\W.kitOne K t (.type T)=some false
def oM.mv {K:W.Frag}{H H':Hp}{x:V}{t:Value}(h:oM K H x t)(s:aB H H'):oM K H' x t:=by
 cases h with| non=>show .non| bl b=>show .bl b| int i=>show .int i| str x=>show .str x| flt x=>show .flt x| lst e=>show .lst (s _ _ e)| rO e=>show .rO (s _ _ e)| tup e=>show .tup (s _ _ e)| dK e=>show .dK (s _ _ e)| dT e=>show .dT (s _ _ e)| ins e a b c d f=>show .ins (s _ _ e) a b c d f
def Ax.mv {K:W.Frag}{T:String}{H H':Hp}{x:V}(h:Ax K T H x)(s:aB H H'):Ax K T H' x:=let ⟨t,a,b⟩:=h;(aG t (oM.mv a s) b)
def J5 (K:W.Frag):Sp:=λvs H Q _=>(∃i:Int,vs=[.int i]/\Q (.bl true) H)\/(∃b:Bool,vs=[.bl b]/\Q (.bl false) H)\/∃x,vs=[x]/\Ax K "int" H x/\Q (.bl false) H
def Ve (D:aO K mg "is_whole" uz ey)(G:mg "int"=none)(F:mg "bool"=none)(j:mg "isinstance"=none):cA P w K mg base "is_whole" 1 ey (J5 K):=by
 refine D.d8 Js (λf bV A outer s H vs Q E hr h=>?_) (λvs H Q E h=>?_)
 .calc(aG _ (aF (bC (lO (aP iG qA j a9 (aj aH (aj (lV (v:=.ty "int") qA G kz rL) ak))) (kI (abS (aP iG qA j a9 (aj aH (aj (lV (v:=.ty "bool") qA F mh rL) ak)))))))) ?_);rcases h with⟨i,rfl,q⟩|⟨b,rfl,q⟩|⟨x,rfl,⟨t,ty,k⟩,q⟩;.show(gO _ _ _ true rL (.int _) qB (cH (gO _ _ _ false rL (.int _) qB q)))
  .show(gO _ _ _ true rL (.bl _) qB (cH (gO _ _ _ true rL (.bl _) qB q)))
  .show(gO _ _ _ false rL ty k (cI q))
 .rcases h with⟨i,rfl,_⟩|⟨i,rfl,_⟩|⟨i,rfl,_⟩ <;> rfl
def all_map {α:Type}(l:List α)(f:α->Bool):((l.map f).all id)=l.all f:=by induction l with|nil=>rfl|cons a l ih=>simp[ih]
def take_snoc {α β:Type}{l:List α}{i:Nat}{a:α}(h:l[i]?=some a)(f:α->β):(l.take (i+1)).map f=(l.take i).map f++[f a]:=by rw[c8,h,bP];rfl
inductive Et (K:W.Frag) (H:Hp):V->Option Int->Prop
 | int (i:Int):Et K H (.int i) (some i)
 | bl (b:Bool):Et K H (.bl b) none
 | no {x:V} (h:Ax K "int" H x):Et K H x none
def Et.mv {H H':Hp}{x:V}{o:Option Int}(h:Et K H x o)(s:aB H H'):Et K H' x o:=by
 cases h with| int i=>show .int i| bl b=>show .bl b| no h=>show .no (h.mv s)
def rm (r w:Nat)(oi oj:Option Int):Bool:=match oi,oj with|some i,some j=>decide (0<=i/\i<r/\0<=j/\j<w)|_,_=>false
def Zi (K:W.Frag):Sp:=λvs H Q _=>∃(p:Addr) (ls:AA) (r w:Nat) (x y:V) (oi oj:Option Int),vs=[.ref p,x,y]/\H p=some (.tup (Ts ls))/\Blk r w ls/\1<=r/\r<=9/\w<=9/\Et K H x oi/\Et K H y oj/\Q (.bl (rm r w oi oj)) H
def Et.sp {H:Hp}{x:V}{o:Option Int}{Q:VK}{E:XK}(h:Et K H x o)(q:Q (.bl o.isSome) H):J5 K [x] H Q E:=by
 cases h with| int i=>show .inl (aG i rL q)| bl b=>show .inr (.inl (aG b rL q))| no h=>show .inr (.inr (bJ x rL h q))
def O2 (D:aO K mg "is_cell_of" qI oo)(G:mg "len"=none)(I:cA P w K mg base "is_whole" 1 ey (J5 K)):cA P w K mg base "is_cell_of" 2 oo (Zi K):=by
 calc D.d8 Er (λf bV A outer s H vs Q E hr h=>?_);let⟨p,ls,r,w,x,y,oi,oj,rfl,hp,hb,r1,r9,w9,hx,hy,q⟩:=h;let J:(Ts ls).length=r:=by rw[aa,hb.len]
 let h0:0<ls.length:=by rw[hb.len];lia
 let F:ls[0].length=w:=hb.uK _ (ba _);calc(aG _ (au (cG (QW.qt (pI (gU (fJ (bQ I hr.mono rL (aj bh ak)))) (m8 (gU (fJ (bQ I hr.mono rL (aj bG ak))))))) (aF (bC jr)) bR) (aF (bC (lO (nU rZ uo aq bh (aP b_ qA G ay (aj aH ak))) (kI (nU rZ uo aq bG (aP dw qA G ay (aj (aZ bI aH aq (λ_ _=>rfl)) ak)))))))) ?_);cases hx with
 | bl b=>show .inr (.inl (aG b rL (cH q)))
 | no h=>show .inr (.inr (bJ _ rL h (cH q)))
 | int i=>
  calc .inl (aG i rL (cI ?_));cases hy with
  | bl b=>show .inr (.inl (aG b rL (cH q)))
  | no h=>show .inr (.inr (bJ _ rL h (cH q)))
  | int j=>
   calc .inl (aG j rL ?_);calc cI ?_;let q:Q (.bl (decide (0<=i/\i<(r:Int)/\0<=j/\j<(w:Int)))) H:=q;calc(aK _ _ rL rL (bf _ rL ?_));by_cases h1:0<=i
   .rw[ai h1];calc cH (aK p _ rL (.inr (aQ.of hp)) (aK _ _ rL rL (bf _ rL ?_)));rw[J];by_cases h2:i<(r:Int)
    .rw[ai h2];calc cH (aK _ _ rL rL (bf _ rL ?_));by_cases h3:0<=j
     .rw[ai h3];calc cH (aY p _ _ (.str (S ls[0])) rL rL (aQ.of hp) (aM (j:=0) (lE (by simp[h0]))) (bJ _ rL (ap (aN qk)) (aK _ _ rL rL ?_)));rw[F];simpa [h1,h2,h3] using q
     .rw[af h3];calc cI ?_;simpa [h1,h2,h3] using q
    .rw[af h2];calc cI ?_;simpa [h1,h2] using q
   .rw[af h1];calc cI ?_;show Q (.bl false) H;simpa [h1] using q
inductive Zj (K:W.Frag) (H:Hp):V->Option (List Nat)->Prop
 | no {x:V} (h:afH K H x):Zj K H x none
 | str (l:List Nat) (h:l.length<=1000):Zj K H (.str (S l)) (some l)
def Zj.mv {H H':Hp}{x:V}{o:Option (List Nat)}(h:Zj K H x o)(s:aB H H'):Zj K H' x o:=by
 cases h with| no h=>show .no (let ⟨t,a,b⟩:=h;(aG t (oM.mv a s) b))| str l h=>show .str l h
abbrev tZ:=Option (Option Int×Option Int×Option (List Nat))
inductive zZ (K:W.Frag) (H:Hp):V->tZ->Prop
 | no {x:V} (h:Ax K "tuple" H x):zZ K H x none
 | bad {b:Addr} {xs:List V} (h:H b=some (.tup xs)) (hl:xs.length≠3):zZ K H (.ref b) none
 | tri {b:Addr} {x y z:V} {oi oj:Option Int} {ol:Option (List Nat)} (h:H b=some (.tup [x,y,z])) (hx:Et K H x oi) (hy:Et K H y oj) (hz:Zj K H z ol):zZ K H (.ref b) (some (oi,oj,ol))
def zZ.mv {H H':Hp}{x:V}{o:tZ}(h:zZ K H x o)(s:aB H H'):zZ K H' x o:=by
 cases h with| no h=>show .no (h.mv s)| bad h hl=>show .bad (s _ _ h) hl| tri h hx hy hz=>show .tri (s _ _ h) (hx.mv s) (hy.mv s) (hz.mv s)
def Gb (ol:Option (List Nat)):Bool:=match ol with|none=>false|some l=>uJ l
def mU (r w:Nat)(o:tZ):Bool:=match o with|none=>false|some (oi,oj,ol)=>rm r w oi oj&&Gb ol
def Rh (K:W.Frag)(C:Addr):Sp:=λvs H Q _=>∃(b:Addr) (x:V) (o:tZ) (r w:Nat) (aD aV:AA) (bi bj:Nat),vs=[.ref b,x]/\dN C H b r w aD aV bi bj/\zZ K H x o/\Q (.bl (mU r w o)) H
def Vf {C:Addr}(D:aO K mg "is_triple" wC re)(J:mg "len"=none)(I:mg "tuple"=none)(bK:mg "isinstance"=none)(T:iJ K C)(qM:cA P w K mg base "is_cell_of" 2 oo (Zi K))(FW:cA P w K mg base "is_sign" 1 ey (U6 K)):cA P w K mg base "is_triple" 3 re (Rh K C):=by
 calc D.d8 U0 (λf bV A outer s H vs Q E hr h=>?_);let⟨b,x,o,r,w,aD,aV,bi,bj,rfl,BA,Z,q⟩:=h;obtain⟨⟨dx,pr,pm,pb,hb,F,Y,O⟩,B⟩:=BA;calc(aG _ (au (cG (QW.qt (pI (gU (fJ (aP iG qA bK a9 (aj bh (aj (lV (v:=.ty "tuple") qA I c9 rL) ak))))) (m8 (bT CN (aP b_ qA J ay (aj bh ak)) aq (bO _))))) (aF (bC jr)) bR) (aF (bC (lO (bQ qM hr.mono rL (aj (cF aH rL) (aj (aZ bI bh aq (λ_ _=>rfl)) (aj (aZ bI bh aq (λ_ _=>rfl)) ak)))) (kI (bQ FW hr.mono rL (aj (aZ bI bh aq (λ_ _=>rfl)) ak))))))) ?_);cases Z with
 | no h=>let⟨t,ty,k⟩:=h;show(gO _ _ _ false rL ty k (cH (cH q)))
 | @bad a xs h hl=>calc(gO _ _ _ true rL (.tup h) qB (cI (aU a _ rL (.inr (aQ.of h)) rL (bf _ rL ?_))));rw[af (show ¬V.int (xs.length:Nat)=V.int 3 from λz=>hl (by injection z with z;lia))];show cH q
 | @tri a x y z oi oj ol h hx hy hz=>
  calc(gO _ _ _ true rL (.tup h) qB (cI (aU a _ rL (.inr (aQ.of h)) rL (Ls rL ?_))));calc(cR b C dx _ _ rL hb T.cl T.nr rL (aY a _ _ x rL rL (aQ.of h) (aM (j:=0) rL) (aY a _ _ y rL rL (aQ.of h) (aM (j:=1) rL) ⟨pr,aD,r,w,x,y,oi,oj,rL,F,B.br,B.r1,B.r9,B.w9,hx,hy,bf _ rL ?_⟩)));let q:Q (.bl (rm r w oi oj&&Gb ol)) H:=q;cases G:rm r w oi oj with
  | false=>rw[G]at q;show cI q
  | true=>
   rw[G]at q;calc cH (aY a _ _ z rL rL (aQ.of h) (aM (j:=2) rL) ?_);dsimp only[TV,Ig];cases hz with| no h=>show .inl (bJ z rL h q)| str l hl=>show .inr (bJ l rL hl q)
abbrev PL2:=jF (λq:Nat×Nat=>[V.int q.1,V.int q.2])
def z9:Sp:=λvs H Q _=>∃(t:Addr) (as:List Addr) (ts:List cu),vs=[.ref t]/\H t=some (.tup (as.map V.ref))/\fW H as ts/\ts.length<=100/\
 ∀(L:Addr) (cs:List Addr) (H':Hp),aB H H'->H' L=some (.lst (cs.map V.ref))->PL2 H' cs (ts.map λt=>(t.1,t.2.1))->Q (.ref L) H'
def Ye (D:aO K mg "cells_of" yr jj):cA P w K mg base "cells_of" 1 jj z9:=by
 calc D.d8 XQ (λf bV A outer s H vs Q E hr h=>?_);let⟨t,as,ts,rfl,ht,hL,h7,q⟩:=h;let Z:=hL.len;calc(aG _ (aF (bC (lY (ns:=rh) rL (kh.of jj [] qB) (jh aH) (λ_ _ _ _ _=>(qU K rL (show (sd:List Str).Nodup by decide +kernel) rL rL rL qA qA qA)) (λ_ _ _ _ _=>fO) (λ_ _ _ _ _=>(bF (aj aH (aj bh ak))))))) ?_);refine(bJ t rL ⟨_,aQ.of ht⟩ (λN hN=>lR (K:=K) (KT:=K) (a:=t) (f:=kE [] 0) (tt:=nY) (xs:=as.map V.ref) (λn ys j=>∃cs:List Addr,ys=cs.map V.ref/\cs.length=n/\j N=some (.lst ys)/\aB H j/\PL2 j cs ((ts.take n).map λt=>(t.1,t.2.1)))
  (nu [] rL rL aA (aB.upd hN) jF.nil) (λn ys j _ h=>by let⟨_,_,_,_,sm,_⟩:=h;show aQ.of (sm _ _ ht)) ?_ ?_))
 .intro n x ys j hx z;let⟨cs,rfl,F,uM,J,O⟩:=z;let⟨hn,hx⟩:=rfg hx;let I:n<ts.length:=qk;let⟨_,en⟩:=lg (hL.mv J) I;calc yc hx.symm (aQ.of en) ?_;calc⟨zsz 2,λg hg=>?_⟩;let Y:aB j (upd j g (HO.tup [.int ts[n].1,.int ts[n].2.1])):=aB.upd hg;let G:=Y _ _ uM;calc(cj G (by rw[aa];show aN qk) (iV.mk (by rw[aa];show hn) (nu (cs++[g]) qo (by simp[F]) (by rw[aA]) ((J.trans Y).eE hN) ?_)));rw[show ts.take (n+1)=ts.take n++[ts[n]] by rw[c8,ac I];rfl,bP];show((O.mv Y).app (jF.one (x:=(ts[n].1,ts[n].2.1)) aA)).Ju (aa6 G)
 .intro ys j z;let⟨cs,rfl,F,uM,J,O⟩:=z;rw[aa,Z,cw]at O;show q N cs j J uM O
structure jR (K:W.Frag)(H:Hp)(xs:List V)(os:List tZ):Prop where
 len:xs.length=os.length
 at_:∀(i:Nat) (x:V) (o:tZ),xs[i]?=some x->os[i]?=some o->zZ K H x o
def jR.mv {H H':Hp}{xs:List V}{os:List tZ}(h:jR K H xs os)(s:aB H H'):jR K H' xs os:=⟨h.len,λi x o a b=>(h.at_ i x o a b).mv s⟩
inductive M5 (K:W.Frag) (H:Hp):V->Option (List tZ)->Prop
 | no {x:V} (h:Ax K "tuple" H x):M5 K H x none
 | tup {p:Addr} {xs:List V} {os:List tZ} (h:H p=some (.tup xs)) (hp:jR K H xs os) (h1:os.length<=100):M5 K H (.ref p) (some os)
def M5.mv {H H':Hp}{x:V}{o:Option (List tZ)}(h:M5 K H x o)(s:aB H H'):M5 K H' x o:=by
 cases h with| no h=>show .no (h.mv s)| tup h hp h1=>show .tup (s _ _ h) (hp.mv s) h1
def mkT (t:cu):tZ:=some (some (t.1:Int),some (t.2.1:Int),some [t.2.2])
def wK (o:tZ):Nat×Nat:=match o with|some (some i,some j,_)=>(i.toNat,j.toNat)|_=>(0,0)
def ltQ (p:(Nat×Nat)×(Nat×Nat)):Bool:=decide (p.1.1*1000+p.1.2<p.2.1*1000+p.2.2)
def gP (cs:List (Nat×Nat)):Bool:=(cs.zip (cs.drop 1)).all ltQ
noncomputable def layB (r w:Nat)(o:Option (List tZ)):Bool:=match o with|none=>false|some os=>decide (1<=os.length/\os.length<=7)&&os.all (mU r w)&&gP (os.map wK)
def Vg (ts:List cu):(ts.map mkT).map wK=ts.map λt=>(t.1,t.2.1):=by rw[gc];show fR λt _=>rfl
def aeC {r w:Nat}{o:tZ}(h:mU r w o=true):∃t:cu,o=mkT t/\inB r w t:=by
 match o with
 | none=>cases h
 | some (oi,oj,ol)=>
  unfold mU at h;simp only[cp]at h;let⟨h1,h2⟩:=h
  match oi,oj,ol with
  | none,_,_=>cases h1
  | some i,none,_=>cases h1
  | some i,some j,none=>cases h2
  | some i,some j,some l=>
   let h1:=dC h1;let h2:uJ l=true:=h2
   match l with
   | []=>cases h2
   | [c]=>calc(aG (i.toNat,j.toNat,c) ?_ (cj (by show i.toNat<r;lia) (by show j.toNat<w;lia) h2));show some (some i,some j,some [c])=some (some ((i.toNat:Nat):Int),some ((j.toNat:Nat):Int),some [c]);rw[cy h1.1,cy h1.2.2.1]
   | _::_::_=>cases h2
def aeD {r w:Nat}{t:cu}(h:inB r w t):mU r w (mkT t)=true:=by unfold mU mkT rm Gb;let h1:=h.1;let h2:=h.2.1;simp only[cp];show⟨ai qk,h.2.2⟩
theorem Ri {r w:Nat}:∀{os:List tZ},os.all (mU r w)=true->∃ts:List cu,os=ts.map mkT/\∀t∈ts,inB r w t
 | [],_=>(aG [] rL (λt h=>by simp at h))
 | o::os,h=>by
  rw[List.all_cons,cp]at h;let⟨ts,e,k⟩:=Ri h.2;let⟨t,e2,k2⟩:=aeC h.1;show(aG (t::ts) (by rw[e,e2];rfl) (λu j=>by
   rcases bX.mp j with z|z;.rw[z];show k2
   .show k u z))
def zZ.akh {H:Hp}{x:V}{t:cu}(h:zZ K H x (mkT t)):∃b,x=.ref b/\rT H b t:=by
 generalize j:mkT t=o at h;cases h with
 | no _=>cases j
 | bad _ _=>cases j
 | @tri b x y z oi oj ol h hx hy hz=>have j:=bq j;injection j with e1 e2;injection e2 with e2 e3;subst e1 e2 e3;cases hx;cases hy;cases hz;show(aG b rL h)
theorem jR.lay {H:Hp}:∀{ts:List cu} {xs:List V},jR K H xs (ts.map mkT)->∃as:List Addr,xs=as.map V.ref/\fW H as ts
 | [],[],_=>(aG [] rL fW.nil)
 | [],_::_,h=>by have:=h.len;simp at this
 | _::_,[],h=>by have:=h.len;simp at this
 | t::ts,x::xs,h=>by
  let⟨b,rfl,hb⟩:=(h.at_ 0 x (mkT t) rL rL).akh;let⟨as,e,j⟩:=jR.lay (ts:=ts) (xs:=xs) ⟨by have:=h.len;simpa using this,λi x o a c=>h.at_ (i+1) x o a c⟩;refine(aG (b::as) (by rw[e];rfl) ⟨λa ha=>?_,?_⟩)
  .rcases bX.mp ha with z|z;.rw[z,MF hb];show hb
   .show j.at_ a z
  .rw[cq,j.eq,MF hb]
def zZ.mk {H:Hp}{b:Addr}{t:cu}(h:rT H b t):zZ K H (.ref b) (mkT t):=.tri h (.int _) (.int _) (.str _ (by show 1<=1000;decide))
def jR.of_lay {H:Hp}{as:List Addr}{ts:List cu}(h:fW H as ts):jR K H (as.map V.ref) (ts.map mkT):=by calc⟨by rw[aa,aa,h.len],λi x o hx j=>?_⟩;rw[ck]at hx j;let⟨a,ha,rfl⟩:=dv.mp hx;let⟨t,ht,rfl⟩:=dv.mp j;let hi:i<as.length:=(ah.mp ha).1;let⟨u,D,F⟩:=h.get hi;rw[ht]at D;rw[bq D];rw[ac hi]at ha;rw[<-bq ha];show zZ.mk F
def acR (K:W.Frag)(C:Addr):Sp:=λvs H Q _=>∃(b:Addr) (x:V) (o:Option (List tZ)) (r w:Nat) (aD aV:AA) (bi bj:Nat),vs=[.ref b,x]/\dN C H b r w aD aV bi bj/\M5 K H x o/\∀H',aB H H'->Q (.bl (layB r w o)) H'
def Vh {C:Addr}(D:aO K mg "is_laying" wD re)(bH:mg "len"=none)(cX:mg "tuple"=none)(bK:mg "isinstance"=none)(gZ:mg "all"=none)(M6:mg "zip"=none)(qN:∃t,mg "MOST_TILES"=some (.int 7 t))(Yg:cA P w K mg base "is_triple" 3 re (Rh K C))(uN:cA P w K mg base "cells_of" 1 jj z9):cA P w K mg base "is_laying" 4 re (acR K C):=by
 calc D.d8 yU (λf bV A outer s H vs Q E hr h=>?_);let⟨b,x,o,r,w,aD,aV,bi,bj,rfl,BA,hT,q⟩:=h;let w9:=BA.ok.w9;calc(aG _ (au (cG (QW.qt (pI (gU (fJ (aP iG qA bK a9 (aj bh (aj (lV (v:=.ty "tuple") qA cX c9 rL) ak))))) (m8 (gU (CP rZ rZ aq (aP b_ qA bH ay (aj bh ak)) (aaG qA qN)))))) (aF (bC jr)) bR) (au (cG (gU (fJ (aP (lK rL) qA gZ kZ (aj (jY rL (jW.of yU.nd qB) (jh bh) (λ_ _ _ _ _=>fO) (λ_ _ _ _ _=>(bQ Yg hr.mono rL (aj bh (aj aH ak))))) ak)))) (aF (bC jr)) bR) (au (aW (i:=2) yU.nd rL (Or.inl rL) (bQ uN hr.mono rL (aj bh ak))) (aF (bC (aP (lK rL) qA gZ kZ (aj (lY (ns:=["cell","later"]) rL (kh.of [tJ,"thing","cells"] [] qB) (agp qA M6 (aj bG (aj (dj oN bG (dM aq) eO) ak))) (λ_ _ _ _ _=>(agc K rL (show (["cell","later",tJ,"thing","cells"]:List Str).Nodup by decide +kernel) rL rL qA qA)) (λ_ _ _ _ _=>fO) (λ_ _ _ _ _=>(gq (ais hr.ahS) aH bh (bO _)))) ak))))))) ?_);cases hT with
 | no h=>let⟨t,ty,k⟩:=h;show(gO _ _ _ false rL ty k (cH (cH (q H (aB.refl _)))))
 | @tup p xs os hp hP h100=>
  let dR:=hP.len;calc(gO _ _ _ true rL (.tup hp) qB (cI ?_));let F:¬layB r w (some os)=true->∀H',aB H H'->Q (.bl false) H':=λz H' s'=>by have:=q H' s';rw[Bool.not_eq_true _ |>.mp z]at this;show this
  calc(aK p _ rL (.inr (aQ.of hp)) (aK _ _ rL rL ?_));rw[dR];by_cases h1:1<=os.length
  .calc(bf true (by simp;lia) (cH (aK _ _ rL rL ?_)));by_cases h7:os.length<=7
   .calc(bf true (by simp;lia) (cI ?_));refine(bJ p rL ⟨_,aQ.of hp⟩ (λL hL=>tH (xs:=xs) (λi ys Z=>ys=((os.take i).map (mU r w)).map V.bl/\Z L=some (.lst ys)/\aB H Z) (cj rL aA (aB.upd hL)) (λi ys Z _ h=>aQ.of (h.2.2 _ _ hp)) ?_ ?_))
    .intro i x ys Z hi z;let⟨rfl,O,G⟩:=z;let hil:i<xs.length:=(ah.mp hi).1;let hio:i<os.length:=qk;let ho:=ac hio;calc⟨b,x,os[i],r,w,aD,aV,bi,bj,rL,BA.mv G,(hP.at_ i x _ hi ho).mv G,O,?_,iV.mk hil (cj ?_ aA (G.eE hL))⟩;.rw[aa,aa,av];show aN qk
     .rw[take_snoc ho,bP];rfl
    .intro ys Z z;let⟨rfl,O,G⟩:=z;calc(aK L _ rL (bM.of O) ?_);rw[dR,cw,all_map];calc(bf _ rL ?_);cases ha:os.all (mU r w) with
     | false=>show cH (F (by unfold layB;simp only;rw[ha];simp) Z G)
     | true=>
      calc cI ?_;let⟨ts,rfl,fZ⟩:=Ri ha;let⟨as,rfl,hLy⟩:=hP.lay;rw[aa]at h1 h7;calc(gH p as ts rL (G _ _ hp) (hLy.mv G) qk (λLc cs H3 s3 hLc hcs=>?_));let gQ:=G.trans s3;calc(aG _ rL (aK Lc _ rL (bM.of hLc) (λM hM=>?_)));let hcl:=hcs.len;rw[aa]at hcl;let eM:jy (cs.map V.ref) (some 1) none=(cs.drop 1).map V.ref:=by unfold jy;rw[show (some (1:Int))=some (((1:Nat):Int)) from rL,HT.mV,HT.vC,aa,fS (show 1<=cs.length by lia),cz (by rw[aS,aa];lia),mw]
      rw[eM];let sM:aB H3 (upd H3 M (HO.lst ((cs.drop 1).map V.ref))):=aB.upd hM;let Jy:upd H3 M (HO.lst ((cs.drop 1).map V.ref)) M=some (.lst ((cs.drop 1).map V.ref)):=aA;let I:=sM _ _ hLc;let O4:=hcs.mv sM;let i_:=gQ.trans sM;generalize upd H3 M (HO.lst ((cs.drop 1).map V.ref))=H4 at sM Jy I O4 i_ ⊢;generalize Y:(ts.map λt=>(t.1,t.2.1))=cc at O4;let alm:cc.length=cs.length:=by rw[<-Y,aa,hcl]
      let hw9:∀u∈cc,u.2<1000:=λu hu=>by rw[<-Y]at hu;let⟨t,ht,rfl⟩:=bd.mp hu;have:=(fZ t ht).2.1;show t.2.1<1000;lia
      let z_:(cc.zip (cc.drop 1)).length=cs.length-1:=by rw[List.length_zip,aS,alm];lia
      refine(aU Lc M rL ⟨_,bM.of I⟩ ⟨_,bM.of Jy⟩ (λN hN=>air (f:=kE [] 0) (K:=K) (KT:=K) (a:=Lc) (b:=M) (tt:=nY) (xs:=cs.map V.ref) (ys:=(cs.drop 1).map V.ref) (by rw[aa,aa,aS];lia)
       (λn zs j=>zs=(((cc.zip (cc.drop 1)).take n).map ltQ).map V.bl/\j N=some (.lst zs)/\aB H4 j)
       (cj rL aA (aB.upd hN)) (λn zs j _ h=>⟨bM.of (h.2.2 _ _ I),bM.of (h.2.2 _ _ Jy)⟩) ?_ ?_))
      .intro n x y zs j T hx hy z hT;let⟨rfl,uM,rJ⟩:=z;let kT:aB j (upd j T (HO.tup [x,y])):=aB.upd hT;rw[ck]at hx hy;let⟨a1,ha1,rfl⟩:=dv.mp hx;let⟨a2,J,rfl⟩:=dv.mp hy;rw[om]at J;let n1:n<cs.length:=(ah.mp ha1).1;let n2:1+n<cs.length:=(ah.mp J).1;let c1:cc[n]?=some cc[n]:=ac qk;let c2:cc[1+n]?=some cc[1+n]:=ac qk;let e1:=kT _ _ (rJ _ _ (O4.at_ n a1 _ ha1 c1));let e2:=kT _ _ (rJ _ _ (O4.at_ (1+n) a2 _ J c2));calc aj3 rL (aQ.of aA) ?_;calc⟨a1,a2,_,_,_,_,rL,rL,e1,e2,hw9 _ (ba _),hw9 _ (ba _),kT _ _ uM,?_,iV.mk (by rw[aa,aS];lia) (cj ?_ aA ((rJ.trans kT).eE hN))⟩;.rw[aa,aa,av];show aN qk
       .let ez:(cc.zip (cc.drop 1))[n]?=some (cc[n],cc[1+n]):=by
         rw[lj];show⟨c1,by rw[om];show c2⟩
        rw[take_snoc ez,bP];rfl
      .intro zs j z;let⟨rfl,uM,rJ⟩:=z;calc(aK N _ rL (bM.of uM) ?_);rw[cz (by rw[aa,aS,z_];lia),all_map];have:=q j (i_.trans rJ);let e:layB r w (some (ts.map mkT))=gP cc:=by
        unfold layB;simp only;rw[ha,Vg,Y,aa,ai (show 1<=ts.length/\ts.length<=7 from ⟨h1,h7⟩)];rfl
       rw[e]at this;show this
   .calc(bf false (by simp;lia) (cH ?_));show F (by unfold layB;simp;lia) H (aB.refl _)
  .calc(bf false (by simp;lia) (cI ?_));show F (by unfold layB;simp;lia) H (aB.refl _)
def agC {f C R:Addr}{fd:FuncData}(F:gJ K "__init__" "Taken.__init__" lZ f fd)(D:mg "RackError"=some (.ref R))(j:InitOf K R)(T:rN K mg "Taken" C f se):cU P w K mg base eV 1 f fd cO (Mf C "row" tF):=by calc F.d8 RN (λbV A outer s H vs Q E hr h=>?_);let⟨a,v,u,rfl,ha,q⟩:=h;calc(aG _ (au (eG (yd qA D j (aj aH (aj bh (aj bG ak))))) (au (yJ aH bh rL) (aF (yJ aH bG rL)))) ?_);calc(su a C f none [v,u] rL ha T.M.ini (zsz 2) ?_);show(gH a C none rL ha T.T (T.no _ qo) (.inl ⟨rL,λdx ne nd=>(gH a C (some dx) rL aA T.T (T.no _ qo) (.inr (aU dx _ rL (by rw[bw ne,aA]) (by show 1<50;decide) (q dx ne nd))))⟩))
def aiF {f C R:Addr}{fd:FuncData}(F:gJ K "__init__" "Gap.__init__" pN f fd)(D:mg "RackError"=some (.ref R))(j:InitOf K R)(T:rN K mg "Gap" C f se):cU P w K mg base eV 1 f fd cO (Mf C "row" tF):=by calc F.d8 XH (λbV A outer s H vs Q E hr h=>?_);let⟨a,v,u,rfl,ha,q⟩:=h;calc(aG _ (au (eG (yd qA D j (aj aH (aj bh (aj bG ak))))) (au (yJ aH bh rL) (aF (yJ aH bG rL)))) ?_);calc(su a C f none [v,u] rL ha T.M.ini (zsz 2) ?_);show(gH a C none rL ha T.T (T.no _ qo) (.inl ⟨rL,λdx ne nd=>(gH a C (some dx) rL aA T.T (T.no _ qo) (.inr (aU dx _ rL (by rw[bw ne,aA]) (by show 1<50;decide) (q dx ne nd))))⟩))
def Rj {H:Hp}{a dx:Addr}{o p q p2:HO}(na:H a=none)(ne:dx≠a)(nd:upd H a o dx=none):upd (upd (upd (upd H a o) dx p) a q) dx p2 a=some q/\aB H (drop (upd (upd (upd (upd H a o) dx p) a q) dx p2) a)/\drop (upd (upd (upd (upd H a o) dx p) a q) dx p2) a dx=some p2:=by
 rw[bw ne]at nd;refine(cj (by rw[bw ne.symm,aA]) (λb u e=>?_) ?_)
 .let h1:b≠a:=bL e na;let h2:b≠dx:=bL e nd;rw[lB h1,bw h2,bw h1,bw h2,bw h1];show e
 .rw[lB ne,aA]
abbrev Zm (i j:Nat):List (Str×V):=jx tF (.int j) [("row",.int i)]
def Zn {α:Type}{p:α->Bool}{l:List α}{n:Nat}(hn:n<l.length)(h0:∀x∈l.take n,p x=false)(h1:p l[n]=true):l.find? p=some l[n]:=by
 let e:l=l.take n++l[n]::l.drop (n+1):=by rw[<-f8 hn,kA]
 let e2:(l.take n++l[n]::l.drop (n+1)).find? p=some l[n]:=by rw[List.find?_append,List.find?_eq_none.mpr λx hx=>by rw[h0 x hx];decide,Option.none_or,List.find?_cons_of_pos h1]
 rw[<-e]at e2;show e2
def Zo {α:Type}{p:α->Bool}{l:List α}(h0:∀x∈l,p x=false):l.find? p=none:=List.find?_eq_none.mpr λx hx=>by rw[h0 x hx];decide
def aiG (a b:Nat):decide (V.int (a:Int)=V.int (b:Int))=decide (a=b):=by
 by_cases h:a=b;.subst h;simp
 .have:¬V.int (a:Int)=V.int (b:Int):=λz=>h (by injection z with z;show oz z)
  simp[h,this]
def vM (ts:List cu):Bool:=ts.all λt=>decide (t.1=(ts.headD (0,0,0)).1)
def vN (ts:List cu):Bool:=ts.all λt=>decide (t.2.1=(ts.headD (0,0,0)).2.1)
def za {ts:List cu}(h:0<ts.length):ts.headD (0,0,0)=ts[0]:=by
 cases ts with| nil=>simp at h| cons a b=>rfl
def Rk:Sp:=λvs H Q _=>∃(t:Addr) (as:List Addr) (ts:List cu),vs=[.ref t]/\H t=some (.tup (as.map V.ref))/\fW H as ts/\0<ts.length/\ts.length<=7/\∀H',aB H H'->Q (.bl (vM ts)) H'
def Zq:Sp:=λvs H Q _=>∃(t:Addr) (as:List Addr) (ts:List cu),vs=[.ref t]/\H t=some (.tup (as.map V.ref))/\fW H as ts/\0<ts.length/\ts.length<=7/\∀H',aB H H'->Q (.bl (vN ts)) H'
def R4 (D:aO K mg "is_across" rR jj)(gZ:mg "all"=none):cA P w K mg base "is_across" 1 jj Rk:=by
 calc D.d8 Fz (λf bV A outer s H vs Q E hr h=>?_);let⟨t,as,ts,rfl,ht,J,h0,h7,q⟩:=h;let O:=J.len;let hh:=za h0;calc(aG _ (aF (bC (aP (lK rL) qA gZ kZ (aj (lY (ns:=rh) rL (kh.of jj [] qB) (jh aH) (λ_ _ _ _ _=>(qU K rL (show (sd:List Str).Nodup by decide +kernel) rL rL rL qA qA qA)) (λ_ _ _ _ _=>fO) (λ_ _ _ _ _=>(gq iC aH (aZ (lu K) (aZ (lu K) bU aq (λ_ _=>rfl)) aq (λ_ _=>rfl)) (bO _)))) ak)))) ?_);refine(bJ t rL ⟨_,aQ.of ht⟩ (λN Y=>lR (K:=K) (KT:=K) (a:=t) (f:=kE [] 0) (tt:=nY) (xs:=as.map V.ref) (λn ys G=>ys=((ts.take n).map λt=>decide (t.1=(ts.headD (0,0,0)).1)).map V.bl/\G N=some (.lst ys)/\aB H G)
  (cj rL aA (aB.upd Y)) (λn ys G _ h=>aQ.of (h.2.2 _ _ ht)) ?_ ?_))
 .intro n x ys G hx z;let⟨rfl,Z,F⟩:=z;let⟨hn,hx⟩:=rfg hx;let I:n<ts.length:=qk;let⟨_,en⟩:=lg (J.mv F) I;let⟨g0,e0⟩:=lg (J.mv F) h0;calc yc hx.symm (aQ.of en) ?_;calc(aY t _ _ (.ref as[0]) rL rL (aQ.of (F _ _ ht)) (aM (j:=0) (by simp[g0])) (lU (as[0]) _ _ _ rL rL (aQ.of e0) (aM (j:=0) rL) rL Z ?_ (iV.mk (by rw[aa];show hn) (cj ?_ aA (F.eE Y)))));.rw[aa,aa,av];show aN qk
  .rw[take_snoc (ac I),bP,hh,aiG];rfl
 .intro ys G z;let⟨rfl,Z,F⟩:=z;calc(aK N _ rL (bM.of Z) ?_);rw[aa,O,cw,all_map];show q G F
def aa7 (D:aO K mg "is_down" zP jj)(gZ:mg "all"=none):cA P w K mg base "is_down" 1 jj Zq:=by
 calc D.d8 aaV (λf bV A outer s H vs Q E hr h=>?_);let⟨t,as,ts,rfl,ht,J,h0,h7,q⟩:=h;let O:=J.len;let hh:=za h0;calc(aG _ (aF (bC (aP (lK rL) qA gZ kZ (aj (lY (ns:=rh) rL (kh.of jj [] qB) (jh aH) (λ_ _ _ _ _=>(qU K rL (show (sd:List Str).Nodup by decide +kernel) rL rL rL qA qA qA)) (λ_ _ _ _ _=>fO) (λ_ _ _ _ _=>(gq iC bh (aZ (lu K) (aZ (lu K) bU aq (λ_ _=>rfl)) aq (λ_ _=>rfl)) (bO _)))) ak)))) ?_);refine(bJ t rL ⟨_,aQ.of ht⟩ (λN Y=>lR (K:=K) (KT:=K) (a:=t) (f:=kE [] 0) (tt:=nY) (xs:=as.map V.ref) (λn ys G=>ys=((ts.take n).map λt=>decide (t.2.1=(ts.headD (0,0,0)).2.1)).map V.bl/\G N=some (.lst ys)/\aB H G)
  (cj rL aA (aB.upd Y)) (λn ys G _ h=>aQ.of (h.2.2 _ _ ht)) ?_ ?_))
 .intro n x ys G hx z;let⟨rfl,Z,F⟩:=z;let⟨hn,hx⟩:=rfg hx;let I:n<ts.length:=qk;let⟨_,en⟩:=lg (J.mv F) I;let⟨g0,e0⟩:=lg (J.mv F) h0;calc yc hx.symm (aQ.of en) ?_;calc(aY t _ _ (.ref as[0]) rL rL (aQ.of (F _ _ ht)) (aM (j:=0) (by simp[g0])) (lU (as[0]) _ _ _ rL rL (aQ.of e0) (aM (j:=1) rL) rL Z ?_ (iV.mk (by rw[aa];show hn) (cj ?_ aA (F.eE Y)))));.rw[aa,aa,av];show aN qk
  .rw[take_snoc (ac I),bP,hh,aiG];rfl
 .intro ys G z;let⟨rfl,Z,F⟩:=z;calc(aK N _ rL (bM.of Z) ?_);rw[aa,O,cw,all_map];show q G F
abbrev IL2:=jF (λq:Int×Int=>[V.int q.1,V.int q.2])
def around (i j:Int):List (Int×Int):=[(i-1,j),(i+1,j),(i,j-1),(i,j+1)]
def tkC (aD:AA)(r w:Nat)(p:Int×Int):Bool:=!decide ([atC aD r w p.1 p.2]=[46])
def Tf (aD:AA)(r w:Nat)(i j:Int):Bool:=(around i j).any (tkC aD r w)
def any_map {α:Type}(l:List α)(f:α->Bool):((l.map f).any id)=l.any f:=by induction l with|nil=>rfl|cons a l ih=>simp[ih]
def Vi (C:Addr):Sp:=λvs H Q _=>∃(b:Addr) (r w:Nat) (aD aV:AA) (bi bj:Nat) (i j:Int),vs=[.ref b,.int i,.int j]/\dN C H b r w aD aV bi bj/\∀H',aB H H'->Q (.bl (Tf aD r w i j)) H'
def R5 {C f1:Addr}{fB:FuncData}(D:aO K mg "is_next_to_taken" nD sg)(Aa:mg "any"=none)(iM:∃t,mg "FREE"=some (.str (S [46]) t))(cM:iJ K C)(uO:Meth K C "at" f1)(uP:cU P w K mg base eV 3 f1 fB cO (aa4 C))(uQ:cD K fB cO []):cA P w K mg base "is_next_to_taken" 5 sg (Vi C):=by
 calc D.d8 qp (λf bV A outer s H vs Q E hr h=>?_);let⟨b,r,w,aD,aV,bi,bj,i,j,rfl,BA,q⟩:=h;calc(aG _ (au (aW (i:=3) qp.nd rL (Or.inl rL) (bF (aj (bF (aj (aJ ni bh aq) (aj bG ak))) (aj (bF (aj (aJ dh bh aq) (aj bG ak))) (aj (bF (aj bh (aj (aJ ni bG aq) ak))) (aj (bF (aj bh (aj (aJ dh bG aq) ak))) ak)))))) (aF (bC (aP (Ux rL) qA Aa Q6 (aj (jY rL (jW.of qp.nd qB) (jh bU) (λ_ _ _ _ _=>fO) (λ_ _ _ _ _=>(gq Lx (qT bh cM.cl uO uP hr.mono uQ .nil gM (aj (aZ (lu K) aH aq (λ_ _=>rfl)) (aj (aZ (lu K) aH aq (λ_ _=>rfl)) ak))) (vZ qA iM) (bO _)))) ak))))) ?_);calc(aU _ _ rL rL (zsz 2) (λI h1=>(aU _ _ rL rL (zsz 2) (λg2 h2=>(aU _ _ rL rL (zsz 2) (λF h3=>(aU _ _ rL rL (zsz 2) (λG h4=>⟨zsz 4,λA O=>?_⟩))))))));dsimp only at h1 h2 h3 h4 O ⊢;let k1:aB H (upd H I (HO.tup [.int (i-1),.int j])):=aB.upd h1;let e1:upd H I (HO.tup [.int (i-1),.int j]) I=some (.tup [.int (i-1),.int j]):=aA;generalize upd H I (HO.tup [.int (i-1),.int j])=H1 at k1 e1 h2 h3 h4 O ⊢;let k2:aB H1 (upd H1 g2 (HO.tup [.int (i+1),.int j])):=aB.upd h2;let e2:upd H1 g2 (HO.tup [.int (i+1),.int j]) g2=some (.tup [.int (i+1),.int j]):=aA;generalize upd H1 g2 (HO.tup [.int (i+1),.int j])=H2 at k2 e2 h3 h4 O ⊢;let k3:aB H2 (upd H2 F (HO.tup [.int i,.int (j-1)])):=aB.upd h3;let e3:upd H2 F (HO.tup [.int i,.int (j-1)]) F=some (.tup [.int i,.int (j-1)]):=aA;generalize upd H2 F (HO.tup [.int i,.int (j-1)])=H3 at k3 e3 h4 O ⊢;let k4:aB H3 (upd H3 G (HO.tup [.int i,.int (j+1)])):=aB.upd h4;let e4:upd H3 G (HO.tup [.int i,.int (j+1)]) G=some (.tup [.int i,.int (j+1)]):=aA;generalize upd H3 G (HO.tup [.int i,.int (j+1)])=H4 at k4 e4 O ⊢;let k5:aB H4 (upd H4 A (HO.tup [.ref I,.ref g2,.ref F,.ref G])):=aB.upd O;let e5:upd H4 A (HO.tup [.ref I,.ref g2,.ref F,.ref G]) A=some (.tup ([I,g2,F,G].map V.ref)):=aA;let il:IL2 H4 [I,g2,F,G] (around i j):=((jF.one (x:=(i-1,j)) (k4 _ _ (k3 _ _ (k2 _ _ e1)))).app (jF.one (x:=(i+1,j)) (k4 _ _ (k3 _ _ e2)))).app ((jF.one (x:=(i,j-1)) (k4 _ _ e3)).app (jF.one (x:=(i,j+1)) e4));let s5:=(((k1.trans k2).trans k3).trans k4).trans k5;let Y:=il.mv k5;generalize upd H4 A (HO.tup [.ref I,.ref g2,.ref F,.ref G])=H5 at k5 e5 s5 Y ⊢;let BA5:=BA.mv s5;refine(bJ A rL ⟨_,aQ.of e5⟩ (λN hN=>tH (xs:=[I,g2,F,G].map V.ref) (λn ys J=>ys=(((around i j).take n).map (tkC aD r w)).map V.bl/\J N=some (.lst ys)/\aB H5 J)
  (cj rL aA (aB.upd hN)) (λn ys J _ h=>aQ.of (h.2.2 _ _ e5)) ?_ ?_))
 .intro n x ys J hx z;let⟨rfl,vp,t_⟩:=z;let hn:n<[I,g2,F,G].length:=by have:=(ah.mp hx).1;simpa using this
  let hn4:n<4:=hn;rw[ck,ac hn]at hx;let hx:V.ref [I,g2,F,G][n]=x:=bq hx;subst hx;let⟨u,eu,hu⟩:=(Y.mv t_).get hn;let Z:=BA5.mv t_;let⟨dx,_,_,_,ex,_⟩:=id Z.ex;calc(dJ b dx _ rL ex rL (aY _ _ _ _ rL rL (aQ.of hu) (aM (j:=0) rL) (aY _ _ _ _ rL rL (aQ.of hu) (aM (j:=1) rL) (S9 b r w aD aV bi bj u.1 u.2 rL Z (cT [_] [46] rL rL vp ?_ (iV.mk (by rw[aa];show hn) (cj ?_ aA (t_.eE hN))))))));.rw[aa,aa,av];show aN qk
  .rw[take_snoc eu,bP];rfl
 .intro ys J z;let⟨rfl,vp,t_⟩:=z;calc(aK N _ rL (bM.of vp) ?_);rw[cz (by show 4<=4;decide),any_map];show q J (s5.trans t_)
def M7:Sp:=λvs H Q _=>∃c:Nat,vs=[.str (S [c])]/\c<128/\Q (.str (S ([c].map PyProof.Rows.lo1))) H
def Vj (D:aO K mg "letter_of" wk [tP]):cA P w K mg base "letter_of" 1 [tP] M7:=by calc D.d8 UW (λf bV A outer s H vs Q E hr h=>?_);let⟨c,rfl,j,q⟩:=h;calc(aG _ (aF (bC (Fb bv mi ml Ul aH))) ?_);show⟨rL,nu [c] rL rL (by show 1<=1000;decide) (λd hd=>by rw[bc.mp hd];show j) q⟩
def Vk {aD:AA}{r w i j:Nat}(hi:i<r)(D:j<w):atC aD r w (i:Int) (j:Int)=cell aD i j:=by unfold atC cell;rw[if_pos (SN qk qk qk qk),ee,ee]
def tkT (aD:AA)(t:cu):Bool:=!decide ([cell aD t.1 t.2.1]=[46])
def Dp (aD:AA)(ts:List cu):Option cu:=ts.find? (tkT aD)
def Vl (C j:Addr):Sp:=λvs H Q E=>∃(b t:Addr) (as:List Addr) (ts:List cu) (r w:Nat) (aD aV:AA) (bi bj:Nat),vs=[.ref b,.ref t]/\dN C H b r w aD aV bi bj/\H t=some (.tup (as.map V.ref))/\fW H as ts/\(∀t∈ts,inB r w t)/\
 (∀u,Dp aD ts=some u->∀(dx:Addr) (H':Hp),aB H H'->H' dx=some (.ext (XD dx (Zm u.1 u.2.1)))->E (.ref j) (some dx) H')/\
 (Dp aD ts=none->∀H',aB H H'->Q .non H')
def R6 {C O f0 f1:Addr}{gk fB:FuncData}(D:aO K mg "check_free" uD fx)(iM:∃t,mg "FREE"=some (.str (S [46]) t))(cM:iJ K C)(uO:Meth K C "at" f1)(uP:cU P w K mg base eV 3 f1 fB cO (aa4 C))(uQ:cD K fB cO [])(T:rN K mg "Taken" O f0 se)(agD:cU P w K mg base eV 1 f0 gk cO (Mf O "row" tF))(O5:cD K gk cO []):DefX P w K mg base "check_free" 5 fx (Vl C O):=by
 refine D.yQ sS (λvs H Q E h=>?_) (λf bV A outer s H vs Q E hr h=>?_)
 .let⟨b,t,as,ts,r,w,aD,aV,bi,bj,rfl,_⟩:=h;rfl
 .let⟨b,t,as,ts,r,w,aD,aV,bi,bj,rfl,BA,ht,hL,fZ,qE,q⟩:=h;let Z:=T.M;let zc:=T.xU;let hal:=hL.len;calc(aG _ (aF (h_ km rL (jh bh) (qF rL (cJ (bY (i:=2) sS.nd rL (Or.inl rL)) (cJ (bY (i:=3) sS.nd rL (Or.inl rL)) (cJ (bY (i:=4) sS.nd rL (Or.inl rL)) oU)))) (aF (cG (bT Lx (qT aH cM.cl uO uP hr.mono uQ .nil gM (aj bG (aj bU ak))) (vZ qA iM) (bO _)) (aF (wY oW rL Z agD hr.mono qA zc O5 (aj bG (aj bU ak)))) bR)))) ?_);refine(bJ t rL ⟨_,aQ.of ht⟩ (Ib (K:=K) (a:=t) (xs:=as.map V.ref) (λn σ H'=>∃v2 v3 v4:Option V,σ=[some (.ref b),some (.ref t),v2,v3,v4]/\aB H H'/\∀x∈ts.take n,tkT aD x=false)
   (pK none none none rL (aB.refl _) (λx hx=>by simp at hx)) (λn σ H' _ h=>by let⟨_,_,_,_,I,_⟩:=h;show aQ.of (I _ _ ht)) ?_ ?_))
  .intro n x σ H' hx z;let⟨v2,v3,v4,rfl,I,j⟩:=z;let⟨hn,hx⟩:=rfg hx;let G:n<ts.length:=qk;subst hx;let⟨_,en⟩:=lg (hL.mv I) G;let⟨c1,c2,_⟩:=fZ _ (ba G);let J:=BA.mv I;let⟨Y,_,_,_,ex,_⟩:=id J.ex;calc(aU (as[n]) _ rL (aQ.of en) rL (dW _ _ rL (dW _ _ rL (aK _ _ rL rL ?_))));calc(dJ b Y _ rL ex rL (S9 b r w aD aV bi bj _ _ rL J (aK [_] [46] rL rL (bf _ rL ?_))));rw[Vk c1 c2];cases F:tkT aD ts[n] with
   | true=>rw[show (!decide ([cell aD ts[n].1 ts[n].2.1]=[46]))=true from F];calc cH ⟨zsz 2,λa na=>(pK a _ _ rL aA (λdx ne nd=>?_))⟩;let⟨k0,k1,k2⟩:=Rj (q:=.ext (jP a (.ref O) (some dx))) (p:=.ext (XD dx [("row",.int ts[n].1)])) (p2:=.ext (XD dx (Zm ts[n].1 ts[n].2.1))) na ne nd;show⟨rL,aG (some dx) k0 (qE ts[n] (Zn G j F) dx _ (I.trans k1) k2)⟩
   | false=>
    rw[show (!decide ([cell aD ts[n].1 ts[n].2.1]=[46]))=false from F];calc cI (pK _ _ _ rL I (λx hx=>?_));rw[c8,ac G]at hx;rcases be.mp hx with z|z;.show j x z
    .rw[bc.mp z];show F
  .intro σ H' z;let⟨v2,v3,v4,rfl,I,j⟩:=z;rw[aa,hal,cw]at j;show q (Zo j) H' I
def Zr (j:Addr):Sp:=λvs H Q E=>∃(t:Addr) (as:List Addr) (ts:List cu),vs=[.ref t]/\H t=some (.tup (as.map V.ref))/\fW H as ts/\0<ts.length/\ts.length<=7/\
 ((vM ts||vN ts)=false->∀H',aB H H'->E (.ref j) none H')/\((vM ts||vN ts)=true->∀H',aB H H'->Q .non H')
def Jk {j:Addr}(D:aO K mg "check_straight" pP jj)(O:mg "Crooked"=some (.ref j))(G:W.excIn K j jl "ValueError.__new__"=true)(Y:cA P w K mg base "is_across" 1 jj Rk)(F:cA P w K mg base "is_down" 1 jj Zq):DefX P w K mg base "check_straight" 3 jj (Zr j):=by
 refine D.yQ Jh (λvs H Q E h=>?_) (λf bV A outer s H vs Q E hr h=>?_)
 .let⟨t,as,ts,rfl,_⟩:=h;rfl
 .let⟨t,as,ts,rfl,ht,I,h0,h7,Z,q⟩:=h;calc(aG _ (aF (cG (QW.qt (wU (gU (fJ (bQ Y hr.mono rL (aj aH ak)))) (yF (gU (fJ (bQ F hr.mono rL (aj aH ak))))))) (aF (vH oW rL rL qA O G (aj (bA [116,104,101,32,99,101,108,108,115,32,97,114,101,32,110,111,116,32,105,110,32,111,110,101,32,108,105,110,101] qS) ak))) bR)) ?_);calc(nC t as ts rL ht I h0 h7 (λH1 s1=>(bf _ rL ?_)));cases ha:vM ts with
  | true=>show cI (cI (q (by rw[ha];rfl) H1 s1))
  | false=>
   calc cH (nC t as ts rL (s1 _ _ ht) (I.mv s1) h0 h7 (λJ s2=>(bf _ rL ?_)));cases hd:vN ts with| true=>show cI (q (by rw[ha,hd];rfl) J (s1.trans s2))| false=>show cH ⟨zsz 1,Z (by rw[ha,hd];rfl) J (s1.trans s2)⟩
structure M8 (R:AA)(a b c d i j:Nat):Prop where
 i1:a<=i
 i2:i<=b
 j1:c<=j
 j2:j<=d
 fr:cell R i j=46
 up:∀i' j',a<=i'->i'<i->c<=j'->j'<=d->cell R i' j'≠46
 le:∀j',c<=j'->j'<j->cell R i j'≠46
def IK (R:AA)(a b c d:Nat):Prop:=∀i j,a<=i->i<=b->c<=j->j<=d->cell R i j≠46
def oF (ts:List cu):cu:=ts.getLastD (0,0,0)
def pU (ts:List cu):cu:=ts.headD (0,0,0)
def aeF {ts:List cu}(h:0<ts.length):oF ts=ts[ts.length-1]:=by unfold oF;rw[List.getLastD_eq_getLast?,o0,ac qk];rfl
def Vm (C CG:Addr):Sp:=λvs H Q E=>∃(b t:Addr) (as:List Addr) (ts:List cu) (r w:Nat) (aD aV:AA) (bi bj:Nat),vs=[.ref b,.ref t]/\dN C H b r w aD aV bi bj/\H t=some (.tup (as.map V.ref))/\fW H as ts/\(∀t∈ts,inB r w t)/\0<ts.length/\
 (∀i j,M8 (fX aD ts) (pU ts).1 (oF ts).1 (pU ts).2.1 (oF ts).2.1 i j->∀(dx:Addr) (H':Hp),aB H H'->H' dx=some (.ext (XD dx (Zm i j)))->E (.ref CG) (some dx) H')/\
 (IK (fX aD ts) (pU ts).1 (oF ts).1 (pU ts).2.1 (oF ts).2.1->∀H',aB H H'->Q .non H')
def R7 {C CG f0 f1 f2:Addr}{gk fB fd2:FuncData}(D:aO K mg "check_gaps" uE fx)(gF:mg "range"=none)(iM:∃t,mg "FREE"=some (.str (S [46]) t))(cM:iJ K C)(uO:Meth K C "at" f1)(uP:cU P w K mg base eV 3 f1 fB cO (aa4 C))(uQ:cD K fB cO [])(mF:Meth K C "laid" f2)(mG:cU P w K mg base eV 8 f2 fd2 pu (FZ C))(mH:cD K fd2 pu [])(T:rN K mg "Gap" CG f0 se)(aki:cU P w K mg base eV 1 f0 gk cO (Mf CG "row" tF))(aa8:cD K gk cO []):DefX P w K mg base "check_gaps" 10 fx (Vm C CG):=by
 refine D.yQ sU (λvs H Q E h=>?_) (λf bV A outer s H vs Q E hr h=>?_)
 .let⟨b,t,as,ts,r,w,aD,aV,bi,bj,rfl,_⟩:=h;rfl
 .let⟨b,t,as,ts,r,w,aD,aV,bi,bj,rfl,BA,ht,hL,fZ,h0,qE,q⟩:=h;let akj:=T.M;let Gd:=T.xU;let hal:=hL.len;let r9:=BA.ok.r9;let w9:=BA.ok.w9;let⟨dx,_,_,_,ex,_⟩:=id BA.ex;calc(aG _ (au (aW (i:=2) sU.nd rL (Or.inl rL) (qT aH cM.cl mF mG hr.mono mH .nil gM (aj bh ak))) (aF (h_ km rL (Qu qA gF (aj (aZ bI (aZ bI bh aq (λ_ _=>rfl)) aq (λ_ _=>rfl)) (aj (aJ dh (aZ bI (aZ bI bh (m_ kJ aq) (λ_ _=>rfl)) aq (λ_ _=>rfl)) aq) ak))) (bY (i:=3) sU.nd rL (Or.inl rL)) (aF (h_ km rL (Qu qA gF (aj (aZ bI (aZ bI bh aq (λ_ _=>rfl)) aq (λ_ _=>rfl)) (aj (aJ dh (aZ bI (aZ bI bh (m_ kJ aq) (λ_ _=>rfl)) aq (λ_ _=>rfl)) aq) ak))) (bY (i:=4) sU.nd rL (Or.inl rL)) (aF (cG (bT kY (qT bG cM.cl uO uP hr.mono uQ .nil gM (aj bU (aj cQ ak))) (vZ qA iM) (bO _)) (aF (wY oW rL akj aki hr.mono qA Gd aa8 (aj bU (aj cQ ak)))) bR))))))) ?_);calc(dJ b dx _ rL ex rL (Fw b t as ts r w aD aV bi bj rL BA ht hL fZ (λx1 H1 s1 B1=>?_)));rw[show pU ts=ts[0] from za h0,aeF h0]at qE q;let⟨a1,a2,_⟩:=fZ _ (ba h0);let⟨l1,l2,_⟩:=fZ _ (ba (show ts.length-1<ts.length by lia));let hL1:=hL.mv s1;let Y:=s1 _ _ ht;let⟨g0,e0⟩:=lg hL1 h0;let⟨gl,el⟩:=lg hL1 (show ts.length-1<ts.length by lia);let eal:as.length-1=ts.length-1:=qk;let afL:tV (as.map V.ref) (-1)=some (.ref as[ts.length-1]):=by
   rw[agB (show 0<as.length by lia)];simp only[eal]
  generalize hR:fX aD ts=R at B1 qE q;generalize ef:ts[0]=ff at e0 qE q a1 a2;generalize eg:ts[ts.length-1]=ll at el qE q l1 l2;calc(aY t _ _ (.ref as[0]) rL rL (aQ.of Y) (aM (j:=0) (by simp[g0])) (aY (as[0]) _ _ _ rL rL (aQ.of e0) (aM (j:=0) rL) (aG _ rL (aY t _ _ (.ref as[ts.length-1]) rL rL (aQ.of Y) afL (aY (as[ts.length-1]) _ _ _ rL rL (aQ.of el) (aM (j:=0) rL) (aK _ _ rL rL (aK (ff.1:Int) ((ll.1:Int)+1) rL (SN qk qk qk qk) ?_)))))));refine qD (lo:=(ff.1:Int)) (λn σ H'=>∃v3 J:Option V,σ=[some (.ref b),some (.ref t),some (.ref x1),v3,J]/\aB H1 H'/\∀i j,ff.1<=i->i<ff.1+n->ff.2.1<=j->j<=ll.2.1->cell R i j≠46)
   (aK none none rL (aB.refl _) (λi j O z2=>by lia)) ?_ ?_
  .intro n σ H' hn z;let⟨v3,J,rfl,Z,I⟩:=z;let hn2:ff.1+n<=ll.1:=qk;let en:(ff.1:Int)+(n:Int)=((ff.1+n:Nat):Int):=qk;rw[en];let Jx:=Z _ _ Y;let e02:=Z _ _ e0;let el2:=Z _ _ el;calc(aY t _ _ (.ref as[0]) rL rL (aQ.of Jx) (aM (j:=0) (by simp[g0])) (aY (as[0]) _ _ _ rL rL (aQ.of e02) (aM (j:=1) rL) (aG _ rL (aY t _ _ (.ref as[ts.length-1]) rL rL (aQ.of Jx) afL (aY (as[ts.length-1]) _ _ _ rL rL (aQ.of el2) (aM (j:=1) rL) (aK _ _ rL rL (aK (ff.2.1:Int) ((ll.2.1:Int)+1) rL (SN qk qk qk qk) ?_)))))));refine qD (lo:=(ff.2.1:Int)) (λm σ H2=>∃J:Option V,σ=[some (.ref b),some (.ref t),some (.ref x1),some (.int ((ff.1+n:Nat):Int)),J]/\aB H1 H2/\∀j,ff.2.1<=j->j<ff.2.1+m->cell R (ff.1+n) j≠46)
    (bJ _ rL Z (λj O z2=>by lia)) ?_ ?_
   .intro m σ H2 hm z;let⟨J,rfl,F,G⟩:=z;let hm2:ff.2.1+m<=ll.2.1:=qk;let em:(ff.2.1:Int)+(m:Int)=((ff.2.1+m:Nat):Int):=qk;rw[em];let B2:=B1.mv F;let⟨dx1,_,_,_,Zh,_⟩:=id B2.ex;calc(dJ x1 dx1 _ rL Zh rL (S9 x1 r w R aV bi bj _ _ rL B2 (aK [_] [46] rL rL (bf _ rL ?_))));rw[Vk (show ff.1+n<r by lia) (show ff.2.1+m<w by lia)];by_cases hc:cell R (ff.1+n) (ff.2.1+m)=46
    .rw[ai (show [cell R (ff.1+n) (ff.2.1+m)]=[46] by rw[hc])];calc cH ⟨zsz 2,λa na=>(pK a _ _ rL aA (λdx ne nd=>?_))⟩;let⟨k0,k1,k2⟩:=Rj (q:=.ext (jP a (.ref CG) (some dx))) (p:=.ext (XD dx [("row",.int (ff.1+n:Nat))])) (p2:=.ext (XD dx (Zm (ff.1+n) (ff.2.1+m)))) na ne nd;show⟨rL,aG (some dx) k0 (qE _ _ ⟨qk,hn2,qk,hm2,hc,I,G⟩ dx _ ((s1.trans F).trans k1) k2)⟩
    .rw[af (show ¬[cell R (ff.1+n) (ff.2.1+m)]=[46] from λz=>hc (by injection z))];calc cI (bJ _ rL F (λj O z2=>?_));by_cases z:j=ff.2.1+m;.rw[z];show hc
     .show G j O qk
   .intro σ H2 z;let⟨J,rfl,F,G⟩:=z;calc(aK _ _ rL F (λi j O z2 z3 z4=>?_));by_cases z:i=ff.1+n;.rw[z];show G j z3 qk
    .show I i j O qk z3 z4
  .intro σ H' z;let⟨v3,J,rfl,Z,I⟩:=z;show q (λi j O z2 z3 z4=>I i j O qk z3 z4) H' (s1.trans Z)
def lF (t:cu):Nat×Nat:=(t.1,t.2.1)
noncomputable def Eu (aD:AA)(r w bi bj:Nat)(ts:List cu):Bool:=if isFree aD=true then decide ((bi,bj)∈ts.map lF) else ts.any λt=>Tf aD r w t.1 t.2.1
theorem d9.ofP {H:Hp}:∀{cs:List Addr} {j:List (Nat×Nat)},PL2 H cs j->d9 K H 1 (j.map λc=>Dt.tup [.int c.1,.int c.2]) (cs.map V.ref)
 | [],[],_=>.nil
 | [],_::_,h=>by have:=h.len;simp at this
 | _::_,[],h=>by have:=h.len;simp at this
 | a::cs,c::j,h=>.cons (.tup (aQ.of (h.at_ 0 a c rL rL)) (.cons (.int _) (.cons (.int _) .nil))) (d9.ofP ⟨by have:=h.len;simpa using this,λi a x h1 h2=>h.at_ (i+1) a x h1 h2⟩)
def M9 {c:Nat×Nat}{j:List (Nat×Nat)}:Dt.tup [.int c.1,.int c.2]∈(j.map λc=>Dt.tup [.int (c.1:Int),.int (c.2:Int)])↔c∈j:=by
 constructor
 .intro h;let⟨d,hd,e⟩:=bd.mp h;injection e with e;injection e with e1 e2;injection e1 with e1;injection e2 with e2;injection e2 with e2;have:d=c:=Prod.ext (oz e1) (oz e2);rw[<-this];show hd
 .intro h;show bd.mpr (aG c h rL)
def Vn (C j:Addr):Sp:=λvs H Q E=>∃(b t:Addr) (as:List Addr) (ts:List cu) (r w:Nat) (aD aV:AA) (bi bj:Nat),vs=[.ref b,.ref t]/\dN C H b r w aD aV bi bj/\H t=some (.tup (as.map V.ref))/\fW H as ts/\ts.length<=7/\
 (Eu aD r w bi bj ts=false->∀H',aB H H'->E (.ref j) none H')/\(Eu aD r w bi bj ts=true->∀H',aB H H'->Q .non H')
open Classical in
def M_ {C O f1:Addr}{fB:FuncData}(D:aO K mg "check_joined" qZ fx)(Aa:mg "any"=none)(Y:iJ K C)(uR:Meth K C "is_free" f1)(uT:cU P w K mg base eV 1 f1 fB aw (U_ C))(uU:cD K fB aw [])(J6:mg "Apart"=some (.ref O))(J:W.excIn K O jl "ValueError.__new__"=true)(uN:cA P w K mg base "cells_of" 1 jj z9)(Ge:cA P w K mg base "is_next_to_taken" 5 sg (Vi C)):DefX P w K mg base "check_joined" 7 fx (Vn C O):=by
 refine D.yQ uF (λvs H Q E h=>?_) (λf bV A outer s H vs Q E hr h=>?_)
 .let⟨b,t,as,ts,r,w,aD,aV,bi,bj,rfl,_⟩:=h;rfl
 .let⟨b,t,as,ts,r,w,aD,aV,bi,bj,rfl,I,ht,hL,h7,qE,q⟩:=h;let hal:=hL.len;let⟨dx,pr,pm,pb,ex,_,_,hpb⟩:=id I.ex;calc(aG _ (au (f9 (cG (fJ (jk aH Y.cl uR uT hr.mono uU .nil gM)) (aF (aW (i:=2) uF.nd rL (Or.inl rL) (gq (Y7 hr.units) (cF aH rL) (bQ uN hr.mono rL (aj bh ak)) rL))) (aF (aW (i:=2) uF.nd rL (Or.inl rL) (aP (Ux rL) qA Aa Q6 (aj (lY (ns:=rh) rL (kh.of [tJ,tN,"joined"] [] qB) (jh bh) (λ_ _ _ _ _=>(qU K rL (show (["row",tF,tP,tJ,tN,"joined"]:List Str).Nodup by decide +kernel) rL rL rL qA qA qA)) (λ_ _ _ _ _=>fO) (λ_ _ _ _ _=>(bQ Ge hr.mono rL (aj bU (aj aH (aj bh ak)))))) ak)))))) (aF (cG (gU (fJ bG)) (aF (vH oW rL rL qA J6 J (aj (bA [116,104,101,32,108,97,121,105,110,103,32,105,115,32,106,111,105,110,101,100,32,116,111,32,110,111,116,104,105,110,103] qS) ak))) bR))) ?_);refine(aG (λσ H'=>aB H H'/\σ=[some (.ref b),some (.ref t),some (.bl (Eu aD r w bi bj ts))]) ?_ ?_)
  .calc(dJ b dx _ rL ex rL ⟨b,r,w,aD,aV,bi,bj,rL,I,λH1 s1=>(bf _ rL ?_)⟩);cases hf:isFree aD with
   | true=>
    calc cH (cR b C dx _ _ rL (s1 _ _ ex) Y.cl Y.nb rL (gH t as ts rL (s1 _ _ ht) (hL.mv s1) qk (λLc cs H2 s2 hLc hcs=>?_)));let Z:=s2 _ _ (s1 _ _ hpb);calc(dJ 2 (.tup [.int bi,.int bj]) ((ts.map lF).map λc=>Dt.tup [.int c.1,.int c.2]) qr (.tup (aQ.of Z) (.cons (.int _) (.cons (.int _) .nil))) (.lst (bM.of hLc) (d9.ofP hcs)) ?_);calc⟨s1.trans s2,?_⟩;let e:Eu aD r w bi bj ts=decide ((bi,bj)∈ts.map lF):=by unfold Eu;rw[if_pos hf]
    rw[e];simp only[f_,if_false];by_cases hm:(bi,bj)∈ts.map lF;.rw[ai hm,ai (M9 (c:=(bi,bj)).mpr hm)];rfl
    .rw[af hm,af (λz=>hm (M9 (c:=(bi,bj)).mp z))];rfl
   | false=>
    refine cI (bJ t rL ⟨_,aQ.of (s1 _ _ ht)⟩ (λN hN=>lR (K:=K) (KT:=K) (a:=t) (f:=kE [] 0) (tt:=nY) (xs:=as.map V.ref) (λn ys F=>ys=((ts.take n).map λt=>Tf aD r w t.1 t.2.1).map V.bl/\F N=some (.lst ys)/\aB H1 F)
     (cj rL aA (aB.upd hN)) (λn ys F _ h=>aQ.of (h.2.2 _ _ (s1 _ _ ht))) ?_ ?_))
    .intro n x ys F hx z;let⟨rfl,yZ,j⟩:=z;let⟨hn,hx⟩:=rfg hx;let G:n<ts.length:=qk;let gQ:=s1.trans j;let⟨_,en⟩:=lg (hL.mv gQ) G;calc yc hx.symm (aQ.of en) ?_;calc(S9 b r w aD aV bi bj _ _ rL (I.mv gQ) (λH4 s4=>(cj (s4 _ _ yZ) ?_ (iV.mk (by rw[aa];show hn) (cj ?_ aA ((j.trans s4).eE hN))))));.rw[aa,aa,av];show aN qk
     .rw[take_snoc (ac G),bP];rfl
    .intro ys F z;let⟨rfl,yZ,j⟩:=z;calc(aU N _ rL (bM.of yZ) (s1.trans j) ?_);rw[aa,hal,cw,any_map];let e:Eu aD r w bi bj ts=ts.any λt=>Tf aD r w t.1 t.2.1:=by unfold Eu;rw[if_neg (by rw[hf];decide)]
     rw[e];rfl
  .rintro σ H' ⟨sm,rfl⟩;cases hj:Eu aD r w bi bj ts with| true=>show q hj H' sm| false=>show⟨zsz 1,qE hj H' sm⟩
structure zf (w:List Nat):Prop where
 lo:2<=w.length
 hi:w.length<=9
 az:∀c∈w,isLet c
def Vo:Sp:=λvs H Q _=>∃l:List Nat,vs=[.str (S l)]/\zf l/\∀H',aB H H'->Q (.bl true) H'
def acU {c:Nat}(h:isLet c):decide ([c]<[97])=false/\decide ([122]<[c])=false:=by
 let j:∀a b:Nat,([a]<[b])↔a<b:=λa b=>by simp[io]
 constructor;.rw[af];rw[j];have:=h.1;lia
 .rw[af];rw[j];have:=h.2;lia
def aa9 (D:aO K mg "is_word" zT ["text"])(Y:mg "len"=none)(F:mg "all"=none):cA P w K mg base "is_word" 1 ["text"] Vo:=by
 calc D.d8 Mp (λf bV A outer s H vs Q E hr h=>?_);let⟨l,rfl,hw,q⟩:=h;let h1:=hw.lo;let h2:=hw.hi;let hz:l.length<=sizeLine:=ap (aN qk);refine(aG _ (aF (bC (lO (nU rZ rZ aq (aP dw qA Y ay (aj aH ak)) aq)
  (kI (aP (lK rL) qA F qS (aj (jY rL (jW.of Mp.nd qB) (qG aH) (λ_ _ _ _ _=>fO)
   (λ_ _ _ _ _=>nU pX pX (bA [97] qS) aH (bA [122] qS))) ak)))))) ?_)
 calc(bJ l rL hz (aK _ _ rL rL (bf true (by simp;lia) ?_)));calc cH (aK _ _ rL rL (bf true (by simp;lia) ?_));calc cH ?_;refine(aG l rL (λL O=>yO (λi ys G=>ys=(List.replicate i true).map V.bl/\G L=some (.lst ys)/\aB H G) (cj rL aA (aB.upd O)) ?_ ?_))
 .intro i c ys G hi z;let⟨rfl,j,J⟩:=z;let I:i<l.length:=(ah.mp hi).1;let⟨a1,a2⟩:=acU (hw.az c (bp hi));calc(aK [97] [c] rL rL (bf true (by rw[a1];rfl) (cH (cT [c] [122] rL rL j ?_ (iV.mk I (cj ?_ aA (J.eE O)))))));.rw[aa,de];show aN qk
  .rw[a2,kP,bP];rfl
 .intro ys G z;let⟨rfl,j,J⟩:=z;calc(aK L (List.replicate l.length true) rL (bM.of j) ?_);let e:(List.replicate l.length true).all id=true:=qo;rw[e];show q G J
def Zt:Sp:=λvs H Q _=>∃l:List Nat,vs=[.str (S l)]/\zf l/\∀H',aB H H'->Q .non H'
def R8 (D:aO K mg "check_word" uG ["text"])(j:cA P w K mg base "is_word" 1 ["text"] Vo):cA P w K mg base "check_word" 2 ["text"] Zt:=by calc D.d8 RT (λf bV A outer s H vs Q E hr h=>?_);let⟨l,rfl,hw,q⟩:=h;calc(aG _ (aF (cG (gU (fJ (bQ j hr rL (aj aH ak)))) Qq bR)) ?_);calc(bJ l rL hw (λH1 s1=>(bf true rL ?_)));show cI (q H1 s1)
structure vO (K:W.Frag)(C:Addr):Prop where
 cl:Cls K C
 nh:jG K C "held"
def rW (ws:AA):List (Key×V):=ws.map λl=>(dX l,V.bl true)
def aeG (ws:AA):(rW ws).map (·.1)=ws.map dX:=by unfold rW;rw[gc];rfl
def aeH {a b:List Nat}(h:dX a=dX b):a=b:=zK (l_ h)
def O6 (ws:AA)(l:List Nat):iz (rW ws) (dX l)=if l∈ws then some (.bl true) else none:=by
 induction ws with
 | nil=>simp[rW,iz]
 | cons a r ih=>
  by_cases e:a=l
  .subst e;have:iz (rW (a::r)) (dX a)=some (.bl true):=lH (p:=(dX a,V.bl true)) rfl;rw[this];simp
  .have:iz (rW (a::r)) (dX l)=iz (rW r) (dX l):=lJ (p:=(dX a,V.bl true)) λz=>e (aeH z)
   rw[this,ih];let j:¬l=a:=λz=>e z.symm;simp[j]
def agG {ws:AA}{l:List Nat}(h:l∈ws):putK (rW ws) (dX l) (.bl true)=rW ws:=by
 let j:((rW ws).any λF=>decide (F.1=dX l))=true:=by rw[vD,O6,if_pos h];rfl
 unfold putK;rw[if_pos j];calc(fR λF D=>?_).trans (kU _);let⟨a,_,rfl⟩:=bd.mp D;by_cases e:dX a=dX l;.simp[e]
 .simp[e]
def agH {ws:AA}{l:List Nat}(h:l∉ws):putK (rW ws) (dX l) (.bl true)=rW (ws++[l]):=by rw[ad4 _ (by rw[O6,if_neg h])];simp[rW]
structure jd (C:Addr)(H:Hp)(p d:Addr)(ws:AA):Prop where
 ob:∃dx,H p=some (.ins C dx [("held",.ref d)])
 dc:H d=some (.dK (rW ws))
 nd:ws.Nodup
 az:∀l∈ws,zf l
def Ay (ws:AA)(l:List Nat):List (List Nat):=if l∈ws then ws else ws++[l]
def Vp (ws:AA)(l:List Nat):putK (rW ws) (dX l) (.bl true)=rW (Ay ws l):=by
 unfold Ay;split;.rename_i h;show agG h
 .rename_i h;show agH h
def Zu {ws:AA}{l:List Nat}(h:ws.Nodup):(Ay ws l).Nodup:=by
 unfold Ay;split;.show h
 .rename_i hl;show YG h hl
def Vq {ws:AA}{l x:List Nat}:x∈Ay ws l↔x∈ws\/x=l:=by
 unfold Ay;split;.rename_i h;show⟨.inl,λz=>z.elim id λe=>e ▸ h⟩
 .simp
def Vr (ws:AA)(l:List Nat):(Ay ws l).length<=ws.length+1:=by
 unfold Ay;split;.lia
 .simp
def akk (K:W.Frag)(H:Hp)(a:Addr)(ls:AA):Prop:=bM K H a (Ts ls)\/aQ K H a (Ts ls)
def Vs (K:W.Frag)(C:Addr):Sp:=λvs H Q _=>∃(p dx a:Addr) (ls:AA),vs=[.ref p,.ref a]/\H p=some (.ins C dx [])/\akk K H a ls/\(∀l∈ls,zf l)/\ls.length<=200/\
 ∀(d:Addr) (ws:AA) (H':Hp),H d=none->jd C H' p d ws->(∀x,x∈ws↔x∈ls)->ws.length<=ls.length->(∀b o,H b=some o->b≠p->H' b=some o)->Q .non H'
def agI {f C:Addr}{fd:FuncData}(F:gJ K "__init__" "Book.__init__" n_ f fd)(T:vO K C)(D1:cA P w K mg base "check_word" 2 ["text"] Zt):cU P w K mg base eV 3 f fd r_ (Vs K C):=by
 calc F.d8 FT (λbV A outer s H vs Q E hr h=>?_);let⟨p,dx,a,ls,rfl,hp,hS,hW,hn,k⟩:=h;let hu:=Sy hr;let nd:=FT.nd;refine(aG _ (au (nj aH Ue rL) (aF (h_ di rL ((oK bh).or (jh bh)) (bY (i:=2) nd rL (Or.inl rL))
  (au (eG (bQ D1 hr rL (aj bG ak))) (aF (YD hu (cF aH rL) bG jr rL)))))) ?_)
 intro d hd;let Y:p≠d:=bL hp hd;calc(gb p C dx [] rL (by rw[bw Y];show hp) T.cl T.nh (by show 0<1000;decide) ?_);let hP1:upd (upd H d (HO.dK [])) p (HO.ins C dx (jx "held" (V.ref d) [])) p=some (.ins C dx [("held",.ref d)]):=aA;let hD1:upd (upd H d (HO.dK [])) p (HO.ins C dx (jx "held" (V.ref d) [])) d=some (.dK (rW [])):=by rw[bw Y.symm,aA];rfl
 let O:∀b o,H b=some o->b≠p->upd (upd H d (HO.dK [])) p (HO.ins C dx (jx "held" (V.ref d) [])) b=some o:=λb o e hb=>by rw[bw hb,bw (bL e hd)];show e
 generalize upd (upd H d (HO.dK [])) p (HO.ins C dx (jx "held" (V.ref d) []))=H1 at hP1 hD1 O ⊢;let npl:∀o,H p=some o->(∀ys,o≠.lst ys)/\∀u ys,o≠.rO u (.lst ys):=λo e=>by rw[hp]at e;cases e;show⟨λ_ z=>(nomatch z),λ_ _ z=>(nomatch z)⟩
 let npt:∀o,H p=some o->(∀ys,o≠.tup ys)/\∀u ys,o≠.rO u (.tup ys):=λo e=>by rw[hp]at e;cases e;show⟨λ_ z=>(nomatch z),λ_ _ z=>(nomatch z)⟩
 rcases hS with hS|hS
 .refine .inl (bJ a rL ⟨_,hS.keep O npl⟩ (nR (K:=K) (a:=a) (xs:=Ts ls) (λi σ G=>∃(v2:Option V) (ws:AA),σ=[some (.ref p),some (.ref a),v2]/\G p=some (.ins C dx [("held",.ref d)])/\G d=some (.dK (rW ws))/\ws.Nodup/\
   (∀x,x∈ws↔x∈ls.take i)/\ws.length<=i/\∀b o,H b=some o->b≠p->G b=some o) (Ik none [] rL hP1 hD1 qi (λx=>by simp) (ax _) O) (λi σ G _ ⟨_,_,_,_,_,_,_,_,kp⟩=>hS.keep kp npl) ?_ ?_))
  .intro i y σ G hi z;let⟨v2,ws,rfl,j,I,D,hm,hl,kp⟩:=z;rw[ck]at hi;let⟨l,J,e⟩:=dv.mp hi;subst e;let hil:i<ls.length:=(ah.mp J).1;calc(bJ l rL (hW l (bp J)) (λH3 Z=>?_));let hd3:=Z _ _ I;calc(cR p C dx _ _ rL (Z _ _ j) T.cl T.nh rL (aK d _ rL (JN.k (k:=dX l) hd3 (by rw[rW,aa];show aN qk)) ?_));calc(Ik _ (Ay ws l) rL (by rw[bw Y];show Z _ _ j) (by rw[aA,Vp]) (Zu D) (λx=>?_) (b8 (Vr _ _) qk) (λb o e hb=>?_));.rw[Vq,hm,c8,J];simp
   .rw[bw (bL e hd)];show Z _ _ (kp b o e hb)
  .intro σ G z;let⟨v2,ws,rfl,j,I,D,hm,hl,kp⟩:=z;rw[aa]at hm hl;rw[cw]at hm;show k d ws G hd ⟨⟨dx,j⟩,I,D,λl hl=>hW l ((hm l).mp hl)⟩ hm hl kp
 .refine .inr (bJ a rL ⟨_,hS.keep O npt⟩ (Ib (K:=K) (a:=a) (xs:=Ts ls) (λi σ G=>∃(v2:Option V) (ws:AA),σ=[some (.ref p),some (.ref a),v2]/\G p=some (.ins C dx [("held",.ref d)])/\G d=some (.dK (rW ws))/\ws.Nodup/\
   (∀x,x∈ws↔x∈ls.take i)/\ws.length<=i/\∀b o,H b=some o->b≠p->G b=some o) (Ik none [] rL hP1 hD1 qi (λx=>by simp) (ax _) O) (λi σ G _ ⟨_,_,_,_,_,_,_,_,kp⟩=>hS.keep kp npt) ?_ ?_))
  .intro i y σ G hi z;let⟨v2,ws,rfl,j,I,D,hm,hl,kp⟩:=z;rw[ck]at hi;let⟨l,J,e⟩:=dv.mp hi;subst e;let hil:i<ls.length:=(ah.mp J).1;calc(bJ l rL (hW l (bp J)) (λH3 Z=>?_));let hd3:=Z _ _ I;calc(cR p C dx _ _ rL (Z _ _ j) T.cl T.nh rL (aK d _ rL (JN.k (k:=dX l) hd3 (by rw[rW,aa];show aN qk)) ?_));calc(Ik _ (Ay ws l) rL (by rw[bw Y];show Z _ _ j) (by rw[aA,Vp]) (Zu D) (λx=>?_) (b8 (Vr _ _) qk) (λb o e hb=>?_));.rw[Vq,hm,c8,J];simp
   .rw[bw (bL e hd)];show Z _ _ (kp b o e hb)
  .intro σ G z;let⟨v2,ws,rfl,j,I,D,hm,hl,kp⟩:=z;rw[aa]at hm hl;rw[cw]at hm;show k d ws G hd ⟨⟨dx,j⟩,I,D,λl hl=>hW l ((hm l).mp hl)⟩ hm hl kp
def afM (C:Addr):Sp:=λvs H Q _=>∃(p d:Addr) (ws:AA) (l:List Nat),vs=[.ref p,.str (S l)]/\jd C H p d ws/\Q (.bl (decide (l∈ws))) H
def aiH {f C:Addr}{fd:FuncData}(F:gJ K "has" "Book.has" pR f fd)(T:vO K C):cU P w K mg base eV 1 f fd s_ (afM C):=by
 calc F.d8 X4 (λbV A outer s H vs Q E hr h=>?_);let⟨p,d,ws,l,rfl,B,q⟩:=h;let j:=Sy hr;obtain⟨⟨dx,hp⟩,hd,_,_⟩:=id B;calc(aG _ (aF (bC (ahI (ah2 j bh (cF aH rL))))) ?_);calc(cR p C dx _ _ rL hp T.cl T.nh rL (aK d _ rL (Aq.k (k:=dX l) hd) ?_));rw[O6];by_cases h:l∈ws;.rw[if_pos h];simpa [h] using q
 .rw[if_neg h];simpa [h] using q
def alo (ws:AA):Prop:=ws.Pairwise (λa b=>decide (b<a)=false)
def Zv (C:Addr):Sp:=λvs H Q _=>∃(p d:Addr) (ws:AA),vs=[.ref p]/\jd C H p d ws/\ws.length<64/\
 ∀(t:Addr) (us:AA) (H':Hp),aB H H'->H t=none->H' t=some (.tup (Ts us))->us.Perm ws->alo us->Q (.ref t) H'
def aeI {f C:Addr}{fd:FuncData}(F:gJ K "words" "Book.words" mC f fd)(T:vO K C)(J:mg "sorted"=none)(j:mg "tuple"=none):cU P w K mg base eV 1 f fd aw (Zv C):=by calc F.d8 RW (λbV A outer s H vs Q E hr h=>?_);let⟨p,d,ws,rfl,B,D,q⟩:=h;obtain⟨⟨dx,hp⟩,hd,_,_⟩:=id B;calc(aG _ (aF (bC (fY jB qA j c9 (aj (aP (Uk rL) qA J gd (aj (cF aH rL) ak)) ak)))) ?_);calc(cR p C dx _ _ rL hp T.cl T.nh rL (gH d _ ws rL hd (aeG ws) D (λt us ht pm G=>?_)));calc(dW t _ rL (.inl ⟨bM.of aA,λv hv=>?_⟩));let s1:aB H (upd H t (.lst (Ts us))):=aB.upd ht;show q v us _ (s1.eE (s1.free hv)) (s1.free hv) aA pm G
def iD (c:Nat):Nat:=if 65<=c/\c<=90 then 63 else c
def sgN (c:Nat):Prop:=isLet c\/(65<=c/\c<=90)
def sgN.lt {c:Nat}(h:sgN c):c<128:=by
 rcases h with h|h;.have:=h.2;lia
 .lia
noncomputable def pZ (left:AA):List Nat->Sum Nat (List (List Nat))
 | []=>.inr left
 | c::cs=>if [iD c]∈left then pZ (left.erase [iD c]) cs else .inl (iD c)
theorem Zw:∀{us:AA},(∀l∈us,l.length=1)->us.flatten.length=us.length
 | [],_=>rfl
 | u::us,h=>by rw[fi,am,Zw λl hl=>h l (bE _ hl),h u bS,dA];lia
def acV:Sp:=λvs H Q _=>∃c:Nat,vs=[.str (S [c])]/\c<128/\Q (.str (S [iD c])) H
def le1 (a b:Nat):(!decide ([b]<[a]))=decide (a<=b):=by
 by_cases h:a<=b;.rw[ai h,af (by simp[io];lia)];rfl
 .rw[af h,ai (by simp[io];lia)];rfl
def aa_ (D:aO K mg "tile_of" zN [tP]):cA P w K mg base "tile_of" 1 [tP] acV:=by
 calc D.d8 aaU (λf bV A outer s H vs Q E hr h=>?_);let⟨c,rfl,j,q⟩:=h;calc(aG _ (aF (bC (pJ (CP pX pX (bA [65] qS) aH (bA [90] qS)) (bA [63] qS) aH))) ?_);calc(aK [65] [c] rL rL ?_);rw[le1];unfold iD at q;by_cases h1:65<=c
 .rw[ai h1];calc(aK [c] [90] rL rL ?_);rw[le1];by_cases h2:c<=90
  .rw[if_pos ⟨h1,h2⟩]at q;rw[ai h2];show q
  .rw[if_neg λz=>h2 z.2]at q;rw[af h2];show q
 .rw[if_neg λz=>h1 z.1]at q;rw[af h1];show q
def Vt (x:List Nat)(ws:AA):inV (.str (S x)) (Ts ws)=decide (x∈ws):=by
 unfold inV
 induction ws with
 | nil=>simp[Ts]
 | cons y ws ih=>
  let e:Jr (.str (S y)) (.str (S x))=decide (y=x):=by
   show decide (S y=S x)=_;by_cases h:y=x;.rw[h];simp
   .let h2:S y≠S x:=λe=>h (zK e)
    simp[h,h2]
  show (Jr (.str (S y)) (.str (S x))||(Ts ws).any _)=_;rw[e,ih];by_cases h:y=x;.simp[h]
  .let h2:¬x=y:=λe=>h e.symm
   simp[h,h2]
def IV (ws:AA):(Ts ws).all xZ=true:=by rw[eK];intro x hx;let⟨l,_,rfl⟩:=bd.mp hx;rfl
def abb {f C R:Addr}{fd:FuncData}(F:gJ K "__init__" "Lacking.__init__" jZ f fd)(D:mg "RackError"=some (.ref R))(j:InitOf K R)(T:rN K mg "Lacking" C f ["tile"]):cU P w K mg base eV 1 f fd sQ (Ma C "tile"):=by calc F.d8 Mi (λbV A outer s H vs Q E hr h=>?_);let⟨a,v,rfl,ha,q⟩:=h;calc(aG _ (au (eG (yd qA D j (aj aH (aj bh ak)))) (aF (yJ aH bh rL))) ?_);calc(su a C f none [v] rL ha T.M.ini (zsz 1) ?_);show(gH a C none rL ha T.T (T.no _ qo) (.inl ⟨rL,λdx ne nd=>q dx ne nd⟩))
def Nb (C:Addr):Sp:=λvs H Q E=>∃(bB j:List Nat),vs=[.str (S bB),.str (S j)]/\bB.length<=63/\j.length<=63/\(∀c∈j,c<128)/\
 (∀t,pZ (bB.map λc=>[c]) j=.inl t->∀(dx:Addr) (H':Hp),aB H H'->H' dx=some (.ext (XD dx [("tile",.str (S [t]))]))->E (.ref C) (some dx) H')/\
 (∀left,pZ (bB.map λc=>[c]) j=.inr left->∀(ws:AA) (H':Hp),aB H H'->ws.Perm left->ws.Pairwise (λa b=>decide (b<a)=false)->Q (.str (S ws.flatten)) H')
def abd {C f0:Addr}{gk:FuncData}(D:aO K mg "left_of" zO sr)(iQ:mg "list"=none)(jo:mg "sorted"=none)(T:rN K mg "Lacking" C f0 ["tile"])(acW:cU P w K mg base eV 1 f0 gk sQ (Ma C "tile"))(Gf:cD K gk sQ [])(acX:cA P w K mg base "tile_of" 1 [tP] acV):DefX P w K mg base "left_of" 3 sr (Nb C):=by
 refine D.yQ yh (λvs H Q E h=>?_) (λf bV A outer s H vs Q E hr h=>?_)
 .let⟨bB,j,rfl,_⟩:=h;rfl
 .let⟨bB,j,rfl,alp,alP,hsg,qE,q⟩:=h;let acY:=T.M;let uV:=T.xU;calc(aG _ (au (aW (i:=2) yh.nd rL (Or.inl rL) (fY (nq rL) qA iQ fg (aj aH ak))) (au (h_ km rL (qG bh) (bY (i:=3) yh.nd rL (Or.inl rL)) (au (aW (i:=4) yh.nd rL (Or.inl rL) (bQ acX hr.mono rL (aj bU ak))) (au (cG (bT uq cQ bG rL) (aF (wY oW rL acY acW hr.mono qA uV Gf (aj cQ ak))) bR) (aF (eG (gG ce gL gN wX bG (aj cQ ak))))))) (aF (bC (gG bv cE cK oR (bA [] qS) (aj (aP Fl qA jo gd (aj bG ak)) ak)))))) ?_);calc(bJ bB rL qk (λL hL=>?_));let s1:aB H (upd H L (.lst (Ts (bB.map λc=>[c])))):=aB.upd hL;calc(aG j rL ?_);refine BJ (λi σ Y=>∃(v3 v4:Option V) (us:AA),σ=[some (.str (S bB)),some (.str (S j)),some (.ref L),v3,v4]/\aB H Y/\Y L=some (.lst (Ts us))/\us.length<=63/\(∀l∈us,l.length=1)/\pZ (bB.map λc=>[c]) j=pZ us (j.drop i))
   (nC none none (bB.map λc=>[c]) rL s1 aA (by rw[aa];show alp) (λl hl=>by let⟨c,_,rfl⟩:=bd.mp hl;rfl) (by rw[iP])) ?_ ?_
  .intro i c σ Y Z z;let⟨v3,v4,us,rfl,O,G,Gg,J,F⟩:=z;let hcs:=hsg c (bp Z);let hi:i<j.length:=(ah.mp Z).1;let I:j.drop i=c::j.drop (i+1):=by
    rw[f8 hi];rw[ac hi]at Z;rw[bq Z]
   rw[I]at F;calc(bJ c rL hcs ?_);calc(cT L (Ts us) rL (.inl (bM.of G)) rL (IV us) ?_);rw[Vt];by_cases hm:[iD c]∈us
   .rw[ai hm];calc⟨.inl ⟨rL,_,bM.of G⟩,nC L us [iD c] rL rL G hm qk ?_⟩;calc(nC _ _ (us.erase [iD c]) rL (O.eE hL) aA ?_ (λl hl=>J l (mM hl)) ?_);.have:=(ka (a:=[iD c]) (l:=us)).length_le;lia
    .rw[F];show (if _ then _ else _)=_;rw[if_pos hm]
   .rw[af hm];let e:pZ (bB.map λc=>[c]) j=.inl (iD c):=by rw[F];show (if _ then _ else _)=_;rw[if_neg hm]
    calc⟨zsz 1,λa na=>(aK a _ rL aA (λdx ne nd=>⟨rL,aG (some dx) aA ?_⟩))⟩;let⟨k1,k2⟩:=drop_new (q:=.ext (jP a (.ref C) (some dx))) (p:=.ext (XD dx [("tile",.str (S [iD c]))])) na ne nd;show qE _ e dx _ (O.trans k1) k2
  .intro σ Y z;let⟨v3,v4,us,rfl,O,G,Gg,J,F⟩:=z;rw[kQ]at F;calc⟨rL,aU L us rL (bM.of G) qk (λp ws hp pm pw=>?_)⟩;calc(cT p ws rL rL (bM.of aA) ?_ ?_);.rw[Zw λl hl=>J l (pm.mem_iff.mp hl),pm.length_eq];lia
   .show q us F ws _ (O.eE (O.free hp)) pm pw
def acZ {f C R:Addr}{fd:FuncData}(F:gJ K "__init__" "NoWord.__init__" lM f fd)(D:mg "RackError"=some (.ref R))(j:InitOf K R)(T:rN K mg "NoWord" C f ["word"]):cU P w K mg base eV 1 f fd sw (Ma C "word"):=by calc F.d8 Om (λbV A outer s H vs Q E hr h=>?_);let⟨a,v,rfl,ha,q⟩:=h;calc(aG _ (au (eG (yd qA D j (aj aH (aj bh ak)))) (aF (yJ aH bh rL))) ?_);calc(su a C f none [v] rL ha T.M.ini (zsz 1) ?_);show(gH a C none rL ha T.T (T.no _ qo) (.inl ⟨rL,λdx ne nd=>q dx ne nd⟩))
theorem Gh {p:Nat->Bool}:∀{l:List Nat} {c:Nat},c∈l.takeWhile p->c∈l/\p c=true
 | [],c,h=>by simp at h
 | a::l,c,h=>by
  rw[List.takeWhile_cons]at h;by_cases z:p a=true
  .rw[if_pos z]at h;rcases bX.mp h with e|e;.rw[e];show⟨bS,z⟩
   .have:=Gh e;show⟨bE _ this.1,this.2⟩
  .rw[if_neg z]at h;simp at h
def aeJ {r w:Nat}{R:AA}(hb:Blk r w R)(hp:∀l∈R,∀c∈l,Es c){i j wy:Nat}(hi:i<r)(F:j<w):∀c∈lineOf R i j (wy:Int),Es c:=λc D=>by
 unfold lineOf at D;split at D
 .rw[aE,ac (by rw[hb.len];show hi)]at D;show hp _ (ba _) c D
 .let⟨l,hl,e⟩:=bd.mp D;let hw:=hb.uK l hl;let e2:l.getD j 0=l[j]:=by rw[aE,ac (show j<l.length by lia)];rfl
  rw[<-e,e2];show hp l hl _ (ba _)
def agK {r w:Nat}{R:AA}(hb:Blk r w R)(hp:∀l∈R,∀c∈l,Es c){i j wy:Nat}(hi:i<r)(G:j<w):∀c∈(vL R i j wy).2.2.2,rH c:=λc F=>by
 let D:∀c,c∈lineOf R i j (wy:Int)->(c != 46)=true->rH c:=λc h1 h2=>by
  rcases aeJ hb hp hi G c h1 with z|z;.rw[z]at h2;cases h2
  .show z
 rcases be.mp (show c∈jC _++kj _ from F) with z|z
 .unfold jC at z;have:=Gh (my.mp z);show D c (cf (my.mp this.1)) this.2
 .have:=Gh z;show D c (c_ this.1) this.2
def Vu {r w:Nat}{aD:AA}{ts:List cu}(hb:Blk r w (fX aD ts))(hp:∀l∈fX aD ts,∀c∈l,Es c)(Z:∀t∈ts,inB r w t):∀q∈k_ aD ts,∀c∈q.2.2.2,rH c:=λq D=>by
 let⟨a,ha,rfl⟩:=bd.mp (js.mp D).1;let hi:a.1<r/\a.2.1<w:=by
  rcases be.mp ha with z|z
  .let⟨u,j,rfl⟩:=bd.mp z;have:=Z u (cf j);show⟨this.1,this.2.1⟩
  .let⟨u,j,rfl⟩:=bd.mp z;have:=Z u j;show⟨this.1,this.2.1⟩
 show agK hb hp hi.1 hi.2
def Yh {r w:Nat}{aD:AA}{ts:List cu}(hb:Blk r w (fX aD ts))(r9:r<=9)(w9:w<=9)(Z:∀t∈ts,inB r w t):∀q∈k_ aD ts,q.2.2.2.length<=20:=λq D=>by
 let⟨a,ha,rfl⟩:=bd.mp (js.mp D).1;let hi:a.1<r:=by
  rcases be.mp ha with z|z
  .let⟨u,j,rfl⟩:=bd.mp z;show(Z u (cf j)).1
  .let⟨u,j,rfl⟩:=bd.mp z;show(Z u j).1
 show J3 hb r9 w9 hi
def dQ (q:mD):Dt:=.tup [.int q.1,.int q.2.1,.int q.2.2.1,.str q.2.2.2]
theorem d9.ofQ {H:Hp}:∀{bs:List Addr} {j:List mD},QL H bs j->(∀q∈j,∀c∈q.2.2.2,c<128)->d9 K H 1 (j.map dQ) (bs.map V.ref)
 | [],[],_,_=>.nil
 | [],_::_,h,_=>by have:=h.len;simp at this
 | _::_,[],h,_=>by have:=h.len;simp at this
 | a::bs,q::j,h,k=>.cons (.tup (aQ.of (h.at_ 0 a q rL rL)) (.cons (.int _) (.cons (.int _) (.cons (.int _) (.cons (.str _ (k q bS)) .nil))))) (d9.ofQ ⟨by have:=h.len;simpa using this,λi a x h1 h2=>h.at_ (i+1) a x h1 h2⟩ λF D=>k F (bE _ D))
def Vv (q:mD):List Nat:=q.2.2.2.map PyProof.Rows.lo1
def J7 (ws:AA)(q:mD):Bool:=!decide (Vv q∈ws)
noncomputable def Gi (aD:AA)(ws:AA)(ts:List cu):Option (List Nat):=if k_ aD ts=[] then some ([(pU ts).2.2].map PyProof.Rows.lo1) else ((k_ aD ts).find? (J7 ws)).map Vv
def Rm (C CB j:Addr):Sp:=λvs H Q E=>∃(b k d t:Addr) (ws:AA) (as:List Addr) (ts:List cu) (r w:Nat) (aD aV:AA) (bi bj:Nat),vs=[.ref b,.ref k,.ref t]/\dN C H b r w aD aV bi bj/\jd CB H k d ws/\H t=some (.tup (as.map V.ref))/\fW H as ts/\(∀t∈ts,inB r w t)/\0<ts.length/\ts.length<=7/\Iz ts/\
 (∀l,Gi aD ws ts=some l->∀(dx:Addr) (H':Hp),aB H H'->H' dx=some (.ext (XD dx [("word",.str (S l))]))->E (.ref j) (some dx) H')/\(Gi aD ws ts=none->∀H',aB H H'->Q .non H')
def jd.mv {C:Addr}{H H':Hp}{p d:Addr}{ws:AA}(B:jd C H p d ws)(s:aB H H'):jd C H' p d ws:=⟨let ⟨dx,e⟩:=B.ob;⟨dx,s _ _ e⟩,s _ _ B.dc,B.nd,B.az⟩
def Nf {aD:AA}{ts:List cu}(h:ts.length<=7):(k_ aD ts).length<=100:=by calc b8 (List.length_filter_le _ _) ?_;rw[aa];unfold Dn;rw[am,aa,aa,av];lia
open Classical in
def O7 {C CB CW f0 f1:Addr}{gk fB:FuncData}(D:aO K mg "check_words" sV sf)(Gj:vO K CB)(abe:Meth K CB "has" f1)(abf:cU P w K mg base eV 1 f1 fB s_ (afM CB))(abg:cD K fB s_ [])(T:rN K mg "NoWord" CW f0 ["word"])(Vw:cU P w K mg base eV 1 f0 gk sw (Ma CW "word"))(Dr:cD K gk sw [])(J8:cA P w K mg base "formed" 10 fx (J4 C))(Yi:cA P w K mg base "letter_of" 1 [tP] M7):DefX P w K mg base "check_words" 12 sf (Rm C CB CW):=by
 refine D.yQ j4 (λvs H Q E h=>?_) (λf bV A outer s H vs Q E hr h=>?_)
 .let⟨b,k,d,t,ws,as,ts,r,w,aD,aV,bi,bj,rfl,_⟩:=h;rfl
 .let⟨b,k,d,t,ws,as,ts,r,w,aD,aV,bi,bj,rfl,BA,BK,ht,hL,fZ,h0,h7,hl1,qE,q⟩:=h;let Vx:=T.M;let uc:=T.xU;let hb':=tL BA.ok.br fZ;let hp':=Dm BA.ok.br fZ BA.ok.cr;let hsg:=Vu hb' hp' fZ;let h20:=Yh hb' BA.ok.r9 BA.ok.w9 fZ;let hwl:=Nf (aD:=aD) h7;let hlt:∀q∈k_ aD ts,∀c∈q.2.2.2,c<128:=λq hq c hc=>(hsg q hq c hc).lt;calc(aG _ (au (aW (i:=3) j4.nd rL (Or.inl rL) (bQ J8 hr.mono rL (aj aH (aj bG ak)))) (au (cG (bT (BL hr.units) bU (bF ak) (bO _)) (aF (wY oW rL Vx Vw hr.mono qA uc Dr (aj (bQ Yi hr.mono rL (aj (aZ bI (aZ bI bG aq (λ_ _=>rfl)) aq (λ_ _=>rfl)) ak)) ak))) bR) (aF (h_ km rL (jh bU) (qF rL (cJ (bY (i:=4) j4.nd rL (Or.inl rL)) (cJ (bY (i:=5) j4.nd rL (Or.inl rL)) (cJ (bY (i:=6) j4.nd rL (Or.inl rL)) (cJ (bY (i:=7) j4.nd rL (Or.inl rL)) oU))))) (au (aW (i:=8) j4.nd rL (Or.inl rL) (Fb bv mi ml Ul gY)) (aF (cG (gU (fJ (qT bh Gj.cl abe abf hr.mono abg .nil gM (aj mQ ak)))) (aF (wY oW rL Vx Vw hr.mono qA uc Dr (aj mQ ak))) bR))))))) ?_);calc⟨b,t,as,ts,r,w,aD,aV,bi,bj,rL,BA,ht,hL,fZ,h0,h7,hl1,λT1 b1 H1 s1 hT1 hQ1=>?_⟩;generalize hW:k_ aD ts=W at hsg h20 hwl hlt hQ1;calc⟨zsz 0,λZ hZ=>?_⟩;let sZ:aB H1 (upd H1 Z (HO.tup [])):=aB.upd hZ;let eZ:upd H1 Z (HO.tup []) Z=some (.tup []):=aA;let Y:=sZ _ _ hT1;let G:=hQ1.mv sZ;let d7:=s1.trans sZ;generalize upd H1 Z (HO.tup [])=H2 at sZ eZ Y G d7 ⊢;calc(dJ 2 (.tup (W.map dQ)) (.tup []) qr (.tup (aQ.of Y) (d9.ofQ G hlt)) (.tup (aQ.of eZ) .nil) (bf _ rL ?_));let Ga:=G.len;cases I:W with
  | nil=>simp only[pv,decide_true];let⟨g0,e0⟩:=lg (hL.mv d7) h0;let hh:pU ts=ts[0]:=za h0;let hs0:=(fZ _ (ba h0)).2.2;calc cH (aY t _ _ (.ref as[0]) rL rL (aQ.of (d7 _ _ ht)) (aM (j:=0) (by simp[g0])) (aY (as[0]) _ _ _ rL rL (aQ.of e0) (aM (j:=2) rL) (iU (ts[0].2.2) rL hs0.lt (zsz 1) (λa na=>(aK a _ rL aA (λdx ne nd=>⟨rL,aG (some dx) aA ?_⟩))))));let⟨k1,k2⟩:=drop_new (q:=.ext (jP a (.ref CW) (some dx))) (p:=.ext (XD dx [("word",.str (S ([ts[0].2.2].map PyProof.Rows.lo1)))])) na ne nd;calc qE _ ?_ dx _ (d7.trans k1) k2;unfold Gi;rw[if_pos (hW.trans I),hh]
  | cons q0 Wr=>
   let hne:¬(Dt.tup (W.map dQ)=Dt.tup []):=λz=>by rw[I]at z;injection z with z;cases z
   let hmw:Gi aD ws ts=(W.find? (J7 ws)).map Vv:=by unfold Gi;rw[if_neg (by rw[hW,I];simp),hW]
   rw[<-I];rw[af hne];refine cI (bJ T1 rL ⟨_,aQ.of Y⟩ (Ib (K:=K) (a:=T1) (xs:=b1.map V.ref) (λn σ H'=>∃v4 v5 v6 v7 v8:Option V,σ=[some (.ref b),some (.ref k),some (.ref t),some (.ref T1),v4,v5,v6,v7,v8]/\aB H2 H'/\∀x∈W.take n,J7 ws x=false)
    ⟨none,none,none,none,none,rL,aB.refl _,λx hx=>by simp at hx⟩ (λn σ H' _ h=>by let⟨_,_,_,_,_,_,sm,_⟩:=h;show aQ.of (sm _ _ Y)) ?_ ?_))
   .intro n x σ H' hx z;let⟨v4,v5,v6,v7,v8,rfl,sm,F⟩:=z;let⟨hn,hx⟩:=rfg hx;let O:n<W.length:=qk;subst hx;let en:=(G.mv sm).at_ n _ _ (ac hn) (ac O);let hm:=ba O;let alQ:=h20 _ hm;calc(aU (b1[n]) _ rL (aQ.of en) rL (dW _ _ rL (dW _ _ rL (dW _ _ rL (aK _ _ rL rL ?_)))));calc⟨rL,nu (W[n].2.2.2) rL rL qk (hlt _ hm) ?_⟩;let BK':=BK.mv (d7.trans sm);let⟨dk,ek⟩:=BK'.ob;calc(dJ k dk _ rL ek rL ⟨k,d,ws,_,rL,BK',bf _ rL ?_⟩);cases J:J7 ws W[n] with
    | true=>rw[show (!decide (W[n].2.2.2.map PyProof.Rows.lo1∈ws))=true from J];calc cH ⟨zsz 1,λa na=>(aK a _ rL aA (λdx ne nd=>⟨rL,aG (some dx) aA ?_⟩))⟩;let⟨k1,k2⟩:=drop_new (q:=.ext (jP a (.ref CW) (some dx))) (p:=.ext (XD dx [("word",.str (S (Vv W[n])))])) na ne nd;calc qE _ ?_ dx _ ((d7.trans sm).trans k1) k2;rw[hmw,Zn O F J];rfl
    | false=>
     rw[show (!decide (W[n].2.2.2.map PyProof.Rows.lo1∈ws))=false from J];calc cI ⟨_,_,_,_,_,rL,sm,λx hx=>?_⟩;rw[c8,ac O]at hx;rcases be.mp hx with z|z;.show F x z
     .rw[bc.mp z];show J
   .intro σ H' z;let⟨v4,v5,v6,v7,v8,rfl,sm,F⟩:=z;rw[aa,Ga,cw]at F;show q (by rw[hmw,Zo F];rfl) H' (d7.trans sm)
inductive Vd
 | ok|nH (i j:Nat)|ud|gap (i j:Nat)|uf|jK (t:Nat)|nw (l:List Nat)
inductive qb (aD:AA) (r w bi bj:Nat) (ws:AA) (bB:List Nat) (ts:List cu):Vd->Prop
 | nH {u:cu} (h:Dp aD ts=some u):qb aD r w bi bj ws bB ts (.nH u.1 u.2.1)
 | ud (h1:Dp aD ts=none) (h:(vM ts||vN ts)=false):qb aD r w bi bj ws bB ts .ud
 | gap {i j:Nat} (h1:Dp aD ts=none) (h2:(vM ts||vN ts)=true) (h:M8 (fX aD ts) (pU ts).1 (oF ts).1 (pU ts).2.1 (oF ts).2.1 i j):qb aD r w bi bj ws bB ts (.gap i j)
 | uf (h1:Dp aD ts=none) (h2:(vM ts||vN ts)=true) (h3:IK (fX aD ts) (pU ts).1 (oF ts).1 (pU ts).2.1 (oF ts).2.1) (h:Eu aD r w bi bj ts=false):qb aD r w bi bj ws bB ts .uf
 | jK {t:Nat} (h1:Dp aD ts=none) (h2:(vM ts||vN ts)=true) (h3:IK (fX aD ts) (pU ts).1 (oF ts).1 (pU ts).2.1 (oF ts).2.1) (h4:Eu aD r w bi bj ts=true) (h:pZ (bB.map λc=>[c]) (ts.map (·.2.2))=.inl t):qb aD r w bi bj ws bB ts (.jK t)
 | nw {l:List Nat} (h1:Dp aD ts=none) (h2:(vM ts||vN ts)=true) (h3:IK (fX aD ts) (pU ts).1 (oF ts).1 (pU ts).2.1 (oF ts).2.1) (h4:Eu aD r w bi bj ts=true) (h5:∃left,pZ (bB.map λc=>[c]) (ts.map (·.2.2))=.inr left) (h:Gi aD ws ts=some l):qb aD r w bi bj ws bB ts (.nw l)
 | ok (h1:Dp aD ts=none) (h2:(vM ts||vN ts)=true) (h3:IK (fX aD ts) (pU ts).1 (oF ts).1 (pU ts).2.1 (oF ts).2.1) (h4:Eu aD r w bi bj ts=true) (h5:∃left,pZ (bB.map λc=>[c]) (ts.map (·.2.2))=.inr left) (h:Gi aD ws ts=none):qb aD r w bi bj ws bB ts .ok
structure Rn where
 lay:Addr
 nH:Addr
 ud:Addr
 gap:Addr
 uf:Addr
 jK:Addr
 nw:Addr
def VdX (c:Rn)(H:Hp)(cls:Value)(dd:Option Addr):Vd->Prop
 | .ok=>False
 | .nH i j=>cls=.ref c.nH/\∃dx,dd=some dx/\H dx=some (.ext (XD dx (Zm i j)))
 | .ud=>cls=.ref c.ud/\dd=none
 | .gap i j=>cls=.ref c.gap/\∃dx,dd=some dx/\H dx=some (.ext (XD dx (Zm i j)))
 | .uf=>cls=.ref c.uf/\dd=none
 | .jK t=>cls=.ref c.jK/\∃dx,dd=some dx/\H dx=some (.ext (XD dx [("tile",.str (S [t]))]))
 | .nw l=>cls=.ref c.nw/\∃dx,dd=some dx/\H dx=some (.ext (XD dx [("word",.str (S l))]))
def Zx {cs:List (Nat×Nat)}(h:gP cs=true):∀n,(hn:n+1<cs.length)->cs[n].1*1000+cs[n].2<cs[n+1].1*1000+cs[n+1].2:=λn hn=>by
 unfold gP at h;rw[eK]at h;have:=h (cs[n],cs[n+1]) (by
  calc bp (i:=n) ?_;rw[lj];show⟨ac qk,by rw[om,Nat.add_comm 1 n];show ac hn⟩)
 show dC this
theorem Vy {cs:List (Nat×Nat)}(h:gP cs=true):∀k n,(hn:n+k+1<cs.length)->cs[n].1*1000+cs[n].2<cs[n+k+1].1*1000+cs[n+k+1].2
 | 0,n,hn=>Zx h n hn
 | k+1,n,hn=>Nat.lt_trans (Vy h k n qk) (Zx h (n+k+1) hn)
def O8 {ts:List cu}{r w:Nat}(w9:w<=9)(Z:∀t∈ts,inB r w t)(h0:0<ts.length)(hr:gP (ts.map lF)=true)(hs:(vM ts||vN ts)=true):Iz ts:=by
 let G:=za h0;rw[qa]at hs;rcases hs with hs|hs
 .calc .inl ?_;unfold vM at hs;rw[eK]at hs;rw[iN];intro i j hi D _;rw[dC (hs _ (ba hi)),dC (hs _ (ba D))]
 .calc .inr ?_;unfold vN at hs;rw[eK]at hs;rw[iN];intro i j hi D F;let e1:=dC (hs _ (ba hi));let e2:=dC (hs _ (ba D));have:=Vy hr (j-i-1) i (by rw[aa];lia);simp only[show i+(j-i-1)+1=j by lia,List.getElem_map]at this;let this:ts[i].1*1000+ts[i].2.1<ts[j].1*1000+ts[j].2.1:=this;lia
def Vz {c:Nat}(h:rH c):sgN c:=by unfold rH uJ uI vo at h;simp at h;show h
def IW (K : W.Frag)(C CB : Addr)(c : Rn) : Sp := λvs H Q E => ∃(b k d : Addr) (ws : List (List Nat)) (bB : List Nat) (x : V) (r w : Nat) (aD aV : List (List Nat)) (bi bj : Nat), vs = [.ref b, .ref k, .str (S bB), x] /\ dN C H b r w aD aV bi bj /\ jd CB H k d ws /\ bB.length <= 63 /\
  ((∃o, M5 K H x o /\ layB r w o = false /\ ∀H', aB H H' -> E (.ref c.lay) none H') \/
   (∃(t : Addr) (as : List Addr) (ts : List cu), x = .ref t /\ H t = some (.tup (as.map V.ref)) /\ fW H as ts /\ (∀t ∈ ts, inB r w t) /\ 0<ts.length /\ ts.length <= 7 /\ gP (ts.map lF) = true /\
     (∀v cls dd H', qb aD r w bi bj ws bB ts v -> VdX c H' cls dd v -> aB H H' -> E cls dd H') /\ (qb aD r w bi bj ws bB ts .ok -> ∀H', aB H H' -> Q .non H')))
def Ng {C CB:Addr}{c:Rn}(D:aO K mg "check_laying" q_ li)(Az:mg "NoLaying"=some (.ref c.lay))(abh:W.excIn K c.lay jl "ValueError.__new__"=true)(Yj:cA P w K mg base "is_laying" 4 re (acR K C))(VB:DefX P w K mg base "check_free" 5 fx (Vl C c.nH))(J9:DefX P w K mg base "check_straight" 3 jj (Zr c.ud))(VD:DefX P w K mg base "check_gaps" 10 fx (Vm C c.gap))(O9:DefX P w K mg base "check_joined" 7 fx (Vn C c.uf))(w5:DefX P w K mg base "left_of" 3 sr (Nb c.jK))(R9:DefX P w K mg base "check_words" 12 sf (Rm C CB c.nw)):DefX P w K mg base "check_laying" 14 li (IW K C CB c):=by
 refine D.yQ Mj (λvs H Q E h=>?_) (λf bV A outer s H vs Q E hr h=>?_)
 .let⟨b,k,d,ws,bB,x,r,w,aD,aV,bi,bj,rfl,_⟩:=h;rfl
 .let⟨b,k,d,ws,bB,x,r,w,aD,aV,bi,bj,rfl,I,BK,h63,h⟩:=h;calc(aG _ (au (cG (gU (fJ (bQ Yj hr.mono rL (aj aH (aj bU ak))))) (aF (vH oW rL rL qA Az abh (aj (bA [110,111,32,108,97,121,105,110,103,32,102,111,114,32,116,104,105,115,32,98,111,97,114,100] qS) ak))) bR) (au (eG (mW VB hr.mono rL qX.all (aj aH (aj bU ak)))) (au (eG (mW J9 hr.mono rL qX.all (aj bU ak))) (au (eG (mW VD hr.mono rL qX.all (aj aH (aj bU ak)))) (au (eG (mW O9 hr.mono rL qX.all (aj aH (aj bU ak)))) (au (eG (mW w5 hr.mono rL qX.all (aj bG (aj (gG bv cE cK oR (bA [] qS) (aj (lY (ns:=rh) rL (kh.of li [] qB) (jh bU) (λ_ _ _ _ _=>(qU K rL (show (["row",tF,tP,tJ,"book","rack",tN]:List Str).Nodup by decide +kernel) rL rL rL qA qA qA)) (λ_ _ _ _ _=>fO) (λ_ _ _ _ _=>bG)) ak)) ak)))) (aF (eG (mW R9 hr.mono rL qX.all (aj aH (aj bh (aj bU ak)))))))))))) ?_);rcases h with⟨o,hD,hB,F⟩|⟨t,as,ts,rfl,ht,G,Z,h0,h7,Jw,F,q⟩
  .calc⟨b,x,o,r,w,aD,aV,bi,bj,rL,I,hD,λH1 s1=>(bf _ rL ?_)⟩;rw[hB];show cH ⟨zsz 1,F H1 s1⟩
  .let hal:=G.len;let hB:layB r w (some (ts.map mkT))=true:=by
    unfold layB;simp only;rw[Vg,aa,ai (show 1<=ts.length/\ts.length<=7 by lia),show gP (ts.map λt=>(t.1,t.2.1))=true from Jw,List.all_map];have:ts.all (mU r w ∘ mkT)=true:=eK.mpr λt ht=>aeD (Z t ht);rw[this];rfl
   calc⟨b,.ref t,some (ts.map mkT),r,w,aD,aV,bi,bj,rL,I,.tup ht (jR.of_lay G) (by rw[aa];lia),λH1 s1=>(bf _ rL ?_)⟩;rw[hB];calc cI ⟨True.intro,b,t,as,ts,r,w,aD,aV,bi,bj,rL,I.mv s1,s1 _ _ ht,G.mv s1,Z,λu hu dx H' s' hd=>F _ _ _ H' (.nH hu) ⟨rL,aG dx rL hd⟩ (s1.trans s'),λO H2 s2=>?_⟩;let d7:=s1.trans s2;calc⟨True.intro,Il t as ts rL (d7 _ _ ht) (G.mv d7) h0 h7 (λe H' s'=>F _ _ _ H' (.ud O e) ⟨rL,rL⟩ (d7.trans s')) (λY H3 s3=>?_)⟩;let gQ:=d7.trans s3;calc⟨True.intro,b,t,as,ts,r,w,aD,aV,bi,bj,rL,I.mv gQ,gQ _ _ ht,G.mv gQ,Z,h0,λi j e dx H' s' hd=>F _ _ _ H' (.gap O Y e) ⟨rL,aG dx rL hd⟩ (gQ.trans s'),λv3 H4 s4=>?_⟩;let i_:=gQ.trans s4;calc⟨True.intro,b,t,as,ts,r,w,aD,aV,bi,bj,rL,I.mv i_,i_ _ _ ht,G.mv i_,h7,λe H' s'=>F _ _ _ H' (.uf O Y v3 e) ⟨rL,rL⟩ (i_.trans s'),λv4 H5 s5=>?_⟩;let Cd:=i_.trans s5;let ht5:=Cd _ _ ht;refine(cj True.intro rL (bJ t rL ⟨_,aQ.of ht5⟩ (λN hN=>lR (K:=K) (KT:=K) (a:=t) (f:=kE [] 0) (tt:=nY) (xs:=as.map V.ref) (λn ys H6=>ys=Ts (ones ((ts.take n).map (·.2.2)))/\H6 N=some (.lst ys)/\aB H5 H6)
    (cj rL aA (aB.upd hN)) (λn ys H6 _ h=>aQ.of (h.2.2 _ _ ht5)) ?_ ?_)))
   .intro n x ys H6 hx z;let⟨rfl,vp,t_⟩:=z;let⟨hn,hx⟩:=rfg hx;let hnt:n<ts.length:=qk;let⟨_,en⟩:=lg (G.mv (Cd.trans t_)) hnt;calc yc hx.symm (aQ.of en) ?_;calc(cj vp ?_ (iV.mk (by rw[aa];show hn) (cj ?_ aA (t_.eE hN))));.rw[aa,aa,aa,av];show aN qk
    .rw[take_snoc (ac hnt)];simp[Ts,ones]
   .intro ys H6 z;let⟨rfl,vp,t_⟩:=z;rw[aa,hal,cw]at vp;let Ew:=Cd.trans t_;calc(cT N (ones (ts.map (·.2.2))) rL rL (bM.of vp) (by rw[jV,aa];lia) ?_);rw[jV];refine(wj bB (ts.map (·.2.2)) rL h63 (by rw[aa];lia) (λc hc=>?_) (λtl e dx H' s' hd=>F _ _ _ H' (.jK O Y v3 v4 e) ⟨rL,aG dx rL hd⟩ (Ew.trans s')) (λleft v5 ws' H7 s7 _ _=>?_))
    .let⟨u,hu,rfl⟩:=bd.mp hc;show(Vz (Z u hu).2.2).lt
    let J:=Ew.trans s7;calc⟨True.intro,b,k,d,t,ws,as,ts,r,w,aD,aV,bi,bj,rL,I.mv J,BK.mv J,J _ _ ht,G.mv J,Z,h0,h7,O8 I.ok.w9 Z h0 Jw Y,λl e dx H' s' hd=>F _ _ _ H' (.nw O Y v3 v4 ⟨left,v5⟩ e) ⟨rL,aG dx rL hd⟩ (J.trans s'),λv6 H8 s8=>?_⟩;show q (.ok O Y v3 v4 ⟨left,v5⟩ v6) H8 (J.trans s8)
def WD (kvs:List (Key×V)):Prop:=∀j∈kvs,∃(c:Nat) (i:Int),j=(dX [c],V.int i)/\97<=c/\c<=122
def wf (kvs:List (Key×V))(c:Nat):Int:=match iz kvs (dX [c]) with| some (.int i)=>i| _=>0
def ac0 {kvs:List (Key×V)}{k:Key}{v:V}(h:iz kvs k=some v):(k,v)∈kvs:=by
 unfold iz at h;cases e:kvs.find? (λj=>decide (j.1=k)) with
 | none=>rw[e]at h;cases h
 | some p=>
  rw[e]at h;let h:p.2=v:=bq h;let m:=ph e;let q:=List.find?_some e;let q:p.1=k:=by simpa using q
  rw[<-h,<-q];show m
def aiI {kvs:List (Key×V)}(h:WD kvs)(c:Nat):(iz kvs (dX [c])).getD (.int 0)=.int (wf kvs c):=by
 unfold wf;cases e:iz kvs (dX [c]) with| none=>rfl| some v=>let⟨d,i,q,_⟩:=h _ (ac0 e);have:v=V.int i:=congrArg Prod.snd q;subst this;rfl
def afN {kvs:List (Key×V)}(h:WD kvs){c:Nat}(j:¬(97<=c/\c<=122)):wf kvs c=0:=by
 unfold wf;cases e:iz kvs (dX [c]) with
 | none=>rfl
 | some v=>
  let⟨d,i,q,h1,h2⟩:=h _ (ac0 e);have:dX [c]=dX [d]:=congrArg Prod.fst q;have:S [c]=S [d]:=l_ this;have:[c]=[d]:=zK this;have:c=d:=by simpa using this
  lia
def Zy:Sp:=λvs H Q _=>∃(d:Addr) (kvs:List (Key×V)) (c:Nat),vs=[.ref d,.str (S [c])]/\Rd H d (.dK kvs)/\WD kvs/\Q (.int (wf kvs c)) H
def Yk (D:aO K mg "worth_of" yt tj):cA P w K mg base "worth_of" 1 tj Zy:=by
 calc D.d8 XR (λf bV A outer s H vs Q E hr h=>?_);let⟨d,kvs,c,rfl,hd,j,q⟩:=h;let F:=Sy hr;calc(aG _ (aF (bC (pJ (CP pX pX (bA [97] qS) bh (bA [122] qS)) (aeu F aH bh aq ⟨rL,rL,rL,rL⟩) aq))) ?_);calc(aK [97] [c] rL rL (bf (decide (97<=c)) (by rw[Ot]) ?_));by_cases c1:97<=c
 .rw[ai c1];calc cH (aK [c] [122] rL rL (bf _ rL ?_));rw[Ot];by_cases c2:c<=122
  .rw[ai c2];calc cH (bJ d rL (.inl ⟨_,hd⟩) (aG _ (Aq.rd (k:=dX [c]) hd) ?_));rw[aiI j];show q
  .rw[af c2];calc cI ?_;let e:=afN j (c:=c) qk;rw[e]at q;show q
 .rw[af c1];calc cI ?_;let e:=afN j (c:=c) qk;rw[e]at q;show q
def VF:Sp:=λvs H Q _=>∃(a:Addr) (q:mD) (n:Nat),vs=[.ref a,.int n]/\acL H a q/\q.2.2.1<=1/\
 ∀(t:Addr) (H':Hp),aB H H'->H' t=some (.tup [.int ((q.1+n*q.2.2.1:Nat):Int),.int ((q.2.1+n*(1-q.2.2.1):Nat):Int)])->Q (.ref t) H'
def abj (D:aO K mg "cell_in" zQ tq):cA P w K mg base "cell_in" 1 tq VF:=by
 calc D.d8 aaW (λf bV A outer s H vs Q E hr h=>?_);obtain⟨a,⟨i,j,wy,l⟩,n,rfl,ha,I,q⟩:=h;let F:=aQ.of (K:=K) ha;calc(aG _ (aF (bC (pJ (bT iC (aZ bI aH aq (λ_ _=>rfl)) aq (bO _)) (bF (aj (aZ bI aH aq (λ_ _=>rfl)) (aj (aJ dh (aZ bI aH aq (λ_ _=>rfl)) bh) ak))) (bF (aj (aJ dh (aZ bI aH aq (λ_ _=>rfl)) bh) (aj (aZ bI aH aq (λ_ _=>rfl)) ak)))))) ?_);calc(aY a _ _ _ rL rL F (aM (j:=2) rL) ?_);by_cases z:wy=0
 .subst z;calc⟨rL,cH (aY a _ _ _ rL rL F (aM (j:=0) rL) (aY a _ _ _ rL rL F (aM (j:=1) rL) (aU _ _ rL rL (zsz 2) (λt ht=>?_))))⟩;calc q t _ (aB.upd ht) ?_;rw[aA];simp
 .let G:wy=1:=by simp only at I;lia
  subst G;calc⟨rL,cI (aY a _ _ _ rL rL F (aM (j:=0) rL) (aK _ _ rL rL (gb a _ _ _ rL rL F (aM (j:=1) rL) (zsz 2) (λt ht=>?_))))⟩;calc q t _ (aB.upd ht) ?_;rw[aA];simp
def Jz (c:Nat):Int:=if c=50 then 2 else if c=51 then 3 else if c=52 then 4 else 1
def Ro (c:Nat):Int:=if c=98 then 2 else if c=99 then 3 else if c=100 then 4 else 1
def Zz:List (Key×V):=[(dX [50],.int 2),(dX [51],.int 3),(dX [52],.int 4)]
def ZC:List (Key×V):=[(dX [98],.int 2),(dX [99],.int 3),(dX [100],.int 4)]
def ZD (a b:Nat):decide (dX [a]=dX [b])=decide (a=b):=by
 by_cases h:a=b;.subst h;simp
 .have:¬dX [a]=dX [b]:=λz=>h (by have:=zK (l_ z);simpa using this)
  rw[af h,af this]
def aiJ (c:Nat):(iz Zz (dX [c])).getD (.int 1)=.int (Jz c):=by
 unfold iz Zz Jz;simp only[gy,ZD];by_cases h1:c=50;.subst h1;rfl
 by_cases h2:c=51;.subst h2;rfl
 by_cases h3:c=52;.subst h3;rfl
 rw[af (λz=>h1 z.symm),af (λz=>h2 z.symm),af (λz=>h3 z.symm),if_neg h1,if_neg h2,if_neg h3];rfl
def aiK (c:Nat):(iz ZC (dX [c])).getD (.int 1)=.int (Ro c):=by
 unfold iz ZC Ro;simp only[gy,ZD];by_cases h1:c=98;.subst h1;rfl
 by_cases h2:c=99;.subst h2;rfl
 by_cases h3:c=100;.subst h3;rfl
 rw[af (λz=>h1 z.symm),af (λz=>h2 z.symm),af (λz=>h3 z.symm),if_neg h1,if_neg h2,if_neg h3];rfl
def sx (q:mD)(k:Nat):Nat:=q.1+k*q.2.2.1
def sy (q:mD)(k:Nat):Nat:=q.2.1+k*(1-q.2.2.1)
noncomputable def JB (M:AA)(kvs:List (Key×V))(ts:List cu)(q:mD)(k c:Nat)(p:Int×Int):Int×Int:=if (sx q k,sy q k)∈ts.map lF then (p.1+wf kvs c*Jz (cell M (sx q k) (sy q k)),p.2*Ro (cell M (sx q k) (sy q k))) else (p.1+wf kvs c,p.2)
noncomputable def pC (M:AA)(kvs:List (Key×V))(ts:List cu)(q:mD):Nat->Int×Int
 | 0=>(0,1)
 | n+1=>JB M kvs ts q n (q.2.2.2.getD n 0) (pC M kvs ts q n)
noncomputable def Rp (M:AA)(kvs:List (Key×V))(ts:List cu)(q:mD):Int:=(pC M kvs ts q q.2.2.2.length).1*(pC M kvs ts q q.2.2.2.length).2
def aiL (c:Nat):1<=Jz c/\Jz c<=4:=by
 unfold Jz;split;.lia
 split;.lia
 split <;> lia
def aiM (c:Nat):1<=Ro c/\Ro c<=4:=by
 unfold Ro;split;.lia
 split;.lia
 split <;> lia
theorem aeK (M:AA)(kvs:List (Key×V))(ts:List cu)(q:mD):∀n,1<=(pC M kvs ts q n).2/\(pC M kvs ts q n).2<=4^n
 | 0=>⟨qf _,qf _⟩
 | n+1=>by
  let⟨h1,h2⟩:=aeK M kvs ts q n;show 1<=(JB _ _ _ _ _ _ _).2/\(JB _ _ _ _ _ _ _).2<=4^(n+1);unfold JB;rw[Int.pow_succ];split
  .let⟨w1,w2⟩:=aiM (cell M (sx q n) (sy q n));calc⟨?_,lx h2 w2 qk qk⟩;have:=lx h1 w1 qk qk;simpa using this
  .calc⟨h1,?_⟩;simp only;lia
def alq (M:AA)(kvs:List (Key×V))(ts:List cu)(q:mD){n:Nat}(hn:n<=20):-(2^64)<(pC M kvs ts q n).2/\(pC M kvs ts q n).2<2^64:=by
 let⟨h1,h2⟩:=aeK M kvs ts q n;let h3:(4:Int)^n<=4^20:=by
  have:=Nat.pow_le_pow_right (show 0<4 by decide) hn
  exact_mod_cast this
 let h4:(4:Int)^20=1099511627776:=by decide
 let h5:(2:Int)^64=18446744073709551616:=by decide
 lia
structure QIn (r w:Nat)(q:mD):Prop where
 way:q.2.2.1<=1
 len:q.2.2.2.length<=20
 inn:∀k,k<q.2.2.2.length->sx q k<r/\sy q k<w
def VG (C:Addr):Sp:=λvs H Q _=>∃(b d t a:Addr) (kvs:List (Key×V)) (as:List Addr) (ts:List cu) (q:mD) (r w:Nat) (aD aV:AA) (bi bj:Nat),vs=[.ref b,.ref d,.ref t,.ref a]/\dN C H b r w aD aV bi bj/\Rd H d (.dK kvs)/\WD kvs/\H t=some (.tup (as.map V.ref))/\fW H as ts/\ts.length<=7/\acL H a q/\QIn r w q/\
 ∀H',aB H H'->Q (.int (Rp aV kvs ts q)) H'
open Classical in
def ac1 {C gl gw:Addr}(D:aO K mg "word_points" sW rn)(rY:mg "enumerate"=none)(cM:iJ K C)(O_:mg "LETTER_MARKS"=some (.ref gl))(VH:mg "WORD_MARKS"=some (.ref gw))(kl:KDict P w K gl Zz)(kw:KDict P w K gw ZC)(uN:cA P w K mg base "cells_of" 1 jj z9)(ac2:cA P w K mg base "cell_in" 1 tq VF)(abk:cA P w K mg base "worth_of" 1 tj Zy):cA P w K mg base "word_points" 2 rn (VG C):=by
 calc D.d8 gC (λf bV A outer s H vs Q E hr h=>?_);let⟨b,d,t,a,kvs,as,ts,F,r,w',aD,aV,bi,bj,rfl,BA,hd,hW,ht,hL,h7,ha,hq,q⟩:=h;obtain⟨⟨dx,pr,pm,pb,hb,hpr,hpm,hpb⟩,B⟩:=BA;calc(aG _ (au (aW (i:=4) gC.nd rL (Or.inl rL) (bQ uN hr.mono rL (aj bG ak))) (au (aW (i:=5) gC.nd rL (Or.inl rL) aq) (au (aW (i:=6) gC.nd rL (Or.inl rL) aq) (au (h_ di rL (aeh qA rY (aj (aZ bI bU aq (λ_ _=>rfl)) ak)) (qF rL (cJ (bY (i:=7) gC.nd rL (Or.inl rL)) (cJ (bY (i:=8) gC.nd rL (Or.inl rL)) oU))) (au (aW (i:=9) gC.nd rL (Or.inl rL) (bQ ac2 hr.mono rL (aj bU (aj gY ak)))) (au (aW (i:=10) gC.nd rL (Or.inl rL) (bQ abk hr.mono rL (aj bh (aj mQ ak)))) (au (f9 (cG (bT (Y7 hr.units) lq cQ rL) (au (aW (i:=11) gC.nd rL (Or.inl rL) (aZ vG (aZ bI (cF aH rL) (aZ bI lq aq (λ_ _=>rfl)) (λ_ _=>rfl)) (aZ bI lq aq (λ_ _=>rfl)) (λ_ _=>rfl))) (au (aW (i:=10) gC.nd rL (Or.inl rL) (aJ jN jz (UJ (jg (v:=.ref _) qA O_ rL) oO aq ⟨rL,rL,rL,rL⟩))) (aF (aW (i:=6) gC.nd rL (Or.inl rL) (aJ jN fU (UJ (jg (v:=.ref _) qA VH rL) oO aq ⟨rL,rL,rL,rL⟩)))))) bR)) (aF (aW (i:=5) gC.nd rL (Or.inl rL) (aJ dh dD jz))))))) (aF (bC (aJ jN dD fU))))))) ?_);calc(gH t as ts rL ht hL qk (λLc cs H1 s1 hLc hcs=>?_));refine(aY a _ _ _ rL rL (aQ.of (s1 _ _ ha)) (aM (j:=3) rL) (aG _ rL (acB (l:=F.2.2.2) (λn σ Z=>∃v7 v8 v9 Y I:Option V,σ=[some (.ref b),some (.ref d),some (.ref t),some (.ref a),some (.ref Lc),some (.int (pC aV kvs ts F n).1),some (.int (pC aV kvs ts F n).2),v7,v8,v9,Y,I]/\aB H1 Z)
  ⟨none,none,none,none,none,rL,aB.refl _⟩ ?_ ?_)))
 .intro n c σ Z T hc z hT;let⟨v7,v8,v9,Y,I,rfl,s2⟩:=z;let hn:n<F.2.2.2.length:=(ah.mp hc).1;let⟨hx,hy⟩:=hq.inn n hn;let kT:aB Z (upd Z T (HO.tup [.int n,.str (S [c])])):=aB.upd hT;calc(aU T _ rL (aQ.of aA) rL (dW _ _ rL (aK _ _ rL rL ?_)));let s3:=(s1.trans s2).trans kT;let qz:=s2.trans kT;generalize upd Z T (HO.tup [.int n,.str (S [c])])=H3 at kT s3 qz ⊢;calc(dJ a F n rL (s3 _ _ ha) hq.way (λg H4 s4 hg=>?_));let J:=s3.trans s4;calc(dJ d kvs c rL (hd.mv J) hW ?_);let gi:sx F n<aV.length:=by rw[B.bm.len];show hx
  let hwi:aV[sx F n].length=w':=B.bm.uK _ (ba _);let gj:sy F n<aV[sx F n].length:=by rw[hwi];show hy
  let O:aV.getD (sx F n) []=aV[sx F n]:=by rw[aE,ac gi];rfl
  let w9:=B.w9;let hgd:F.2.2.2.getD n 0=c:=by rw[aE,hc];rfl
  let G:pC aV kvs ts F (n+1)=JB aV kvs ts F n c (pC aV kvs ts F n):=by rw[<-hgd];rfl
  let hg:H4 g=some (.tup [.int (sx F n:Nat),.int (sy F n:Nat)]):=hg;refine⟨λσ H'=>∃(wv:Int) (u11:Option V),σ=[some (.ref b),some (.ref d),some (.ref t),some (.ref a),some (.ref Lc),some (.int (pC aV kvs ts F n).1),some (.int (pC aV kvs ts F (n+1)).2),some (.int n),some (.str (S [c])),some (.ref g),some (.int wv),u11]/\aB H1 H'/\(pC aV kvs ts F n).1+wv=(pC aV kvs ts F (n+1)).1,?_,?_⟩
  .let O4:=hcs.mv (qz.trans s4);calc(dJ 2 (.tup [.int (sx F n:Nat),.int (sy F n:Nat)]) ((ts.map lF).map λc=>Dt.tup [.int c.1,.int c.2]) qr (.tup (aQ.of hg) (.cons (.int _) (.cons (.int _) .nil))) (.lst (bM.of ((qz.trans s4) _ _ hLc)) (d9.ofP O4)) ?_);simp only[f_,if_false];by_cases hm:(sx F n,sy F n)∈ts.map lF
   .rw[ai (M9 (c:=(sx F n,sy F n)).mpr hm)];calc(cR b C dx _ _ rL (J _ _ hb) cM.cl cM.nm rL (aY g _ _ _ rL rL (aQ.of hg) (aM (j:=0) rL) (aY pm _ _ (.str (S (aV.getD (sx F n) []))) rL rL (aQ.of (J _ _ hpm)) (aM ?_) (aY g _ _ _ rL rL (aQ.of hg) (aM (j:=1) rL) ?_))));.rw[O];show lE (ac gi)
    generalize hmm:cell aV (sx F n) (sy F n)=m;calc(gH _ _ m rL rL (ap (aN (by rw[O,hwi];lia))) (aM (by rw[<-hmm,O,cell_eq gi gj];show ac gj)) ?_);let⟨l1,l2⟩:=aiL m;let⟨w1,w2⟩:=aiM m;let e:pC aV kvs ts F (n+1)=((pC aV kvs ts F n).1+wf kvs c*Jz m,(pC aV kvs ts F n).2*Ro m):=by rw[G];unfold JB;rw[if_pos hm,hmm]
    calc(aK gl Zz rL kl (aG (dX [m]) rL (aU _ (Jz m) rL (aiJ m) (.inr ⟨qk,qk⟩) ?_)));calc(aK gw ZC rL kw (aG (dX [m]) rL (aU _ (Ro m) rL (aiK m) (.inr ⟨qk,qk⟩) ?_)));calc(aK (wf kvs c*Jz m) (some (.str (S [m]))) ?_ (qz.trans s4) ?_);.rw[e];rfl
    .rw[e]
   .rw[af (λz=>hm (M9 (c:=(sx F n,sy F n)).mp z))];let e:pC aV kvs ts F (n+1)=((pC aV kvs ts F n).1+wf kvs c,(pC aV kvs ts F n).2):=by rw[G];unfold JB;rw[if_neg hm]
    calc(aK (wf kvs c) I ?_ (qz.trans s4) ?_);.rw[e];rfl
    .rw[e]
  .intro σ H' z;let⟨wv,u11,rfl,s5,ew⟩:=z;calc(aK _ _ rL rL ?_);show⟨_,_,_,_,_,by rw[<-ew];rfl,s5⟩
 .intro σ Z z;let⟨v7,v8,v9,Y,I,rfl,s2⟩:=z;calc(aK _ _ rL rL ?_);show⟨.inr (alq _ _ _ _ hq.len),q _ (s1.trans s2)⟩
def ZF {r w:Nat}{R:AA}(hb:Blk r w R)(r9:r<=9)(w9:w<=9){i j wy:Nat}(hi:i<r)(J:j<w)(G:wy<=1):QIn r w (vL R i j wy):=by
 calc⟨G,J3 hb r9 w9 hi,λk F=>?_⟩;let D:=yC hb hi (j:=j) (way:=(wy:Int));let F:k<(jC ((lineOf R i j (wy:Int)).take (placeOf i j (wy:Int)))++kj ((lineOf R i j (wy:Int)).drop (placeOf i j (wy:Int)))).length:=F;rw[am]at F;let a1:=tY ((lineOf R i j (wy:Int)).take (placeOf i j (wy:Int)));let a2:=zY ((lineOf R i j (wy:Int)).drop (placeOf i j (wy:Int)));rw[av]at a1;rw[aS]at a2;unfold sx sy;by_cases z:wy=0
 .subst z;let ep:placeOf i j ((0:Nat):Int)=j:=if_pos rfl;rw[ep]at F a1 a2;let D:(lineOf R i j ((0:Nat):Int)).length=w:=by rw[D];show if_pos rfl
  rw[D]at a1 a2;show i+k*0<r/\(j-(jC ((lineOf R i j ((0:Nat):Int)).take j)).length)+k*(1-0)<w;lia
 .let I:wy=1:=qk;subst I;let ep:placeOf i j ((1:Nat):Int)=i:=if_neg qr;rw[ep]at F a1 a2;let D:(lineOf R i j ((1:Nat):Int)).length=r:=by rw[D];show if_neg qr
  rw[D]at a1 a2;show (i-(jC ((lineOf R i j ((1:Nat):Int)).take i)).length)+k*1<r/\j+k*(1-1)<w;lia
def VJ {r w:Nat}{aD:AA}(hb:Blk r w aD)(r9:r<=9)(w9:w<=9){ts:List cu}(Z:∀t∈ts,inB r w t){q:mD}(h:q∈k_ aD ts):QIn r w q:=by
 unfold k_ at h;let⟨a,ha,rfl⟩:=bd.mp (js.mp h).1;let j:=tL hb Z;let F:=acM ts;rcases be.mp ha with z|z
 .let⟨u,D,rfl⟩:=bd.mp z;let⟨h1,h2,_⟩:=Z u (cf D);show ZF j r9 w9 h1 h2 F
 .let⟨u,D,rfl⟩:=bd.mp z;let⟨h1,h2,_⟩:=Z u D;show ZF j r9 w9 h1 h2 (show 1-pB ts<=1 by lia)
def aiN {kvs:List (Key×V)}{c0:Nat}{i:Int}(c:Nat):wf (putK kvs (dX [c0]) (.int i)) c=if c=c0 then i else wf kvs c:=by
 unfold wf;rw[ad3];by_cases h:c=c0;.rw[if_pos h,if_pos (by rw[h])]
 .rw[if_neg h,if_neg (λz=>h (by have:=zK (l_ z);simpa using this))]
def WD.put {kvs:List (Key×V)}(h:WD kvs){c:Nat}(i:Int)(h1:97<=c)(h2:c<=122):WD (putK kvs (dX [c]) (.int i)):=by
 unfold putK;intro j m;split at m
 .let⟨p,hp,rfl⟩:=bd.mp m;split
  .rename_i e;show(aK c i (by rw[e]) h1 h2)
  .show h p hp
 .rcases be.mp m with m|m;.show h j m
  .rw[bc.mp m];show(aK c i rL h1 h2)
def WB (b:Int)(kvs:List (Key×V)):Prop:=∀c,0<=wf kvs c/\wf kvs c<=b
def WB.put {b:Int}{kvs:List (Key×V)}(h:WB b kvs){c:Nat}{i:Int}(h1:0<=i)(h2:i<=b):WB b (putK kvs (dX [c]) (.int i)):=λe=>by
 rw[aiN];split;.show⟨h1,h2⟩
 .show h e
def ZG:Sp:=λvs H Q _=>∃(pb t:Addr) (as:List Addr) (n m:Int),vs=[.ref pb,.ref t]/\H pb=some (.tup [.int n,.int m])/\H t=some (.tup (as.map V.ref))/\Q (.int (if n<=(as.length:Int) then m else 0)) H
def Yl (D:aO K mg "bonus_of" yu sv)(G:mg "len"=none):cA P w K mg base "bonus_of" 1 sv ZG:=by
 calc D.d8 XS (λf bV A outer s H vs Q E hr h=>?_);let⟨pb,t,as,n,m,rfl,F,ht,q⟩:=h;calc(aG _ (aF (bC (pJ (bT Ie (aP b_ qA G ay (aj bh ak)) (aZ bI aH aq (λ_ _=>rfl)) (bO _)) (aZ bI aH aq (λ_ _=>rfl)) aq))) ?_);calc(aK t _ rL (.inr (aQ.of ht)) (aY pb _ _ _ rL rL (aQ.of F) (aM (j:=0) rL) (aK _ _ rL rL (bf _ rL ?_))));rw[aa];by_cases c:n<=(as.length:Int)
 .rw[if_pos c]at q;rw[ai c];show cH (aY pb _ _ _ rL rL (aQ.of F) (aM (j:=1) rL) q)
 .rw[if_neg c]at q;rw[af c];show cI q
theorem aiO {M:AA}{kvs:List (Key×V)}{ts:List cu}{q:mD}(hB:WB 1000000 kvs):∀n,0<=(pC M kvs ts q n).1/\(pC M kvs ts q n).1<=4000000*(n:Int)
 | 0=>⟨qf _,by show (0:Int)<=4000000*0;decide⟩
 | n+1=>by
  let⟨h1,h2⟩:=aiO (M:=M) (ts:=ts) (q:=q) hB n;let⟨b1,b2⟩:=hB (q.2.2.2.getD n 0);show 0<=(JB _ _ _ _ _ _ _).1/\(JB _ _ _ _ _ _ _).1<=4000000*((n+1:Nat):Int)
  unfold JB;split
  .let⟨w1,w2⟩:=aiL (cell M (sx q n) (sy q n));let m1:=Int.mul_nonneg b1 (show 0<=Jz (cell M (sx q n) (sy q n)) by lia);let m2:=lx b2 w2 qk qr;simp only;lia
  .simp only;lia
def alr {M:AA}{kvs:List (Key×V)}{ts:List cu}{q:mD}{r w:Nat}(hB:WB 1000000 kvs)(j:QIn r w q)(r9:r<=9)(w9:w<=9):-1000000000000000<=Rp M kvs ts q/\Rp M kvs ts q<=1000000000000000:=by
 let hl:q.2.2.2.length<=9:=by
  rcases lv q.2.2.2.length with z|z;.lia
  let h:=j.inn (q.2.2.2.length-1) qk;let hw:=j.way;unfold sx sy at h;by_cases c:q.2.2.1=0;.rw[c]at h;lia
  .rw[show q.2.2.1=1 by lia]at h;lia
 unfold Rp;let⟨h1,h2⟩:=aiO (M:=M) (ts:=ts) (q:=q) hB q.2.2.2.length;let⟨h3,h4⟩:=aeK M kvs ts q q.2.2.2.length;let h5:(4:Int)^q.2.2.2.length<=4^9:=by
  have:=Nat.pow_le_pow_right (show 0<4 by decide) hl
  exact_mod_cast this
 let D:(4:Int)^9=262144:=by decide
 rw[D]at h5;let h7:=Int.mul_nonneg h1 (show 0<=(pC M kvs ts q q.2.2.2.length).2 by lia);let F:=lx (show (pC M kvs ts q q.2.2.2.length).1<=36000000 by lia) (show (pC M kvs ts q q.2.2.2.length).2<=262144 by lia) qk qr;lia
noncomputable def abl (aD aV:AA)(kvs:List (Key×V))(ts:List cu)(n m:Int):Int:=((k_ aD ts).map (Rp aV kvs ts)).sum+if n<=(ts.length:Int) then m else 0
def abm (C:Addr):Sp:=λvs H Q _=>∃(b d pb t:Addr) (kvs:List (Key×V)) (n m:Int) (as:List Addr) (ts:List cu) (r w:Nat) (aD aV:AA) (bi bj:Nat),vs=[.ref b,.ref d,.ref pb,.ref t]/\dN C H b r w aD aV bi bj/\Rd H d (.dK kvs)/\WD kvs/\WB 1000000 kvs/\H pb=some (.tup [.int n,.int m])/\H t=some (.tup (as.map V.ref))/\fW H as ts/\(∀t∈ts,inB r w t)/\0<ts.length/\ts.length<=7/\Iz ts/\
 ∀H',aB H H'->Q (.int (abl aD aV kvs ts n m)) H'
def VL {C:Addr}(D:aO K mg "points_of" wF oA)(Ni:mg "sum"=none)(J8:cA P w K mg base "formed" 10 fx (J4 C))(R_:cA P w K mg base "word_points" 2 rn (VG C))(abn:cA P w K mg base "bonus_of" 1 sv ZG):cA P w K mg base "points_of" 11 oA (abm C):=by
 calc D.d8 FJ (λf bV A outer s H vs Q E hr h=>?_);let⟨b,d,pb,t,kvs,n,m,as,ts,r,w,aD,aV,bi,bj,rfl,I,hd,hW,hB,hpb,ht,Z,fZ,h0,h7,O,q⟩:=h;calc(aG _ (au (YT (ix:=4) (ns:=["word"]) FJ.nd rL (Or.inl rL) rL (kh.of [tJ,t6,"bonus",tN,"counted"] [] qB) (jh (bQ J8 hr.mono rL (aj aH (aj bU ak)))) (λ_ _ _ _ _=>(Ih (show (["word",tJ,t6,"bonus",tN,"counted"]:List Str).Nodup by decide +kernel) rL qA)) (λ_ _ _ _ _=>fO) (λ_ _ _ _ _=>(bQ R_ hr.mono rL (aj bh (aj bG (aj cQ (aj aH ak))))))) (aF (bC (aJ dh (aP (acD rL) qA Ni PyProof.Rows.boot_sum (aj cQ ak)) (bQ abn hr.mono rL (aj bG (aj bU ak))))))) ?_);calc⟨b,t,as,ts,r,w,aD,aV,bi,bj,rL,I,ht,Z,fZ,h0,h7,O,λT bs H1 s1 hT hQ=>?_⟩;let hql:=Nf (aD:=aD) h7;let Ga:bs.length=(k_ aD ts).length:=hQ.len;refine(bJ T rL ⟨_,aQ.of hT⟩ (λM hM=>LC (K:=K) (a:=T) (f:=kE [] 0) (tt:=nY) (xs:=bs.map V.ref) (λi ys G=>ys=((k_ aD ts).take i).map (λq=>V.int (Rp aV kvs ts q))/\G M=some (.lst ys)/\aB H1 G)
  (cj rL aA (aB.upd hM)) (λi ys G _ h=>aQ.of (h.2.2 _ _ hT)) ?_ ?_))
 .intro i x ys G hx z;let⟨rfl,J,s2⟩:=z;let⟨hi,hx⟩:=rfg hx;let hiw:i<(k_ aD ts).length:=qk;subst hx;let⟨qq,eq,Y⟩:=(hQ.mv s2).get hi;let hB2:=I.1;let⟨_,F⟩:=id I;let hqi:=VJ F.br F.r9 F.w9 fZ (bp eq);let j:=s1.trans s2;calc afF ⟨b,d,t,bs[i],kvs,as,ts,qq,r,w,aD,aV,bi,bj,rL,I.mv j,hd.mv j,hW,j _ _ ht,Z.mv j,h7,Y,hqi,λH3 s3=>?_⟩;calc(cj (s3 _ _ J) (by rw[aa,av];show aN qk) (iV.mk (by rw[aa];show hi) (cj ?_ aA ((s2.trans s3).eE hM))));rw[c8,eq,bP];rfl
 .intro ys G z;let⟨rfl,J,s2⟩:=z;rw[aa,Ga,cw]at J;let⟨_,F⟩:=id I;let j:=s1.trans s2;let als:G M=some (.lst (((k_ aD ts).map (Rp aV kvs ts)).map V.int)):=by rw[gc];show J
  refine(cT M ((k_ aD ts).map (Rp aV kvs ts)) rL (bM.of als) (by rw[aa];lia) (λx hx=>?_) (S6 pb t as n m rL (j _ _ hpb) (j _ _ ht) (aK _ _ rL rL ?_)))
  .let⟨qq,hq,rfl⟩:=bd.mp hx;show alr hB (VJ F.br F.r9 F.w9 fZ hq) F.r9 F.w9
  .rw[Z.len];show q G j
def VN {a b:AA}(p:a.Perm b)(h1:a.Pairwise (λx y=>decide (y<x)=false))(h2:b.Pairwise (λx y=>decide (y<x)=false)):a=b:=p.eq_of_pairwise (le:=λx y=>decide (y<x)=false) (λx y _ _ D j=>List.le_antisymm (List.not_lt.mp (ie D)) (List.not_lt.mp (ie j))) h1 h2
def Pa {xs:List V}{b:Nat}(h:b<=xs.length):jy xs none (some (b:Int))=xs.take b:=by unfold jy;rw[HT.mV,HT.vC,fS h];simp
def Gk {xs:List V}{a:Nat}(h:a<=xs.length):jy xs (some (a:Int)) none=xs.drop a:=by unfold jy;rw[HT.mV,HT.vC,fS h,cz (by rw[aS];lia)]
def fu (l:List Nat):List Nat:=l.mergeSort (λa b=>decide (a<=b))
def iK (l:List Nat):(fu l).Perm l:=List.mergeSort_perm _ _
def aiP {a b:Nat}:(decide ([b]<[a])=false)↔a<=b:=by rw[decide_eq_false_iff_not,io];simp
def VP (l:List Nat):((fu l).map λc=>[c]).Pairwise (λa b=>decide (b<a)=false):=by rw[List.pairwise_map];have:=List.pairwise_mergeSort (le:=λa b:Nat=>decide (a<=b)) (λa b c h1 h2=>by simp at *;lia) (λa b=>by simp;lia) l;show this.imp λh=>aiP.mpr (dC h)
def zj {l:List Nat}{ws:AA}(pm:ws.Perm (l.map λc=>[c]))(pw:ws.Pairwise (λa b=>decide (b<a)=false)):ws.flatten=fu l:=by let e:=VN (pm.trans ((iK l).map λc=>[c]).symm) pw (VP l);rw[e];show jV _
def ac3 {a b:List Nat}(h:a.Perm b):fu a=fu b:=by
 let e:=VN (((iK a).trans (h.trans (iK b).symm)).map λc=>[c]) (VP a) (VP b);have:=congrArg List.flatten e
 rwa [jV,jV]at this
def Tg:Sp:=λvs H Q _=>∃l:List Nat,vs=[.str (S l)]/\l.length<64/\∀H',aB H H'->Q (.str (S (fu l))) H'
def Ym (D:aO K mg "in_order" yw ["tiles"])(F:mg "sorted"=none):cA P w K mg base "in_order" 1 ["tiles"] Tg:=by
 calc D.d8 X3 (λf bV A outer s H vs Q E hr h=>?_);let⟨l,rfl,j,q⟩:=h;calc(aG _ (aF (bC (gG bv cE cK oR (bA [] qS) (aj (aP (xH rL) qA F gd (aj aH ak)) ak)))) ?_);calc⟨rL,bJ l rL j (λp ls hp pm pw=>?_)⟩;calc(cT p (ls.map λc=>[c]) rL rL (bM.of aA) ?_ ?_);.rw[jV,pm.length_eq];lia
 .rw[zj (pm.map λc=>[c]) pw];show q _ (aB.upd hp)
def VR:Sp:=λvs H Q _=>∃(a:Addr) (xs:List V) (i:Nat) (v:V),vs=[.ref a,.int i,v]/\H a=some (.tup xs)/\i<xs.length/\xs.length<=63/\∀p H',aB H H'->H' p=some (.tup (xs.set i v))->Q (.ref p) H'
def V0 (D:aO K mg "exchanged" wH rj):cA P w K mg base "exchanged" 1 rj VR:=by
 calc D.d8 U3 (λf bV A outer s H vs Q E hr h=>?_);let⟨a,xs,i,v,rfl,ha,hi,h63,q⟩:=h;calc(aG _ (aF (bC (aJ yH (aJ yH (dj yI aH eO (dM bh)) (bF (aj bG ak))) (dj yI aH (dM (aJ dh bh aq)) eO)))) ?_);calc(aG _ rL (aK a xs rL ha (λp1 H1 s1 h1=>?_)));calc⟨zsz 1,λp2 O=>?_⟩;let e2:upd H1 p2 (HO.tup [v]) p2=some (.tup [v]):=aA;let s2:aB H1 (upd H1 p2 (HO.tup [v])):=aB.upd O;generalize upd H1 p2 (HO.tup [v])=H2 at e2 s2 ⊢;let j:(jy xs none (some (i:Int)))=xs.take i:=Pa qk;let G:(jy xs (some ((i:Int)+1)) none)=xs.drop (i+1):=Gk (a:=i+1) qk;rw[j]at h1;calc(lU p1 p2 _ _ rL rL (aQ.of (s2 _ _ h1)) (aQ.of e2) ?_ (λ_=>e2) (λz=>absurd z qo) (λp3 Z I h3=>?_));.rw[av];show ap (aN (by simp;lia))
 calc(aK _ _ rL rL (aG _ rL (aK a xs rL (I _ _ (s2 _ _ (s1 _ _ ha))) (λp4 H4 F h4=>?_))));rw[G]at h4;calc(lU p3 p4 _ _ rL rL (aQ.of (F _ _ h3)) (aQ.of h4) ?_ (λz=>by simp at z) (λ_ _=>F _ _ h3) (λp5 J Y h5=>?_));.rw[am,av,aS];show ap (aN (by simp;lia))
 calc q p5 J ((((s1.trans s2).trans I).trans F).trans Y) ?_;rw[h5,iO,if_pos hi];simp
def afO {X:Cx}{S:St->Prop}:tW (vm X.prog X.w) X (λ_ _ _=>False) S:=λ_ _ _ _ _ _ _ _ ⟨_,_,_,_,_,_,_,z⟩=>z.elim
noncomputable def qO:List Nat->List Nat->Option (List Nat)
 | l,[]=>some l
 | l,c::cs=>if iD c∈l then qO (l.erase (iD c)) cs else none
theorem qP (c:Nat):∀l:List Nat,(l.map λc=>[c]).erase [c]=(l.erase c).map λc=>[c]
 | []=>rfl
 | a::l=>by
  rw[cq,List.erase_cons,List.erase_cons];by_cases e:a=c;.subst e;simp
  .rw[if_neg (by simpa using e),if_neg (by simpa using e),qP c l];rfl
theorem Ce:∀{cs l j:List Nat},qO l cs=some j->pZ (l.map λc=>[c]) cs=.inr (j.map λc=>[c])
 | [],l,j,h=>by cases h;rfl
 | c::cs,l,j,h=>by
  unfold qO at h;split at h
  .rename_i hm;unfold pZ;rw[if_pos (bd.mpr (aG _ hm rL)),qP];show Ce h
  .cases h
theorem yK:∀{cs l j:List Nat},qO l cs=some j->j.length+cs.length=l.length
 | [],l,j,h=>by cases h;rfl
 | c::cs,l,j,h=>by
  unfold qO at h;split at h
  .rename_i hm;have:=yK h;rw[List.length_erase_of_mem hm]at this;have:=List.length_pos_of_mem hm;simp only[dA];lia
  .cases h
theorem vP:∀{cs l j:List Nat},qO l cs=some j->∀c∈j,c∈l
 | [],l,j,h=>by cases h;show λ_ h=>h
 | c::cs,l,j,h=>by
  unfold qO at h;split at h;.show λd hd=>mM (vP h d hd)
  .cases h
def V1:Sp:=λvs H Q _=>∃(bB l:List Nat) (t:Addr) (as:List Addr) (ts:List cu),vs=[.str (S bB),.ref t]/\H t=some (.tup (as.map V.ref))/\fW H as ts/\ts.length<=7/\bB.length<=63/\(∀t∈ts,sgN t.2.2)/\qO bB (ts.map (·.2.2))=some l/\∀H',aB H H'->Q (.str (S (fu l))) H'
def Pb {C:Addr}(D:aO K mg "left_behind" sX sq)(w5:DefX P w K mg base "left_of" 3 sr (Nb C)):cA P w K mg base "left_behind" 4 sq V1:=by
 calc D.d8 Oq (λf bV A outer s H vs Q E hr h=>?_);let⟨bB,l,t,as,ts,rfl,ht,hL,h7,h63,O,Nj,q⟩:=h;let Y:=hL.len;calc(aG _ (aF (bC (mW w5 hr.mono rL (afO (S:=λ_=>True)) (aj aH (aj (gG bv cE cK oR (bA [] qS) (aj (lY (ns:=rh) rL (kh.of sq [] qB) (jh bh) (λ_ _ _ _ _=>(qU K rL (show (["row",tF,tP,"rack",tN]:List Str).Nodup by decide +kernel) rL rL rL qA qA qA)) (λ_ _ _ _ _=>fO) (λ_ _ _ _ _=>bG)) ak)) ak))))) ?_);refine(cj True.intro rL (bJ t rL ⟨_,aQ.of ht⟩ (λN Z=>lR (K:=K) (KT:=K) (a:=t) (f:=kE [] 0) (tt:=nY) (xs:=as.map V.ref) (λn ys j=>ys=Ts (ones ((ts.take n).map (·.2.2)))/\j N=some (.lst ys)/\aB H j)
  (cj rL aA (aB.upd Z)) (λn ys j _ h=>aQ.of (h.2.2 _ _ ht)) ?_ ?_)))
 .intro n x ys j hx z;let⟨rfl,I,J⟩:=z;let⟨hn,hx⟩:=rfg hx;let G:n<ts.length:=qk;let⟨_,en⟩:=lg (hL.mv J) G;calc yc hx.symm (aQ.of en) ?_;calc(cj I ?_ (iV.mk (by rw[aa];show hn) (cj ?_ aA (J.eE Z))));.rw[aa,aa,aa,av];show aN qk
  .rw[show ts.take (n+1)=ts.take n++[ts[n]] by rw[c8,ac G];rfl];simp only[Ts,ones,bP];rfl
 .intro ys j z;let⟨rfl,I,J⟩:=z;rw[aa,Y,cw]at I;calc(cT N (ones (ts.map (·.2.2))) rL rL (bM.of I) (by rw[jV,aa];lia) ?_);rw[jV];let F:=Ce Nj;refine(wj bB (ts.map (λt:cu=>t.2.2)) rL h63 (by rw[aa];lia) (λc hc=>?_) (λt e=>?_) (λleft e ws H7 s7 pm pw=>?_))
  .let⟨u,hu,rfl⟩:=bd.mp hc;show(O u hu).lt
  .rw[F]at e;cases e
  rw[F]at e;cases e;rw[zj pm pw];show q H7 (J.trans s7)
def o8 (c:Nat):Prop:=isLet c\/c=63
def o8.lt {c:Nat}(h:o8 c):c<128:=by
 rcases h with h|h;.have:=h.2;lia
 .lia
def zm (c:Nat):Bool:=decide ([c]=[63])||(!decide ([c]<[97]) && !decide ([122]<[c]))
def aiQ {c:Nat}(h:o8 c):zm c=true:=by
 unfold zm;rcases h with h|h
 .let⟨a1,a2⟩:=acU h;rw[a1,a2];simp
 .rw[h];rfl
def J_ (l:List Nat):Bool:=!decide (l=[])&&l.all zm
def agL {l:List Nat}(h0:l≠[])(h:∀c∈l,o8 c):J_ l=true:=by unfold J_;rw[af h0,eK.mpr λc j=>aiQ (h c j)];rfl
def ZJ (K:W.Frag):Sp:=λvs H Q _=>∃x:V,vs=[x]/\((Ax K "str" H x/\Q (.bl false) H)\/∃l:List Nat,x=.str (S l)/\l.length<=63/\∀H',aB H H'->Q (.bl (J_ l)) H')
def V2 (D:aO K mg "are_tiles" wG ey)(bK:mg "isinstance"=none)(yx:mg "str"=none)(gZ:mg "all"=none)(J:∃t,mg "BLANK"=some (.str (S [63]) t)):cA P w K mg base "are_tiles" 1 ey (ZJ K):=by
 calc D.d8 FN (λf bV A outer s H vs Q E hr h=>?_);let⟨x,rfl,h⟩:=h;calc(aG _ (au (cG (QW.qt (pI (gU (fJ (aP iG qA bK a9 (aj aH (aj (lV (v:=.ty "str") qA yx mI rL) ak))))) (m8 (bT kY aH (bA [] qS) (bO _))))) (aF (bC jr)) bR) (aF (bC (aP (lK rL) qA gZ kZ (aj (jY rL (jW.of FN.nd qB) (qG aH) (λ_ _ _ _ _=>fO) (λ_ _ _ _ _=>(Sv (gq kY aH (vZ qA J) (bO _)) (kI (nU pX pX (bA [97] qS) aH (bA [122] qS)))))) ak))))) ?_);rcases h with⟨⟨t,ty,kt⟩,q⟩|⟨l,rfl,h63,q⟩;.show(gO _ _ _ false rL ty kt (cH q))
 calc(gO _ _ _ true rL (.str _) qB (cI (aK l [] rL rL (bf _ rL ?_))));by_cases I:l=[]
 .subst I;show cH (q H (aB.refl _))
 rw[af I];refine cI (aG l rL (λL Z=>yO (λi ys G=>ys=((l.take i).map zm).map V.bl/\G L=some (.lst ys)/\aB H G) (cj rL aA (aB.upd Z)) ?_ ?_))
 .intro i c ys G hi z;let⟨rfl,F,Y⟩:=z;let O:i<l.length:=(ah.mp hi).1;let j:∀b,b=zm c->G L=some (.lst (((l.take i).map zm).map V.bl))/\(((l.take i).map zm).map V.bl).length<sizeLine/\iV l.length i (((l.take i).map zm).map V.bl++[V.bl b]=((l.take (i+1)).map zm).map V.bl/\upd G L (.lst (((l.take i).map zm).map V.bl++[V.bl b])) L=some (.lst (((l.take i).map zm).map V.bl++[V.bl b]))/\aB H (upd G L (.lst (((l.take i).map zm).map V.bl++[V.bl b])))):=λb hb=>by
   subst hb;calc(cj F (by rw[aa,aa,av];show aN qk) (iV.mk O (cj ?_ aA (Y.eE Z))));rw[take_snoc hi,bP];rfl
  calc(aK [c] [63] rL rL (bf _ rL ?_));unfold zm at j;cases h1:decide ([c]=[63]) with
  | true=>rw[h1]at j;show cH (j _ rL)
  | false=>
   rw[h1,oq]at j;calc cI (aK [97] [c] rL rL (bf _ rL ?_));cases h2:decide ([c]<[97]) with| true=>rw[h2]at j;show cI (j _ rL)| false=>rw[h2]at j;show cH (aK [c] [122] rL rL (j _ rL))
 .intro ys G z;let⟨rfl,F,Y⟩:=z;rw[cw]at F;calc(aK L (l.map zm) rL (bM.of F) ?_);let e:(l.map zm).all id=J_ l:=by
   unfold J_;rw[af I,List.all_map];rfl
  rw[e];show q G Y
inductive dZ
 | lay (ts:List cu)|swap (l:List Nat)|pass
def gK:List Nat:=[108,97,121]
def dO:List Nat:=[115,119,97,112]
def fG:List Nat:=[112,97,115,115]
def dZ.name:dZ->List Nat
 | .lay _=>gK
 | .swap _=>dO
 | .pass=>fG
def jA (H:Hp)(p:Addr):dZ->Prop
 | .lay ts=>∃t as,H p=some (.tup [.str (S gK),.ref t])/\H t=some (.tup (as.map V.ref))/\fW H as ts
 | .swap l=>H p=some (.tup [.str (S dO),.str (S l)])
 | .pass=>H p=some (.tup [.str (S fG)])
theorem jA.mv {H H':Hp}{p:Addr}(s:aB H H'):∀{d:dZ},jA H p d->jA H' p d
 | .lay _,⟨t,as,h1,h2,h3⟩=>(aK t as (s _ _ h1) (s _ _ h2) (h3.mv s))
 | .swap _,h=>s _ _ h
 | .pass,h=>s _ _ h
open Classical in
inductive o9 (K:W.Frag) (H:Hp):V->Bool->Prop
 | ty {x:V} (h:Ax K "tuple" H x):o9 K H x false
 | lay {p:Addr} {v:V} (h:H p=some (.tup [.str (S gK),v])):o9 K H (.ref p) true
 | swp {p:Addr} {l:List Nat} (h:H p=some (.tup [.str (S dO),.str (S l)])) (h63:l.length<=63):o9 K H (.ref p) (J_ l)
 | sw2 {p:Addr} {v:V} (h:H p=some (.tup [.str (S dO),v])) (hv:Ax K "str" H v):o9 K H (.ref p) false
 | oth {p:Addr} {v:V} {l:List Nat} (h:H p=some (.tup [.str (S l),v])) (h1:l≠gK) (h2:l≠dO):o9 K H (.ref p) false
 | one {p:Addr} {xs:List V} {ds:List Dt} (h:H p=some (.tup xs)) (h2:xs.length≠2) (hd:d9 K H 1 ds xs):o9 K H (.ref p) (decide (Dt.tup ds=.tup [.str fG]))
def o9.mv {H H':Hp}{x:V}{b:Bool}(h:o9 K H x b)(s:aB H H'):o9 K H' x b:=by
 cases h with| ty h=>show .ty (h.mv s)| lay h=>show .lay (s _ _ h)| swp h h63=>show .swp (s _ _ h) h63| sw2 h hv=>show .sw2 (s _ _ h) (hv.mv s)| oth h h1 h2=>show .oth (s _ _ h) h1 h2| one h h2 hd=>show .one (s _ _ h) h2 (hd.mv s)
open Classical in
def jA.dd {H:Hp}{p:Addr}{d:dZ}(h:jA H p d)(hs:∀l,d=.swap l->l≠[]/\l.length<=63/\∀c∈l,o8 c):o9 K H (.ref p) true:=by
 cases d with
 | lay ts=>let⟨t,as,h1,_⟩:=h;show .lay h1
 | swap l=>let⟨D,g2,j⟩:=hs l rfl;have:=o9.swp (K:=K) (show H p=some (.tup [.str (S dO),.str (S l)]) from h) g2;rw[agL D j]at this;show this
 | pass=>have:=o9.one (K:=K) (ds:=[.str fG]) (show H p=some (.tup [.str (S fG)]) from h) qr (.cons (.str _ qr) .nil);rw[ai rfl]at this;show this
def ac4 (K:W.Frag):Sp:=λvs H Q _=>∃(x:V) (b:Bool),vs=[x]/\o9 K H x b/\∀H',aB H H'->Q (.bl b) H'
open Classical in
def abo (D:aO K mg "is_deed" zR ey)(O:mg "isinstance"=none)(G:mg "tuple"=none)(I:mg "len"=none)(Y:cA P w K mg base "are_tiles" 1 ey (ZJ K)):cA P w K mg base "is_deed" 2 ey (ac4 K):=by
 calc D.d8 aaX (λf bV A outer s H vs Q E hr h=>?_);let⟨x,b,rfl,hd,q⟩:=h;calc(aG _ (au (cG (gU (fJ (aP iG qA O a9 (aj aH (aj (lV (v:=.ty "tuple") qA G c9 rL) ak))))) (aF (bC jr)) bR) (au (cG (bT iC (aP b_ qA I ay (aj aH ak)) aq (bO _)) (aF (bC (Sv (gq kY (aZ bI aH aq (λ_ _=>rfl)) (bA [108,97,121] qS) (bO _)) (kI (lO (gq kY (aZ bI aH aq (λ_ _=>rfl)) (bA [115,119,97,112] qS) (bO _)) (kI (bQ Y hr.mono rL (aj (aZ bI aH aq (λ_ _=>rfl)) ak)))))))) bR) (aF (bC (gq (BL hr.units) aH (bF (aj (bA [112,97,115,115] qS) ak)) (bO _)))))) ?_);cases hd with
 | ty h=>let⟨t,ty,kt⟩:=h;show(gO _ _ _ false rL ty kt (cH (q H (aB.refl _))))
 | @lay p v h=>calc(gO _ _ _ true rL (.tup h) qB (cI (aU p _ rL (.inr (aQ.of h)) rL (bf true qo (cH ?_)))));show(aY p _ _ (.str (S gK)) rL rL (aQ.of h) (aM (j:=0) rL) (aK gK gK rL rL (bf true (by rw[ai rfl]) (cH (q H (aB.refl _))))))
 | @swp p l h h63=>calc(gO _ _ _ true rL (.tup h) qB (cI (aU p _ rL (.inr (aQ.of h)) rL (bf true qo (cH ?_)))));calc(aY p _ _ (.str (S dO)) rL rL (aQ.of h) (aM (j:=0) rL) (aK dO gK rL rL (bf false (by rw[af qr]) (cI ?_))));calc(aY p _ _ (.str (S dO)) rL rL (aQ.of h) (aM (j:=0) rL) (aK dO dO rL rL (bf true (by rw[ai rfl]) (cH ?_))));show(aY p _ _ (.str (S l)) rL rL (aQ.of h) (aM (j:=1) rL) (aG _ rL (.inr (bJ l rL h63 q))))
 | @sw2 p v h hv=>calc(gO _ _ _ true rL (.tup h) qB (cI (aU p _ rL (.inr (aQ.of h)) rL (bf true qo (cH ?_)))));calc(aY p _ _ (.str (S dO)) rL rL (aQ.of h) (aM (j:=0) rL) (aK dO gK rL rL (bf false (by rw[af qr]) (cI ?_))));calc(aY p _ _ (.str (S dO)) rL rL (aQ.of h) (aM (j:=0) rL) (aK dO dO rL rL (bf true (by rw[ai rfl]) (cH ?_))));show(aY p _ _ v rL rL (aQ.of h) (aM (j:=1) rL) (aG _ rL (.inl ⟨hv,q H (aB.refl _)⟩)))
 | @oth p v l h g1 g2=>calc(gO _ _ _ true rL (.tup h) qB (cI (aU p _ rL (.inr (aQ.of h)) rL (bf true qo (cH ?_)))));calc(aY p _ _ (.str (S l)) rL rL (aQ.of h) (aM (j:=0) rL) (aK l gK rL rL (bf false (by rw[af g1]) (cI ?_))));show(aY p _ _ (.str (S l)) rL rL (aQ.of h) (aM (j:=0) rL) (aK l dO rL rL (bf false (by rw[af g2]) (cI (q H (aB.refl _))))))
 | @one p xs ds h h2 hd=>
  calc(gO _ _ _ true rL (.tup h) qB (cI (aU p _ rL (.inr (aQ.of h)) rL (bf false ?_ (cI ?_)))));.rw[af λz=>h2 (by injection z with z;lia)]
  calc⟨zsz 1,λZ J=>?_⟩;let F:aB H (upd H Z (HO.tup [.str (S fG)])):=aB.upd J;show(dJ 2 (.tup ds) (.tup [.str fG]) qr (.tup (aQ.of (F _ _ h)) (hd.mv F)) (.tup (aQ.of aA) (.cons (.str _ qr) .nil)) (q _ F))
structure Std where
 r:Nat
 w:Nat
 aD:List (List Nat)
 aV:List (List Nat)
 bi:Nat
 bj:Nat
 racks:List (List Nat)
 bag:List Nat
 jX:List Int
structure uW (K:W.Frag)(C:Addr):Prop where
 cl:Cls K C
 nb:jG K C tJ
 nr:jG K C "racks"
 ng:jG K C "bag"
 np:jG K C "points"
structure jH (C CS:Addr)(H:Hp)(p:Addr)(z:Std):Prop where
 ex:∃dx b pr pp,H p=some (.ins CS dx [(tJ,.ref b),("racks",.ref pr),("bag",.str (S z.bag)),("points",.ref pp)])/\dN C H b z.r z.w z.aD z.aV z.bi z.bj/\H pr=some (.tup (Ts z.racks))/\H pp=some (.tup (z.jX.map V.int))
def jH.mv {C CS:Addr}{H H':Hp}{p:Addr}{z:Std}(A:jH C CS H p z)(s:aB H H'):jH C CS H' p z:=by let⟨dx,b,pr,pp,h1,h2,h3,h4⟩:=A.ex;show⟨dx,b,pr,pp,s _ _ h1,h2.mv s,s _ _ h3,s _ _ h4⟩
structure lG (z:Std):Prop where
 n1:1<=z.racks.length
 n4:z.racks.length<=4
 r7:∀l∈z.racks,l.length<=7/\∀c∈l,o8 c
 b6:z.bag.length<=60
 bt:∀c∈z.bag,o8 c
 pl:z.jX.length=z.racks.length
def I_ (CS:Addr):Sp:=λvs H Q _=>∃(p dx b pr pp:Addr) (l:List Nat),vs=[.ref p,.ref b,.ref pr,.str (S l),.ref pp]/\H p=some (.ins CS dx [])/\
 ∀H',(∀b o,H b=some o->b≠p->H' b=some o)->H' p=some (.ins CS dx [(tJ,.ref b),("racks",.ref pr),("bag",.str (S l)),("points",.ref pp)])->Q .non H'
def Sd {f C:Addr}{fd:FuncData}(F:gJ K "__init__" "Stand.__init__" mz f fd)(T:uW K C):cU P w K mg base eV 1 f fd cZ (I_ C):=by
 calc F.d8 RQ (λbV A outer s H vs Q E hr h=>?_);let⟨p,dx,b,pr,pp,l,rfl,hp,q⟩:=h;calc(aG _ (au (nj aH bh rL) (au (nj aH bG rL) (au (nj aH bU rL) (aF (nj aH cQ rL))))) ?_);calc(gb p C dx _ rL hp T.cl T.nb (by show 0<1000;decide) ?_);calc(gb p C dx _ rL aA T.cl T.nr (by show 1<1000;decide) ?_);calc(gb p C dx _ rL aA T.cl T.ng (by show 2<1000;decide) ?_);calc(gb p C dx _ rL aA T.cl T.np (by show 3<1000;decide) ?_);calc q _ (λb o e j=>?_) ?_;.rw[bw j,bw j,bw j,bw j];show e
 .show aA
def Gn {C CS x dx:Addr}{H j:Hp}{z:Std}{b pr pp:Addr}(hx:H x=none)(hd:H dx=none)(D:∀a o,upd (upd H dx (.own x)) x (.ins CS dx []) a=some o->a≠x->j a=some o)(e:j x=some (.ins CS dx [(tJ,.ref b),("racks",.ref pr),("bag",.str (S z.bag)),("points",.ref pp)]))(hb:dN C H b z.r z.w z.aD z.aV z.bi z.bj)(hr:H pr=some (.tup (Ts z.racks)))(hp:H pp=some (.tup (z.jX.map V.int))):aB H j/\jH C CS j x z:=by let s:aB H j:=λa o h=>D a o (by rw[bw (bL h hx),bw (bL h hd)];show h) (bL h hx);show⟨s,dx,b,pr,pp,e,hb.mv s,s _ _ hr,s _ _ hp⟩
def j9 {l:List Nat}(b:Nat):iY l none (some (b:Int))=l.take b:=by
 unfold iY;rw[HT.mV,HT.vC];simp only[iP,Nat.sub_zero];by_cases h:b<=l.length;.rw[fS h]
 .rw[kL qk,cz (ax _),cz qk]
def iH {l:List Nat}(b:Nat):iY l (some (b:Int)) none=l.drop b:=by
 unfold iY;rw[HT.mV,HT.vC];by_cases h:b<=l.length;.rw[fS h,cz (by rw[aS];lia)]
 .rw[kL qk,Nat.sub_self,List.take_zero,ib qk]
def alu (n k:Nat):(if (0:Int) > (n:Int)-(k:Int) then (0:Int) else (n:Int)-k)=((n-k:Nat):Int):=by split <;> lia
noncomputable def Pg (z:Std)(turn size:Nat)(ts:List cu)(l:List Nat)(pt:Int):Std:={z with aD:=fX z.aD ts,racks:=z.racks.set turn (fu (fu l++z.bag.take (size-(fu l).length))),bag:=z.bag.drop (size-(fu l).length),jX:=z.jX.set turn (z.jX.getD turn 0+pt)}
def j_ (l:List Nat):(fu l).length=l.length:=(iK l).length_eq
def Nk (ls:AA)(i:Nat)(l:List Nat):(Ts ls).set i (.str (S l))=Ts (ls.set i l):=by simp only[Ts,nI]
def V3 (ls:List Int)(i:Nat)(x:Int):(ls.map V.int).set i (.int x)=(ls.set i x).map V.int:=by rw[nI]
def ac5 (C CS:Addr):Sp:=λvs H Q _=>∃(p t:Addr) (z:Std) (turn size:Nat) (pt:Int) (as:List Addr) (ts:List cu) (l:List Nat),vs=[.ref p,.int turn,.int size,.ref t,.int pt]/\jH C CS H p z/\lG z/\turn<z.racks.length/\size<=7/\H t=some (.tup (as.map V.ref))/\fW H as ts/\(∀t∈ts,inB z.r z.w t)/\ts.length<=7/\(∀t∈ts,sgN t.2.2)/\qO (z.racks.getD turn []) (ts.map (·.2.2))=some l/\
 ∀j H',aB H H'->jH C CS H' j (Pg z turn size ts l pt)->Q (.ref j) H'
def Ka {C CS f0 f1:Addr}{gk fB:FuncData}(D:aO K mg "behind_laying" qu pc)(Ab:mg "max"=none)(bH:mg "len"=none)(cM:iJ K C)(T:uW K CS)(zp:mg "Stand"=some (.ref CS))(Cg:Mk K CS f0)(Ci:cU P w K mg base eV 1 f0 gk cZ (I_ CS))(Cj:cD K gk cZ [])(mF:Meth K C "laid" f1)(mG:cU P w K mg base eV 8 f1 fB pu (FZ C))(mH:cD K fB pu [])(Sg:cA P w K mg base "left_behind" 4 sq V1)(rB:cA P w K mg base "in_order" 1 ["tiles"] Tg)(wL:cA P w K mg base "exchanged" 1 rj VR):cA P w K mg base "behind_laying" 10 pc (ac5 C CS):=by
 calc D.d8 j5 (λf bV A outer s H vs Q E hr h=>?_);let⟨p,t,z,turn,size,pt,as,ts,l,rfl,A0,Z,F,hsz,ht,hL,fZ,h7,hsg,Nj,q⟩:=h;let⟨dx,b,pr,pp,hp,hb,O,J⟩:=A0.ex;let hg:z.racks.getD turn []=z.racks[turn]:=by rw[aE,ac F];rfl
 rw[hg]at Nj;let⟨k7,kt⟩:=Z.r7 _ (ba F);let hll:=yK Nj;let hl7:(fu l).length<=7:=by rw[j_];lia
 let hb6:=Z.b6;let n4:=Z.n4;let hpl:=Z.pl;calc(aG _ (au (aW (i:=5) j5.nd rL (Or.inl rL) (bQ Sg hr.mono rL (aj (aZ bI (cF aH rL) bh (λ_ _=>rfl)) (aj bU ak)))) (au (aW (i:=6) j5.nd rL (Or.inl rL) (aP (Qw rL) qA Ab PyProof.Rows.boot_max (aj (aJ ni bG (aP dw qA bH ay (aj dD ak))) (aj aq ak)))) (au (aW (i:=7) j5.nd rL (Or.inl rL) (bQ rB hr.mono rL (aj (aJ jt dD (dj qm (cF aH rL) eO (dM fU))) ak))) (au (aW (i:=8) j5.nd rL (Or.inl rL) (bQ wL hr.mono rL (aj (cF aH rL) (aj bh (aj gY ak))))) (au (aW (i:=9) j5.nd rL (Or.inl rL) (bQ wL hr.mono rL (aj (cF aH rL) (aj bh (aj (aJ dh (aZ bI (cF aH rL) bh (λ_ _=>rfl)) cQ) ak))))) (aF (bC (tU Cg Ci hr.mono rL zp Cj .nil gM (aj (qT (cF aH rL) cM.cl mF mG hr.mono mH .nil gM (aj bU ak)) (aj mQ (aj (dj qm (cF aH rL) (dM fU) eO) (aj lq ak)))))))))))) ?_);calc(cR p CS dx _ _ rL hp T.cl T.nr rL (aY pr _ _ (.str (S z.racks[turn])) rL rL (aQ.of O) (aM (j:=turn) (lE (ac F))) ⟨z.racks[turn],l,t,as,ts,rL,ht,hL,h7,qk,hsg,Nj,λH1 s1=>?_⟩));calc(bJ (fu l) rL (ap (aN qk)) (aK _ _ rL rL (dW _ _ rL ?_)));rw[alu];generalize hm:size-(fu l).length=m;calc(cR p CS dx _ _ rL (s1 _ _ hp) T.cl T.ng rL (aG _ rL (bJ z.bag rL (ap (aN qk)) (aU (fu l) _ rL rL ?_ (bJ (fu l++z.bag.take m) ?_ ?_ (λH2 s2=>?_))))));.rw[j9,av];show ap (aN qk)
 .rw[j9];rfl
 .rw[am,av];lia
 let d7:=s1.trans s2;calc(cR p CS dx _ _ rL (d7 _ _ hp) T.cl T.nr rL (aY pr _ turn _ rL (d7 _ _ O) (by rw[aa];show F) (by rw[aa];lia) (λGp H3 s3 Kc=>?_)));let Y:=d7.trans s3;let G:turn<z.jX.length:=qk;let hgp:z.jX.getD turn 0=z.jX[turn]:=by rw[aE,ac G];rfl
 calc(cR p CS dx _ _ rL (Y _ _ hp) T.cl T.np rL (cR p CS dx _ _ rL (Y _ _ hp) T.cl T.np rL (aY pp _ _ (.int z.jX[turn]) rL rL (aQ.of (Y _ _ J)) (aM (j:=turn) (by rw[ck,ac G];rfl)) (aK _ _ rL rL (aY pp _ turn _ rL (Y _ _ J) (by rw[aa];show G) (by rw[aa];lia) (λJC H4 s4 A_=>?_))))));let I:=Y.trans s4;let⟨bx,_,_,_,hbx,_⟩:=(hb.mv I).ex;calc(cR p CS dx _ _ rL (I _ _ hp) T.cl T.nb rL (dJ b bx _ rL hbx rL (Fw b t as ts z.r z.w z.aD z.aV z.bi z.bj rL (hb.mv I) (I _ _ ht) (hL.mv I) fZ (λb' H5 s5 hb'=>?_))));let Cd:=I.trans s5;calc(cR p CS dx _ _ rL (Cd _ _ hp) T.cl T.ng rL (aG _ rL (bJ z.bag rL (ap (aN qk)) (λx ex n1 n2 n3=>?_))));rw[Nk]at Kc;rw[V3]at A_;calc⟨x,ex,b',Gp,JC,z.bag.drop m,by rw[iH];rfl,aA,λH6 k6 e6=>⟨rL,?_⟩⟩;let⟨s6,A6⟩:=Gn (z:=Pg z turn size ts l pt) n1 n2 k6 (by unfold Pg;simp only;rw[hm];show e6) hb' (by unfold Pg;simp only;rw[hm];show s5 _ _ (s4 _ _ Kc)) (by unfold Pg;simp only;rw[hgp];show s5 _ _ A_);show q x H6 (Cd.trans s6) A6
theorem Nm:∀{cs l:List Nat} {left:AA},pZ (l.map λc=>[c]) cs=.inr left->∃j,qO l cs=some j
 | [],l,left,_=>⟨l,rL⟩
 | c::cs,l,left,h=>by
  unfold pZ at h;unfold qO;by_cases hm:iD c∈l
  .rw[if_pos (bd.mpr (aG _ hm rL)),qP]at h;rw[if_pos hm];show Nm h
  .rw[if_neg (λz=>by let⟨d,hd,e⟩:=bd.mp z;cases e;show hm hd)]at h;cases h
def aiR {c d:Nat}(h:qH c=qH d)(hd:d<128):c<128:=by unfold qH at h;split at h <;> split at h <;> lia
theorem ac6:∀{cs ds:List Nat},cs.map qH=ds.map qH->(∀d∈ds,d<128)->∀c∈cs,c<128
 | [],_,_,_,c,hc=>by cases hc
 | a::cs,[],h,_,_,_=>by simp at h
 | a::cs,d::ds,h,hd,c,hc=>by
  rw[cq,cq]at h;injection h with h1 h2;rcases bX.mp hc with e|e;.subst e;show aiR h1 (hd d bS)
  .show ac6 h2 (λx hx=>hd x (bE _ hx)) c e
noncomputable def Ti (z:Std)(turn:Nat)(l m:List Nat):Std:={z with racks:=z.racks.set turn (fu (fu m++z.bag.take l.length)),bag:=z.bag.drop l.length++fu l}
theorem Gq:∀{cs ds:List Nat} {l:AA},cs.map qH=ds.map qH->pZ l cs=pZ l ds
 | [],[],_,_=>rfl
 | [],_::_,_,h=>by simp at h
 | _::_,[],_,h=>by simp at h
 | c::cs,d::ds,l,h=>by
  rw[cq,cq]at h;injection h with h1 h2;unfold pZ;rw[show iD c=iD d from h1];split;.show Gq h2
  .rfl
def ZK (C CS D F:Addr):Sp:=λvs H Q E=>∃(p:Addr) (z:Std) (turn:Nat) (l:List Nat),vs=[.ref p,.int turn,.str (S l)]/\jH C CS H p z/\lG z/\turn<z.racks.length/\l.length<=63/\(∀c∈l,o8 c)/\
 (∀t,pZ ((z.racks.getD turn []).map λc=>[c]) l=.inl t->∀(dx:Addr) (H':Hp),aB H H'->H' dx=some (.ext (XD dx [("tile",.str (S [t]))]))->E (.ref D) (some dx) H')/\
 (∀m,qO (z.racks.getD turn []) l=some m->(z.bag.length<l.length->∀H',aB H H'->E (.ref F) none H')/\(l.length<=z.bag.length->∀j H',aB H H'->jH C CS H' j (Ti z turn l m)->Q (.ref j) H'))
def Ph {C CS CL CT f0:Addr}{gk:FuncData}(D:aO K mg "behind_swap" sY sh)(bH:mg "len"=none)(Gr:mg "TooFew"=some (.ref CT))(aeL:W.excIn K CT jl "ValueError.__new__"=true)(agN:∃t,t≠0/\mg "BLANK"=some (.str (S [63]) t))(T:uW K CS)(zp:mg "Stand"=some (.ref CS))(Cg:Mk K CS f0)(Ci:cU P w K mg base eV 1 f0 gk cZ (I_ CS))(Cj:cD K gk cZ [])(w5:DefX P w K mg base "left_of" 3 sr (Nb CL))(rB:cA P w K mg base "in_order" 1 ["tiles"] Tg)(wL:cA P w K mg base "exchanged" 1 rj VR):DefX P w K mg base "behind_swap" 10 sh (ZK C CS CL CT):=by
 refine D.yQ oY (λvs H Q E h=>?_) (λf bV A outer s H vs Q E hr h=>?_)
 .let⟨p,z,turn,l,rfl,_⟩:=h;rfl
 .let⟨p,z,turn,l,rfl,A0,Z,F,alR,Y,qE,q⟩:=h;let⟨dx,b,pr,pp,hp,hb,G,hpp⟩:=A0.ex;let hg:z.racks.getD turn []=z.racks[turn]:=by rw[aE,ac F];rfl
  rw[hg]at qE q;let⟨k7,kt⟩:=Z.r7 _ (ba F);let hb6:=Z.b6;let n4:=Z.n4;calc(aG _ (au (aW (i:=3) oY.nd rL (Or.inl rL) (mW w5 hr.mono rL qX.all (aiB 2 (aiA bI (agu aH rL) bh (λ_ _=>rfl)) agN rL (Or.inl rL) qA qS rL rL rL))) (au (aW (i:=4) oY.nd rL (Or.inl rL) (aP dw qA bH ay (aj bG ak))) (au (cG (bT uo (aP dw qA bH ay (aj (cF aH rL) ak)) cQ (bO _)) (aF (vH oW rL rL qA Gr aeL (aj (bA [116,104,101,32,98,97,103,32,104,97,115,32,102,101,119,101,114,32,116,105,108,101,115] qS) ak))) bR) (au (aW (i:=5) oY.nd rL (Or.inl rL) (bQ rB hr.mono rL (aj (aJ jt bU (dj qm (cF aH rL) eO (dM cQ))) ak))) (au (aW (i:=6) oY.nd rL (Or.inl rL) (aJ jt (dj qm (cF aH rL) (dM cQ) eO) (bQ rB hr.mono rL (aj bG ak)))) (aF (bC (tU Cg Ci hr.mono rL zp Cj .nil gM (aj (cF aH rL) (aj (bQ wL hr.mono rL (aj (cF aH rL) (aj bh (aj dD ak)))) (aj fU (aj (cF aH rL) ak)))))))))))) ?_);calc⟨True.intro,cR p CS dx _ _ rL hp T.cl T.nr rL (aY pr _ _ (.str (S z.racks[turn])) rL rL (aQ.of G) (aM (j:=turn) (lE (ac F))) (bJ l rL qk (λl' I=>?_)))⟩;let dR:l'.length=l.length:=by have:=congrArg List.length I;simpa using this
  calc(wj (z.racks[turn]) l' rL qk qk (ac6 I (λd hd=>(Y d hd).lt)) (λt e dx H1 s1 hd=>qE t (by rw[<-e];show(Gq I).symm) dx H1 s1 hd) (λleft e ws H1 s1 pm pw=>?_));rw[Gq I]at e;let⟨m,Nj⟩:=Nm e;let hgo:=Ce Nj;rw[hgo]at e;cases e;let⟨q1,q⟩:=q m Nj;let hll:=yK Nj;let hl7':(fu m).length<=7:=by rw[j_];lia
  rw[zj pm pw];calc(bJ l rL (ap (aN qk)) ?_);calc(cR p CS dx _ _ rL (s1 _ _ hp) T.cl T.ng rL (bJ z.bag rL (ap (aN qk)) (aK _ _ rL rL (bf _ rL ?_))));calc iR (λh=>⟨zsz 1,q1 (by have:=dC h;lia) H1 s1⟩) (λh=>?_);let Ga:l.length<=z.bag.length:=by have:=ie (ki.mpr h);lia
  calc(cR p CS dx _ _ rL (s1 _ _ hp) T.cl T.ng rL (aG _ rL (bJ z.bag rL (ap (aN qk)) (aU (fu m) _ rL rL ?_ (bJ (fu m++z.bag.take l.length) ?_ ?_ (λH2 s2=>?_))))));.rw[j9,av];show ap (aN qk)
  .rw[j9];rfl
  .rw[am,av];lia
  let d7:=s1.trans s2;calc(cR p CS dx _ _ rL (d7 _ _ hp) T.cl T.ng rL (aG _ rL (bJ z.bag rL (ap (aN qk)) (bJ l rL qk (λH3 s3=>(aU _ (fu l) rL rL ?_ ?_))))));.rw[iH,aS,j_];show ap (aN qk)
  let O:=d7.trans s3;calc(cR p CS dx _ _ rL (O _ _ hp) T.cl T.nb rL (cR p CS dx _ _ rL (O _ _ hp) T.cl T.nr rL (aY pr _ turn _ rL (O _ _ G) (by rw[aa];show F) (by rw[aa];lia) (λGp H4 s4 Kc=>?_))));let J:=O.trans s4;calc(cR p CS dx _ _ rL (J _ _ hp) T.cl T.np rL (λx ex n1 n2 n3=>?_));rw[Nk]at Kc;calc⟨x,ex,b,Gp,pp,z.bag.drop l.length++fu l,by rw[iH];rfl,aA,λH6 k6 e6=>⟨rL,?_⟩⟩;let⟨s6,A6⟩:=Gn (z:=Ti z turn l m) n1 n2 k6 e6 (hb.mv J) Kc (J _ _ hpp);show q Ga x H6 (J.trans s6) A6
structure Gm where
 sts:List Std
 done:List (List Nat)
 ws:List (List Nat)
 kvs:List (Key×V)
 bn:Int
 bm:Int
 size:Nat
structure tu (K:W.Frag)(C:Addr):Prop where
 cl:Cls K C
 nk:jG K C "book"
 nw:jG K C t6
 nn:jG K C "bonus"
 nz:jG K C "size"
 ns:jG K C "stands"
 nd:jG K C "done"
structure Ck (C CS:Addr)(H:Hp)(as:List Addr)(zs:List Std):Prop where
 len:as.length=zs.length
 at_:∀(i:Nat) (a:Addr) (z:Std),as[i]?=some a->zs[i]?=some z->jH C CS H a z
def Ck.mv {C CS:Addr}{H H':Hp}{as:List Addr}{zs:List Std}(h:Ck C CS H as zs)(s:aB H H'):Ck C CS H' as zs:=⟨h.len,λi a z h1 h2=>(h.at_ i a z h1 h2).mv s⟩
def Ck.last {C CS:Addr}{H:Hp}{as:List Addr}{zs:List Std}{z:Std}(h:Ck C CS H as (zs++[z])):∃bs a,as=bs++[a]/\jH C CS H a z:=by
 let hl:=h.len;rw[am]at hl;let j:as≠[]:=λe=>by subst e;simp at hl
 calc(dW as.dropLast (as.getLast j) ((kD j).symm) (h.at_ zs.length _ z ?_ qo));rw[List.getLast_eq_getElem,ac (by simp at hl;lia)];congr 1;simp at hl;simp[hl]
structure jT (C CS CB CG:Addr)(H:Hp)(g ps pd:Addr)(G:Gm):Prop where
 ex:∃dx k kd d pb,H g=some (.ins CG dx [("book",.ref k),(t6,.ref d),("bonus",.ref pb),("size",.int G.size),("stands",.ref ps),("done",.ref pd)])/\jd CB H k kd G.ws/\H d=some (.dK G.kvs)/\H pb=some (.tup [.int G.bn,.int G.bm])
 st:∃as,H ps=some (.lst (as.map V.ref))/\Ck C CS H as G.sts
 dn:H pd=some (.lst (Ts G.done))
def jT.mv {C CS CB CG:Addr}{H H':Hp}{g ps pd:Addr}{G:Gm}(A:jT C CS CB CG H g ps pd G)(s:aB H H'):jT C CS CB CG H' g ps pd G:=by obtain⟨⟨dx,k,kd,d,pb,h1,h2,h3,h4⟩,⟨as,h5,j⟩,h7⟩:=A;show⟨(S6 dx k kd d pb (s _ _ h1) (h2.mv s) (s _ _ h3) (s _ _ h4)),(aG as (s _ _ h5) (j.mv s)),s _ _ h7⟩
def zq {bs:List Addr}{a:Addr}:tV ((bs++[a]).map V.ref) (-1)=some (.ref a):=by rw[bP];show JL _ _
def uX (C CS CB CG:Addr)(R:Hp->Std->VK->Prop):Sp:=λvs H Q _=>∃(g ps pd:Addr) (G:Gm) (zs:List Std) (z:Std),vs=[.ref g]/\jT C CS CB CG H g ps pd G/\G.sts=zs++[z]/\R H z Q
def ac7 (C:Addr)(H:Hp)(z:Std)(Q:VK):Prop:=∀b,dN C H b z.r z.w z.aD z.aV z.bi z.bj->Q (.ref b) H
def Np (H:Hp)(z:Std)(Q:VK):Prop:=∀p,H p=some (.tup (Ts z.racks))->Q (.ref p) H
def aeM (H:Hp)(z:Std)(Q:VK):Prop:=Q (.str (S z.bag)) H
def aiS (H:Hp)(z:Std)(Q:VK):Prop:=∀p,H p=some (.tup (z.jX.map V.int))->Q (.ref p) H
def V4 {C CS CB CG f:Addr}{fd:FuncData}(F:gJ K "board_now" "Game.board_now" jD f fd)(T:tu K CG)(TS:uW K CS):cU P w K mg base eV 1 f fd aw (uX C CS CB CG (ac7 C)):=by calc F.d8 Ji (λbV A outer s H vs Q E hr h=>?_);let⟨g,ps,pd,G,zs,z,rfl,J,hz,q⟩:=h;obtain⟨⟨dx,k,kd,d,pb,h1,h2,h3,h4⟩,⟨as,h5,j⟩,h7⟩:=J;rw[hz]at j;let⟨bs,a,rfl,I⟩:=j.last;let⟨D,b,pr,pp,e1,e2,e3,e4⟩:=I.ex;calc(aG _ (aF (bC (cF (aZ gA (cF aH rL) (m_ kJ aq) (λ_ _=>rfl)) rL))) ?_);show(cR g CG dx _ _ rL h1 T.cl T.ns rL (aG _ rL (aY ps _ _ (.ref a) rL rL (bM.of h5) zq (cR a CS D _ _ rL e1 TS.cl TS.nb rL (q b e2)))))
def V5 {C CS CB CG f:Addr}{fd:FuncData}(F:gJ K "racks_now" "Game.racks_now" jE f fd)(T:tu K CG)(TS:uW K CS):cU P w K mg base eV 1 f fd aw (uX C CS CB CG Np):=by calc F.d8 Jj (λbV A outer s H vs Q E hr h=>?_);let⟨g,ps,pd,G,zs,z,rfl,J,hz,q⟩:=h;obtain⟨⟨dx,k,kd,d,pb,h1,h2,h3,h4⟩,⟨as,h5,j⟩,h7⟩:=J;rw[hz]at j;let⟨bs,a,rfl,I⟩:=j.last;let⟨D,b,pr,pp,e1,e2,e3,e4⟩:=I.ex;calc(aG _ (aF (bC (cF (aZ gA (cF aH rL) (m_ kJ aq) (λ_ _=>rfl)) rL))) ?_);show(cR g CG dx _ _ rL h1 T.cl T.ns rL (aG _ rL (aY ps _ _ (.ref a) rL rL (bM.of h5) zq (cR a CS D _ _ rL e1 TS.cl TS.nr rL (q pr e3)))))
def abp {C CS CB CG f:Addr}{fd:FuncData}(F:gJ K "bag_now" "Game.bag_now" j6 f fd)(T:tu K CG)(TS:uW K CS):cU P w K mg base eV 1 f fd aw (uX C CS CB CG aeM):=by calc F.d8 Ml (λbV A outer s H vs Q E hr h=>?_);let⟨g,ps,pd,G,zs,z,rfl,J,hz,q⟩:=h;obtain⟨⟨dx,k,kd,d,pb,h1,h2,h3,h4⟩,⟨as,h5,j⟩,h7⟩:=J;rw[hz]at j;let⟨bs,a,rfl,I⟩:=j.last;let⟨D,b,pr,pp,e1,e2,e3,e4⟩:=I.ex;calc(aG _ (aF (bC (cF (aZ gA (cF aH rL) (m_ kJ aq) (λ_ _=>rfl)) rL))) ?_);show(cR g CG dx _ _ rL h1 T.cl T.ns rL (aG _ rL (aY ps _ _ (.ref a) rL rL (bM.of h5) zq (cR a CS D _ _ rL e1 TS.cl TS.ng rL q))))
def Sh {C CS CB CG f:Addr}{fd:FuncData}(F:gJ K "points_now" "Game.points_now" jm f fd)(T:tu K CG)(TS:uW K CS):cU P w K mg base eV 1 f fd aw (uX C CS CB CG aiS):=by calc F.d8 FQ (λbV A outer s H vs Q E hr h=>?_);let⟨g,ps,pd,G,zs,z,rfl,J,hz,q⟩:=h;obtain⟨⟨dx,k,kd,d,pb,h1,h2,h3,h4⟩,⟨as,h5,j⟩,h7⟩:=J;rw[hz]at j;let⟨bs,a,rfl,I⟩:=j.last;let⟨D,b,pr,pp,e1,e2,e3,e4⟩:=I.ex;calc(aG _ (aF (bC (cF (aZ gA (cF aH rL) (m_ kJ aq) (λ_ _=>rfl)) rL))) ?_);show(cR g CG dx _ _ rL h1 T.cl T.ns rL (aG _ rL (aY ps _ _ (.ref a) rL rL (bM.of h5) zq (cR a CS D _ _ rL e1 TS.cl TS.np rL (q pp e4)))))
theorem d9.wM {H:Hp}:∀{ls:AA},(∀l∈ls,∀c∈l,c<128)->d9 K H 1 (ls.map Dt.str) (Ts ls)
 | [],_=>.nil
 | l::ls,h=>.cons (.str l (h l bS)) (d9.wM λD j=>h D (bE _ j))
def Pj (C CS CB CG:Addr):Sp:=λvs H Q _=>∃(g ps pd:Addr) (G:Gm) (zs:List Std) (z:Std),vs=[.ref g]/\jT C CS CB CG H g ps pd G/\G.sts=zs++[z]/\lG z/\Q (.int ((G.done.length%z.racks.length:Nat):Int)) H
def agO {C CS CB CG f f1:Addr}{fd fB:FuncData}(F:gJ K "turn" "Game.turn" n8 f fd)(I:tu K CG)(D:mg "len"=none)(Y:Meth K CG "racks_now" f1)(O:cU P w K mg base eV 1 f1 fB aw (uX C CS CB CG Np))(J:cD K fB aw []):cU P w K mg base eV 2 f fd aw (Pj C CS CB CG):=by
 calc F.d8 U4 (λbV A outer s H vs Q E hr h=>?_);let⟨g,ps,pd,G,zs,z,rfl,j,hz,Z,q⟩:=h;let⟨dx,k,kd,d,pb,h1,h2,h3,h4⟩:=j.ex;let h7:=j.dn;let n1:=Z.n1;calc(aG _ (aF (bC (aJ bZ (aP b_ qA D ay (aj (cF aH rL) ak)) (aP b_ qA D ay (aj (jk aH I.cl Y O hr.mono J .nil gM) ak))))) ?_);refine(cR g CG dx _ _ rL h1 I.cl I.nd rL (aK pd _ rL (.inl (bM.of h7)) (dJ g dx _ rL h1 rL (Dd g ps pd G zs z rL j hz (λp hp=>(aK p _ rL (.inr (aQ.of hp)) (aU _ _ rL rL ?_ ?_)))))))
 .show (0:Int)<_;rw[aa];lia
 .rw[aa,aa];have:((G.done.length:Int)%(z.racks.length:Int))=((G.done.length%z.racks.length:Nat):Int):=by lia
  show Q (.int ((G.done.length:Int)%(z.racks.length:Int))) H;rw[this];show q
def Ac (ps pd:Addr)(H H':Hp):Prop:=∀a o,H a=some o->a≠ps->a≠pd->H' a=some o
def qe {H:Hp}{a p:Addr}{xs:List V}{o:HO}(h:H p=some (.lst xs))(h':H a=some o)(d:∀ys,o≠.lst ys):a≠p:=λe=>by subst e;rw[h]at h';show d xs (bq h').symm
def dN.k2 {C:Addr}{H H':Hp}{p ps pd:Addr}{xs ys:List V}{r w:Nat}{aD aV:AA}{i j:Nat}(B:dN C H p r w aD aV i j)(s:Ac ps pd H H')(h1:H ps=some (.lst xs))(h2:H pd=some (.lst ys)):dN C H' p r w aD aV i j:=by obtain⟨⟨dx,pr,pm,pb,a,b,c,d⟩,o⟩:=B;let k:∀a o,H a=some o->(∀ys,o≠HO.lst ys)->H' a=some o:=λa o h n=>s a o h (qe h1 h n) (qe h2 h n);show⟨(gO dx pr pm pb (k _ _ a (λ_ z=>nomatch z)) (k _ _ b (λ_ z=>nomatch z)) (k _ _ c (λ_ z=>nomatch z)) (k _ _ d (λ_ z=>nomatch z))),o⟩
def jH.k2 {C CS:Addr}{H H':Hp}{p ps pd:Addr}{xs ys:List V}{z:Std}(A:jH C CS H p z)(s:Ac ps pd H H')(h1:H ps=some (.lst xs))(h2:H pd=some (.lst ys)):jH C CS H' p z:=by let⟨dx,b,pr,pp,a1,a2,a3,a4⟩:=A.ex;let k:∀a o,H a=some o->(∀ys,o≠HO.lst ys)->H' a=some o:=λa o h n=>s a o h (qe h1 h n) (qe h2 h n);show⟨dx,b,pr,pp,k _ _ a1 (λ_ z=>nomatch z),a2.k2 s h1 h2,k _ _ a3 (λ_ z=>nomatch z),k _ _ a4 (λ_ z=>nomatch z)⟩
def jd.k2 {C:Addr}{H H':Hp}{p d ps pd:Addr}{xs ys:List V}{ws:AA}(B:jd C H p d ws)(s:Ac ps pd H H')(h1:H ps=some (.lst xs))(h2:H pd=some (.lst ys)):jd C H' p d ws:=by let k:∀a o,H a=some o->(∀ys,o≠HO.lst ys)->H' a=some o:=λa o h n=>s a o h (qe h1 h n) (qe h2 h n);show⟨let ⟨dx,e⟩:=B.ob;⟨dx,k _ _ e (λ_ z=>nomatch z)⟩,k _ _ B.dc (λ_ z=>nomatch z),B.nd,B.az⟩
def jT.put {C CS CB CG:Addr}{H H':Hp}{g ps pd:Addr}{G:Gm}{zs:List Std}{dn:AA}{as:List Addr}(A:jT C CS CB CG H g ps pd G)(s:Ac ps pd H H')(h1:H' ps=some (.lst (as.map V.ref)))(hs:Ck C CS H' as zs)(h2:H' pd=some (.lst (Ts dn))):jT C CS CB CG H' g ps pd {G with sts:=zs,done:=dn}:=by obtain⟨⟨dx,k,kd,d,pb,a1,a2,a3,a4⟩,⟨bs,a5,_⟩,a7⟩:=A;let j:∀a o,H a=some o->(∀ys,o≠HO.lst ys)->H' a=some o:=λa o h n=>s a o h (qe a5 h n) (qe a7 h n);show⟨(S6 dx k kd d pb (j _ _ a1 (λ_ z=>nomatch z)) (a2.k2 s a5 a7) (j _ _ a3 (λ_ z=>nomatch z)) (j _ _ a4 (λ_ z=>nomatch z))),(aG as h1 hs),h2⟩
def agP {as:List Addr}{ls:AA}(h:ls≠[]):as.map V.ref≠Ts ls:=λe=>by
 cases ls with
 | nil=>show h rfl
 | cons l ls=>
  cases as with
  | nil=>cases e
  | cons a as=>cases e
def Ad (G:Gm)(z:Std):Nat:=(((G.done.length:Int)-1)%(z.racks.length:Int)).toNat
noncomputable def iw (G:Gm)(z:Std):Bool:=decide (G.done.drop (G.done.length-2*z.racks.length)=List.replicate (2*z.racks.length) fG)||(decide (G.done.drop (G.done.length-1)=[gK])&&(decide (z.bag=[])&&decide (z.racks.getD (Ad G z) []=[])))
def V6 {xs:List V}{k:Nat}(j:1<=k):jy xs (some (-(k:Int))) none=xs.drop (xs.length-k):=by
 let e:HT.dY xs.length 0 (some (-(k:Int)))=xs.length-k:=by show (if -(k:Int)<0 then (-(k:Int)+(xs.length:Int)).toNat else _)=_;rw[if_pos qk];lia
 unfold jy;rw[e,HT.vC,cz (by rw[aS];lia)]
def ZL (ls:AA)(n:Nat):(Ts ls).drop n=Ts (ls.drop n):=by simp only[Ts,mw]
def str_inj {as bs:AA}:Dt.lst (as.map Dt.str)=Dt.lst (bs.map Dt.str)↔as=bs:=by
 constructor
 .intro h;injection h with h;show(List.map_inj_right (λa b e=>by injection e)).mp h
 .rintro rfl;rfl
def Ja {p q:Prop} [Decidable p] [Decidable q] (h:p↔q):decide p=decide q:=by
 by_cases hp:p;.rw[ai hp,ai (h.mp hp)]
 .rw[af hp,af λz=>hp (h.mpr z)]
def V7 (C CS CB CG:Addr):Sp:=λvs H Q _=>∃(g ps pd:Addr) (G:Gm) (zs:List Std) (z:Std),vs=[.ref g]/\jT C CS CB CG H g ps pd G/\G.sts=zs++[z]/\lG z/\(∀l∈G.done,∀c∈l,c<128)/\G.done.length<=500/\∀H',aB H H'->Q (.bl (iw G z)) H'
open Classical in
def abq {C CS CB CG f f1 f2:Addr}{fd fB fd2:FuncData}(F:gJ K "is_over" "Game.is_over" j7 f fd)(I:tu K CG)(bH:mg "len"=none)(mJ:Meth K CG "racks_now" f1)(mK:cU P w K mg base eV 1 f1 fB aw (uX C CS CB CG Np))(mL:cD K fB aw [])(vQ:Meth K CG "bag_now" f2)(vR:cU P w K mg base eV 1 f2 fd2 aw (uX C CS CB CG aeM))(vU:cD K fd2 aw []):cU P w K mg base eV 4 f fd aw (V7 C CS CB CG):=by
 calc F.d8 qw (λbV A outer s H vs Q E hr h=>?_);let⟨g,ps,pd,G,zs,z,rfl,A0,hz,Z,J,h5,q⟩:=h;let⟨dx,k,kd,d,pb,h1,h2,h3,h4⟩:=A0.ex;let h7:=A0.dn;let n1:=Z.n1;let n4:=Z.n4;calc(aG _ (au (aW (i:=1) qw.nd rL (Or.inl rL) (jk aH I.cl mJ mK hr.mono mL .nil gM)) (au (aW (i:=2) qw.nd rL (Or.inl rL) (aJ jN aq (aP b_ qA bH ay (aj bh ak)))) (au (cG (bT (BL hr.units) (dj oN (cF aH rL) (dM (m_ kJ bG)) eO) (aJ ab3 (g_ (aj (bA [112,97,115,115] qS) ak)) bG) (bO _)) (aF (bC jr)) bR) (au (aW (i:=3) qw.nd rL (Or.inl rL) (aJ bZ (aJ ni (aP b_ qA bH ay (aj (cF aH rL) ak)) aq) (aP b_ qA bH ay (aj bh ak)))) (aF (bC (lO (gq (BL hr.units) (dj oN (cF aH rL) (dM (m_ kJ aq)) eO) (g_ (aj (bA [108,97,121] qS) ak)) (bO _)) (lO (gq kY (jk aH I.cl vQ vR hr.mono vU .nil gM) (bA [] qS) (bO _)) (kI (gq kY (aZ bI bh bU (λ_ _=>rfl)) (bA [] qS) (bO _))))))))))) ?_);calc(dJ g dx _ rL h1 rL (Dd g ps pd G zs z rL A0 hz (λpr Y=>?_)));refine(aK pr _ rL (.inr (aQ.of Y)) (aU _ _ rL rL ?_ ?_))
 .show aaq _ _;rw[aa];show .inl ⟨qr,qr⟩
 rw[aa];let em:(λi j:Int=>V.int (i*j)) 2 (z.racks.length:Int)=V.int ((2*z.racks.length:Nat):Int):=by show V.int _=V.int _;congr 1
 rw[em];generalize hk:2*z.racks.length=k2;calc(cR g CG dx _ _ rL h1 I.cl I.nd rL (aG _ rL (aG _ rL (aK pd _ rL (bM.of h7) (λp1 e1=>?_)))));rw[V6 qk,ZL,aa];let sx1:aB H (upd H p1 (.lst (Ts (G.done.drop (G.done.length-k2))))):=aB.upd e1;let Zh:upd H p1 (.lst (Ts (G.done.drop (G.done.length-k2)))) p1=some (.lst (Ts (G.done.drop (G.done.length-k2)))):=aA;generalize upd H p1 (.lst (Ts (G.done.drop (G.done.length-k2))))=H1 at sx1 Zh ⊢;calc⟨zsz 1,λp2 e2=>?_⟩;let sx2:aB H1 (upd H1 p2 (HO.lst [V.str (S [112,97,115,115])])):=aB.upd e2;let ex2:upd H1 p2 (HO.lst [V.str (S [112,97,115,115])]) p2=some (.lst (Ts [fG])):=aA;generalize upd H1 p2 (HO.lst [V.str (S [112,97,115,115])])=H2 at sx2 ex2 ⊢;refine(Il p2 (k2:Int) (Ts [fG]) rL rL ex2 qk qk ?_ (λp3 e3=>?_))
 .show 1*_<=sizeLine;show ap (aN (by simp;lia))
 let er:(List.replicate (k2:Int).toNat (Ts [fG])).flatten=Ts (List.replicate k2 fG):=by rw[ee];simp[Ts]
 let alv:=sx2 _ _ Zh;let d7:=sx1.trans sx2;rw[er];let O:aB H2 (upd H2 p3 (.lst (Ts (List.replicate k2 fG)))):=aB.upd e3;let ex3:upd H2 p3 (.lst (Ts (List.replicate k2 fG))) p3=some (.lst (Ts (List.replicate k2 fG))):=aA;let afP:=O _ _ alv;let gQ:=d7.trans O;generalize upd H2 p3 (.lst (Ts (List.replicate k2 fG)))=H3 at O ex3 afP gQ ⊢;calc(dJ 2 (.lst ((G.done.drop (G.done.length-k2)).map Dt.str)) (.lst ((List.replicate k2 fG).map Dt.str)) qr (.lst (bM.of afP) (d9.wM λl hl=>J l (c_ hl))) (.lst (bM.of ex3) (d9.wM λl hl=>?_)) (bf _ rL ?_));.rw[i8 hl];decide
 rw[Ja str_inj];by_cases hp:G.done.drop (G.done.length-k2)=List.replicate k2 fG
 .rw[ai hp];calc cH ?_;have:=q H3 gQ;unfold iw at this;rw[hk,ai hp,Bool.true_or]at this;show this
 .rw[af hp];calc cI ?_;let h13:=gQ _ _ h1;let h73:=gQ _ _ h7;let V8:=gQ _ _ Y;refine(cR g CG dx _ _ rL h13 I.cl I.nd rL (aK pd _ rL (.inl (bM.of h73)) (aK _ _ rL rL (aK pr _ rL (.inr (aQ.of V8)) (aU _ _ rL rL ?_ ?_)))))
  .show (0:Int)<_;rw[aa];lia
  rw[aa,aa];let el:(λi j:Int=>V.int (i%j)) ((G.done.length:Int)-1) (z.racks.length:Int)=V.int ((Ad G z:Nat):Int):=by show V.int _=V.int _;congr 1;unfold Ad;have:=df ((G.done.length:Int)-1) (b:=(z.racks.length:Int)) qk;lia
  let ll:Ad G z<z.racks.length:=by unfold Ad;have:=df ((G.done.length:Int)-1) (b:=(z.racks.length:Int)) qk;have:=dq ((G.done.length:Int)-1) (b:=(z.racks.length:Int)) qk;lia
  rw[el];calc(cR g CG dx _ _ rL h13 I.cl I.nd rL (aG _ rL (aG _ rL (aK pd _ rL (bM.of h73) (λp4 e4=>?_)))));rw[show (-1:Int)=-((1:Nat):Int) from rL,V6 (ax 1),ZL,aa];let sx4:aB H3 (upd H3 p4 (.lst (Ts (G.done.drop (G.done.length-1))))):=aB.upd e4;let ex4:upd H3 p4 (.lst (Ts (G.done.drop (G.done.length-1)))) p4=some (.lst (Ts (G.done.drop (G.done.length-1)))):=aA;generalize upd H3 p4 (.lst (Ts (G.done.drop (G.done.length-1))))=H4 at sx4 ex4 ⊢;calc⟨zsz 1,λp5 e5=>?_⟩;let sx5:aB H4 (upd H4 p5 (HO.lst [V.str (S [108,97,121])])):=aB.upd e5;let ex5:upd H4 p5 (HO.lst [V.str (S [108,97,121])]) p5=some (.lst (Ts [gK])):=aA;generalize upd H4 p5 (HO.lst [V.str (S [108,97,121])])=H5 at sx5 ex5 ⊢;let Cd:=(gQ.trans sx4).trans sx5;calc(dJ 2 (.lst ((G.done.drop (G.done.length-1)).map Dt.str)) (.lst ([gK].map Dt.str)) qr (.lst (bM.of (sx5 _ _ ex4)) (d9.wM λl hl=>J l (c_ hl))) (.lst (bM.of ex5) (d9.wM qr)) (bf _ rL ?_));rw[Ja str_inj];let D:=q H5 Cd;unfold iw at D;rw[hk,af hp,oq]at D;by_cases hy:G.done.drop (G.done.length-1)=[gK]
  .rw[ai hy]at D ⊢;rw[mx]at D;calc cH (dJ g dx _ rL (Cd _ _ h1) rL (Dd g ps pd G zs z rL (A0.mv Cd) hz (aK z.bag [] rL rL (bf _ rL ?_))));by_cases hb:z.bag=[]
   .rw[ai hb]at D ⊢;rw[mx]at D;calc cH (aY pr _ _ (.str (S z.racks[Ad G z])) rL rL (aQ.of (Cd _ _ Y)) (aM (lE (ac ll))) (aK _ [] rL rL ?_));rw[aE,ac ll]at D;show D
   .rw[af hb]at D ⊢;show cI D
  .rw[af hy]at D ⊢;show cI D
def iy (G:Gm)(z:Std):Nat:=G.done.length%z.racks.length
structure abr (G:Gm):Prop where
 low:∀l∈G.done,∀c∈l,c<128
 len:G.done.length<=400
 sl:G.sts.length<=500
 wd:WD G.kvs
 wb:WB 1000000 G.kvs
 sz:G.size<=7
inductive Does (G:Gm) (z:Std):dZ->Int->Std->Prop
 | lay {ts:List cu} {l:List Nat} (jL:∀t∈ts,inB z.r z.w t) (h0:0<ts.length) (h7:ts.length<=7) (ri:gP (ts.map lF)=true) (vd:qb z.aD z.r z.w z.bi z.bj G.ws (z.racks.getD (iy G z) []) ts .ok) (lf:qO (z.racks.getD (iy G z) []) (ts.map (·.2.2))=some l) :
   Does G z (.lay ts) (abl z.aD z.aV G.kvs ts G.bn G.bm) (Pg z (iy G z) G.size ts l (abl z.aD z.aV G.kvs ts G.bn G.bm))
 | swap {l m:List Nat} (ne:l≠[]) (h7:l.length<=7) (tl:∀c∈l,o8 c) (lf:qO (z.racks.getD (iy G z) []) l=some m) (hb:l.length<=z.bag.length):Does G z (.swap l) 0 (Ti z (iy G z) l m)
 | pass:Does G z .pass 0 z
def akl {aD:AA}{r w bi bj:Nat}{ws:AA}{bB:List Nat}{ts:List cu}{v:Vd}(h:qb aD r w bi bj ws bB ts .ok)(g:qb aD r w bi bj ws bB ts v):v=.ok:=by
 cases h with
 | ok h1 h2 h3 h4 h5 h=>
  cases g with
  | nH e=>rw[h1]at e;cases e
  | ud _ e=>rw[h2]at e;cases e
  | gap _ _ e=>show absurd e.fr (h3 _ _ e.i1 e.i2 e.j1 e.j2)
  | uf _ _ _ e=>rw[h4]at e;cases e
  | jK _ _ _ _ e=>let⟨l,hl⟩:=h5;rw[hl]at e;cases e
  | nw _ _ _ _ _ e=>rw[h]at e;cases e
  | ok=>rfl
def ZM {aD:AA}{r w bi bj:Nat}{ws:AA}{bB:List Nat}{ts:List cu}(h:qb aD r w bi bj ws bB ts .ok):(vM ts||vN ts)=true:=by
 cases h with| ok h1 h2 h3 h4 h5 h=>show h2
def aeN (d:dZ):∀c∈d.name,c<128:=by
 cases d;.show ∀c∈gK,c<128;decide
 .show ∀c∈dO,c<128;decide
 .show ∀c∈fG,c<128;decide
def ZP {H:Hp}{p:Addr}{d:dZ}(h:jA H p d):∃xs,H p=some (.tup (.str (S d.name)::xs)):=by
 cases d with
 | lay ts=>let⟨t,as,h1,_⟩:=h;show⟨_,h1⟩
 | swap l=>show⟨_,h⟩
 | pass=>show⟨_,h⟩
def aeO {R:AA}{a b c d i j i' j':Nat}(h:M8 R a b c d i j)(g:M8 R a b c d i' j'):i=i'/\j=j':=by
 let e:i=i':=by
  rcases Nat.lt_trichotomy i i' with z|z|z;.show absurd h.fr (g.up i j h.i1 z h.j1 h.j2)
  .show z
  .show absurd g.fr (h.up i' j' g.i1 z g.j1 g.j2)
 subst e;calc⟨rL,?_⟩;rcases Nat.lt_trichotomy j j' with z|z|z;.show absurd h.fr (g.le j h.j1 z)
 .show z
 .show absurd g.fr (h.le j' g.j1 z)
def Ck.snoc {C CS:Addr}{H:Hp}{as:List Addr}{zs:List Std}{a:Addr}{z:Std}(h:Ck C CS H as zs)(g:jH C CS H a z):Ck C CS H (as++[a]) (zs++[z]):=by
 calc⟨by rw[am,am,h.len];rfl,λi b y e1 e2=>?_⟩;by_cases hi:i<as.length
 .rw[dE hi]at e1;rw[dE (by rw[<-h.len];show hi)]at e2;show h.at_ i b y e1 e2
 .rw[du qk]at e1;rw[du (by rw[<-h.len];lia),<-h.len]at e2;let h0:i-as.length=0:=by have:=(ah.mp e1).1;simp at this;lia
  rw[h0]at e1 e2;cases e1;cases e2;show g
def Ck.k2 {C CS:Addr}{H H':Hp}{ps pd:Addr}{xs ys:List V}{as:List Addr}{zs:List Std}(h:Ck C CS H as zs)(s:Ac ps pd H H')(h1:H ps=some (.lst xs))(h2:H pd=some (.lst ys)):Ck C CS H' as zs:=⟨h.len,λi a z e1 e2=>(h.at_ i a z e1 e2).k2 s h1 h2⟩
def ZQ {aD:AA}{r w bi bj:Nat}{ws:AA}{bB:List Nat}{ts:List cu}{v D:Vd}(h:qb aD r w bi bj ws bB ts v)(g:qb aD r w bi bj ws bB ts D):v=D:=by let ng:∀{R:AA} {a b c d i j:Nat},M8 R a b c d i j->IK R a b c d->False:=λh n=>n _ _ h.i1 h.i2 h.j1 h.j2 h.fr;cases h <;> cases g <;> first|rfl|show(ng ‹_› ‹_›).elim|(simp_all;done)|(simp_all;show aeO ‹_› ‹_›)
structure V9 where
 v:Rn
 nd:Addr
 few:Addr
 ov:Addr
inductive Rf
 | nd|lay|vd (v:Vd)|few|ov
def XAt (c:V9)(H:Hp)(cls:Value)(dd:Option Addr):Rf->Prop
 | .nd=>cls=.ref c.nd/\dd=none
 | .lay=>cls=.ref c.v.lay/\dd=none
 | .vd v=>VdX c.v H cls dd v
 | .few=>cls=.ref c.few/\dd=none
 | .ov=>cls=.ref c.ov/\dd=none
inductive Cm (K:W.Frag) (G:Gm) (z:Std) (H:Hp) (p:Addr):Rf->Prop
 | lay {x:V} {o:Option (List tZ)} (h:H p=some (.tup [.str (S gK),x])) (hx:M5 K H x o) (hB:layB z.r z.w o=false):Cm K G z H p .lay
 | vd {ts:List cu} {v:Vd} (h:jA H p (.lay ts)) (jL:∀t∈ts,inB z.r z.w t) (h0:0<ts.length) (h7:ts.length<=7) (ri:gP (ts.map lF)=true) (hv:qb z.aD z.r z.w z.bi z.bj G.ws (z.racks.getD (iy G z) []) ts v) (ne:v≠.ok):Cm K G z H p (.vd v)
 | jK {l:List Nat} {t:Nat} (h:jA H p (.swap l)) (h63:l.length<=63) (tl:∀c∈l,o8 c) (hg:pZ ((z.racks.getD (iy G z) []).map λc=>[c]) l=.inl t):Cm K G z H p (.vd (.jK t))
 | few {l m:List Nat} (h:jA H p (.swap l)) (h63:l.length<=63) (tl:∀c∈l,o8 c) (lf:qO (z.racks.getD (iy G z) []) l=some m) (hb:z.bag.length<l.length):Cm K G z H p .few
def Cm.mv {G:Gm}{z:Std}{H H':Hp}{p:Addr}{rf:Rf}(h:Cm K G z H p rf)(s:aB H H'):Cm K G z H' p rf:=by
 cases h with| lay h hx hB=>show .lay (s _ _ h) (hx.mv s) hB| vd h jL h0 h7 ri hv ne=>show .vd (h.mv s) jL h0 h7 ri hv ne| jK h h63 tl hg=>show .jK (h.mv s) h63 tl hg| few h h63 tl lf hb=>show .few (h.mv s) h63 tl lf hb
inductive mY (K:W.Frag) (G:Gm) (z:Std) (H:Hp):V->Rf->Prop
 | nd {x:V} (h:o9 K H x false):mY K G z H x .nd
 | ov {x:V} (h:o9 K H x true) (ov:iw G z=true):mY K G z H x .ov
 | rf {p:Addr} {rf:Rf} (h:o9 K H (.ref p) true) (ov:iw G z=false) (r:Cm K G z H p rf):mY K G z H (.ref p) rf
def mY.mv {G:Gm}{z:Std}{H H':Hp}{x:V}{rf:Rf}(h:mY K G z H x rf)(s:aB H H'):mY K G z H' x rf:=by
 cases h with| nd h=>show .nd (h.mv s)| ov h ov=>show .ov (h.mv s) ov| rf h ov r=>show .rf (h.mv s) ov (r.mv s)
def aeP (K : W.Frag)(C CS CB CG : Addr)(c : V9) : Sp := λvs H Q E => ∃(g ps pd : Addr) (x : V) (G : Gm) (zs : List Std) (z : Std), vs = [.ref g, x] /\ jT C CS CB CG H g ps pd G /\ G.sts = zs++[z] /\ lG z /\ abr G /\
  ((∃rf, mY K G z H x rf /\ ∀cls dd H', XAt c H' cls dd rf -> aB H H' -> E cls dd H') \/
   (∃(p : Addr) (d : dZ) (pt : Int) (z' : Std), x = .ref p /\ jA H p d /\ iw G z = false /\ Does G z d pt z' /\ ∀H', Ac ps pd H H' -> jT C CS CB CG H' g ps pd {G with sts := G.sts++[z'], done := G.done++[d.name]} -> Q (.int pt) H'))
open Classical in
def akm {C CS CB CG f f1 f2:Addr}{fd fB fd2:FuncData}{c:V9}(F:gJ K "do" "Game.do" qJ f fd)(O:tu K CG)(TS:uW K CS)(Gs:mg "NoDeed"=some (.ref c.nd))(aeQ:W.excIn K c.nd jl "ValueError.__new__"=true)(Pk:mg "Over"=some (.ref c.ov))(aiT:W.excIn K c.ov jl "ValueError.__new__"=true)(rC:Meth K CG "is_over" f1)(rD:cU P w K mg base eV 4 f1 fB aw (V7 C CS CB CG))(rE:cD K fB aw [])(Ba:Meth K CG "turn" f2)(Bb:cU P w K mg base eV 2 f2 fd2 aw (Pj C CS CB CG))(Bc:cD K fd2 aw [])(ac8:cA P w K mg base "is_deed" 2 ey (ac4 K))(o_:DefX P w K mg base "check_laying" 14 li (IW K C CB c.v))(Bf:cA P w K mg base "points_of" 11 oA (abm C))(Nq:cA P w K mg base "behind_laying" 10 pc (ac5 C CS))(Ss:DefX P w K mg base "behind_swap" 10 sh (ZK C CS c.v.jK c.few)):cU P w K mg base (vm P w) 16 f fd si (aeP K C CS CB CG c):=by
 refine F.yQ pQ (λvs H Q E h=>?_) (λbV A outer s H vs Q E hr h=>?_)
 .let⟨g,ps,pd,x,G,zs,z,rfl,_⟩:=h;rfl
 .let⟨g,ps,pd,x,G,zs,z,rfl,A0,hz,Z,GK,h⟩:=h;let⟨dx,k,kd,dd,pb,h1,h2,h3,h4⟩:=A0.ex;let⟨as0,h5,h6⟩:=A0.st;let h7:=A0.dn;let n1:=Z.n1;let h6':=h6;rw[hz]at h6';let⟨bs,a,rfl,SA⟩:=h6'.last;let⟨dy,b,pr,pp,e1,e2,e3,e4⟩:=SA.ex;let Y:iy G z<z.racks.length:=pi _ n1;let hg:z.racks.getD (iy G z) []=z.racks[iy G z]:=by rw[aE,ac Y];rfl
  let⟨k7,kt⟩:=Z.r7 _ (ba Y);calc(aG _ (au (cG (gU (fJ (bQ ac8 hr.mono rL (aj bh ak)))) (aF (vH oW rL rL qA Gs aeQ (aj (bA [110,111,32,100,101,101,100] qS) ak))) bR) (au (cG (fJ (jk aH O.cl rC rD hr.mono rE .nil gM)) (aF (vH oW rL rL qA Pk aiT (aj (bA [116,104,101,32,103,97,109,101,32,105,115,32,111,118,101,114] qS) ak))) bR) (au (aW (i:=2) pQ.nd rL (Or.inl rL) (aZ gA (cF aH rL) (m_ kJ aq) (λ_ _=>rfl))) (au (aW (i:=3) pQ.nd rL (Or.inl rL) (jk aH O.cl Ba Bb hr.mono Bc .nil gM)) (au (aW (i:=4) pQ.nd rL (Or.inl rL) aq) (au (f9 (cG (bT kY (aZ bI bh aq (λ_ _=>rfl)) (bA [108,97,121] qS) (bO _)) (au (eG (mW o_ hr.mono rL qX.all (aj (cF bG rL) (aj (cF aH rL) (aj (aZ bI (cF bG rL) bU (λ_ _=>rfl)) (aj (aZ bI bh aq (λ_ _=>rfl)) ak)))))) (au (aW (i:=4) pQ.nd rL (Or.inl rL) (bQ Bf hr.mono rL (aj (cF bG rL) (aj (cF aH rL) (aj (cF aH rL) (aj (aZ bI bh aq (λ_ _=>rfl)) ak)))))) (aF (aW (i:=2) pQ.nd rL (Or.inl rL) (bQ Nq hr.mono rL (aj bG (aj bU (aj (cF aH rL) (aj (aZ bI bh aq (λ_ _=>rfl)) (aj cQ ak)))))))))) (aF (f9 (cG (bT kY (aZ bI bh aq (λ_ _=>rfl)) (bA [115,119,97,112] qS) (bO _)) (aF (aW (i:=2) pQ.nd rL (Or.inl rL) (mW Ss hr.mono rL qX.all (aj bG (aj bU (aj (aZ bI bh aq (λ_ _=>rfl)) ak)))))) bR))))) (au (eG (gG ce dL dP kO (cF aH rL) (aj bG ak))) (au (eG (gG ce dL dP kO (cF aH rL) (aj (aZ bI bh aq (λ_ _=>rfl)) ak))) (aF (bC cQ)))))))))) ?_);replace h:(o9 K H x false/\∀H',aB H H'->E (.ref c.nd) none H')\/(o9 K H x true/\((iw G z=true/\∀H',aB H H'->E (.ref c.ov) none H')\/(iw G z=false/\∃p,x=.ref p/\((∃rf,Cm K G z H p rf/\∀cls dd H',XAt c H' cls dd rf->aB H H'->E cls dd H')\/(∃(d:dZ) (pt:Int) (z':Std),jA H p d/\Does G z d pt z'/\∀H',Ac ps pd H H'->jT C CS CB CG H' g ps pd {G with sts:=G.sts++[z'],done:=G.done++[d.name]}->Q (.int pt) H'))))):=by
   rcases h with⟨rf,hr,qE⟩|⟨p,d,pt,z',rfl,hd,hov,hdo,q⟩
   .cases hr with| nd h=>show .inl ⟨h,λH' s'=>qE _ _ H' ⟨rL,rL⟩ s'⟩| ov h ov=>show .inr ⟨h,.inl ⟨ov,λH' s'=>qE _ _ H' ⟨rL,rL⟩ s'⟩⟩| rf h ov r=>show .inr ⟨h,.inr ⟨ov,aG _ rL (.inl (aG _ r qE))⟩⟩
   .calc .inr ⟨hd.dd λl e=>?_,.inr ⟨hov,aG p rL (.inr (pK d pt z' hd hdo q))⟩⟩;subst e;cases hdo with| swap ne h7 tl lf hb=>show(cj ne qk tl)
  rcases h with⟨hd,qE⟩|⟨hdd,h⟩;.show(aK x false rL hd (λH1 s1=>⟨zsz 1,qE H1 s1⟩))
  calc(aK x true rL hdd (λH1 s1=>?_));calc(dJ g dx _ rL (s1 _ _ h1) rL (oE g ps pd G zs z rL (A0.mv s1) hz Z GK.low (by have:=GK.len;lia) (λH2 s2=>(bf _ rL ?_))));let I:=s1.trans s2;rcases h with⟨hov,qE⟩|⟨hov,p,rfl,h⟩
  .rw[hov];show cH ⟨zsz 1,qE H2 I⟩
  rw[hov];calc cI (cR g CG dx _ _ rL (I _ _ h1) O.cl O.ns rL (aG _ rL (aY ps _ _ (.ref a) rL rL (bM.of (I _ _ h5)) zq ?_)));calc(dJ g dx _ rL (I _ _ h1) rL (S8 g ps pd G zs z rL (A0.mv I) hz Z ?_));let Ae:=I _ _ e1;let h12:=I _ _ h1;rcases h with⟨rf,hr,qE⟩|⟨d,pt,z',hd,hdo,q⟩
  .calc(aG (λ_ _=>False) ?_ (λ_ _ h=>h.elim));cases hr with
   | @lay x o hp hx hB=>have D:=I _ _ hp;calc(aY p _ _ (.str (S gK)) rL rL (aQ.of D) (aM (j:=0) rL) (aK gK gK rL rL (bf _ rL ?_)));rw[ai rfl];show cH ⟨True.intro,cR a CS dy _ _ rL Ae TS.cl TS.nb rL (cR g CG dx _ _ rL h12 O.cl O.nk rL (cR a CS dy _ _ rL Ae TS.cl TS.nr rL (aY pr _ _ (.str (S z.racks[iy G z])) rL rL (aQ.of (I _ _ e3)) (aM (lE (ac Y))) (aY p _ _ x rL rL (aQ.of D) (aM (j:=1) rL) (Fx b k kd G.ws (z.racks[iy G z]) x z.r z.w z.aD z.aV z.bi z.bj rL (e2.mv I) (h2.mv I) qk (.inl (bJ o (hx.mv I) hB (λH' s'=>qE _ _ H' ⟨rL,rL⟩ (I.trans s')))))))))⟩
   | @vd ts v hd jL h0 ZR ri hv ne=>let⟨t,as,hp,ht,hL⟩:=hd;let D:=I _ _ hp;rw[hg]at hv;calc(aY p _ _ (.str (S gK)) rL rL (aQ.of D) (aM (j:=0) rL) (aK gK gK rL rL (bf _ rL ?_)));rw[ai rfl];calc cH ⟨True.intro,cR a CS dy _ _ rL Ae TS.cl TS.nb rL (cR g CG dx _ _ rL h12 O.cl O.nk rL (cR a CS dy _ _ rL Ae TS.cl TS.nr rL (aY pr _ _ (.str (S z.racks[iy G z])) rL rL (aQ.of (I _ _ e3)) (aM (lE (ac Y))) (aY p _ _ (.ref t) rL rL (aQ.of D) (aM (j:=1) rL) (Fx b k kd G.ws (z.racks[iy G z]) (.ref t) z.r z.w z.aD z.aV z.bi z.bj rL (e2.mv I) (h2.mv I) qk (.inr (SX t as ts rL (I _ _ ht) (hL.mv I) jL h0 ZR ri (λv' cls dd H' hv' hx s'=>?_) (λhv'=>absurd (ZQ hv hv') ne))))))))⟩;rw[<-ZQ hv hv']at hx;show qE _ _ H' hx (I.trans s')
   | @jK l t hd h63 tl hgo=>
    let D:=I _ _ (show H p=some (.tup [.str (S dO),.str (S l)]) from hd);calc(aY p _ _ (.str (S dO)) rL rL (aQ.of D) (aM (j:=0) rL) (aK dO gK rL rL (bf _ rL ?_)));rw[af (show ¬dO=gK by decide)];calc cI (aG (λ_ _=>False) ?_ (λ_ _ h=>h));calc(aY p _ _ (.str (S dO)) rL rL (aQ.of D) (aM (j:=0) rL) (aK dO dO rL rL (bf _ rL ?_)));rw[ai rfl];refine cH ⟨True.intro,aY p _ _ (.str (S l)) rL rL (aQ.of D) (aM (j:=1) rL) (lU a z (iy G z) l rL (SA.mv I) Z Y h63 tl (λt' e dx H' s' hd=>?_) (λm e=>?_))⟩
    .rw[hgo]at e;cases e;show qE _ _ H' ⟨rL,aG dx rL hd⟩ (I.trans s')
    .rw[Ce e]at hgo;cases hgo
   | @few l m hd h63 tl lf hb=>have D:=I _ _ (show H p=some (.tup [.str (S dO),.str (S l)]) from hd);calc(aY p _ _ (.str (S dO)) rL rL (aQ.of D) (aM (j:=0) rL) (aK dO gK rL rL (bf _ rL ?_)));rw[af (show ¬dO=gK by decide)];calc cI (aG (λ_ _=>False) ?_ (λ_ _ h=>h));calc(aY p _ _ (.str (S dO)) rL rL (aQ.of D) (aM (j:=0) rL) (aK dO dO rL rL (bf _ rL ?_)));rw[ai rfl];calc cH ⟨True.intro,aY p _ _ (.str (S l)) rL rL (aQ.of D) (aM (j:=1) rL) (lU a z (iy G z) l rL (SA.mv I) Z Y h63 tl (λt' e dx H' s' hd=>?_) (λm' e=>⟨λ_ H' s'=>qE _ _ H' ⟨rL,rL⟩ (I.trans s'),λh=>absurd hb qk⟩))⟩;rw[Ce lf]at e;cases e
  refine⟨λσ H3=>∃J,σ=[some (.ref g),some (.ref p),some (.ref J),some (.int (iy G z:Nat)),some (.int pt)]/\aB H H3/\jH C CS H3 J z',?_,?_⟩
  .cases hdo with
   | @lay ts l jL h0 ZR ri vd lf=>
    let⟨t,as,hp,ht,hL⟩:=hd;let D:=I _ _ hp;let hl1:=O8 e2.ok.w9 jL h0 ri (ZM vd);rw[hg]at vd;calc(aY p _ _ (.str (S gK)) rL rL (aQ.of D) (aM (j:=0) rL) (aK gK gK rL rL (bf _ rL ?_)));rw[ai rfl];refine cH ⟨True.intro,cR a CS dy _ _ rL Ae TS.cl TS.nb rL (cR g CG dx _ _ rL h12 O.cl O.nk rL (cR a CS dy _ _ rL Ae TS.cl TS.nr rL (aY pr _ _ (.str (S z.racks[iy G z])) rL rL (aQ.of (I _ _ e3)) (aM (lE (ac Y))) (aY p _ _ (.ref t) rL rL (aQ.of D) (aM (j:=1) rL) (Fx b k kd G.ws (z.racks[iy G z]) (.ref t) z.r z.w z.aD z.aV z.bi z.bj rL (e2.mv I) (h2.mv I) qk (.inr (SX t as ts rL (I _ _ ht) (hL.mv I) jL h0 ZR ri (λv cls dd H' hv hx _=>?_) (λ_ H3 s3=>?_))))))))⟩
    .have:=akl vd hv;subst this;show hx.elim
    let gQ:=I.trans s3;calc(cR a CS dy _ _ rL (gQ _ _ e1) TS.cl TS.nb rL (cR g CG dx _ _ rL (gQ _ _ h1) O.cl O.nw rL (cR g CG dx _ _ rL (gQ _ _ h1) O.cl O.nn rL (aY p _ _ (.ref t) rL rL (aQ.of (gQ _ _ hp)) (aM (j:=1) rL) ⟨b,dd,pb,t,G.kvs,G.bn,G.bm,as,ts,z.r,z.w,z.aD,z.aV,z.bi,z.bj,rL,e2.mv gQ,Rd.of (gQ _ _ h3),GK.wd,GK.wb,gQ _ _ h4,gQ _ _ ht,hL.mv gQ,jL,h0,ZR,hl1,λH4 s4=>?_⟩))));let i_:=gQ.trans s4;refine(cR g CG dx _ _ rL (i_ _ _ h1) O.cl O.nz rL (aY p _ _ (.ref t) rL rL (aQ.of (i_ _ _ hp)) (aM (j:=1) rL) ⟨a,t,z,iy G z,G.size,_,as,ts,l,rL,SA.mv i_,Z,Y,GK.sz,i_ _ _ ht,hL.mv i_,jL,ZR,(λu hu=>Vz (jL u hu).2.2),lf,λJ H5 s5 A5=>(bJ J rL (i_.trans s5) A5)⟩))
   | @swap l m ne ZR tl lf hb=>
    let hp:H p=some (.tup [.str (S dO),.str (S l)]):=hd;let D:=I _ _ hp;calc(aY p _ _ (.str (S dO)) rL rL (aQ.of D) (aM (j:=0) rL) (aK dO gK rL rL (bf _ rL ?_)));rw[af (show ¬dO=gK by decide)];calc cI ⟨λσ H3=>∃J,σ=[some (.ref g),some (.ref p),some (.ref J),some (.int (iy G z:Nat)),some (.int 0)]/\aB H H3/\jH C CS H3 J (Ti z (iy G z) l m),?_,λσ H3 h=>h⟩;calc(aY p _ _ (.str (S dO)) rL rL (aQ.of D) (aM (j:=0) rL) (aK dO dO rL rL (bf _ rL ?_)));rw[ai rfl];calc cH ⟨True.intro,aY p _ _ (.str (S l)) rL rL (aQ.of D) (aM (j:=1) rL) (lU a z (iy G z) l rL (SA.mv I) Z Y qk tl (λt' e dx H' s' hd=>?_) (λm' e=>⟨λh=>absurd hb qk,λ_ J H5 s5 A5=>?_⟩))⟩;.rw[Ce lf]at e;cases e
    .rw[lf]at e;cases e;show(bJ J rL (I.trans s5) A5)
   | pass=>have hp:H p=some (.tup [.str (S fG)]):=hd;let D:=I _ _ hp;calc(aY p _ _ (.str (S fG)) rL rL (aQ.of D) (aM (j:=0) rL) (aK fG gK rL rL (bf _ rL ?_)));rw[af (show ¬fG=gK by decide)];calc cI ⟨λσ H3=>∃J,σ=[some (.ref g),some (.ref p),some (.ref J),some (.int (iy G z:Nat)),some (.int 0)]/\aB H H3/\jH C CS H3 J z,?_,λσ H3 h=>h⟩;calc(aY p _ _ (.str (S fG)) rL rL (aQ.of D) (aM (j:=0) rL) (aK fG dO rL rL (bf _ rL ?_)));rw[af (show ¬fG=dO by decide)];show cI (bJ a rL I (SA.mv I))
  .intro σ H3 z;let⟨J,rfl,gQ,A3⟩:=z;let⟨xs,hn⟩:=ZP hd;let h53:=gQ _ _ h5;let h73:=gQ _ _ h7;let hlz:(bs++[a]).length<=500:=by rw[h6.len];show GK.sl
   calc(Mh g CG dx _ _ rL (gQ _ _ h1) O.cl O.ns rL (.inl ⟨rL,_,bM.of h53⟩) (gH ps _ (.ref J) rL rL h53 (aN (by rw[aa];lia)) ?_));let hgp:g≠ps:=qe h5 h1 (λ_ z=>nomatch z);let A_:p≠ps:=qe h5 hn (λ_ z=>nomatch z);let hpd:pd≠ps:=λe=>by
    subst e;rw[h5]at h7;injection h7 with h7;injection h7 with h7;cases hG:G.done with| nil=>rw[hG]at h7;simp[Ts]at h7| cons l ls=>show agP (by rw[hG];simp) h7
   let g1:=gQ _ _ h1;rw[<-bw (H:=H3) (o:=.lst ((bs++[a]).map V.ref++[.ref J])) hgp]at g1;let g7:=h73;rw[<-bw (H:=H3) (o:=.lst ((bs++[a]).map V.ref++[.ref J])) hpd]at g7;let gn:=gQ _ _ hn;rw[<-bw (H:=H3) (o:=.lst ((bs++[a]).map V.ref++[.ref J])) A_]at gn;calc(Mh g CG dx _ _ rL g1 O.cl O.nd rL (.inl ⟨rL,_,bM.of g7⟩) (aY p _ _ (.str (S d.name)) rL rL (aQ.of gn) (aM (j:=0) rL) (gH pd _ (.str (S d.name)) rL rL g7 (aN (by rw[aa];have:=GK.len;lia)) ?_)));let kk:Ac ps pd H (upd (upd H3 ps (.lst ((bs++[a]).map V.ref++[.ref J]))) pd (.lst (Ts G.done++[.str (S d.name)]))):=λx o e m1 m2=>by rw[bw m2,bw m1];show gQ _ _ e
   let k3:Ac ps pd H3 (upd (upd H3 ps (.lst ((bs++[a]).map V.ref++[.ref J]))) pd (.lst (Ts G.done++[.str (S d.name)]))):=λx o e m1 m2=>by rw[bw m2,bw m1];show e
   calc q _ kk (A0.put kk (as:=bs++[a]++[J]) ?_ ((h6.k2 kk h5 h7).snoc (A3.k2 k3 h53 h73)) ?_);.rw[bw hpd.symm,aA];simp
   .rw[aA];simp[Ts]
def ac9 (C:Addr):Sp:=λvs H Q _=>∃(p d:Addr) (ws:AA),vs=[.ref p]/\jd C H p d ws/\ws.length<64/\
 ∀(x j:Addr) (D:AA) (H':Hp),aB H H'->H x=none->H j=none->jd C H' x j D->(∀y,y∈D↔y∈ws)->Q (.ref x) H'
def agQ {f C f0 f1:Addr}{fd gk fB:FuncData}(F:gJ K "twin" "Book.twin" oh f fd)(Gj:vO K C)(Pn:mg "Book"=some (.ref C))(V_:Mk K C f0)(Wa:cU P w K mg base eV 3 f0 gk r_ (Vs K C))(Wb:cD K gk r_ [])(Z:Meth K C "words" f1)(Wd:cU P w K mg base eV 1 f1 fB aw (Zv C))(Wf:cD K fB aw []):cU P w K mg base eV 5 f fd aw (ac9 C):=by
 calc F.d8 U5 (λbV A outer s H vs Q E hr h=>?_);let⟨p,d,ws,rfl,B,G,q⟩:=h;let⟨dx,hp⟩:=B.ob;calc(aG _ (aF (bC (tU V_ Wa hr.mono rL Pn Wb .nil gM (aj (jk aH Gj.cl Z Wd hr.mono Wf .nil gM) ak)))) ?_);calc(dJ p dx _ rL hp rL (dJ p d ws rL B G (λt us H1 s1 ht I pm rs=>?_)));intro x j nx J yP;let s2:aB H1 (upd (upd H1 j (HO.own x)) x (HO.ins C j [])):=λb o e=>by rw[bw (bL e nx),bw (bL e J)];show e
 calc(gb x j t us rL aA (.inr (aQ.of (s2 _ _ I))) (λl hl=>B.az l (pm.mem_iff.mp hl)) (by rw[pm.length_eq];lia) (λO w6 Y D BA hm dR kp=>⟨rL,?_⟩));let s3:aB H1 Y:=λb o e=>kp b o (s2 b o e) (bL e nx);calc q x O w6 Y (s1.trans s3) (s1.free nx) (s1.free ?_) BA (λy=>(hm y).trans pm.mem_iff);cases e:H1 O with| none=>rfl| some o=>rw[s2 _ _ e]at D;cases D
def ZS (C CS CB CG:Addr):Sp:=λvs H Q _=>∃(g dx b k kd d pb pr:Addr) (ws:AA) (kvs:List (Key×V)) (n m:Int) (size r w:Nat) (aD aV:AA) (bi bj:Nat) (racks:AA) (bag:List Nat),vs=[.ref g,.ref b,.ref k,.ref d,.ref pb,.int size,.ref pr,.str (S bag)]/\H g=some (.ins CG dx [])/\dN C H b r w aD aV bi bj/\jd CB H k kd ws/\ws.length<64/\H d=some (.dK kvs)/\H pb=some (.tup [.int n,.int m])/\H pr=some (.tup (Ts racks))/\1<=racks.length/\racks.length<=4/\(∀l∈racks,l.length<64)/\
 ∀(ps pd:Addr) (j:AA) (H':Hp),(∀a o,H a=some o->a≠g->H' a=some o)->(∀y,y∈j↔y∈ws)->H ps=none->H pd=none->jT C CS CB CG H' g ps pd ⟨[⟨r,w,aD,aV,bi,bj,racks.map fu,bag,List.replicate racks.length 0⟩],[],j,kvs,n,m,size⟩->Q .non H'
def Wg {C CS CB CG f f0 f1:Addr}{fd gk fB:FuncData}(F:gJ K "__init__" "Game.__init__" n6 f fd)(T:tu K CG)(Gj:vO K CB)(Gu:mg "dict"=none)(cX:mg "tuple"=none)(bH:mg "len"=none)(Yo:Meth K CB "twin" f1)(Yp:cU P w K mg base eV 5 f1 fB aw (ac9 CB))(Yq:cD K fB aw [])(zp:mg "Stand"=some (.ref CS))(Cg:Mk K CS f0)(Ci:cU P w K mg base eV 1 f0 gk cZ (I_ CS))(Cj:cD K gk cZ [])(rB:cA P w K mg base "in_order" 1 ["tiles"] Tg):cU P w K mg base eV 7 f fd dt (ZS C CS CB CG):=by
 calc F.d8 FP (λbV A outer s H vs Q E hr h=>?_);let⟨g,dx,b,k,kd,d,pb,pr,ws,kvs,n,m,size,r,w,aD,aV,bi,bj,racks,bag,rfl,hg,hB,hK,h64,hd,hpb,hpr,n1,n4,h7,q⟩:=h;let⟨kx,hk⟩:=hK.ob;calc(aG _ (au (nj aH (jk bG Gj.cl Yo Yp hr.mono Yq .nil gM) rL) (au (nj aH (fY aaQ qA Gu PyProof.Rows.boot_dict (aj bU ak)) rL) (au (nj aH cQ rL) (au (nj aH dD rL) (au (nj aH (g_ (aj (tU Cg Ci hr.mono rL zp Cj .nil gM (aj bh (aj (fY jB qA cX c9 (aj (jY rL (jW.of FP.nd qB) (jh fU) (λ_ _ _ _ _=>fO) (λ_ _ _ _ _=>(bQ rB hr.mono rL (aj aH ak)))) ak)) (aj gY (aj (aJ Y_ (bF (aj aq ak)) (aP b_ qA bH ay (aj fU ak))) ak))))) ak)) rL) (aF (nj aH (g_ ak) rL))))))) ?_);calc(dJ k kx _ rL hk rL (dJ k kd ws rL hK h64 (λk2 kd2 w6 H1 s1 f1 f2 BK hm=>?_)));let g1:=s1 _ _ hg;calc(gb g CG dx _ rL g1 T.cl T.nk (by show 0<1000;decide) ?_);generalize hX:upd H1 g (HO.ins CG dx (jx "book" (V.ref k2) []))=H2;let K2:∀a o,H1 a=some o->a≠g->H2 a=some o:=λa o e ne=>by rw[<-hX,bw ne];show e
 let g2:H2 g=some (.ins CG dx [("book",.ref k2)]):=by rw[<-hX];show aA
 let ZV:∀{a:Addr} {o:HO},H a=some o->(∀C' d' fs,o≠.ins C' d' fs)->a≠g:=λe ne z=>by subst z;rw[hg]at e;show ne _ _ _ (bq e).symm
 let dg:d≠g:=ZV hd (λ_ _ _ z=>nomatch z);calc(aK d kvs rL (K2 _ _ (s1 _ _ hd) dg) (λj e2=>?_));let Y:j≠g:=λz=>by subst z;rw[g2]at e2;cases e2
 let g3:upd H2 j (HO.dK kvs) g=some (.ins CG dx [("book",.ref k2)]):=by rw[bw Y.symm];show g2
 let K3:∀a o,H1 a=some o->a≠g->upd H2 j (HO.dK kvs) a=some o:=λa o e ne=>by rw[bw (bL (K2 a o e ne) e2)];show K2 a o e ne
 let d3:upd H2 j (HO.dK kvs) j=some (.dK kvs):=aA;let e2H:H j=none:=by
  cases e:H j with| none=>rfl| some o=>rw[K2 _ _ (s1 _ _ e) Y]at e2;cases e2
 generalize upd H2 j (HO.dK kvs)=H3 at g3 K3 d3 ⊢;calc(gb g CG dx _ rL g3 T.cl T.nw (by show 1<1000;decide) ?_);calc(gb g CG dx _ rL aA T.cl T.nn (by show 2<1000;decide) ?_);calc(gb g CG dx _ rL aA T.cl T.nz (by show 3<1000;decide) ?_);rw[Yt,Yt];generalize hY:upd H3 g (HO.ins CG dx (jx "size" (V.int size) (jx "bonus" (V.ref pb) (jx t6 (V.ref j) [("book",V.ref k2)]))))=H6;let g6:H6 g=some (.ins CG dx [("book",.ref k2),(t6,.ref j),("bonus",.ref pb),("size",.int size)]):=by rw[<-hY];show aA
 let J:∀a o,H1 a=some o->a≠g->H6 a=some o:=λa o e ne=>by rw[<-hY,bw ne];show K3 a o e ne
 let d6:H6 j=some (.dK kvs):=by rw[<-hY,bw Y];show d3
 let prg:pr≠g:=ZV hpr (λ_ _ _ z=>nomatch z);let aeR:=J _ _ (s1 _ _ hpr) prg;refine(bJ pr rL ⟨_,aQ.of aeR⟩ (λL hL=>tH (xs:=Ts racks) (λi ys O=>ys=Ts ((racks.take i).map fu)/\O L=some (.lst ys)/\aB H6 O) (cj rL aA (aB.upd hL)) (λi ys O _ h=>aQ.of (h.2.2 _ _ aeR)) ?_ ?_))
 .intro i x ys O hi z;let⟨rfl,Gv,sm⟩:=z;let⟨l,hl,rfl⟩:=yX hi;let hil:i<(Ts racks).length:=(ah.mp hi).1;let hir:i<racks.length:=by rw[aa]at hil;show hil
  calc(bJ l rL (h7 l (bp hl)) (λH8 s8=>(cj (s8 _ _ Gv) ?_ (iV.mk hil (cj ?_ aA ((sm.trans s8).eE hL))))));.rw[aa,aa,av];show aN qk
  .rw[take_snoc hl];simp only[Ts,bP];rfl
 .intro ys O z;let⟨rfl,Gv,sm⟩:=z;rw[aa,cw]at Gv;calc(dW L _ rL (.inl ⟨bM.of Gv,λtp ht=>?_⟩));let s8:aB O (upd O tp (.tup (Ts (racks.map fu)))):=aB.upd ht;let ZW:upd O tp (.tup (Ts (racks.map fu))) tp=some (.tup (Ts (racks.map fu))):=aA;generalize upd O tp (HO.tup (Ts (racks.map fu)))=H8 at s8 ZW ⊢;let s68:=sm.trans s8;calc⟨zsz 1,λp0 e0=>?_⟩;let s9:aB H8 (upd H8 p0 (HO.tup [V.int 0])):=aB.upd e0;let ep0:upd H8 p0 (HO.tup [V.int 0]) p0=some (.tup [V.int 0]):=aA;generalize upd H8 p0 (HO.tup [V.int 0])=H9 at s9 ep0 ⊢;let s69:=s68.trans s9;calc(aK pr _ rL (.inr (aQ.of (s69 _ _ aeR))) (SQ p0 _ racks.length rL (by rw[aa]) ep0 qo n1 qk (by show 1<=100;decide) (λpp HA sA hpp=>?_)));let A_:HA pp=some (.tup ((List.replicate racks.length (0:Int)).map V.int)):=by rw[hpp];simp
  let s6A:=s69.trans sA;let bg:b≠g:=by let⟨bx,_,_,_,hbx,_⟩:=hB.ex;intro z;subst z;rw[hg]at hbx;cases hbx
  let HB6:dN C H6 b r w aD aV bi bj:=by obtain⟨⟨bx,b1,b2,b3,c0,c1,c2,c3⟩,ok⟩:=hB;show⟨(gO bx b1 b2 b3 (J _ _ (s1 _ _ c0) bg) (J _ _ (s1 _ _ c1) (ZV c1 (λ_ _ _ z=>nomatch z))) (J _ _ (s1 _ _ c2) (ZV c2 (λ_ _ _ z=>nomatch z))) (J _ _ (s1 _ _ c3) (ZV c3 (λ_ _ _ z=>nomatch z)))),ok⟩
  intro x ex nx1 nx2 nx3;calc⟨x,ex,b,tp,pp,bag,rL,aA,λHC kC eC=>⟨rL,?_⟩⟩;let⟨sC,AC⟩:=Gn (z:=⟨r,w,aD,aV,bi,bj,racks.map fu,bag,List.replicate racks.length 0⟩) nx1 nx2 kC eC (HB6.mv s6A) (sA _ _ (s9 _ _ ZW)) A_;let s6C:=s6A.trans sC;calc⟨zsz 1,λps G=>?_⟩;let sD:aB HC (upd HC ps (HO.lst [V.ref x])):=aB.upd G;let pD:upd HC ps (HO.lst [V.ref x]) ps=some (.lst ([x].map V.ref)):=aA;generalize upd HC ps (HO.lst [V.ref x])=HD at sD pD ⊢;let Z:=s6C.trans sD;calc(gb g CG dx _ rL (Z _ _ g6) T.cl T.ns (by show 4<1000;decide) ?_);let psg:ps≠g:=λz=>by subst z;rw[s6C _ _ g6]at G;cases G
  generalize hE:upd HD g (HO.ins CG dx (jx "stands" (V.ref ps) [("book",V.ref k2),(t6,V.ref j),("bonus",V.ref pb),("size",V.int size)]))=HE;let KE:∀a o,HD a=some o->a≠g->HE a=some o:=λa o e ne=>by rw[<-hE,bw ne];show e
  let gE:HE g=some (.ins CG dx [("book",.ref k2),(t6,.ref j),("bonus",.ref pb),("size",.int size),("stands",.ref ps)]):=by rw[<-hE];show aA
  calc⟨zsz 0,λpd I=>?_⟩;let sF:aB HE (upd HE pd (HO.lst [])):=aB.upd I;let pF:upd HE pd (HO.lst []) pd=some (.lst (Ts [])):=aA;let pdg:pd≠g:=λz=>by subst z;rw[gE]at I;cases I
  generalize upd HE pd (HO.lst [])=HF at sF pF ⊢;calc(gb g CG dx _ rL (sF _ _ gE) T.cl T.nd (by show 5<1000;decide) ?_);let D:∀a o,HD a=some o->a≠g->upd HF g (HO.ins CG dx (jx "done" (V.ref pd) [("book",V.ref k2),(t6,V.ref j),("bonus",V.ref pb),("size",V.int size),("stands",V.ref ps)])) a=some o:=λa o e ne=>by rw[bw ne];show sF _ _ (KE a o e ne)
  let old:∀a o,H a=some o->a≠g->upd HF g (HO.ins CG dx (jx "done" (V.ref pd) [("book",V.ref k2),(t6,V.ref j),("bonus",V.ref pb),("size",V.int size),("stands",V.ref ps)])) a=some o:=λa o e ne=>D a o (Z _ _ (J a o (s1 _ _ e) ne)) ne;let k2g:k2≠g:=λz=>by subst z;rw[hg]at f1;cases f1
  let aiU:kd2≠g:=λz=>by subst z;rw[hg]at f2;cases f2
  refine q ps pd w6 _ old hm ?_ ?_ ⟨(S6 dx k2 kd2 j pb aA ?_ ?_ ?_),(aG [x] (D _ _ pD psg) ⟨rL,λi a z h1 h2=>?_⟩),?_⟩
  .cases e:H ps with| none=>rfl| some o=>rw[s6C _ _ (J _ _ (s1 _ _ e) psg)]at G;cases G
  .cases e:H pd with| none=>rfl| some o=>rw[KE _ _ (Z _ _ (J _ _ (s1 _ _ e) pdg)) pdg]at I;cases I
  .let⟨ky,hky⟩:=BK.ob;show⟨⟨ky,D _ _ (Z _ _ (J _ _ hky k2g)) k2g⟩,D _ _ (Z _ _ (J _ _ BK.dc aiU)) aiU,BK.nd,BK.az⟩
  .show D _ _ (Z _ _ d6) Y
  .show old _ _ hpb (ZV hpb (λ_ _ _ z=>nomatch z))
  .cases i with
   | zero=>
    cases h1;cases h2;obtain⟨dy,b',Gp,JC,c1,⟨⟨bx,q1,q2,q3,u0,u1,u2,u3⟩,ok⟩,c3,c4⟩:=(AC.mv sD).ex;let gD:=Z _ _ g6;let xg:x≠g:=(bL (s6A _ _ g6) nx1).symm;let bg':b'≠g:=Cw u0 gD λz=>by injection z with _ _ z;injection z with z _;injection z with z _;show absurd z qr
    let tg:∀{a:Addr} {xs:List V},HD a=some (.tup xs)->a≠g:=λe=>Cw e gD λz=>nomatch z;show⟨dy,b',Gp,JC,D _ _ c1 xg,⟨(gO bx q1 q2 q3 (D _ _ u0 bg') (D _ _ u1 (tg u1)) (D _ _ u2 (tg u2)) (D _ _ u3 (tg u3))),ok⟩,D _ _ c3 (tg c3),D _ _ c4 (tg c4)⟩
   | succ i=>simp at h1
  .rw[bw pdg];show pF
def zu:List Nat->List Nat->Option (List Nat)
 | l,[]=>some l
 | l,c::cs=>if c∈l then zu (l.erase c) cs else none
theorem Tj:∀{cs l:List Nat},zu l (cs.map iD)=qO l cs
 | [],_=>rfl
 | c::cs,l=>by rw[cq];unfold zu qO;rw[Tj]
theorem Wi:∀{cs l m:List Nat},zu l cs=some m->m.length+cs.length=l.length
 | [],l,m,h=>by cases h;rfl
 | c::cs,l,m,h=>by
  unfold zu at h;split at h
  .rename_i hm;have:=Wi h;rw[List.length_erase_of_mem hm]at this;have:=List.length_pos_of_mem hm;simp only[dA];lia
  .cases h
def Pq {l:List Nat}(h:∀c∈l,o8 c):l.map iD=l:=by
 rw[fR (g:=id) λc j=>?_,kU];unfold iD;rw[if_neg];.rfl
 .rcases h c j with e|e;.have:=e.1;lia
  .lia
def ZX:Sp:=λvs H Q _=>∃bB l m:List Nat,vs=[.str (S bB),.str (S l)]/\bB.length<=63/\l.length<=63/\zu bB l=some m/\∀p H',aB H H'->H p=none->H' p=some (.lst (Ts (m.map λc=>[c])))->Q (.ref p) H'
def aeS (D:aO K mg ue BW fv)(iQ:mg "list"=none):cA P w K mg base ue 1 fv ZX:=by
 calc D.d8 vK (λf bV A outer s H vs Q E hr h=>?_);let⟨bB,l,m,rfl,h63,Z1,O,q⟩:=h;calc(aG _ (au (aW (i:=2) vK.nd rL (Or.inl rL) (fY (nq rL) qA iQ fg (aj aH ak))) (au (h_ di rL (qG bh) (bY (i:=3) vK.nd rL (Or.inl rL)) (aF (eG (gG ce gL gN wX bG (aj bU ak))))) (aF (bC bG)))) ?_);calc(bJ bB rL qk (λL Y=>?_));calc(aG l rL ?_);refine BJ (λi σ I=>∃(J:Option V) (us:List Nat),σ=[some (.str (S bB)),some (.str (S l)),some (.ref L),J]/\aB H I/\I L=some (.lst (Ts (us.map λc=>[c])))/\us.length<=63/\zu us (l.drop i)=some m)
  (cT none bB rL (aB.upd Y) aA h63 (by rw[iP];show O)) ?_ ?_
 .intro i c σ I Z z;let⟨J,us,rfl,sm,F,Gg,j⟩:=z;let hi:i<l.length:=(ah.mp Z).1;let G:l.drop i=c::l.drop (i+1):=by
   rw[f8 hi];rw[ac hi]at Z;rw[bq Z]
  rw[G]at j;unfold zu at j;split at j
  .rename_i hm;calc⟨.inl ⟨rL,_,bM.of F⟩,nC L _ [c] rL rL F (bd.mpr (aG c hm rL)) (by rw[aa];lia) ?_⟩;calc(cT _ (us.erase c) rL (sm.eE Y) (by rw[qP];show aA) ?_ j);have:=(ka (a:=c) (l:=us)).length_le;lia
  .cases j
 .intro σ I z;let⟨J,us,rfl,sm,F,Gg,j⟩:=z;rw[kQ]at j;cases j;show(q L I sm Y F)
def Wj:Sp:=λvs H Q _=>∃(bB l m:List Nat) (a:Addr),vs=[.str (S bB),.ref a]/\H a=some (.lst (Ts (l.map λc=>[c])))/\bB.length<=63/\l.length<=63/\zu bB l=some m/\∀p H',aB H H'->H p=none->H' p=some (.lst (Ts (m.map λc=>[c])))->Q (.ref p) H'
def ac_ (D:aO K mg ue BW fv)(iQ:mg "list"=none):cA P w K mg base ue 1 fv Wj:=by
 calc D.d8 vK (λf bV A outer s H vs Q E hr h=>?_);let⟨bB,l,m,a,rfl,ha,h63,Z1,Z,q⟩:=h;calc(aG _ (au (aW (i:=2) vK.nd rL (Or.inl rL) (fY (nq rL) qA iQ fg (aj aH ak))) (au (h_ di rL (oK bh) (bY (i:=3) vK.nd rL (Or.inl rL)) (aF (eG (gG ce gL gN wX bG (aj bU ak))))) (aF (bC bG)))) ?_);calc(bJ bB rL qk (λL O=>?_));refine(bJ a rL ⟨_,bM.of (aB.upd O _ _ ha)⟩ (nR (K:=K) (a:=a) (xs:=Ts (l.map λc=>[c])) (λi σ I=>∃(Y:Option V) (us:List Nat),σ=[some (.str (S bB)),some (.ref a),some (.ref L),Y]/\aB H I/\I L=some (.lst (Ts (us.map λc=>[c])))/\us.length<=63/\zu us (l.drop i)=some m)
  (cT none bB rL (aB.upd O) aA h63 (by rw[iP];show Z)) (λi σ I _ h=>by let⟨_,_,_,J,_⟩:=h;show bM.of (J _ _ ha)) ?_ ?_))
 .intro i x σ I hx z;let⟨Y,us,rfl,J,F,Gg,j⟩:=z;let⟨y,hy,rfl⟩:=yX hx;rw[ck]at hy;let⟨c,hc,rfl⟩:=dv.mp hy;let hi:i<l.length:=(ah.mp hc).1;let G:l.drop i=c::l.drop (i+1):=by
   rw[f8 hi];rw[ac hi]at hc;rw[bq hc]
  rw[G]at j;unfold zu at j;split at j
  .rename_i hm;calc⟨.inl ⟨rL,_,bM.of F⟩,nC L _ [c] rL rL F (bd.mpr (aG c hm rL)) (by rw[aa];lia) ?_⟩;calc(cT _ (us.erase c) rL (J.eE O) (by rw[qP];show aA) ?_ j);have:=(ka (a:=c) (l:=us)).length_le;lia
  .cases j
 .intro σ I z;let⟨Y,us,rfl,J,F,Gg,j⟩:=z;rw[aa,aa,kQ]at j;cases j;show(q L I J O F)
structure Tn (K:W.Frag)(CR:Addr)(c:Rn):Prop where
 nH:W.exmOne K (.ref c.nH) (.ref CR)=some true
 ud:W.exmOne K (.ref c.ud) (.ref CR)=some true
 gap:W.exmOne K (.ref c.gap) (.ref CR)=some true
 uf:W.exmOne K (.ref c.uf) (.ref CR)=some true
 jK:W.exmOne K (.ref c.jK) (.ref CR)=some true
 nw:W.exmOne K (.ref c.nw) (.ref CR)=some true
def Tn.of {CR:Addr}{c:Rn}(R:Tn K CR c){H:Hp}{cls:Value}{dd:Option Addr}{v:Vd}(h:VdX c H cls dd v):W.exmOne K cls (.ref CR)=some true:=by
 cases v with
 | ok=>show h.elim
 | nH i j=>let⟨rfl,_⟩:=h;show R.nH
 | ud=>let⟨rfl,_⟩:=h;show R.ud
 | gap i j=>let⟨rfl,_⟩:=h;show R.gap
 | uf=>let⟨rfl,_⟩:=h;show R.uf
 | jK t=>let⟨rfl,_⟩:=h;show R.jK
 | nw l=>let⟨rfl,_⟩:=h;show R.nw
def ada (C CB:Addr):Sp:=λvs H Q _=>∃(b k kd t:Addr) (ws:AA) (bB:List Nat) (as:List Addr) (ts:List cu) (r w:Nat) (aD aV:AA) (bi bj:Nat),vs=[.ref b,.ref k,.str (S bB),.ref t]/\dN C H b r w aD aV bi bj/\jd CB H k kd ws/\bB.length<=63/\H t=some (.tup (as.map V.ref))/\fW H as ts/\(∀t∈ts,inB r w t)/\0<ts.length/\ts.length<=7/\gP (ts.map lF)=true/\
 ∀(o:Bool) H',aB H H'->(o=true->qb aD r w bi bj ws bB ts .ok)->Q (.bl o) H'
def agR {C CB CR:Addr}{c:Rn}(D:aO K mg "_law_lets" Mr ge)(Y:mg "RackError"=some (.ref CR))(R:Tn K CR c)(F:DefX P w K mg base "check_laying" 14 li (IW K C CB c)):cA P w K mg base "_law_lets" 16 ge (ada C CB):=by
 calc D.d8 agx (λf bV A outer s H vs Q E hr h=>?_);let⟨b,k,kd,t,ws,bB,as,ts,r,w,aD,aV,bi,bj,rfl,hB,I,h63,ht,O,Z,h0,h7,J,q⟩:=h;calc(aG _ (au (agv rL rL qA Y (λpn xe E0 σ0 hp hx=>(aF (eG (mW F hr.mono rL hx (aj aH (aj bh (aj bG (aj bU ak)))))))) (λ_=>(aF (bC jr)))) (aF (bC jr))) ?_);refine⟨λcls dd H'=>∃v,VdX c H' cls dd v/\aB H H',?_,λa cls dd H' G na=>?_⟩
 .calc⟨rL,Fx b k kd ws bB (.ref t) r w aD aV bi bj rL hB I h63 (.inr (SX t as ts rL ht O Z h0 h7 J (λv cls dd H' hv hx j=>(aG v hx j)) (λhv H1 s1=>?_)))⟩;show q true H1 s1 λ_=>hv
 .let⟨v,hx,j⟩:=G;show⟨R.of hx,q false _ (j.trans (aB.upd na)) λz=>by cases z⟩
def tM:Sp:=λvs H Q _=>∃(c:Int) (m:Nat),vs=[.int c,.int m]/\m<=100/\∀(p:Addr) (ds:List Int) (H':Hp),aB H H'->H p=none->H' p=some (.lst (ds.map V.int))->ds.length=m->Q (.ref p) H'
def adb (D:aO K mg tS Dh n7)(J:mg "range"=none):cA P w K mg base tS 1 n7 tM:=by
 calc D.d8 pA (λf bV A outer s H vs Q E hr h=>?_);let⟨c,m,rfl,hm,q⟩:=h;calc(aG _ (au (aW (i:=2) pA.nd rL (Or.inl rL) (g_ ak)) (au (aW (i:=3) pA.nd rL (Or.inl rL) (aJ cV aH aq)) (au (cG (bT iC (aJ bZ aH aq) aq (bO _)) (au (h_ di rL (tR qA J (aj bh ak)) (bY (i:=4) pA.nd rL (Or.inl rL)) (au (eG (gG ce dL dP kO bG (aj (aJ bZ bU (aJ TJ aq aq)) ak))) (aF (aW (i:=3) pA.nd rL (Or.inl rL) (aJ JR bU (aJ TJ aq aq)))))) (aF (bC bG))) bR) (au (aW (i:=3) pA.nd rL (Or.inl rL) (aJ bZ bU aq)) (au (h_ di rL (tR qA J (aj (aJ dh bh aq) ak)) (bY (i:=4) pA.nd rL (Or.inl rL)) (au (aW (i:=3) pA.nd rL (Or.inl rL) (aJ bZ (aJ dh (aJ dh (aJ dh (aJ jN bU bU) (aJ jN aq bU)) (aJ jN aq cQ)) aq) aq)) (aF (eG (gG ce dL dP kO bG (aj (aJ dh (aJ jN (aJ bZ (aJ jN bU aq) aq) aq) (aJ bZ bU aq)) ak)))))) (aF (bC (dj oN bG (dM aq) eO)))))))) ?_);calc⟨zsz 0,λp hp=>?_⟩;calc(aU _ _ rL rL ⟨qr,qr⟩ ?_);calc(cT _ _ rL rL (by show (0:Int)<2;decide) rL (bf _ rL ?_));refine iR (λ_=>?_) (λ_=>?_)
 .calc(iU _ rL qk qk ?_);rw[ee];refine qD (n:=m) (lo:=0) (λi σ F=>∃(n:Int) (I:Option V) (ds:List Int),σ=[some (.int c),some (.int m),some (.ref p),some (.int n),I]/\aB H F/\F p=some (.lst (ds.map V.int))/\ds.length=i)
   (dJ _ none [] rL (aB.upd hp) aA rL) ?_ ?_
  .intro i σ F hi z;let⟨n,I,ds,rfl,G,j,hl⟩:=z;calc⟨.inl ⟨rL,_,bM.of j⟩,aU _ _ rL rL (cj qr qr qr) (aU _ _ rL rL (by show (0:Int)<10^20;decide) ?_)⟩;calc(gH p _ _ rL rL j (by rw[aa,hl];show aN qk) ?_);calc(aU _ _ rL rL (cj qr qr qr) (aU _ _ rL rL ⟨by show (0:Int)<10^20;decide,qS⟩ ?_));show(dJ _ _ (ds++[n%(10:Int)^(20:Int).toNat]) rL (G.eE hp) (by rw[aA];simp) (by simp[hl]))
  .intro σ F z;let⟨n,I,ds,rfl,G,j,hl⟩:=z;show(q p ds F G hp j hl)
 .calc(aU _ _ rL rL (by show (0:Int)<2305843009213693951;decide) ?_);calc(aK _ _ rL rL (iU _ rL qk qk ?_));let Y:((m:Int)+1).toNat=m+1:=qk;rw[Y];refine qD (n:=m+1) (lo:=0) (λi σ F=>∃(n:Int) (I:Option V) (ds:List Int),σ=[some (.int c),some (.int m),some (.ref p),some (.int n),I]/\aB H F/\F p=some (.lst (ds.map V.int))/\ds.length=i/\0<=n/\n<2305843009213693951)
   (nC _ none [] rL (aB.upd hp) aA rL (df _ qr) (dq _ qr)) ?_ ?_
  .intro i σ F hi z;let⟨n,I,ds,rfl,G,j,hl,O,n1⟩:=z;calc(aU _ _ rL rL (.inl ⟨qk,qk⟩) (aU _ _ rL rL (.inl ⟨qr,qr⟩) (aK _ _ rL rL (aU _ _ rL rL (.inl ⟨qr,qr⟩) (aK _ _ rL rL (aK _ _ rL rL (aU _ _ rL rL (by show (0:Int)<2305843009213693951;decide) ?_)))))));calc⟨.inl ⟨rL,_,bM.of j⟩,?_⟩;calc(aU _ _ rL rL (.inr ⟨qr,qr⟩) (aU _ _ rL rL (by show (0:Int)<2147483629;decide) (aU _ _ rL rL (.inr ⟨qr,qr⟩) (aU _ _ rL rL (by show (0:Int)<2147483587;decide) (aK _ _ rL rL ?_)))));calc(gH p _ _ rL rL j (by rw[aa,hl];show aN qk) ?_);show(nC _ _ (ds++[_]) rL (G.eE hp) (by rw[aA];simp;rfl) (by simp[hl]) (df _ qr) (dq _ qr))
  .intro σ F z;let⟨n,I,ds,rfl,G,j,hl,O,n1⟩:=z;calc(aG _ rL (aK p _ rL (bM.of j) (λt ht=>?_)));let e:jy (ds.map V.int) (some 1) none=(ds.drop 1).map V.int:=by
    unfold jy;let e1:HT.dY (ds.map V.int).length 0 (some 1)=min 1 (ds.map V.int).length:=HT.mV _ _ 1;rw[e1,aa,hl];show List.take (m+1-min 1 (m+1)) (List.drop (min 1 (m+1)) (ds.map V.int))=_;rw[show min 1 (m+1)=1 by lia,cz (by rw[aS,aa];lia),mw]
   rw[e];show q t (ds.drop 1) _ (G.eE (G.free ht)) (G.free ht) aA (by rw[aS];lia)
def ade:Sp:=λvs H Q _=>∃c:Int,vs=[.int c]/\∀ls:List Nat,aa0 ls->ls.length<=4->Q (.str (S ls)) H
def abt (D:aO K mg "_law_letters" zV rX)(G:mg "range"=none):cA P w K mg base "_law_letters" 1 rX ade:=by
 calc D.d8 uH (λf bV A outer s H vs Q E hr h=>?_);let⟨c,rfl,q⟩:=h;calc(aG _ (au (aW (i:=1) uH.nd rL (Or.inl rL) (bA AL qS)) (au (aW (i:=2) uH.nd rL (Or.inl rL) (bA [] qS)) (au (h_ di rL (tR qA G (aj (aJ dh aq (aJ bZ (aJ cV aH aq) aq)) ak)) (bY (i:=3) uH.nd rL (Or.inl rL)) (aF (aW (i:=2) uH.nd rL (Or.inl rL) (aJ jt bG (aZ vG bh (aJ bZ (aJ dh (aJ cV aH aq) (aJ jN bU (aJ dh aq (aJ bZ (aJ cV aH aq) aq)))) aq) (λ_ _=>rfl)))))) (aF (bC bG))))) ?_);let J:=df (c/8) (show (3:Int)≠0 by decide);let I:=dq (c/8) (show (0:Int)<3 by decide);calc(aU _ _ rL rL ⟨qr,qr⟩ (aU _ _ rL rL (by show (0:Int)<3;decide) (aK _ _ rL rL (iU _ rL qk qk ?_))));refine qD (lo:=0) (λi σ j=>j=H/\∃(F:Option V) (ls:List Nat),σ=[some (.int c),some (.str (S AL)),some (.str (S ls)),F]/\ls.length=i/\∀c∈ls,isLet c) ⟨rL,aK none [] rL rL (λc h=>by simp at h)⟩ ?_ ?_
 .intro i σ j hi z;let⟨rfl,F,ls,rfl,hl,ha⟩:=z;let⟨x,hx,hm⟩:=yG (xs:=AL) (n:=26) qr qr (c/24+(0+(i:Int))*(1+c/624%8));calc(aU _ _ rL rL ⟨qr,qr⟩ (aU _ _ rL rL ⟨qr,qr⟩ (aU _ _ rL rL (by show (0:Int)<8;decide) (aK _ _ rL rL (aU _ _ rL rL (.inl ⟨qk,qk⟩) (aK _ _ rL rL (aU _ _ rL rL (by show (0:Int)<26;decide) ?_)))))));calc(gH AL _ x rL rL qr hx (aU ls [x] rL rL ?_ ?_));.show ap (aN (by show ls.length+1<=1000;lia))
  .calc⟨rL,aK _ (ls++[x]) rL (by simp[hl]) (λy hy=>?_)⟩;rcases be.mp hy with z|z;.show ha y z
   .rw[bc.mp z];show akf x hm
 .intro σ j z;let⟨rfl,F,ls,rfl,hl,ha⟩:=z;show(q ls ⟨qk,qk,ha⟩ qk)
def Wk:Sp:=λvs H Q _=>∃(c:Int) (ls:List Nat),vs=[.int c,.str (S ls)]/\aa0 ls/\∀(p:Addr) (ws:AA) (H':Hp),aB H H'->H p=none->H' p=some (.lst (Ts ws))->4<=ws.length->ws.length<=12->(∀l∈ws,zf l)->Q (.ref p) H'
def Pr (D:aO K mg "_law_words" Im jw)(gF:mg "range"=none)(bH:mg "len"=none)(mO:cA P w K mg base tS 1 n7 tM):cA P w K mg base "_law_words" 2 jw Wk:=by
 calc D.d8 ou (λf bV A outer s H vs Q E hr h=>?_);let⟨c,ls,rfl,hA,q⟩:=h;let a1:=hA.lo;let a2:=hA.hi;let d0:=df c (show (9:Int)≠0 by decide);let d1:=dq c (show (0:Int)<9 by decide);calc(aG _ (au (aW (i:=2) ou.nd rL (Or.inl rL) (g_ ak)) (au (h_ di rL (oK (bQ mO hr.mono rL (aj aH (aj (aJ dh aq (aJ bZ aH aq)) ak)))) (bY (i:=3) ou.nd rL (Or.inl rL)) (au (aW (i:=4) ou.nd rL (Or.inl rL) (aJ dh aq (aJ bZ bU aq))) (au (f9 (cG (bT iC (aJ bZ (aJ cV bU aq) aq) aq (bO _)) (aF (aW (i:=4) ou.nd rL (Or.inl rL) (aJ dh aq (aJ bZ (aJ cV bU aq) aq)))) bR)) (au (aW (i:=5) ou.nd rL (Or.inl rL) (bA [] qS)) (au (aW (i:=6) ou.nd rL (Or.inl rL) (aJ cV bU aq)) (au (h_ di rL (tR qA gF (aj cQ ak)) (bY (i:=7) ou.nd rL (Or.inl rL)) (au (aW (i:=5) ou.nd rL (Or.inl rL) (aJ jt dD (aZ vG bh (aJ bZ fU (aP dw qA bH ay (aj bh ak))) (λ_ _=>rfl)))) (aF (aW (i:=6) ou.nd rL (Or.inl rL) (aJ cV fU (aP dw qA bH ay (aj bh ak))))))) (aF (eG (gG ce dL dP kO bG (aj dD ak)))))))))) (aF (bC bG)))) ?_);calc⟨zsz 0,λL hL=>?_⟩;let sL:aB H (upd H L (HO.lst [])):=aB.upd hL;let eL:upd H L (HO.lst []) L=some (.lst (Ts [])):=aA;generalize upd H L (HO.lst [])=H0 at sL eL ⊢;calc(aU _ _ rL rL (by show (0:Int)<9;decide) (aK _ _ rL rL (aK c ((4+c%9).toNat) (by rw[cy qk];rfl) qk (λp ds H1 s1 J hp hdl=>?_))));refine(bJ p rL ⟨_,bM.of hp⟩ (nR (K:=K) (a:=p) (xs:=ds.map V.int) (λi σ I=>∃(v3 v4 Y Z O:Option V) (ws:AA),σ=[some (.int c),some (.str (S ls)),some (.ref L),v3,v4,Y,Z,O]/\(∀b o,H1 b=some o->b≠L->I b=some o)/\I L=some (.lst (Ts ws))/\ws.length=i/\∀l∈ws,zf l)
  (S8 none none none none none [] rL (λ_ _ e _=>e) (s1 _ _ eL) rL (λl h=>by cases h)) (λi σ I _ h=>?_) ?_ ?_))
 .let⟨_,_,_,_,_,_,_,kp,_⟩:=h;show bM.of (kp _ _ hp λz=>by subst z;rw[eL]at J;cases J)
 .intro i x σ I hx z;let⟨v3,v4,Y,Z,O,ws,rfl,kp,F,G,hw⟩:=z;rw[ck]at hx;let⟨n,hn,rfl⟩:=dv.mp hx;let hi:i<ds.length:=(ah.mp hn).1;let e0:=df n (show (3:Int)≠0 by decide);let e1:=dq n (show (0:Int)<3 by decide);let f0:=df (n/24) (show (8:Int)≠0 by decide);let f1:=dq (n/24) (show (0:Int)<8 by decide);calc(aU _ _ rL rL (by show (0:Int)<3;decide) (aK _ _ rL rL ?_));refine⟨λσ H'=>H'=I/\∃m:Nat,σ=[some (.int c),some (.str (S ls)),some (.ref L),some (.int n),some (.int m),Y,Z,O]/\2<=m/\m<=9,?_,?_⟩
  .calc(aU _ _ rL rL ⟨qr,qr⟩ (cT _ _ rL rL (by show (0:Int)<8;decide) rL (bf _ rL ?_)));calc iR (λ_=>?_) (λ_=>?_);.show(aU _ _ rL rL ⟨qr,qr⟩ (aU _ _ rL rL (by show (0:Int)<8;decide) (aU _ _ rL rL rL (bJ ((2+n/24%8).toNat) (by rw[cy qk];rfl) qk qk))))
   .show⟨rL,bJ ((2+n%3).toNat) (by rw[cy qk];rfl) qk qk⟩
  .intro σ H' z;let⟨rfl,m,rfl,m2,m9⟩:=z;calc(aU _ _ rL rL ⟨qr,qr⟩ ?_);calc(iU _ rL qk qk ?_);refine qD (lo:=0) (λj σ H3=>H3=H'/\∃(kv:Option V) (l:List Nat) (r:Int),σ=[some (.int c),some (.str (S ls)),some (.ref L),some (.int n),some (.int m),some (.str (S l)),some (.int r),kv]/\l.length=j/\∀c∈l,isLet c) ⟨rL,pK O [] _ rL rL (λc h=>by cases h)⟩ ?_ ?_
   .intro j σ H3 hj z;let⟨rfl,kv,l,r,rfl,hl,ha⟩:=z;let hz:ls.length<=sizeLine:=ap (aN qk);let⟨x,hx,hm⟩:=yG (xs:=ls) (n:=ls.length) rL qk r;calc(bJ ls rL hz (aU _ _ rL rL (by show (0:Int)<_;lia) (gH ls _ x rL rL hz hx (aU l [x] rL rL ?_ ?_))));.show ap (aN (by show l.length+1<=1000;lia))
    .calc(bJ ls rL hz (cT _ _ rL rL ⟨by show (0:Int)<_;lia,by show (ls.length:Int)<_;lia⟩ rL (pK _ (l++[x]) _ rL (by simp[hl]) (λy hy=>?_))));rcases be.mp hy with z|z;.show ha y z
     .rw[bc.mp z];show hA.az x hm
   .intro σ H3 z;let⟨rfl,kv,l,r,rfl,hl,ha⟩:=z;calc⟨.inl ⟨rL,_,bM.of F⟩,gH L _ (.str (S l)) rL rL F (aN (by rw[aa];lia)) ?_⟩;calc(S8 _ _ _ _ _ (ws++[l]) rL (λb o e ne=>by rw[bw ne];show kp b o e ne) (by rw[aA];simp[Ts]) (by simp[G]) (λy hy=>?_));rcases be.mp hy with z|z;.show hw y z
    .rw[bc.mp z];show⟨qk,qk,ha⟩
 .intro σ I z;let⟨v3,v4,Y,Z,O,ws,rfl,kp,F,G,hw⟩:=z;rw[aa,hdl]at G;show(q L ws I (λb o e=>kp _ _ (s1 _ _ (sL _ _ e)) (bL e hL)) hL F qk qk hw)
def xW (ls:List Nat)(c:Nat):Prop:=c∈ls\/c=63
def xW.tl {ls:List Nat}{c:Nat}(h:xW ls c)(hl:∀c∈ls,isLet c):o8 c:=h.imp (hl c) id
def Wm:Sp:=λvs H Q _=>∃(c bl:Int) (ls:List Nat) (m:Nat),vs=[.int c,.str (S ls),.int m,.int bl]/\aa0 ls/\m<=100/\∀(l:List Nat) (H':Hp),aB H H'->l.length=m->(∀c∈l,xW ls c)->Q (.str (S l)) H'
def aeT (D:aO K mg "_law_tiles" Io kB)(bH:mg "len"=none)(mO:cA P w K mg base tS 1 n7 tM):cA P w K mg base "_law_tiles" 2 kB Wm:=by
 calc D.d8 yV (λf bV A outer s H vs Q E hr h=>?_);let⟨c,bl,ls,m,rfl,hA,hm,q⟩:=h;let a1:=hA.lo;let a2:=hA.hi;let hz:ls.length<=sizeLine:=ap (aN qk);calc(aG _ (au (aW (i:=4) yV.nd rL (Or.inl rL) (bA [] qS)) (au (h_ di rL (oK (bQ mO hr.mono rL (aj aH (aj bG ak)))) (bY (i:=5) yV.nd rL (Or.inl rL)) (aF (cG (QW.qt (wU (bT iC (aJ bZ dD aq) aq (bO _)) (yF (bT uo (gG bv PySem.F.slot_str_count PySem.F.type_str_count acp cQ (aj (bA [63] qS) ak)) bU (bO _))))) (aF (aW (i:=4) yV.nd rL (Or.inl rL) (aJ jt cQ (bA [63] qS)))) (aF (aW (i:=4) yV.nd rL (Or.inl rL) (aJ jt cQ (aZ vG bh (aJ bZ (aJ cV dD aq) (aP dw qA bH ay (aj bh ak))) (λ_ _=>rfl)))))))) (aF (bC cQ)))) ?_);calc(aK c m rL hm (λp ds H1 s1 hp0 hp Y=>?_));refine(bJ p rL ⟨_,bM.of hp⟩ (nR (K:=K) (a:=p) (xs:=ds.map V.int) (λi σ I=>I=H1/\∃(J:Option V) (l:List Nat),σ=[some (.int c),some (.str (S ls)),some (.int m),some (.int bl),some (.str (S l)),J]/\l.length=i/\∀c∈l,xW ls c)
  ⟨rL,aK none [] rL rL (λc h=>by cases h)⟩ (λi σ I _ h=>by let⟨rfl,_⟩:=h;show bM.of hp) ?_ ?_))
 .intro i x σ I hx z;let⟨rfl,J,l,rfl,hl,ht⟩:=z;rw[ck]at hx;let⟨n,hn,rfl⟩:=dv.mp hx;let hi:i<ds.length:=(ah.mp hn).1;let j:l.length+1<=sizeLine:=ap (aN qk);let G:∀x,xW ls x->(I=I/\∃(J:Option V) (O:List Nat),[some (V.int c),some (.str (S ls)),some (.int m),some (.int bl),some (.str (S (l++[x]))),some (.int n)]=[some (.int c),some (.str (S ls)),some (.int m),some (.int bl),some (.str (S O)),J]/\O.length=i+1/\∀c∈O,xW ls c):=λx hx=>⟨rL,aK _ (l++[x]) rL (by simp[hl]) (λy hy=>by
   rcases be.mp hy with z|z;.show ht y z
   .rw[bc.mp z];show hx)⟩
  let⟨y,hy,Z⟩:=yG (xs:=ls) (n:=ls.length) rL qk (n/9);let F:=(show xW ls y from .inl Z)
  calc(cT _ _ rL rL (by show (0:Int)<9;decide) rL (bf _ rL ?_));refine iR (λ_=>?_) (λ_=>?_)
  .calc⟨rL,aK l [63] rL rL (λk=>(aK _ _ rL rL (bf _ rL ?_)))⟩;calc iR (λ_=>?_) (λ_=>?_);.show(aU l [63] rL rL j (G 63 (.inr rL)))
   .show(aU _ _ rL rL ⟨qr,qr⟩ (bJ ls rL hz (aU _ _ rL rL (by show (0:Int)<_;lia) (gH ls _ y rL rL hz hy (aU l [y] rL rL j (G y F))))))
  .show(aU _ _ rL rL ⟨qr,qr⟩ (bJ ls rL hz (aU _ _ rL rL (by show (0:Int)<_;lia) (gH ls _ y rL rL hz hy (aU l [y] rL rL j (G y F))))))
 .intro σ I z;let⟨rfl,J,l,rfl,hl,ht⟩:=z;rw[aa,Y]at hl;show(q l I s1 hl ht)
def chunk (r k:Nat)(cs:List Nat):List (List Nat):=(List.range r).map λi=>(cs.drop (i*k)).take k
def Rq {r k:Nat}{cs:List Nat}(h:cs.length=r*k):Blk r k (chunk r k cs):=by
 calc⟨by simp[chunk],λl hl=>?_⟩;let⟨i,hi,rfl⟩:=bd.mp hl;let j:=fE.mp hi;let D:i*k+k<=r*k:=by have:(i+1)*k<=r*k:=nK k j;rw[pj]at this;show this
 rw[av,aS];lia
def Rr {r k:Nat}{cs:List Nat}{j:Nat->Prop}(h:∀c∈cs,j c):∀l∈chunk r k cs,∀c∈l,j c:=by intro l hl c D;let⟨i,hi,rfl⟩:=bd.mp hl;show h c (c_ (cf D))
def Z2:Sp:=λvs H Q _=>∃(c:Int) (ls:List Nat),vs=[.int c,.str (S ls)]/\aa0 ls/\
 ∀(t pr pm pb:Addr) (r w:Nat) (aD aV:AA) (i j:Nat) (H':Hp),aB H H'->H' t=some (.tup [.ref pr,.ref pm,.ref pb])->H' pr=some (.tup (Ts aD))->H' pm=some (.tup (Ts aV))->H' pb=some (.tup [.int i,.int j])->Mz r w aD aV i j->2<=r->Q (.ref t) H'
def aeU:List Nat:=MK++(List.replicate 8 [46]).flatten
def agS:∀c∈aeU,Mx c:=by unfold Mx;decide
def aeV (cs:List Nat)(j x:Nat):(Ts (ones cs)).set j (.str (S [x]))=Ts (ones (cs.set j x)):=by simp only[Ts,ones,nI]
def mem_set {cs:List Nat}{j x:Nat}{p:Nat->Prop}(h:∀c∈cs,p c)(hx:p x):∀c∈cs.set j x,p c:=λc D=>by
 rcases eQ D with e|e;.show h c e
 .rw[e];show hx
def afQ {y:Nat}(h:isLet y):PyProof.Rows.up1 y=y-32:=by let h1:=h.1;let h2:=h.2;unfold PyProof.Rows.up1;rw[if_pos qk]
def agT (D:aO K mg "_law_rows" Mq jw)(gF:mg "range"=none)(bH:mg "len"=none)(cX:mg "tuple"=none)(mO:cA P w K mg base tS 1 n7 tM):cA P w K mg base "_law_rows" 2 jw Z2:=by
 calc D.d8 lC (λf bV A outer s H vs Q E hr h=>?_);let⟨c,ls,rfl,hA,q⟩:=h;let a1:=hA.lo;let a2:=hA.hi;let hz:ls.length<=sizeLine:=ap (aN qk);calc(aG _ (au (aW (i:=2) lC.nd rL (Or.inl rL) (aJ dh aq (aJ bZ aH aq))) (au (aW (i:=3) lC.nd rL (Or.inr rL) (aJ dh aq (aJ bZ (aJ cV aH aq) aq))) (au (f9 (cG (bT iC (aJ bZ (aJ cV aH aq) aq) aq (bO _)) (au (aW (i:=2) lC.nd rL (Or.inl rL) (aJ dh aq (aJ bZ (aJ cV aH aq) aq))) (aF (aW (i:=3) lC.nd rL (Or.inr rL) (aJ dh aq (aJ bZ (aJ cV aH aq) aq))))) bR)) (au (aW (i:=4) lC.nd rL (Or.inl rL) (aJ ab3 (g_ (aj (bA [46] qS) ak)) (aJ jN bG bU))) (au (aW (i:=5) lC.nd rL (Or.inl rL) (g_ ak)) (au (h_ di rL (oK (bQ mO hr.mono rL (aj (aJ dh aH aq) (aj (aJ jN bG bU) ak)))) (bY (i:=6) lC.nd rL (Or.inl rL)) (au (eG (gG ce dL dP kO dD (aj (aZ vG (aJ jt (bA [46,50,51,52,98,99,100] qS) (aJ Ii (bA [46] qS) aq)) (aJ bZ (aJ cV fU aq) aq) (λ_ _=>rfl)) ak))) (aF (f9 (cG (QW.qt (wU (bT iC (aJ bZ (aJ cV aH aq) aq) aq (bO _)) (yF (bT iC (aJ bZ fU aq) aq (bO _))))) (au (aW (i:=7) lC.nd rL (Or.inl rL) (aZ vG bh (aJ bZ (aJ cV fU aq) (aP dw qA bH ay (aj bh ak))) (λ_ _=>rfl))) (au (f9 (cG (bT iC (aJ bZ (aJ cV fU aq) aq) aq (bO _)) (aF (aW (i:=7) lC.nd rL (Or.inl rL) (Fb bv PySem.F.slot_str_upper PySem.F.type_str_upper acg gY))) bR)) (aF (um gY (Uq cQ (aJ bZ (aJ cV fU aq) (aP b_ qA bH ay (aj cQ ak))) set_list))))) bR))))) (au (aW (i:=8) lC.nd rL (Or.inl rL) (bF (aj (aJ bZ (aJ cV aH aq) bG) (aj (aJ bZ (aJ cV aH aq) bU) ak)))) (au (aW (i:=9) lC.nd rL (Or.inl rL) (g_ ak)) (au (h_ di rL (oK (g_ (aj cQ (aj dD ak)))) (bY (i:=10) lC.nd rL (Or.inr rL)) (aF (eG (gG ce dL dP kO lq (aj (fY jB qA cX c9 (aj (jY rL (jW.of lC.nd qB) (ach qA gF (aj aq (aj (aP b_ qA bH ay (aj jz ak)) (aj bU ak)))) (λ_ _ _ _ _=>fO) (λ_ _ _ _ _=>(Uu K bv cE cK (JV K) (bA [] qS) (aj (dj (aec K) oO (dM aH) (dM (aJ dh aH cQ))) ak)))) ak)) ak))))) (aF (bC (bF (aj (aZ gA lq aq (λ_ _=>rfl)) (aj (aZ gA lq aq (λ_ _=>rfl)) (aj mQ ak))))))))))))))) ?_);calc(aU _ _ rL rL (by show (0:Int)<5;decide) (aK _ _ rL rL ?_));calc(aU _ _ rL rL ⟨qr,qr⟩ (aU _ _ rL rL (by show (0:Int)<5;decide) (aK _ _ rL rL ?_)));refine⟨λσ H'=>H'=H/\∃r w:Nat,σ=[some (.int c),some (.str (S ls)),some (.int r),some (.int w),none,none,none,none,none,none,none]/\2<=r/\r<=9/\1<=w/\w<=9,?_,?_⟩
 .calc(aU _ _ rL rL ⟨qr,qr⟩ (cT _ _ rL rL (by show (0:Int)<8;decide) rL (bf _ rL ?_)));refine iR (λ_=>?_) (λ_=>?_)
  .calc(aU _ _ rL rL ⟨qr,qr⟩ (aU _ _ rL rL (by show (0:Int)<8;decide) (aK _ _ rL rL ?_)));calc(aU _ _ rL rL ⟨qr,qr⟩ (aU _ _ rL rL (by show (0:Int)<8;decide) (aU _ _ rL rL rL (cT ((2+c/200%8).toNat) ((2+c/1600%8).toNat) ?_ qk qk qk qk))));rw[cy qk,cy qk];rfl
  .calc⟨rL,cT ((2+c%5).toNat) ((2+c/5%5).toNat) ?_ qk qk qk qk⟩;rw[cy qk,cy qk];rfl
 intro σ H' z;let⟨rfl,r,w,rfl,r2,r9,w1,w9⟩:=z;let r1:1<=r:=qk;let hrw:r*w<=81:=gt r9 w9;let alS:1<=r*w:=gt r1 w1;let erw:(r:Int)*(w:Int)=((r*w:Nat):Int):=by push_cast;rfl
 calc⟨zsz 1,λL0 h0=>?_⟩;calc(aU _ _ rL rL (.inl ⟨qk,qk⟩) (Il L0 _ _ rL rL aA (by rw[erw];lia) (by rw[erw];lia) ?_ (λL hL=>?_)));.rw[erw,ee];show ap (aN (by simp only[dA,p_];lia))
 rw[erw,ee];let sL:aB H' (upd (upd H' L0 (HO.lst [.str (S [46])])) L (HO.lst (List.replicate (r*w) [V.str (S [46])]).flatten)):=(aB.upd h0).trans (aB.upd hL);let eL:upd (upd H' L0 (HO.lst [.str (S [46])])) L (HO.lst (List.replicate (r*w) [V.str (S [46])]).flatten) L=some (.lst (Ts (ones (List.replicate (r*w) 46)))):=by rw[aA];congr 2;simp[Ts,ones]
 let fL:H' L=none:=by
  cases e:H' L with| none=>rfl| some o=>rw[aB.upd h0 _ _ e]at hL;cases hL
 generalize upd (upd H' L0 (HO.lst [.str (S [46])])) L (HO.lst (List.replicate (r*w) [V.str (S [46])]).flatten)=H1 at sL eL ⊢;calc⟨zsz 0,λM hM=>?_⟩;let sM:aB H1 (upd H1 M (HO.lst [])):=aB.upd hM;let eM:upd H1 M (HO.lst []) M=some (.lst (Ts (ones []))):=aA;let LM:L≠M:=bL eL hM;generalize upd H1 M (HO.lst [])=H2 at sM eM ⊢;calc(aK _ _ rL rL (aU _ _ rL rL (.inl ⟨qk,qk⟩) (aK (c+3) (r*w) (by show [V.int (c+3),V.int ((r:Int)*(w:Int))]=_;rw[erw]) qk (λp ds H3 s3 hp0 hp hdl=>?_))));let pL:p≠L:=λz=>by subst z;rw[sM _ _ eL]at hp0;cases hp0
 let pM:p≠M:=λz=>by subst z;rw[eM]at hp0;cases hp0
 refine(bJ p rL ⟨_,bM.of hp⟩ (nR (K:=K) (a:=p) (xs:=ds.map V.int) (λi σ G=>∃(v6 v7:Option V) (cs F:List Nat),σ=[some (.int c),some (.str (S ls)),some (.int r),some (.int w),some (.ref L),some (.ref M),v6,v7,none,none,none]/\(∀b o,H3 b=some o->b≠L->b≠M->G b=some o)/\G L=some (.lst (Ts (ones cs)))/\cs.length=r*w/\(∀c∈cs,Es c)/\G M=some (.lst (Ts (ones F)))/\F.length=i/\(∀c∈F,Mx c))
  (lU none none (List.replicate (r*w) 46) [] rL (λ_ _ e _ _=>e) (s3 _ _ (sM _ _ eL)) de (λc hc=>.inl (i8 hc)) (s3 _ _ eM) rL (λc h=>by cases h)) (λi σ G _ h=>?_) ?_ ?_))
 .let⟨_,_,_,_,_,kp,_⟩:=h;show bM.of (kp _ _ hp pL pM)
 .intro i x σ G hx z;let⟨v6,v7,cs,F,rfl,kp,B_,O,Z4,Jy,J,hmk⟩:=z;rw[ck]at hx;let⟨n,hn,rfl⟩:=dv.mp hx;let hi:i<ds.length:=(ah.mp hn).1;let⟨x,hx,hxm⟩:=yG (xs:=aeU) (n:=15) qr qr (n/11);calc⟨.inl ⟨rL,_,bM.of Jy⟩,wj [46] 8 rL rL qr qr qr (aU MK _ rL rL qr (aU _ _ rL rL ⟨qr,qr⟩ (aU _ _ rL rL (by show (0:Int)<15;decide) (gH aeU _ x rL rL qr hx (gH M _ _ rL rL Jy (aN (by rw[aa,aa];lia)) ?_)))))⟩;let hM5:upd G M (HO.lst (Ts (ones F)++[.str (S [x])])) M=some (.lst (Ts (ones (F++[x])))):=by rw[aA];simp[Ts,ones]
  let JD:upd G M (HO.lst (Ts (ones F)++[.str (S [x])])) L=some (.lst (Ts (ones cs))):=by rw[bw LM];show B_
  let kp5:∀b o,H3 b=some o->b≠L->b≠M->upd G M (HO.lst (Ts (ones F)++[.str (S [x])])) b=some o:=λb o e n1 n2=>by rw[bw n2];show kp b o e n1 n2
  generalize upd G M (HO.lst (Ts (ones F)++[.str (S [x])]))=H5 at hM5 JD kp5 ⊢;let aiV:∀c∈F++[x],Mx c:=λy hy=>by
   rcases be.mp hy with z|z;.show hmk y z
   .rw[bc.mp z];show agS x hxm
  let stay:∀v7',∃(v6 v7:Option V) (cs F:List Nat),[some (V.int c),some (.str (S ls)),some (.int r),some (.int w),some (.ref L),some (.ref M),some (.int n),v7',none,none,none]=[some (.int c),some (.str (S ls)),some (.int r),some (.int w),some (.ref L),some (.ref M),v6,v7,none,none,none]/\(∀b o,H3 b=some o->b≠L->b≠M->H5 b=some o)/\H5 L=some (.lst (Ts (ones cs)))/\cs.length=r*w/\(∀c∈cs,Es c)/\H5 M=some (.lst (Ts (ones F)))/\F.length=i+1/\(∀c∈F,Mx c):=λv7'=>(lU _ _ cs (F++[x]) rL kp5 JD O Z4 hM5 (by simp[J]) aiV)
  calc⟨λσ Y=>∃(v6 v7:Option V) (cs F:List Nat),σ=[some (.int c),some (.str (S ls)),some (.int r),some (.int w),some (.ref L),some (.ref M),v6,v7,none,none,none]/\(∀b o,H3 b=some o->b≠L->b≠M->Y b=some o)/\Y L=some (.lst (Ts (ones cs)))/\cs.length=r*w/\(∀c∈cs,Es c)/\Y M=some (.lst (Ts (ones F)))/\F.length=i+1/\(∀c∈F,Mx c),?_,λσ Y h=>h⟩;calc(aU _ _ rL rL ⟨qr,qr⟩ (cT _ _ rL rL (by show (0:Int)<3;decide) rL (bf _ rL ?_)));refine iR (λ_=>?_) (λ_=>?_)
  .calc(cT _ _ rL rL (by show (0:Int)<9;decide) rL (bf _ rL ?_));refine iR (λ_=>?_) (λ_=>?_)
   .let⟨y,hy,hym⟩:=yG (xs:=ls) (n:=ls.length) rL qk (n/9);let yz:=hA.az y hym;calc(aU _ _ rL rL ⟨qr,qr⟩ (bJ ls rL hz (aU _ _ rL rL (by show (0:Int)<_;lia) (gH ls _ y rL rL hz hy ?_))));refine⟨λσ Y=>Y=H5/\∃u:Nat,σ=[some (V.int c),some (.str (S ls)),some (.int r),some (.int w),some (.ref L),some (.ref M),some (.int n),some (.str (S [u])),none,none,none]/\rH u,?_,?_⟩
    .calc(aU _ _ rL rL ⟨qr,qr⟩ (cT _ _ rL rL (by show (0:Int)<5;decide) rL (bf _ rL ?_)));calc iR (λ_=>?_) (λ_=>⟨rL,aG y rL (U8 yz)⟩);calc⟨rL,[y],rL,rL,(by show 1<=1000;decide),(λc hc=>by rw[bc.mp hc];have:=yz.2;lia),rL,aG (PyProof.Rows.up1 y) rL ?_⟩;have:PyProof.Rows.up1 y=y-32:=afQ yz;rw[this];show acH yz
    .intro σ Y z;let⟨rfl,u,rfl,hu⟩:=z;let hpos:(0:Int)<((r*w:Nat):Int):=qk;let b0:=df (n/100) (show ((r*w:Nat):Int)≠0 by lia);let b1:=dq (n/100) hpos;let qL:(Ts (ones cs)).length=r*w:=by rw[aa,aa,O]
     refine(aU _ _ rL rL ⟨qr,qr⟩ (aK L _ rL (.inl (bM.of JD)) (aU _ _ rL rL (by show (0:Int)<_;rw[qL];show hpos) (aY L _ _ ((n/100%((r*w:Nat):Int)).toNat) rL rL JD ?_ ?_))))
     .unfold Eo;rw[qL,if_pos qk,if_pos qk]
     .rw[aeV];calc(lU _ _ (cs.set (n/100%((r*w:Nat):Int)).toNat u) (F++[x]) rL (λb o e n1 n2=>by rw[bw n1];show kp5 b o e n1 n2) aA (by rw[fb];show O) (mem_set Z4 (.inr hu)) ?_ (by simp[J]) aiV);rw[bw LM.symm];show hM5
   .show stay _
  .show stay _
 .intro σ G z;let⟨v6,v7,cs,F,rfl,kp,B_,O,Z4,Jy,J,hmk⟩:=z;rw[aa,hdl]at J;let sm:aB H' G:=λb o e=>kp _ _ (s3 _ _ (sM _ _ (sL _ _ e))) (bL e fL) (λz=>by subst z;rw[sL _ _ e]at hM;cases hM);calc(aU _ _ rL rL ⟨qr,qr⟩ (aU _ _ rL rL (by show (0:Int)<_;lia) (aU _ _ rL rL ⟨qr,qr⟩ (cT _ _ rL rL (by show (0:Int)<_;lia) (zsz 2) (λpb hpb=>?_)))));let d0:=df (c/38400) (show (r:Int)≠0 by lia);let d1:=dq (c/38400) (show (0:Int)<r by lia);let f0:=df (c/345600) (show (w:Int)≠0 by lia);let f1:=dq (c/345600) (show (0:Int)<w by lia);let sB:aB G (upd G pb (HO.tup [V.int (c/38400%r),V.int (c/345600%w)])):=aB.upd hpb;let eB:upd G pb (HO.tup [V.int (c/38400%r),V.int (c/345600%w)]) pb=some (.tup [.int ((c/38400%r).toNat:Nat),.int ((c/345600%w).toNat:Nat)]):=by
   rw[aA,cy d0,cy f0]
  generalize upd G pb (HO.tup [V.int (c/38400%r),V.int (c/345600%w)])=H5 at sB eB ⊢;calc⟨zsz 0,λT hT=>?_⟩;let sT:aB H5 (upd H5 T (HO.lst [])):=aB.upd hT;let eT:upd H5 T (HO.lst []) T=some (.lst (([]:List Addr).map V.ref)):=aA;let fT:H' T=none:=by
   cases e:H' T with| none=>rfl| some o=>rw[sB _ _ (sm _ _ e)]at hT;cases hT
  generalize upd H5 T (HO.lst [])=Y at sT eT ⊢;calc⟨zsz 2,λZ hZ=>?_⟩;let sZ:aB Y (upd Y Z (HO.lst [V.ref L,V.ref M])):=aB.upd hZ;let eZ:upd Y Z (HO.lst [V.ref L,V.ref M]) Z=some (.lst ([L,M].map V.ref)):=aA;let ZT:Z≠T:=(bL eT hZ).symm;generalize upd Y Z (HO.lst [V.ref L,V.ref M])=H7 at sZ eZ ⊢;let s47:aB G H7:=(sB.trans sT).trans sZ;let get:∀{i:Nat} {x:V},([L,M].map V.ref)[i]?=some x->∃a ds,x=.ref a/\[cs,F][i]?=some ds/\H7 a=some (.lst (Ts (ones ds)))/\ds.length=r*w:=λ{i x} h=>by
   match i,h with
   | 0,h=>cases h;show(aU L cs rL rL (s47 _ _ B_) O)
   | 1,h=>cases h;show(aU M F rL rL (s47 _ _ Jy) J)
   | i+2,h=>simp at h
  refine(bJ Z rL ⟨_,bM.of eZ⟩ (nR (K:=K) (a:=Z) (xs:=[L,M].map V.ref) (λi σ H8=>∃(v:Option V) (as:List Addr),σ=[some (.int c),some (.str (S ls)),some (.int r),some (.int w),some (.ref L),some (.ref M),v6,v7,some (.ref pb),some (.ref T),v]/\(∀b o,H7 b=some o->b≠T->H8 b=some o)/\H8 T=some (.lst (as.map V.ref))/\as.length=i/\∀k a ds,as[k]?=some a->[cs,F][k]?=some ds->H8 a=some (.tup (Ts (chunk r w ds))))
   (cT none [] rL (λ_ _ e _=>e) (sZ _ _ eT) rL (λk a ds (h:([]:List Addr)[k]?=some a) _=>by rw[List.getElem?_nil]at h;cases h)) (λi σ H8 _ h=>?_) ?_ ?_))
  .let⟨_,_,_,kp,_⟩:=h;show bM.of (kp _ _ eZ ZT)
  .intro i x σ H8 hx z;let⟨v,as,rfl,kp8,I,hal,hch⟩:=z;let⟨a,es,rfl,hes,ha7,hel⟩:=get hx;let aT:a≠T:=Cw ha7 (sZ _ _ eT) λz=>by
    injection z with z;cases es with| nil=>simp at hel;lia| cons e es=>cases z
   let ha8:=kp8 _ _ ha7 aT;let qL:(Ts (ones es)).length=r*w:=by rw[aa,aa,hel]
   let hi2:i<2:=(ah.mp hx).1;calc⟨.inl ⟨rL,_,bM.of I⟩,aK a _ rL (.inl (bM.of ha8)) (wj r w (by rw[qL]) r1 r9 w1 w9 (λN hN=>?_))⟩;refine Xz (λi ys H9=>ys=Ts ((List.range i).map λi=>(es.drop (i*w)).take w)/\H9 N=some (.lst ys)/\aB H8 H9) (cj rL aA (aB.upd hN)) ?_ ?_
   .intro k ys H9 hk z;let⟨rfl,hN9,Wn⟩:=z;let e1:(0:Int)+(k:Int)*(w:Int)=((k*w:Nat):Int):=by push_cast;lia
    let e2:(0:Int)+(k:Int)*(w:Int)+(w:Int)=((k*w+w:Nat):Int):=by push_cast;lia
    let hik:k*w+w<=r*w:=by have:(k+1)*w<=r*w:=nK w hk;rw[pj]at this;show this
    calc⟨rL,aG _ rL (aK _ _ rL rL (aG _ rL (aK a _ rL (bM.of (Wn _ _ ha8)) (λt ht=>?_))))⟩;let ec:jy (Ts (ones es)) (some ((0:Int)+(k:Int)*(w:Int))) (some ((0:Int)+(k:Int)*(w:Int)+(w:Int)))=Ts (ones ((es.drop (k*w)).take w)):=by rw[e2,e1,agy qk (by rw[qL];show hik),lP];simp only[Ts,ones,List.map_take,mw]
    let akn:((es.drop (k*w)).take w).length=w:=by rw[av,aS];lia
    let s3:=Wn.eE (o:=HO.lst (jy (Ts (ones es)) (some ((0:Int)+(k:Int)*(w:Int))) (some ((0:Int)+(k:Int)*(w:Int)+(w:Int))))) (Wn.free ht);let nLt:N≠t:=bL hN9 ht;calc(cT t (ones ((es.drop (k*w)).take w)) rL rL (bM.of (by rw[aA,ec])) (by rw[jV,akn];lia) ?_);rw[jV];calc(cj (by rw[bw nLt];show hN9) (by rw[aa,aa,oP];show aN qk) (iV.mk hk (cj ?_ aA (s3.eE hN))));rw[qc,bP];simp[Ts]
   .intro ys H9 z;let⟨rfl,hN9,Wn⟩:=z;calc(dW N _ rL (.inl ⟨bM.of hN9,λt ht=>?_⟩));let st:aB H8 (upd H9 t (HO.tup (Ts (chunk r w es)))):=Wn.eE (Wn.free ht);let et:upd H9 t (HO.tup (Ts (chunk r w es))) t=some (.tup (Ts (chunk r w es))):=aA;let hT9:=st _ _ I;let tT:t≠T:=(bL (Wn _ _ I) ht).symm;calc(gH T _ (.ref t) rL rL hT9 (aN (by rw[aa,hal];lia)) ?_);calc(cT _ (as++[t]) rL (λb o e n=>by rw[bw n];show st _ _ (kp8 _ _ e n)) (by rw[aA];simp) (by simp[hal]) (λk b ds' h1 h2=>?_));by_cases hk:k<as.length
    .rw[dE hk]at h1;have:=hch k b ds' h1 h2;rw[bw (Cw this I λz=>nomatch z)];show st _ _ this
    .let hk2:=(ah.mp h1).1;rw[am]at hk2;let hk0:k=as.length:=by simp at hk2;lia
     subst hk0;rw[du (ax _),Nat.sub_self]at h1;cases h1;rw[hal,hes]at h2;cases h2;rw[bw tT];show et
  .intro σ H8 z;let⟨v,as,rfl,kp8,I,hal,hch⟩:=z
   match as,hal with| [pr,pm],_=>have h1:=hch 0 pr cs rL rfl;let h2:=hch 1 pm F rL rfl;calc(aY T _ _ (.ref pr) rL rL (bM.of I) (aM (j:=0) rL) (gb T _ _ (.ref pm) rL rL (bM.of I) (aM (j:=1) rL) (zsz 3) (λt ht=>?_)));let sE:aB H8 (upd H8 t (HO.tup [V.ref pr,V.ref pm,V.ref pb])):=aB.upd ht;let pbT:pb≠T:=bL eB hT;refine q t pr pm pb r w (chunk r w cs) (chunk r w F) (c/38400%r).toNat (c/345600%w).toNat _ (λb o e=>sE _ _ (kp8 _ _ (s47 _ _ (sm _ _ e)) (bL e fT))) aA (sE _ _ h1) (sE _ _ h2) (sE _ _ (kp8 _ _ (sZ _ _ (sT _ _ eB)) pbT)) ⟨r1,r9,w1,w9,Rq O,Rq J,Rr Z4,Rr hmk,qk,qk⟩ r2
structure Wo where
 r:Nat
 w:Nat
 aD:List (List Nat)
 aV:List (List Nat)
 bi:Nat
 bj:Nat
 ws:List (List Nat)
 kvs:List (Key×V)
 bn:Int
 bm:Int
 size:Nat
 racks:List (List Nat)
 bag:List Nat
structure Af (C:Addr)(H:Hp)(p pw:Addr)(Z:Wo):Prop where
 ex:∃b d pb pr,H p=some (.tup [.ref b,.ref pw,.ref d,.ref pb,.int Z.size,.ref pr,.str (S Z.bag)])/\dN C H b Z.r Z.w Z.aD Z.aV Z.bi Z.bj/\H d=some (.dK Z.kvs)/\H pb=some (.tup [.int Z.bn,.int Z.bm])/\H pr=some (.tup (Ts Z.racks))
 wl:H pw=some (.lst (Ts Z.ws))
structure abu (Z:Wo):Prop where
 w1:4<=Z.ws.length
 w2:Z.ws.length<=12
 wz:∀l∈Z.ws,zf l
 wd:WD Z.kvs
 wb:WB 1000000 Z.kvs
 s1:1<=Z.size
 s7:Z.size<=7
 n1:1<=Z.racks.length
 n4:Z.racks.length<=4
 r7:∀l∈Z.racks,l.length<=Z.size/\∀c∈l,o8 c
 b6:Z.bag.length<=60
 bt:∀c∈Z.bag,o8 c
 r2:2<=Z.r
 al:∃ls:List Nat,ls.length<=4/\(∀c∈ls,isLet c)/\(∀l∈Z.racks,∀c∈l,xW ls c)/\∀c∈Z.bag,xW ls c
def Ds {l:List Nat}{lo hi:Option Int}{c:Nat}(h:c∈iY l lo hi):c∈l:=c_ (cf h)
def aeW {l:List Nat}{a:Nat}{b:Int}{n:Nat}(h0:0<=b)(h:b<=a+n):(iY l (some (a:Int)) (some b)).length<=n:=by let⟨b,rfl⟩:=jp h0;unfold iY;rw[av,aS,HT.mV,HT.mV];lia
def Wq (K:W.Frag)(C:Addr):Sp:=λvs H Q _=>∃(a:Addr) (ns:List Int),vs=[.ref a]/\bM K H a (ns.map V.int)/\∀(p pw:Addr) (Z:Wo) (H':Hp),aB H H'->H pw=none->Af C H' p pw Z->abu Z->Q (.ref p) H'
def aeX {C f0:Addr}{gk:FuncData}(D:aO K mg "_law_parts" Ip sj)(gF:mg "range"=none)(bH:mg "len"=none)(cX:mg "tuple"=none)(qC:mg "min"=none)(J2:mg "Board"=some (.ref C))(OD:Mk K C f0)(OJ:cU P w K mg base eV 5 f0 gk ms (Ox C))(O1:cD K gk ms [])(nJ:cA P w K mg base "_law_cell_at" 1 ro (U7 K))(adf:cA P w K mg base "_law_letters" 1 rX ade)(agU:cA P w K mg base "_law_words" 2 jw Wk)(aiW:cA P w K mg base "_law_rows" 2 jw Z2)(agV:cA P w K mg base "_law_tiles" 2 kB Wm):cA P w K mg base "_law_parts" 7 sj (Wq K C):=by
 calc D.d8 gW (λf bV A outer s H vs Q E hr h=>?_);let⟨a,ns,rfl,hS,q⟩:=h;let hu:=Sy hr;calc(aG _ (au (aW (i:=1) gW.nd rL (Or.inl rL) (bQ adf hr.mono rL (aj (bQ nJ hr.mono rL (aj aH (aj aq ak))) ak))) (au (aW (i:=2) gW.nd rL (Or.inl rL) (bQ nJ hr.mono rL (aj aH (aj aq ak)))) (au (aW (i:=3) gW.nd rL (Or.inl rL) (aJ dh aq (aJ bZ bG aq))) (au (aW (i:=4) gW.nd rL (Or.inl rL) (aJ dh aq (aJ bZ (aJ cV bG aq) aq))) (au (aW (i:=5) gW.nd rL (Or.inl rL) (aJ jN aq bU)) (au (f9 (cG (bT iC (aJ bZ (aJ cV bG aq) aq) aq (bO _)) (aF (aW (i:=5) gW.nd rL (Or.inl rL) (aJ bZ (aJ cV bG aq) aq))) bR)) (au (f9 (cG (bT iC (aJ bZ (aJ cV bG aq) aq) aq (bO _)) (aF (aW (i:=5) gW.nd rL (Or.inl rL) (aJ bZ (aJ cV bG aq) aq))) bR)) (au (aW (i:=6) gW.nd rL (Or.inl rL) (bQ agV hr.mono rL (aj (bQ nJ hr.mono rL (aj aH (aj aq ak))) (aj bh (aj (aJ dh (aJ jN cQ bU) dD) (aj aq ak)))))) (au (aW (i:=7) gW.nd rL (Or.inl rL) (g_ ak)) (au (h_ di rL (tR qA gF (aj cQ ak)) (bY (i:=8) gW.nd rL (Or.inl rL)) (au (aW (i:=9) gW.nd rL (Or.inl rL) (aJ cV (aJ bZ (aJ JR (bQ nJ hr.mono rL (aj aH (aj aq ak))) (aJ dh mQ aq)) aq) aq)) (aF (eG (gG ce dL dP kO gY (aj (dj qm fU (dM (aJ jN mQ bU)) (dM (aJ ni (aJ jN (aJ dh mQ aq) bU) (aP (Qx rL) qA qC kH (aj lq (aj (aJ ni bU aq) ak)))))) ak)))))) (au (f9 (cG (bT iC (aJ bZ (aJ cV bG aq) aq) aq (bO _)) (aF (um (bA [] qS) (Uq gY (aJ bZ (aJ cV bG aq) cQ) set_list))) bR)) (au (aW (i:=10) gW.nd rL (Or.inl rL) Ue) (au (h_ di rL (qG (dj qm bh eO (dM (aJ dh aq (aJ bZ (aJ cV bG aq) aq))))) (bY (i:=11) gW.nd rL (Or.inl rL)) (aF (YD hu jz oO (aJ dh (aJ bZ (aJ JR bG (aJ dh (aP ab8 qA bH ay (aj jz ak)) aq)) aq) (aJ bZ (aJ cV bG aq) (aJ TJ aq aq))) rL))) (au (aW (i:=12) gW.nd rL (Or.inl rL) (bF (aj (aJ dh aq (aJ bZ (aJ cV bG aq) aq)) (aj (aJ bZ (aJ cV bG aq) aq) ak)))) (au (um (bQ aiW hr.mono rL (aj (bQ nJ hr.mono rL (aj aH (aj aq ak))) (aj bh ak))) (qF rL (cJ (bY (i:=13) gW.nd rL (Or.inl rL)) (cJ (bY (i:=14) gW.nd rL (Or.inl rL)) (cJ (bY (i:=15) gW.nd rL (Or.inl rL)) oU))))) (au (aW (i:=16) gW.nd rL (Or.inl rL) (tU OD OJ hr.mono rL J2 O1 .nil gM (aj (qv 13) (aj (qv 14) (aj (qv 15) ak))))) (au (aW (i:=17) gW.nd rL (Or.inl rL) (bQ agU hr.mono rL (aj (aJ cV (bQ nJ hr.mono rL (aj aH (aj aq ak))) aq) (aj bh ak)))) (aF (bC (bF (aj (qv 16) (aj (qv 17) (aj jz (aj rQ (aj bU (aj (fY jB qA cX c9 (aj gY ak)) (aj (dj qm fU (dM (aJ jN cQ bU)) eO) ak))))))))))))))))))))))))))) ?_);calc(pK a ns 0 rL hS (λv0=>(aG v0 rL (λls hA h4=>?_))));let a1:=hA.lo;let hz:ls.length<=sizeLine:=ap (aN qk);calc(pK a ns 1 rL hS (λc=>?_));calc(aU _ _ rL rL (by show (0:Int)<7;decide) (aK _ _ rL rL ?_));calc(aU _ _ rL rL ⟨qr,qr⟩ (aU _ _ rL rL (by show (0:Int)<4;decide) (aK _ _ rL rL ?_)));calc(aU _ _ rL rL (.inl ⟨qr,qr⟩) ?_);refine⟨λσ H'=>H'=H/\∃size j few:Nat,σ=[some (.ref a),some (.str (S ls)),some (.int c),some (.int size),some (.int j),some (.int few),none,none,none,none,none,none,none,none,none,none,none,none]/\1<=size/\size<=7/\1<=j/\j<=4/\few<=60,?_,?_⟩
 .calc(aU _ _ rL rL ⟨qr,qr⟩ (cT _ _ rL rL (by show (0:Int)<4;decide) rL (bf _ rL ?_)));refine iR (λ_=>?_) (λ_=>?_)
  .calc(aU _ _ rL rL ⟨qr,qr⟩ (cT _ _ rL rL (by show (0:Int)<4;decide) rL (nC ((1+c%7).toNat) ((1+c/7%4).toNat) ((c/112%4).toNat) ?_ qk qk qk qk qk)));rw[cy qk,cy qk,cy qk];rfl
  .calc⟨rL,nC ((1+c%7).toNat) ((1+c/7%4).toNat) ((2*(1+c%7)).toNat) ?_ qk qk qk qk qk⟩;rw[cy qk,cy qk,cy qk];rfl
 intro σ H' z;let⟨rfl,size,j,alw,rfl,z1,z7,m1,m4,f60⟩:=z;refine⟨λσ H2=>H2=H'/\∃few:Nat,σ=[some (.ref a),some (.str (S ls)),some (.int c),some (.int size),some (.int j),some (.int few),none,none,none,none,none,none,none,none,none,none,none,none]/\few<=60,?_,?_⟩
 .calc(aU _ _ rL rL ⟨qr,qr⟩ (cT _ _ rL rL (by show (0:Int)<8;decide) rL (bf _ rL ?_)));refine iR (λ_=>?_) (λ_=>?_)
  .calc(aU _ _ rL rL ⟨qr,qr⟩ (cT _ _ rL rL (by show (0:Int)<60;decide) rL (aG ((c/224%60).toNat) ?_ qk)));rw[cy qk];rfl
  .show⟨rL,aG alw rL f60⟩
 intro σ H2 z;let⟨rfl,few,rfl,alT⟩:=z;let hms:j*size<=28:=gt m4 z7;let ems:(j:Int)*(size:Int)=((j*size:Nat):Int):=by push_cast;rfl
 calc(pK a ns 2 rL hS (λv2=>?_));calc(aU _ _ rL rL (.inl ⟨qk,qk⟩) (aK _ _ rL rL (gO v2 2 ls (j*size+few) (by show [V.int v2,V.str (S ls),V.int ((j:Int)*(size:Int)+(few:Int)),V.int 2]=_;rw[ems];rfl) hA qk (λtl H1 s1 htl htt=>?_))));let hzt:tl.length<=sizeLine:=ap (aN qk);calc⟨zsz 0,λL hL=>?_⟩;let sL:aB H1 (upd H1 L (HO.lst [])):=aB.upd hL;let eL:upd H1 L (HO.lst []) L=some (.lst (Ts [])):=aA;calc(iU _ rL qk qk ?_);rw[ee];refine qD (n:=j) (lo:=0) (λi σ H3=>∃(v8 v9:Option V) (F:AA),σ=[some (.ref a),some (.str (S ls)),some (.int c),some (.int size),some (.int j),some (.int few),some (.str (S tl)),some (.ref L),v8,v9,none,none,none,none,none,none,none,none]/\aB H1 H3/\H3 L=some (.lst (Ts F))/\F.length=i/\∀l∈F,l.length<=size/\∀c∈l,xW ls c)
  (gH none none [] rL sL eL rL (λl h=>by cases h)) ?_ ?_
 .intro i σ H3 hi z;let⟨v8,v9,F,rfl,sm,xV,I,G⟩:=z;calc(pK a ns 2 rL (sm.seq (s1.seq hS)) (λv3=>?_));refine(aK _ _ rL rL (aU _ _ rL rL ⟨by show (0:Int)<_;lia,?_⟩ (aU _ _ rL rL (by show (0:Int)<5;decide) (aU _ _ rL rL ⟨qr,qr⟩ ?_))))
  .calc jI (Nat.log2_le_self _) ?_;show ((0:Int)+(i:Int)+2).natAbs<9000;lia
  let his:(i+1)*size<=j*size:=nK size hi;let e1:((0:Int)+(i:Int))*(size:Int)=((i*size:Nat):Int):=by push_cast;rw[Int.zero_add]
  let e2:((0:Int)+(i:Int)+1)*(size:Int)=((i*size+size:Nat):Int):=by push_cast;rw[Int.zero_add,Int.add_mul];lia
  let t0:0<=v3/((0:Int)+(i:Int)+2)%5/4:=qk;let t1:v3/((0:Int)+(i:Int)+2)%5/4<=1:=qk;calc⟨.inl ⟨rL,_,bM.of xV⟩,aU _ _ rL rL (.inl ⟨qk,qk⟩) (aG _ rL (aK _ _ rL rL (aU _ _ rL rL (.inl ⟨qk,qk⟩) (aK _ _ rL rL (dW _ _ rL (aK _ _ rL rL (aG _ rL (bJ tl rL hzt ?_))))))))⟩;rw[e1,e2];generalize v3/((0:Int)+(i:Int)+2)%5/4=dl at t0 t1 ⊢;let hmn:0<=(if (size:Int)-1<dl then (size:Int)-1 else dl)/\(if (size:Int)-1<dl then (size:Int)-1 else dl)<=(size:Int)-1:=by split <;> lia
  generalize (if (size:Int)-1<dl then (size:Int)-1 else dl)=dm at hmn ⊢;calc(gH L _ _ rL rL xV (aN (by rw[aa];lia)) ?_);calc(gH _ _ (F++[iY tl (some ((i*size:Nat):Int)) (some (((i*size+size:Nat):Int)-dm))]) rL (sm.eE hL) (by rw[aA,Ou]) (by simp[I]) (λl hl=>?_));rcases be.mp hl with z|z;.show G l z
  .rw[bc.mp z];show⟨aeW qk qk,λc hc=>htt c (Ds hc)⟩
 intro σ H3 z;let⟨v8,v9,F,rfl,sm,xV,I,G⟩:=z;refine⟨λσ H4=>∃(F:AA),σ=[some (.ref a),some (.str (S ls)),some (.int c),some (.int size),some (.int j),some (.int few),some (.str (S tl)),some (.ref L),v8,v9,none,none,none,none,none,none,none,none]/\aB H1 H4/\H4 L=some (.lst (Ts F))/\F.length=j/\∀l∈F,l.length<=size/\∀c∈l,xW ls c,?_,?_⟩
 .calc(aU _ _ rL rL ⟨qr,qr⟩ (cT _ _ rL rL (by show (0:Int)<8;decide) rL (bf _ rL ?_)));calc iR (λ_=>?_) (λ_=>(nu F rL sm xV I G));let b0:=df (c/8072) (show (j:Int)≠0 by lia);let b1:=dq (c/8072) (show (0:Int)<j by lia);let qL:(Ts F).length=j:=by rw[aa,I]
  refine(aU _ _ rL rL ⟨qr,qr⟩ (aU _ _ rL rL (by show (0:Int)<_;lia) (aY L _ _ ((c/8072%(j:Int)).toNat) rL rL xV ?_ ?_)))
  .unfold Eo;rw[qL,if_pos qk,if_pos qk]
  .rw[Nk];calc(nu (F.set (c/8072%(j:Int)).toNat []) rL (sm.eE hL) aA (by rw[fb];show I) (λl hl=>?_));rcases eQ hl with e|e;.show G l e
   .rw[e];show⟨fe _,λc h=>by cases h⟩
 intro σ H4 z;let⟨F,rfl,MN,B_,I,G⟩:=z;calc λd hd=>?_;let sD:aB H4 (upd H4 d (HO.dK [])):=aB.upd hd;calc(aU _ _ rL rL ⟨qr,qr⟩ (aU _ _ rL rL (by show (0:Int)<4;decide) (aK _ _ rL rL (aG _ rL (bJ ls rL hz (aG (iY ls none (some (1+c/5%4))) rL ?_))))));let hcl:(iY ls none (some (1+c/5%4))).length<=4:=by unfold iY;rw[av,aS];lia
 refine BJ (λi σ H5=>∃(v11:Option V) (kvs:List (Key×V)),σ=[some (.ref a),some (.str (S ls)),some (.int c),some (.int size),some (.int j),some (.int few),some (.str (S tl)),some (.ref L),v8,v9,some (.ref d),v11,none,none,none,none,none,none]/\aB H4 H5/\H5 d=some (.dK kvs)/\WD kvs/\WB 1000000 kvs/\kvs.length<=i)
  (wj none [] rL sD aA (λkv m=>nomatch m) (λc=>⟨by show (0:Int)<=0;decide,by show (0:Int)<=1000000;decide⟩) (ax _)) ?_ ?_
 .intro i x σ H5 hx z;let⟨v11,kvs,rfl,rJ,Z,hW,hB,hkl⟩:=z;let hi:=(ah.mp hx).1;let⟨c1,c2⟩:=hA.az _ (Ds (bp hx));refine(aK d kvs rL Z (aK _ _ rL rL (aU _ _ rL rL ⟨by show (0:Int)<_;lia,?_⟩ (aU _ _ rL rL (by show (0:Int)<12;decide) (aU _ _ rL rL ⟨qr,qr⟩ (aU _ _ rL rL (cj qr qr qr) (aU _ _ rL rL (by show (0:Int)<10^5;decide) (aK _ _ rL rL (aK d _ rL (JN.k (k:=dX [x]) Z (aN qk)) ?_)))))))))
  .calc jI (Nat.log2_le_self _) ?_;show ((kvs.length:Int)+3).natAbs<9000;lia
  let b0:=df (c/((kvs.length:Int)+3)) (show (12:Int)≠0 by decide);let b1:=dq (c/((kvs.length:Int)+3)) (show (0:Int)<12 by decide);let b2:=df (c/1000003) (show (10:Int)^(5:Int).toNat≠0 by decide);let b3:=dq (c/1000003) (show (0:Int)<(10:Int)^(5:Int).toNat by decide);let b4:(10:Int)^(5:Int).toNat=100000:=by decide
  rw[b4]at b2 b3;refine(wj _ _ rL (rJ.eE hd) aA (hW.put _ c1 c2) (hB.put ?_ ?_) (b8 (Ao _ _ _) qk))
  .show (0:Int)<=c/((kvs.length:Int)+3)%12+c/1000003%(10:Int)^(5:Int).toNat;rw[b4];lia
  .show c/((kvs.length:Int)+3)%12+c/1000003%(10:Int)^(5:Int).toNat<=1000000;rw[b4];lia
 intro σ H5 z;let⟨v11,kvs,rfl,rJ,Z,hW,hB,hkl⟩:=z;calc(aU _ _ rL rL ⟨qr,qr⟩ (aU _ _ rL rL (by show (0:Int)<7;decide) (aK _ _ rL rL (aU _ _ rL rL ⟨qr,qr⟩ (cT _ _ rL rL (by show (0:Int)<60;decide) (zsz 2) (λpb hpb=>?_))))));let sB:aB H5 (upd H5 pb (HO.tup [V.int (1+c/11%7),V.int (c/13%60)])):=aB.upd hpb;let eB:upd H5 pb (HO.tup [V.int (1+c/11%7),V.int (c/13%60)]) pb=some (.tup [V.int (1+c/11%7),V.int (c/13%60)]):=aA;generalize upd H5 pb (HO.tup [V.int (1+c/11%7),V.int (c/13%60)])=H6 at sB eB ⊢;let uY:aB H1 H6:=(MN.trans rJ).trans sB;let Ew:aB H2 H6:=s1.trans uY;calc(pK a ns 3 rL (Ew.seq hS) (λv4=>?_));calc(aK v4 ls rL hA (λt pr pm pbg r w aD aV bi bj H7 s7 ht Y hpm O hBr hr2=>?_));calc(aU t _ rL (aQ.of ht) rL (dW _ _ rL (dW _ _ rL (aK _ _ rL rL ?_))));calc(λb dxb J nb2 nb3=>?_);calc⟨b,dxb,pr,pm,pbg,r,w,aD,aV,bi,bj,rL,aA,?_,?_,?_,hBr,λH8 k8 e8=>⟨rL,?_⟩⟩;.rw[bw (bL Y J),bw (bL Y nb2)];show Y
 .rw[bw (bL hpm J),bw (bL hpm nb2)];show hpm
 .rw[bw (bL O J),bw (bL O nb2)];show O
 let s8:aB H7 H8:=λx o h=>k8 x o (by rw[bw (bL h J),bw (bL h nb2)];show h) (bL h J);let BA:dN C H8 b r w aD aV bi bj:=⟨(gO dxb pr pm pbg e8 (s8 _ _ Y) (s8 _ _ hpm) (s8 _ _ O)),hBr⟩
 let Z5:aB H2 H8:=(Ew.trans s7).trans s8;calc(pK a ns 0 rL (Z5.seq hS) (λv5=>?_));calc(aU _ _ rL rL ⟨qr,qr⟩ (aK _ ls rL hA (λpw ws H9 s9 fpw Nr hw4 alx Rt=>?_)));let s69:aB H6 H9:=(s7.trans s8).trans s9;let hL9:=s69 _ _ (sB _ _ (rJ _ _ B_));calc(dW L _ rL (.inl ⟨bM.of hL9,λRu aeY=>?_⟩));let sR:aB H9 (upd H9 Ru (HO.tup (Ts F))):=aB.upd aeY;let eR:upd H9 Ru (HO.tup (Ts F)) Ru=some (.tup (Ts F)):=aA;generalize upd H9 Ru (HO.tup (Ts F))=HA at sR eR ⊢;calc(aU _ _ rL rL (.inl ⟨qk,qk⟩) (aG _ rL (iU tl rL hzt (zsz 7) (λp hp=>?_))));let eP:upd HA p (HO.tup [V.ref b,V.ref pw,V.ref d,V.ref pb,V.int size,V.ref Ru,V.str (S (iY tl (some ((j:Int)*(size:Int))) none))]) p=some (.tup [.ref b,.ref pw,.ref d,.ref pb,.int size,.ref Ru,.str (S (tl.drop (j*size)))]):=by rw[aA,ems,iH]
 let sP:=aB.upd hp (o:=HO.tup [V.ref b,V.ref pw,V.ref d,V.ref pb,V.int size,V.ref Ru,V.str (S (iY tl (some ((j:Int)*(size:Int))) none))]);let s9P:=sR.trans sP;let s6P:=s69.trans s9P;calc q p pw ⟨r,w,aD,aV,bi,bj,ws,kvs,1+c/11%7,c/13%60,size,F,tl.drop (j*size)⟩ _ (Ew.trans s6P) ?_ ⟨(aY b d pb Ru eP ((BA.mv s9).mv s9P) (s6P _ _ (sB _ _ Z)) (s6P _ _ eB) (sP _ _ eR)),s9P _ _ Nr⟩ ⟨hw4,alx,Rt,hW,hB,z1,z7,by show 1<=F.length;lia,by show F.length<=4;lia,λl hl=>⟨(G l hl).1,λc hc=>((G l hl).2 c hc).tl hA.az⟩,by show (tl.drop _).length<=60;rw[aS];lia,λc hc=>(htt c (c_ hc)).tl hA.az,hr2,ls,h4,hA.az,λl hl=>(G l hl).2,λc hc=>htt c (c_ hc)⟩;cases e:H2 pw with| none=>rfl| some o=>rw[Z5 _ _ e]at fpw;cases fpw
structure oG (C:Addr)(H:Hp)(p:Addr)(z:Std)(dn ps:Nat)(ov:Bool):Prop where
 ex:∃b pr pp,H p=some (.tup [.ref b,.ref pr,.str (S z.bag),.ref pp,.int dn,.int ps,.bl ov])/\dN C H b z.r z.w z.aD z.aV z.bi z.bj/\H pr=some (.tup (Ts z.racks))/\H pp=some (.tup (z.jX.map V.int))
def beg (Z:Wo):Std:=⟨Z.r,Z.w,Z.aD,Z.aV,Z.bi,Z.bj,Z.racks.map fu,Z.bag,List.replicate Z.racks.length 0⟩
def Z6 (C:Addr):Sp:=λvs H Q _=>∃(p pw:Addr) (Z:Wo),vs=[.ref p]/\Af C H p pw Z/\abu Z/\∀j H',aB H H'->oG C H' j (beg Z) 0 0 false->Q (.ref j) H'
def aeZ {C:Addr}(D:aO K mg "_law_begun" Ir tz)(cX:mg "tuple"=none)(jo:mg "sorted"=none)(bH:mg "len"=none):cA P w K mg base "_law_begun" 1 tz (Z6 C):=by
 calc D.d8 JZ (λf bV A outer s H vs Q E hr h=>?_);let⟨p,pw,Z,rfl,A0,O,q⟩:=h;let⟨b,d,pb,pr,hp,hB,hd,hpb,J⟩:=A0.ex;let n1:=O.n1;let n4:=O.n4;let z7:=O.s7;calc(aG _ (au (aW (i:=1) JZ.nd rL (Or.inl rL) (fY jB qA cX c9 (aj (jY rL (jW.of JZ.nd qB) (jh (aZ bI aH aq (λ_ _=>rfl))) (λ_ _ _ _ _=>fO) (λ_ _ _ _ _=>(Uu K bv cE cK (JV K) (bA [] qS) (aj (aP (xH rL) qA jo gd (aj aH ak)) ak)))) ak))) (aF (bC (bF (aj (aZ bI aH aq (λ_ _=>rfl)) (aj bh (aj (aZ bI aH aq (λ_ _=>rfl)) (aj (aJ Y_ (bF (aj aq ak)) (aP b_ qA bH ay (aj bh ak))) (aj aq (aj aq (aj jr ak))))))))))) ?_);refine(aY p _ _ (.ref pr) rL rL (aQ.of hp) (aM (j:=5) rL) (bJ pr rL ⟨_,aQ.of J⟩ (λL hL=>tH (xs:=Ts Z.racks) (λi ys F=>ys=Ts ((Z.racks.take i).map fu)/\F L=some (.lst ys)/\aB H F) (cj rL aA (aB.upd hL)) (λi ys F _ h=>aQ.of (h.2.2 _ _ J)) ?_ ?_)))
 .intro i x ys F hi z;let⟨rfl,Gv,sm⟩:=z;let⟨l,hl,rfl⟩:=yX hi;let G:i<(Ts Z.racks).length:=(ah.mp hi).1;let hir:i<Z.racks.length:=by rw[aa]at G;show G
  let hl7:=(O.r7 l (bp hl)).1;calc⟨rL,bJ l rL qk (λp2 us hp2 pm pw=>?_)⟩;calc(cT p2 (us.map λc=>[c]) rL rL (bM.of aA) ?_ ?_);.rw[jV,pm.length_eq];lia
  .rw[zj (pm.map λc=>[c]) pw];let I:=aB.upd hp2 (o:=HO.lst (Ts (us.map λc=>[c])));calc(cj (I _ _ Gv) ?_ (iV.mk G (cj ?_ aA ((sm.trans I).eE hL))));.rw[aa,aa,av];show aN qk
   .rw[take_snoc hl];simp only[Ts,bP];rfl
 .intro ys F z;let⟨rfl,Gv,sm⟩:=z;rw[aa,cw]at Gv;calc(dW L _ rL (.inl ⟨bM.of Gv,λtp ht=>?_⟩));let I:aB F (upd F tp (.tup (Ts (Z.racks.map fu)))):=aB.upd ht;let ZW:upd F tp (.tup (Ts (Z.racks.map fu))) tp=some (.tup (Ts (Z.racks.map fu))):=aA;generalize upd F tp (HO.tup (Ts (Z.racks.map fu)))=H8 at I ZW ⊢;let Z5:=sm.trans I;calc(aY p _ _ (.ref b) rL rL (aQ.of (Z5 _ _ hp)) (aM (j:=0) rL) (gb p _ _ (.str (S Z.bag)) rL rL (aQ.of (Z5 _ _ hp)) (aM (j:=6) rL) (zsz 1) (λY e0=>?_)));let s9:aB H8 (upd H8 Y (HO.tup [V.int 0])):=aB.upd e0;let ep0:upd H8 Y (HO.tup [V.int 0]) Y=some (.tup [V.int 0]):=aA;generalize upd H8 Y (HO.tup [V.int 0])=H9 at s9 ep0 ⊢;calc(aK tp _ rL (.inr (aQ.of (s9 _ _ ZW))) (SQ Y _ Z.racks.length rL (by rw[aa,aa]) ep0 qo n1 qk (by show 1<=100;decide) (λpp HA sA hpp=>?_)));let A_:HA pp=some (.tup ((List.replicate Z.racks.length (0:Int)).map V.int)):=by rw[hpp];simp
  let s0A:=(Z5.trans s9).trans sA;calc⟨zsz 7,λp' hp'=>?_⟩;let sP:=aB.upd hp' (o:=HO.tup [V.ref b,V.ref tp,V.str (S Z.bag),V.ref pp,V.int 0,V.int 0,V.bl false]);show q p' _ (s0A.trans sP) ⟨b,tp,pp,aA,(hB.mv s0A).mv sP,sP _ _ (sA _ _ (s9 _ _ ZW)),sP _ _ A_⟩
def Pu (a b:Nat×Nat)(l:List (Nat×Nat)):gP (a::b::l)=(ltQ (a,b)&&gP (b::l)):=rfl
theorem Gw {c:Nat×Nat}:∀{cs:List (Nat×Nat)},gP cs=true->(∀d∈cs,ltQ (d,c)=true)->gP (cs++[c])=true
 | [],_,_=>rfl
 | [a],_,h=>by show gP (a::c::[])=true;rw[Pu,h a bS];rfl
 | a::b::l,h1,h2=>by rw[Pu,cp]at h1;show gP (a::b::(l++[c]))=true;rw[Pu,h1.1,mx];show Gw (cs:=b::l) h1.2 λd hd=>h2 d (bE _ hd)
def Nt {r w:Nat}{aD:AA}(hb:Blk r w aD)(r1:1<=r){i:Int}(h0:-1<=i)(h1:i<r):∃l,tV (Ts aD) i=some (.str (S l))/\l.length=w:=by
 by_cases hn:0<=i
 .let⟨k,rfl⟩:=jp hn;let D:k<aD.length:=by rw[hb.len];lia
  show(aG (aD[k]) (aM (lE (ac D))) (hb.uK _ (ba D)))
 .let e:i=-1:=qk;subst e;let j:aD≠[]:=λe=>by subst e;have:=hb.len;simp at this;lia
  calc(aG (aD.getLast j) ?_ (hb.uK _ (List.getLast_mem j)));let e:=kD j;let e2:Ts aD=Ts aD.dropLast++[.str (S (aD.getLast j))]:=by
   conv=>lhs;rw[<-e]
   simp only[Ts,bP,cq,pv]
  rw[e2];show JL _ _
def adg:Sp:=λvs H Q _=>∃(pr pl:Addr) (bB word:List Nat) (i0 j wy:Int) (r w:Nat) (aD:AA),vs=[.ref pr,.str (S word),.ref pl,.str (S bB)]/\H pr=some (.tup (Ts aD))/\Blk r w aD/\1<=r/\r<=9/\w<=9/\zf word/\H pl=some (.tup [.int i0,.int j,.int wy])/\-1<=i0/\0<=j/\(wy=0\/wy=1)/\bB.length<=63/\
 ∀(t:Addr) (as:List Addr) (H':Hp),aB H H'->H' t=some (.tup (as.map V.ref))->as.length<=9->(0<=i0->∃ts,fW H' as ts/\(∀t∈ts,inB r w t)/\gP (ts.map lF)=true)->Q (.ref t) H'
def Ws (D:aO K mg "_law_candidate" wI mu)(bH:mg "len"=none)(iQ:mg "list"=none)(cX:mg "tuple"=none)(qy:mg "int"=none):cA P w K mg base "_law_candidate" 1 mu adg:=by
 calc D.d8 iZ (λf bV A outer s H vs Q E hr h=>?_);let⟨pr,pl,bB,word,i0,j0,wy,r,w,aD,rfl,hpr,hb,r1,r9,w9,hW,hpl,i1,j1,Vc,h63,q⟩:=h;let⟨wo1,wo2,wo3⟩:=hW;let hrl:(Ts aD).length=r:=by rw[aa,hb.len]
 let G:∀H2,aB H H2->∀t,H2 t=none->Q (.ref t) (upd H2 t (.tup [])):=λH2 s2 t ht=>q t [] _ (s2.trans (aB.upd ht)) aA (fe _) λ_=>(bJ [] ⟨λa h=>(by cases h),rL⟩ (λt h=>(by cases h)) rL)
 calc(aG _ (au (um bG (qF rL (cJ (bY (i:=4) iZ.nd rL (Or.inl rL)) (cJ (bY (i:=5) iZ.nd rL (Or.inl rL)) (cJ (bY (i:=6) iZ.nd rL (Or.inl rL)) oU))))) (au (aW (i:=7) iZ.nd rL (Or.inl rL) (fY (nq rL) qA iQ fg (aj bU ak))) (au (aW (i:=8) iZ.nd rL (Or.inl rL) (g_ ak)) (au (h_ di rL (qG bh) (bY (i:=9) iZ.nd rL (Or.inl rL)) (au (cG (QW.qt (pI (bT Ie cQ (aP b_ qA bH ay (aj aH ak)) (bO _)) (m8 (bT Ie dD (aP dw qA bH ay (aj (aZ bI aH aq (λ_ _=>rfl)) ak)) (bO _))))) (aF (bC (bF ak))) bR) (au (f9 (cG (bT kY (aZ vG (aZ bI aH cQ (λ_ _=>rfl)) dD (λ_ _=>rfl)) (bA [46] qS) (bO _)) (au (aW (i:=10) iZ.nd rL (Or.inl rL) lq) (au (f9 (cG (bT uq jz gY rL) (aF (aW (i:=10) iZ.nd rL (Or.inl rL) (bA [63] qS))) bR)) (au (cG (bT uq jz gY rL) (aF (bC (bF ak))) bR) (au (eG (gG ce gL gN wX gY (aj jz ak))) (aF (eG (gG ce dL dP kO mQ (aj (bF (aj cQ (aj dD (aj (aZ gA (g_ (aj lq (aj (Fb bv PySem.F.slot_str_upper PySem.F.type_str_upper acg lq) ak))) (fY Qy qA qy kz (aj (gq kY jz (bA [63] qS) (bO _)) ak)) (λ_ _=>rfl)) ak)))) ak)))))))) bR)) (au (aW (i:=4) iZ.nd rL (Or.inl rL) (aJ dh cQ fU)) (aF (aW (i:=5) iZ.nd rL (Or.inl rL) (aJ ni (aJ dh dD aq) fU))))))) (aF (bC (fY jB qA cX c9 (aj mQ ak)))))))) ?_);calc(aU pl _ rL (aQ.of hpl) rL (dW _ _ rL (dW _ _ rL (aK _ _ rL rL ?_))));calc(bJ bB rL qk (λL hL=>?_));let sL:aB H (upd H L (HO.lst (Ts (bB.map λc=>[c])))):=aB.upd hL;let eL:upd H L (HO.lst (Ts (bB.map λc=>[c]))) L=some (.lst (Ts (bB.map λc=>[c]))):=aA;generalize upd H L (HO.lst (Ts (bB.map λc=>[c])))=H1 at sL eL ⊢;calc⟨zsz 0,λM hM=>?_⟩;let sM:aB H1 (upd H1 M (HO.lst [])):=aB.upd hM;let eM:upd H1 M (HO.lst []) M=some (.lst (([]:List Addr).map V.ref)):=aA;let LM:L≠M:=bL eL hM;let fM:H M=none:=by
  cases e:H M with| none=>rfl| some o=>rw[sL _ _ e]at hM;cases hM
 generalize upd H1 M (HO.lst [])=H2 at sM eM ⊢;let d7:=sL.trans sM;let eL2:=sM _ _ eL;calc(aG word rL ?_);refine BJ (λn σ J=>∃(v9 I:Option V) (j cc:Int) (us:List Nat) (as:List Addr),σ=[some (.ref pr),some (.str (S word)),some (.ref pl),some (.str (S bB)),some (.int j),some (.int cc),some (.int wy),some (.ref L),some (.ref M),v9,I]/\aB H J/\J L=some (.lst (Ts (us.map λc=>[c])))/\us.length<=63/\J M=some (.lst (as.map V.ref))/\as.length<=n/\-1<=j/\0<=cc/\(0<=i0->0<=j/\∃ts,fW J as ts/\(∀t∈ts,inB r w t)/\gP (ts.map lF)=true/\∀t∈ts,((t.1:Int)<j\/((t.1:Int)=j/\(t.2.1:Int)<cc))))
  ⟨none,none,i0,j0,bB,[],rL,d7,eL2,h63,eM,fe _,i1,j1,λh=>⟨h,iU [] ⟨λa h=>(by cases h),rL⟩ (λt h=>(by cases h)) rL (λt h=>(by cases h))⟩⟩ ?_ ?_
 .intro n c σ J hc z;let⟨v9,I,j,cc,us,as,rfl,sm,xV,Gg,Jv,hal,rr1,cc1,O⟩:=z;let hn:n<word.length:=(ah.mp hc).1;let abw:isLet c:=wo3 c (bp hc);let V8:=sm _ _ hpr;calc(aK pr _ rL (.inr (aQ.of V8)) (aK _ _ rL rL (bf _ rL ?_)));calc iR (λ_=>⟨zsz 0,λt ht=>G J sm t ht⟩) (λhnr=>?_);let hnr:=ie (ki.mpr hnr);rw[hrl]at hnr;let⟨l0,e0,w0⟩:=Nt hb r1 (i:=0) qk qk;let hz0:l0.length<=sizeLine:=ap (aN qk);calc(aY pr _ _ (.str (S l0)) rL rL (aQ.of V8) e0 (bJ l0 rL hz0 (aK _ _ rL rL (bf _ rL ?_))));calc iR (λ_=>⟨zsz 0,λt ht=>G J sm t ht⟩) (λhnc=>?_);let hnc:=ie (ki.mpr hnc);rw[w0]at hnc;let⟨l,el,wl⟩:=Nt hb r1 (i:=j) rr1 qk;let z_:l.length<=sizeLine:=ap (aN qk);let⟨k,rfl⟩:=jp cc1;let hk:k<l.length:=qk;refine⟨λσ F=>∃(v9 I:Option V) (us:List Nat) (as:List Addr),σ=[some (.ref pr),some (.str (S word)),some (.ref pl),some (.str (S bB)),some (.int j),some (.int k),some (.int wy),some (.ref L),some (.ref M),v9,I]/\aB H F/\F L=some (.lst (Ts (us.map λc=>[c])))/\us.length<=63/\F M=some (.lst (as.map V.ref))/\as.length<=n+1/\(0<=i0->0<=j/\∃ts,fW F as ts/\(∀t∈ts,inB r w t)/\gP (ts.map lF)=true/\∀t∈ts,((t.1:Int)<j\/((t.1:Int)=j/\(t.2.1:Int)<=k))),?_,?_⟩
  .calc(aY pr _ _ (.str (S l)) rL rL (aQ.of V8) el (gH l _ (l[k]) rL rL z_ (aM (ac hk)) (aK [l[k]] [46] rL rL (bf _ rL ?_))));refine iR (λ_=>?_) (λ_=>(S5 _ _ us as rL sm xV Gg Jv qk (λh=>?_)))
   .calc ?_;refine⟨λσ F=>F=J/\∃x:Nat,σ=[some (.ref pr),some (.str (S word)),some (.ref pl),some (.str (S bB)),some (.int j),some (.int k),some (.int wy),some (.ref L),some (.ref M),some (.str (S [c])),some (.str (S [x]))]/\(x=c\/x=63),?_,?_⟩
    .calc(cT L _ rL (.inl (bM.of xV)) rL (IV _) (bf _ rL ?_));show iR (λ_=>⟨rL,aG 63 rL (.inr rL)⟩) (λ_=>⟨rL,aG c rL (.inl rL)⟩)
    intro σ F z;let⟨rfl,x,rfl,hxc⟩:=z;calc(cT L _ rL (.inl (bM.of xV)) rL (IV _) (bf _ rL ?_));calc iR (λ_=>⟨zsz 0,λt ht=>G F sm t ht⟩) (λfZ=>?_);let fZ:x∈us:=by rw[show (if true then !inV (V.str (S [x])) (Ts (us.map λc=>[c])) else inV (V.str (S [x])) (Ts (us.map λc=>[c])))=!inV (V.str (S [x])) (Ts (us.map λc=>[c])) from rL,Vt]at fZ;simpa using fZ
    calc⟨.inl ⟨rL,_,bM.of xV⟩,nC L _ [x] rL rL xV (bd.mpr (aG x fZ rL)) (by rw[aa];lia) ?_⟩;rw[qP];let s5:aB H (upd F L (HO.lst (Ts ((us.erase x).map λc=>[c])))):=sm.eE hL;let eL5:upd F L (HO.lst (Ts ((us.erase x).map λc=>[c]))) L=some (.lst (Ts ((us.erase x).map λc=>[c]))):=aA;let eM5:upd F L (HO.lst (Ts ((us.erase x).map λc=>[c]))) M=some (.lst (as.map V.ref)):=by rw[bw LM.symm];show Jv
    let T5:∀a xs,F a=some (.tup xs)->upd F L (HO.lst (Ts ((us.erase x).map λc=>[c]))) a=some (.tup xs):=λa xs e=>by rw[bw (Cw e xV λz=>nomatch z)];show e
    generalize upd F L (HO.lst (Ts ((us.erase x).map λc=>[c])))=H5 at s5 eL5 eM5 T5 ⊢;calc(cj (.inl ⟨rL,_,bM.of eM5⟩) rL ⟨[c],rL,rL,(by show 1<=1000;decide),(λd hd=>by rw[bc.mp hd];have:=abw.2;lia),zsz 2,λN hN=>?_⟩);let s6:aB H5 (upd H5 N (HO.lst [V.str (S [c]),V.str (S ([c].map PyProof.Rows.up1))])):=aB.upd hN;let eN:upd H5 N (HO.lst [V.str (S [c]),V.str (S ([c].map PyProof.Rows.up1))]) N=some (.lst [V.str (S [c]),V.str (S [PyProof.Rows.up1 c])]):=aA;generalize upd H5 N (HO.lst [V.str (S [c]),V.str (S ([c].map PyProof.Rows.up1))])=H6 at s6 eN ⊢;obtain⟨y,hy,ysg⟩:∃y,tV [V.str (S [c]),V.str (S [PyProof.Rows.up1 c])] (if decide ([x]=[63])=true then 1 else 0)=some (.str (S [y]))/\rH y:=by
     by_cases e:x=63
     .calc(aG (PyProof.Rows.up1 c) ?_ ?_);.rw[ai (by rw[e]),if_pos rfl];rfl
      .have:PyProof.Rows.up1 c=c-32:=afQ abw;rw[this];show acH abw
     .calc(aG c ?_ (U8 abw));rw[af (by simpa using e),if_neg qr];rfl
    calc(aK [x] [63] rL rL (.inr (aG _ rL (gb N _ _ (.str (S [y])) rL rL (bM.of eN) hy (zsz 3) (λT hT=>?_)))));let s7:aB H6 (upd H6 T (HO.tup [V.int j,V.int k,V.str (S [y])])):=aB.upd hT;let eT:upd H6 T (HO.tup [V.int j,V.int k,V.str (S [y])]) T=some (.tup [V.int j,V.int k,V.str (S [y])]):=aA;generalize upd H6 T (HO.tup [V.int j,V.int k,V.str (S [y])])=H7 at s7 eT ⊢;let Y:=s6.trans s7;let eM7:=Y _ _ eM5;calc(gH M _ (.ref T) rL rL eM7 (aN (by rw[aa];lia)) ?_);calc(S5 _ _ (us.erase x) (as++[T]) rL ((s5.trans Y).eE fM) ?_ ?_ ?_ ?_ (λh=>?_));.rw[bw LM];show Y _ _ eL5
    .have:=(ka (a:=x) (l:=us)).length_le;lia
    .rw[aA];simp
    .rw[am];show g9 hal
    .let⟨h0,ts,t1,Z,t3,t4⟩:=O h;let⟨i,rfl⟩:=jp h0;let kT:∀a xs,H7 a=some (.tup xs)->upd H7 M (HO.lst (as.map V.ref++[V.ref T])) a=some (.tup xs):=λa xs e=>by rw[bw (Cw e eM7 λz=>nomatch z)];show e
     refine⟨h0,iU (ts++[(i,k,y)]) (((t1.Ju λa xs e=>kT a xs (Y _ _ (T5 a xs e)))).snoc (kT _ _ eT)) (λt ht=>?_) ?_ (λt ht=>?_)⟩
     .rcases be.mp ht with z|z;.show Z t z
      .rw[bc.mp z];show(cj (by show i<r;lia) (by show k<w;lia) ysg)
     .rw[bP];calc Gw t3 λd hd=>?_;let⟨t,ht,rfl⟩:=bd.mp hd;let b1:=(Z t ht).1;let b2:=(Z t ht).2.1;let b3:=t4 t ht;show decide (t.1*1000+t.2.1<i*1000+k)=true;show ai qk
     .rcases be.mp ht with z|z;.have:=t4 t z;lia
      .rw[bc.mp z];show .inr ⟨rL,qf _⟩
   .let⟨h0,ts,t1,Z,t3,t4⟩:=O h;show⟨h0,iU ts t1 Z t3 (λt ht=>by have:=t4 t ht;lia)⟩
  .intro σ F z;let⟨v9,I,us,as,rfl,MN,B_,aly,Jy,alz,alA⟩:=z;calc(aK _ _ rL rL ?_);calc(aK _ _ rL rL (aK _ _ rL rL ?_));calc⟨_,_,j+wy,(k:Int)+1-wy,us,as,rL,MN,B_,aly,Jy,alz,qk,qk,λh=>?_⟩;let⟨h0,ts,t1,Z,t3,t4⟩:=alA h;show⟨qk,iU ts t1 Z t3 (λt ht=>by have:=t4 t ht;lia)⟩
 .intro σ J z;let⟨v9,I,j,cc,us,as,rfl,sm,xV,Gg,Jv,hal,rr1,cc1,O⟩:=z;calc(dW M _ rL (.inl ⟨bM.of Jv,λt ht=>?_⟩));let st:=aB.upd ht (o:=HO.tup (as.map V.ref));calc q t as _ (sm.trans st) aA qk λh=>?_;let⟨h0,ts,t1,Z,t3,t4⟩:=O h;show(bJ ts (t1.mv st) Z t3)
def dT (t:cu):Dt:=.tup [.int t.1,.int t.2.1,.str [t.2.2]]
theorem d9.Nu {H:Hp}:∀{as:List Addr},(∀a∈as,rT H a (tO H a))->(∀a∈as,(tO H a).2.2<128)->d9 K H 2 ((as.map (tO H)).map dT) (as.map V.ref)
 | [],_,_=>.nil
 | a::as,h1,h2=>.cons (.tup (aQ.of (h1 a bS)) (.cons (.int _) (.cons (.int _) (.cons (.str _ λc j=>by rw[bc.mp j];show h2 a bS) .nil)))) (d9.Nu (λb hb=>h1 b (bE _ hb)) λb hb=>h2 b (bE _ hb))
def jO.Nu {H:Hp}{t:Addr}{as:List Addr}{ts:List cu}(h:H t=some (.tup (as.map V.ref)))(j:fW H as ts)(hs:∀t∈ts,rH t.2.2):jO K H 3 (.tup (ts.map dT)) (.ref t):=by let e:=j.eq;subst e;show .tup (aQ.of h) (d9.Nu j.at_ λa ha=>(hs _ (bd.mpr (aG a ha rL))).lt)
def ako {aD:AA}{r w bi bj:Nat}{ws:AA}{bB:List Nat}{ts:List cu}(h:qb aD r w bi bj ws bB ts .ok):∃l,qO bB (ts.map (·.2.2))=some l:=by
 cases h with| ok h1 h2 h3 h4 h5 h=>let⟨l,hl⟩:=h5;show Nm hl
def Wt {aD:AA}{ts:List cu}{bs ws:AA}(h:∀x,x∈bs↔x∈ws):Gi aD bs ts=Gi aD ws ts:=by
 let e:J7 bs=J7 ws:=funext λq=>by unfold J7;rw[decide_eq_decide.mpr (h (Vv q))]
 unfold Gi;rw[e]
def ae0 {aD:AA}{r w bi bj:Nat}{bs ws:AA}{bB:List Nat}{ts:List cu}(e:∀x,x∈bs↔x∈ws)(h:qb aD r w bi bj bs bB ts .ok):qb aD r w bi bj ws bB ts .ok:=by
 cases h with| ok h1 h2 h3 h4 h5 h=>show .ok h1 h2 h3 h4 h5 (by rw[<-Wt e];show h)
structure abx (aD:AA)(r w bi bj:Nat)(ws:AA)(bB:List Nat)(ts:List cu):Prop where
 jL:∀t∈ts,inB r w t
 h0:0<ts.length
 h7:ts.length<=7
 ri:gP (ts.map lF)=true
 vd:qb aD r w bi bj ws bB ts .ok
def adh (C CB:Addr):Sp:=λvs H Q _=>∃(b k kd pw:Addr) (bs ws:AA) (bB:List Nat) (c:Int) (r w:Nat) (aD aV:AA) (bi bj:Nat),vs=[.ref b,.ref k,.ref pw,.str (S bB),.int c]/\dN C H b r w aD aV bi bj/\jd CB H k kd bs/\H pw=some (.lst (Ts ws))/\1<=ws.length/\(∀l∈ws,zf l)/\bB.length<=63/\
 ∀(t:Addr) (as:List Addr) (ts:List cu) (H':Hp),aB H H'->H' t=some (.tup (as.map V.ref))->fW H' as ts->(ts=[]\/abx aD r w bi bj bs bB ts)->Q (.ref t) H'
open Classical in
def adi {C CB f1:Addr}{fB:FuncData}(D:aO K mg "_law_laying" Di g8)(bH:mg "len"=none)(qC:mg "min"=none)(F:iJ K C)(uR:Meth K C "is_free" f1)(uT:cU P w K mg base eV 1 f1 fB aw (U_ C))(uU:cD K fB aw [])(mO:cA P w K mg base tS 1 n7 tM)(Yr:cA P w K mg base "_law_candidate" 1 mu adg)(aiX:cA P w K mg base "_law_lets" 16 ge (ada C CB)):cA P w K mg base "_law_laying" 17 g8 (adh C CB):=by
 calc D.d8 wZ (λf bV A outer s H vs Q E hr h=>?_);let⟨b,k,kd,pw,bs,ws,bB,c,r,w,aD,aV,bi,bj,rfl,BA,BK,Nr,w1,Rt,h63,q⟩:=h;obtain⟨⟨Z,pr,pm,pb,hb,J,hpm,hpb⟩,B⟩:=BA;let BA:dN C H b r w aD aV bi bj:=⟨(gO Z pr pm pb hb J hpm hpb),B⟩
 let r1:=B.r1;let r9:=B.r9;let ww1:=B.w1;let w9:=B.w9;let hrl:(Ts aD).length=r:=by rw[aa,B.br.len]
 let⟨l0,e0,w0⟩:=Nt B.br r1 (i:=0) qk qk;let hz0:l0.length<=sizeLine:=ap (aN qk);calc(aG _ (au (h_ di rL (oK (bQ mO hr.mono rL (aj cQ (aj aq ak)))) (bY (i:=5) wZ.nd rL (Or.inl rL)) (au (aW (i:=6) wZ.nd rL (Or.inl rL) (bF (aj (aJ bZ (aJ cV dD aq) (aP b_ qA bH ay (aj (cF aH rL) ak))) (aj (aJ bZ (aJ cV dD aq) (aP dw qA bH ay (aj (aZ bI (cF aH rL) aq (λ_ _=>rfl)) ak))) (aj (aJ bZ (aJ cV dD aq) aq) ak))))) (au (f9 (cG (fJ (jk aH F.cl uR uT hr.mono uU .nil gM)) (aF (aW (i:=6) wZ.nd rL (Or.inl rL) (bF (aj (aJ ni (aZ bI (cF aH rL) aq (λ_ _=>rfl)) (aJ jN (aJ bZ (aJ cV dD aq) aq) (aJ bZ dD aq))) (aj (aZ bI (cF aH rL) aq (λ_ _=>rfl)) (aj (aJ bZ (aJ cV dD aq) aq) ak)))))) bR)) (au (aW (i:=7) wZ.nd rL (Or.inl rL) (bQ Yr hr.mono rL (aj (cF aH rL) (aj (aZ gA bG (aJ bZ (aJ cV dD aq) (aP b_ qA bH ay (aj bG ak))) (λ_ _=>rfl)) (aj fU (aj bU ak)))))) (aF (cG (QW.qt (wU (bT Ie (aP (acF rL) qA qC kH (aj fU ak)) aq (bO _)) (wU (bT (uy hr.units) gY (bF ak) (bO _)) (wU (bT uo (aP b_ qA bH ay (aj gY ak)) aq (bO _)) (yF (fJ (bQ aiX hr.mono rL (aj aH (aj bh (aj bU (aj gY ak))))))))))) (aF (bC gY)) bR)))))) (aF (bC (bF ak)))) ?_);calc(aK c 24 rL qr (λp ds H1 s1 hp0 hp hdl=>?_));refine(bJ p rL ⟨_,bM.of hp⟩ (nR (K:=K) (a:=p) (xs:=ds.map V.int) (λi σ O=>∃(v5 v6 v7:Option V),σ=[some (.ref b),some (.ref k),some (.ref pw),some (.str (S bB)),some (.int c),v5,v6,v7]/\aB H1 O)
  (yg none none none rL (aB.refl _)) (λi σ O _ h=>?_) ?_ ?_))
 .let⟨_,_,_,_,sm⟩:=h;show bM.of (sm _ _ hp)
 .intro i x σ O hx z;let⟨v5,v6,v7,rfl,sm⟩:=z;rw[ck]at hx;let⟨n,hn,rfl⟩:=dv.mp hx;let s2:=s1.trans sm;let d0:=df (n/64) (show (r:Int)≠0 by lia);let d1:=df (n/640) (show (w:Int)≠0 by lia);let d2:n/6400%2=0\/n/6400%2=1:=qk;calc(aU _ _ rL rL ⟨qr,qr⟩ (cR b C Z _ _ rL (s2 _ _ hb) F.cl F.nr rL (aK pr _ rL (.inr (aQ.of (s2 _ _ J))) (aU _ _ rL rL (by show (0:Int)<_;rw[hrl];lia) (aU _ _ rL rL ⟨qr,qr⟩ (cR b C Z _ _ rL (s2 _ _ hb) F.cl F.nr rL (aY pr _ _ (.str (S l0)) rL rL (aQ.of (s2 _ _ J)) e0 (bJ l0 rL hz0 (aU _ _ rL rL (by show (0:Int)<_;rw[w0];lia) (aU _ _ rL rL ⟨qr,qr⟩ (cT _ _ rL rL (by show (0:Int)<2;decide) (zsz 3) (λpl hpl=>?_))))))))))));rw[hrl,w0];let sP:aB O (upd O pl (HO.tup [V.int (n/64%r),V.int (n/640%w),V.int (n/6400%2)])):=aB.upd hpl;let eP:upd O pl (HO.tup [V.int (n/64%r),V.int (n/640%w),V.int (n/6400%2)]) pl=some (.tup [V.int (n/64%r),V.int (n/640%w),V.int (n/6400%2)]):=aA;generalize upd O pl (HO.tup [V.int (n/64%r),V.int (n/640%w),V.int (n/6400%2)])=H3 at sP eP ⊢;let s3:=s2.trans sP;refine⟨λσ H4=>∃(pl:Addr) (i0 j0 wy:Int),σ=[some (.ref b),some (.ref k),some (.ref pw),some (.str (S bB)),some (.int c),some (.int n),some (.ref pl),v7]/\aB H3 H4/\H4 pl=some (.tup [.int i0,.int j0,.int wy])/\-1<=i0/\0<=j0/\(wy=0\/wy=1),?_,?_⟩
  .calc(dJ b Z _ rL (s3 _ _ hb) rL ⟨b,r,w,aD,aV,bi,bj,rL,BA.mv s3,λH4 Y=>(bf _ rL ?_)⟩);let I:=s3.trans Y;calc iR (λ_=>?_) (λ_=>(gb pl _ _ _ rL Y (Y _ _ eP) qk d1 d2));let d3:n%2=0\/n%2=1:=qk;calc(cR b C Z _ _ rL (I _ _ hb) F.cl F.nb rL (aY pb _ _ (.int bi) rL rL (aQ.of (I _ _ hpb)) (aM (j:=0) rL) (aU _ _ rL rL ⟨qr,qr⟩ (aU _ _ rL rL (by show (0:Int)<2;decide) (aU _ _ rL rL (by show (0:Int)<2;decide) (aU _ _ rL rL (.inl ⟨qk,qk⟩) (aK _ _ rL rL (cR b C Z _ _ rL (I _ _ hb) F.cl F.nb rL (aY pb _ _ (.int bj) rL rL (aQ.of (I _ _ hpb)) (aM (j:=1) rL) (aU _ _ rL rL ⟨qr,qr⟩ (cT _ _ rL rL (by show (0:Int)<2;decide) (zsz 3) (λpl2 alB=>?_))))))))))));calc(gb pl2 _ _ _ rL (Y.trans (aB.upd alB)) aA ?_ qk d2);show -1<=(bi:Int)-n/6400%2*(n%2)
   rcases d2 with e|e <;> rw[e] <;> lia
  intro σ H4 z;let⟨pl,i0,j0,wy,rfl,Y,aiY,i1,j1,Vc⟩:=z;let I:=s3.trans Y;let⟨wv,hwv,hwm⟩:=yG (xs:=Ts ws) (n:=ws.length) (by rw[aa]) w1 (n/12800);let⟨wd,hwd,rfl⟩:=bd.mp hwm;let hwl:(Ts ws).length=ws.length:=aa _;calc(cR b C Z _ _ rL (I _ _ hb) F.cl F.nr rL (aU _ _ rL rL ⟨qr,qr⟩ (aK pw _ rL (.inl (bM.of (I _ _ Nr))) (aU _ _ rL rL (by show (0:Int)<_;rw[hwl];lia) (aY pw _ _ (.str (S wd)) rL rL (bM.of (I _ _ Nr)) (by rw[hwl];show hwv) ⟨pr,pl,bB,wd,i0,j0,wy,r,w,aD,rL,I _ _ J,B.br,r1,r9,w9,Rt wd hwd,aiY,i1,j1,Vc,h63,λt as H5 s5 ht hal hts=>?_⟩)))));let Cd:=I.trans s5;let Cp:aB H1 H5:=((sm.trans sP).trans Y).trans s5;calc(aU pl [i0,j0,wy] rL (aQ.of (s5 _ _ aiY)) (by show 0<3;decide) (λm hm hle=>(aK _ _ rL rL (bf _ rL ?_))));calc iR (λhge=>?_) (λ_=>(yg _ _ _ rL Cp));let hi0:0<=i0:=by let h1:=hle i0 bS;let h2:=dC hge;show Int.le_trans h2 h1
  let⟨ts,hL,fZ,Jw⟩:=hts hi0;let dR:as.length=ts.length:=by rw[<-hL.eq,aa]
  calc⟨zsz 0,λe he=>?_⟩;let G:aB H5 (upd H5 e (HO.tup [])):=aB.upd he;let e6:upd H5 e (HO.tup []) e=some (.tup []):=aA;generalize upd H5 e (HO.tup [])=H6 at G e6 ⊢;let Ew:=Cd.trans G;let uY:=Cp.trans G;calc(dJ 3 (.tup (ts.map dT)) (.tup []) qr (jO.Nu (G _ _ ht) (hL.mv G) (λt h=>(fZ t h).2.2)) (.tup (aQ.of e6) .nil) (bf _ rL ?_));calc iR (λhne=>?_) (λ_=>(yg _ _ _ rL uY));let h0:0<ts.length:=by
   rcases lv ts.length with z|z
   .have:ts=[]:=gT.mp z;subst this;simp at hne
   .show z
  calc(aK t _ rL (.inr (aQ.of (G _ _ ht))) (aK _ _ rL rL (bf _ rL ?_)));calc iR (λh8=>?_) (λ_=>(yg _ _ _ rL uY));let h7:ts.length<=7:=by have:=dC h8;rw[aa]at this;lia
  calc⟨b,k,kd,t,bs,bB,as,ts,r,w,aD,aV,bi,bj,rL,BA.mv Ew,BK.mv Ew,h63,G _ _ ht,hL.mv G,fZ,h0,h7,Jw,λo H7 s7 ho=>(bf _ rL ?_)⟩;calc iR (λhb=>?_) (λ_=>(yg _ _ _ rL (uY.trans s7)));show(q t as ts H7 (Ew.trans s7) (s7 _ _ (G _ _ ht)) ((hL.mv G).mv s7) (.inr ⟨fZ,h0,h7,Jw,ho hb⟩))
 .intro σ O z;let⟨v5,v6,v7,rfl,sm⟩:=z;calc⟨zsz 0,λt ht=>?_⟩;show q t [] [] _ ((s1.trans sm).trans (aB.upd ht)) aA ⟨λa h=>(by cases h),rL⟩ (.inl rL)
theorem Z7:∀{l m bB:List Nat},bB.Perm (l++m)->∃D,zu bB l=some D
 | [],m,bB,_=>⟨bB,rL⟩
 | c::l,m,bB,h=>by let j:c∈bB:=h.mem_iff.mpr qo;unfold zu;rw[if_pos j];let h2:=h.erase c;rw[pk,List.erase_cons_head]at h2;show Z7 h2
def dF (z:Std)(dn:Nat):List Nat:=z.racks.getD (dn%z.racks.length) []
def adk (z:Std)(dn:Nat)(bs:AA):dZ->Prop
 | .lay ts=>abx z.aD z.r z.w z.bi z.bj bs (dF z dn) ts
 | .swap l=>l≠[]/\l.length<=7/\(∀c∈l,o8 c)/\(∃m,qO (dF z dn) l=some m)/\l.length<=z.bag.length
 | .pass=>True
def Kd {z:Std}{dn:Nat}(h:dn%z.racks.length<z.racks.length):dF z dn=z.racks[dn%z.racks.length]:=by unfold dF;rw[aE,ac h];rfl
def Z8 (C CB:Addr):Sp:=λvs H Q _=>∃(pn k kd pw:Addr) (bs ws:AA) (c:Int) (z:Std) (dn ps:Nat) (ov:Bool),vs=[.ref pn,.ref k,.ref pw,.int c]/\oG C H pn z dn ps ov/\lG z/\jd CB H k kd bs/\H pw=some (.lst (Ts ws))/\1<=ws.length/\(∀l∈ws,zf l)/\
 ∀(p:Addr) (d:dZ) (H':Hp),aB H H'->jA H' p d->adk z dn bs d->Q (.ref p) H'
open Classical in
def agW {C CB:Addr}(D:aO K mg "_law_deed" Ms nt)(bH:mg "len"=none)(qC:mg "min"=none)(mO:cA P w K mg base tS 1 n7 tM)(ae1:cA P w K mg base "_law_laying" 17 g8 (adh C CB)):cA P w K mg base "_law_deed" 18 nt (Z8 C CB):=by
 calc D.d8 lD (λf bV A outer s H vs Q E hr h=>?_);let⟨pn,k,kd,pw,bs,ws,c,z,dn,ps,ov,rfl,NA,Z,BK,Nr,w1,Rt,q⟩:=h;let⟨b,pr,pp,hn,hB,hpr,hpp⟩:=NA.ex;let n1:=Z.n1;let hrl:(Ts z.racks).length=z.racks.length:=aa _;let htn:dn%z.racks.length<z.racks.length:=pi _ n1;let Nv:=Kd htn;let⟨k7,kt⟩:=Z.r7 _ (ba htn);rw[<-Nv]at k7 kt;let hz:(dF z dn).length<=sizeLine:=ap (aN qk);let b6:=Z.b6;let Z9:z.bag.length<=sizeLine:=ap (aN qk);calc(aG _ (au (f9 (um aH (qF rL (cJ (bY (i:=4) lD.nd rL (Or.inl rL)) (cJ (bY (i:=5) lD.nd rL (Or.inl rL)) (cJ (bY (i:=6) lD.nd rL (Or.inl rL)) (cJ (bY (i:=7) lD.nd rL (Or.inl rL)) (cJ (bY (i:=8) lD.nd rL (Or.inl rL)) (cJ (bY (i:=9) lD.nd rL (Or.inl rL)) (cJ (bY (i:=10) lD.nd rL (Or.inl rL)) oU)))))))))) (au (aW (i:=11) lD.nd rL (Or.inl rL) (bQ mO hr.mono rL (aj bU (aj aq ak)))) (au (f9 (aW (i:=12) lD.nd rL (Or.inl rL) (aZ bI dD (aJ bZ mQ (aP b_ qA bH ay (aj dD ak))) (λ_ _=>rfl)))) (au (aW (i:=13) lD.nd rL (Or.inl rL) (bF ak)) (au (f9 (cG (bT ajM (aJ bZ (aZ gA oO aq (λ_ _=>rfl)) aq) aq (bO _)) (aF (aW (i:=13) lD.nd rL (Or.inl rL) (bQ ae1 hr.mono rL (aj cQ (aj bh (aj bG (aj rQ (aj (aZ gA oO aq (λ_ _=>rfl)) ak)))))))) bR)) (au (cG (bT (uy hr.units) (qv 13) (bF ak) (bO _)) (aF (bC (bF (aj (bA [108,97,121] qS) (aj (qv 13) ak))))) bR) (au (aW (i:=14) lD.nd rL (Or.inl rL) (aJ dh aq (aJ bZ (aZ gA oO aq (λ_ _=>rfl)) aq))) (au (cG (QW.qt (pI (bT iC (aJ bZ (aZ gA oO aq (λ_ _=>rfl)) aq) aq (bO _)) (m8 (bT uo (aP (Qx rL) qA qC kH (aj (aP dw qA bH ay (aj rQ ak)) (aj (aP dw qA bH ay (aj fU ak)) ak))) (qv 14) (bO _))))) (aF (bC (bF (aj (bA [112,97,115,115] qS) ak)))) bR) (au (aW (i:=15) lD.nd rL (Or.inl rL) (aJ bZ (aJ cV (aZ gA oO aq (λ_ _=>rfl)) aq) (aP dw qA bH ay (aj rQ ak)))) (aF (bC (bF (aj (bA [115,119,97,112] qS) (aj (dj qm (aJ jt (dj qm rQ (dM (qv 15)) eO) (dj qm rQ eO (dM (qv 15)))) eO (dM (qv 14))) ak)))))))))))))) ?_);calc(aG (λσ H1=>H=H1/\σ=[some (.ref pn),some (.ref k),some (.ref pw),some (.int c),some (.ref b),some (.ref pr),some (.str (S z.bag)),some (.ref pp),some (.int dn),some (.int ps),some (.bl ov),none,none,none,none,none]) (aU pn _ rL (aQ.of hn) rL (dW _ _ rL (dW _ _ rL (dW _ _ rL (dW _ _ rL (dW _ _ rL (dW _ _ rL (aU _ _ rL rL rL rL)))))))) ?_);rintro σ H1 ⟨eH,rfl⟩;subst eH;refine(aK c 3 rL qr (λY ds H1 s1 hp0 hp hdl=>?_))
 match ds,hdl with
 | [x,y,u],_=>
  let emod:(dn:Int)%((Ts z.racks).length:Int)=((dn%z.racks.length:Nat):Int):=by rw[hrl];lia
  calc(aG (λσ H2=>H1=H2/\σ=[some (.ref pn),some (.ref k),some (.ref pw),some (.int c),some (.ref b),some (.ref pr),some (.str (S z.bag)),some (.ref pp),some (.int dn),some (.int ps),some (.bl ov),some (.ref Y),some (.str (S (dF z dn))),none,none,none]) (aK pr _ rL (.inr (aQ.of (s1 _ _ hpr))) (aU _ _ rL rL (by show (0:Int)<_;rw[hrl];lia) (gb pr _ _ (.str (S (dF z dn))) rL rL (aQ.of (s1 _ _ hpr)) (by rw[emod,Nv];show aM (lE (ac htn))) rL rL))) ?_);rintro σ H2 ⟨eH,rfl⟩;subst eH;calc⟨zsz 0,λe he=>?_⟩;let s2:aB H1 (upd H1 e (HO.tup [])):=aB.upd he;let e2:upd H1 e (HO.tup []) e=some (.tup (([]:List Addr).map V.ref)):=aA;generalize upd H1 e (HO.tup [])=H2 at s2 e2 ⊢;let d7:=s1.trans s2;let I:=s2 _ _ hp;refine⟨λσ G=>∃(t:Addr) (as:List Addr) (ts:List cu),σ=[some (.ref pn),some (.ref k),some (.ref pw),some (.int c),some (.ref b),some (.ref pr),some (.str (S z.bag)),some (.ref pp),some (.int dn),some (.int ps),some (.bl ov),some (.ref Y),some (.str (S (dF z dn))),some (.ref t),none,none]/\aB H2 G/\G t=some (.tup (as.map V.ref))/\fW G as ts/\(ts=[]\/abx z.aD z.r z.w z.bi z.bj bs (dF z dn) ts),?_,?_⟩
  .calc(aY Y _ _ (.int x) rL rL (bM.of I) (aM (j:=0) rL) (aU _ _ rL rL (by show (0:Int)<8;decide) (aK _ _ rL rL (bf _ rL ?_))));calc iR (λ_=>?_) (λ_=>(gH e [] [] rL (aB.refl _) e2 ⟨λa h=>(by cases h),rL⟩ (.inl rL)));show(aY Y _ _ (.int y) rL rL (bM.of I) (aM (j:=1) rL) ⟨b,k,kd,pw,bs,ws,dF z dn,y,z.r,z.w,z.aD,z.aV,z.bi,z.bj,rL,hB.mv d7,BK.mv d7,d7 _ _ Nr,w1,Rt,qk,λt as ts G s3 ht hL ho=>(gH t as ts rL s3 ht hL ho)⟩)
  intro σ G z;let⟨t,as,ts,rfl,s3,ht,hL,ho⟩:=z;let gQ:=d7.trans s3;let hp3:=s3 _ _ I;calc⟨zsz 0,λe' he'=>?_⟩;let J:aB G (upd G e' (HO.tup [])):=aB.upd he';let e4:upd G e' (HO.tup []) e'=some (.tup []):=aA;generalize upd G e' (HO.tup [])=H4 at J e4 ⊢;let i_:=gQ.trans J;let O:=J _ _ hp3;let hsg:∀t∈ts,rH t.2.2:=by
   rcases ho with h|h;.subst h;intro t h;cases h
   .show λt ht=>(h.jL t ht).2.2
  calc(dJ 3 (.tup (ts.map dT)) (.tup []) qr (jO.Nu (J _ _ ht) (hL.mv J) hsg) (.tup (aQ.of e4) .nil) (bf _ rL ?_));refine iR (λhne=>?_) (λ_=>?_)
  .rcases ho with h|h;.subst h;simp at hne
   calc⟨zsz 2,λp hp=>?_⟩;let sp:=aB.upd hp (o:=HO.tup [V.str (S [108,97,121]),V.ref t]);show q p (.lay ts) _ (i_.trans sp) (aK t as aA (sp _ _ (J _ _ ht)) ((hL.mv J).mv sp)) h
  calc(aY Y _ _ (.int u) rL rL (bM.of O) (aM (j:=2) rL) (aU _ _ rL rL (by show (0:Int)<7;decide) (aK _ _ rL rL ?_)));let pass:1<=sizeLine/\∀p,H4 p=none->Q (.ref p) (upd H4 p (HO.tup [V.str (S [112,97,115,115])])):=⟨zsz 1,λp hp=>q p .pass _ (i_.trans (aB.upd hp)) aA True.intro⟩
  calc(aY Y _ _ (.int x) rL rL (bM.of O) (aM (j:=0) rL) (cT _ _ rL rL (by show (0:Int)<8;decide) rL (bf _ rL ?_)));calc iR (λ_=>pass) (λ_=>?_);calc(bJ (dF z dn) rL hz (bJ z.bag rL Z9 (dW _ _ rL (aK _ _ rL rL (bf _ rL ?_)))));calc iR (λ_=>pass) (λhm=>?_);let hm:=ie (ki.mpr hm);obtain⟨F,afR⟩:∃F:Nat,1+u%7=(F:Int):=⟨(1+u%7).toNat,qk⟩
  let m1:1<=F:=qk;let m7:F<=7:=qk;let mr:F<=(dF z dn).length/\F<=z.bag.length:=by let hm:¬((if (z.bag.length:Int)<((dF z dn).length:Int) then (z.bag.length:Int) else ((dF z dn).length:Int))<1+u%7):=hm;rw[afR]at hm;split at hm <;> lia
  let hpos:(0:Int)<((dF z dn).length:Int):=qk;obtain⟨B,hBy⟩:∃B:Nat,u/7%((dF z dn).length:Int)=(B:Int):=⟨(u/7%((dF z dn).length:Int)).toNat,by have:=df (u/7) (show ((dF z dn).length:Int)≠0 by lia);lia⟩
  calc(aY Y _ _ (.int u) rL rL (bM.of O) (aM (j:=2) rL) (aU _ _ rL rL ⟨qr,qr⟩ (bJ (dF z dn) rL hz (aU _ _ rL rL hpos ?_))));calc(aG _ rL (bJ (dF z dn) rL hz (aG _ rL (bJ (dF z dn) rL hz (aU _ _ rL rL ?_ (aG _ rL (iU _ rL ?_ (zsz 2) (λp hp=>?_))))))));.rw[hBy,iH,j9,aS,av];show ap (aN qk)
  .rw[hBy,iH,j9,am,aS,av];show ap (aN qk)
  let ec:iY (iY (dF z dn) (some (u/7%((dF z dn).length:Int))) none++iY (dF z dn) none (some (u/7%((dF z dn).length:Int)))) none (some (1+u%7))=((dF z dn).drop B++(dF z dn).take B).take F:=by rw[hBy,iH,j9,afR,j9]
  let pe:(dF z dn).Perm (((dF z dn).drop B++(dF z dn).take B).take F++((dF z dn).drop B++(dF z dn).take B).drop F):=by rw[kA];calc List.Perm.trans ?_ List.perm_append_comm;rw[kA]
  let⟨m,hrm⟩:=Z7 pe;let dR:(((dF z dn).drop B++(dF z dn).take B).take F).length=F:=by rw[av,am,aS,av];lia
  let htl:∀c∈((dF z dn).drop B++(dF z dn).take B).take F,o8 c:=λc hc=>kt c (by
   rcases be.mp (cf hc) with z|z;.show c_ z
   .show cf z)
  let sp:=aB.upd hp (o:=HO.tup [V.str (S [115,119,97,112]),V.str (S (iY (iY (dF z dn) (some (u/7%((dF z dn).length:Int))) none++iY (dF z dn) none (some (u/7%((dF z dn).length:Int)))) none (some (1+u%7))))]);refine q p (.swap (((dF z dn).drop B++(dF z dn).take B).take F)) _ (i_.trans sp) ?_ ⟨λz=>?_,qk,htl,⟨m,?_⟩,qk⟩
  .show upd H4 p _ p=_;rw[aA,<-ec];rfl
  .rw[z]at dR;simp at dR;lia
  .rw[<-Tj,Pq htl];show hrm
def Z_ (ps:Nat):dZ->Nat
 | .pass=>ps+1
 | _=>0
noncomputable def ovN (z z':Std)(ps dn:Nat):dZ->Bool
 | .pass=>decide (2*z.racks.length<=ps+1)
 | .swap _=>false
 | .lay _=>decide (dF z' dn=[])&&decide (z'.bag=[])
def Rv {d:dZ}:d.name=fG↔d=.pass:=by
 cases d with| lay ts=>show⟨λh=>absurd h (show ¬gK=fG by decide),λh=>nomatch h⟩| swap l=>show⟨λh=>absurd h (show ¬dO=fG by decide),λh=>nomatch h⟩| pass=>show⟨λ_=>rfl,λ_=>rfl⟩
def agX {c:Nat}(h:rH c):tV [V.str (S [c]),V.str (S [63])] (if (!decide ([PyProof.Rows.lo1 c]=[c]))=true then 1 else 0)=some (.str (S [iD c])):=by
 unfold rH uJ uI vo at h;simp at h;unfold iD PyProof.Rows.lo1;by_cases j:65<=c/\c<=90
 .rw[if_pos j,if_pos j];have:¬[c+32]=[c]:=λz=>by simp at z
  rw[af this];rfl
 .rw[if_neg j,if_neg j,ai rfl];rfl
def akp (n k:Nat):(if (n:Int)-(k:Int) > 0 then (n:Int)-(k:Int) else 0)=((n-k:Nat):Int):=by split <;> lia
def adl (C:Addr):Sp:=λvs H Q _=>∃(pn p pw pd:Addr) (z z':Std) (dn ps:Nat) (ov:Bool) (Z:Wo) (G:Gm) (d:dZ) (pt:Int),vs=[.ref pn,.ref p,.ref pd]/\oG C H pn z dn ps ov/\lG z/\Af C H p pw Z/\abu Z/\jA H pd d/\G.done.length=dn/\G.kvs=Z.kvs/\G.bn=Z.bn/\G.bm=Z.bm/\G.size=Z.size/\Does G z d pt z'/\
 ∀(t j:Addr) (H':Hp),aB H H'->H' t=some (.tup [.int pt,.ref j])->oG C H' j z' (dn+1) (Z_ ps d) (ovN z z' ps dn d)->Q (.ref t) H'
def Nx {c:Nat}(h:o8 c):c<128:=by
 rcases h with e|e;.have:=e.2;lia
 .lia
open Classical in
def agY {C f1:Addr}{fB:FuncData}(D:aO K mg "_law_next" Mt oa)(bH:mg "len"=none)(iQ:mg "list"=none)(jo:mg "sorted"=none)(qy:mg "int"=none)(Ab:mg "max"=none)(cM:iJ K C)(mF:Meth K C "laid" f1)(mG:cU P w K mg base eV 8 f1 fB pu (FZ C))(mH:cD K fB pu [])(agZ:cA P w K mg base ue 1 fv ZX)(ae2:cA P w K mg base ue 1 fv Wj)(Bf:cA P w K mg base "points_of" 11 oA (abm C)):cA P w K mg base "_law_next" 12 oa (adl C):=by
 calc D.d8 iT (λf bV A outer s H vs Q E hr h=>?_);let⟨pn,p,pw,pd,z,z',dn,ps,ov,Z,G,d,pt,rfl,NA,Zk,PA,PO,hd,hdn,ek,en,em,ez,hdo,q⟩:=h;let⟨b,pr,pp,hn,hB,I,hpp⟩:=NA.ex;let⟨b0,dk,pb,prr,hp,hB0,hdk,hpb,alU⟩:=PA.ex;let⟨nxs,hnm⟩:=ZP hd;let n1:=Zk.n1;let n4:=Zk.n4;let Y:(Ts z.racks).length=z.racks.length:=aa _;let F:dn%z.racks.length<z.racks.length:=pi _ n1;let Nv:=Kd F;let⟨k7,kt⟩:=Zk.r7 _ (ba F);rw[<-Nv]at k7 kt;let b6:=Zk.b6;let Z9:z.bag.length<=sizeLine:=ap (aN qk);let etn:iy G z=dn%z.racks.length:=by unfold iy;rw[hdn]
 let emod:(dn:Int)%((Ts z.racks).length:Int)=((dn%z.racks.length:Nat):Int):=by rw[Y];lia
 let eat:tV (Ts z.racks) ((dn:Int)%((Ts z.racks).length:Int))=some (.str (S (dF z dn))):=by rw[emod,Nv];show aM (lE (ac F))
 calc(aG _ (au (f9 (um aH (qF rL (cJ (bY (i:=3) iT.nd rL (Or.inl rL)) (cJ (bY (i:=4) iT.nd rL (Or.inl rL)) (cJ (bY (i:=5) iT.nd rL (Or.inl rL)) (cJ (bY (i:=6) iT.nd rL (Or.inl rL)) (cJ (bY (i:=7) iT.nd rL (Or.inl rL)) (cJ (bY (i:=8) iT.nd rL (Or.inl rL)) (cJ (bY (i:=9) iT.nd rL (Or.inl rL)) oU)))))))))) (au (f9 (aW (i:=10) iT.nd rL (Or.inl rL) (aJ bZ gY (aP b_ qA bH ay (aj cQ ak))))) (au (aW (i:=11) iT.nd rL (Or.inl rL) aq) (au (cG (bT kY (aZ bI bG aq (λ_ _=>rfl)) (bA [112,97,115,115] qS) (bO _)) (aF (bC (bF (aj aq (aj (bF (aj bU (aj cQ (aj dD (aj fU (aj (aJ dh gY aq) (aj (aJ dh mQ aq) (aj (gq Ie (aJ dh mQ aq) (aJ jN aq (aP b_ qA bH ay (aj cQ ak))) (bO _)) ak)))))))) ak))))) bR) (au (f9 (cG (bT kY (aZ bI bG aq (λ_ _=>rfl)) (bA [115,119,97,112] qS) (bO _)) (au (aW (i:=12) iT.nd rL (Or.inl rL) (aJ yN (bQ agZ hr.mono rL (aj (aZ bI cQ jz (λ_ _=>rfl)) (aj (aZ bI bG aq (λ_ _=>rfl)) ak))) (fY (nq rL) qA iQ fg (aj (dj qm dD eO (dM (aP dw qA bH ay (aj (aZ bI bG aq (λ_ _=>rfl)) ak)))) ak)))) (aF (aW (i:=5) iT.nd rL (Or.inl rL) (aJ jt (dj qm dD (dM (aP dw qA bH ay (aj (aZ bI bG aq (λ_ _=>rfl)) ak))) eO) (gG bv cE cK oR (bA [] qS) (aj (aP (xH rL) qA jo gd (aj (aZ bI bG aq (λ_ _=>rfl)) ak)) ak)))))) (au (aW (i:=11) iT.nd rL (Or.inl rL) (bQ Bf hr.mono rL (aj bU (aj (aZ bI bh aq (λ_ _=>rfl)) (aj (aZ bI bh aq (λ_ _=>rfl)) (aj (aZ bI bG aq (λ_ _=>rfl)) ak)))))) (au (aW (i:=12) iT.nd rL (Or.inl rL) (bQ ae2 hr.mono rL (aj (aZ bI cQ jz (λ_ _=>rfl)) (aj (lY (ns:=["_law_row","_law_column","_law_sign"]) rL (kh.of fy [] qB) (jh (aZ bI bG aq (λ_ _=>rfl))) (λ_ _ _ _ _=>(qU K rL (show (["_law_row","_law_column","_law_sign","_law_now","_law_parts_here","_law_deed_here","_law_board","_law_racks","_law_bag","_law_sums","_law_done","_law_passed","_law_over","_law_here","_law_points","_law_left","_law_drawn"]:List Str).Nodup by decide +kernel) rL rL rL qA qA qA)) (λ_ _ _ _ _=>fO) (λ_ _ _ _ _=>(aZ (aeb K) (g_ (aj bG (aj (bA [63] qS) ak))) (fY Qy qA qy kz (aj (gq Lx (agr K bv mi ml Ul bG) bG (bO _)) ak)) (λ_ _=>rfl)))) ak)))) (au (f9 (aW (i:=13) iT.nd rL (Or.inl rL) (dj qm dD eO (dM (aP (Qw rL) qA Ab PyProof.Rows.boot_max (aj aq (aj (aJ ni (aZ bI bh aq (λ_ _=>rfl)) (aP b_ qA bH ay (aj rQ ak))) ak))))))) (au (aW (i:=12) iT.nd rL (Or.inl rL) (aJ yN rQ (fY (nq rL) qA iQ fg (aj (qv 13) ak)))) (au (aW (i:=5) iT.nd rL (Or.inl rL) (dj qm dD (dM (aP dw qA bH ay (aj (qv 13) ak))) eO)) (aF (aW (i:=3) iT.nd rL (Or.inl rL) (qT bU cM.cl mF mG hr.mono mH .nil gM (aj (aZ bI bG aq (λ_ _=>rfl)) ak))))))))))) (au (aW (i:=4) iT.nd rL (Or.inl rL) (aJ yH (aJ yH (dj yI cQ eO (dM jz)) (bF (aj (gG bv cE cK oR (bA [] qS) (aj (aP Fl qA jo gd (aj rQ ak)) ak)) ak))) (dj yI cQ (dM (aJ dh jz aq)) eO))) (au (aW (i:=6) iT.nd rL (Or.inl rL) (aJ yH (aJ yH (dj yI fU eO (dM jz)) (bF (aj (aJ dh (aZ bI fU jz (λ_ _=>rfl)) oO) ak))) (dj yI fU (dM (aJ dh jz aq)) eO))) (aF (bC (bF (aj oO (aj (bF (aj bU (aj cQ (aj dD (aj fU (aj (aJ dh gY aq) (aj aq (aj (lO (gq kY (aZ bI bG aq (λ_ _=>rfl)) (bA [108,97,121] qS) (bO _)) (lO (gq (BL hr.units) rQ (g_ ak) (bO _)) (kI (gq kY dD (bA [] qS) (bO _))))) ak)))))))) ak)))))))))))) ?_);calc(aG (λσ H1=>H=H1/\σ=[some (.ref pn),some (.ref p),some (.ref pd),some (.ref b),some (.ref pr),some (.str (S z.bag)),some (.ref pp),some (.int dn),some (.int ps),some (.bl ov),none,none,none,none]) (aU pn _ rL (aQ.of hn) rL (dW _ _ rL (dW _ _ rL (dW _ _ rL (dW _ _ rL (dW _ _ rL (dW _ _ rL (aU _ _ rL rL rL rL)))))))) ?_);rintro σ H1 ⟨eH,rfl⟩;subst eH;calc(aG (λσ H2=>H=H2/\σ=[some (.ref pn),some (.ref p),some (.ref pd),some (.ref b),some (.ref pr),some (.str (S z.bag)),some (.ref pp),some (.int dn),some (.int ps),some (.bl ov),some (.int ((dn:Int)%((Ts z.racks).length:Int))),none,none,none]) (aK pr _ rL (.inr (aQ.of I)) (cT _ _ rL rL (by show (0:Int)<_;rw[Y];lia) rL rL)) ?_);rintro σ H2 ⟨eH,rfl⟩;subst eH;calc(aY pd _ _ (.str (S d.name)) rL rL (aQ.of hnm) (aM (j:=0) rL) (aK d.name fG rL rL (bf _ rL ?_)));by_cases O:d=.pass
 .subst O;rw[ai (show dZ.name .pass=fG from rL)];cases hdo;let eo:decide ((ps:Int)+1>=2*((Ts z.racks).length:Int))=decide (2*z.racks.length<=ps+1):=Ja (by rw[Y];lia);calc cH (aK _ _ rL rL (aK _ _ rL rL (aK _ _ rL rL (aK pr _ rL (.inr (aQ.of I)) (aU _ _ rL rL (.inl ⟨qr,qr⟩) (aU _ _ rL rL (zsz 7) (λp' hp'=>⟨zsz 2,λt ht=>?_⟩)))))));let s1:=aB.upd hp' (o:=HO.tup [V.ref b,V.ref pr,V.str (S z.bag),V.ref pp,V.int ((dn:Int)+1),V.int ((ps:Int)+1),V.bl (decide ((ps:Int)+1>=2*((Ts z.racks).length:Int)))]);let s2:=aB.upd ht (o:=HO.tup [V.int 0,V.ref p']);calc q t p' _ (s1.trans s2) aA ⟨b,pr,pp,s2 _ _ ?_,(hB.mv s1).mv s2,s2 _ _ (s1 _ _ I),s2 _ _ (s1 _ _ hpp)⟩;calc aA.trans ?_;show some (HO.tup [V.ref b,V.ref pr,V.str (S z.bag),V.ref pp,V.int ((dn:Int)+1),V.int ((ps:Int)+1),V.bl (decide ((ps:Int)+1>=2*((Ts z.racks).length:Int)))])=_;rw[eo];rfl
 rw[af λe=>O (Rv.mp e)];refine cI ⟨λσ H5=>∃(b' N:Addr) (us:List Nat) (v13:Option V),σ=[some (.ref pn),some (.ref p),some (.ref pd),some (.ref b'),some (.ref pr),some (.str (S z'.bag)),some (.ref pp),some (.int dn),some (.int ps),some (.bl ov),some (.int ((dn:Int)%((Ts z.racks).length:Int))),some (.int pt),some (.ref N),v13]/\aB H H5/\dN C H5 b' z'.r z'.w z'.aD z'.aV z'.bi z'.bj/\H5 N=some (.lst (Ts (us.map λc=>[c])))/\us.length<=60/\(∀c∈us,c<128)/\z'.racks=z.racks.set (dn%z.racks.length) (fu us)/\z'.jX=z.jX.set (dn%z.racks.length) (z.jX.getD (dn%z.racks.length) 0+pt),?_,?_⟩
 .calc(aY pd _ _ (.str (S d.name)) rL rL (aQ.of hnm) (aM (j:=0) rL) (aK d.name dO rL rL (bf _ rL ?_)));cases hdo with
  | @swap l m ne h7 tl lf hb=>
   rw[ai (show dZ.name (.swap l)=dO from rL)];let hd:H pd=some (.tup [.str (S dO),.str (S l)]):=hd;let z_:l.length<=sizeLine:=ap (aN qk);rw[etn]at lf;let hrm:zu (dF z dn) l=some m:=by rw[<-Pq tl,Tj];show lf
   let hml:=Wi hrm;calc cH (aY pr _ _ (.str (S (dF z dn))) rL rL (aQ.of I) eat (aY pd _ _ (.str (S l)) rL rL (aQ.of hd) (aM (j:=1) rL) (gH (dF z dn) l m rL qk qk hrm (λLf H1 s1 fLf hLf=>?_))));calc(aY pd _ _ (.str (S l)) rL rL (aQ.of (s1 _ _ hd)) (aM (j:=1) rL) (bJ l rL z_ (aG _ rL (bJ z.bag rL Z9 (bJ (z.bag.take l.length) (by rw[j9]) (by rw[av];lia) (λM hM=>?_))))));let s2:=aB.upd hM (o:=HO.lst (Ts ((z.bag.take l.length).map λc=>[c])));let e2:upd H1 M (HO.lst (Ts ((z.bag.take l.length).map λc=>[c]))) M=some (.lst (Ts ((z.bag.take l.length).map λc=>[c]))):=aA;generalize upd H1 M (HO.lst (Ts ((z.bag.take l.length).map λc=>[c])))=H2 at s2 e2 ⊢;calc(gb Lf M _ _ rL rL (s2 _ _ hLf) e2 ?_ (λN hN=>?_));.rw[aa,aa,aa,aa,av];show ap (aN qk)
   let s3:=aB.upd hN (o:=HO.lst (Ts (m.map λc=>[c])++Ts ((z.bag.take l.length).map λc=>[c])));let e3:upd H2 N (HO.lst (Ts (m.map λc=>[c])++Ts ((z.bag.take l.length).map λc=>[c]))) N=some (.lst (Ts ((m++z.bag.take l.length).map λc=>[c]))):=by rw[aA];simp[Ts]
   generalize upd H2 N (HO.lst (Ts (m.map λc=>[c])++Ts ((z.bag.take l.length).map λc=>[c])))=H3 at s3 e3 ⊢;let gQ:=(s1.trans s2).trans s3;calc(aY pd _ _ (.str (S l)) rL rL (aQ.of (gQ _ _ hd)) (aM (j:=1) rL) (bJ l rL z_ (aG _ rL (iU z.bag rL Z9 rL (aY pd _ _ (.str (S l)) rL rL (aQ.of (gQ _ _ hd)) (aM (j:=1) rL) (bJ l rL qk (λp2 us hp2 pm pw2=>?_)))))));let s4:=aB.upd hp2 (o:=HO.lst (Ts (us.map λc=>[c])));calc(cT p2 (us.map λc=>[c]) rL rL (bM.of aA) ?_ ?_);.rw[jV,pm.length_eq];lia
   rw[zj (pm.map λc=>[c]) pw2];calc(aU _ (fu l) rL rL ?_ ?_);.rw[iH,aS,j_];show ap (aN qk)
   calc(lU b N (m++z.bag.take l.length) none ?_ (gQ.trans s4) ((hB.mv gQ).mv s4) (s4 _ _ e3) ?_ (λc hc=>?_) ?_ ?_);.rw[iH];rfl
   .rw[am,av];lia
   .rcases be.mp hc with y|y;.show Nx (kt c (vP lf c y))
    .show Nx (Zk.bt c (cf y))
   .show z.racks.set _ _=_;rw[etn,ac3 (List.Perm.append (iK m) (List.Perm.refl _))]
   .show z.jX=_;rw[Int.add_zero];let hip:dn%z.racks.length<z.jX.length:=by rw[Zk.pl];show F
    rw[aE,ac hip,Option.getD_some,List.set_getElem_self]
  | @lay ts l jL h0 h7 ri vd lf=>
   rw[af (show ¬dZ.name (.lay ts)=dO from (show ¬gK=dO by decide))];let⟨t,as,hd,ht,hL⟩:=hd;let hl1:=O8 hB.ok.w9 jL h0 ri (ZM vd);let hal:=hL.len;rw[etn]at lf;calc cI (aY p _ _ (.ref dk) rL rL (aQ.of hp) (aM (j:=2) rL) (aY p _ _ (.ref pb) rL rL (aQ.of hp) (aM (j:=3) rL) (aY pd _ _ (.ref t) rL rL (aQ.of hd) (aM (j:=1) rL) ⟨b,dk,pb,t,Z.kvs,Z.bn,Z.bm,as,ts,z.r,z.w,z.aD,z.aV,z.bi,z.bj,rL,hB,Rd.of hdk,PO.wd,PO.wb,hpb,ht,hL,jL,h0,h7,hl1,λH1 s1=>?_⟩)));refine(aY pr _ _ (.str (S (dF z dn))) rL rL (aQ.of (s1 _ _ I)) eat (aY pd _ _ (.ref t) rL rL (aQ.of (s1 _ _ hd)) (aM (j:=1) rL) (bJ t rL ⟨_,aQ.of (s1 _ _ ht)⟩ (λN hN=>lR (K:=K) (KT:=K) (a:=t) (f:=kE [] 0) (tt:=nY) (xs:=as.map V.ref) (λn ys H6=>ys=Ts (ones ((ts.take n).map λt=>iD t.2.2))/\H6 N=some (.lst ys)/\aB H1 H6)
    (cj rL aA (aB.upd hN)) (λn ys H6 _ h=>aQ.of (h.2.2 _ _ (s1 _ _ ht))) ?_ ?_))))
   .intro n x ys H6 hx z;let⟨rfl,vp,t_⟩:=z;let hn':n<as.length:=by have:=(ah.mp hx).1;simpa using this
    let hnt:n<ts.length:=qk;rw[ck,ac hn']at hx;let hx:V.ref as[n]=x:=bq hx;let⟨_,ent⟩:=lg (hL.mv (s1.trans t_)) hnt;let hsg:=(jL _ (ba hnt)).2.2;calc yc hx.symm (aQ.of ent) ?_;calc⟨zsz 2,λM hM=>?_⟩;let s7:=aB.upd hM (o:=HO.lst [V.str (S [ts[n].2.2]),V.str (S [63])]);calc⟨rL,nu [ts[n].2.2] rL rL (by show 1<=1000;decide) (λc hc=>by rw[bc.mp hc];show hsg.lt) (aK [PyProof.Rows.lo1 ts[n].2.2] [ts[n].2.2] rL rL (.inr (aG _ rL (S5 M _ _ (.str (S [iD ts[n].2.2])) rL rL (bM.of aA) (agX hsg) (s7 _ _ vp) ?_ (iV.mk (by rw[aa];show hn') (cj ?_ aA ((t_.trans s7).eE hN)))))))⟩;.rw[aa,aa,aa,av];show aN qk
    .rw[show ts.take (n+1)=ts.take n++[ts[n]] by rw[c8,ac hnt];rfl];simp only[Ts,ones,bP];rfl
   intro ys H6 z;let⟨rfl,vp,t_⟩:=z;rw[aa,hal,cw]at vp;let hrm:zu (dF z dn) (ts.map λt=>iD t.2.2)=some l:=by rw[show (ts.map λt=>iD t.2.2)=(ts.map (·.2.2)).map iD by rw[gc];rfl,Tj];show lf
   let hll:=Wi hrm;let Ew:=s1.trans t_;calc(gb (dF z dn) (ts.map (λt=>iD t.2.2)) l N rL vp qk (by rw[aa];lia) hrm (λLf H7 s7 fLf hLf=>?_));let Nh:=Ew.trans s7;let hLl:(Ts (l.map λc=>[c])).length=l.length:=by rw[aa,aa]
   let alC:iY z.bag none (some (if (Z.size:Int)-((Ts (l.map λc=>[c])).length:Int) > 0 then (Z.size:Int)-((Ts (l.map λc=>[c])).length:Int) else 0))=z.bag.take (Z.size-l.length):=by rw[hLl,akp,j9]
   calc(aG (λσ H8=>H7=H8/\σ=[some (.ref pn),some (.ref p),some (.ref pd),some (.ref b),some (.ref pr),some (.str (S z.bag)),some (.ref pp),some (.int dn),some (.int ps),some (.bl ov),some (.int ((dn:Int)%((Ts z.racks).length:Int))),some (.int (abl z.aD z.aV Z.kvs ts Z.bn Z.bm)),some (.ref Lf),some (.str (S (z.bag.take (Z.size-l.length))))]) (aY p _ _ (.int Z.size) rL rL (aQ.of (Nh _ _ hp)) (aM (j:=4) rL) (aK Lf _ rL (.inl (bM.of hLf)) (aK _ _ rL rL (dW _ _ rL (aG _ rL (iU z.bag rL Z9 rL (by rw[<-alC];rfl))))))) ?_);rintro σ H7' ⟨eH,rfl⟩;subst eH;let htk:(z.bag.take (Z.size-l.length)).length<=7:=by rw[av];have:=PO.s7;lia
   calc(bJ (z.bag.take (Z.size-l.length)) rL qk (λM hM=>?_));let s8:=aB.upd hM (o:=HO.lst (Ts ((z.bag.take (Z.size-l.length)).map λc=>[c])));let e8:upd H7 M (HO.lst (Ts ((z.bag.take (Z.size-l.length)).map λc=>[c]))) M=some (.lst (Ts ((z.bag.take (Z.size-l.length)).map λc=>[c]))):=aA;generalize upd H7 M (HO.lst (Ts ((z.bag.take (Z.size-l.length)).map λc=>[c])))=H8 at s8 e8 ⊢;calc(gb Lf M _ _ rL rL (s8 _ _ hLf) e8 ?_ (λN2 hN2=>?_));.rw[aa,aa,aa,aa];show ap (aN qk)
   let s9:=aB.upd hN2 (o:=HO.lst (Ts (l.map λc=>[c])++Ts ((z.bag.take (Z.size-l.length)).map λc=>[c])));let e9:upd H8 N2 (HO.lst (Ts (l.map λc=>[c])++Ts ((z.bag.take (Z.size-l.length)).map λc=>[c]))) N2=some (.lst (Ts ((l++z.bag.take (Z.size-l.length)).map λc=>[c]))):=by rw[aA];simp[Ts]
   generalize upd H8 N2 (HO.lst (Ts (l.map λc=>[c])++Ts ((z.bag.take (Z.size-l.length)).map λc=>[c])))=H9 at s9 e9 ⊢;let J:=(Nh.trans s8).trans s9;let⟨bx,_,_,_,hbx,_⟩:=(hB.mv J).ex;calc(bJ (z.bag.take (Z.size-l.length)) rL (ap (aN qk)) (aG _ rL (bJ z.bag rL Z9 ?_)));calc(dJ b bx _ rL hbx rL (aY pd _ _ (.ref t) rL rL (aQ.of (J _ _ hd)) (aM (j:=1) rL) (Fw b t as ts z.r z.w z.aD z.aV z.bi z.bj rL (hB.mv J) (J _ _ ht) (hL.mv J) jL (λb' HA sA hb'=>?_))));let alD:iY z.bag (some ((z.bag.take (Z.size-l.length)).length:Int)) none=z.bag.drop (Z.size-l.length):=by
    rw[iH,av];by_cases hh:Z.size-l.length<=z.bag.length;.rw[fS hh]
    .rw[kL qk,ib (ax _),ib qk]
   refine(lU b' N2 (l++z.bag.take (Z.size-l.length)) (some (.str (S (z.bag.take (Z.size-l.length))))) ?_ (J.trans sA) hb' (sA _ _ e9) ?_ (λc hc=>?_) ?_ ?_)
   .rw[alD,ek,en,em];show _=[_,_,_,_,_,some (V.str (S (z.bag.drop (G.size-(fu l).length)))),_,_,_,_,_,_,_,_]
    rw[j_,ez];rfl
   .rw[am];lia
   .rcases be.mp hc with y|y;.show Nx (kt c (vP lf c y))
    .show Nx (Zk.bt c (cf y))
   .show z.racks.set _ (fu (fu l++z.bag.take (G.size-(fu l).length)))=_;rw[etn,j_,ez,ac3 (List.Perm.append (iK l) (List.Perm.refl _))]
   .show z.jX.set _ _=_;rw[etn]
  | pass=>show absurd rL O
 .intro σ H5 z;let⟨b',N,us,v13,rfl,s5,hb5,uM,Gg,akq,aiZ,alE⟩:=z;rw[emod];let ai0:=s5 _ _ I;calc(aG _ rL (aK pr _ rL ai0 (λp1 H6 s6 h6=>?_)));let hi:dn%z.racks.length<(Ts z.racks).length:=by rw[Y];show F
  rw[show jy (Ts z.racks) none (some ((dn%z.racks.length:Nat):Int))=(Ts z.racks).take (dn%z.racks.length) from Pa qk]at h6;calc⟨rL,aU N (us.map λc=>[c]) rL (bM.of (s6 _ _ uM)) (by rw[aa];lia) (λq2 w6 hq2 pm pw2=>?_)⟩;let s7:=aB.upd hq2 (o:=HO.lst (Ts w6));calc(cT q2 w6 rL rL (bM.of aA) ?_ ?_);.rw[zj pm pw2,j_];lia
  rw[zj pm pw2];generalize upd H6 q2 (HO.lst (Ts w6))=H7 at s7 ⊢;calc⟨zsz 1,λp2 n2=>?_⟩;let e8:upd H7 p2 (HO.tup [V.str (S (fu us))]) p2=some (.tup [V.str (S (fu us))]):=aA;let s8:aB H7 (upd H7 p2 (HO.tup [V.str (S (fu us))])):=aB.upd n2;generalize upd H7 p2 (HO.tup [V.str (S (fu us))])=H8 at e8 s8 ⊢;let s68:=s7.trans s8;calc(lU p1 p2 _ _ rL rL (aQ.of (s68 _ _ h6)) (aQ.of e8) ?_ (λ_=>e8) (λy=>absurd y qo) (λp3 H9 s9 h9=>?_));.rw[av];show ap (aN (by simp;lia))
  let s59:=(s6.trans s68).trans s9;calc(aK _ _ rL rL (aG _ rL (aK pr _ rL (s59 _ _ ai0) (λp4 HA sA hA=>?_))));rw[show jy (Ts z.racks) (some (((dn%z.racks.length:Nat):Int)+1)) none=(Ts z.racks).drop (dn%z.racks.length+1) from Gk (a:=dn%z.racks.length+1) qk]at hA;calc(lU p3 p4 _ _ rL rL (aQ.of (sA _ _ h9)) (aQ.of hA) ?_ (λy=>by simp at y) (λ_ _=>sA _ _ h9) (λGp HB sB Kc=>?_));.rw[am,av,aS,Y];show ap (aN (by simp;lia))
  let aeY:HB Gp=some (.tup (Ts z'.racks)):=by rw[Kc,aiZ,<-Nk,iO,if_pos hi];simp
  let s5B:=(s59.trans sA).trans sB;let ae3:=s5B _ _ (s5 _ _ hpp);let hpl:(z.jX.map V.int).length=z.racks.length:=by rw[aa,Zk.pl]
  let hip:dn%z.racks.length<(z.jX.map V.int).length:=by rw[hpl];show F
  let ai1:dn%z.racks.length<z.jX.length:=by rw[Zk.pl];show F
  calc(aG _ rL (aK pp _ rL ae3 (λr1 HC sC hC=>?_)));rw[show jy (z.jX.map V.int) none (some ((dn%z.racks.length:Nat):Int))=(z.jX.map V.int).take (dn%z.racks.length) from Pa qk]at hC;calc(aY pp _ _ (.int z.jX[dn%z.racks.length]) rL rL (aQ.of (sC _ _ ae3)) (aM (by rw[ck,ac ai1];rfl)) (aU _ _ rL rL (zsz 1) (λr2 nr2=>?_)));let eD:upd HC r2 (HO.tup [V.int (z.jX[dn%z.racks.length]+pt)]) r2=some (.tup [V.int (z.jX[dn%z.racks.length]+pt)]):=aA;let sD:aB HC (upd HC r2 (HO.tup [V.int (z.jX[dn%z.racks.length]+pt)])):=aB.upd nr2;generalize upd HC r2 (HO.tup [V.int (z.jX[dn%z.racks.length]+pt)])=HD at eD sD ⊢;calc(lU r1 r2 _ _ rL rL (aQ.of (sD _ _ hC)) (aQ.of eD) ?_ (λ_=>eD) (λy=>absurd y qo) (λr3 HE sE hE=>?_));.rw[av];show ap (aN (by simp;lia))
  let sBE:=(sC.trans sD).trans sE;calc(aK _ _ rL rL (aG _ rL (aK pp _ rL (sBE _ _ ae3) (λr4 HF sF hF=>?_))));rw[show jy (z.jX.map V.int) (some (((dn%z.racks.length:Nat):Int)+1)) none=(z.jX.map V.int).drop (dn%z.racks.length+1) from Gk (a:=dn%z.racks.length+1) qk]at hF;calc(lU r3 r4 _ _ rL rL (aQ.of (sF _ _ hE)) (aQ.of hF) ?_ (λy=>by simp at y) (λ_ _=>sF _ _ hE) (λJC HG sG A_=>?_));.rw[am,av,aS,hpl];show ap (aN (by simp;lia))
  let hgp:z.jX.getD (dn%z.racks.length) 0=z.jX[dn%z.racks.length]:=by rw[aE,ac ai1];rfl
  let Gx:HG JC=some (.tup (z'.jX.map V.int)):=by rw[A_,alE,hgp,<-V3,iO,if_pos hip];simp
  let sBG:=(sBE.trans sF).trans sG;let s5G:=s5B.trans sBG;let s0G:=s5.trans s5G;let fin:∀(HI:Hp) (o:Bool),aB HG HI->o=ovN z z' ps dn d->7<=sizeLine/\∀p',HI p'=none->2<=sizeLine/\∀t,upd HI p' (HO.tup [V.ref b',V.ref Gp,V.str (S z'.bag),V.ref JC,V.int ((dn:Int)+1),V.int 0,V.bl o]) t=none->Q (.ref t) (upd (upd HI p' (HO.tup [V.ref b',V.ref Gp,V.str (S z'.bag),V.ref JC,V.int ((dn:Int)+1),V.int 0,V.bl o])) t (HO.tup [V.int pt,V.ref p'])):=by
   rintro HI o sI rfl;calc⟨zsz 7,λp' hp'=>⟨zsz 2,λt ht=>?_⟩⟩;let t1:=aB.upd hp' (o:=HO.tup [V.ref b',V.ref Gp,V.str (S z'.bag),V.ref JC,V.int ((dn:Int)+1),V.int 0,V.bl (ovN z z' ps dn d)]);let t2:=aB.upd ht (o:=HO.tup [V.int pt,V.ref p']);let e0:Z_ ps d=0:=by
    cases d with| lay _=>rfl| swap _=>rfl| pass=>show absurd rL O
   calc q t p' _ (((s0G.trans sI).trans t1).trans t2) aA ⟨b',Gp,JC,?_,((((hb5.mv s5G).mv sI).mv t1).mv t2),t2 _ _ (t1 _ _ (sI _ _ (sBG _ _ aeY))),t2 _ _ (t1 _ _ (sI _ _ Gx))⟩;rw[e0];show t2 _ _ aA
  calc(aK _ _ rL rL (aY pd _ _ (.str (S d.name)) rL rL (aQ.of (s0G _ _ hnm)) (aM (j:=0) rL) (aK d.name gK rL rL (bf _ rL ?_))));let ai2:dF z' dn=fu us:=by unfold dF;rw[aiZ,fb,aE,ke F];rfl
  cases d with
  | pass=>show absurd rL O
  | swap l=>rw[af (show ¬dZ.name (.swap l)=gK from (show ¬dO=gK by decide))];show cI (fin HG false (aB.refl _) rL)
  | lay ts=>
   rw[ai (show dZ.name (.lay ts)=gK from rL)];calc cH ⟨zsz 0,λEe hEe=>?_⟩;let sH:=aB.upd hEe (o:=HO.lst []);let eH:upd HG Ee (HO.lst []) Ee=some (.lst []):=aA;generalize upd HG Ee (HO.lst [])=HH at sH eH ⊢;refine(dJ 2 (.lst ((us.map λc=>[c]).map Dt.str)) (.lst []) qr (.lst (bM.of (sH _ _ (s5G _ _ uM))) (d9.wM λl hl=>?_)) (.lst (bM.of eH) .nil) (bf _ rL ?_))
   .let⟨c,hc,rfl⟩:=bd.mp hl;show λc' h'=>by rw[bc.mp h'];show akq c hc
   by_cases hue:us=[]
   .subst hue;rw[ai (show Dt.lst (List.map Dt.str (List.map (λc=>[c]) []))=Dt.lst [] from rL)];calc cH (aK z'.bag [] rL rL ?_);calc fin HH _ sH ?_;show _=(decide (dF z' dn=[])&&decide (z'.bag=[]))
    rw[ai2,ai (show fu []=[] from gT.mp (j_ [])),mx]
   .rw[af (λy=>hue (by injection y with y;simpa using y))];calc cI (fin HH false sH ?_);show _=(decide (dF z' dn=[])&&decide (z'.bag=[]))
    rw[ai2,af (λy=>hue (by have:=j_ us;rw[y]at this;show gT.mp this.symm)),nS]
def akr {c:Nat}(h:Es c):c<128:=by
 rcases h with e|e;.lia
 .show e.lt
def aks {c:Nat}(h:Mx c):c<128:=(show ∀c∈MK,c<128 by decide) c h
def brD (aD aV:AA)(i j:Nat):Dt:=.tup [.tup (aD.map Dt.str),.tup (aV.map Dt.str),.tup [.int i,.int j]]
def jO.brd {H:Hp}{t pr pm pb:Addr}{r w:Nat}{aD aV:AA}{i j:Nat}(ht:H t=some (.tup [.ref pr,.ref pm,.ref pb]))(h1:H pr=some (.tup (Ts aD)))(h2:H pm=some (.tup (Ts aV)))(h3:H pb=some (.tup [.int i,.int j]))(B:Mz r w aD aV i j):jO K H 3 (brD aD aV i j) (.ref t):=.tup (aQ.of ht) (.cons (.tup (aQ.of h1) (d9.wM λl hl c D=>akr (B.cr l hl c D))) (.cons (.tup (aQ.of h2) (d9.wM λl hl c D=>aks (B.cm l hl c D))) (.cons (.tup (aQ.of h3) (.cons (.int _) (.cons (.int _) .nil))) .nil)))
theorem d9.ints {H:Hp}:∀{is:List Int},d9 K H 1 (is.map Dt.int) (is.map V.int)
 | []=>.nil
 | _::_=>.cons (.int _) d9.ints
def Wu (C CS CB CG:Addr):Sp:=λvs H Q _=>∃(g pn ps pd:Addr) (G:Gm) (zs:List Std) (z:Std) (k:Nat),vs=[.ref g,.ref pn]/\jT C CS CB CG H g ps pd G/\G.sts=zs++[z]/\lG z/\(∀l∈G.done,∀c∈l,c<128)/\G.done.length<=500/\oG C H pn z G.done.length k (iw G z)/\∀H',aB H H'->Q (.bl true) H'
open Classical in
def adn {C CS CB CG f1 f2 f3 f4 f5 f6:Addr}{fB fd2 pG xX Ny Nz:FuncData}(D:aO K mg "_law_stands" Dj sk)(bH:mg "len"=none)(bK:mg "isinstance"=none)(qK:mg "bool"=none)(j:iJ K C)(Y:tu K CG)(Ke:Meth K CG "board_now" f1)(Kf:cU P w K mg base eV 1 f1 fB aw (uX C CS CB CG (ac7 C)))(Kg:cD K fB aw [])(mJ:Meth K CG "racks_now" f2)(mK:cU P w K mg base eV 1 f2 fd2 aw (uX C CS CB CG Np))(mL:cD K fd2 aw [])(vQ:Meth K CG "bag_now" f3)(vR:cU P w K mg base eV 1 f3 pG aw (uX C CS CB CG aeM))(vU:cD K pG aw [])(Jl:Meth K CG "points_now" f4)(Jm:cU P w K mg base eV 1 f4 xX aw (uX C CS CB CG aiS))(Jo:cD K xX aw [])(rC:Meth K CG "is_over" f5)(rD:cU P w K mg base eV 4 f5 Ny aw (V7 C CS CB CG))(rE:cD K Ny aw [])(Ba:Meth K CG "turn" f6)(Bb:cU P w K mg base eV 2 f6 Nz aw (Pj C CS CB CG))(Bc:cD K Nz aw []):cA P w K mg base "_law_stands" 5 sk (Wu C CS CB CG):=by
 calc D.d8 nG (λf bV A outer s H vs Q E hr h=>?_);let⟨g,pn,ps,pd,G,zs,z,k,rfl,A0,hz,Z,J,h5,NA,q⟩:=h;let⟨dx,_,_,_,_,hg,_⟩:=A0.ex;obtain⟨b,pr,pp,hn,⟨⟨bx,br,bm,bb,hb,hbr,hbm,hbb⟩,B⟩,hpr,hpp⟩:=NA.ex;let n1:=Z.n1;let hrl:(Ts z.racks).length=z.racks.length:=aa _;calc(aG _ (au (f9 (um bh (qF rL (cJ (bY (i:=2) nG.nd rL (Or.inl rL)) (cJ (bY (i:=3) nG.nd rL (Or.inl rL)) (cJ (bY (i:=4) nG.nd rL (Or.inl rL)) (cJ (bY (i:=5) nG.nd rL (Or.inl rL)) (cJ (bY (i:=6) nG.nd rL (Or.inl rL)) (cJ (bY (i:=7) nG.nd rL (Or.inl rL)) (cJ (bY (i:=8) nG.nd rL (Or.inl rL)) oU)))))))))) (au (aW (i:=9) nG.nd rL (Or.inl rL) (jk aH Y.cl Ke Kf hr.mono Kg .nil gM)) (au (cG (bT (uy hr.units) (bF (aj (cF lq rL) (aj (cF lq rL) (aj (cF lq rL) ak)))) (bF (aj (cF bG rL) (aj (cF bG rL) (aj (cF bG rL) ak)))) (bO _)) (aF (bC jr)) bR) (au (cG (QW.qt (pI (bT (uy hr.units) (jk aH Y.cl mJ mK hr.mono mL .nil gM) bU (bO _)) (pI (bT Lx (jk aH Y.cl vQ vR hr.mono vU .nil gM) cQ (bO _)) (m8 (bT (uy hr.units) (jk aH Y.cl Jl Jm hr.mono Jo .nil gM) dD (bO _)))))) (aF (bC jr)) bR) (au (cG (QW.qt (pI (gU (fJ (aP iG qA bK a9 (aj (jk aH Y.cl rC rD hr.mono rE .nil gM) (aj (lV (v:=.ty "bool") qA qK mh rL) ak))))) (m8 (bT CN (jk aH Y.cl rC rD hr.mono rE .nil gM) mQ (bO _))))) (aF (bC jr)) bR) (aF (bC (gq iC (jk aH Y.cl Ba Bb hr.mono Bc .nil gM) (aJ bZ fU (aP b_ qA bH ay (aj bU ak))) (bO _))))))))) ?_);calc(aG (λσ H1=>H=H1/\σ=[some (.ref g),some (.ref pn),some (.ref b),some (.ref pr),some (.str (S z.bag)),some (.ref pp),some (.int G.done.length),some (.int k),some (.bl (iw G z)),none]) (aU pn _ rL (aQ.of hn) rL (dW _ _ rL (dW _ _ rL (dW _ _ rL (dW _ _ rL (dW _ _ rL (dW _ _ rL (aU _ _ rL rL rL rL)))))))) ?_);rintro σ H1 ⟨eH,rfl⟩;subst eH;calc(dJ g dx _ rL hg rL (Dd g ps pd G zs z rL A0 hz (λb2 hb2=>?_)));obtain⟨⟨cx,cr,cm,cb,hc,Z4,hcm,hcb⟩,B2⟩:=hb2;calc(cR b2 C cx _ _ rL hc j.cl j.nr rL (cR b2 C cx _ _ rL hc j.cl j.nm rL (Mh b2 C cx _ _ rL hc j.cl j.nb rL (zsz 3) (λt1 ht1=>?_))));let s1:=aB.upd ht1 (o:=HO.tup [V.ref cr,V.ref cm,V.ref cb]);let e1:upd H t1 (HO.tup [V.ref cr,V.ref cm,V.ref cb]) t1=some (.tup [V.ref cr,V.ref cm,V.ref cb]):=aA;generalize upd H t1 (HO.tup [V.ref cr,V.ref cm,V.ref cb])=H1 at s1 e1 ⊢;let O:=s1 _ _ hb;calc(cR b C bx _ _ rL O j.cl j.nr rL (cR b C bx _ _ rL O j.cl j.nm rL (Mh b C bx _ _ rL O j.cl j.nb rL (zsz 3) (λt2 Jx=>?_))));let s2:=aB.upd Jx (o:=HO.tup [V.ref br,V.ref bm,V.ref bb]);let e2:upd H1 t2 (HO.tup [V.ref br,V.ref bm,V.ref bb]) t2=some (.tup [V.ref br,V.ref bm,V.ref bb]):=aA;generalize upd H1 t2 (HO.tup [V.ref br,V.ref bm,V.ref bb])=H2 at s2 e2 ⊢;let F:=s1.trans s2;calc(dJ 3 (brD z.aD z.aV z.bi z.bj) (brD z.aD z.aV z.bi z.bj) qr (jO.brd (s2 _ _ e1) (F _ _ Z4) (F _ _ hcm) (F _ _ hcb) B2) (jO.brd e2 (F _ _ hbr) (F _ _ hbm) (F _ _ hbb) B) (bf _ rL ?_));rw[ai rfl];let A2:=A0.mv F;let I:=F _ _ hg;calc cI (dJ g dx _ rL I rL (Dd g ps pd G zs z rL A2 hz (λq1 hq1=>?_)));let ai3:∀l∈z.racks,∀c∈l,c<128:=λl hl c hc=>Nx ((Z.r7 l hl).2 c hc);calc(dJ 2 (.tup (z.racks.map Dt.str)) (.tup (z.racks.map Dt.str)) qr (.tup (aQ.of hq1) (d9.wM ai3)) (.tup (aQ.of (F _ _ hpr)) (d9.wM ai3)) (bf _ rL ?_));rw[ai rfl];calc cI (dJ g dx _ rL I rL (Dd g ps pd G zs z rL A2 hz (aK z.bag z.bag rL rL (bf _ rL ?_))));rw[ai rfl];calc cI (dJ g dx _ rL I rL (Dd g ps pd G zs z rL A2 hz (λq2 hq2=>?_)));calc(dJ 2 (.tup (z.jX.map Dt.int)) (.tup (z.jX.map Dt.int)) qr (.tup (aQ.of hq2) d9.ints) (.tup (aQ.of (F _ _ hpp)) d9.ints) (bf _ rL ?_));rw[ai rfl];calc cI (dJ g dx _ rL I rL (oE g ps pd G zs z rL A2 hz Z J h5 (λH3 s3=>?_)));let gQ:=F.trans s3;calc(gO _ _ _ true rL (.bl _) qB (cI (dJ g dx _ rL (gQ _ _ hg) rL (oE g ps pd G zs z rL (A0.mv gQ) hz Z J h5 (λH4 s4=>?_)))));let i_:=gQ.trans s4;calc⟨rL,bf _ rL ?_⟩;rw[ai rfl];calc cI (dJ g dx _ rL (i_ _ _ hg) rL (S8 g ps pd G zs z rL (A0.mv i_) hz Z (aK pr _ rL (.inr (aQ.of (i_ _ _ hpr))) (cT _ _ rL rL (by show (0:Int)<_;rw[hrl];lia) rL ?_))));let e:((G.done.length%z.racks.length:Nat):Int)=(G.done.length:Int)%((Ts z.racks).length:Int):=by rw[hrl];lia
 let fin:=q H4 i_;rw[<-ai (congrArg V.int e)]at fin;show fin
def gR (G:Gm)(zs:List Std)(ds:List dZ):Gm:={G with sts:=zs,done:=ds.map dZ.name}
inductive Path (G:Gm) (z0:Std):List dZ->List Std->Prop
 | nil:Path G z0 [] [z0]
 | snoc {ds:List dZ} {zs:List Std} {z z':Std} {d:dZ} {pt:Int} (h:Path G z0 ds (zs++[z])) (ov:iw (gR G [] ds) z=false) (dd:Does (gR G [] ds) z d pt z'):Path G z0 (ds++[d]) (zs++[z]++[z'])
def Does.sts {G:Gm}{a b:List Std}{ds:List dZ}{z z':Std}{d:dZ}{pt:Int}(h:Does (gR G a ds) z d pt z'):Does (gR G b ds) z d pt z':=by
 cases h with| lay h1 h2 h3 h4 h5 h6=>show Does.lay (G:=gR G b ds) h1 h2 h3 h4 h5 h6| swap h1 h2 h3 h4 h5=>show Does.swap (G:=gR G b ds) h1 h2 h3 h4 h5| pass=>show .pass
def Path.len {G:Gm}{z0:Std}{ds:List dZ}{zs:List Std}(h:Path G z0 ds zs):zs.length=ds.length+1:=by
 induction h with| nil=>rfl| snoc h ov dd ih=>rw[am,ih,am];rfl
def Does.racks {G:Gm}{z z':Std}{d:dZ}{pt:Int}(h:Does G z d pt z'):z'.racks.length=z.racks.length:=by
 cases h with| lay=>show fb| swap=>show fb| pass=>rfl
def aac {z:Std}{l m:List Nat}{i:Nat}(Z:lG z)(hl:l.length<=7)(hm:∀c∈l,o8 c):∀k∈z.racks.set i l,k.length<=7/\∀c∈k,o8 c:=λk j=>by
 rcases eQ j with e|e;.show Z.r7 k e
 .rw[e];show⟨hl,hm⟩
def aad {z:Std}(Z:lG z){i:Nat}:(z.racks.getD i []).length<=7/\∀c∈z.racks.getD i [],o8 c:=by
 rw[aE];cases e:z.racks[i]? with| none=>show⟨fe _,λc h=>by cases h⟩| some l=>show Z.r7 l (bp e)
def Does.ok {G:Gm}{z z':Std}{d:dZ}{pt:Int}(h:Does G z d pt z')(Z:lG z)(hs:G.size<=7):lG z':=by
 let hr:=h.racks;cases h with
 | @lay ts l jL h0 h7 ri vd lf=>
  let⟨k7,I⟩:=aad Z (i:=iy G z);let F:=yK lf;let j:=vP lf;calc⟨by rw[hr];show Z.n1,by rw[hr];show Z.n4,aac (m:=[]) Z ?_ λc D=>?_,?_,λc D=>Z.bt c (c_ D),?_⟩;.rw[j_,am,j_,av];lia
  .rcases be.mp ((iK _).mem_iff.mp D) with y|y;.show I c (j c ((iK _).mem_iff.mp y))
   .show Z.bt c (cf y)
  .show (z.bag.drop _).length<=60;have:=Z.b6;rw[aS];lia
  .show (z.jX.set _ _).length=(z.racks.set _ _).length;rw[fb,fb];show Z.pl
 | @swap l m ne h7 tl lf hb=>
  let⟨k7,I⟩:=aad Z (i:=iy G z);let F:=yK lf;let j:=vP lf;calc⟨by rw[hr];show Z.n1,by rw[hr];show Z.n4,aac (m:=[]) Z ?_ λc D=>?_,?_,λc D=>?_,?_⟩;.rw[j_,am,j_,av];lia
  .rcases be.mp ((iK _).mem_iff.mp D) with y|y;.show I c (j c ((iK _).mem_iff.mp y))
   .show Z.bt c (cf y)
  .show (z.bag.drop _++fu _).length<=60;have:=Z.b6;rw[am,aS,j_];lia
  .rcases be.mp D with y|y;.show Z.bt c (c_ y)
   .show tl c ((iK _).mem_iff.mp y)
  .show z.jX.length=(z.racks.set _ _).length;rw[fb];show Z.pl
 | pass=>show Z
def Path.ok {G:Gm}{z0:Std}{ds:List dZ}{zs:List Std}(h:Path G z0 ds zs)(Z:lG z0)(hs:G.size<=7):∀z∈zs,lG z:=by
 induction h with
 | nil=>intro z h;rw[bc.mp h];show Z
 | snoc h ov dd ih=>
  intro y hy;rcases be.mp hy with e|e;.show ih y e
  .rw[bc.mp e];show dd.ok (ih _ qo) hs
def tp (ds:List dZ):Nat:=ds.foldl Z_ 0
def Px (ds:List dZ)(d:dZ):tp (ds++[d])=Z_ (tp ds) d:=by unfold tp;rw[List.foldl_append];rfl
def ae4 {α:Type}{ns:List α}{m:Nat}{x:α}:ns.drop (ns.length-m)=List.replicate m x↔List.replicate m x <:+ ns:=by
 constructor
 .intro h;rw[<-h];show List.drop_suffix _ _
 .intro h;have:=List.suffix_iff_eq_drop.mp h;rw[de]at this;show this.symm
theorem ado:∀(n:Nat) (ds:List dZ) (m:Nat),ds.length=n->(List.replicate m fG <:+ ds.map dZ.name↔m<=tp ds)
 | 0,ds,m,hn=>by
  have:ds=[]:=gT.mp hn;subst this;show _ <:+ []↔m<=0;rw[List.suffix_nil];constructor;.intro h;have:=congrArg List.length h;simp at this;lia
  .intro h;rw[Nat.le_zero.mp h];rfl
 | n+1,ds,m,hn=>by
  let j:ds≠[]:=λe=>by subst e;simp at hn
  let e:=kD j;let hl:ds.dropLast.length=n:=by rw[List.length_dropLast,hn];rfl
  generalize ds.dropLast=es at e hl;generalize ds.getLast j=d at e;subst e;rw[bP,Px];show _ <:+ es.map dZ.name++[d.name]↔_;rw[List.suffix_concat_iff];cases m with
  | zero=>show⟨λ_=>fe _,λ_=>.inl rL⟩
  | succ m=>
   let D:=ado n es m hl;constructor
   .rintro(h|⟨t,h1,h2⟩);.simp at h
    .rw[kP]at h1;let⟨h3,h4⟩:=List.append_inj' h1 rfl;injection h4 with h4;let hd:=Rv.mp h4.symm;subst hd;rw[<-h3]at h2;show m+1<=tp es+1;show g9 (D.mp h2)
   .intro h;cases d with| pass=>show .inr (aG _ kP (D.mpr (Nat.le_of_succ_le_succ h)))| lay ts=>show absurd h (Nat.not_succ_le_zero _)| swap l=>show absurd h (Nat.not_succ_le_zero _)
def adp {α:Type}(l:List α)(x:α):(l++[x]).drop ((l++[x]).length-1)=[x]:=by rw[am,mB,Nat.add_sub_cancel,List.drop_left]
def ae5 {G:Gm}{z:Std}(h:1<=z.racks.length):iw (gR G [] []) z=false:=by
 unfold iw;rw[af,af];.rfl
 .intro e;show absurd e (by show ¬([]:AA)=_;simp)
 .intro e;have:=congrArg List.length e;rw[de]at this;let j:(gR G [] []).done=[]:=rfl;rw[j]at this;simp at this;lia
def adq {G:Gm}{z z':Std}{ds:List dZ}{d:dZ}{pt:Int}(h:Does (gR G [] ds) z d pt z')(h1:1<=z.racks.length):iw (gR G [] (ds++[d])) z'=ovN z z' (tp ds) ds.length d:=by
 let hr:=h.racks;let j:(gR G [] (ds++[d])).done=ds.map dZ.name++[d.name]:=bP;let F:decide ((ds.map dZ.name++[d.name]).drop ((ds.map dZ.name++[d.name]).length-2*z'.racks.length)=List.replicate (2*z'.racks.length) fG)=decide (2*z.racks.length<=Z_ (tp ds) d):=by calc Ja (ae4.trans ?_);rw[hr,<-Px,<-ado _ (ds++[d]) _ rL,bP];rfl
 unfold iw;rw[j,F,adp];cases d with
 | pass=>rw[af (show ¬[dZ.name .pass]=[gK] by decide),nS,Bool.or_false];cases h;rfl
 | swap l=>rw[af (show ¬[dZ.name (.swap l)]=[gK] from (show ¬[dO]=[gK] by decide)),nS,Bool.or_false];show af (by show ¬_<=0;lia)
 | lay ts=>
  rw[ai (show [dZ.name (.lay ts)]=[gK] from rL),mx,af (show ¬2*z.racks.length<=Z_ (tp ds) (.lay ts) by show ¬_<=0;lia),oq];show _=(decide (dF z' ds.length=[])&&decide (z'.bag=[]))
  let D:Ad (gR G [] (ds++[.lay ts])) z'=ds.length%z'.racks.length:=by unfold Ad;rw[j,am,aa,mB,show ((ds.length+1:Nat):Int)-1=(ds.length:Int) by lia];lia
  rw[D,Bool.and_comm];rfl
def adt {G:Gm}{z:Std}{bs:AA}{ds:List dZ}{d:dZ}(h:adk z ds.length bs d)(hb:∀x,x∈bs↔x∈G.ws):∃pt z',Does (gR G [] ds) z d pt z':=by
 let j:iy (gR G [] ds) z=ds.length%z.racks.length:=by show (ds.map dZ.name).length%_=_;rw[aa]
 cases d with
 | lay ts=>let⟨l,hl⟩:=ako h.vd;show⟨_,_,.lay (G:=gR G [] ds) h.jL h.h0 h.h7 h.ri (by rw[j];show ae0 hb h.vd) (l:=l) (by rw[j];show hl)⟩
 | swap l=>obtain⟨h1,h2,h3,⟨m,hm⟩,h5⟩:=h;show⟨_,_,.swap (G:=gR G [] ds) h1 h2 h3 (m:=m) (by rw[j];show hm) h5⟩
 | pass=>show⟨_,_,.pass⟩
def Kl (H H':Hp):Prop:=∀a o,H a=some o->(∀xs,o≠HO.lst xs)->H' a=some o
def Kl.of {H H':Hp}(s:aB H H'):Kl H H':=λa o h _=>s a o h
def Kl.trans {H H1 j:Hp}(s:Kl H H1)(t:Kl H1 j):Kl H j:=λa o h n=>t a o (s a o h n) n
def Ac.kl {ps pd:Addr}{H H':Hp}{xs ys:List V}(s:Ac ps pd H H')(h1:H ps=some (.lst xs))(h2:H pd=some (.lst ys)):Kl H H':=λa o h n=>s a o h (qe h1 h n) (qe h2 h n)
def dN.kl {C:Addr}{H H':Hp}{p:Addr}{r w:Nat}{aD aV:AA}{i j:Nat}(B:dN C H p r w aD aV i j)(k:Kl H H'):dN C H' p r w aD aV i j:=by obtain⟨⟨dx,pr,pm,pb,a,b,c,d⟩,o⟩:=B;show⟨(gO dx pr pm pb (k _ _ a (λ_ z=>nomatch z)) (k _ _ b (λ_ z=>nomatch z)) (k _ _ c (λ_ z=>nomatch z)) (k _ _ d (λ_ z=>nomatch z))),o⟩
def jd.kl {C:Addr}{H H':Hp}{p d:Addr}{ws:AA}(B:jd C H p d ws)(k:Kl H H'):jd C H' p d ws:=⟨let ⟨dx,e⟩:=B.ob;⟨dx,k _ _ e (λ_ z=>nomatch z)⟩,k _ _ B.dc (λ_ z=>nomatch z),B.nd,B.az⟩
def oG.kl {C:Addr}{H H':Hp}{p:Addr}{z:Std}{dn ps:Nat}{ov:Bool}(A:oG C H p z dn ps ov)(k:Kl H H'):oG C H' p z dn ps ov:=by let⟨b,pr,pp,h1,h2,h3,h4⟩:=A.ex;show⟨b,pr,pp,k _ _ h1 (λ_ z=>nomatch z),h2.kl k,k _ _ h3 (λ_ z=>nomatch z),k _ _ h4 (λ_ z=>nomatch z)⟩
theorem jA.kl {H H':Hp}{p:Addr}(k:Kl H H'):∀{d:dZ},jA H p d->jA H' p d
 | .lay _,⟨t,as,h1,h2,h3⟩=>(aK t as (k _ _ h1 (λ_ z=>nomatch z)) (k _ _ h2 (λ_ z=>nomatch z)) (h3.Ju λa xs e=>k _ _ e (λ_ z=>nomatch z)))
 | .swap _,h=>k _ _ h (λ_ z=>nomatch z)
 | .pass,h=>k _ _ h (λ_ z=>nomatch z)
def Af.kl {C:Addr}{H H':Hp}{p pw:Addr}{Z:Wo}(A:Af C H p pw Z)(k:Kl H H')(h:H' pw=some (.lst (Ts Z.ws))):Af C H' p pw Z:=by let⟨b,d,pb,pr,h1,h2,h3,h4,h5⟩:=A.ex;show⟨(aY b d pb pr (k _ _ h1 (λ_ z=>nomatch z)) (h2.kl k) (k _ _ h3 (λ_ z=>nomatch z)) (k _ _ h4 (λ_ z=>nomatch z)) (k _ _ h5 (λ_ z=>nomatch z))),h⟩
def ag0 {G:Gm}{zs:List Std}{ds:List dZ}{z:Std}{d:dZ}:{gR G zs ds with sts:=(gR G zs ds).sts++[z],done:=(gR G zs ds).done++[d.name]}=gR G (zs++[z]) (ds++[d]):=by unfold gR;simp
structure Tp (G:Gm):Prop where
 wd:WD G.kvs
 wb:WB 1000000 G.kvs
 sz:G.size<=7
def ai4 {ds:List dZ}:∀l∈ds.map dZ.name,∀c∈l,c<128:=λl hl c j=>by let⟨d,_,rfl⟩:=bd.mp hl;show aeN d c j
def Tp.ok {G:Gm}(F:Tp G){zs:List Std}{ds:List dZ}(h1:ds.length<=100)(h2:zs.length<=101):abr (gR G zs ds):=⟨ai4,by show (ds.map dZ.name).length<=400;rw[aa];lia,by show zs.length<=500;lia,F.wd,F.wb,F.sz⟩
def lQ.mv {H H':Hp}{dd:Option Addr}(h:lQ H dd)(s:aB H H'):lQ H' dd:=by
 cases dd with| none=>trivial| some d=>let⟨o,e⟩:=h;show⟨o,s _ _ e⟩
structure tD (K:W.Frag)(cs hs:List Addr)(C:Addr)(i:Nat)(bs:List Bool):Prop where
 is:wg K C
 ix:∀(j:Nat) (D:Addr),cs[j]?=some D->W.kitOne K (.ref C) (.ref D)=some (decide (j=i))
 ex:∀(j:Nat) (D:Addr) (b:Bool),hs[j]?=some D->bs[j]?=some b->W.exmOne K (.ref C) (.ref D)=some b
 lt:i<15
noncomputable def bits (j:Nat):List Bool:=[decide (0=j),decide (1=j),decide (2=j),decide (3=j),decide (4=j),decide (5=j),decide (6=j),decide (7=j),decide (8=j),decide (9=j),decide (10=j),decide (11=j),decide (12=j),decide (13=j),decide (14=j)]
def aby:∀j,j<15->(bits j).count true=1:=by decide
def ag1:∀j,j<15->(bits j)[j]?=some true/\∀m,m<j->(bits j)[m]?=some false:=by
 intro j D;let h1:∀j,j<15->(bits j)[j]?=some true:=by decide
 let h2:∀j,j<15->∀m,m<15->m<j->(bits j)[m]?=some false:=by decide
 show⟨h1 j D,λm hm=>h2 j D m qk hm⟩
def d_ {H H':Hp}{L:Addr}{o:HO}(h:H L=none)(e:upd H L o=H'):aB H H'/\H' L=some o:=by subst e;show⟨aB.upd h,aA⟩
def adu (K:W.Frag)(cs hs:List Addr):Sp:=λvs H Q _=>∃(a C:Addr) (dd:Option Addr) (j:Nat) (bs:List Bool),vs=[.ref a]/\H a=some (.ext (xJ a (.ref C) dd))/\lQ H dd/\tD K cs hs C j bs/\∀H',aB H H'->Q (.int j) H'
def ag2 {dz cB cg cL cY dH bN bW dB fD eY dU fP fj fQ:Addr}{hs:List Addr}(D:aO K mg "_law_kind" Mv ["_law_e"])(G:mg "isinstance"=none)(Gs:mg "NoDeed"=some (.ref dz))(Az:mg "NoLaying"=some (.ref cB))(zc:mg "Taken"=some (.ref cg))(Dq:mg "Crooked"=some (.ref cL))(Gd:mg "Gap"=some (.ref cY))(J6:mg "Apart"=some (.ref dH))(uV:mg "Lacking"=some (.ref bN))(uc:mg "NoWord"=some (.ref bW))(Gr:mg "TooFew"=some (.ref dB))(Pk:mg "Over"=some (.ref fD))(adv:mg "NoBack"=some (.ref eY))(abz:mg "NoBoard"=some (.ref dU))(ae6:mg "NoRow"=some (.ref fP))(Z:mg "NoText"=some (.ref fj))(ae7:mg "Twice"=some (.ref fQ)):aaS P w K mg base "_law_kind" 1 ["_law_e"] (adu K [dz,cB,cg,cL,cY,dH,bN,bW,dB,fD,eY,dU,fP,fj,fQ] hs):=by
 refine D.alh BX (λvs H Q E h=>?_) (λf bV A outer s H vs Q E hr h=>?_)
 .let⟨a,C,dd,j,bs,rfl,_⟩:=h;rfl
 .let⟨a,C,dd,j,bs,rfl,ha,F,cx,q⟩:=h;let is:=cx.is;let k:=cx.ix;let hj:=cx.lt;calc(aG _ (au (aW (i:=1) BX.nd rL (Or.inl rL) (g_ (aj (aP fV qA G a9 (aj aH (aj (jg (v:=.ref _) qA Gs rL) ak))) (aj (aP fV qA G a9 (aj aH (aj (jg (v:=.ref _) qA Az rL) ak))) (aj (aP fV qA G a9 (aj aH (aj (jg (v:=.ref _) qA zc rL) ak))) (aj (aP fV qA G a9 (aj aH (aj (jg (v:=.ref _) qA Dq rL) ak))) ak)))))) (au (aW (i:=1) BX.nd rL (Or.inl rL) (aJ yN bh (g_ (aj (aP fV qA G a9 (aj aH (aj (jg (v:=.ref _) qA Gd rL) ak))) (aj (aP fV qA G a9 (aj aH (aj (jg (v:=.ref _) qA J6 rL) ak))) (aj (aP fV qA G a9 (aj aH (aj (jg (v:=.ref _) qA uV rL) ak))) (aj (aP fV qA G a9 (aj aH (aj (jg (v:=.ref _) qA uc rL) ak))) ak))))))) (au (aW (i:=1) BX.nd rL (Or.inl rL) (aJ yN bh (g_ (aj (aP fV qA G a9 (aj aH (aj (jg (v:=.ref _) qA Gr rL) ak))) (aj (aP fV qA G a9 (aj aH (aj (jg (v:=.ref _) qA Pk rL) ak))) (aj (aP fV qA G a9 (aj aH (aj (jg (v:=.ref _) qA adv rL) ak))) (aj (aP fV qA G a9 (aj aH (aj (jg (v:=.ref _) qA abz rL) ak))) ak))))))) (au (aW (i:=1) BX.nd rL (Or.inl rL) (aJ yN bh (g_ (aj (aP fV qA G a9 (aj aH (aj (jg (v:=.ref _) qA ae6 rL) ak))) (aj (aP fV qA G a9 (aj aH (aj (jg (v:=.ref _) qA Z rL) ak))) (aj (aP fV qA G a9 (aj aH (aj (jg (v:=.ref _) qA ae7 rL) ak))) ak)))))) (au (cG (bT CN (gG ce PySem.F.slot_list_count PySem.F.type_list_count acw bh (aj jr ak)) aq (bO _)) (aF (bC (m_ kJ aq))) bR) (aF (bC (gG ce PySem.F.slot_list_index PySem.F.type_list_index acy bh (aj jr ak))))))))) ?_);calc(oE a C (.ref dz) (.ref dz) dd _ rL (.inl (aG dz rL rL)) ha F is (k 0 _ rL) (oE a C (.ref cB) (.ref cB) dd _ rL (.inl (aG cB rL rL)) ha F is (k 1 _ rL) (oE a C (.ref cg) (.ref cg) dd _ rL (.inl (aG cg rL rL)) ha F is (k 2 _ rL) (Df a C (.ref cL) (.ref cL) dd _ rL (.inl (aG cL rL rL)) ha F is (k 3 _ rL) (zsz 4) (λM0 h0=>?_)))));generalize J:upd _ M0 _=H0;replace J:=d_ h0 J;let⟨I,J⟩:=J;calc(oE a C (.ref cY) (.ref cY) dd _ rL (.inl (aG cY rL rL)) (I _ _ ha) (lQ.mv F I) is (k 4 _ rL) (oE a C (.ref dH) (.ref dH) dd _ rL (.inl (aG dH rL rL)) (I _ _ ha) (lQ.mv F I) is (k 5 _ rL) (oE a C (.ref bN) (.ref bN) dd _ rL (.inl (aG bN rL rL)) (I _ _ ha) (lQ.mv F I) is (k 6 _ rL) (Df a C (.ref bW) (.ref bW) dd _ rL (.inl (aG bW rL rL)) (I _ _ ha) (lQ.mv F I) is (k 7 _ rL) (zsz 4) (λM1 h1=>?_)))));generalize f1:upd _ M1 _=G1;let⟨t1,f1⟩:=d_ h1 f1;calc(gb M0 M1 _ _ rL rL (t1 _ _ J) f1 (by show 4+4<=sizeLine;decide) (λL1 k1=>?_));generalize e1:upd _ L1 _=H1;let⟨v1,e1⟩:=d_ k1 e1;let s1:=(I.trans t1).trans v1;calc(oE a C (.ref dB) (.ref dB) dd _ rL (.inl (aG dB rL rL)) (s1 _ _ ha) (lQ.mv F s1) is (k 8 _ rL) (oE a C (.ref fD) (.ref fD) dd _ rL (.inl (aG fD rL rL)) (s1 _ _ ha) (lQ.mv F s1) is (k 9 _ rL) (oE a C (.ref eY) (.ref eY) dd _ rL (.inl (aG eY rL rL)) (s1 _ _ ha) (lQ.mv F s1) is (k 10 _ rL) (Df a C (.ref dU) (.ref dU) dd _ rL (.inl (aG dU rL rL)) (s1 _ _ ha) (lQ.mv F s1) is (k 11 _ rL) (zsz 4) (λM2 h2=>?_)))));generalize f2:upd _ M2 _=G2;let⟨t2,f2⟩:=d_ h2 f2;calc(gb L1 M2 _ _ rL rL (t2 _ _ e1) f2 (by show 8+4<=sizeLine;decide) (λL2 k2=>?_));generalize e2:upd _ L2 _=H2;let⟨v2,e2⟩:=d_ k2 e2;let s2:=(s1.trans t2).trans v2;calc(oE a C (.ref fP) (.ref fP) dd _ rL (.inl (aG fP rL rL)) (s2 _ _ ha) (lQ.mv F s2) is (k 12 _ rL) (oE a C (.ref fj) (.ref fj) dd _ rL (.inl (aG fj rL rL)) (s2 _ _ ha) (lQ.mv F s2) is (k 13 _ rL) (Df a C (.ref fQ) (.ref fQ) dd _ rL (.inl (aG fQ rL rL)) (s2 _ _ ha) (lQ.mv F s2) is (k 14 _ rL) (zsz 3) (λM3 h3=>?_))));generalize f3:upd _ M3 _=G3;let⟨t3,f3⟩:=d_ h3 f3;calc(gb L2 M3 _ _ rL rL (t3 _ _ e2) f3 (by show 12+3<=sizeLine;decide) (λO k3=>?_));generalize e3:upd _ O _=H3;let⟨v3,e3⟩:=d_ k3 e3;let s3:=(s2.trans t3).trans v3;let Y:H3 O=some (.lst ((bits j).map V.bl)):=e3;calc⟨.inl ⟨rL,_,bM.of Y⟩,cT O (bits j) rL rL Y rL (bf _ rL ?_)⟩;let ec:V.int (((bits j).count true:Nat):Int)=V.int 1:=by rw[aby j hj];rfl
  let⟨b1,b2⟩:=ag1 j hj;calc Ls ec ?_;show⟨.inl ⟨rL,_,bM.of Y⟩,Il O (bits j) j rL rL Y b1 b2 (by show 15<=1000;decide) (q _ s3)⟩
noncomputable def Gy:Rf->List V
 | .nd=>[.int 0]
 | .lay=>[.int 1]
 | .vd .ok=>[.int (-2)]
 | .vd (.nH i j)=>[.int 2,.int i,.int j]
 | .vd .ud=>[.int 3]
 | .vd (.gap i j)=>[.int 4,.int i,.int j]
 | .vd .uf=>[.int 5]
 | .vd (.jK t)=>[.int 6,.str (S [t])]
 | .vd (.nw l)=>[.int 7,.str (S l)]
 | .few=>[.int 8]
 | .ov=>[.int 9]
def Vd.fld:Vd->Prop
 | .ok=>False
 | .ud=>False
 | .uf=>False
 | _=>True
structure DoF (K:W.Frag)(c:V9)(cs hs:List Addr):Prop where
 nd:tD K cs hs c.nd 0 [false,false,false,false,true]
 lay:tD K cs hs c.v.lay 1 [false,false,false,false,true]
 nH:tD K cs hs c.v.nH 2 [true]
 ud:tD K cs hs c.v.ud 3 [false,false,false,false,true]
 gap:tD K cs hs c.v.gap 4 [false,true]
 uf:tD K cs hs c.v.uf 5 [false,false,false,false,true]
 jK:tD K cs hs c.v.jK 6 [false,false,true]
 nw:tD K cs hs c.v.nw 7 [false,false,false,true]
 few:tD K cs hs c.few 8 [false,false,false,false,true]
 ov:tD K cs hs c.ov 9 [false,false,false,false,true]
structure afS (K:W.Frag)(c:Rn):Prop where
 tr:W.hasDictIn K c.nH=true/\W.findIn K (.ref c.nH) "row"=some none/\W.findIn K (.ref c.nH) tF=some none
 gr:W.hasDictIn K c.gap=true/\W.findIn K (.ref c.gap) "row"=some none/\W.findIn K (.ref c.gap) tF=some none
 lt:W.hasDictIn K c.jK=true/\W.findIn K (.ref c.jK) "tile"=some none
 nw:W.hasDictIn K c.nw=true/\W.findIn K (.ref c.nw) "word"=some none
def Asks (H:Hp)(Q:VK)(rf:Rf):Prop:=∀T H',aB H H'->H' T=some (.tup (Gy rf))->Q (.ref T) H'
def aae (K : W.Frag)(C CS CB CG : Addr)(c : V9) : Sp := λvs H Q _ => ∃(j x : V) (pn k : Addr), vs = [j, .ref pn, .ref k, x] /\
  ((∃(kd p : Addr) (z : Std) (dn ps : Nat) (ov : Bool) (bs : List (List Nat)) (ts : List cu), j = .non /\ x = .ref p /\ oG C H pn z dn ps ov /\ lG z /\ jd CB H k kd bs /\ jA H p (.lay ts) /\ (∀t ∈ ts, inB z.r z.w t) /\ 0<ts.length /\ ts.length <= 7 /\ gP (ts.map lF) = true /\ ∀v, qb z.aD z.r z.w z.bi z.bj bs (dF z dn) ts v -> Asks H Q (.vd v)) \/
   (∃(g ps pd : Addr) (G : Gm) (zs : List Std) (z : Std) (rf : Rf), j = .ref g /\ jT C CS CB CG H g ps pd G /\ G.sts = zs++[z] /\ lG z /\ abr G /\ mY K G z H x rf /\ Asks H Q rf))
def ae8 {C CS CB CG CR f1:Addr}{fB:FuncData}{c:V9}{cs:List Addr}(D:aO K mg "_law_asked" Iu nT)(bH:mg "len"=none)(dI:tu K CG)(zc:mg "Taken"=some (.ref c.v.nH))(Gd:mg "Gap"=some (.ref c.v.gap))(uV:mg "Lacking"=some (.ref c.v.jK))(uc:mg "NoWord"=some (.ref c.v.nw))(jc:mg "RackError"=some (.ref CR))(V:DoF K c cs [c.v.nH,c.v.gap,c.v.jK,c.v.nw,CR])(O:afS K c.v)(Gz:Meth K CG "do" f1)(GC:cU P w K mg base (vm P w) 16 f1 fB si (aeP K C CS CB CG c))(GD:cD K fB si [])(o_:DefX P w K mg base "check_laying" 14 li (IW K C CB c.v))(GJ:aaS P w K mg base "_law_kind" 1 ["_law_e"] (adu K cs [c.v.nH,c.v.gap,c.v.jK,c.v.nw,CR])):cA P w K mg base "_law_asked" 18 nT (aae K C CS CB CG c):=by
 calc D.d8 lN (λf bV A outer s H vs Q E hr h=>?_);let⟨x0,x,pn,k,rfl,h⟩:=h;calc(aG _ (au (aW (i:=4) lN.nd rL (Or.inl rL) (bF (aj (m_ kJ aq) ak))) (au (agw rL rL (λpn xe E0 σ0 hp hx=>(aF (cG (bT ahR aH K_ (bO _)) (aF (eG (mW o_ hr.mono rL hx (aj (aZ (lu K) bh aq (λ_ _=>rfl)) (aj bG (aj (aZ (lu K) (aZ (lu K) bh aq (λ_ _=>rfl)) (aJ bZ (aZ (lu K) bh aq (λ_ _=>rfl)) (aP (RM K) qA bH ay (aj (aZ (lu K) bh aq (λ_ _=>rfl)) ak))) (λ_ _=>rfl)) (aj (aZ (lu K) bU aq (λ_ _=>rfl)) ak))))))) (aF (eG (UG aH dI.cl Gz GC hr.mono GD hx (aj bU ak))))))) (Fv qA zc lN.nd (i:=5) rL qA (λ_=>(aF (aW (i:=4) lN.nd rL (Or.inl rL) (bF (aj (BP GJ (hr.mark qr _) rL (aj dD ak)) (aj (vJ K dD rL) (aj (vJ K dD rL) ak))))))) (Fv qA Gd lN.nd (i:=5) rL qA (λ_=>(aF (aW (i:=4) lN.nd rL (Or.inl rL) (bF (aj (BP GJ (hr.mark qr _) rL (aj dD ak)) (aj (vJ K dD rL) (aj (vJ K dD rL) ak))))))) (Fv qA uV lN.nd (i:=5) rL qA (λ_=>(aF (aW (i:=4) lN.nd rL (Or.inl rL) (bF (aj (BP GJ (hr.mark qr _) rL (aj dD ak)) (aj (vJ K dD rL) ak)))))) (Fv qA uc lN.nd (i:=5) rL qA (λ_=>(aF (aW (i:=4) lN.nd rL (Or.inl rL) (bF (aj (BP GJ (hr.mark qr _) rL (aj dD ak)) (aj (vJ K dD rL) ak)))))) (Fv qA jc lN.nd (i:=5) rL qA (λ_=>(aF (aW (i:=4) lN.nd rL (Or.inl rL) (bF (aj (BP GJ (hr.mark qr _) rL (aj dD ak)) ak))))) aiC)))))) (aF (bC cQ)))) ?_);calc(bJ _ rL (zsz 1) (λF0 hF0=>?_));generalize eF:upd _ F0 _=H0;let⟨J,eF⟩:=d_ hF0 eF;refine⟨λcls dd H'=>∃rf,Asks H Q rf/\XAt c H' cls dd rf/\aB H0 H',?_,?_⟩
 .rcases h with⟨kd,p,z,dn,ps,ov,bs,ts,rfl,rfl,NA,Z,BK,hd,jL,h0,h7,ri,q⟩|⟨g,ps,pd,G,zs,z,rf,rfl,A0,hz,Z,GK,hrf,q⟩
  .let⟨b,pr,pp,hn,hB,hpr,hpp⟩:=NA.ex;let⟨t,as,hp,ht,hL⟩:=hd;let n1:=Z.n1;let hrl:(Ts z.racks).length=z.racks.length:=aa _;let htn:dn%z.racks.length<z.racks.length:=pi _ n1;let emod:(dn:Int)%((Ts z.racks).length:Int)=((dn%z.racks.length:Nat):Int):=by rw[hrl];lia
   let⟨k7,kt⟩:=Z.r7 _ (ba htn);let hn0:=J _ _ hn;let ai5:=J _ _ hpr;rw[Kd htn]at q;calc⟨rL,cH ?_⟩;refine⟨rL,aY pn _ _ (.ref b) rL rL (aQ.of hn0) (aM (j:=0) rL) (aY pn _ _ (.ref pr) rL rL (aQ.of hn0) (aM (j:=1) rL) (aY pn _ _ (.int dn) rL rL (aQ.of hn0) (aM (j:=4) rL) (aY pn _ _ (.ref pr) rL rL (aQ.of hn0) (aM (j:=1) rL) (aK pr _ rL (.inr (aQ.of ai5)) (aU _ _ rL rL (by show (0:Int)<_;rw[hrl];lia) (aY pr _ _ (.str (S z.racks[dn%z.racks.length])) rL rL (aQ.of ai5) (by rw[emod];show aM (lE (ac htn))) (aY p _ _ (.ref t) rL rL (aQ.of (J _ _ hp)) (aM (j:=1) rL) (Fx b k kd bs (z.racks[dn%z.racks.length]) (.ref t) z.r z.w z.aD z.aV z.bi z.bj rL (hB.mv J) (BK.mv J) qk (.inr (SX t as ts rL (J _ _ ht) (hL.mv J) jL h0 h7 ri (λv cls dd H' hv hx s'=>(bJ (.vd v) (q v hv) hx s')) (λhv H1 s1=>(q .ok hv F0 H1 (J.trans s1) (s1 _ _ eF)))))))))))))⟩
  .let⟨dx,_,_,_,_,hg,_⟩:=A0.ex;show⟨rL,cI ⟨rL,dJ g dx _ rL (J _ _ hg) rL ⟨g,ps,pd,x,G,zs,z,rL,A0.mv J,hz,Z,GK,.inl (aG rf (hrf.mv J) (λcls dd H' hx s'=>(bJ rf q hx s')))⟩⟩⟩
 .intro a cls dd H' z na;let⟨rf,q,hx,s1⟩:=z;let s2:aB H' (upd H' a (HO.ext (xJ a cls dd))):=aB.upd na;let ha:upd H' a (HO.ext (xJ a cls dd)) a=some (.ext (xJ a cls dd)):=aA;let sH:=(J.trans s1).trans s2;generalize upd H' a (HO.ext (xJ a cls dd))=H2 at s2 ha sH ⊢;let hp:(∃(C:Addr) (j:Nat),tD K cs [c.v.nH,c.v.gap,c.v.jK,c.v.nw,CR] C j [false,false,false,false,true]/\cls=.ref C/\dd=none/\Gy rf=[.int j])\/∃v,rf=.vd v/\v.fld:=by
   cases rf with
   | nd=>show .inl (aU _ 0 V.nd hx.1 hx.2 rL)
   | lay=>show .inl (aU _ 1 V.lay hx.1 hx.2 rL)
   | few=>show .inl (aU _ 8 V.few hx.1 hx.2 rL)
   | ov=>show .inl (aU _ 9 V.ov hx.1 hx.2 rL)
   | vd v=>
    cases v with| ok=>show hx.elim| ud=>show .inl (aU _ 3 V.ud hx.1 hx.2 rL)| uf=>show .inl (aU _ 5 V.uf hx.1 hx.2 rL)| _=>show .inr (aG _ rL True.intro)
  rcases hp with⟨C,j,ci,rfl,rfl,e3⟩|⟨v,rfl,hv⟩
  .calc .inr ⟨ci.ex 0 _ _ rL rL,.inr ⟨ci.ex 1 _ _ rL rL,.inr ⟨ci.ex 2 _ _ rL rL,.inr ⟨ci.ex 3 _ _ rL rL,.inl ⟨ci.ex 4 _ _ rL rL,?_⟩⟩⟩⟩⟩;calc(su a C none j _ rL ha True.intro ci (λH3 I=>⟨zsz 1,λT Y=>(q T _ (sH.trans (I.trans (aB.upd Y))) ?_)⟩));rw[aA,e3]
  .cases v with
   | ok=>show hv.elim
   | ud=>show hv.elim
   | uf=>show hv.elim
   | nH i j=>let⟨rfl,dx,rfl,hd⟩:=hx;let F:=s2 _ _ hd;calc .inl ⟨V.nH.ex 0 _ _ rL rL,?_⟩;show(su a _ (some dx) 2 _ rL ha ⟨_,F⟩ V.nH (λH3 I=>⟨a,_,dx,_,_,rL,I _ _ ha,I _ _ F,V.nH.is,O.tr.1,O.tr.2.1,rL,S7 a _ dx _ _ rL (I _ _ ha) (I _ _ F) V.nH.is O.tr.1 O.tr.2.2 rL (zsz 3) (λT Y=>(q T _ (sH.trans (I.trans (aB.upd Y))) aA))⟩))
   | gap i j=>let⟨rfl,dx,rfl,hd⟩:=hx;let F:=s2 _ _ hd;calc .inr ⟨V.gap.ex 0 _ _ rL rL,.inl ⟨V.gap.ex 1 _ _ rL rL,?_⟩⟩;show(su a _ (some dx) 4 _ rL ha ⟨_,F⟩ V.gap (λH3 I=>⟨a,_,dx,_,_,rL,I _ _ ha,I _ _ F,V.gap.is,O.gr.1,O.gr.2.1,rL,S7 a _ dx _ _ rL (I _ _ ha) (I _ _ F) V.gap.is O.gr.1 O.gr.2.2 rL (zsz 3) (λT Y=>(q T _ (sH.trans (I.trans (aB.upd Y))) aA))⟩))
   | jK t=>let⟨rfl,dx,rfl,hd⟩:=hx;let F:=s2 _ _ hd;calc .inr ⟨V.jK.ex 0 _ _ rL rL,.inr ⟨V.jK.ex 1 _ _ rL rL,.inl ⟨V.jK.ex 2 _ _ rL rL,?_⟩⟩⟩;show(su a _ (some dx) 6 _ rL ha ⟨_,F⟩ V.jK (λH3 I=>(S7 a _ dx _ _ rL (I _ _ ha) (I _ _ F) V.jK.is O.lt.1 O.lt.2 rL (zsz 2) (λT Y=>(q T _ (sH.trans (I.trans (aB.upd Y))) aA)))))
   | nw l=>let⟨rfl,dx,rfl,hd⟩:=hx;let F:=s2 _ _ hd;calc .inr ⟨V.nw.ex 0 _ _ rL rL,.inr ⟨V.nw.ex 1 _ _ rL rL,.inr ⟨V.nw.ex 2 _ _ rL rL,.inl ⟨V.nw.ex 3 _ _ rL rL,?_⟩⟩⟩⟩;show(su a _ (some dx) 7 _ rL ha ⟨_,F⟩ V.nw (λH3 I=>(S7 a _ dx _ _ rL (I _ _ ha) (I _ _ F) V.nw.is O.nw.1 O.nw.2 rL (zsz 2) (λT Y=>(q T _ (sH.trans (I.trans (aB.upd Y))) aA)))))
open Classical in
def ddN {H:Hp}{p:Addr}{xs:List V}{ds:List Dt}(h:H p=some (.tup xs))(h2:xs.length≠2)(hd:d9 K H 1 ds xs)(ne:Dt.tup ds≠.tup [.str fG]):o9 K H (.ref p) false:=by have:=o9.one h h2 hd;rw[af ne]at this;show this
def swN {H:Hp}{p:Addr}{l:List Nat}(h:H p=some (.tup [.str (S dO),.str (S l)]))(h63:l.length<=63)(e:J_ l=false):o9 K H (.ref p) false:=e ▸ .swp h h63
def fH {P:V->Prop}{x:V}{xs:List V}(h:P x)(t:∀v∈xs,P v):∀v∈x::xs,P v:=List.forall_mem_cons.mpr ⟨h,t⟩
def adx {P:V->Prop}:∀v∈([]:List V),P v:=λ_ h=>by cases h
def pick {xs:List V}{n:Nat}(c:Int)(hl:xs.length=n)(h0:0<n):∃v,tV xs (c%(n:Int))=some v/\v∈xs:=by
 let b0:=df c (show (n:Int)≠0 by lia);let b1:=dq c (show (0:Int)<n by lia);let j:(c%(n:Int)).toNat<xs.length:=qk;calc(aG (xs[(c%(n:Int)).toNat]) ?_ (ba j));have:=aM (ac j)
 rwa [cy b0]at this
def Wv (K:W.Frag):Sp:=λvs H Q _=>∃c:Int,vs=[.int c]/\∀v H',aB H H'->o9 K H' v false->Q v H'
def abA (D:aO K mg "_law_no_deed" zW rX):cA P w K mg base "_law_no_deed" 1 rX (Wv K):=by calc D.d8 Mu (λf bV A outer s H vs Q E hr h=>?_);let⟨c,rfl,q⟩:=h;calc(aG _ (au (aW (i:=1) Mu.nd rL (Or.inl rL) (g_ (aj (bF ak) (aj K_ (aj aq (aj jr (aj (bA [112,97,115,115] qS) (aj (bF (aj (bA [112,97,115,115] qS) (aj aq ak))) (aj (bF (aj (bA [108,97,121] qS) ak)) (aj (bF (aj (bA [115,119,97,112] qS) ak)) (aj (bF (aj (bA [115,119,97,112] qS) (aj (bA [] qS) ak))) (aj (bF (aj (bA [115,119,97,112] qS) (aj (bA [65] qS) ak))) (aj (bF (aj (bA [115,119,97,112] qS) (aj (bA [97,49] qS) ak))) ak))))))))))))) (aF (bC (aZ gA (aJ yN bh (g_ (aj (bF (aj (bA [115,119,97,112] qS) (aj (bF (aj (bA [97] qS) ak)) ak))) (aj (bF (aj (bA [115,119,97,112] qS) (aj aq ak))) (aj (bF (aj (bA [98,97,99,107] qS) ak)) (aj (bF (aj (bF (aj (bA [112,97,115,115] qS) ak)) ak)) (aj (bF (aj (bA [108,97,121] qS) (aj (bF ak) (aj (bF ak) ak)))) ak))))))) (aJ bZ aH aq) (λ_ _=>rfl))))) ?_);calc⟨zsz 0,λT0 h0=>?_⟩;generalize e0:upd _ T0 _=H0;let⟨s0,e0⟩:=d_ h0 e0;calc⟨zsz 2,λT1 h1=>?_⟩;generalize e1:upd _ T1 _=H1;let⟨s1,e1⟩:=d_ h1 e1;calc⟨zsz 1,λT2 h2=>?_⟩;generalize e2:upd _ T2 _=H2;let⟨s2,e2⟩:=d_ h2 e2;calc⟨zsz 1,λT3 h3=>?_⟩;generalize e3:upd _ T3 _=H3;let⟨s3,e3⟩:=d_ h3 e3;calc⟨zsz 2,λT4 h4=>?_⟩;generalize e4:upd _ T4 _=H4;let⟨s4,e4⟩:=d_ h4 e4;calc⟨zsz 2,λT5 h5=>?_⟩;generalize e5:upd _ T5 _=H5;let⟨s5,e5⟩:=d_ h5 e5;calc⟨zsz 2,λT6 h6=>?_⟩;generalize e6:upd _ T6 _=H6;let⟨s6,e6⟩:=d_ h6 e6;calc⟨zsz 11,λL7 h7=>?_⟩;generalize e7:upd _ L7 _=H7;let⟨s7,e7⟩:=d_ h7 e7;calc⟨zsz 1,λT8 h8=>?_⟩;generalize e8:upd _ T8 _=H8;let⟨s8,e8⟩:=d_ h8 e8;calc⟨zsz 2,λT9 h9=>?_⟩;generalize e9:upd _ T9 _=H9;let⟨s9,e9⟩:=d_ h9 e9;calc⟨zsz 2,λF h10=>?_⟩;generalize I:upd _ F _=Ui;let⟨Fi,I⟩:=d_ h10 I;calc⟨zsz 1,λWw h11=>?_⟩;generalize Wx:upd _ Ww _=Rw;let⟨vq,Wx⟩:=d_ h11 Wx;calc⟨zsz 1,λT12 h12=>?_⟩;generalize Ae:upd _ T12 _=H12;let⟨s12,Ae⟩:=d_ h12 Ae;calc⟨zsz 1,λG h13=>?_⟩;generalize Wy:upd _ G _=H13;let⟨qz,Wy⟩:=d_ h13 Wy;calc⟨zsz 0,λT14 h14=>?_⟩;generalize Wz:upd _ T14 _=H14;let⟨Cq,Wz⟩:=d_ h14 Wz;calc⟨zsz 0,λT15 h15=>?_⟩;generalize WK:upd _ T15 _=H15;let⟨Cp,WK⟩:=d_ h15 WK;calc⟨zsz 3,λj h16=>?_⟩;generalize WL:upd _ j _=H16;let⟨uY,WL⟩:=d_ h16 WL;calc⟨zsz 5,λJ h17=>?_⟩;generalize WM:upd _ J _=H17;let⟨s17,WM⟩:=d_ h17 WM;calc(gb L7 J _ _ rL rL ((((((((((s8.trans s9).trans Fi).trans vq).trans s12).trans qz).trans Cq).trans Cp).trans uY).trans s17) _ _ e7) WM (by show 11+5<=sizeLine;decide) (λL h=>?_));generalize WQ:upd _ L _=H18;let⟨s18,WQ⟩:=d_ h WQ;let r18:=aB.refl H18;let r17:=s18.trans r18;let r16:=s17.trans r17;let r15:=uY.trans r16;let Y:=Cp.trans r15;let O:=Cq.trans Y;let r12:=qz.trans O;let r11:=s12.trans r12;let Z:=vq.trans r11;let r9:=Fi.trans Z;let r8:=s9.trans r9;let r7:=s8.trans r8;let r6:=s7.trans r7;let r5:=s6.trans r6;let r4:=s5.trans r5;let r3:=s4.trans r4;let r2:=s3.trans r3;let r1:=s2.trans r2;let r0:=s1.trans r1;let rA:=s0.trans r0;let⟨v,hv,hm⟩:=pick (n:=16) (xs:=[.ref T0,.non,.int 0,.bl true,.str (S [112,97,115,115]),.ref T1,.ref T2,.ref T3,.ref T4,.ref T5,.ref T6]++[.ref T9,.ref F,.ref Ww,.ref G,.ref j]) c rL qr;let all:∀v∈([.ref T0,.non,.int 0,.bl true,.str (S [112,97,115,115]),.ref T1,.ref T2,.ref T3,.ref T4,.ref T5,.ref T6]++[.ref T9,.ref F,.ref Ww,.ref G,.ref j]:List V),o9 K H18 v false:=fH (ddN (r0 _ _ e0) qo .nil (by simp[fG])) (fH (.ty (aG _ (.non) qB)) (fH (.ty (aG _ (.int _) qB)) (fH (.ty (aG _ (.bl _) qB)) (fH (.ty (aG _ (.str _) qB)) (fH (.oth (r1 _ _ e1) qr qr) (fH (ddN (r2 _ _ e2) qo (.cons (.str _ qr) .nil) (by simp[fG])) (fH (ddN (r3 _ _ e3) qo (.cons (.str _ qr) .nil) (by simp[fG])) (fH (swN (r4 _ _ e4) qr qr) (fH (swN (r5 _ _ e5) qr qr) (fH (swN (r6 _ _ e6) qr qr) (fH (.sw2 (r9 _ _ e9) (aG _ (.tup (r8 _ _ e8)) qB)) (fH (.sw2 (Z _ _ I) (aG _ (.int _) qB)) (fH (ddN (r11 _ _ Wx) qo (.cons (.str _ qr) .nil) (by simp[fG])) (fH (ddN (O _ _ Wy) qo (.cons (.tup (aQ.of (r12 _ _ Ae)) (.cons (.str _ qr) .nil)) .nil) (by simp[fG])) (fH (ddN (r16 _ _ WL) qo (.cons (.str _ qr) (.cons (.tup (aQ.of (Y _ _ Wz)) .nil) (.cons (.tup (aQ.of (r15 _ _ WK)) .nil) .nil))) (by simp[fG])) adx)))))))))))))));show(aU _ _ rL rL (by show (0:Int)<16;decide) (aY L _ _ v rL rL (bM.of WQ) hv (q v _ rA (all v hm))))
def Kh (K:W.Frag)(r w:Nat)(H:Hp)(v:V):Prop:=∃o,M5 K H v o/\layB r w o=false
def Kh.mv {r w:Nat}{H H':Hp}{v:V}(h:Kh K r w H v)(s:aB H H'):Kh K r w H' v:=let ⟨o,a,b⟩:=h;(aG o (a.mv s) b)
def jR.app {H:Hp}{xs ys:List V}{os ps:List tZ}(h:jR K H xs os)(g:jR K H ys ps):jR K H (xs++ys) (os++ps):=by
 calc⟨by rw[am,am,h.len,g.len],λi a x h1 h2=>?_⟩;by_cases c:i<xs.length
 .rw[dE c]at h1;rw[dE (by rw[<-h.len];show c)]at h2;show h.at_ i a x h1 h2
 .rw[du qk]at h1;rw[du (by rw[<-h.len];lia),<-h.len]at h2;show g.at_ _ a x h1 h2
def jR.nil {H:Hp}:jR K H [] []:=⟨rL,λi a x h=>by simp at h⟩
def jR.one {H:Hp}{x:V}{o:tZ}(h:zZ K H x o):jR K H [x] [o]:=⟨rL,λi b y h1 h2=>by
 match i,h1,h2 with
 | 0,h1,h2=>have e1:x=b:=bq h1;let e2:o=y:=bq h2;rw[<-e1,<-e2];show h
 | n+1,h1,h2=>show absurd h1 qo⟩
def Kh.of {r w:Nat}{H:Hp}{p:Addr}{xs:List V}{os:List tZ}(h:H p=some (.tup xs))(hp:jR K H xs os)(h1:os.length<=100)(hb:layB r w (some os)=false):Kh K r w H (.ref p):=(aG _ (.tup h hp h1) hb)
def aaf (K:W.Frag):Sp:=λvs H Q _=>∃(c:Int) (pr:Addr) (aD:AA) (w:Nat),vs=[.int c,.ref pr]/\H pr=some (.tup (Ts aD))/\∀v H',aB H H'->Kh K aD.length w H' v->Q v H'
def WR (D:aO K mg "_law_no_laying" wJ rS)(bH:mg "len"=none):cA P w K mg base "_law_no_laying" 1 rS (aaf K):=by calc D.d8 yW (λf bV A outer s H vs Q E hr h=>?_);let⟨c,pr,aD,w,rfl,hpr,q⟩:=h;calc(aG _ (au (aW (i:=2) yW.nd rL (Or.inl rL) (bF (aj (aP b_ qA bH ay (aj bh ak)) (aj aq (aj (bA [97] qS) ak))))) (au (aW (i:=3) yW.nd rL (Or.inl rL) (g_ (aj (bF ak) (aj K_ (aj (bA [108,97,121] qS) (aj aq (aj (bF (aj bG ak)) (aj (bF (aj (bF (aj aq (aj aq (aj (bA [63] qS) ak)))) ak)) (aj (bF (aj (bF (aj aq (aj aq (aj (bA [97,98] qS) ak)))) ak)) (aj (bF (aj (bF (aj aq (aj aq ak))) ak)) (aj (bF (aj (bF (aj aq (aj aq (aj (bA [97] qS) ak)))) (aj (bF (aj aq (aj aq (aj (bA [98] qS) ak)))) ak))) ak))))))))))) (aF (bC (aZ gA (aJ yN bU (g_ (aj (bF (aj (bF (aj aq (aj aq (aj (bA [97] qS) ak)))) (aj (bF (aj aq (aj aq (aj (bA [97] qS) ak)))) ak))) (aj (bF (aj (bF (aj jr (aj aq (aj (bA [97] qS) ak)))) ak)) (aj (bF (aj (bF (aj (m_ kJ aq) (aj aq (aj (bA [97] qS) ak)))) ak)) ak))))) (aJ bZ aH aq) (λ_ _=>rfl)))))) ?_);calc(aU pr _ rL (.inr (aQ.of hpr)) (zsz 3) (λT0 h0=>?_));generalize e0:upd _ T0 _=H0;let⟨s0,e0⟩:=d_ h0 e0;calc⟨zsz 0,λT1 h1=>?_⟩;generalize e1:upd _ T1 _=H1;let⟨s1,e1⟩:=d_ h1 e1;calc⟨zsz 1,λT2 h2=>?_⟩;generalize e2:upd _ T2 _=H2;let⟨s2,e2⟩:=d_ h2 e2;calc⟨zsz 3,λT3 h3=>?_⟩;generalize e3:upd _ T3 _=H3;let⟨s3,e3⟩:=d_ h3 e3;calc⟨zsz 1,λT4 h4=>?_⟩;generalize e4:upd _ T4 _=H4;let⟨s4,e4⟩:=d_ h4 e4;calc⟨zsz 3,λT5 h5=>?_⟩;generalize e5:upd _ T5 _=H5;let⟨s5,e5⟩:=d_ h5 e5;calc⟨zsz 1,λT6 h6=>?_⟩;generalize e6:upd _ T6 _=H6;let⟨s6,e6⟩:=d_ h6 e6;calc⟨zsz 2,λT7 h7=>?_⟩;generalize e7:upd _ T7 _=H7;let⟨s7,e7⟩:=d_ h7 e7;calc⟨zsz 1,λT8 h8=>?_⟩;generalize e8:upd _ T8 _=H8;let⟨s8,e8⟩:=d_ h8 e8;calc⟨zsz 3,λT9 h9=>?_⟩;generalize e9:upd _ T9 _=H9;let⟨s9,e9⟩:=d_ h9 e9;calc⟨zsz 3,λT10 h10=>?_⟩;generalize O:upd _ T10 _=Ui;let⟨Fi,O⟩:=d_ h10 O;calc⟨zsz 2,λWw h11=>?_⟩;generalize Wx:upd _ Ww _=Rw;let⟨vq,Wx⟩:=d_ h11 Wx;calc⟨zsz 9,λL12 h12=>?_⟩;generalize Ae:upd _ L12 _=H12;let⟨s12,Ae⟩:=d_ h12 Ae;calc⟨zsz 3,λT13 h13=>?_⟩;generalize Wy:upd _ T13 _=H13;let⟨qz,Wy⟩:=d_ h13 Wy;calc⟨zsz 3,λT14 h14=>?_⟩;generalize Wz:upd _ T14 _=H14;let⟨Cq,Wz⟩:=d_ h14 Wz;calc⟨zsz 2,λj h15=>?_⟩;generalize WK:upd _ j _=H15;let⟨Cp,WK⟩:=d_ h15 WK;calc⟨zsz 3,λT16 h16=>?_⟩;generalize WL:upd _ T16 _=H16;let⟨uY,WL⟩:=d_ h16 WL;calc⟨zsz 1,λF h17=>?_⟩;generalize WM:upd _ F _=H17;let⟨s17,WM⟩:=d_ h17 WM;calc(bJ _ rL (zsz 3) (λT18 h18=>?_));generalize WQ:upd _ T18 _=H18;let⟨s18,WQ⟩:=d_ h18 WQ;calc⟨zsz 1,λJ h19=>?_⟩;generalize Y:upd _ J _=H19;let⟨s19,Y⟩:=d_ h19 Y;calc⟨zsz 3,λL20 h20=>?_⟩;generalize G:upd _ L20 _=H20;let⟨s20,G⟩:=d_ h20 G;calc(gb L12 L20 _ _ rL rL ((((((((qz.trans Cq).trans Cp).trans uY).trans s17).trans s18).trans s19).trans s20) _ _ Ae) G (by show 9+3<=sizeLine;decide) (λL h=>?_));generalize I:upd _ L _=H21;let⟨s21,I⟩:=d_ h I;let r21:=aB.refl H21;let r20:=s21.trans r21;let r19:=s20.trans r20;let Z:=s19.trans r19;let r17:=s18.trans Z;let r16:=s17.trans r17;let r15:=uY.trans r16;let r14:=Cp.trans r15;let r13:=Cq.trans r14;let r12:=qz.trans r13;let r11:=s12.trans r12;let r10:=vq.trans r11;let r9:=Fi.trans r10;let r8:=s9.trans r9;let r7:=s8.trans r8;let r6:=s7.trans r7;let r5:=s6.trans r6;let r4:=s5.trans r5;let r3:=s4.trans r4;let r2:=s3.trans r3;let r1:=s2.trans r2;let r0:=s1.trans r1;let rA:=s0.trans r0;let⟨v,hv,hm⟩:=pick (n:=12) (xs:=[.ref T1,.non,.str (S [108,97,121]),.int 7,.ref T2,.ref T4,.ref T6,.ref T8,.ref Ww]++[.ref j,.ref F,.ref J]) c rL qr;let all:∀v∈([.ref T1,.non,.str (S [108,97,121]),.int 7,.ref T2,.ref T4,.ref T6,.ref T8,.ref Ww]++[.ref j,.ref F,.ref J]:List V),Kh K aD.length w H21 v:=fH (.of (r1 _ _ e1) .nil qr rL) (fH ((aG none (.no (aG _ (.non) qB)) rL)) (fH ((aG none (.no (aG _ (.str _) qB)) rL)) (fH ((aG none (.no (aG _ (.int _) qB)) rL)) (fH (.of (r2 _ _ e2) (jR.one (.tri (r0 _ _ e0) (.int _) (.int _) (.str _ qr))) qo (by simp[layB,mU,rm,Gb,uJ,uI,vo,gP,wK,ltQ])) (fH (.of (r4 _ _ e4) (jR.one (.tri (r3 _ _ e3) (.int _) (.int _) (.str _ qr))) qo (by simp[layB,mU,rm,Gb,uJ,uI,vo,gP,wK,ltQ])) (fH (.of (r6 _ _ e6) (jR.one (.tri (r5 _ _ e5) (.int _) (.int _) (.str _ qr))) qo (by simp[layB,mU,rm,Gb,uJ,uI,vo,gP,wK,ltQ])) (fH (.of (r8 _ _ e8) (jR.one (.bad (r7 _ _ e7) qo)) qo (by simp[layB,mU,rm,Gb,uJ,uI,vo,gP,wK,ltQ])) (fH (.of (r11 _ _ Wx) ((jR.one (.tri (r9 _ _ e9) (.int _) (.int _) (.str _ qr))).app (jR.one (.tri (r10 _ _ O) (.int _) (.int _) (.str _ qr)))) qo (by simp[layB,mU,rm,Gb,uJ,uI,vo,gP,wK,ltQ])) (fH (.of (r15 _ _ WK) ((jR.one (.tri (r13 _ _ Wy) (.int _) (.int _) (.str _ qr))).app (jR.one (.tri (r14 _ _ Wz) (.int _) (.int _) (.str _ qr)))) qo (by simp[layB,mU,rm,Gb,uJ,uI,vo,gP,wK,ltQ])) (fH (.of (r17 _ _ WM) (jR.one (.tri (r16 _ _ WL) (.bl _) (.int _) (.str _ qr))) qo (by simp[layB,mU,rm,Gb,uJ,uI,vo,gP,wK,ltQ])) (fH (.of (r19 _ _ Y) (jR.one (.tri (Z _ _ WQ) (.int _) (.int _) (.str _ qr))) qo (by simp[layB,mU,rm,Gb,uJ,uI,vo,gP,wK,ltQ])) adx)))))))))));show(aU _ _ rL rL (by show (0:Int)<12;decide) (aY L _ _ v rL rL (bM.of I) hv (q v _ rA (all v hm))))
def zx (l:List Nat)(lo hi:Option Int):jy (Ts (l.map λc=>[c])) lo hi=Ts ((iY l lo hi).map λc=>[c]):=by unfold jy iY;rw[aa,aa];simp only[Ts,List.map_take,mw]
def ZA:List Nat:=[122,121,120,119,118,117,116,115,114,113,112,111,110,109,108,107,106,105,104,103,102,101,100,99,98,97]
def ady:∀c∈ZA,isLet c:=by unfold isLet;decide
theorem afT:∀(ls:List Nat),(ZA.countP λc=>decide (c∈ls))<=ls.length
 | []=>by decide
 | c::ls=>by
  let h1:(ZA.countP λd=>decide (d=c))<=1:=by
   by_cases h:c∈ZA;.show(show ∀c∈ZA,(ZA.countP λd=>decide (d=c))<=1 by decide) c h
   .rw[List.countP_eq_zero.mpr λd hd=>by simpa using λe:d=c=>h (e ▸ hd)];show fe _
  let h2:=afT ls;let h3:∀l:List Nat,(l.countP λd=>decide (d∈c::ls))<=(l.countP λd=>decide (d=c))+l.countP λd=>decide (d∈ls):=by
   intro l
   induction l with
   | nil=>show ax _
   | cons d l ih=>
    rw[pV,pV,pV];have:(if decide (d∈c::ls)=true then 1 else 0)<=(if decide (d=c)=true then 1 else 0)+(if decide (d∈ls)=true then 1 else 0):=by by_cases e1:d=c <;> by_cases e2:d∈ls <;> simp[e1,e2]
    lia
  have:=h3 ZA;rw[dA];lia
def ag3 {bB ls:List Nat}(h:∀c∈bB,xW ls c)(h4:ls.length<=4):22<=(ZA.filter λc=>!decide (c∈bB)).length:=by
 let h1:=afT ls;let h2:(ZA.filter λc=>!decide (c∈bB)).length=ZA.countP λc=>!decide (c∈bB):=List.countP_eq_length_filter.symm;let h3:=List.length_eq_countP_add_countP (p:=λc=>decide (c∈bB)) (l:=ZA);let j:(ZA.countP λc=>decide (c∈bB))<=ZA.countP λc=>decide (c∈ls):=List.countP_mono_left λc F hr=>by
  rcases h c (dC hr) with e|e;.show ai e
  .have:=(ady c F).1;lia
 let h5:ZA.length=26:=rfl;let D:(ZA.countP λc=>decide ¬decide (c∈bB)=true)=ZA.countP λc=>!decide (c∈bB):=by congr 1;funext c;by_cases e:c∈bB <;> simp[e]
 rw[D]at h3;lia
def afU:Sp:=λvs H Q _=>∃(bB ls:List Nat) (c0:Nat) (x:Int),vs=[.str (S bB),.str (S [c0]),.int x]/\bB.length<=7/\(∀c∈bB,xW ls c)/\ls.length<=4/\(∀c∈ls,isLet c)/\isLet c0/\
 ∀l H',aB H H'->l.length<=63->bB.length<l.length->(∀c∈l,o8 c)->Q (.str (S l)) H'
def abB (D:aO K mg "_law_swapped" zX rb):cA P w K mg base "_law_swapped" 1 rb afU:=by
 calc D.d8 Mw (λf bV A outer s H vs Q E hr h=>?_);let⟨bB,ls,c0,x,rfl,h7,hal,h4,hlz,Y,q⟩:=h;let G:∀c∈bB,o8 c:=λc F=>(hal c F).tl hlz;let haw:=ag3 hal h4;let hzr:bB.length<=sizeLine:=ap (aN qk);calc(aG _ (au (aW (i:=3) Mw.nd rL (Or.inl rL) (dj oN (dj oN (lY (ns:=["_law_one"]) rL (kh.of [t7,"_law_letter",tI,"_law_away"] [] qB) (qG (bA [122,121,120,119,118,117,116,115,114,113,112,111,110,109,108,107,106,105,104,103,102,101,100,99,98,97] qS)) (λ_ _ _ _ _=>(Ih (show (["_law_one",t7,"_law_letter",tI,"_law_away"]:List Str).Nodup by decide +kernel) rL qA)) (λ_ _ _ _ _=>(af7 (bT acC aH bh rL))) (λ_ _ _ _ _=>aH)) (dM (aJ bZ (aJ cV bG aq) aq)) eO) eO (dM aq))) (au (cG (bT iC (aJ bZ bG aq) aq (bO _)) (aF (bC (aJ jt aH (aJ Ii (bA [63] qS) aq)))) bR) (au (cG (bT iC (aJ bZ bG aq) aq (bO _)) (aF (bC (aJ jt aH (aJ Ii bh aq)))) bR) (au (cG (bT iC (aJ bZ bG aq) aq (bO _)) (aF (bC (aJ jt (aJ jt (gG bv cE cK oR (bA [] qS) (aj (dj oN bU eO (dM aq)) ak)) (YQ aH (m_ kJ aq))) (gG bv cE cK oR (bA [] qS) (aj (dj oN bU (dM aq) eO) ak))))) bR) (aF (bC (aJ jt (aJ jt (YQ (dj qm aH (dM (aJ bZ (aJ cV bG aq) aq)) eO) (m_ kJ aq)) (aJ Ii (dj qm (aJ jt aH bh) eO (dM aq)) aq)) (gG bv cE cK oR (bA [] qS) (aj (dj oN bU (dM aq) eO) ak))))))))) ?_);refine(aG ZA rL (λL hL=>aaI (l:=ZA) (f:=kE [] 0) (tt:=aar (TF Y8 (N6 0) (N6 1))) (te:=N6 0) (λn ys H5=>ys=Ts (((ZA.take n).filter λc=>!decide (c∈bB)).map λc=>[c])/\H5 L=some (.lst ys)/\aB H H5) (cj rL aA (aB.upd hL)) ?_ ?_))
 .intro n c ys H5 hx z;let⟨rfl,JD,sm⟩:=z;let hn:n<ZA.length:=(ah.mp hx).1;let hn2:n<26:=hn;let et:(ZA.take (n+1)).filter (λc=>!decide (c∈bB))=(ZA.take n).filter (λc=>!decide (c∈bB))++[c].filter (λc=>!decide (c∈bB)):=by rw[c8,hx,og];rfl
  calc(aK c bB rL rL (bf _ rL ?_));by_cases F:c∈bB
  .rw[ai F];calc cI (iV.mk hn (cj ?_ JD sm));rw[et];simp[F]
  .rw[af F];refine cH (cj JD ?_ (iV.mk hn (cj ?_ aA (sm.eE hL))))
   .rw[aa,aa];show aN (b8 (List.length_filter_le _ _) (by rw[av];lia))
   .rw[et];simp[F,Ts]
 .intro ys H5 z;let⟨rfl,JD,sm⟩:=z;rw[cw]at JD;obtain⟨k,ek,hk⟩:∃k:Nat,x/8%20=(k:Int)/\k<20:=(aG ((x/8%20).toNat) qk qk)
  calc(aU _ _ rL rL ⟨qr,qr⟩ (aU _ _ rL rL (by show (0:Int)<20;decide) (aG _ rL (aK L _ rL (bM.of JD) (λM hM=>?_)))));generalize eM:upd _ M _=H6;let⟨sM,eM⟩:=d_ hM eM;calc(aG _ rL (aK M _ rL (bM.of eM) (λN hN=>?_)));generalize J:upd _ N _=H7;let⟨sN,J⟩:=d_ hN J;let s7:=(sm.trans sM).trans sN;obtain⟨I,J,a1,a4,az⟩:∃I:List Nat,H7 N=some (.lst (Ts (I.map λc=>[c])))/\1<=I.length/\I.length<=4/\∀c∈I,o8 c:=by
   rw[zx,zx]at J;calc(iU _ J ?_ ?_ (λc F=>.inl (ady c ?_)));.rw[show x/8%20=(k:Int) from ek,iH,show (4:Int)=((4:Nat):Int) from rL,j9,av,aS];lia
   .rw[show (4:Int)=((4:Nat):Int) from rL,j9,av];lia
   .show(js.mp (Ds (Ds F))).1
  calc(cT _ _ rL rL (by show (0:Int)<4;decide) rL (bf _ rL ?_));refine iR (λ_=>?_) (λ_=>?_)
  .calc(wj [63] 8 rL rL qr qr qr (aU bB ((List.replicate 8 [63]).flatten) rL rL ?_ (q _ H7 s7 ?_ ?_ λc F=>?_)));.show ap (aN (by show _+8<=_;lia))
   .rw[am];show _+8<=_;lia
   .rw[am];show _<_+8;lia
   .rcases be.mp F with e|e;.show G c e
    .show .inr ((show ∀c∈(List.replicate 8 [63]).flatten,c=63 by decide) c e)
  calc(cT _ _ rL rL (by show (0:Int)<4;decide) rL (bf _ rL ?_));refine iR (λ_=>?_) (λ_=>?_)
  .let el:(List.replicate 8 [c0]).flatten=List.replicate 8 c0:=rfl;calc(wj [c0] 8 rL rL qr qr (by show 1<1000;decide) (aU bB ((List.replicate 8 [c0]).flatten) rL rL ?_ (q _ H7 s7 ?_ ?_ λc F=>?_)));.show ap (aN (by show _+8<=_;lia))
   .rw[am];show _+8<=_;lia
   .rw[am];show _<_+8;lia
   .rcases be.mp F with e|e;.show G c e
    .rw[el]at e;rw[i8 e];show .inl Y
  calc(cT _ _ rL rL (by show (0:Int)<4;decide) rL (bf _ rL ?_));refine iR (λ_=>?_) (λ_=>?_)
  .calc⟨rL,aG _ rL (aK N _ rL (bM.of J) (λA1 hA1=>?_))⟩;generalize e1:upd _ A1 _=H8;let⟨t1,e1⟩:=d_ hA1 e1;rw[zx]at e1;calc(cT A1 _ rL rL (bM.of e1) ?_ (aG _ rL (iU bB rL rL hzr (cT (I.take 2) bB.reverse ?_ rL ?_ rL (aG _ rL (aK N _ rL (bM.of (t1 _ _ J)) (λA2 O=>?_)))))));.rw[jV,show (2:Int)=((2:Nat):Int) from rL,j9,av];lia
   .rw[jV,show (2:Int)=((2:Nat):Int) from rL,j9]
   .rw[av,eW];show ap (aN qk)
   generalize e2:upd _ A2 _=H9;let⟨t2,e2⟩:=d_ O e2;rw[zx]at e2;calc(cT A2 _ rL rL (bM.of e2) ?_ (aU (I.take 2++bB.reverse) (I.drop 2) rL ?_ ?_ (q _ H9 ((s7.trans t1).trans t2) ?_ ?_ λc F=>?_)));.rw[jV,show (2:Int)=((2:Nat):Int) from rL,iH,aS];lia
   .rw[jV,show (2:Int)=((2:Nat):Int) from rL,iH]
   .rw[am,av,eW,aS];show ap (aN qk)
   .rw[am,am,av,eW,aS];lia
   .rw[am,am,av,eW,aS];lia
   .rcases be.mp F with e|e
    .rcases be.mp e with e|e;.show az c (cf e)
     .show G c (my.mp e)
    .show az c (c_ e)
  .obtain⟨j,ej,hj⟩:∃j:Nat,x/4%2=(j:Int)/\j<2:=(aG ((x/4%2).toNat) qk qk)
   calc(aU _ _ rL rL ⟨qr,qr⟩ (aU _ _ rL rL (by show (0:Int)<2;decide) (aG _ rL (bJ bB rL hzr (aG _ rL (iU (bB.drop j) ?_ rL ?_ ?_))))));.rw[show x/4%2=(j:Int) from ej,iH]
   .rw[aS];lia
   let hf:((bB++[c0]).take 1).length=1:=by rw[av,am];show min 1 (_+1)=1;lia
   calc(aU bB [c0] rL rL (ap (aN (by show _+1<=_;lia))) (aG _ rL (bJ (bB++[c0]) rL (ap (aN (by rw[am];show _+1<=_;lia))) (wj ((bB++[c0]).take 1) 2 ?_ rL qr qr qk (aU ((bB.drop j).reverse) ((List.replicate 2 ((bB++[c0]).take 1)).flatten) rL rL ?_ ?_)))));.rw[show (1:Int)=((1:Nat):Int) from rL,j9]
   .rw[eW,aS,len_rep,hf];show ap (aN qk)
   calc⟨rL,aG _ rL (aK N _ rL (bM.of J) (λA2 O=>?_))⟩;generalize e2:upd _ A2 _=H9;let⟨t2,e2⟩:=d_ O e2;rw[zx]at e2;calc(cT A2 _ rL rL (bM.of e2) ?_ (aU ((bB.drop j).reverse++(List.replicate 2 ((bB++[c0]).take 1)).flatten) (I.drop 1) rL ?_ ?_ (q _ H9 (s7.trans t2) ?_ ?_ λc F=>?_)));.rw[jV,show (1:Int)=((1:Nat):Int) from rL,iH,aS];lia
   .rw[jV,show (1:Int)=((1:Nat):Int) from rL,iH]
   .rw[am,eW,aS,len_rep,hf,aS];show ap (aN qk)
   .rw[am,am,eW,aS,len_rep,hf,aS];lia
   .rw[am,am,eW,aS,len_rep,hf,aS];lia
   .rcases be.mp F with e|e
    .rcases be.mp e with e|e;.show G c (c_ (my.mp e))
     .let⟨l,hl,Z⟩:=pS.mp e;rw[i8 hl]at Z;rcases be.mp (cf Z) with e|e;.show G c e
      .rw[bc.mp e];show .inl Y
    .show az c (c_ e)
def ag4:∀{cs l:List Nat},l.length<cs.length->∃t,pZ (l.map λc=>[c]) cs=.inl t:=λ{cs l} h=>by
 cases e:pZ (l.map λc=>[c]) cs with| inl t=>show⟨t,rL⟩| inr left=>let⟨m,hm⟩:=Nm e;have:=yK hm;lia
def Py {c:Nat}(h:o8 c):iD c=c:=by
 have:=Pq (l:=[c]) λd hd=>by rw[bc.mp hd];show h
 simpa using this
def ai6:Sp:=λvs H Q _=>∃(bB l:List Nat) (t:Nat),vs=[.str (S bB),.str (S l)]/\bB.length<=63/\l.length<=63/\(∀c∈l,o8 c)/\pZ (bB.map λc=>[c]) l=.inl t/\∀H',aB H H'->Q (.str (S [t])) H'
def Km (D:aO K mg uj qx fv)(iQ:mg "list"=none):cA P w K mg base uj 1 fv ai6:=by
 calc D.d8 tK (λf bV A outer s H vs Q E hr h=>?_);let⟨bB,l,t,rfl,h63,Z1,Z,j,q⟩:=h;calc(aG _ (au (aW (i:=2) tK.nd rL (Or.inl rL) (fY (nq rL) qA iQ fg (aj aH ak))) (au (h_ di rL (qG bh) (bY (i:=3) tK.nd rL (Or.inl rL)) (au (cG (bT uq bU bG rL) (aF (bC bU)) bR) (aF (eG (gG ce gL gN wX bG (aj bU ak)))))) (aF (bC (bA [] qS))))) ?_);calc(bJ bB rL qk (λL hL=>?_));calc(aG l rL ?_);refine BJ (λi σ I=>∃(O:Option V) (us:List Nat),σ=[some (.str (S bB)),some (.str (S l)),some (.ref L),O]/\aB H I/\I L=some (.lst (Ts (us.map λc=>[c])))/\us.length<=63/\pZ (us.map λc=>[c]) (l.drop i)=.inl t)
  (cT none bB rL (aB.upd hL) aA h63 (by rw[iP];show j)) ?_ ?_
 .intro i c σ I J z;let⟨O,us,rfl,sm,F,Gg,j⟩:=z;let hi:i<l.length:=(ah.mp J).1;let G:l.drop i=c::l.drop (i+1):=by
   rw[f8 hi];rw[ac hi]at J;rw[bq J]
  let Y:=Py (Z c (bp J));rw[G]at j;unfold pZ at j;rw[Y]at j;calc(cT L _ rL (.inl (bM.of F)) rL (IV _) (bf _ rL ?_));rw[show (if true then !inV (V.str (S [c])) (Ts (us.map λc=>[c])) else inV (V.str (S [c])) (Ts (us.map λc=>[c])))=!inV (V.str (S [c])) (Ts (us.map λc=>[c])) from rL,Vt];by_cases hm:[c]∈us.map λc=>[c]
  .rw[ai hm];rw[if_pos hm,qP]at j;let⟨d,hd,e⟩:=bd.mp hm;cases e;calc cI ⟨.inl ⟨rL,_,bM.of F⟩,nC L _ [c] rL rL F hm (by rw[aa];lia) ?_⟩;calc(cT _ (us.erase c) rL (sm.eE hL) (by rw[qP];show aA) ?_ j);have:=(ka (a:=c) (l:=us)).length_le;lia
  .rw[af hm];rw[if_neg hm]at j;cases j;show cH (q I sm)
 .intro σ I z;let⟨O,us,rfl,sm,F,Gg,j⟩:=z;rw[kQ]at j;cases j
structure Rx (ls:List Nat)(z:Std):Prop where
 rk:∀l∈z.racks,∀c∈l,xW ls c
 bg:∀c∈z.bag,xW ls c
theorem adz:∀{cs l m:List Nat},qO l cs=some m->∀c∈cs,iD c∈l
 | [],_,_,_,c,hc=>by cases hc
 | d::cs,l,m,h,c,hc=>by
  unfold qO at h;split at h
  .rename_i hm;rcases bX.mp hc with e|e;.rw[e];show hm
   .show mM (adz h c e)
  .cases h
def Rx.of {ls:List Nat}{z:Std}{i:Nat}(h:Rx ls z):∀c∈z.racks.getD i [],xW ls c:=λc j=>by
 rw[aE]at j;cases e:z.racks[i]? with
 | none=>rw[e]at j;cases j
 | some l=>rw[e]at j;show h.rk l (bp e) c j
def Does.al {ls:List Nat}{G:Gm}{z z':Std}{d:dZ}{pt:Int}(h:Does G z d pt z')(Z:Rx ls z):Rx ls z':=by
 cases h with
 | @lay ts l jL h0 h7 ri vd lf=>
  calc⟨λk D c j=>?_,λc j=>Z.bg c (c_ j)⟩;rcases eQ D with e|e;.show Z.rk k e c j
  .rw[e]at j;rcases be.mp ((iK _).mem_iff.mp j) with y|y;.show Z.of c (vP lf c ((iK _).mem_iff.mp y))
   .show Z.bg c (cf y)
 | @swap l m ne h7 tl lf hb=>
  refine⟨λk D c j=>?_,λc j=>?_⟩
  .rcases eQ D with e|e;.show Z.rk k e c j
   .rw[e]at j;rcases be.mp ((iK _).mem_iff.mp j) with y|y;.show Z.of c (vP lf c ((iK _).mem_iff.mp y))
    .show Z.bg c (cf y)
  .rcases be.mp j with y|y;.show Z.bg c (c_ y)
   .let hm:=(iK _).mem_iff.mp y;have:=adz lf c hm;rw[Py (tl c hm)]at this;show Z.of c this
 | pass=>show Z
def Does.r {G:Gm}{z z':Std}{d:dZ}{pt:Int}(h:Does G z d pt z'):z'.r=z.r:=by cases h <;> rfl
inductive alF (K:W.Frag) (G:Gm) (z:Std) (H:Hp) (T:Addr):Prop
 | nd {x:V} {d:Addr} (h:H T=some (.tup [x,.ref d])) (hd:H d=some (.tup (Gy .nd))) (hx:o9 K H x false)
 | rf {p d:Addr} {rf:Rf} (h:H T=some (.tup [.ref p,.ref d])) (hd:H d=some (.tup (Gy rf))) (hx:o9 K H (.ref p) true) (hr:Cm K G z H p rf)
 | lay {p d:Addr} {ts:List cu} (h:H T=some (.tup [.ref p,.ref d])) (hd:H d=some (.tup [.int (-3)])) (hp:jA H p (.lay ts)) (jL:∀t∈ts,inB z.r z.w t) (h0:0<ts.length) (h7:ts.length<=7) (ri:gP (ts.map lF)=true)
theorem WT:∀{l:List Nat},(∀c∈l,o8 c)->qO l l=some []
 | [],_=>rfl
 | c::l,h=>by unfold qO;rw[Py (h c bS),if_pos bS,List.erase_cons_head];show WT λd hd=>h d (bE _ hd)
theorem WW (R J:Nat):∀m,gP ((List.range m).map λk=>(R,J+k))=true
 | 0=>rfl
 | m+1=>by rw[qc,bP];calc Gw (WW R J m) λd hd=>?_;let⟨k,j,rfl⟩:=bd.mp hd;have:=fE.mp j;show ai (by show R*1000+(J+k)<R*1000+(J+m);lia)
def afV (K:W.Frag)(C:Addr):Sp:=λvs H Q _=>∃(pn pw:Addr) (z:Std) (ps:Nat) (ov:Bool) (ws:AA) (ls:List Nat) (c:Int) (G:Gm),vs=[.ref pn,.ref pw,.int c]/\oG C H pn z G.done.length ps ov/\lG z/\H pw=some (.lst (Ts ws))/\1<=ws.length/\(∀l∈ws,zf l)/\Rx ls z/\ls.length<=4/\(∀c∈ls,isLet c)/\2<=z.r/\
 ∀T H',aB H H'->alF K G z H' T->Q (.ref T) H'
open Classical in
def ai7 {C:Addr}(D:aO K mg "_law_bad" S_ pa)(bH:mg "len"=none)(qC:mg "min"=none)(gF:mg "range"=none)(cX:mg "tuple"=none)(cM:iJ K C)(adA:cA P w K mg base "_law_no_deed" 1 rX (Wv K))(Ys:cA P w K mg base "_law_no_laying" 1 rS (aaf K))(adB:cA P w K mg base "_law_swapped" 1 rb afU)(NK:cA P w K mg base uj 1 fv ai6)(mO:cA P w K mg base tS 1 n7 tM):cA P w K mg base "_law_bad" 2 pa (afV K C):=by
 calc D.d8 pY (λf bV A outer s H vs Q E hr h=>?_);let⟨pn,pw,z,ps,ov,ws,ls,c,G,rfl,NA,Z,Nr,w1',Rt,AL,h4,hlz,r2,q⟩:=h;obtain⟨b,pr,pp,hn,⟨⟨bx,br,bm,bb,hbx,hbr,hbm,hbb⟩,B⟩,hpr,hpp⟩:=NA.ex;let n1:=Z.n1;let hrl:(Ts z.racks).length=z.racks.length:=aa _;let qL:(Ts z.aD).length=z.r:=by rw[aa,B.br.len]
 let hwl:(Ts ws).length=ws.length:=aa _;let htn:G.done.length%z.racks.length<z.racks.length:=pi _ n1;let emod:(G.done.length:Int)%((Ts z.racks).length:Int)=((G.done.length%z.racks.length:Nat):Int):=by rw[hrl];lia
 let Nv:z.racks.getD (iy G z) []=z.racks[G.done.length%z.racks.length]:=by show z.racks.getD (G.done.length%z.racks.length) []=_;rw[aE,ac htn];rfl
 let⟨k7,kt⟩:=Z.r7 _ (ba htn);let kal:=AL.rk _ (ba htn);let hat:tV (Ts z.racks) ((G.done.length%z.racks.length:Nat):Int)=some (.str (S z.racks[G.done.length%z.racks.length])):=aM (lE (ac htn));generalize z.racks[G.done.length%z.racks.length]=bB at Nv k7 kt kal hat ⊢;let w1:=B.w1;let w9:=B.w9;let r9:=B.r9;let⟨l0,e0,wl0⟩:=Nt B.br B.r1 (i:=0) qk qk;let hz0:l0.length<=sizeLine:=ap (aN qk);calc(aG _ (au (aW (i:=3) pY.nd rL (Or.inl rL) (cF (aZ bI aH aq (λ_ _=>rfl)) rL)) (au (aW (i:=4) pY.nd rL (Or.inl rL) (aZ bI (aZ bI aH aq (λ_ _=>rfl)) (aJ bZ (aZ bI aH aq (λ_ _=>rfl)) (aP b_ qA bH ay (aj (aZ bI aH aq (λ_ _=>rfl)) ak))) (λ_ _=>rfl))) (au (aW (i:=5) pY.nd rL (Or.inl rL) (aJ bZ bG aq)) (au (cG (bT uo dD aq (bO _)) (aF (bC (bF (aj (bQ adA hr.mono rL (aj (aJ cV bG aq) ak)) (aj (bF (aj aq ak)) ak))))) bR) (au (cG (bT iC dD aq (bO _)) (aF (bC (bF (aj (bF (aj (bA [108,97,121] qS) (aj (bQ Ys hr.mono rL (aj (aJ cV bG aq) (aj bU ak))) ak))) (aj (bF (aj aq ak)) ak))))) bR) (au (cG (bT iC dD aq (bO _)) (au (aW (i:=6) pY.nd rL (Or.inl rL) (bQ adB hr.mono rL (aj cQ (aj (aZ vG (aZ gA bh aq (λ_ _=>rfl)) aq (λ_ _=>rfl)) (aj (aJ cV bG aq) ak))))) (aF (bC (bF (aj (bF (aj (bA [115,119,97,112] qS) (aj fU ak))) (aj (bF (aj aq (aj (bQ NK hr.mono rL (aj cQ (aj fU ak))) ak))) ak)))))) bR) (au (cG (acG (QW.qt (wU (bT iC dD aq (bO _)) (yF (bT uo (aP dw qA bH ay (aj (aZ bI aH aq (λ_ _=>rfl)) ak)) (aP dw qA bH ay (aj cQ ak)) (bO _)))))) (aF (bC (bF (aj (bF (aj (bA [115,119,97,112] qS) (aj cQ ak))) (aj (bF (aj aq ak)) ak))))) bR) (au (aW (i:=7) pY.nd rL (Or.inl rL) (bQ mO hr.mono rL (aj bG (aj aq ak)))) (au (aW (i:=8) pY.nd rL (Or.inr rL) (aJ bZ (aZ gA gY aq (λ_ _=>rfl)) (aP b_ qA bH ay (aj bU ak)))) (au (aW (i:=9) pY.nd rL (Or.inr rL) (aJ bZ (aZ gA gY aq (λ_ _=>rfl)) (aP dw qA bH ay (aj (aZ bI bU aq (λ_ _=>rfl)) ak)))) (au (f9 (aW (i:=10) pY.nd rL (Or.inr rL) (aZ gA bh (aJ bZ (aZ gA gY aq (λ_ _=>rfl)) (aP b_ qA bH ay (aj bh ak))) (λ_ _=>rfl)))) (au (aW (i:=11) pY.nd rL (Or.inl rL) (fY jB qA cX c9 (aj (jY rL (jW.of pY.nd qB) (tR qA gF (aj (aP (acE rL) qA qC kH (aj (aP dw qA bH ay (aj jz ak)) (aj aq (aj (aJ ni (aP dw qA bH ay (aj (aZ bI bU aq (λ_ _=>rfl)) ak)) lq) ak)))) ak)) (λ_ _ _ _ _=>fO) (λ_ _ _ _ _=>(bF (aj lq (aj (aJ dh jz aH) (aj (aZ vG oO aH (λ_ _=>rfl)) ak)))))) ak))) (au (f9 (cG (bT iC (aJ bZ (aZ gA gY aq (λ_ _=>rfl)) aq) aq (bO _)) (aF (aW (i:=11) pY.nd rL (Or.inl rL) (bF (aj (bF (aj aq (aj aq (aj (aZ vG jz aq (λ_ _=>rfl)) ak)))) (aj (bF (aj (aJ ni (aP b_ qA bH ay (aj bU ak)) aq) (aj (aJ ni (aP dw qA bH ay (aj (aZ bI bU aq (λ_ _=>rfl)) ak)) aq) (aj (aZ vG jz aq (λ_ _=>rfl)) ak)))) ak))))) bR)) (aF (bC (bF (aj (bF (aj (bA [108,97,121] qS) (aj oO ak))) (aj (bF (aj (m_ kJ aq) ak)) ak)))))))))))))))))) ?_);calc(aY pn _ _ (.ref b) rL rL (aQ.of hn) (aM (j:=0) rL) (cR b C bx _ _ rL hbx cM.cl cM.nr rL ?_));calc(aY pn _ _ (.ref pr) rL rL (aQ.of hn) (aM (j:=1) rL) (aY pn _ _ (.int G.done.length) rL rL (aQ.of hn) (aM (j:=4) rL) (aY pn _ _ (.ref pr) rL rL (aQ.of hn) (aM (j:=1) rL) (aK pr _ rL (.inr (aQ.of hpr)) (aU _ _ rL rL (by show (0:Int)<_;rw[hrl];lia) (aY pr _ _ (.str (S bB)) rL rL (aQ.of hpr) (by rw[emod];show hat) ?_))))));calc(aU _ _ rL rL (by show (0:Int)<8;decide) ?_);calc(aK _ _ rL rL (bf _ rL ?_));refine iR (λ_=>?_) (λ_=>?_)
 .calc(aU _ _ rL rL ⟨qr,qr⟩ (aG (c/8) rL (λv H1 s1 hv=>⟨zsz 1,λd hd=>?_⟩)));generalize I:upd _ d _=H2;let⟨s2,I⟩:=d_ hd I;calc⟨zsz 2,λT hT=>?_⟩;generalize O:upd _ T _=H3;let⟨s3,O⟩:=d_ hT O;show q T H3 ((s1.trans s2).trans s3) (.nd O (s3 _ _ I) (hv.mv (s2.trans s3)))
 calc⟨rL,bf _ rL ?_⟩;refine iR (λ_=>?_) (λ_=>?_)
 .calc(aU _ _ rL rL ⟨qr,qr⟩ ⟨c/8,br,z.aD,z.w,rL,hbr,λv H1 s1 hv=>⟨zsz 2,λp hp=>?_⟩⟩);generalize ep:upd _ p _=H2;let⟨s2,ep⟩:=d_ hp ep;calc⟨zsz 1,λd hd=>?_⟩;generalize I:upd _ d _=H3;let⟨s3,I⟩:=d_ hd I;calc⟨zsz 2,λT hT=>?_⟩;generalize O:upd _ T _=H4;let⟨s4,O⟩:=d_ hT O;let Y:=s3.trans s4;rw[B.br.len]at hv;let⟨o,ho,hB⟩:=hv.mv (s2.trans Y);let ep4:=Y _ _ ep;show q T H4 ((s1.trans s2).trans Y) (.rf (rf:=.lay) O (s4 _ _ I) (.lay ep4) (.lay ep4 ho hB))
 calc⟨rL,bf _ rL ?_⟩;refine iR (λ_=>?_) (λ_=>?_)
 .obtain⟨F,hw0⟩:∃F,ws[0]?=some F:=⟨ws[0],ac qk⟩
  let W0:=Rt F (bp hw0);let wlo:=W0.lo;let whi:=W0.hi;obtain⟨c0,hc0⟩:∃c0,F[0]?=some c0:=⟨F[0],ac qk⟩
  calc(aY pw _ _ (.str (S F)) rL rL (bM.of Nr) (aM (j:=0) (lE hw0)) (gH F _ c0 rL rL (ap (aN qk)) (aM (j:=0) hc0) (aU _ _ rL rL ⟨qr,qr⟩ (S5 bB ls c0 (c/8) rL k7 kal h4 hlz (W0.az c0 (bp hc0)) (λl H1 s1 Z1 lgt ltl=>?_)))));let⟨t,hgo⟩:=ag4 lgt;calc⟨zsz 2,λp hp=>?_⟩;generalize ep:upd _ p _=H2;let⟨s2,ep⟩:=d_ hp ep;calc(nC bB l t rL qk Z1 ltl hgo (λH3 s3=>⟨zsz 2,λd hd=>?_⟩));generalize I:upd _ d _=H4;let⟨s4,I⟩:=d_ hd I;calc⟨zsz 2,λT hT=>?_⟩;generalize O:upd _ T _=H5;let⟨s5,O⟩:=d_ hT O;let s25:=(s3.trans s4).trans s5;let hD:jA H5 p (.swap l):=s25 _ _ ep;let hne:l≠[]:=λe=>by subst e;simp at lgt
  show q T H5 ((s1.trans s2).trans s25) (.rf (rf:=.vd (.jK t)) O (s5 _ _ I) (hD.dd λl' e=>by cases e;show(cj hne Z1 ltl)) (.jK hD Z1 ltl (by rw[Nv];show hgo)))
 refine(aG (λb H1=>H=H1/\(b=true->z.bag.length<bB.length)) ?_ ?_)
 .calc⟨rL,bf _ rL ?_⟩;calc iR (λ_=>?_) (λ_=>⟨rL,λz=>by cases z⟩);let b6:=Z.b6;show(aY pn _ _ (.str (S z.bag)) rL rL (aQ.of hn) (aM (j:=2) rL) (bJ z.bag rL (ap (aN qk)) (bJ bB rL (ap (aN qk)) (aU _ _ rL rL rL (λh=>by have:=dC h;lia)))))
 rintro bo H1 ⟨rfl,hbo⟩;refine iR (λh=>?_) (λ_=>?_)
 .let Ga:=hbo h;calc⟨zsz 2,λp hp=>?_⟩;generalize ep:upd _ p _=H2;let⟨s2,ep⟩:=d_ hp ep;calc⟨zsz 1,λd hd=>?_⟩;generalize I:upd _ d _=H3;let⟨s3,I⟩:=d_ hd I;calc⟨zsz 2,λT hT=>?_⟩;generalize O:upd _ T _=H4;let⟨s4,O⟩:=d_ hT O;let Y:=s3.trans s4;let hD:jA H4 p (.swap bB):=Y _ _ ep;let hne:bB≠[]:=λe=>by subst e;simp at Ga
  show q T H4 (s2.trans Y) (.rf (rf:=.few) O (s4 _ _ I) (hD.dd λl' e=>by cases e;show(cj hne qk kt)) (.few hD qk kt (m:=[]) (by rw[Nv];show WT kt) Ga))
 calc(aK c 6 rL qr (λpq ds H1 s1 hq0 hpq hdl=>?_));obtain⟨d0,d1,d2,d3,d4,d5,rfl⟩:∃d0 d1 d2 d3 d4 d5,ds=[d0,d1,d2,d3,d4,d5]:=by
  match ds,hdl with| [a,b,c,d,e,f],_=>show⟨a,b,c,d,e,f,rL⟩
 let abC:=s1 _ _ hbr;let ai8:=s1 _ _ Nr;obtain⟨R,eR,hR⟩:∃R:Nat,d0%((Ts z.aD).length:Int)=(R:Int)/\R<z.r:=by let a1:=df d0 (show ((Ts z.aD).length:Int)≠0 by lia);let a2:=dq d0 (show (0:Int)<((Ts z.aD).length:Int) by lia);show(aG ((d0%((Ts z.aD).length:Int)).toNat) qk qk)
 calc(aY pq _ _ (.int d0) rL rL (bM.of hpq) (aM (j:=0) rL) (aK br _ rL (.inr (aQ.of abC)) (aU _ _ rL rL (by show (0:Int)<_;lia) ?_)));obtain⟨J,eJ,hJ⟩:∃J:Nat,d1%(l0.length:Int)=(J:Int)/\J<z.w:=by let a1:=df d1 (show (l0.length:Int)≠0 by lia);let a2:=dq d1 (show (0:Int)<(l0.length:Int) by lia);show(aG ((d1%(l0.length:Int)).toNat) qk qk)
 calc(aY pq _ _ (.int d1) rL rL (bM.of hpq) (aM (j:=1) rL) (aY br _ _ (.str (S l0)) rL rL (aQ.of abC) e0 (bJ l0 rL hz0 (aU _ _ rL rL (by show (0:Int)<_;lia) ?_))));let⟨v,hv,hvm⟩:=pick (xs:=Ts ws) (n:=(Ts ws).length) d2 rL qk;let⟨F,hw0,rfl⟩:=bd.mp hvm;let W0:=Rt F hw0;let wlo:=W0.lo;let whi:=W0.hi;let hzw:F.length<=sizeLine:=ap (aN qk);calc(aG (λσ H2=>H1=H2/\σ=[some (.ref pn),some (.ref pw),some (.int c),some (.ref br),some (.str (S bB)),some (.int (c%8)),none,some (.ref pq),some (.int R),some (.int J),some (.str (S F)),none]) (aY pq _ _ (.int d2) rL rL (bM.of hpq) (aM (j:=2) rL) (aK pw _ rL (.inl (bM.of ai8)) (aU _ _ rL rL (by show (0:Int)<_;lia) (gb pw _ _ (.str (S F)) rL rL (bM.of ai8) hv rL (by rw[<-eR,<-eJ];rfl))))) ?_);rintro σ H2 ⟨eH,rfl⟩;subst eH;let sgw:∀{k:Nat} {x:Nat},F[k]?=some x->rH x:=λh=>U8 (W0.az _ (bp h));obtain⟨m,hm1,hm2,hm3,hm4⟩:∃m:Nat,1<=m/\m<=F.length/\m<=7/\J+m<=z.w/\∀x:Int,x<=F.length->x<=7->x<=(l0.length:Int)-(J:Int)->(x=F.length\/x=7\/x=(l0.length:Int)-(J:Int))->x=(m:Int):=by
  by_cases g1:F.length<=7
  .by_cases g2:F.length<=z.w-J;.show(nu F.length qk qk qk qk (λx _ _ _ _=>by lia))
   .show(nu (z.w-J) qk qk qk qk (λx _ _ _ _=>by lia))
  .by_cases g2:7<=z.w-J;.show(nu 7 qk qk qk qk (λx _ _ _ _=>by lia))
   .show(nu (z.w-J) qk qk qk qk (λx _ _ _ _=>by lia))
 let⟨hm4,hmx⟩:=hm4;calc(bJ F rL hzw (aY br _ _ (.str (S l0)) rL rL (aQ.of abC) e0 (bJ l0 rL hz0 (aK _ _ rL rL (yg _ _ _ rL (λx x1 x2 x3 x4=>?_))))));rw[hmx x x1 x2 x3 x4];calc(iU _ rL qk qk (λN hN=>?_));rw[ee];refine aaD (n:=m) (lo:=0) (λi ys H5=>∃as:List Addr,ys=as.map V.ref/\as.length=i/\H5 N=some (.lst ys)/\aB H1 H5/\fW H5 as ((List.range i).map λk=>(R,J+k,F.getD k 0))) (nu [] rL rL aA (aB.upd hN) fW.nil) ?_ ?_
 .intro k ys H5 hk z;let⟨as,rfl,hal,uM,sm,hL⟩:=z;let hkw:k<F.length:=qk;calc(aK _ _ rL rL (nC F _ (F[k]) rL rL hzw (by rw[Int.zero_add];show aM (ac hkw)) (zsz 3) (λg hg=>?_)));generalize eg:upd _ g _=H6;let⟨s6,eg⟩:=d_ hg eg;let eg:rT H6 g (R,J+k,F.getD k 0):=by
   show H6 g=some (.tup [.int (R:Nat),.int ((J+k:Nat):Int),.str (S [F.getD k 0])]);rw[eg,aE,ac hkw,Int.natCast_add];simp
  calc(cj (s6 _ _ uM) (by rw[aa];show aN qk) (iV.mk hk (nu (as++[g]) qo (by simp[hal]) aA ((sm.trans s6).eE hN) ?_)));rw[qc,bP];show((hL.mv s6).snoc eg).Ju (aey (s6 _ _ uM))
 intro ys H5 z;let⟨as,rfl,hal,uM,sm,hL⟩:=z;calc(dW N _ rL (.inl ⟨bM.of uM,λt ht=>?_⟩));generalize et:upd _ t _=H6;let⟨s6,et⟩:=d_ ht et;let uY:=sm.trans s6;refine⟨λσ H7=>∃(t:Addr) (as:List Addr) (ts:List cu),σ=[some (.ref pn),some (.ref pw),some (.int c),some (.ref br),some (.str (S bB)),some (.int (c%8)),none,some (.ref pq),some (.int R),some (.int J),some (.str (S F)),some (.ref t)]/\aB H1 H7/\H7 t=some (.tup (as.map V.ref))/\fW H7 as ts/\(∀t∈ts,inB z.r z.w t)/\0<ts.length/\ts.length<=7/\gP (ts.map lF)=true,?_,?_⟩
 .calc(aY pq _ _ (.int d3) rL rL (bM.of (uY _ _ hpq)) (aM (j:=3) rL) (cT _ _ rL rL (by show (0:Int)<3;decide) rL (bf _ rL ?_)));refine iR (λ_=>?_) (λ_=>?_)
  .obtain⟨x0,hx0⟩:∃x,F[0]?=some x:=⟨F[0],ac qk⟩
   obtain⟨x1,hx1⟩:∃x,F[1]?=some x:=⟨F[1],ac qk⟩
   calc(nC F _ x0 rL rL hzw (aM (j:=0) hx0) (zsz 3) (λg1 hg1=>?_));generalize eg1:upd _ g1 _=H7;let⟨s7,eg1⟩:=d_ hg1 eg1;let ai9:=s7 _ _ (uY _ _ abC);calc(aK br _ rL (.inr (aQ.of ai9)) (aK _ _ rL rL (aY br _ _ (.str (S l0)) rL rL (aQ.of ai9) e0 (bJ l0 rL hz0 (aK _ _ rL rL (nC F _ x1 rL rL hzw (aM (j:=1) hx1) (zsz 3) (λg2 hg2=>?_)))))));generalize eg2:upd _ g2 _=H8;let⟨s8,eg2⟩:=d_ hg2 eg2;calc⟨zsz 2,λt2 Jx=>?_⟩;generalize et2:upd _ t2 _=H9;let⟨s9,et2⟩:=d_ Jx et2;let T1:rT H9 g1 (0,0,x0):=s9 _ _ (s8 _ _ eg1);let T2:rT H9 g2 (z.r-1,z.w-1,x1):=by calc(s9 _ _ eg2).trans ?_;show some (HO.tup [.int (((Ts z.aD).length:Int)-1),.int ((l0.length:Int)-1),_])=some (HO.tup [.int ((z.r-1:Nat):Int),.int ((z.w-1:Nat):Int),_]);rw[qL,wl0,Int.natCast_sub qk,Int.natCast_sub qk];rfl
   refine(SQ t2 [g1,g2] [(0,0,x0),(z.r-1,z.w-1,x1)] rL (((uY.trans s7).trans s8).trans s9) et2 ((fW.nil.snoc T1).snoc T2) (λu hu=>?_) (by show 0<2;decide) (by show 2<=7;decide) ?_)
   .rcases bX.mp hu with e|e;.rw[e];show(cj (by show 0<z.r;lia) (by show 0<z.w;lia) (sgw hx0))
    .rw[bc.mp e];show(cj (by show z.r-1<z.r;lia) (by show z.w-1<z.w;lia) (sgw hx1))
   .show (ltQ ((0,0),(z.r-1,z.w-1))&&true)=true;rw[Bool.and_true];show ai (by show 0*1000+0<(z.r-1)*1000+(z.w-1);lia)
  .refine(SQ t as _ rL uY et (hL.mv s6) (λu hu=>?_) ?_ ?_ ?_)
   .let⟨k,hk,rfl⟩:=bd.mp hu;let hk:=fE.mp hk;calc(cj hR (by show J+k<z.w;lia) (sgw (k:=k) ?_));rw[aE,ac (show k<F.length by lia)];rfl
   .rw[aa,oP];lia
   .rw[aa,oP];lia
   .rw[gc];show WW R J m
 intro σ H7 z;let⟨t,as,ts,rfl,sm7,ht7,Gv,jL,h0,h7,ri⟩:=z;calc⟨zsz 2,λp hp=>?_⟩;generalize ep:upd _ p _=H8;let⟨s8,ep⟩:=d_ hp ep;calc(bJ _ rL (zsz 1) (λd hd=>?_));generalize I:upd _ d _=H9;let⟨s9,I⟩:=d_ hd I;calc⟨zsz 2,λT hT=>?_⟩;generalize O:upd _ T _=Ui;let⟨Fi,O⟩:=d_ hT O;let s8x:=s9.trans Fi;show q T Ui (((s1.trans sm7).trans s8).trans s8x) (.lay O (Fi _ _ I) (aK t as (s8x _ _ ep) (s8x _ _ (s8 _ _ ht7)) ((Gv.mv s8).mv s8x)) jL h0 h7 ri)
def ag5 {aD:AA}{r w bi bj:Nat}{bs ws:AA}{bB:List Nat}{ts:List cu}{v:Vd}(e:∀x,x∈bs↔x∈ws)(h:qb aD r w bi bj bs bB ts v):qb aD r w bi bj ws bB ts v:=by let e:=Wt (aD:=aD) (ts:=ts) e;cases h <;> (constructor <;> first|assumption|show e ▸ ‹_›)
noncomputable def pW:Rf->List Dt
 | .nd=>[.int 0]
 | .lay=>[.int 1]
 | .vd .ok=>[.int (-2)]
 | .vd (.nH i j)=>[.int 2,.int i,.int j]
 | .vd .ud=>[.int 3]
 | .vd (.gap i j)=>[.int 4,.int i,.int j]
 | .vd .uf=>[.int 5]
 | .vd (.jK t)=>[.int 6,.str [t]]
 | .vd (.nw l)=>[.int 7,.str l]
 | .few=>[.int 8]
 | .ov=>[.int 9]
def Rf.low:Rf->Prop
 | .vd (.jK t)=>t<128
 | .vd (.nw l)=>∀c∈l,c<128
 | _=>True
def vV {H:Hp}{T:Addr}{rf:Rf}(h:H T=some (.tup (Gy rf)))(hl:rf.low):jO K H 2 (.tup (pW rf)) (.ref T):=by
 calc .tup (aQ.of h) ?_;cases rf with
 | vd v=>
  cases v with| nH i j=>show .cons (.int _) (.cons (.int _) (.cons (.int _) .nil))| gap i j=>show .cons (.int _) (.cons (.int _) (.cons (.int _) .nil))| jK t=>show .cons (.int _) (.cons (.str _ λc D=>by rw[bc.mp D];show hl) .nil)| nw l=>show .cons (.int _) (.cons (.str _ hl) .nil)| _=>show .cons (.int _) .nil
 | _=>show .cons (.int _) .nil
def akt (rf:Rf):Dt.tup (pW rf)≠.tup [.int (-3)]:=by
 cases rf with
 | vd v=>cases v <;> simp[pW]
 | _=>simp[pW]
def aku {rf:Rf}(h:rf≠.nd):Dt.tup (pW rf)≠.tup [.int 0]:=by
 cases rf with
 | nd=>show absurd rL h
 | vd v=>cases v <;> simp[pW]
 | _=>simp[pW]
def akv {rf:Rf}(h:rf≠.vd .ok):Dt.tup (pW rf)≠.tup [.int (-2)]:=by
 cases rf with
 | vd v=>
  cases v with| ok=>show absurd rL h| _=>simp[pW]
 | _=>simp[pW]
theorem WX:∀{cs:List Nat} {l:AA} {t:Nat},pZ l cs=.inl t->(∀c∈cs,c<128)->t<128
 | [],_,_,h,_=>by cases h
 | c::cs,l,t,h,hc=>by
  unfold pZ at h;split at h;.show WX h λd hd=>hc d (bE _ hd)
  .cases h;have:=hc c bS;unfold iD;split <;> lia
def afW {c:Nat}(h:rH c):PyProof.Rows.lo1 c<128:=by
 have:=h.lt;unfold PyProof.Rows.lo1;rcases Vz h with h|h
 .have:=h.1;rw[if_neg qk];lia
 .rw[if_pos h];lia
def adC {r w:Nat}{aD aV:AA}{bi bj:Nat}{ws:AA}{bB:List Nat}{ts:List cu}{v:Vd}(B:Mz r w aD aV bi bj)(jL:∀t∈ts,inB r w t)(h0:0<ts.length)(h:qb aD r w bi bj ws bB ts v):(Rf.vd v).low:=by
 cases h with
 | jK _ _ _ _ h=>calc WX h λc j=>?_;let⟨u,D,rfl⟩:=bd.mp j;show(jL u D).2.2.lt
 | nw _ _ _ _ _ h=>
  intro c j;unfold Gi at h;split at h
  .cases h;let⟨d,hd,rfl⟩:=bd.mp j;rw[bc.mp hd];calc afW (jL (pU ts) ?_).2.2;unfold pU;cases ts with| nil=>simp at h0| cons t ts=>show bS
  .let⟨q,F,rfl⟩:=dv.mp h;let⟨d,hd,rfl⟩:=bd.mp j;show afW (Vu (tL B.br jL) (Dm B.br jL B.cr) jL q (ph F) d hd)
 | _=>show True.intro
def Cm.low {G:Gm}{z:Std}{H:Hp}{p:Addr}{rf:Rf}(B:Mz z.r z.w z.aD z.aV z.bi z.bj)(h:Cm K G z H p rf):rf.low:=by
 cases h with| lay=>show True.intro| vd h jL h0 h7 ri hv ne=>show adC B jL h0 hv| jK h h63 tl hg=>show WX hg λc j=>(tl c j).lt| few=>show True.intro
def Due (K:W.Frag)(G:Gm)(z:Std)(H:Hp)(x:V)(rf:Rf):Prop:=(rf=.nd/\o9 K H x false)\/∃p,x=.ref p/\o9 K H (.ref p) true/\(Cm K G z H p rf\/rf=.vd .ok)
def Due.mv {G:Gm}{z:Std}{H H':Hp}{x:V}{rf:Rf}(h:Due K G z H x rf)(s:aB H H'):Due K G z H' x rf:=by
 rcases h with⟨e,h⟩|⟨p,e,h,r|r⟩;.show .inl ⟨e,h.mv s⟩
 .show .inr (bJ p e (h.mv s) (.inl (r.mv s)))
 .show .inr (bJ p e (h.mv s) (.inr r))
def Due.ref {G:Gm}{z:Std}{H:Hp}{x:V}{rf:Rf}(h:Due K G z H x rf)(j:iw G z=false):rf=.vd .ok\/mY K G z H x rf:=by
 rcases h with⟨e,h⟩|⟨p,e,h,r|r⟩;.subst e;show .inr (.nd h)
 .subst e;show .inr (.rf h j r)
 .show .inl r
def Due.over {G:Gm}{z:Std}{H:Hp}{x:V}{rf:Rf}(h:Due K G z H x rf)(j:iw G z=true)(ne:rf≠.nd):mY K G z H x .ov:=by
 rcases h with⟨e,h⟩|⟨p,e,h,r⟩;.show absurd e ne
 .subst e;show .ov h j
def akx {ps pd:Addr}{H j H':Hp}{a:Addr}{xs:List V}(h:bM K H a xs)(s:aB H j)(k:Ac ps pd j H')(n:∀o,H a=some o->a≠ps/\a≠pd):bM K H' a xs:=by
 rcases h with(h|⟨o,h⟩)|h;.show .inl (.inl (k _ _ (s _ _ h) (n _ h).1 (n _ h).2))
 .show .inl (.inr ⟨o,k _ _ (s _ _ h) (n _ h).1 (n _ h).2⟩)
 .show .inr h
open Classical in
def ai_ {C CS CB CG f f0 f1 f3:Addr}{fd gk fB pG:FuncData}{c:V9}(F:gJ K "law" "law" Tc f fd)(dI:tu K CG)(Pn:mg "Book"=some (.ref CB))(V_:Mk K CB f0)(Wa:cU P w K mg base eV 3 f0 gk r_ (Vs K CB))(Wb:cD K gk r_ [])(ag6:mg "Game"=some (.ref CG))(aja:Mk K CG f1)(ajb:cU P w K mg base eV 7 f1 fB dt (ZS C CS CB CG))(ajc:cD K fB dt [])(Gz:Meth K CG "do" f3)(GC:cU P w K mg base (vm P w) 16 f3 pG si (aeP K C CS CB CG c))(GD:cD K pG si [])(ag7:cA P w K mg base "_law_parts" 7 sj (Wq K C))(ag8:cA P w K mg base "_law_begun" 1 tz (Z6 C))(ajd:cA P w K mg base "_law_deed" 18 nt (Z8 C CB))(aje:cA P w K mg base "_law_next" 12 oa (adl C))(WY:cA P w K mg base "_law_stands" 5 sk (Wu C CS CB CG))(nJ:cA P w K mg base "_law_cell_at" 1 ro (U7 K))(aky:cA P w K mg base "_law_bad" 2 pa (afV K C))(Pz:cA P w K mg base "_law_asked" 18 nT (aae K C CS CB CG c)):cU P w K mg base eV 20 f fd sj (SM K):=by
 calc F.d8 oZ (λbV A outer s H vs Q E hr h=>?_);let⟨a,cells,rfl,hS,h63,q⟩:=h;calc(aG _ (au (aW (i:=1) oZ.nd rL (Or.inl rL) (bQ ag7 hr.mono rL (aj aH ak))) (au (aW (i:=2) oZ.nd rL (Or.inl rL) (tU V_ Wa hr.mono rL Pn Wb .nil gM (aj (aZ bI bh aq (λ_ _=>rfl)) ak))) (au (aW (i:=3) oZ.nd rL (Or.inl rL) (tU aja ajb hr.mono rL ag6 ajc .nil gM (aj (aZ bI bh aq (λ_ _=>rfl)) (aj bG (aj (aZ bI bh aq (λ_ _=>rfl)) (aj (aZ bI bh aq (λ_ _=>rfl)) (aj (aZ bI bh aq (λ_ _=>rfl)) (aj (aZ bI bh aq (λ_ _=>rfl)) (aj (aZ bI bh aq (λ_ _=>rfl)) ak))))))))) (au (aW (i:=4) oZ.nd rL (Or.inl rL) (bQ ag8 hr.mono rL (aj bh ak))) (au (h_ di rL (oK (dj oN aH (dM aq) (dM aq))) (bY (i:=5) oZ.nd rL (Or.inl rL)) (aF (f9 (cG (gU (fJ (aZ bI cQ aq (λ_ _=>rfl)))) (au (aW (i:=6) oZ.nd rL (Or.inl rL) (bQ ajd hr.mono rL (aj cQ (aj bG (aj (aZ bI bh aq (λ_ _=>rfl)) (aj dD ak)))))) (au (eG (UG bU dI.cl Gz GC hr.mono GD (afO (S:=λ_=>True)) (aj fU ak))) (aF (aW (i:=4) oZ.nd rL (Or.inl rL) (aZ bI (bQ aje hr.mono rL (aj cQ (aj bh (aj fU ak)))) aq (λ_ _=>rfl)))))) bR)))) (au (h_ di rL (oK (g_ (aj (bQ nJ hr.mono rL (aj aH (aj aq ak))) (aj (bQ nJ hr.mono rL (aj aH (aj aq ak))) ak)))) (bY (i:=5) oZ.nd rL (Or.inl rL)) (au (f9 (um (bQ aky hr.mono rL (aj cQ (aj (aZ bI bh aq (λ_ _=>rfl)) (aj dD ak)))) (qF rL (cJ (bY (i:=6) oZ.nd rL (Or.inl rL)) (cJ (bY (i:=7) oZ.nd rL (Or.inl rL)) oU))))) (au (f9 (cG (bT (BL hr.units) gY (bF (aj (m_ kJ aq) ak)) (bO _)) (aF (aW (i:=7) oZ.nd rL (Or.inl rL) (bQ Pz hr.mono rL (aj K_ (aj cQ (aj bG (aj fU ak))))))) bR)) (au (f9 (cG (acG (QW.qt (wU (fJ (aZ bI cQ aq (λ_ _=>rfl))) (yF (bT (uy hr.units) gY (bF (aj aq ak)) (bO _)))))) (aF (aW (i:=7) oZ.nd rL (Or.inl rL) (bF (aj aq ak)))) bR)) (aF (f9 (cG (bT (uy hr.units) gY (bF (aj (m_ kJ aq) ak)) (bO _)) (au (cG (QW.qt (pI (bT (uy hr.units) (bQ Pz hr.mono rL (aj bU (aj cQ (aj bG (aj fU ak))))) gY (bO _)) (m8 (gU (fJ (bQ WY hr.mono rL (aj bU (aj cQ ak)))))))) (aF (bC jr)) bR) (aF (cG (bT (uy hr.units) (bQ Pz hr.mono rL (aj bU (aj cQ (aj bG (aj fU ak))))) gY (bO _)) (aF (bC jr)) bR))) bR))))))) (aF (bC (bQ WY hr.mono rL (aj bU (aj cQ ak))))))))))) ?_);calc(aK a cells rL hS (λpp pw Z H1 s1 fpw PA PO=>?_));let⟨b0,dk,pbn,prk,hpp,hB0,hdk,alG,alH⟩:=PA.ex;let w2:=PO.w2;calc(aY pp _ _ (.ref pw) rL rL (aQ.of hpp) (aM (j:=1) rL) (λk kx nk1 nk2 nk3=>?_));let sK:∀{x o},H1 x=some o->upd (upd H1 kx (HO.own k)) k (HO.ins CB kx []) x=some o:=λ{x o} h=>by rw[bw (bL h nk1),bw (bL h nk2)];show h
 calc(gb k kx pw Z.ws rL aA (.inl (bM.of (sK PA.wl))) PO.wz qk (λkd bs H2 fkd BK hbs Ga kp2=>⟨rL,?_⟩));let s2:aB H1 H2:=λx o h=>kp2 x o (sK h) (bL h nk1);let Gx:=s2 _ _ hpp;calc(aY pp _ _ (.ref b0) rL rL (aQ.of Gx) (aM (j:=0) rL) (aY pp _ _ (.ref dk) rL rL (aQ.of Gx) (aM (j:=2) rL) (aY pp _ _ (.ref pbn) rL rL (aQ.of Gx) (aM (j:=3) rL) (aY pp _ _ (.int Z.size) rL rL (aQ.of Gx) (aM (j:=4) rL) (aY pp _ _ (.ref prk) rL rL (aQ.of Gx) (aM (j:=5) rL) (aY pp _ _ (.str (S Z.bag)) rL rL (aQ.of Gx) (aM (j:=6) rL) (λg gx ng1 ng2 ng3=>?_)))))));let sG:aB H2 (upd (upd H2 gx (HO.own g)) g (HO.ins CG gx [])):=λx o h=>by rw[bw (bL h ng1),bw (bL h ng2)];show h
 let s1G:=s2.trans sG;calc⟨g,gx,b0,k,kd,dk,pbn,prk,bs,Z.kvs,Z.bn,Z.bm,Z.size,Z.r,Z.w,Z.aD,Z.aV,Z.bi,Z.bj,Z.racks,Z.bag,rL,aA,hB0.mv s1G,BK.mv sG,qk,s1G _ _ hdk,s1G _ _ alG,s1G _ _ alH,PO.n1,PO.n4,(λl hl=>by have:=(PO.r7 l hl).1;have:=PO.s7;lia),λps pd w6 H3 kp3 hm fps fpd A3=>⟨rL,?_⟩⟩;let s3:aB H2 H3:=λx o h=>kp3 x o (sG x o h) (bL h ng1);let A3:jT C CS CB CG H3 g ps pd (gR ⟨[],[],w6,Z.kvs,Z.bn,Z.bm,Z.size⟩ [beg Z] []):=A3;let GF:Tp ⟨[],[],w6,Z.kvs,Z.bn,Z.bm,Z.size⟩:=⟨PO.wd,PO.wb,PO.s7⟩
 obtain⟨G,ek,en,em,ez,ew,A3,GF⟩:∃G:Gm,G.kvs=Z.kvs/\G.bn=Z.bn/\G.bm=Z.bm/\G.size=Z.size/\G.ws=w6/\jT C CS CB CG H3 g ps pd (gR G [beg Z] [])/\Tp G:=⟨_,rL,rL,rL,rL,rL,A3,GF⟩
 let hbw:∀x,x∈bs↔x∈G.ws:=λx=>by rw[ew];show(hm x).symm
 let Z0:lG (beg Z):=by let z7:=PO.s7;calc⟨by show 1<=(Z.racks.map fu).length;rw[aa];show PO.n1,by show (Z.racks.map fu).length<=4;rw[aa];show PO.n4,λl hl=>?_,PO.b6,PO.bt,by show (List.replicate _ _).length=(Z.racks.map fu).length;rw[aa,de]⟩;let⟨m,hm,rfl⟩:=bd.mp hl;let⟨h1,h2⟩:=PO.r7 m hm;show⟨by rw[j_];lia,λc hc=>h2 c ((iK m).mem_iff.mp hc)⟩
 let⟨ls,l4,lz,lr,lb⟩:=PO.al;let AL0:Rx ls (beg Z):=by calc⟨λl hl d hd=>?_,lb⟩;let⟨m,hm,rfl⟩:=bd.mp hl;show lr m hm d ((iK m).mem_iff.mp hd)
 let Y:=s2.trans s3;let PA3:Af C H3 pp pw Z:=PA.kl (Kl.of Y) (Y _ _ PA.wl);calc(dJ pp pw Z rL PA3 PO (λbn H4 s4 NA0=>?_));let Cq:=Y.trans s4;let hS4:=(s1.trans Cq).seq hS;calc(aG _ rL (aG _ rL (aK a _ rL hS4 (λZc hZc=>?_))));generalize e7:upd _ Zc _=H7;let⟨s7,e7⟩:=d_ hZc e7;let⟨_,alI,_⟩:=(A3.mv s4).st;let alJ:=(A3.mv s4).dn;let zn1:Zc≠ps:=(bL alI hZc).symm;let zn2:Zc≠pd:=(bL alJ hZc).symm;let wl2:=s2 _ _ PA.wl;let wn1:pw≠ps:=bL (sG _ _ wl2) fps;let wn2:pw≠pd:=bL (sG _ _ wl2) fpd;let s37:=s4.trans s7;let A7:=A3.mv s37;let PA7:Af C H7 pp pw Z:=PA3.kl (Kl.of s37) (s37 _ _ PA3.wl);let BK7:jd CB H7 k kd bs:=(BK.mv s3).mv s37;let NA7:oG C H7 bn (beg Z) 0 0 false:=NA0.kl (Kl.of s7);let⟨_,ajf,_⟩:=A7.st;let hcl:(jy (cells.map V.int) (some 6) (some 12)).length<=63:=by unfold jy;rw[av,aS,aa];lia
 let ov0:=ae5 (G:=G) Z0.n1;refine(bJ Zc rL ⟨_,bM.of e7⟩ (nR (K:=K) (a:=Zc) (xs:=jy (cells.map V.int) (some 6) (some 12)) (λi σ HD=>∃(v5 v6:Option V) (n:Addr) (ds:List dZ) (zs:List Std) (z:Std),σ=[some (.ref a),some (.ref pp),some (.ref k),some (.ref g),some (.ref n),v5,v6,none]/\Ac ps pd H7 HD/\jT C CS CB CG HD g ps pd (gR G (zs++[z]) ds)/\Path G (beg Z) ds (zs++[z])/\oG C HD n z ds.length (tp ds) (iw (gR G [] ds) z)/\Rx ls z/\z.r=Z.r/\ds.length<=i)
  (Df none none bn [] [] (beg Z) rL (λ_ _ h _ _=>h) A7 (.nil) (by rw[ov0];show NA7) AL0 rL (ax _)) (λi σ HD _ h=>?_) ?_ ?_))
 .let⟨_,_,_,_,_,_,_,kp,_⟩:=h;show bM.of (kp _ _ e7 zn1 zn2)
 .intro i x σ HD hx z;let⟨v5,v6,n,ds,zs,z,rfl,kp,AD,PH,NA,AL,zr,hdi⟩:=z;let hic:=(ah.mp hx).1;let⟨c',_,rfl⟩:=bd.mp (c_ (cf (bp hx)));let z_:=PH.len;rw[am]at z_;let z_:zs.length=ds.length:=Nat.succ.inj z_;let GP:lG z:=PH.ok Z0 GF.sz z qo;let⟨_,_,_,hnD,_⟩:=NA.ex;let klD:=kp.kl ajf A7.dn;let PB:=kp _ _ PA7.wl wn1 wn2;let PD:=PA7.kl klD PB;let⟨_,_,_,_,ae9,_⟩:=PD.ex;calc⟨λσ HE=>∃(v5 v6:Option V) (n:Addr) (ds:List dZ) (zs:List Std) (z:Std),σ=[some (.ref a),some (.ref pp),some (.ref k),some (.ref g),some (.ref n),v5,v6,none]/\Ac ps pd H7 HE/\jT C CS CB CG HE g ps pd (gR G (zs++[z]) ds)/\Path G (beg Z) ds (zs++[z])/\oG C HE n z ds.length (tp ds) (iw (gR G [] ds) z)/\Rx ls z/\z.r=Z.r/\ds.length<=i+1,?_,λσ HE h=>h⟩;calc(aY n _ _ (.bl (iw (gR G [] ds) z)) rL rL (aQ.of hnD) (aM (j:=6) rL) (bf _ rL ?_));cases hov:iw (gR G [] ds) z with
  | true=>show cI (Df _ _ n ds zs z rL kp AD PH NA AL zr qk)
  | false=>
   calc cH (aY pp _ _ (.ref pw) rL rL (aQ.of ae9) (aM (j:=1) rL) ⟨n,k,kd,pw,bs,Z.ws,c',z,ds.length,tp ds,_,rL,NA,GP,BK7.kl klD,PB,by have:=PO.w1;lia,PO.wz,λe d HE sE hd hok=>?_⟩);let⟨pt,z',dd⟩:=adt (G:=G) hok hbw;let AE:=AD.mv sE;let⟨gz,_,_,_,_,hgE,_⟩:=AE.ex;let⟨_,alK,_⟩:=AE.st;calc⟨True.intro,dJ g gz _ rL hgE rL ⟨g,ps,pd,.ref e,gR G (zs++[z]) ds,zs,z,rL,AE,rL,GP,GF.ok qk (by rw[am];show zs.length+1<=101;lia),.inr (aY e d pt z' rL hd hov dd.sts (λHG kG AG=>?_))⟩⟩;rw[ag0]at AG;let klG:=kG.kl alK AE.dn;let ajg:=(Kl.of sE).trans klG;let alL:=kG _ _ (sE _ _ PB) wn1 wn2;let hgl:(gR G [] ds).done.length=ds.length:=aa _;calc⟨n,pp,pw,e,z,z',ds.length,tp ds,_,Z,gR G [] ds,d,pt,rL,NA.kl ajg,GP,PD.kl ajg alL,PO,hd.kl klG,hgl,ek,en,em,ez,dd,λt n' HF sF ht NA'=>?_⟩;calc(aY t _ _ (.ref n') rL rL (aQ.of ht) (aM (j:=1) rL) ?_);let PH':Path G (beg Z) (ds++[d]) (zs++[z]++[z']):=.snoc PH hov dd;refine(Df _ _ n' (ds++[d]) (zs++[z]) z' rL (λx o h m1 m2=>sF _ _ (kG _ _ (sE _ _ (kp x o h m1 m2)) m1 m2)) (AG.mv sF) PH' ?_ (dd.al AL) (dd.r.trans zr) ?_)
   .rw[am,Px,adq dd GP.n1];show NA'
   .rw[am];show g9 hdi
 intro σ HD z;let⟨v5,v6,n,ds,zs,z,rfl,kp,AD,PH,NA,AL,zr,hdi⟩:=z;let z_:=PH.len;rw[am]at z_;let z_:zs.length=ds.length:=Nat.succ.inj z_;let GP:lG z:=PH.ok Z0 GF.sz z qo;let hgl:(gR G (zs++[z]) ds).done.length=ds.length:=aa _;let GK:abr (gR G (zs++[z]) ds):=GF.ok qk (by rw[am];show zs.length+1<=101;lia);let klD:=kp.kl ajf A7.dn;let PB:=kp _ _ PA7.wl wn1 wn2;let PD:=PA7.kl klD PB;let BKD:=BK7.kl klD;let hSD:bM K HD a (cells.map V.int):=akx hS ((s1.trans Cq).trans s7) kp λo h=>⟨bL (sG _ _ (s2 _ _ (s1 _ _ h))) fps,bL (sG _ _ (s2 _ _ (s1 _ _ h))) fpd⟩
 obtain⟨b,pr,JC,hnD,⟨_,BB⟩,_⟩:=NA.ex;let⟨_,_,_,_,ae9,_⟩:=PD.ex;let eov:iw (gR G (zs++[z]) ds) z=iw (gR G [] ds) z:=rfl;let NB:oG C HD n z (gR G (zs++[z]) ds).done.length (tp ds) (iw (gR G (zs++[z]) ds) z):=by rw[hgl,eov];show NA
 let ews:(gR G (zs++[z]) ds).ws=G.ws:=rfl;let hst:(gR G (zs++[z]) ds).sts=zs++[z]:=rfl;rw[<-ews]at hbw;generalize gR G (zs++[z]) ds=G' at AD hgl GK NB hbw hst ⊢;clear NA hgl eov ews PH A7 A3;calc(pK a cells 4 rL hSD (λx4=>(pK a cells 5 rL hSD (λx5=>⟨zsz 2,λLc hLc=>?_⟩))));generalize e8:upd _ Lc _=H8;let⟨s8,e8⟩:=d_ hLc e8;refine(bJ Lc rL ⟨_,bM.of e8⟩ (nR (K:=K) (a:=Lc) (xs:=[.int x4,.int x5]) (λi σ H9=>∃(v5 v6 v7:Option V),σ=[some (.ref a),some (.ref pp),some (.ref k),some (.ref g),some (.ref n),v5,v6,v7]/\aB H8 H9) (yg _ _ _ rL (aB.refl _)) (λi σ H9 _ h=>?_) ?_ ?_))
 .let⟨_,_,_,_,s9⟩:=h;show bM.of (s9 _ _ e8)
 .intro i x σ H9 hx z;let⟨v5',v6',v7',rfl,s9⟩:=z;obtain⟨c',rfl⟩:∃c':Int,x=.int c':=by
   rcases bX.mp (bp hx) with e|e;.show⟨_,e⟩
   .show⟨_,bc.mp e⟩
  let sD9:=s8.trans s9;let NB9:oG C H9 n z G'.done.length (tp ds) (iw G' z):=NB.kl (Kl.of sD9);refine⟨λσ H1=>∃(x:V) (d:Addr),σ=[some (.ref a),some (.ref pp),some (.ref k),some (.ref g),some (.ref n),some (.int c'),some x,some (.ref d)]/\aB H9 H1/\((∃rf,H1 d=some (.tup (Gy rf))/\rf.low/\Due K G' z H1 x rf)\/(∃(p:Addr) (ts:List cu),x=.ref p/\H1 d=some (.tup [.int (-3)])/\jA H1 p (.lay ts)/\(∀t∈ts,inB z.r z.w t)/\0<ts.length/\ts.length<=7/\gP (ts.map lF)=true)),?_,?_⟩
  .calc(aY pp _ _ (.ref pw) rL rL (aQ.of (sD9 _ _ ae9)) (aM (j:=1) rL) ⟨n,pw,z,tp ds,iw G' z,Z.ws,ls,c',G',rL,NB9,GP,sD9 _ _ PB,by have:=PO.w1;lia,PO.wz,AL,l4,lz,by rw[zr];show PO.r2,λT H1 s1 hb=>?_⟩);cases hb with| @nd x d hT hd hx=>show(aU T _ rL (aQ.of hT) rL (dW _ _ rL (aK _ _ rL rL (aK x d rL s1 (.inl (bJ (.nd) hd True.intro (.inl ⟨rL,hx⟩)))))))| @rf p d rf hT hd hx hr=>show(aU T _ rL (aQ.of hT) rL (dW _ _ rL (aK _ _ rL rL (aK _ d rL s1 (.inl (bJ rf hd (hr.low BB) (.inr (bJ p rL hx (.inl hr)))))))))| @lay p d ts hT hd hp jL h0 h7 ri=>show(aU T _ rL (aQ.of hT) rL (dW _ _ rL (aK _ _ rL rL (aK _ d rL s1 (.inr (Ik p ts rL hd hp jL h0 h7 ri))))))
  intro σ Ui z;let⟨x,d,rfl,Fi,alM⟩:=z;let nn:∀{Rw:Hp},aB H9 Rw->oG C Rw n z G'.done.length (tp ds) (iw G' z):=λs=>NB9.kl (Kl.of s);refine⟨λσ H1=>∃(d:Addr) (rf:Rf),σ=[some (.ref a),some (.ref pp),some (.ref k),some (.ref g),some (.ref n),some (.int c'),some x,some (.ref d)]/\aB H9 H1/\H1 d=some (.tup (Gy rf))/\rf.low/\Due K G' z H1 x rf,?_,?_⟩
  .calc(bJ _ rL (zsz 1) (λM hM=>?_));generalize J:upd _ M _=Rw;let⟨O,J⟩:=d_ hM J;let h3:jO K Rw 2 (.tup [.int (-3)]) (.ref M):=.tup (aQ.of J) (.cons (.int _) .nil);rcases alM with⟨rf,hd,I,hu⟩|⟨p,ts,rfl,hd,hp,jL,h0,h7,ri⟩
   .calc(dJ 2 (.tup (pW rf)) (.tup [.int (-3)]) qr (vV (O _ _ hd) I) h3 (bf _ rL ?_));rw[af (akt rf)];show cI (cT d rf rL (Fi.trans O) (O _ _ hd) I (hu.mv O))
   .calc(dJ 2 (.tup [.int (-3)]) (.tup [.int (-3)]) qr (.tup (aQ.of (O _ _ hd)) (.cons (.int _) .nil)) h3 (bf _ rL ?_));rw[ai rfl];let s9b:=Fi.trans O;calc cH ⟨.non,.ref p,n,k,rL,.inl ⟨kd,p,z,G'.done.length,tp ds,iw G' z,bs,ts,rL,rL,nn s9b,GP,BKD.mv (sD9.trans s9b),hp.mv O,jL,h0,h7,ri,λv hv T H12 D hT=>?_⟩⟩;refine(cT T (.vd v) rL (s9b.trans D) hT (adC BB jL h0 hv) (.inr (bJ p rL ?_ ?_)))
    .let⟨t,as,h1,_⟩:=hp;show .lay (D _ _ (O _ _ h1))
    .by_cases e:v=.ok;.show .inr (by rw[e])
     .show .inl (.vd ((hp.mv O).mv D) jL h0 h7 ri (ag5 hbw hv) e)
  intro σ Rw z;let⟨d,rf,rfl,O,hd,I,hu⟩:=z;let n11:=nn O;let⟨_,_,_,alN,_⟩:=n11.ex;refine⟨λσ H1=>∃(d:Addr) (rf:Rf),σ=[some (.ref a),some (.ref pp),some (.ref k),some (.ref g),some (.ref n),some (.int c'),some x,some (.ref d)]/\aB H9 H1/\H1 d=some (.tup (Gy rf))/\rf.low/\(rf=.vd .ok\/mY K G' z H1 x rf),?_,?_⟩
  .refine(aG (λb H1=>aB Rw H1/\if b=true then iw G' z=true/\rf≠.nd else rf=.vd .ok\/mY K G' z H1 x rf) ?_ ?_)
   .calc(aY n _ _ (.bl (iw G' z)) rL rL (aQ.of alN) (aM (j:=6) rL) (bf _ rL ?_));cases hov:iw G' z with
    | false=>show cI ⟨aB.refl _,hu.ref hov⟩
    | true=>
     calc cH ⟨zsz 1,λM hM=>?_⟩;generalize J:upd _ M _=H12;let⟨D,J⟩:=d_ hM J;calc(dJ 2 (.tup (pW rf)) (.tup [.int 0]) qr (vV (D _ _ hd) I) (.tup (aQ.of J) (.cons (.int _) .nil)) (bf _ rL ?_));by_cases e:rf=.nd
     .subst e;rw[ai (show Dt.tup (pW .nd)=.tup [.int 0] from rL)];calc⟨D,.inr (.nd ?_)⟩;rcases hu with⟨_,h⟩|⟨p,_,_,h|h⟩;.show h.mv D
      .cases h
      .cases h
     .rw[af (aku e)];show(cj D rL e)
   .rintro bo H12 ⟨D,hb⟩;cases bo with| false=>show cI (cT d rf rL (O.trans D) (D _ _ hd) I hb)| true=>calc cH ⟨zsz 1,λM hM=>?_⟩;generalize J:upd _ M _=H13;let⟨Y,J⟩:=d_ hM J;show(cT M (.ov) rL ((O.trans D).trans Y) J True.intro (.inr ((hu.mv (D.trans Y)).over hb.1 hb.2)))
  intro σ H12 z;let⟨d,rf,rfl,D,hd,I,hrf⟩:=z;calc⟨λσ H1=>∃(v5 v6 v7:Option V),σ=[some (.ref a),some (.ref pp),some (.ref k),some (.ref g),some (.ref n),v5,v6,v7]/\aB H8 H1,?_,λσ H1 h=>h⟩;calc(bJ _ rL (zsz 1) (λM hM=>?_));generalize J:upd _ M _=H13;let⟨Y,J⟩:=d_ hM J;let s93:=D.trans Y;calc(dJ 2 (.tup (pW rf)) (.tup [.int (-2)]) qr (vV (Y _ _ hd) I) (.tup (aQ.of J) (.cons (.int _) .nil)) (bf _ rL ?_));by_cases e:rf=.vd .ok
  .subst e;rw[ai (show Dt.tup (pW (.vd .ok))=.tup [.int (-2)] from rL)];show cI (yg _ _ _ rL (s9.trans s93))
  rw[af (akv e)];let hrf:=hrf.resolve_left e;let D13:=sD9.trans s93;calc cH ⟨.ref g,x,n,k,rL,.inr ⟨g,ps,pd,G',zs,z,rf,rL,AD.mv D13,hst,GP,GK,hrf.mv Y,λT H14 Cq hT=>?_⟩⟩;let ajh:=Cq _ _ (Y _ _ hd);calc(dJ 2 (.tup (pW rf)) (.tup (pW rf)) qr (vV hT I) (vV ajh I) (bf _ rL ?_));rw[ai rfl];let D14:=D13.trans Cq;calc cI ⟨g,n,ps,pd,G',zs,z,tp ds,rL,AD.mv D14,hst,GP,GK.low,by have:=GK.len;lia,NB.kl (Kl.of D14),λH15 Cp=>?_⟩;let D15:=D14.trans Cp;calc⟨.ref g,x,n,k,rL,.inr ⟨g,ps,pd,G',zs,z,rf,rL,AD.mv D15,hst,GP,GK,(hrf.mv Y).mv (Cq.trans Cp),λT' H16 uY hT'=>?_⟩⟩;calc(dJ 2 (.tup (pW rf)) (.tup (pW rf)) qr (vV hT' I) (vV (uY _ _ (Cp _ _ ajh)) I) (bf _ rL ?_));rw[ai rfl];show cI (yg _ _ _ rL ((((s9.trans s93).trans Cq).trans Cp).trans uY))
 .intro σ H9 z;let⟨v5',v6',v7',rfl,s9⟩:=z;let D9:=s8.trans s9;show⟨g,n,ps,pd,G',zs,z,tp ds,rL,AD.mv D9,hst,GP,GK.low,by have:=GK.len;lia,NB.kl (Kl.of D9),λUi _=>q Ui⟩
end
end My
end
namespace My
open PySem L2
section
variable {P:Program}{w:World}{K:W.Frag}{mg:Str->Option Value}{base:Heap}
abbrev ag9 (K:W.Frag)(C:Addr):=tu K C
abbrev ae_ (K:W.Frag)(C:Addr):=uW K C
def akz {h:Heap}{x:Str}{l:List Nat}{t:Tok}(X:K.In h)(G:h.Ns mainGlobals mg)(b:W.nsIn K mainGlobals x=some (some (.str (S l) t)))(n:t≠0):∃t,t≠0/\mg x=some (.str (S l) t):=⟨t,n,cn X G b⟩
def adD {h:Heap}(X:K.In h)(G:h.Ns mainGlobals mg){x:Str}{a:Addr}{c1 c2 c3:Nat}{i1 i2 i3:Int}{O Y Z I F D:Tok}{ep:Nat}(b:W.nsIn K mainGlobals x=some (some (.ref a)))(l:K.lookup a=some ⟨.type "dict",none,.dict #[⟨hashStr w (S [c1]),.str (S [c1]) O,.int i1 I⟩,⟨hashStr w (S [c2]),.str (S [c2]) Y,.int i2 F⟩,⟨hashStr w (S [c3]),.str (S [c3]) Z,.int i3 D⟩] ep,#[]⟩)(z:(a==sysModules)=false)(n:([c1,c2,c3]:List Nat).Nodup):∃a,mg x=some (.ref a)/\∀P:Program,KDict P w K a [(dX [c1],.int i1),(dX [c2],.int i2),(dX [c3],.int i3)]:=by
 calc⟨a,cn X G b,λP=>⟨z,_,[(dX [c1],.int i1 I),(dX [c2],.int i2 F),(dX [c3],.int i3 D)],l,?_,?_⟩⟩;.show .cons ⟨rL,⟨_,rL⟩⟩ (.cons ⟨rL,⟨_,rL⟩⟩ (.cons ⟨rL,⟨_,rL⟩⟩ .nil))
 .refine⟨_,_,⟨rL,rL,rL⟩,rL,?_,?_,?_⟩
  .intro e j;let j:e∈[(⟨hashStr w (S [c1]),.str (S [c1]) O,.int i1 I⟩:DictEntry),⟨hashStr w (S [c2]),.str (S [c2]) Y,.int i2 F⟩,⟨hashStr w (S [c3]),.str (S [c3]) Z,.int i3 D⟩]:=by simpa using j
   rcases bX.mp j with rfl|j;.show⟨dX [c1],nP _ _ _ _,rL⟩
   rcases bX.mp j with rfl|j;.show⟨dX [c2],nP _ _ _ _,rL⟩
   rcases bX.mp j with rfl|j;.show⟨dX [c3],nP _ _ _ _,rL⟩
   .cases j
  .show .cons (nP _ _ _ _) rL (.cons (nP _ _ _ _) rL (.cons (nP _ _ _ _) rL .nil))
  .let e:([(dX [c1],Value.int i1 I),(dX [c2],Value.int i2 F),(dX [c3],Value.int i3 D)]:List (Key×Value)).map (·.1)=([c1,c2,c3]:List Nat).map (λc=>dX [c]):=rfl;rw[e];calc List.Pairwise.map _ (λa b J q=>J ?_) n;have:=zK (l_ q);simpa using this
structure Du (K:W.Frag)(mg:Str->Option Value)(C f0 f1 f2 f3 f4:Addr)(gk fB fd2 pG xX:FuncData):Prop where
 T:iJ K C
 xU:mg "Board"=some (.ref C)
 M:Mk K C f0
 F0:gJ K "__init__" "Board.__init__" mj f0 gk
 b0:cD K gk ms []
 F1:gJ K "at" "Board.at" pO f1 fB
 b1:cD K fB cO []
 m1:Meth K C "at" f1
 F2:gJ K "is_free" "Board.is_free" jQ f2 fd2
 b2:cD K fd2 aw []
 m2:Meth K C "is_free" f2
 F3:gJ K "run" "Board.run" nZ f3 pG
 b3:cD K pG rl []
 m3:Meth K C "run" f3
 F4:gJ K "laid" "Board.laid" mq f4 xX
 b4:cD K xX pu []
 m4:Meth K C "laid" f4
def afa {h:Heap}{C f0 f1 f2 f3 f4:Addr}(X:K.In h)(G:h.Ns mainGlobals mg){W2 W3 F an1 od2 D od3 J od4 an4:Option Addr}{Rc sl1 sl2 LR sl4:Array (Option Value)}{W4 W5 W6 W7 GQ W8 oc1 kV1 O Z Ry ct1 oc2 kV2 dc2 pm2 Rz ct2 oc3 kV3 dc3 pm3 RB ct3 oc4 Y dc4 pm4 j I:Value}(aC:W.nsIn K mainGlobals "Board"=some (some (.ref C)))(a0:W.findIn K (.ref C) "__init__"=some (some (.ref f0)))(i0:W.isFn K (.ref f0)=true)(l0:K.lookup f0=some ⟨W4,W2,.func (W.fnOf "__init__" "Board.__init__" (eU mj) (dG mj) (aL mj) .none W5 W6 W7 W3 GQ W8),Rc⟩)(c0:W.codeIn K GQ "Board.__init__"=true)(k0:W.keepIn K (.ref f0)=true)(a1:W.findIn K (.ref C) "at"=some (some (.ref f1)))(i1:W.isFn K (.ref f1)=true)(l1:K.lookup f1=some ⟨oc1,F,.func (W.fnOf "at" "Board.at" (eU pO) (dG pO) (aL pO) .none kV1 O Z an1 Ry ct1),sl1⟩)(c1:W.codeIn K Ry "Board.at"=true)(k1:W.keepIn K (.ref f1)=true)(a2:W.findIn K (.ref C) "is_free"=some (some (.ref f2)))(i2:W.isFn K (.ref f2)=true)(l2:K.lookup f2=some ⟨oc2,od2,.func (W.fnOf "is_free" "Board.is_free" (eU jQ) (dG jQ) (aL jQ) .none kV2 dc2 pm2 D Rz ct2),sl2⟩)(c2:W.codeIn K Rz "Board.is_free"=true)(k2:W.keepIn K (.ref f2)=true)(a3:W.findIn K (.ref C) "run"=some (some (.ref f3)))(i3:W.isFn K (.ref f3)=true)(l3:K.lookup f3=some ⟨oc3,od3,.func (W.fnOf "run" "Board.run" (eU nZ) (dG nZ) (aL nZ) .none kV3 dc3 pm3 J RB ct3),LR⟩)(c3:W.codeIn K RB "Board.run"=true)(k3:W.keepIn K (.ref f3)=true)(a4:W.findIn K (.ref C) "laid"=some (some (.ref f4)))(i4:W.isFn K (.ref f4)=true)(l4:K.lookup f4=some ⟨oc4,od4,.func (W.fnOf "laid" "Board.laid" (eU mq) (dG mq) (aL mq) .none Y dc4 pm4 an4 j I),sl4⟩)(c4:W.codeIn K j "Board.laid"=true)(k4:W.keepIn K (.ref f4)=true)(pg:W.plainGet K C Str.empty=true)(hd:W.hasDictIn K C=true)(po:W.plainOver K C=true)(sa:W.findIn K (.ref C) "__setattr__"=some (some (.builtin "object.__setattr__")))(mk:W.makesIn K C=true)(kc:W.keepIn K (.ref C)=true)(zy:W.findIn K (.ref C) "rows"=some none)(GR:W.findIn K (.ref C) "marks"=some none)(GX:W.findIn K (.ref C) "begin"=some none):∃C f0 f1 f2 f3 f4 gk fB fd2 pG xX,Du K mg C f0 f1 f2 f3 f4 gk fB fd2 pG xX:=by let F0:=iB (st:=mj) l0 c0 k0;let F1:=iB (st:=pO) l1 c1 k1;let F2:=iB (st:=jQ) l2 c2 k2;let F3:=iB (st:=nZ) l3 c3 k3;let F4:=iB (st:=mq) l4 c4 k4;show⟨C,f0,f1,f2,f3,f4,_,_,_,_,_,⟨⟨pg,hd,po,sa⟩,zy,GR,GX⟩,cn X G aC,⟨mk,a0,i0,kc⟩,F0,F0.binds (ps:=ms) (λ_ _ _ _ _ _ us hl=>L2.e4 (λ_ _ _ _=>rfl) us hl),F1,F1.binds (ps:=cO) (λ_ _ _ _ _ _ us hl=>L2.e3 (λ_ _ _=>rfl) us hl),⟨a1,i1,k1⟩,F2,F2.binds (ps:=aw) (λ_ _ _ _ _ _ us hl=>L2.e1 (λ_=>rfl) us hl),⟨a2,i2,k2⟩,F3,F3.binds (ps:=rl) (λ_ _ _ _ _ _ us hl=>L2.e4 (λ_ _ _ _=>rfl) us hl),⟨a3,i3,k3⟩,F4,F4.binds (ps:=pu) (λ_ _ _ _ _ _ us hl=>L2.e2 (λ_ _=>rfl) us hl),⟨a4,i4,k4⟩⟩
structure GZ (K:W.Frag)(mg:Str->Option Value)(C f0 f1 f2 f3:Addr)(gk fB fd2 pG:FuncData):Prop where
 T:vO K C
 xU:mg "Book"=some (.ref C)
 M:Mk K C f0
 F0:gJ K "__init__" "Book.__init__" n_ f0 gk
 b0:cD K gk r_ []
 F1:gJ K "has" "Book.has" pR f1 fB
 b1:cD K fB s_ []
 m1:Meth K C "has" f1
 F2:gJ K "words" "Book.words" mC f2 fd2
 b2:cD K fd2 aw []
 m2:Meth K C "words" f2
 F3:gJ K "twin" "Book.twin" oh f3 pG
 b3:cD K pG aw []
 m3:Meth K C "twin" f3
def aha {h:Heap}{C f0 f1 f2 f3:Addr}(X:K.In h)(G:h.Ns mainGlobals mg){W2 W3 D Y Z j od3 F:Option Addr}{Rc sl1 sl2 LR:Array (Option Value)}{W4 W5 W6 W7 GQ W8 O kV1 I J Ry ct1 oc2 kV2 dc2 pm2 Rz ct2 oc3 kV3 dc3 pm3 RB ct3:Value}(aC:W.nsIn K mainGlobals "Book"=some (some (.ref C)))(a0:W.findIn K (.ref C) "__init__"=some (some (.ref f0)))(i0:W.isFn K (.ref f0)=true)(l0:K.lookup f0=some ⟨W4,W2,.func (W.fnOf "__init__" "Book.__init__" (eU n_) (dG n_) (aL n_) .none W5 W6 W7 W3 GQ W8),Rc⟩)(c0:W.codeIn K GQ "Book.__init__"=true)(k0:W.keepIn K (.ref f0)=true)(a1:W.findIn K (.ref C) "has"=some (some (.ref f1)))(i1:W.isFn K (.ref f1)=true)(l1:K.lookup f1=some ⟨O,D,.func (W.fnOf "has" "Book.has" (eU pR) (dG pR) (aL pR) .none kV1 I J Y Ry ct1),sl1⟩)(c1:W.codeIn K Ry "Book.has"=true)(k1:W.keepIn K (.ref f1)=true)(a2:W.findIn K (.ref C) "words"=some (some (.ref f2)))(i2:W.isFn K (.ref f2)=true)(l2:K.lookup f2=some ⟨oc2,Z,.func (W.fnOf "words" "Book.words" (eU mC) (dG mC) (aL mC) .none kV2 dc2 pm2 j Rz ct2),sl2⟩)(c2:W.codeIn K Rz "Book.words"=true)(k2:W.keepIn K (.ref f2)=true)(a3:W.findIn K (.ref C) "twin"=some (some (.ref f3)))(i3:W.isFn K (.ref f3)=true)(l3:K.lookup f3=some ⟨oc3,od3,.func (W.fnOf "twin" "Book.twin" (eU oh) (dG oh) (aL oh) .none kV3 dc3 pm3 F RB ct3),LR⟩)(c3:W.codeIn K RB "Book.twin"=true)(k3:W.keepIn K (.ref f3)=true)(pg:W.plainGet K C Str.empty=true)(hd:W.hasDictIn K C=true)(po:W.plainOver K C=true)(sa:W.findIn K (.ref C) "__setattr__"=some (some (.builtin "object.__setattr__")))(mk:W.makesIn K C=true)(kc:W.keepIn K (.ref C)=true)(zy:W.findIn K (.ref C) "held"=some none):∃C f0 f1 f2 f3 gk fB fd2 pG,GZ K mg C f0 f1 f2 f3 gk fB fd2 pG:=by let F0:=iB (st:=n_) l0 c0 k0;let F1:=iB (st:=pR) l1 c1 k1;let F2:=iB (st:=mC) l2 c2 k2;let F3:=iB (st:=oh) l3 c3 k3;show⟨C,f0,f1,f2,f3,_,_,_,_,⟨⟨pg,hd,po,sa⟩,zy⟩,cn X G aC,⟨mk,a0,i0,kc⟩,F0,F0.binds (ps:=r_) (λ_ _ _ _ _ _ us hl=>L2.e2 (λ_ _=>rfl) us hl),F1,F1.binds (ps:=s_) (λ_ _ _ _ _ _ us hl=>L2.e2 (λ_ _=>rfl) us hl),⟨a1,i1,k1⟩,F2,F2.binds (ps:=aw) (λ_ _ _ _ _ _ us hl=>L2.e1 (λ_=>rfl) us hl),⟨a2,i2,k2⟩,F3,F3.binds (ps:=aw) (λ_ _ _ _ _ _ us hl=>L2.e1 (λ_=>rfl) us hl),⟨a3,i3,k3⟩⟩
structure Dv (K:W.Frag)(mg:Str->Option Value)(C f0:Addr)(gk:FuncData):Prop where
 T:ae_ K C
 xU:mg "Stand"=some (.ref C)
 M:Mk K C f0
 F0:gJ K "__init__" "Stand.__init__" mz f0 gk
 b0:cD K gk cZ []
def afb {h:Heap}{C f0:Addr}(X:K.In h)(G:h.Ns mainGlobals mg){W2 Y:Option Addr}{J:Array (Option Value)}{D O F Z j I:Value}(aC:W.nsIn K mainGlobals "Stand"=some (some (.ref C)))(a0:W.findIn K (.ref C) "__init__"=some (some (.ref f0)))(i0:W.isFn K (.ref f0)=true)(l0:K.lookup f0=some ⟨D,W2,.func (W.fnOf "__init__" "Stand.__init__" (eU mz) (dG mz) (aL mz) .none O F Z Y j I),J⟩)(c0:W.codeIn K j "Stand.__init__"=true)(k0:W.keepIn K (.ref f0)=true)(pg:W.plainGet K C Str.empty=true)(hd:W.hasDictIn K C=true)(po:W.plainOver K C=true)(sa:W.findIn K (.ref C) "__setattr__"=some (some (.builtin "object.__setattr__")))(mk:W.makesIn K C=true)(kc:W.keepIn K (.ref C)=true)(zy:W.findIn K (.ref C) tJ=some none)(GR:W.findIn K (.ref C) "racks"=some none)(GX:W.findIn K (.ref C) "bag"=some none)(W9:W.findIn K (.ref C) "points"=some none):∃C f0 gk,Dv K mg C f0 gk:=by let F0:=iB (st:=mz) l0 c0 k0;show⟨C,f0,_,⟨⟨pg,hd,po,sa⟩,zy,GR,GX,W9⟩,cn X G aC,⟨mk,a0,i0,kc⟩,F0,F0.binds (ps:=cZ) (λ_ _ _ _ _ _ us hl=>L2.e5 (λ_ _ _ _ _=>rfl) us hl)⟩
structure G4 (K:W.Frag)(mg:Str->Option Value)(C f0 f1 f2 f3 f4 f5 f6 f7:Addr)(gk fB fd2 pG xX Ny Nz fd7:FuncData):Prop where
 T:ag9 K C
 xU:mg "Game"=some (.ref C)
 M:Mk K C f0
 F0:gJ K "__init__" "Game.__init__" n6 f0 gk
 b0:cD K gk dt []
 F1:gJ K "do" "Game.do" qJ f1 fB
 b1:cD K fB si []
 m1:Meth K C "do" f1
 F2:gJ K "board_now" "Game.board_now" jD f2 fd2
 b2:cD K fd2 aw []
 m2:Meth K C "board_now" f2
 F3:gJ K "racks_now" "Game.racks_now" jE f3 pG
 b3:cD K pG aw []
 m3:Meth K C "racks_now" f3
 F4:gJ K "bag_now" "Game.bag_now" j6 f4 xX
 b4:cD K xX aw []
 m4:Meth K C "bag_now" f4
 F5:gJ K "points_now" "Game.points_now" jm f5 Ny
 b5:cD K Ny aw []
 m5:Meth K C "points_now" f5
 F6:gJ K "turn" "Game.turn" n8 f6 Nz
 b6:cD K Nz aw []
 m6:Meth K C "turn" f6
 F7:gJ K "is_over" "Game.is_over" j7 f7 fd7
 b7:cD K fd7 aw []
 m7:Meth K C "is_over" f7
def ahb {h:Heap}{C f0 f1 f2 f3 f4 f5 f6 f7:Addr}(X:K.In h)(G:h.Ns mainGlobals mg){W2 W3 Z an1 od2 Y od3 an3 od4 an4 od5 an5 od6 an6 od7 an7:Option Addr}{Rc sl1 sl2 LR sl4 sl5 sl6 sl7:Array (Option Value)}{W4 W5 W6 W7 GQ W8 oc1 kV1 dc1 pm1 Ry ct1 oc2 kV2 dc2 pm2 Rz ct2 oc3 kV3 dc3 pm3 RB ct3 oc4 kV4 dc4 pm4 F ct4 oc5 kV5 dc5 pm5 D ct5 oc6 kV6 J pm6 I ct6 oc7 kV7 O pm7 j ct7:Value}(aC:W.nsIn K mainGlobals "Game"=some (some (.ref C)))(a0:W.findIn K (.ref C) "__init__"=some (some (.ref f0)))(i0:W.isFn K (.ref f0)=true)(l0:K.lookup f0=some ⟨W4,W2,.func (W.fnOf "__init__" "Game.__init__" (eU n6) (dG n6) (aL n6) .none W5 W6 W7 W3 GQ W8),Rc⟩)(c0:W.codeIn K GQ "Game.__init__"=true)(k0:W.keepIn K (.ref f0)=true)(a1:W.findIn K (.ref C) "do"=some (some (.ref f1)))(i1:W.isFn K (.ref f1)=true)(l1:K.lookup f1=some ⟨oc1,Z,.func (W.fnOf "do" "Game.do" (eU qJ) (dG qJ) (aL qJ) .none kV1 dc1 pm1 an1 Ry ct1),sl1⟩)(c1:W.codeIn K Ry "Game.do"=true)(k1:W.keepIn K (.ref f1)=true)(a2:W.findIn K (.ref C) "board_now"=some (some (.ref f2)))(i2:W.isFn K (.ref f2)=true)(l2:K.lookup f2=some ⟨oc2,od2,.func (W.fnOf "board_now" "Game.board_now" (eU jD) (dG jD) (aL jD) .none kV2 dc2 pm2 Y Rz ct2),sl2⟩)(c2:W.codeIn K Rz "Game.board_now"=true)(k2:W.keepIn K (.ref f2)=true)(a3:W.findIn K (.ref C) "racks_now"=some (some (.ref f3)))(i3:W.isFn K (.ref f3)=true)(l3:K.lookup f3=some ⟨oc3,od3,.func (W.fnOf "racks_now" "Game.racks_now" (eU jE) (dG jE) (aL jE) .none kV3 dc3 pm3 an3 RB ct3),LR⟩)(c3:W.codeIn K RB "Game.racks_now"=true)(k3:W.keepIn K (.ref f3)=true)(a4:W.findIn K (.ref C) "bag_now"=some (some (.ref f4)))(i4:W.isFn K (.ref f4)=true)(l4:K.lookup f4=some ⟨oc4,od4,.func (W.fnOf "bag_now" "Game.bag_now" (eU j6) (dG j6) (aL j6) .none kV4 dc4 pm4 an4 F ct4),sl4⟩)(c4:W.codeIn K F "Game.bag_now"=true)(k4:W.keepIn K (.ref f4)=true)(a5:W.findIn K (.ref C) "points_now"=some (some (.ref f5)))(i5:W.isFn K (.ref f5)=true)(l5:K.lookup f5=some ⟨oc5,od5,.func (W.fnOf "points_now" "Game.points_now" (eU jm) (dG jm) (aL jm) .none kV5 dc5 pm5 an5 D ct5),sl5⟩)(c5:W.codeIn K D "Game.points_now"=true)(k5:W.keepIn K (.ref f5)=true)(a6:W.findIn K (.ref C) "turn"=some (some (.ref f6)))(i6:W.isFn K (.ref f6)=true)(l6:K.lookup f6=some ⟨oc6,od6,.func (W.fnOf "turn" "Game.turn" (eU n8) (dG n8) (aL n8) .none kV6 J pm6 an6 I ct6),sl6⟩)(c6:W.codeIn K I "Game.turn"=true)(k6:W.keepIn K (.ref f6)=true)(a7:W.findIn K (.ref C) "is_over"=some (some (.ref f7)))(i7:W.isFn K (.ref f7)=true)(l7:K.lookup f7=some ⟨oc7,od7,.func (W.fnOf "is_over" "Game.is_over" (eU j7) (dG j7) (aL j7) .none kV7 O pm7 an7 j ct7),sl7⟩)(c7:W.codeIn K j "Game.is_over"=true)(k7:W.keepIn K (.ref f7)=true)(pg:W.plainGet K C Str.empty=true)(hd:W.hasDictIn K C=true)(po:W.plainOver K C=true)(sa:W.findIn K (.ref C) "__setattr__"=some (some (.builtin "object.__setattr__")))(mk:W.makesIn K C=true)(kc:W.keepIn K (.ref C)=true)(zy:W.findIn K (.ref C) "book"=some none)(GR:W.findIn K (.ref C) t6=some none)(GX:W.findIn K (.ref C) "bonus"=some none)(W9:W.findIn K (.ref C) "size"=some none)(nf4:W.findIn K (.ref C) "stands"=some none)(nf5:W.findIn K (.ref C) "done"=some none):∃C f0 f1 f2 f3 f4 f5 f6 f7 gk fB fd2 pG xX Ny Nz fd7,G4 K mg C f0 f1 f2 f3 f4 f5 f6 f7 gk fB fd2 pG xX Ny Nz fd7:=by let F0:=iB (st:=n6) l0 c0 k0;let F1:=iB (st:=qJ) l1 c1 k1;let F2:=iB (st:=jD) l2 c2 k2;let F3:=iB (st:=jE) l3 c3 k3;let F4:=iB (st:=j6) l4 c4 k4;let F5:=iB (st:=jm) l5 c5 k5;let F6:=iB (st:=n8) l6 c6 k6;let F7:=iB (st:=j7) l7 c7 k7;show⟨C,f0,f1,f2,f3,f4,f5,f6,f7,_,_,_,_,_,_,_,_,⟨⟨pg,hd,po,sa⟩,zy,GR,GX,W9,nf4,nf5⟩,cn X G aC,⟨mk,a0,i0,kc⟩,F0,F0.binds (ps:=dt) (λ_ _ _ _ _ _ us hl=>L2.e8 (λ_ _ _ _ _ _ _ _=>rfl) us hl),F1,F1.binds (ps:=si) (λ_ _ _ _ _ _ us hl=>L2.e2 (λ_ _=>rfl) us hl),⟨a1,i1,k1⟩,F2,F2.binds (ps:=aw) (λ_ _ _ _ _ _ us hl=>L2.e1 (λ_=>rfl) us hl),⟨a2,i2,k2⟩,F3,F3.binds (ps:=aw) (λ_ _ _ _ _ _ us hl=>L2.e1 (λ_=>rfl) us hl),⟨a3,i3,k3⟩,F4,F4.binds (ps:=aw) (λ_ _ _ _ _ _ us hl=>L2.e1 (λ_=>rfl) us hl),⟨a4,i4,k4⟩,F5,F5.binds (ps:=aw) (λ_ _ _ _ _ _ us hl=>L2.e1 (λ_=>rfl) us hl),⟨a5,i5,k5⟩,F6,F6.binds (ps:=aw) (λ_ _ _ _ _ _ us hl=>L2.e1 (λ_=>rfl) us hl),⟨a6,i6,k6⟩,F7,F7.binds (ps:=aw) (λ_ _ _ _ _ _ us hl=>L2.e1 (λ_=>rfl) us hl),⟨a7,i7,k7⟩⟩
structure afc (K:W.Frag)(mg:Str->Option Value)(dz cB cg cL cY dH bN bW dB fD eY dU fP fj fQ CR jU oH iI jq:Addr)(qQ xq nO pH:FuncData):Prop where
 W_:mg "NoDeed"=some (.ref dz)
 NP:mg "NoLaying"=some (.ref cB)
 aag:mg "Taken"=some (.ref cg)
 RD:mg "Crooked"=some (.ref cL)
 afX:mg "Gap"=some (.ref cY)
 aah:mg "Apart"=some (.ref dH)
 RG:mg "Lacking"=some (.ref bN)
 Xa:mg "NoWord"=some (.ref bW)
 Xb:mg "TooFew"=some (.ref dB)
 adE:mg "Over"=some (.ref fD)
 afd:mg "NoBack"=some (.ref eY)
 adF:mg "NoBoard"=some (.ref dU)
 ahc:mg "NoRow"=some (.ref fP)
 afe:mg "NoText"=some (.ref fj)
 ahd:mg "Twice"=some (.ref fQ)
 mR:mg "RackError"=some (.ref CR)
 I:InitOf K CR
 uZ:W.excIn K cB jl "ValueError.__new__"=true
 xr:W.excIn K cL jl "ValueError.__new__"=true
 Cr:W.excIn K dH jl "ValueError.__new__"=true
 zA:W.excIn K dz jl "ValueError.__new__"=true
 zB:W.excIn K dB jl "ValueError.__new__"=true
 G5:W.excIn K fD jl "ValueError.__new__"=true
 Jb:rN K mg "Taken" cg jU se
 Jc:gJ K "__init__" "Taken.__init__" lZ jU qQ
 O5:cD K qQ cO []
 Tq:rN K mg "Gap" cY oH se
 Tr:gJ K "__init__" "Gap.__init__" pN oH xq
 aa8:cD K xq cO []
 Ag:rN K mg "Lacking" bN iI ["tile"]
 Ah:gJ K "__init__" "Lacking.__init__" jZ iI nO
 Gf:cD K nO sQ []
 Dw:rN K mg "NoWord" bW jq ["word"]
 Dy:gJ K "__init__" "NoWord.__init__" lM jq pH
 Dr:cD K pH sw []
 M:Tn K CR ⟨cB,cg,cL,cY,dH,bN,bW⟩
 V:DoF K ⟨⟨cB,cg,cL,cY,dH,bN,bW⟩,dz,dB,fD⟩ [dz,cB,cg,cL,cY,dH,bN,bW,dB,fD,eY,dU,fP,fj,fQ] [cg,cY,bN,bW,CR]
 O:afS K ⟨cB,cg,cL,cY,dH,bN,bW⟩
def qg {C:Addr}{F:List Addr}{j:Nat}(h:(F.zipIdx.all λp=>W.kitOne K (.ref C) (.ref p.1)==some (decide (p.2=j)))=true):∀(i:Nat) (D:Addr),F[i]?=some D->W.kitOne K (.ref C) (.ref D)=some (decide (i=j)):=λi D e=>beq_iff_eq.mp (eK.mp h (D,i) (List.mem_zipIdx_iff_getElem?.mpr e))
def qj {C:Addr}{hs:List Addr}{bs:List Bool}(h:((hs.zip bs).all λp=>W.exmOne K (.ref C) (.ref p.1)==some p.2)=true):∀(j:Nat) (D:Addr) (b:Bool),hs[j]?=some D->bs[j]?=some b->W.exmOne K (.ref C) (.ref D)=some b:=λj D b e1 e2=>beq_iff_eq.mp (eK.mp h (D,b) (bp (i:=j) (lj.mpr ⟨e1,e2⟩)))
noncomputable def xK (K:W.Frag)(C:Addr):Bool:=(W.clsIn K C).isSome&&W.findIn K (.ref C) "__getattribute__" == some (some (.builtin "BaseException.__getattribute__"))&&W.findIn K (.ref C) "__getattr__" == some none&&W.findIn K (.ref C) "__class__" == some (some (.builtin "object.__class__"))&&W.mroIn K C (.type "object")==some true&&W.mroIn K C (.type "BaseException")==some true
def ju {C:Addr}(h:xK K C=true)(hn:W.specialIn K (.builtin "object.__class__") "__get__"=some (some (.builtin "getset_descriptor.__get__")))(ht:W.takesIn K (.builtin "object.__class__")=some true):wg K C:=by simp only[xK,cp,beq_iff_eq]at h;obtain⟨⟨⟨⟨⟨a,b⟩,c⟩,d⟩,e⟩,f⟩:=h;show⟨a,b,c,d,hn,ht,e,f⟩
def ahe {h:Heap}{dz cB cg cL cY dH bN bW dB fD eY dU fP fj fQ CR jU oH iI jq:Addr}(X:K.In h)(G:h.Ns mainGlobals mg){afg afh aji ajj abD abE adG adH:Option Addr}{Y F abF adI:Array (Option Value)}{I afk afl afm Xc Z ajl ajm ajn D J ajp abG abH abI abJ NQ abK adK j O adN RJ adO:Value}(Ko:W.nsIn K mainGlobals "NoDeed"=some (some (.ref dz)))(Dz:W.nsIn K mainGlobals "NoLaying"=some (some (.ref cB)))(Jd:W.nsIn K mainGlobals "Taken"=some (some (.ref cg)))(G6:W.nsIn K mainGlobals "Crooked"=some (some (.ref cL)))(Tt:W.nsIn K mainGlobals "Gap"=some (some (.ref cY)))(PJ:W.nsIn K mainGlobals "Apart"=some (some (.ref dH)))(Ai:W.nsIn K mainGlobals "Lacking"=some (some (.ref bN)))(DG:W.nsIn K mainGlobals "NoWord"=some (some (.ref bW)))(Kp:W.nsIn K mainGlobals "TooFew"=some (some (.ref dB)))(Xd:W.nsIn K mainGlobals "Over"=some (some (.ref fD)))(Kq:W.nsIn K mainGlobals "NoBack"=some (some (.ref eY)))(G7:W.nsIn K mainGlobals "NoBoard"=some (some (.ref dU)))(PK:W.nsIn K mainGlobals "NoRow"=some (some (.ref fP)))(Kr:W.nsIn K mainGlobals "NoText"=some (some (.ref fj)))(PL:W.nsIn K mainGlobals "Twice"=some (some (.ref fQ)))(aR:W.nsIn K mainGlobals "RackError"=some (some (.ref CR)))(uZ:W.excIn K cB jl "ValueError.__new__"=true)(xr:W.excIn K cL jl "ValueError.__new__"=true)(Cr:W.excIn K dH jl "ValueError.__new__"=true)(zA:W.excIn K dz jl "ValueError.__new__"=true)(zB:W.excIn K dB jl "ValueError.__new__"=true)(G5:W.excIn K fD jl "ValueError.__new__"=true)(PN:W.exmOne K (.ref cg) (.ref CR)=some true)(G8:W.exmOne K (.ref cL) (.ref CR)=some true)(abL:W.exmOne K (.ref cY) (.ref CR)=some true)(PX:W.exmOne K (.ref dH) (.ref CR)=some true)(G9:W.exmOne K (.ref bN) (.ref CR)=some true)(Ks:W.exmOne K (.ref bW) (.ref CR)=some true)(Xe:W.findIn K (.ref cg) "__init__"=some (some (.ref jU)))(Ku:W.isFn K (.ref jU)=true)(Kv:K.lookup jU=some ⟨I,afg,.func (W.fnOf "__init__" "Taken.__init__" (eU lZ) (dG lZ) (aL lZ) .none afk afl afm afh Xc Z),Y⟩)(Kw:W.codeIn K Xc "Taken.__init__"=true)(Ky:W.keepIn K (.ref jU)=true)(G_:zL K cg jU=true)(Kz:W.keepIn K (.ref cg)=true)(KC:((W.clsIn K cg).any λcd=>cd.hasDict&&vI cd.mro)=true)(KD:W.findIn K (.ref cg) "__setattr__"=some (some (.builtin "object.__setattr__")))(DK:W.hasDictIn K cg=true)(wN:W.findIn K (.ref cg) "row"=some none)(rF:W.findIn K (.ref cg) tF=some none)(adP:W.findIn K (.ref cY) "__init__"=some (some (.ref oH)))(Xf:W.isFn K (.ref oH)=true)(Xg:K.lookup oH=some ⟨ajl,aji,.func (W.fnOf "__init__" "Gap.__init__" (eU pN) (dG pN) (aL pN) .none ajm ajn D ajj J ajp),F⟩)(Xh:W.codeIn K J "Gap.__init__"=true)(Xi:W.keepIn K (.ref oH)=true)(P0:zL K cY oH=true)(Xj:W.keepIn K (.ref cY)=true)(Xk:((W.clsIn K cY).any λcd=>cd.hasDict&&vI cd.mro)=true)(Xl:W.findIn K (.ref cY) "__setattr__"=some (some (.builtin "object.__setattr__")))(NT:W.hasDictIn K cY=true)(Aj:W.findIn K (.ref cY) "row"=some none)(u9:W.findIn K (.ref cY) tF=some none)(NZ:W.findIn K (.ref bN) "__init__"=some (some (.ref iI)))(DN:W.isFn K (.ref iI)=true)(DP:K.lookup iI=some ⟨abG,abD,.func (W.fnOf "__init__" "Lacking.__init__" (eU jZ) (dG jZ) (aL jZ) .none abH abI abJ abE NQ abK),abF⟩)(DQ:W.codeIn K NQ "Lacking.__init__"=true)(DR:W.keepIn K (.ref iI)=true)(Bg:zL K bN iI=true)(DW:W.keepIn K (.ref bN)=true)(DX:((W.clsIn K bN).any λcd=>cd.hasDict&&vI cd.mro)=true)(DY:W.findIn K (.ref bN) "__setattr__"=some (some (.builtin "object.__setattr__")))(yD:W.hasDictIn K bN=true)(rG:W.findIn K (.ref bN) "tile"=some none)(RK:W.findIn K (.ref bW) "__init__"=some (some (.ref jq)))(Hf:W.isFn K (.ref jq)=true)(Hg:K.lookup jq=some ⟨adK,adG,.func (W.fnOf "__init__" "NoWord.__init__" (eU lM) (dG lM) (aL lM) .none j O adN adH RJ adO),adI⟩)(Hh:W.codeIn K RJ "NoWord.__init__"=true)(Hi:W.keepIn K (.ref jq)=true)(D_:zL K bW jq=true)(Hj:W.keepIn K (.ref bW)=true)(Hl:((W.clsIn K bW).any λcd=>cd.hasDict&&vI cd.mro)=true)(Ho:W.findIn K (.ref bW) "__setattr__"=some (some (.builtin "object.__setattr__")))(Ak:W.hasDictIn K bW=true)(tE:W.findIn K (.ref bW) "word"=some none)(hn:W.specialIn K (.builtin "object.__class__") "__get__"=some (some (.builtin "getset_descriptor.__get__")))(ht:W.takesIn K (.builtin "object.__class__")=some true)(KH:xK K dz=true)(KJ:(([dz,cB,cg,cL,cY,dH,bN,bW,dB,fD,eY,dU,fP,fj,fQ]:List Addr).zipIdx.all λp=>W.kitOne K (.ref dz) (.ref p.1)==some (decide (p.2=0)))=true)(KN:((([cg,cY,bN,bW,CR]:List Addr).zip [false,false,false,false,true]).all λp=>W.exmOne K (.ref dz) (.ref p.1)==some p.2)=true)(Ea:xK K cB=true)(Eb:(([dz,cB,cg,cL,cY,dH,bN,bW,dB,fD,eY,dU,fP,fj,fQ]:List Addr).zipIdx.all λp=>W.kitOne K (.ref cB) (.ref p.1)==some (decide (p.2=1)))=true)(Ec:((([cg,cY,bN,bW,CR]:List Addr).zip [false,false,false,false,true]).all λp=>W.exmOne K (.ref cB) (.ref p.1)==some p.2)=true)(Cu:xK K cg=true)(P_:(([dz,cB,cg,cL,cY,dH,bN,bW,dB,fD,eY,dU,fP,fj,fQ]:List Addr).zipIdx.all λp=>W.kitOne K (.ref cg) (.ref p.1)==some (decide (p.2=2)))=true)(Qa:((([cg,cY,bN,bW,CR]:List Addr).zip [true]).all λp=>W.exmOne K (.ref cg) (.ref p.1)==some p.2)=true)(Hq:xK K cL=true)(Hr:(([dz,cB,cg,cL,cY,dH,bN,bW,dB,fD,eY,dU,fP,fj,fQ]:List Addr).zipIdx.all λp=>W.kitOne K (.ref cL) (.ref p.1)==some (decide (p.2=3)))=true)(Hs:((([cg,cY,bN,bW,CR]:List Addr).zip [false,false,false,false,true]).all λp=>W.exmOne K (.ref cL) (.ref p.1)==some p.2)=true)(N5:xK K cY=true)(abM:(([dz,cB,cg,cL,cY,dH,bN,bW,dB,fD,eY,dU,fP,fj,fQ]:List Addr).zipIdx.all λp=>W.kitOne K (.ref cY) (.ref p.1)==some (decide (p.2=4)))=true)(abN:((([cg,cY,bN,bW,CR]:List Addr).zip [false,true]).all λp=>W.exmOne K (.ref cY) (.ref p.1)==some p.2)=true)(Qc:xK K dH=true)(Qd:(([dz,cB,cg,cL,cY,dH,bN,bW,dB,fD,eY,dU,fP,fj,fQ]:List Addr).zipIdx.all λp=>W.kitOne K (.ref dH) (.ref p.1)==some (decide (p.2=5)))=true)(Qe:((([cg,cY,bN,bW,CR]:List Addr).zip [false,false,false,false,true]).all λp=>W.exmOne K (.ref dH) (.ref p.1)==some p.2)=true)(xu:xK K bN=true)(Ht:(([dz,cB,cg,cL,cY,dH,bN,bW,dB,fD,eY,dU,fP,fj,fQ]:List Addr).zipIdx.all λp=>W.kitOne K (.ref bN) (.ref p.1)==some (decide (p.2=6)))=true)(Hu:((([cg,cY,bN,bW,CR]:List Addr).zip [false,false,true]).all λp=>W.exmOne K (.ref bN) (.ref p.1)==some p.2)=true)(zE:xK K bW=true)(KQ:(([dz,cB,cg,cL,cY,dH,bN,bW,dB,fD,eY,dU,fP,fj,fQ]:List Addr).zipIdx.all λp=>W.kitOne K (.ref bW) (.ref p.1)==some (decide (p.2=7)))=true)(KR:((([cg,cY,bN,bW,CR]:List Addr).zip [false,false,false,true]).all λp=>W.exmOne K (.ref bW) (.ref p.1)==some p.2)=true)(KY:xK K dB=true)(KZ:(([dz,cB,cg,cL,cY,dH,bN,bW,dB,fD,eY,dU,fP,fj,fQ]:List Addr).zipIdx.all λp=>W.kitOne K (.ref dB) (.ref p.1)==some (decide (p.2=8)))=true)(K1:((([cg,cY,bN,bW,CR]:List Addr).zip [false,false,false,false,true]).all λp=>W.exmOne K (.ref dB) (.ref p.1)==some p.2)=true)(Xm:xK K fD=true)(Xn:(([dz,cB,cg,cL,cY,dH,bN,bW,dB,fD,eY,dU,fP,fj,fQ]:List Addr).zipIdx.all λp=>W.kitOne K (.ref fD) (.ref p.1)==some (decide (p.2=9)))=true)(Xo:((([cg,cY,bN,bW,CR]:List Addr).zip [false,false,false,false,true]).all λp=>W.exmOne K (.ref fD) (.ref p.1)==some p.2)=true)(g2:W.specialIn K (.ref CR) "__getattribute__"=some (some (.builtin "type.__getattribute__")))(rd:W.readsIn K CR (.type "type")=true)(fc:W.findCls K (.ref CR) (.type "type") "__init__"=some (.val (.builtin "ValueError.__init__")))
  : ∃dz cB cg cL cY dH bN bW dB fD eY dU fP fj fQ CR jU oH iI jq qQ xq nO pH,afc K mg dz cB cg cL cY dH bN bW dB fD eY dU fP fj fQ CR jU oH iI jq qQ xq nO pH:=by
 let Jc:=iB (st:=lZ) Kv Kw Ky;let Tr:=iB (st:=pN) Xg Xh Xi;let Ah:=iB (st:=jZ) DP DQ DR;let Dy:=iB (st:=lM) Hg Hh Hi;let Jb:rN K mg "Taken" cg jU se:=⟨cn X G Jd,⟨G_,Ku,Kz⟩,⟨KC,(ju Cu hn ht).hm,KD⟩,(ju Cu hn ht),DK,λg hg=>by
  rcases bX.mp hg with z|z;.rw[z];show wN
  .rw[bc.mp z];show rF⟩
 let Tq:rN K mg "Gap" cY oH se:=⟨cn X G Tt,⟨P0,Xf,Xj⟩,⟨Xk,(ju N5 hn ht).hm,Xl⟩,(ju N5 hn ht),NT,λg hg=>by
  rcases bX.mp hg with z|z;.rw[z];show Aj
  .rw[bc.mp z];show u9⟩
 let Ag:rN K mg "Lacking" bN iI ["tile"]:=⟨cn X G Ai,⟨Bg,DN,DW⟩,⟨DX,(ju xu hn ht).hm,DY⟩,(ju xu hn ht),yD,λg hg=>by rw[bc.mp hg];show rG⟩
 let Dw:rN K mg "NoWord" bW jq ["word"]:=⟨cn X G DG,⟨D_,Hf,Hj⟩,⟨Hl,(ju zE hn ht).hm,Ho⟩,(ju zE hn ht),Ak,λg hg=>by rw[bc.mp hg];show tE⟩
 show⟨dz,cB,cg,cL,cY,dH,bN,bW,dB,fD,eY,dU,fP,fj,fQ,CR,jU,oH,iI,jq,_,_,_,_,⟨cn X G Ko,cn X G Dz,cn X G Jd,cn X G G6,cn X G Tt,cn X G PJ,cn X G Ai,cn X G DG,cn X G Kp,cn X G Xd,cn X G Kq,cn X G G7,cn X G PK,cn X G Kr,cn X G PL,cn X G aR,⟨g2,rd,fc⟩,uZ,xr,Cr,zA,zB,G5,Jb,Jc,Jc.binds (ps:=cO) (λ_ _ _ _ _ _ us hl=>L2.e3 (λ_ _ _=>rfl) us hl),Tq,Tr,Tr.binds (ps:=cO) (λ_ _ _ _ _ _ us hl=>L2.e3 (λ_ _ _=>rfl) us hl),Ag,Ah,Ah.binds (ps:=sQ) (λ_ _ _ _ _ _ us hl=>L2.e2 (λ_ _=>rfl) us hl),Dw,Dy,Dy.binds (ps:=sw) (λ_ _ _ _ _ _ us hl=>L2.e2 (λ_ _=>rfl) us hl),⟨PN,G8,abL,PX,G9,Ks⟩,⟨⟨(ju KH hn ht),qg KJ,qj KN,qr⟩,⟨(ju Ea hn ht),qg Eb,qj Ec,qr⟩,⟨(ju Cu hn ht),qg P_,qj Qa,qr⟩,⟨(ju Hq hn ht),qg Hr,qj Hs,qr⟩,⟨(ju N5 hn ht),qg abM,qj abN,qr⟩,⟨(ju Qc hn ht),qg Qd,qj Qe,qr⟩,⟨(ju xu hn ht),qg Ht,qj Hu,qr⟩,⟨(ju zE hn ht),qg KQ,qj KR,qr⟩,⟨(ju KY hn ht),qg KZ,qj K1,qr⟩,⟨(ju Xm hn ht),qg Xn,qj Xo,qr⟩⟩,⟨⟨DK,wN,rF⟩,⟨NT,Aj,u9⟩,⟨yD,rG⟩,⟨Ak,tE⟩⟩⟩⟩
def ahf (j:mg "len"=none)(gF:mg "range"=none)(I:mg "tuple"=none)(iQ:mg "list"=none)(Gu:mg "dict"=none)(jo:mg "sorted"=none)(J:mg "isinstance"=none)(qK:mg "bool"=none)(qy:mg "int"=none)(yx:mg "str"=none)(Y:mg "all"=none)(Aa:mg "any"=none)(M6:mg "zip"=none)(qC:mg "min"=none)(Ab:mg "max"=none)(Ni:mg "sum"=none)(rY:mg "enumerate"=none)(iM:∃t,mg "FREE"=some (.str (S [46]) t))(Ca:∃t,mg "MARKS"=some (.str (S MK) t))(BZ:∃t,mg "MOST"=some (.int 9 t))(qN:∃t,mg "MOST_TILES"=some (.int 7 t))(yE:aO K mg "is_whole" uz ey)(Hv:aO K mg "is_sign" zM ey)(Bh:aO K mg "letter_of" wk [tP])(Hw:aO K mg "tile_of" zN [tP])(Hx:aO K mg "left_of" zO sr)(Ed:aO K mg "is_block" yj ey)(Ef:aO K mg "are_rows" yp ey)(Bj:aO K mg "are_marks" wB ey)(u_:aO K mg "is_cell_of" qI oo)(xM:aO K mg "is_begin_of" sJ tm)(Eh:aO K mg "is_board" yq rV)(xO:aO K mg "column_text" sO tf)(Bk:aO K mg "is_triple" wC re)(Bl:aO K mg "is_laying" wD re)(Ei:aO K mg "cells_of" yr jj)(wO:aO K mg "is_across" rR jj)(Hy:aO K mg "is_down" zP jj)(qR:aO K mg "is_next_to_taken" nD sg)(K4:aO K mg "formed" Dg fx)(zF:aO K mg "check_free" uD fx)(tQ:aO K mg "check_straight" pP jj)(zG:aO K mg "check_gaps" uE fx)(vW:aO K mg "check_joined" qZ fx)(xP:aO K mg "check_words" sV sf)(vX:aO K mg "check_laying" q_ li)(Ej:aO K mg "worth_of" yt tj)(Hz:aO K mg "cell_in" zQ tq)(xQ:aO K mg "word_points" sW rn)(Ek:aO K mg "bonus_of" yu sv)(Bm:aO K mg "points_of" wF oA)(xR:aO K mg "left_behind" sX sq)(Bo:aO K mg "are_tiles" wG ey)(HJ:aO K mg "is_deed" zR ey)(El:aO K mg "in_order" yw ["tiles"])(Bp:aO K mg "exchanged" wH rj)(vf:aO K mg "behind_laying" qu pc)(xT:aO K mg "behind_swap" sY sh)(HN:aO K mg "is_word" zT ["text"])(zH:aO K mg "check_word" uG ["text"])(HS:aO K mg "_law_cell_at" zU ro)(K5:aO K mg tS Dh n7)(HW:aO K mg "_law_letters" zV rX)(Qf:aO K mg "_law_words" Im jw)(Xp:aO K mg "_law_rows" Mq jw)(Qg:aO K mg "_law_tiles" Io kB)(Qh:aO K mg "_law_parts" Ip sj)(Qi:aO K mg "_law_begun" Ir tz)(Bq:aO K mg "_law_candidate" wI mu)(Xq:aO K mg "_law_lets" Mr ge)(K7:aO K mg "_law_laying" Di g8)(Xr:aO K mg "_law_deed" Ms nt)(Je:aO K mg ue BW fv)(Xu:aO K mg "_law_next" Mt oa)(K8:aO K mg "_law_stands" Dj sk)(HX:aO K mg "_law_no_deed" zW rX)(Br:aO K mg "_law_no_laying" wJ rS)(Xv:aO K mg "_law_kind" Mv ["_law_e"])(Qj:aO K mg "_law_asked" Iu nT)(HY:aO K mg "_law_swapped" zX rb)(vg:aO K mg uj qx fv)(abO:aO K mg "_law_bad" S_ pa){ug ahg ahh ahi ahj ahk:Addr}{afo afp afq afr afs:FuncData}(O:Du K mg ug ahg ahh ahi ahj ahk afo afp afq afr afs){H_ ajq ajr ajs ajt:Addr}{ahl ahm ahn aho:FuncData}(D:GZ K mg H_ ajq ajr ajs ajt ahl ahm ahn aho){ahp ahq:Addr}{aft:FuncData}(G:Dv K mg ahp ahq aft){aju ajv ajw ajx ajy ajz ajA ajB ajC:Addr}{ahr ahs aht ahu ahv ahw ahx ahy:FuncData}(Z:G4 K mg aju ajv ajw ajx ajy ajz ajA ajB ajC ahr ahs aht ahu ahv ahw ahx ahy){gl gw:Addr}{tb:Tok}(kl:mg "LETTER_MARKS"=some (.ref gl)/\∀P:Program,KDict P w K gl Zz)(kw:mg "WORD_MARKS"=some (.ref gw)/\∀P:Program,KDict P w K gw ZC)(zb:tb≠0/\mg "BLANK"=some (.str (S [63]) tb)){dz cB cg cL cY dH bN bW dB fD eY dU fP fj fQ CR jU oH iI jq:Addr}{qQ xq nO pH:FuncData}(R:afc K mg dz cB cg cL cY dH bN bW dB fD eY dU fP fj fQ CR jU oH iI jq qQ xq nO pH){f:Addr}{fd:FuncData}(F:gJ K "law" "law" Tc f fd):cU P w K mg base eV 20 f fd sj (SM K):=by let p1:=aaZ (P:=P) (w:=w) (base:=base) Hv j yx J;let p2:=X5 (P:=P) (w:=w) (base:=base) yE qy qK J;let p3:=X6 (P:=P) (w:=w) (base:=base) Ed j I yx Y J BZ;let p4:=X7 Ef Y iM p3 p1;let p5:=U9 Bj Y Ca p3;let p6:=RX u_ j p2;let p7:=Ow xM j I J p6;let p8:=X8 Eh j p4 p5 p7;let p9:=Oz (P:=P) (w:=w) (base:=base) xO;let g0:=R0 O.F0 O.T p8;let g1:=akg O.F1 O.T iM p6;let g2:=aa5 (P:=P) (w:=w) (base:=base) O.F2 O.T Y iM;let g3:=aiD O.F3 O.T j iM p9;let g4:=agA O.F4 O.T iQ I O.xU O.M g0 O.b0;let w1:=aa9 (P:=P) (w:=w) (base:=base) HN j Y;let w2:=R8 zH w1;let k0:=agI D.F0 D.T w2;let k1:=aiH (P:=P) (w:=w) (mg:=mg) (base:=base) D.F1 D.T;let k2:=aeI (P:=P) (w:=w) (base:=base) D.F2 D.T jo I;let k3:=agQ D.F3 D.T D.xU D.M k0 D.b0 D.m2 k2 D.b2;let x4:=Vb (P:=P) (w:=w) (base:=base) wO Y;let x5:=acQ K4 j I O.T O.m4 g4 O.b4 O.m3 g3 O.b3 x4;let y1:=Ve (P:=P) (w:=w) (base:=base) yE qy qK J;let y2:=O2 u_ j y1;let y3:=Vf Bk j I J O.T y2 p1;let y4:=Ye (P:=P) (w:=w) (base:=base) Ei;let y5:=Vh Bl j I J Y M6 qN y3 y4;let e1:=agC (P:=P) (w:=w) (base:=base) R.Jc R.mR R.I R.Jb;let e2:=aiF (P:=P) (w:=w) (base:=base) R.Tr R.mR R.I R.Tq;let e3:=abb (P:=P) (w:=w) (base:=base) R.Ah R.mR R.I R.Ag;let e4:=acZ (P:=P) (w:=w) (base:=base) R.Dy R.mR R.I R.Dw;let z1:=R4 (P:=P) (w:=w) (base:=base) wO Y;let z2:=aa7 (P:=P) (w:=w) (base:=base) Hy Y;let z3:=R5 qR Aa iM O.T O.m1 g1 O.b1;let z4:=Vj (P:=P) (w:=w) (base:=base) Bh;let z5:=aa_ (P:=P) (w:=w) (base:=base) Hw;let q1:=R6 zF iM O.T O.m1 g1 O.b1 R.Jb e1 R.O5;let q2:=Jk tQ R.RD R.xr z1 z2;let q3:=R7 zG gF iM O.T O.m1 g1 O.b1 O.m4 g4 O.b4 R.Tq e2 R.aa8;let q4:=M_ vW Aa O.T O.m2 g2 O.b2 R.aah R.Cr y4 z3;let q5:=abd Hx iQ jo R.Ag e3 R.Gf z5;let q6:=O7 xP D.T D.m1 k1 D.b1 R.Dw e4 R.Dr x5 z4;let q7:=Ng (c:=⟨cB,cg,cL,cY,dH,bN,bW⟩) vX R.NP R.uZ y5 q1 q2 q3 q4 q5 q6;let t1:=abj (P:=P) (w:=w) (base:=base) Hz;let t2:=Yk (P:=P) (w:=w) (base:=base) Ej;let t3:=ac1 xQ rY O.T kl.1 kw.1 (kl.2 P) (kw.2 P) y4 t1 t2;let t4:=Yl (P:=P) (w:=w) (base:=base) Ek j;let t5:=VL Bm Ni x5 t3 t4;let u1:=Ym (P:=P) (w:=w) (base:=base) El jo;let u2:=V0 (P:=P) (w:=w) (base:=base) Bp;let u3:=Pb xR q5;let u4:=V2 (P:=P) (w:=w) (base:=base) Bo J yx Y ⟨tb,zb.2⟩;let u5:=abo HJ J I j u4;let s0:=Sd (P:=P) (w:=w) (mg:=mg) (base:=base) G.F0 G.T;let u6:=Ka vf Ab j O.T G.T G.xU G.M s0 G.b0 O.m4 g4 O.b4 u3 u1 u2;let u7:=Ph (C:=ug) xT j R.Xb R.zB ⟨tb,zb⟩ G.T G.xU G.M s0 G.b0 q5 u1 u2;let a3:=V4 (P:=P) (w:=w) (mg:=mg) (base:=base) (C:=ug) (CB:=H_) Z.F2 Z.T G.T;let a4:=V5 (P:=P) (w:=w) (mg:=mg) (base:=base) (C:=ug) (CB:=H_) Z.F3 Z.T G.T;let a5:=abp (P:=P) (w:=w) (mg:=mg) (base:=base) (C:=ug) (CB:=H_) Z.F4 Z.T G.T;let a6:=Sh (P:=P) (w:=w) (mg:=mg) (base:=base) (C:=ug) (CB:=H_) Z.F5 Z.T G.T;let a7:=agO Z.F6 Z.T j Z.m3 a4 Z.b3;let a8:=abq Z.F7 Z.T j Z.m3 a4 Z.b3 Z.m4 a5 Z.b4;let a1:=akm (c:=⟨⟨cB,cg,cL,cY,dH,bN,bW⟩,dz,dB,fD⟩) Z.F1 Z.T G.T R.W_ R.zA R.adE R.G5 Z.m7 a8 Z.b7 Z.m6 a7 Z.b6 u5 q7 t5 u6 u7;let a0:=Wg (C:=ug) Z.F0 Z.T D.T Gu I j D.m3 k3 D.b3 G.xU G.M s0 G.b0 u1;let l1:=aeS (P:=P) (w:=w) (base:=base) Je iQ;let l2:=ac_ (P:=P) (w:=w) (base:=base) Je iQ;let l3:=agR Xq R.mR R.M q7;let l4:=adb (P:=P) (w:=w) (base:=base) K5 gF;let l5:=abt (P:=P) (w:=w) (base:=base) HW gF;let l6:=Pr Qf gF j l4;let l7:=aeT Qg j l4;let l8:=agT Xp gF j I l4;let c1:=aa1 (P:=P) (w:=w) (base:=base) HS j;let l9:=aeX Qh gF j I qC O.xU O.M g0 O.b0 c1 l5 l6 l8 l7;let la:=aeZ (P:=P) (w:=w) (base:=base) (C:=ug) Qi I jo j;let lb:=Ws (P:=P) (w:=w) (base:=base) Bq j iQ I qy;let lc:=adi K7 j qC O.T O.m2 g2 O.b2 l4 lb l3;let ld:=agW Xr j qC l4 lc;let le:=agY Xu j iQ jo qy Ab O.T O.m4 g4 O.b4 l1 l2 t5;let lf:=adn K8 j J qK O.T Z.T Z.m2 a3 Z.b2 Z.m3 a4 Z.b3 Z.m4 a5 Z.b4 Z.m5 a6 Z.b5 Z.m7 a8 Z.b7 Z.m6 a7 Z.b6;let o1:=ag2 (P:=P) (w:=w) (base:=base) (hs:=[cg,cY,bN,bW,CR]) Xv J R.W_ R.NP R.aag R.RD R.afX R.aah R.RG R.Xa R.Xb R.adE R.afd R.adF R.ahc R.afe R.ahd;let o2:=ae8 (c:=⟨⟨cB,cg,cL,cY,dH,bN,bW⟩,dz,dB,fD⟩) Qj j Z.T R.aag R.afX R.RG R.Xa R.mR R.V R.O Z.m1 a1 Z.b1 q7 o1;let o3:=abA (P:=P) (w:=w) (base:=base) HX;let o4:=WR (P:=P) (w:=w) (base:=base) Br j;let o5:=abB (P:=P) (w:=w) (base:=base) HY;let o6:=Km (P:=P) (w:=w) (base:=base) vg iQ;let o7:=ai7 abO j qC gF I O.T o3 o4 o5 o6 l4;show ai_ F Z.T D.xU D.M k0 D.b0 Z.xU Z.M a0 Z.b0 Z.m1 a1 Z.b1 l9 la ld le lf c1 o7 o2
end
end My
namespace PySem.W.Fast
abbrev U:=True
open Lean in
local macro_rules|`(universe $ts*)=>do
 let a<-ts.mapM λi=>do
  let n:=mkIdent (.mkSimple s!"tw{i.getId.toString.foldl (λn c=>n*52+(if c.toNat<97 then c.toNat-65 else c.toNat-71)) 0}")
  return (<-`(def $n:ident:=U)).raw
 return mkNullNode a
universe BGroXozxFUDI hIDHvPkaogn OqVLJJLExSK HaiTbGefBtZ BNfOxsaYDyyr BgDKlQAmiPUr VgvjVUeQtSv hQXAUKZyFDW GnUWDJjQJAW BOrJYlDpSvPo FdZSHURAmcv uJDgTfxFWUu BXSYFsAUjowo CFVugMNWyTiT gEamFhTbCWh CFLgCvKmpOpP BcvSRGeXRklt vhnlMdHOWzJ CLcSbtfmbSqK ggsQzPEGFYN QiwmRmZspDx MfTbSWkbsBq BOYcXTqUAviv BABryCxVvCrx BclfinFjfcCY uKqnxVyodGF BbxqRRwxdPEQ OzHRWQnmpuy BOsvSxDfIquo BWEqnvxyPWfG mphZMyagqmT BoYiemjGuDmZ PdGDJphxIhg BYYGcGNYGplo nnhfsuGZuDO rGNVgzBtarF dOYFHqRWrRj CTqKHllCPwVO gzbeQjnzcZt BCxisBoGKBWH BMSKttpElvwa mQSQvwJfEIH BwYOvQgcvIqc BpIkoxFdCDfx evxSTWzppli BneOBnkWFOAh BIKCKYvGozuP BrvJAKWIHqQn CAiuDAIICIOb BFGAvrWBevdh BXsvPKAZLqOB YrpMmWlvahj wJDZURfpuwR BldNpSwxlZvp MivDkPdhZJm BMGMQVeTxymF BRbxNoUXqZVH HYQiuupBonh CRKETnvCcxcG BfVfIfXtrtwd VVLAVnteWKq QCWEwUZzuFW BdWGmAbGQrIs CMedZVWWsmSe CALbxaZVgcUX mKjySpiabwc BttKjEWapcqd BkWnWkgGoKhj BWylhQXNTngi bDUMOBGzbUa BKuvGLIUYTwj ayWhJSYhydp BhjeGBvadbvv CKLdaagXDJyg BgVnPhkOPBwR BjrBsQHmIxKm ITMSsLVnlCB maPiWVIPucc MAKZZRzvbrn zDgZCbMJgRI CFeszYqRbRQf zRHbkaLLyTA uixWewTXAdU zCiPMFCeozb JRjVADzzAik BxsYpUNWNylu BbArbAYqIELR BKubGRoFszRY mXxeqrPgUnJ BlXLWcXLEYJe BAlrULrKRchA BDByyXeZgwMO YzXBnrLgdZx CCGDUJnfBnhI BAioATPmfszq QwjhKBsTPEr BowtrIPOSjHO CFHAYaneCWSF cXshzsxIoVe vYUzsoyEaqx rnkbVJXSjpp JsAWDciQevC CXLSpUgyWGbe BgfiAKdBfMxE BJJtEsFwrZFH vuWGlrQQQHf CXRkaQpgxHr BjtQmdMHjrWn CEZxsfEPNEni BwmPjaeNvyrE JHKndpqFzyw BIpTNMfoDdCE COlrFRGKtcce BMOuErCoOCLM BUkHyTilfdGM jwQgEOzLUwq BJPHccxqLUNv QqcIJbLfFmv OtcypHQeqkA FQSUKtOvjSh PAAIEQjHpO wqJpbNzmoRU BwgVSuQqbZvQ BDBdFybJEZDl BLMQrulyaFmq BEJyPXfeOuDq BPJjRWOUrzfl KqfGyxSfGAH GzJZVxYtCVG ytQhaamUgrF SJqHygbDIOS xwCBFMmebQA BonYTEzEXPma SkoyodyjSuN BfKcYDWgzoNg QPkSTewbOjq BDoBteiLvYlG BsSGsVRFVXKt BqyfntaidamQ BkWIhlgWACbY BIfaWhtLwbHA BKxUKcMlaPDl RXjHYfKnWAA diOaWHPngqo BfQkAfhGdSxm BhElCCnkHush CTApLxnvxSHq BpUukHCsYQGC BjyQYZXkdTSB zguLIycjFjh BVdQHJDiVhUJ KGZHNToNtuf BtWmEKmTuJuY jVYMMzOJFcb BvyAcSdYHCUJ sPVnGXQRfTT CRqajNUllBYf fhYvKBndwYb CHfyWmfyFNyd BAvDkpAMEtBq kzjLBjKJeea qYEwvEDANkq DAPDQoWzJzY CKLaXJNYydvJ BfGXyRSZeyRZ EiRNKyjIcHV CFRfoupqmKxV BoAWdLrMvARp feOsTnszXbm tgMQkVTyCpe UdwfYRuhcRw BAainrlfngdT OanuHuoKAch XQyfKTRPFut PiJAeIjMzJe CKzxsiKDSTko BIYanDhSCJqO yCPSKrWhThn waaibGHoyDR IqetstJikSq ByoFYyKjNDCN zBjiXQLGJjJ CBJmUuHqnumh qsUttDQIdFj CKiMSaTHGbhH CLvgJiMWYYxu TlVueffayKN YaPKBKovPXm BMypJHyJJDEy HqWrbwHWpxX BUDiTBXswtPM ityWcDctlKW BVXfXLcGkejy JyjQAGChzXe CFXSbwLiBAkb BgmcrGpOrBnt BuUBDJLysFBM FXLJdRbwTkr BHxHbycNjbJC RyFHdApNaaQ TAzsIkyApVI BPGRRUvQLqUf DFzUNypsebF LxpmXqaqDee BflmLlRugByP TbRxAaFVLUn BSGchTiBgOIh BZHDZMsrYmkT EGARgtmdqhD fzyusZauIBM BZdYSihmffY eXAmngtlAav CBMpqDfgpFaa SNtObkhYQKC PuqHYkJlump BkwLgIIFyoyW BmXkQqYIIaXt kemVBhDVKoJ BfOEUYQdqgeo cpUwmjwwTrP zbujkvwsIPV BNcAECbgIHcc vNpCWyYtDwF kAIGKIcSbco DGyLzbvEiDQ XmzbcCfutzk BqBawTDFbYPW WbdfdSElfL mEIywGXSrBG zPemaPidHKv jZZlftBSriM WZViievsgkI hQijYDLmHip CRZErekfSlFG CLjiuUrEQntX mDMHaeHZWjT tPfDfUavFpT BoBGYPbCArop vDeVRHPCayS BaKFMLkHqymx BkoyVqHaFnTL CVJPTYABIGQj CJxROxJfMkjF rsWmbSPVjfa fGHVBrvMmfe VhHYwcbqZqA CQtThoNgqWQr gxWAOaqLeXk ZqZKeTioMxX BkcAhaAgsQpj bBCpwcTzcKt LnZNWehozaw wfkbziYxTze ftxqxlloaeW wSPIXWzgezc BrbhpVfAkdLV KznvfRQInAV MYrsHDVyPLC emGVCdGLSoZ BiDzqSIDiUwL BiIXxfkiJIRy BiidhngrzAjS pLlhYXkries ugbYoTMXcBt BocjuouQharO CONCiZupDnIN CGdfIGmYCCYf BfdQihUyeMjG CPMCUgcJypHc nuCYtGMZIse BCgggMJmtWUf rhZlgvWQafQ BSOLjgAfwtzK eYPUaMmhIwf BNiQVQVsvarZ BdMAoWHkdhUq vZwjqqthspg rnPbWxygFvH CKOjCjezqbNe CNZyZKytxDML agimbPsWLtP CPIFzHzvJpzQ BReUsFDNAKfZ CTfvbSvTrBjn CKVrpRWydqNQ eAUBiarZEgL avXILduugUd CVqeYeQqjqPo dWNYAtPobuE BxHhZmVVZtLs dmxBKBMrQtg BDYaNccDQXRT XbHFOgrPZnt iWqFtxJIdpf CFDDobPKwfLL qrQFRJarQYU FXxzQYsnzCD nEtOnDzBjbH BpQVjsEwUsFY uTgNjtdIGST QKhSDkyjMyV BzSOfAcfRZtd tetmldIqTSS BaJkgKqVzEkR tryxXOkWuht BFBpnAcHuKWE CDBYliQYOOUK BCfhpqMYFUBZ BHMaZUKMOzzD CGpfELirSxsR BVxtwehMWGjb cNeXtIyxwnl BcXmpSNvAOEW UQiXXJZgTlW BFCjxLbqxKvD BwqAmPyKUGlA CSbGboTmXOtO BBksBVRmsDNe BJtmQHpkSKRB BdedAKAaAgKr oFBwLhFRZSz BCLoRbfVJUNC FJUzxTMxDRz BxqCaxEZENSJ BMadbWkWnZJr gMdgoEwhJMb MvRdqsnSMsA BqFCkIiCyfDU nsbYQqDNJyb BFGDFPDLTmYy BKoofhRYNfyD URzQEmJErKj CAqVESBiixZF BNggNyDPIGxn vtdDUoEOLge BTIAKDcWvsor VlwXgMaeyEr CRgTFUUwfwCr tqlRSbBMNjE CNKdPQNhcnKC BBJRlcuqOXHF aVssOsVHjbQ CKfpYHKaDvse CQkZWKRUawuz CTLloSRjmPZP CULUOOeIdXBt CBtHpFXnEVWo BarjPicyHyXW BjNknlZEGuHE sUVaVaMgABe BRIkvhUPJSPc CJEAeSCciULb bAXQutMvXrb BbJdfbLDfyOE CHKpWmdheWnN CKVdmmnvrAvY ofZKbUOCPot CQiflPFdaoPT ULFMcsTEgKp MjUAUkyHKuo lCpDXBwutDP BJqTYTGGUNOY CSVGXZnuTApO BvkbqzIwnQPQ qUGlurWPXkO zTjwtAeebTA TlZazFBreJV BafNrWqXBKnn CKJWmITzyfwK BrYidXKwAyDp vZuqxotsBum BLXRJYexrHHN CPrekrVYjaXl uOCHTjBNLAe CAQYzXQyLBtO mbirssGnanR wwcPcWkjsuy nDUyJiOiKFn BkwDXiHoYwei BvvlVsdKTkSg BhpiijJCpXKE CSRiESDAOdWv BEjOyvNfVDWj BsIKTDNCJeLx BpDPynIrWGId BQZHggYuYtyF CKgtMkazlVDf BpuqwVXmlUea BAijkloGHgEW CStDBleVwCHT CLkCzynYkNEq CBjmpIEuAzdR BIunyfxeYZIr tbsyrfSoPkI BznGUQxpZYOb jkkPUSXJNfL CBZtNIAUMdtc BwOcwJdNxnvn BqMKrWHHasYF EDPxVYUKmqs CGTeVTsGpTdA CRPGqpcjMHih BUxymeeMsozs HZXjjxhabLK BngCkTfTThhR BOtaHydQDjCJ BfoAhophcrCZ VeASWQoHYnf BaVjnqIlSNiG hPTRleuHcAG QYwAtjWVsmP CRtSnZdCqicu BwrZdNDWwmkq tXiPtawJDlu BwnwFhYkEFNL BKnkvrdAOkdE CUXUoNeVApS BwQEcimkvpY WAlLXyeLMA ZonEfJWxtPv CLuOWPNmEJOr ZmwfzPkQhIu BkYoixJXeliv CNNeLSxSshTu CBPdkAgHNSvq sViahBMVkh xpPzBGbBFoK XBgnySSUPsb ZQagepHApRT BMCyDktqFpyS CNrfLQhoHttd BLsyqtpxOZAf BgvXRZggDGXT JrieAgPKWsH CGNtyVbtVvwa BwyXwxFUUHGA BlAzqLRVUmvb EXRtrHorIOd vdhMTVEQdwA DyXyTitZRMZ TUcsxVJuyiD jSlLChLISDf GhkMikMtUjU CRrnZpOHMFsc CSfvPhjErBTq BmCjUHNIHsvB hNBwqsEzNbk lLBOxRtfGWH SrbBXcCaIRs ftxxGBOQNJo pVbleMRZPQW BjBfBVUoSWGl BEDxhYWSFpZs KTzRTRmNIpE qOGMZetXUXr BlbFsTforCAH BrKArDMAIAHn BpcDxPrAVxCa MxdtILPrRFS CBBkleyTlmLO CVPBCIbrrnUY CCzwWSBpMFXb BTlFnKEsCUbU XqIizhBMwLy wKGwihvaodA BoNdNmgZBlxx jPkUiRSSUMw BPEMHutMxjtm BUKOvrwoTHxV BzlWYeQQbVTu uThbHcCKwQm DJsPBXMiBIP CUgNwPRiBTrm CBTzyRcuqvwu IfFHIgymRuU JCFjXNJTKdp BpITPBSWfUBS RdLreCOczCn BEKLOiOubRTL CHcZzjrXdpHx BQfoMaoAgqpM BXermaZCkKUU FTytIHTGDMl cQwJNHBoNDw ioYlAWPabLi qXOSmzbggYA DmCYkGZLgQr CLKuOAlFxgNU mWIZofekbkp BlrnRwpaCEkf BDgqLNkLfpeI TBXJnovcqok BTTJGUQELeJU CnurvgQvNVf xyZddzzTQji oXzzfofiLGZ FFChseFikRj YmSRBGxdEIt nUjWebujXgb LPXCchfotJn akByFtUYldq JjbIiliUSXh CHIKInjNnDIC BIEdnHgVhNHg BNqmvipnJHdz BjDXsSCYxTMR CKjGIYclFHXR CRpJponSGbqn BlscOWgEsqgG CKmdjjmehpUD CEgatohXrnKu BiFeoMpvXhIS CCDvMkagKLAc CKeLNtPShTHT CRssRQaTAOFX LSbePazdxGK BihCAwlpPZOp MtnFDWkeQav DteDrbvArVf CJKqbYeZelPw CHiwSLMpLRET CIwoAeQFrtIA haiTranpmjg ufReQaUvIvl UbzdRCbBwCd BoCmsxLuhmaT CTWATeRMVdFI CLRykemuCUsk lxagvUjCkrt fffqepaqZW BaXdeRpxCoEd HpsvMvOwlak WKHonAaahtM CRUuvMBmykXG BWGVLUXGVEPg MASVLueZNZD CItyXFcloaXR XHRGyhdwNdN WAXNjMMhVqT BHfoSCzRCvZ aRsuPPHYmIN BvAEgWrbvQKT BnMvSnYLtpwV CIljLLpvtjua BXFinnyzACWn CPQPJzUUGKRY BZZPvcaZdhlY efCfVYLAJoF BYeDdIIhQmPm TISHagRazuG BZiFRjjkHsm CIppxgFqvTDq BxaOsTZojmHM TmUWpERAiCe PTKYivhKtVH GRELmAnbeIU BuQBZjUUKvbm BowMlOtGTqbZ BNeuZlMjscIb BNLMyctyVuXA ydhkJJNPoCZ BxDFzJuyxYpz BIPSyQHPkJOX BQWOLWZIitnX CQQoBQJJoqlo vhoXyFuAVry BgGwtrWTAjVI BLqJcTthoFQt BJKQtJAWZDqy KYdzMgwJtwU HROeSGVStyy lEwVOBeyEti BWKqdwQxHFgh zqCsGCvxGJY BtNVAIQyxNjn BbfZhKRBRNKl eoxCuEXaFnR BMDgwwBzwaMB CQCtOcugvyFo FzwgrAhxOuZ BtjTlPsMWiLJ jLZrxAdEZgt BieqLAzpbeNn BziQdZTcozau tVVzxonhgkm UsMHPcIkxeE YKqCOrxAHaP tczoSNZahbO BozPgEbkbDSw YPDmdFxAbES KgijzkNAnvh SzvrxXTJwnn PcJNqvydDoT CNRbboEMKIug BwwCbdscSEQm BpVaqcAhOZCy pHzxXEXKtcP FVfpeemvdoW BmJJyWCfQKSU KsoFAUEblgX itHfBQNMyGh BMeXmbwqiCak BnuNKCcWLpKY kDipYidfsCy BeYgQYlqbXaf BJEGYEmiyvUF CLaWkeMgsLHI BBCzByBQVvpA CHJQcqggNEqw BFpXhtpTzwsV BRbyuPcQcmOc BiYJAZSOEWGO BNKBtTZDkKcK CKlPItSOzUyk TPlHEOQDOid tJYNlyBdkpC BasAPZVcniAT BuTvmmMBIRmc CLsXSJnNyUJe oZoHrkHaFQi dkauTErByEc YDHcmPpNosa hYeZbiWDDfH BLmxTpgoAqpP ncfaSsBWAAx wBTtUsjbjAC CSCnHCLWgmRx CBHGKjqOhqsU lapokurzdAv CKOtIGyYgvkZ CAjuFtdpXyuf BsTZrzvSYGBJ kAkPSJRZAAe BehTVdgGnGhu EUGxnBLbjDt BvMdAYzypjXl CNKzgaabRaob EEQonFePOFD kstMAzAaRlB CJnsvrKMcple BIvqcOhzyYpo pPDhFmBpCGU CGWhOomWJwmJ BPmGUTeByUCS CGpkiugETaNf CMhwaHClZiui BMIXgFJioXAe qDMtSHsSNiE BGnShnycnXTJ CWLfblGwaDGx mGJdalqswBf BhlWtNYLhkHl BgFATrldpOlB zfhAkofhJBp BHoXhgwiHEDw CAIkoufnxnSZ CTfufuDLFAii BHIxUAMLAuJc tgIHpUCoZQ ToewTrqZQAq dNvEsCZqzsb BHmcXdGMzlik FOuztcBaHIy CBgbGBYsgHXw tMUjVAymNam BkdipMPiMfjF CCkEwPvOFkye BntUKakIwRdu BwNiLMIfZEuJ rnmoPPOXaKy lOdPXtyGEku CGTeYHBTuDMn CPuxxypTJlac CATEOqMGYzZB EdhlvVGYkvJ CGDhivDmcPvY CWjwbChrsHIP BgophWxLwTfo CDRDFUTYYJFS BtNOHDAbiSlb BdsccsGZaPBf BOnRiznWoyqp CTXQHjTHoHqe BlGUPnIrhnmZ mUoiAFfZzCh ziGoKIMqyQC CNhPdHICaDnt CQiBDfMifHjk xlxcnZdzrYA YnZiMotXXgJ ITTjldysKYh sPMwrMjxPEV BdwiDIdXlqck rCRuRHSTgSJ jQCpOlYllHu bdYmRIMEZtx CPHRXSMcJpCY BHBMwAirqXX LsBlKwiWkOa PqIyUPlSlOh JSvEanojUxO fgKHRpRCyYO rjOjNRsduBQ CMshGmuQjxky GhfucbyjNlK CEohfPbdpoYW CGwRionXrGXi BgVbhWjXypCP OqhHUXyRSic BheNxAYSdcjx tECntyZKVZQ CRIUKxFarSgS BxrfUqSmKsAr BjZzznsMoQpu QDSaIHqYFiV jvoYsxPJaVF BAgXXPjcFbpu CLxJdKxhPjgF KtIDyGrEGrn BOPGazLEZORx BpecQqsKYKOP PAZdmOOJJSm BAGlVMKNijPJ BvMGQZIMLoue CGaapCHTwcni yhPsIVvXxmi fNdSZgWzRdj BmyPyhhydyoN jMlIzpHhmfK BJUTurMEntbR CVrEWVnZppNR YBsKLwUdGOA eLJVjeQVPXL BhwBMTdQSxPo CWDLcJKdZOPl BPZHFmOpSmLg QQogcWCBiWn rCAsRRsUyYw CPbouSqcZhPr BMKmEOgADDaP CVELyOABPwjo GPRoKNgCjbp CJlHRicjLVO qAysOJqqgCx iUQrjRBcaus CTIoiiZwvQAc RdXErJrhXVU BwZwTDqBeFzY BBOYeIUMfnkG VfiKYucLzPR SMWPzrnajCi zsRtVUUcqWH BzgjJgIgJqQw KcfQbxvcSYM BHMyNPQcqGhs RabYvIuWeMn BhSMTQuAHckc BAeIbFiNoffl iqSGJyQtybk YqYsTgaTNLp BocSjggDiyou BoWpjJqCFJjG CWqnABtgUOYD BkdvBwlkWXFY CAwaxwQapeVu CFKBSfCklxLf BAivCsWhVsyO BqegYGCZkFLP wxrRIlKcreA EdHzmOKOxiv UuSodjtSpLV CBqxoMtQlofE VJyPdwhZaAj yMHABixkRKr CMZWTwwXAGmL WDSFuwJIGzJ iQhDVpPgRAT DMEOzpcXbzX nQEmfloYqge CGDYzhvjvORy BBvxYOypytMJ dAFtMOcNlYQ QTUOnGsOniJ LQvtTXuZgMB BrWnhRFVNMDg ocwPtwcNxMD qohzMjKDykP BwtvYgzPtRfx MgGfROllZCw CXTdtjZgZhNp BNvgBsMZNWXw coXmojwJcer vicSPilPRWT CEWRQxdvRzZl BNIuSXVcboz BzYmqEwbDHZl BJlgYPvFTbRq
end PySem.W.Fast
open PySem PySem.W PyProof.Rows
def L2.dK {K:W.Frag}{h:Heap}{mg:Str->Option Value}{name:Str}{st:Stmt}{ps:List Str}{f:Addr}{oc:Value}{od an:Option Addr}{osl:Array (Option Value)}{kV doc pm bV ct:Value}(X:K.In h)(G:h.Ns mainGlobals mg)(a:W.nsIn K mainGlobals name=some (some (.ref f)):=by k_is)(l:K.lookup f=some ⟨oc,od,.func (W.fnOf name name (L2.eU st) (L2.dG st) (L2.aL st) .none kV doc pm an bV ct),osl⟩:=by k_is)(c:W.codeIn K bV name=true:=by k_is)(k:W.keepIn K (.ref f)=true:=by k_is)(hb:∀(kV doc pm:Value) (an:Option Addr) (bV ct:Value) (us:List Value),us.length=ps.length->bindArgs (W.fnOf name name (L2.eU st) (L2.dG st) (L2.aL st) .none kV doc pm an bV ct) ⟨us,[]⟩=pure (ps.zip us):=by intro _ _ _ _ _ _ us hl;first|show(L2.e1 (λ_=>rfl) us hl)|show(L2.e2 (λ_ _=>rfl) us hl)|show(L2.e3 (λ_ _ _=>rfl) us hl)|show(L2.e4 (λ_ _ _ _=>rfl) us hl)|show(L2.e5 (λ_ _ _ _ _=>rfl) us hl)):L2.aO (L2.KOf X) mg name st ps:=L2.ad8 X G a l c k hb
set_option maxRecDepth 100000 in
set_option maxHeartbeats 0 in
theorem PySem.Challenge.cw_letterrack_k61_deeds_refused_holds : PySem.Challenge.rw_letterrack_k61_deeds_refused.Holds := by
 w_on;o_law;k_head;(case hw=>w_witness2)
 k_fill
 refine L2.af9 (x:="_law_script") (l:=PySem.Challenge.rw_letterrack_k61_deeds_refused) rfl rfl (λw h Y=>W.kIn_of Y) ?F
 case F=>
  intro w mg fa h KX G hmg;have bH:mg "len"=none:=by
   refine' dr KX G ?z
   case z=>k_is
  have gF:mg "range"=none:=by
   refine' dr KX G ?z
   case z=>k_is
  have cX:mg "tuple"=none:=by
   refine' dr KX G ?z
   case z=>k_is
  have iQ:mg "list"=none:=by
   refine' dr KX G ?z
   case z=>k_is
  have Gu:mg "dict"=none:=by
   refine' dr KX G ?z
   case z=>k_is
  have jo:mg "sorted"=none:=by
   refine' dr KX G ?z
   case z=>k_is
  have bK:mg "isinstance"=none:=by
   refine' dr KX G ?z
   case z=>k_is
  have qK:mg "bool"=none:=by
   refine' dr KX G ?z
   case z=>k_is
  have qy:mg "int"=none:=by
   refine' dr KX G ?z
   case z=>k_is
  have yx:mg "str"=none:=by
   refine' dr KX G ?z
   case z=>k_is
  have gZ:mg "all"=none:=by
   refine' dr KX G ?z
   case z=>k_is
  have Aa:mg "any"=none:=by
   refine' dr KX G ?z
   case z=>k_is
  have M6:mg "zip"=none:=by
   refine' dr KX G ?z
   case z=>k_is
  have qC:mg "min"=none:=by
   refine' dr KX G ?z
   case z=>k_is
  have Ab:mg "max"=none:=by
   refine' dr KX G ?z
   case z=>k_is
  have Ni:mg "sum"=none:=by
   refine' dr KX G ?z
   case z=>k_is
  have rY:mg "enumerate"=none:=by
   refine' dr KX G ?z
   case z=>k_is
  have iM:∃t,mg "FREE"=some (.str (L2.S [46]) t):=by
   refine' L2.Ur KX G ?z
   case z=>k_is
  have Ca:∃t,mg "MARKS"=some (.str (L2.S My.MK) t):=by
   refine' L2.Ur KX G ?z
   case z=>k_is
  have BZ:∃t,mg "MOST"=some (.int 9 t):=by
   refine' L2.Us KX G ?z
   case z=>k_is
  have qN:∃t,mg "MOST_TILES"=some (.int 7 t):=by
   refine' L2.Us KX G ?z
   case z=>k_is
  have yE:L2.aO (L2.KOf KX) mg "is_whole" My.uz ["thing"]:=L2.dK KX G;have Hv:L2.aO (L2.KOf KX) mg "is_sign" My.zM ["thing"]:=L2.dK KX G;have Bh:L2.aO (L2.KOf KX) mg "letter_of" My.wk ["sign"]:=L2.dK KX G;have Hw:L2.aO (L2.KOf KX) mg "tile_of" My.zN ["sign"]:=L2.dK KX G;have Hx:L2.aO (L2.KOf KX) mg "left_of" My.zO ["rack","signs"]:=L2.dK KX G;have Ed:L2.aO (L2.KOf KX) mg "is_block" My.yj ["thing"]:=L2.dK KX G;have Ef:L2.aO (L2.KOf KX) mg "are_rows" My.yp ["thing"]:=L2.dK KX G;have Bj:L2.aO (L2.KOf KX) mg "are_marks" My.wB ["thing"]:=L2.dK KX G;have u_:L2.aO (L2.KOf KX) mg "is_cell_of" My.qI ["rows","row","column"]:=L2.dK KX G;have xM:L2.aO (L2.KOf KX) mg "is_begin_of" My.sJ ["rows","thing"]:=L2.dK KX G;have Eh:L2.aO (L2.KOf KX) mg "is_board" My.yq ["rows","marks","begin"]:=L2.dK KX G;have xO:L2.aO (L2.KOf KX) mg "column_text" My.sO ["rows","column"]:=L2.dK KX G;have Bk:L2.aO (L2.KOf KX) mg "is_triple" My.wC ["board","thing"]:=L2.dK KX G;have Bl:L2.aO (L2.KOf KX) mg "is_laying" My.wD ["board","thing"]:=L2.dK KX G;have Ei:L2.aO (L2.KOf KX) mg "cells_of" My.yr ["laying"]:=L2.dK KX G;have wO:L2.aO (L2.KOf KX) mg "is_across" My.rR ["laying"]:=L2.dK KX G;have Hy:L2.aO (L2.KOf KX) mg "is_down" My.zP ["laying"]:=L2.dK KX G;have qR:L2.aO (L2.KOf KX) mg "is_next_to_taken" My.nD ["board","row","column"]:=L2.dK KX G;have K4:L2.aO (L2.KOf KX) mg "formed" My.Dg ["board","laying"]:=L2.dK KX G;have zF:L2.aO (L2.KOf KX) mg "check_free" My.uD ["board","laying"]:=L2.dK KX G;have tQ:L2.aO (L2.KOf KX) mg "check_straight" My.pP ["laying"]:=L2.dK KX G;have zG:L2.aO (L2.KOf KX) mg "check_gaps" My.uE ["board","laying"]:=L2.dK KX G;have vW:L2.aO (L2.KOf KX) mg "check_joined" My.qZ ["board","laying"]:=L2.dK KX G;have xP:L2.aO (L2.KOf KX) mg "check_words" My.sV ["board","book","laying"]:=L2.dK KX G;have vX:L2.aO (L2.KOf KX) mg "check_laying" My.q_ ["board","book","rack","laying"]:=L2.dK KX G;have Ej:L2.aO (L2.KOf KX) mg "worth_of" My.yt ["worths","sign"]:=L2.dK KX G;have Hz:L2.aO (L2.KOf KX) mg "cell_in" My.zQ ["word","place"]:=L2.dK KX G;have xQ:L2.aO (L2.KOf KX) mg "word_points" My.sW ["board","worths","laying","word"]:=L2.dK KX G;have Ek:L2.aO (L2.KOf KX) mg "bonus_of" My.yu ["bonus","laying"]:=L2.dK KX G;have Bm:L2.aO (L2.KOf KX) mg "points_of" My.wF ["board","worths","bonus","laying"]:=L2.dK KX G;have xR:L2.aO (L2.KOf KX) mg "left_behind" My.sX ["rack","laying"]:=L2.dK KX G;have Bo:L2.aO (L2.KOf KX) mg "are_tiles" My.wG ["thing"]:=L2.dK KX G;have HJ:L2.aO (L2.KOf KX) mg "is_deed" My.zR ["thing"]:=L2.dK KX G;have El:L2.aO (L2.KOf KX) mg "in_order" My.yw ["tiles"]:=L2.dK KX G;have Bp:L2.aO (L2.KOf KX) mg "exchanged" My.wH ["things","place","thing"]:=L2.dK KX G;have vf:L2.aO (L2.KOf KX) mg "behind_laying" My.qu ["stand","turn","size","laying","points"]:=L2.dK KX G;have xT:L2.aO (L2.KOf KX) mg "behind_swap" My.sY ["stand","turn","tiles"]:=L2.dK KX G;have HN:L2.aO (L2.KOf KX) mg "is_word" My.zT ["text"]:=L2.dK KX G;have zH:L2.aO (L2.KOf KX) mg "check_word" My.uG ["text"]:=L2.dK KX G;have HS:L2.aO (L2.KOf KX) mg "_law_cell_at" My.zU ["_law_script","_law_k"]:=L2.dK KX G;have K5:L2.aO (L2.KOf KX) mg "_law_stream" My.Dh ["_law_cell","_law_many"]:=L2.dK KX G;have HW:L2.aO (L2.KOf KX) mg "_law_letters" My.zV ["_law_cell"]:=L2.dK KX G;have Qf:L2.aO (L2.KOf KX) mg "_law_words" My.Im ["_law_cell","_law_letters_here"]:=L2.dK KX G;have Xp:L2.aO (L2.KOf KX) mg "_law_rows" My.Mq ["_law_cell","_law_letters_here"]:=L2.dK KX G;have Qg:L2.aO (L2.KOf KX) mg "_law_tiles" My.Io ["_law_cell","_law_letters_here","_law_many","_law_blanks"]:=L2.dK KX G;have Qh:L2.aO (L2.KOf KX) mg "_law_parts" My.Ip ["_law_script"]:=L2.dK KX G;have Qi:L2.aO (L2.KOf KX) mg "_law_begun" My.Ir ["_law_parts_here"]:=L2.dK KX G;have Bq:L2.aO (L2.KOf KX) mg "_law_candidate" My.wI ["_law_rows_here","_law_word","_law_place","_law_rack"]:=L2.dK KX G;have Xq:L2.aO (L2.KOf KX) mg "_law_lets" My.Mr ["_law_board","_law_book","_law_rack","_law_laying_here"]:=L2.dK KX G;have K7:L2.aO (L2.KOf KX) mg "_law_laying" My.Di ["_law_board","_law_book","_law_words_here","_law_rack","_law_cell"]:=L2.dK KX G;have Xr:L2.aO (L2.KOf KX) mg "_law_deed" My.Ms ["_law_now","_law_book","_law_words_here","_law_cell"]:=L2.dK KX G;have Je:L2.aO (L2.KOf KX) mg "_law_taken" My.BW ["_law_rack","_law_tiles_here"]:=L2.dK KX G;have Xu:L2.aO (L2.KOf KX) mg "_law_next" My.Mt ["_law_now","_law_parts_here","_law_deed_here"]:=L2.dK KX G;have K8:L2.aO (L2.KOf KX) mg "_law_stands" My.Dj ["_law_game","_law_now"]:=L2.dK KX G;have HX:L2.aO (L2.KOf KX) mg "_law_no_deed" My.zW ["_law_cell"]:=L2.dK KX G;have Br:L2.aO (L2.KOf KX) mg "_law_no_laying" My.wJ ["_law_cell","_law_rows_here"]:=L2.dK KX G;have Xv:L2.aO (L2.KOf KX) mg "_law_kind" My.Mv ["_law_e"]:=L2.dK KX G;have Qj:L2.aO (L2.KOf KX) mg "_law_asked" My.Iu ["_law_game","_law_now","_law_book","_law_deed_here"]:=L2.dK KX G;have HY:L2.aO (L2.KOf KX) mg "_law_swapped" My.zX ["_law_rack","_law_letter","_law_cell"]:=L2.dK KX G;have vg:L2.aO (L2.KOf KX) mg "_law_first_lacking" My.qx ["_law_rack","_law_tiles_here"]:=L2.dK KX G;have abO:L2.aO (L2.KOf KX) mg "_law_bad" My.S_ ["_law_now","_law_words_here","_law_cell"]:=L2.dK KX G;have adQ:∃C f0 f1 f2 f3 f4 gk fB fd2 pG xX,My.Du (L2.KOf KX) mg C f0 f1 f2 f3 f4 gk fB fd2 pG xX:=by
   dsimp only[L2.KOf];refine' My.afa KX G ?aC ?a0 ?i0 ?l0 ?c0 ?k0 ?a1 ?i1 ?l1 ?c1 ?k1 ?a2 ?i2 ?l2 ?c2 ?k2 ?a3 ?i3 ?l3 ?c3 ?k3 ?a4 ?i4 ?l4 ?c4 ?k4 ?pg ?hd ?po ?sa ?mk ?kc ?zy ?GR ?GX
   case aC|a0|i0|l0|c0|k0|a1|i1|l1|c1|k1|a2|i2|l2|c2|k2|a3|i3|l3|c3|k3|a4|i4|l4|c4|k4|pg|hd|po|sa|mk|kc|zy|GR|GX=>k_is
  obtain⟨_,_,_,_,_,_,_,_,_,_,_,afu⟩:=adQ;have afv:∃C f0 f1 f2 f3 gk fB fd2 pG,My.GZ (L2.KOf KX) mg C f0 f1 f2 f3 gk fB fd2 pG:=by
   dsimp only[L2.KOf];refine' My.aha KX G ?aC ?a0 ?i0 ?l0 ?c0 ?k0 ?a1 ?i1 ?l1 ?c1 ?k1 ?a2 ?i2 ?l2 ?c2 ?k2 ?a3 ?i3 ?l3 ?c3 ?k3 ?pg ?hd ?po ?sa ?mk ?kc ?zy
   case aC|a0|i0|l0|c0|k0|a1|i1|l1|c1|k1|a2|i2|l2|c2|k2|a3|i3|l3|c3|k3|pg|hd|po|sa|mk|kc|zy=>k_is
  obtain⟨_,_,_,_,_,_,_,_,_,ahz⟩:=afv;have adR:∃C f0 gk,My.Dv (L2.KOf KX) mg C f0 gk:=by
   dsimp only[L2.KOf];refine' My.afb KX G ?aC ?a0 ?i0 ?l0 ?c0 ?k0 ?pg ?hd ?po ?sa ?mk ?kc ?zy ?GR ?GX ?W9
   case aC|a0|i0|l0|c0|k0|pg|hd|po|sa|mk|kc|zy|GR|GX|W9=>k_is
  obtain⟨_,_,_,afw⟩:=adR;have afx:∃C f0 f1 f2 f3 f4 f5 f6 f7 gk fB fd2 pG xX Ny Nz fd7,My.G4 (L2.KOf KX) mg C f0 f1 f2 f3 f4 f5 f6 f7 gk fB fd2 pG xX Ny Nz fd7:=by
   dsimp only[L2.KOf];refine' My.ahb KX G ?aC ?a0 ?i0 ?l0 ?c0 ?k0 ?a1 ?i1 ?l1 ?c1 ?k1 ?a2 ?i2 ?l2 ?c2 ?k2 ?a3 ?i3 ?l3 ?c3 ?k3 ?a4 ?i4 ?l4 ?c4 ?k4 ?a5 ?i5 ?l5 ?c5 ?k5 ?a6 ?i6 ?l6 ?c6 ?k6 ?a7 ?i7 ?l7 ?c7 ?k7 ?pg ?hd ?po ?sa ?mk ?kc ?zy ?GR ?GX ?W9 ?nf4 ?nf5
   case aC|a0|i0|l0|c0|k0|a1|i1|l1|c1|k1|a2|i2|l2|c2|k2|a3|i3|l3|c3|k3|a4|i4|l4|c4|k4|a5|i5|l5|c5|k5|a6|i6|l6|c6|k6|a7|i7|l7|c7|k7|pg|hd|po|sa|mk|kc|zy|GR|GX|W9|nf4|nf5=>k_is
  obtain⟨_,_,_,_,_,_,_,_,_,_,_,_,_,_,_,_,_,ahA⟩:=afx;have xkl:∃a,mg "LETTER_MARKS"=some (.ref a)/\∀P:Program,L2.KDict P w (L2.KOf KX) a My.Zz:=by
   try dsimp only[L2.KOf]
   refine' My.adD KX G ?b ?l ?z ?n
   case b|l=>k_is
   (case z=>rfl)
   (case n=>decide)
  obtain⟨_,kl⟩:=xkl;have xkw:∃a,mg "WORD_MARKS"=some (.ref a)/\∀P:Program,L2.KDict P w (L2.KOf KX) a My.ZC:=by
   try dsimp only[L2.KOf]
   refine' My.adD KX G ?b ?l ?z ?n
   case b|l=>k_is
   (case z=>rfl)
   (case n=>decide)
  obtain⟨_,kw⟩:=xkw;have xzb:∃t:Tok,t≠0/\mg "BLANK"=some (.str (L2.S [63]) t):=by
   try dsimp only[L2.KOf]
   refine' My.akz KX G ?b ?n
   case b=>k_is
   (case n=>decide)
  obtain⟨_,zb⟩:=xzb;have xer:∃dz cB cg cL cY dH bN bW dB fD eY dU fP fj fQ CR jU oH iI jq qQ xq nO pH,My.afc (L2.KOf KX) mg dz cB cg cL cY dH bN bW dB fD eY dU fP fj fQ CR jU oH iI jq qQ xq nO pH:=by
   try dsimp only[L2.KOf]
   refine' My.ahe KX G ?Ko ?Dz ?Jd ?G6 ?Tt ?PJ ?Ai ?DG ?Kp ?Xd ?Kq ?G7 ?PK ?Kr ?PL ?aR ?uZ ?xr ?Cr ?zA ?zB ?G5 ?PN ?G8 ?abL ?PX ?G9 ?Ks ?Xe ?Ku ?Kv ?Kw ?Ky ?G_ ?Kz ?KC ?KD ?DK ?wN ?rF ?adP ?Xf ?Xg ?Xh ?Xi ?P0 ?Xj ?Xk ?Xl ?NT ?Aj ?u9 ?NZ ?DN ?DP ?DQ ?DR ?Bg ?DW ?DX ?DY ?yD ?rG ?RK ?Hf ?Hg ?Hh ?Hi ?D_ ?Hj ?Hl ?Ho ?Ak ?tE ?hn ?ht ?KH ?KJ ?KN ?Ea ?Eb ?Ec ?Cu ?P_ ?Qa ?Hq ?Hr ?Hs ?N5 ?abM ?abN ?Qc ?Qd ?Qe ?xu ?Ht ?Hu ?zE ?KQ ?KR ?KY ?KZ ?K1 ?Xm ?Xn ?Xo ?g2 ?rd ?fc
   case Ko|Dz|Jd|G6|Tt|PJ|Ai|DG|Kp|Xd|Kq|G7|PK|Kr|PL|aR=>k_is
   case uZ|xr|Cr|zA|zB|G5=>k_exc
   case PN|G8|abL|PX|G9|Ks=>kernel_rfl
   case Xe|Ku|Kv|Kw|Ky=>k_is
   case G_=>kernel_rfl
   case Kz=>k_is
   case KC=>kernel_rfl
   case KD|DK|wN|rF|adP|Xf|Xg|Xh|Xi=>k_is
   case P0=>kernel_rfl
   case Xj=>k_is
   case Xk=>kernel_rfl
   case Xl|NT|Aj|u9|NZ|DN|DP|DQ|DR=>k_is
   case Bg=>kernel_rfl
   case DW=>k_is
   case DX=>kernel_rfl
   case DY|yD|rG|RK|Hf|Hg|Hh|Hi=>k_is
   case D_=>kernel_rfl
   case Hj=>k_is
   case Hl=>kernel_rfl
   case Ho|Ak|tE|hn|ht=>k_is
   case KH|KJ|KN|Ea|Eb|Ec|Cu|P_|Qa|Hq|Hr|Hs|N5|abM|abN|Qc|Qd|Qe|xu|Ht|Hu|zE|KQ|KR|KY|KZ|K1|Xm|Xn|Xo=>kernel_rfl
   case g2|rd|fc=>k_is
  obtain⟨_,_,_,_,_,_,_,_,_,_,_,_,_,_,_,_,_,_,_,_,_,_,_,_,er⟩:=xer;have lw:∃fd:FuncData,L2.gJ (L2.KOf KX) "law" "law" My.Tc fa fd/\∀(s:Shared) (v:Value),BindsTo s fd ⟨[v],[]⟩ [("_law_script",v)]:=by
   dsimp only[L2.KOf];refine' L2.ah9 KX G hmg ?a ?l ?c ?k ?b
   case a|l|c|k=>k_is
   (case b=>exact λ_ _ _ _ _ _ _=>rfl)
  obtain⟨fd,F,hb⟩:=lw;exact⟨fd,hb,λbase _ _=>My.ahf bH gF cX iQ Gu jo bK qK qy yx gZ Aa M6 qC Ab Ni rY iM Ca BZ qN yE Hv Bh Hw Hx Ed Ef Bj u_ xM Eh xO Bk Bl Ei wO Hy qR K4 zF tQ zG vW xP vX Ej Hz xQ Ek Bm xR Bo HJ El Bp vf xT HN zH HS K5 HW Qf Xp Qg Qh Qi Bq Xq K7 Xr Je Xu K8 HX Br Xv Qj HY vg abO afu ahz afw ahA kl kw zb er F⟩

import PyProof.Rows.All
import Wide.All
import OpenK.AllK
import Wide.FinOn
import Lean
import PyProof.EqAt
import PyProof.EqKinds
import PyProof.TupleCall
import KE.KRevIter
import PyProof.JoinWalk
import PyProof.CollectIter
import KE.KDictSum
import KE.KSortTup
import OpenK.KRaise
import PyProof.StationsW
import OpenK.KOwn
import KE.KTryMore
import KE.KIsNot
import PyProof.NsDelKeeps
import KE.KIsAll
import PyProof.ExcArgs
import PyProof.ListMulRoad
import PyProof.Rows.SeqMore
import PyProof.FactsAll.tuple_2
import PyProof.ExcInit
import OpenK.KCls
import PyProof.WalkInts
import PyProof.SeqI3
import KE.KIntText
import KE.KEqDict
import KE.KDictOf
import PyProof.Rows.SetFrom
import PyProof.FitsReplace
import PySem.Challenge.RW_letterrack_k60_deeds_done
set_option Elab.async false
set_option linter.all false
set_option maxRecDepth 100000
set_option maxHeartbeats 4000000

set_option bootstrap.genMatcherCode false
theorem ZzN {G:Prop}(h:¬¬G):G:=Classical.byContradiction h
theorem rK {α:Sort _}{a:α}:a=a:=rfl
theorem Zzx2{q:A->B->Prop}{G:Prop}(h:∃a b,q a b)(f:∀a b,q a b->G):G:=Exists.elim h λa h=>Exists.elim h (f a)
theorem Zzx3{q:A->B->C->Prop}{G:Prop}(h:∃a b c,q a b c)(f:∀a b c,q a b c->G):G:=Exists.elim h λa h=>Zzx2 h (f a)
theorem Zzx4{q:A->B->C->D->Prop}{G:Prop}(h:∃a b c d,q a b c d)(f:∀a b c d,q a b c d->G):G:=Exists.elim h λa h=>Zzx3 h (f a)
theorem Zzx5{q:A->B->C->D->E->Prop}{G:Prop}(h:∃a b c d e,q a b c d e)(f:∀a b c d e,q a b c d e->G):G:=Exists.elim h λa h=>Zzx4 h (f a)
theorem Zzx7{q:A->B->C->D->E->I->J->Prop}{G:Prop}(h:∃a b c d e i j,q a b c d e i j)(f:∀a b c d e i j,q a b c d e i j->G):G:=Exists.elim h λa h=>Exists.elim h λb h=>Zzx5 h (f a b)
theorem Zzx10{q:A->B->C->D->E->I->J->K->L->M->Prop}{G:Prop}(h:∃a b c d e i j k l m,q a b c d e i j k l m)(f:∀a b c d e i j k l m,q a b c d e i j k l m->G):G:=Exists.elim h λa h=>Exists.elim h λb h=>Exists.elim h λc h=>Zzx7 h (f a b c)
theorem Zzx14{q:A->B->C->D->E->I->J->K->L->M->N->O->P->R->Prop}{G:Prop}(h:∃a b c d e i j k l m n o p r,q a b c d e i j k l m n o p r)(f:∀a b c d e i j k l m n o p r,q a b c d e i j k l m n o p r->G):G:=Exists.elim h λa h=>Exists.elim h λb h=>Exists.elim h λc h=>Exists.elim h λd h=>Zzx10 h (f a b c d)
local macro_rules|`(tactic|show $e)=>`(tactic|first|exact $e|change $e)
local macro_rules|`(tactic|calc $e:term)=>`(tactic|refine $e)
local macro_rules|`(tactic|let $x:ident := $e)=>`(tactic|have $x:ident := $e)|`(tactic|let $x:ident : $t := $e)=>`(tactic|have $x:ident : $t := $e)
open Lean in
local macro_rules|`(tactic|let ⟨$ts,*⟩ := $h)=>do
 let a:=ts.getElems
 let ps<-a.mapM λt=>if t.raw.isIdent then `(Parser.Tactic.rcasesPatLo|$(⟨t⟩):ident) else `(Parser.Tactic.rcasesPatLo|_)
 let n:=(a.pop.toList.takeWhile λt=>t.raw.getId != `rfl).length
 let mut t<-`(tactic|rcases $h:term with ⟨$ps,*⟩)
 for k in [2, 3, 4, 5, 7, 10, 14] do
  if k<=n then
   let m<-if k+1==a.size&&a.back!.raw.getId != `rfl then `(tactic|intro $a*) else `(tactic|(intro $(a[:k].toArray)* z;rcases z with ⟨$(ps[k:].toArray),*⟩))
   t<-`(tactic|first|(refine $(mkIdent (.mkSimple s!"Zzx{k}")) $h ?_;(try clear $(⟨h⟩));$m:tactic)|$t:tactic)
 `(tactic|(refine ZzN λn=>?_;$t:tactic<;>refine n ?_<;>clear n))
theorem JA{q:A->B->Prop}(a b)(h:q a b):∃a b,q a b:=⟨a,b,h⟩
theorem JE{q:A->B->C->Prop}(a b c)(h:q a b c):∃a b c,q a b c:=⟨a,JA b c h⟩
theorem JI{q:A->B->C->D->Prop}(a b c d)(h:q a b c d):∃a b c d,q a b c d:=⟨a,JE b c d h⟩
theorem JJ{q:A->B->C->D->E->Prop}(a b c d e)(h:q a b c d e):∃a b c d e,q a b c d e:=⟨a,JI b c d e h⟩
theorem JO{q:A->B->C->D->E->F->Prop}(a b c d e f)(h:q a b c d e f):∃a b c d e f,q a b c d e f:=⟨a,JJ b c d e f h⟩
theorem JP{q:A->B->C->D->E->F->G->Prop}(a b c d e f g)(h:q a b c d e f g):∃a b c d e f g,q a b c d e f g:=⟨a,JO b c d e f g h⟩
theorem JS{q:A->B->C->D->E->F->G->H->Prop}(a b c d e f g i)(h:q a b c d e f g i):∃a b c d e f g i,q a b c d e f g i:=⟨a,JP b c d e f g i h⟩
section
variable{p:Prop}
def p_(h:p:=by lia):p:=h
def qa(h:p:=by simp):p:=h
def qc(h:p:=by decide):p:=h
def qf(h:p:=by rfl):p:=h
def qh(h:p:=by kernel_rfl):p:=h
def qi(h:p:=by decide +kernel):p:=h
def qk(h:p:=by first | lia | ((try dsimp only);lia)):p:=h
def qo(h:p:=by size_fits):p:=h
end
def zsz (n:Nat)(h:n<=1000:=by decide):n<=PySem.sizeLine:=Nat.le_trans h qc
abbrev aa:=@List.length_map
abbrev ac:=@PySem.wpAny_bind
abbrev ae:=@PySem.Heap.get?_push_of_some
abbrev af:=@List.getElem?_eq_getElem
abbrev ag:=@decide_eq_false
abbrev ah:=@List.getElem?_eq_some_iff
abbrev ai:=@decide_eq_true
abbrev al:=@Nat.le_refl
abbrev am:=@PySem.wpAny_pure
abbrev ap:=@Nat.le_of_lt
abbrev av:=@List.length_take
abbrev aw:=@List.getD_eq_getElem?_getD
abbrev ax:=@PySem.Heap.lt_size
abbrev ay:=@List.length_append
abbrev aE:=@PySem.boot_len
abbrev aI:=@PySem.Heap.get?_push_size
abbrev aS:=@PyProof.Rows.boot_isinstance
abbrev a9:=@List.getElem_mem
abbrev a_:=@List.mem_singleton
abbrev ba:=@List.length_drop
abbrev bc:=@List.mem_map
abbrev bd:=@List.size_toArray
abbrev be:=@Option.some.inj
abbrev bo:=@PySem.F.plainAttrs_str
abbrev bp:=@List.mem_of_getElem?
abbrev bq:=@List.mem_cons
abbrev bu:=@List.mem_append
abbrev bv:=@Bool.false_ne_true
abbrev bz:=@List.map_append
abbrev bE:=@List.mem_cons_of_mem
abbrev bP:=@Nat.le_trans
abbrev bS:=@List.getElem?_map
abbrev bX:=@Bool.and_eq_true
abbrev b8:=@Nat.ne_of_lt
abbrev b9:=@List.mem_cons_self
abbrev ce:=@List.take_of_length_le
abbrev cf:=@List.map_cons
abbrev ck:=@PyProof.Rows.boot_tuple
abbrev cn:=@PySem.F.plainAttrs_list
abbrev cp:=@Int.toNat_of_nonneg
abbrev cq:=@List.length_replicate
abbrev cv:=@List.take_length
abbrev cw:=@List.take_add_one
abbrev cy:=@List.mem_of_mem_take
abbrev cz:=@PySem.PassesOwn.never
abbrev cE:=@Nat.lt_of_lt_of_le
abbrev cK:=@PySem.W.mg_none_of
abbrev cS:=@PySem.wpAny_field
abbrev c8:=@PySem.W.mg_of
abbrev c9:=@Option.map_eq_some_iff
abbrev c_:=@PySem.F.slot_str_join
abbrev de:=@PySem.F.type_str_join
abbrev df:=@Int.emod_nonneg
abbrev di:=@Int.emod_lt_of_pos
abbrev dq:=@List.length_cons
abbrev dr:=@PySem.F.slot_list_append
abbrev du:=@PySem.F.type_list_append
abbrev dv:=@Int.toNat_natCast
abbrev dA:=@List.getElem?_append_right
abbrev dC:=@List.replicate_succ
abbrev dE:=@PySem.Heap.size_push
abbrev dL:=@List.mem_append_right
abbrev dP:=@of_decide_eq_true
abbrev dS:=@List.getElem?_append_left
abbrev ed:=@List.mem_of_mem_drop
abbrev ee:=@PyProof.Rows.callWith_type1
abbrev eh:=@PySem.wpAny_truthy_bool
abbrev ej:=@Nat.zero_le
abbrev eI:=@PySem.wpAny_callSpecial?_slot
abbrev eJ:=@PySem.wpAny_seqItems
abbrev eK:=@PySem.wpAny_mono
abbrev eQ:=@PySem.Calls.spliced_cons
abbrev eW:=@List.length_set
abbrev e_:=@PySem.wpAny_setField_rec
abbrev fb:=@PySem.wpAny_call_entry
abbrev fe:=@List.flatten_cons
abbrev fg:=@PySem.W.kia_one
abbrev fh:=@List.all_eq_true
abbrev fi:=@List.not_mem_nil
abbrev fk:=@Nat.lt_irrefl
abbrev fm:=@PyProof.Rows.slot_tuple_getitem
abbrev fo:=@PySem.Heap.get?_update_other
abbrev fq:=@PyProof.Rows.boot_list
abbrev fw:=@PySem.wpAny_newObj_type
abbrev fz:=@Array.length_toList
abbrev fA:=@List.map_congr_left
abbrev fE:=@List.forIn_cons
abbrev fF:=@Nat.min_eq_left
abbrev fN:=@List.mem_or_eq_of_mem_set
abbrev fR:=@PyProof.Rows.boot_int
abbrev fS:=@Bool.false_eq_true
abbrev f8:=@PyProof.Rows.boot_sorted
abbrev f_:=@PySem.Calls.callWith_builtin
abbrev gc:=@List.map_map
abbrev gd:=@PyProof.Rows.boot_bool
abbrev gf:=@Array.getElem?_eq_some_iff
abbrev gg:=@PySem.F.excBase_ValueError
abbrev gh:=@List.lookup_cons
abbrev gm:=@PySem.Heap.get?_update_self
abbrev gp:=@Nat.mul_le_mul
abbrev gr:=@List.drop_eq_getElem_cons
abbrev gt:=@Nat.ne_of_gt
abbrev gu:=@PySem.Calls.evalArgs_plain
abbrev gv:=@List.find?_cons
abbrev gy:=@PySem.F.slot_zip_next
abbrev gI:=@Ne.symm
abbrev gL:=@PySem.Calls.spliced_nil
abbrev gN:=@List.length_eq_zero_iff
abbrev gS:=@List.mem_range
abbrev gT:=@Nat.lt_succ_self
abbrev gV:=@Nat.succ_le_succ
abbrev gX:=@List.drop_of_length_le
abbrev g9:=@PySem.wpAny_Call_Name_kw
abbrev hJ:=@List.mem_filter
abbrev hV:=@Bool.eq_iff_iff
abbrev ia:=@List.append_nil
abbrev ib:=@List.nodup_cons
abbrev ic:=@PySem.F.slot_dict_get
abbrev ie:=@PySem.Obj.isFreed_of_fields
abbrev ii:=@List.cons_lt_cons_iff
abbrev ij:=@PyProof.Rows.boot_str
abbrev ik:=@PySem.wpAny_holding
abbrev im:=@PySem.F.slot_tuple_iterator_next
abbrev io:=@PySem.wpAny_pyIter_list
abbrev ip:=@PySem.StrLaws.subAt_one
abbrev iq:=@PySem.wpAny_loadPart_at
abbrev ir:=@List.mem_iff_getElem
abbrev iA:=@PySem.wpAny_updateSeq_pair
abbrev iE:=@List.pairwise_iff_getElem
abbrev iF:=@List.set_eq_take_append_cons_drop
abbrev iL:=@PySem.wpAny_setField
abbrev iN:=@Nat.le_of_eq
abbrev iO:=@PySem.F.slot_list_remove
abbrev iP:=@PySem.F.type_list_remove
abbrev iS:=@PySem.mem_of_lookup
abbrev iX:=@Array.getElem?_setIfInBounds_ne
abbrev i8:=@PySem.F.plainAttrs_dict
abbrev i9:=@Int.eq_ofNat_of_zero_le
abbrev jb:=@PySem.wpAny_onRaise
abbrev jp:=@PySem.W.callWith_K
abbrev js:=@PySem.SeqAt.EqAt.int_int
abbrev jv:=@Nat.lt_of_le_of_lt
abbrev jI:=@PySem.Obj.data_mapFields
abbrev jS:=@PySem.wpAny_loadPart'
abbrev j3:=@of_decide_eq_false
abbrev ka:=@List.getElem?_set_self
abbrev ke:=@PySem.F.slot_tuple_mul
abbrev kf:=@PySem.PassesOwn.leaving
abbrev km:=@List.drop_zero
abbrev ko:=@PySem.F.slot_int_rmul
abbrev kq:=@List.take_append_drop
abbrev kr:=@List.dropLast_concat_getLast
abbrev ku:=@Nat.min_eq_right
abbrev kD:=@PySem.wpAny_rule
abbrev kH:=@List.replicate_succ'
abbrev kK:=@List.any_cons
abbrev kL:=@Nat.le_succ
abbrev kM:=@List.map_id
abbrev kN:=@List.filterMap_cons
abbrev kP:=@PySem.wpAny_passesOwn
abbrev kQ:=@PySem.wpAny_binaryOp_repeat_ref
abbrev kR:=@Option.map_some
abbrev kS:=@PySem.wpAny_pyIter_tuple
abbrev kU:=@PySem.codeAny_mono
abbrev kX:=@PySem.F.args_tuple_add_2
abbrev k9:=@PySem.wpAny_tupleItemsOf
abbrev lh:=@Nat.eq_zero_or_pos
abbrev lj:=@List.erase_sublist
abbrev lm:=@PySem.wpAny_call
abbrev lp:=@List.forIn_nil
abbrev lv:=@Int.mul_le_mul
abbrev lx:=@PySem.Heap.IsList.at
abbrev ly:=@PySem.F.entry_tuple_add
abbrev lI:=@PySem.F.args_dict_get_3
abbrev lL:=@Nat.add_sub_cancel_left
abbrev lP:=@List.eraseIdx_cons_succ
abbrev lS:=@Nat.lt_succ_of_lt
abbrev lT:=@PySem.F.args_zip_next_1
abbrev l_:=@Sum.inr.inj
abbrev ma:=@PySem.F.slot_tuple_add
abbrev md:=@PySem.F.entry_dict_get
abbrev me:=@PySem.wpAny_letGo
abbrev mf:=@PySem.wpAny_nextOf_list_item
abbrev mh:=@PySem.F.slot_str_lower
abbrev mi:=@PySem.F.type_str_lower
abbrev ml:=@PySem.wpAny_standAt
abbrev mm:=@Bool.not_true
abbrev mn:=@Bool.true_and
abbrev mo:=@PySem.wpAny_isInstance
abbrev mw:=@List.zipIdx_cons
abbrev mx:=@PySem.F.entry_zip_next
abbrev my:=@PySem.wpAny_pyIter_zip
abbrev mB:=@List.drop_length
abbrev mE:=@List.length_singleton
abbrev mI:=@PyProof.Rows.boot_min
abbrev mM:=@List.mem_append_left
abbrev mP:=@List.getElem?_set_ne
abbrev mS:=@PySem.wpAny_Name
abbrev mT:=@PyProof.Rows.callWith_builtin1
abbrev nc:=@Int.ofNat_lt
abbrev nv:=@List.foldl_cons
abbrev ny:=@PySem.F.slot_tuple_lt
abbrev nB:=@List.zipIdx_nil
abbrev nE:=@List.map_set
abbrev nI:=@Nat.mul_le_mul_right
abbrev nK:=@PySem.W.plainGet_of
abbrev nL:=@Bool.false_and
abbrev nS:=@List.mem_filterMap
abbrev nV:=@List.getElem?_drop
abbrev nX:=@Int.fdiv_eq_ediv_of_nonneg
abbrev n9:=@List.sum_cons
abbrev og:=@List.takeWhile_cons_of_pos
abbrev om:=@PySem.wpAny_attempt
abbrev on:=@Int.ofNat.inj
abbrev oq:=@List.map_drop
abbrev ot:=@PySem.Within.cons
abbrev ow:=@Option.isSome_map
abbrev oy:=@PySem.wpAny_Call_method
abbrev oz:=@Function.comp_def
abbrev oB:=@PySem.Obj.cls_mapFields
abbrev oC:=@Bool.eq_false_iff
abbrev oP:=@Array.getElem?_eq_getElem
abbrev oQ:=@List.getLast?_eq_getElem?
abbrev oS:=@List.getElem?_zip_eq_some
abbrev o0:=@Nat.succ_mul
abbrev o6:=@List.cons_append
abbrev ph:=@List.map_nil
abbrev pi:=@Array.toList_inj
abbrev pj:=@List.of_mem_zip
abbrev pk:=@List.length_nil
abbrev pE:=@Bool.or_eq_true
abbrev pS:=@Int.le_refl
abbrev pV:=@List.nodup_nil
abbrev AA:=List (List Nat)
abbrev AE:=PySem.Value->PySem.Shared->Prop
abbrev AH:=List (PySem.Addr×PySem.Obj)
noncomputable section
namespace L2
open PySem
def Ce (h:Runs M Γ p t fs s e s'):s.toks<=s'.toks:=by
 induction h with| done|raise|yield=>show al _| fresh _ ih=>show bP (kL _) ih| again _ _ ih|rule _ ih|«at» _ ih|load _ _ ih|update _ _ ih|loadIfAlive _ ih|point _ ih|alloc _ ih|ask _ ih|choose _ _ ih|os _ ih|handled _ ih|genState _ _ ih|stack _ ih|thread _ ih|newGen _ ih=>show ih| call _ _ ih1 ih2=>show bP ih1 ih2| callSusp _ ih=>show ih| resumeFresh _ _ _ _ ih1 ih2=>show bP ih1 ih2| resumeSuspended _ _ _ _ ih1 ih2=>show bP ih1 ih2| resumeJustStarted _ _ _ ih=>show ih| resumeThrowFresh _ _ ih=>show ih| resumeRunning _ _ ih=>show ih| resumeFinished _ _ ih=>show ih| segRet _ _ ih1 ih2=>show bP ih1 ih2| segGen _ _ ih1 ih2=>show bP ih1 ih2| segSuspOut _ _ ih=>show ih| segSuspGen _ _ _ _ ih1 ih2=>show bP ih1 ih2
def WX (h:Wakes M Γ p g r s res s'):s.toks<=s'.toks:=by
 unfold Wakes at h;split at h;.show h.elim
 .split at h
  .let⟨e,s1,j,_,_,rfl⟩:=h;let z:=Ce j;show z
  .let⟨_,rfl⟩:=h;show al _
  .let⟨_,rfl⟩:=h;show al _
 .let⟨e,s1,j,_,_,rfl⟩:=h;let z:=Ce j;show z
 .let⟨_,rfl⟩:=h;show al _
 .let⟨_,rfl⟩:=h;show al _
def aib {α:Type}{M:Model}{Γ:Ctx}(t:Sem α)(n:Nat){Q:α->Pos->Shared->Prop}{E:Value->Pos->Shared->Prop}(p:Pos)(s:Shared)(hn:n<=s.toks)(h:Sem.wp M Γ t (λa p s=>n<=s.toks->Q a p s) (λe p s=>n<=s.toks->E e p s) p s):Sem.wp M Γ t Q E p s:=by
 revert h
 induction t generalizing p s with| pure x=>show λh=>h hn| raise v=>show λh=>h hn| unsupported|finish|yield|fork|await|register=>show id| fresh k ih=>show ih _ _ _ (bP hn (kL _))| rule _ k ih|«at» _ k ih|alloc _ k ih|loadIfAlive _ k ih|point _ k ih|ask k ih|os _ _ k ih|handled _ k ih|newGen _ k ih|stack k ih|thread k ih=>show ih _ _ _ hn| load a _ k ih|genState a k ih=>show λ⟨o,D,h⟩=>⟨o,D,ih _ _ _ hn h⟩| update a _ f k ih|choose _ _ k ih=>show λ⟨ha,h⟩=>⟨ha,ih _ _ _ hn h⟩| call c h g l k ih=>show λ⟨r,s',j,F⟩=>(JA r s' ⟨j,ih _ _ _ (bP hn (Ce j)) F⟩)| resume g r l k ih=>show λ⟨res,s',hw,h⟩=>(JA res s' ⟨hw,ih _ _ _ (bP hn (WX hw)) h⟩)
def Py {α:Type}{t:Sem α}{Q:α->Shared->Prop}{s:Shared}(h:wpAny M A t (λa s'=>s.toks<=s'.toks->Q a s') (λe s'=>s.toks<=s'.toks->E e s') s):wpAny M A t Q E s:=λΓ p hΓ=>aib t s.toks p s (al _) (h Γ p hΓ)
end L2
namespace L2
open PySem PySem.Spec PyProof.Rows
abbrev Key:=Sum Int Str
def zQ:Key->Value->Bool
 | .inl k,v=>Value.isInt k v
 | .inr x,v=>Value.isStrOf x v
def ai1 (w:World):Key->Int
 | .inl k=>hashInt k
 | .inr x=>hashStr w x
theorem iK:∀{k:Key} {v:Value},zQ k v=true->(∃i t,k=Sum.inl i/\v=Value.int i t)\/(∃x t,k=Sum.inr x/\v=Value.str x t)
 | .inl i,v,h=>by let⟨t,e⟩:=Value.isInt_shape (k:=i) (v:=v) h;show .inl (JA i t ⟨rK,e⟩)
 | .inr x,v,h=>by let⟨t,e⟩:=Value.isStrOf_shape (x:=x) (v:=v) h;show .inr (JA x t ⟨rK,e⟩)
def YT (i)(t:Tok):zQ (.inl i) (.int i t)=true:=by simp[zQ,Value.isInt]
def YW (x)(t:Tok):zQ (.inr x) (.str x t)=true:=by simp[zQ,Value.isStrOf]
def afI (a b):decide ((Sum.inl a:Key)=Sum.inl b)=(a==b):=by
 by_cases e:a=b;.subst e;simp
 .let h:¬(Sum.inl a:Key)=Sum.inl b:=λq=>e (Sum.inl.inj q)
  rw[ag h];show(beq_eq_false_iff_ne.mpr e).symm
def afJ (a b):decide ((Sum.inr a:Key)=Sum.inr b)=decide (a=b):=by
 by_cases e:a=b;.subst e;simp
 .let h:¬(Sum.inr a:Key)=Sum.inr b:=λq=>e (l_ q)
  rw[ag h,ag e]
def afK (a)(b):decide ((Sum.inl a:Key)=Sum.inr b)=false:=ag (λq=>nomatch q)
def afL (a)(b):decide ((Sum.inr a:Key)=Sum.inl b)=false:=ag (λq=>nomatch q)
noncomputable def fW (prog:Program)(w:World):PySem.KeyKind prog w Key where
 is:=zQ
 hash:=ai1 w
 inj:=λv a b ha hb=>by
  rcases iK ha with⟨i,t,rfl,rfl⟩|⟨x,t,rfl,rfl⟩
  .rcases iK hb with⟨j,u,rfl,e⟩|⟨y,u,rfl,e⟩
   .injection e with e1 _;rw[e1]
   .show nomatch e
  .rcases iK hb with⟨j,u,rfl,e⟩|⟨y,u,rfl,e⟩;.show nomatch e
   .injection e with e1 _;rw[e1]
 byValue:=λk v h=>by rcases iK h with⟨i,t,rfl,rfl⟩|⟨x,t,rfl,rfl⟩ <;> rfl
 pyHash:=λD h=>by
  rcases iK D with⟨i,t,rfl,rfl⟩|⟨x,t,rfl,rfl⟩;.show wpAny_pyHash_int h
  .show wpAny_pyHash_str h
 eqBool:=λF D h=>by
  rcases iK F with⟨i,t,rfl,rfl⟩|⟨x,t,rfl,rfl⟩
  .rcases iK D with⟨j,u,rfl,rfl⟩|⟨y,u,rfl,rfl⟩;.rw[afI]at h;show wpAny_eqBool_int h
   .rw[afK]at h;show SeqAt.EqAt.int_str i t y u _ _ _ _ h
  .rcases iK D with⟨j,u,rfl,rfl⟩|⟨y,u,rfl,rfl⟩;.rw[afL]at h;show SeqAt.EqAt.str_int x t j u _ _ _ _ h
   .rw[afJ]at h;show wpAny_eqBool_str h
 «strs»:=λk x t v h=>by
  rcases iK h with⟨i,u,rfl,e⟩|⟨y,u,rfl,e⟩;.show nomatch e
  .injection e with e1 _;subst e1;cases v <;> rfl
def TX (prog)(w)(i)(t:Tok):(fW prog w).is (.inl i) (.int i t)=true:=YT i t
def lO (prog)(w)(x)(t:Tok):(fW prog w).is (.inr x) (.str x t)=true:=YW x t
inductive V where
 | non|bl (b:Bool)|int (i:Int)|str (x:Str)|Bu (b:Array UInt8)|flt (b:UInt64)|ref (a:Addr)|ty (n:String)
 deriving DecidableEq
def cB:V->Value->Prop
 | .non,u=>u=Value.none
 | .bl b,u=>u=Value.bool b
 | .int i,u=>∃t,u=Value.int i t
 | .str x,u=>∃t,u=Value.str x t
 | .Bu b,u=>∃t,u=Value.bytes b t
 | .flt b,u=>∃t,u=Value.float b t
 | .ref a,u=>u=Value.ref a
 | .ty n,u=>u=Value.type n
abbrev Vals:List V->List Value->Prop:=Paired cB
def Vals.length (r:Vals xs us):xs.length=us.length:=Paired.length r
theorem Vals.get:∀{xs:List V} {us:List Value} {i:Nat} {x:V},Vals xs us->xs[i]?=some x->∃u,us[i]?=some u/\cB x u
 | _,_,_,_,.nil,e=>by simp at e
 | _,_,0,_,.cons r _,e=>by simp at e;subst e;show⟨_,rK,r⟩
 | _,_,i+1,x,.cons _ t,e=>by let⟨u,h1,h2⟩:=Vals.get (i:=i) (x:=x) t (by simpa using e);show⟨u,by simpa using h1,h2⟩
theorem Vals.set (r:cB x u):∀{xs:List V} {us:List Value} (i:Nat),Vals xs us->Vals (xs.set i x) (us.set i u)
 | _,_,_,.nil=>.nil
 | _,_,0,.cons _ t=>.cons r t
 | _,_,i+1,.cons q t=>.cons q (Vals.set r i t)
theorem Vals.append:∀{xs ys:List V} {us ws:List Value},Vals xs us->Vals ys ws->Vals (xs++ys) (us++ws)
 | _,_,_,_,.nil,s=>s
 | _,_,_,_,.cons r t,s=>.cons r (Vals.append t s)
theorem Vals.take:∀{xs:List V} {us:List Value} (n:Nat),Vals xs us->Vals (xs.take n) (us.take n)
 | _,_,0,_=>.nil
 | _,_,_+1,.nil=>.nil
 | _,_,n+1,.cons r t=>.cons r (Vals.take n t)
theorem Vals.drop:∀{xs:List V} {us:List Value} (n:Nat),Vals xs us->Vals (xs.drop n) (us.drop n)
 | _,_,0,r=>r
 | _,_,_+1,.nil=>.nil
 | _,_,n+1,.cons _ t=>Vals.drop n t
def lQ:Option V->Option Value->Prop
 | some v,some u=>cB v u
 | none,none=>True
 | _,_=>False
def KV {κ:Type}:List (κ×V)->List (κ×Value)->Prop:=Paired λ(p:κ×V) (q:κ×Value)=>p.1=q.1/\cB p.2 q.2
def kV:Key->V
 | .inl i=>.int i
 | .inr x=>.str x
inductive HO where
 | lst (xs:List V)
 | tup (xs:List V)
 | dK (kvs:List (Key×V))|dT (kvs:List (List Key×V))
 | set (S:Int->Bool) (n:Nat)
 | ins (C dx:Addr) (fs:List (Str×V))
 | own (x:Addr)
 | xd (fs:List (Str×V))
 | met (f x:Addr)
 | rng (lo hi:Int)
 | pU (o:Obj) (u:HO)
 | L_ (ps:Array Value)
 | ext (φ:Heap->Prop)
abbrev Hp:=Addr->Option HO
def upd (H:Hp)(a:Addr)(o:HO):Hp:=λb=>if b=a then some o else H b
def aq:upd H a o a=some o:=by unfold upd;rw[if_pos rfl]
def aV (h:b≠a):upd H a o b=H b:=by unfold upd;rw[if_neg h]
def U3:upd (upd H a o) a u=upd H a u:=by funext b;unfold upd;split <;> rfl
def xr {H:Hp}{a b:Addr}{o u:HO}(h:H a=some o)(h':H b=some u)(d:o≠u):a≠b:=by intro e;subst e;rw[h]at h';show d (be h')
def aX {H:Hp}{a b:Addr}{o:HO}(h:H a=some o)(h':H b=none):a≠b:=by intro e;subst e;rw[h]at h';cases h'
section
variable (P:Program)(w:World)
def fV (H:Hp)(h:Heap)(a:Addr):HO->Prop
 | .lst xs=>xs.length<=sizeLine/\∃(its:List Value) (n:Nat),Vals xs its/\h.get? a=some {cls:=.type "list",data:=.seq its.toArray n}
 | .tup xs=>xs.length<=sizeLine/\∃its:List Value,Vals xs its/\IsTup h a its.toArray
 | .dK kvs=>kvs.length<=sizeLine/\(a==sysModules)=false/\∃vs,KV kvs vs/\h.DictOf (fW P w) a vs
 | .dT kvs=>kvs.length<=sizeLine/\(a==sysModules)=false/\∃xs:List (List Key×Addr×Value),
   Paired (λ(p:List Key×V) (q:List Key×Addr×Value)=>p.1=q.1/\H q.2.1=some (.tup (p.1.map kV))/\cB p.2 q.2.2) kvs xs/\
   ∃o es ep,h.get? a=some o/\o.ExactDict/\o.data=.dict es ep/\es.toList=xs.map (entryOfKey (tupleKind (fW P w)))/\(xs.map (·.1)).Nodup
 | .set S n=>h.SetOf (intKind P w) a S n
 | .ins C dx fs=>H dx=some (.own a)/\fs.length<=1000/\dx≠a/\h.get? a=some (W.instObj C dx)/\
   ∃mA,h.Ns1 dx mA/\(∀f,lQ (fs.lookup f) (mA f))/\PySem.Within mA (fs.map (·.1))
 | .own _=>∃o,h.get? a=some o
 | .xd fs=>∃mA,h.Ns1 a mA/\∀f,lQ (fs.lookup f) (mA f)
 | .rng lo hi=>∃t u v,h.get? a=some {cls:=.type "range",data:=.fields #[.int lo t,.int hi u,.int 1 v]}
 | .pU o u=>h.get? a=some o/\fV H h a u
 | .L_ ps=>h.get? a=some {cls:=.none,data:=.fields ps}
 | .met f x=>h.get? a=some (W.methodObj (.ref f) (.ref x))
 | .ext φ=>φ h/\(∃o,h.get? a=some o)/\∀h1 h2:Heap,φ h1->(∀o,h1.get? a=some o->h2.get? a=some o)->φ h2
def j8 (H:Hp)(h:Heap):Prop:=∀a o,H a=some o->fV P w H h a o
end
section
variable {P:Program}{w:World}{H H':Hp}{h h':Heap}{a:Addr}{o:HO}
def fV.lt (x:fV P w H h a o):a<h.objs.size:=by
 cases o with
 | lst xs=>let⟨_,_,_,_,e⟩:=x;show ax e
 | tup xs=>let⟨_,_,_,p⟩:=x;show p.lt
 | dK kvs=>let⟨_,_,_,_,o,_,_,e,_⟩:=x;show ax e
 | dT kvs=>let⟨_,_,_,_,o,_,_,e,_⟩:=x;show ax e
 | set S n=>let⟨o,_,_,_,e,_⟩:=x;show ax e
 | ins C dx fs=>let⟨_,_,_,e,_⟩:=x;show ax e
 | own y=>let⟨_,e⟩:=x;show ax e
 | xd fs=>obtain⟨_,⟨_,_,_,e,_⟩,_⟩:=x;show ax e
 | rng lo hi=>let⟨_,_,_,e⟩:=x;show ax e
 | pU ob u=>let⟨e,_⟩:=x;show ax e
 | L_ ps=>show ax (show h.get? a=some _ from x)
 | met f y=>show ax (show h.get? a=some _ from x)
 | ext φ=>obtain⟨_,⟨_,e⟩,_⟩:=x;show ax e
theorem Paired.abp {α β:Type}{F G:α->β->Prop}:∀{D:List α} {j:List β},Paired F D j->(∀a b,F a b->G a b)->Paired G D j
 | _,_,.nil,_=>.nil
 | _,_,.cons r t,f=>.cons (f _ _ r) (Paired.abp t f)
def fV.stay (x:fV P w H h a o)(k:∀b u,(b=a\/H b=some (.own a))->h.get? b=some u->h'.get? b=some u)(j:∀b,H b=some (.own a)->H' b=some (.own a))(ht:∀b xs,H b=some (.tup xs)->H' b=some (.tup xs)):fV P w H' h' a o:=by
 induction o with
 | lst xs=>let⟨z,its,n,r,e⟩:=x;show⟨z,its,n,r,k _ _ (.inl rK) e⟩
 | tup xs=>let⟨z,its,r,ob,e,c⟩:=x;show⟨z,its,r,ob,k _ _ (.inl rK) e,c⟩
 | dK kvs=>let⟨z,y,vs,r,ob,es,ep,e,c⟩:=x;show⟨z,y,vs,r,ob,es,ep,k _ _ (.inl rK) e,c⟩
 | dT kvs=>let⟨z,y,xs,r,ob,es,ep,e,c⟩:=x;show⟨z,y,xs,Paired.abp r λp q z=>⟨z.1,ht _ _ z.2.1,z.2.2⟩,ob,es,ep,k _ _ (.inl rK) e,c⟩
 | set S n=>let⟨ob,es,ep,t,e,c⟩:=x;show JI ob es ep t ⟨k _ _ (.inl rK) e,c⟩
 | ins C dx fs=>obtain⟨d,z,ne,e,mA,⟨od,es,ep,e2,c⟩,r⟩:=x;show⟨j _ d,z,ne,k _ _ (.inl rK) e,mA,(JE od es ep ⟨k _ _ (.inr d) e2,c⟩),r⟩
 | own y=>let⟨ob,e⟩:=x;show⟨ob,k _ _ (.inl rK) e⟩
 | xd fs=>obtain⟨mA,⟨od,es,ep,e,c⟩,r⟩:=x;show⟨mA,(JE od es ep ⟨k _ _ (.inl rK) e,c⟩),r⟩
 | rng lo hi=>let⟨t,u,v,e⟩:=x;show JE t u v (k _ _ (.inl rK) e)
 | pU ob u ih=>let⟨e,q⟩:=x;show⟨k _ _ (.inl rK) e,ih q⟩
 | L_ ps=>have e:h.get? a=some {cls:=.none,data:=.fields ps}:=x;show h'.get? a=some {cls:=.none,data:=.fields ps};show k a _ (.inl rK) e
 | met f y=>have e:h.get? a=some (W.methodObj (.ref f) (.ref y)):=x;show h'.get? a=some (W.methodObj (.ref f) (.ref y));show k a _ (.inl rK) e
 | ext φ=>obtain⟨p,⟨o,e⟩,st⟩:=x;show⟨st _ _ p λo q=>k _ _ (.inl rK) q,⟨o,k _ _ (.inl rK) e⟩,st⟩
def j8.lt (x:j8 P w H h)(e:H a=some o):a<h.objs.size:=(x a o e).lt
def j8.fresh (x:j8 P w H h)(e:h.objs.size<=a):H a=none:=by
 cases q:H a with| none=>rfl| some u=>show absurd (cE (x.lt q) e) (fk _)
def j8.kept (x:j8 P w H h)(k:∀b u,h.get? b=some u->h'.get? b=some u):j8 P w H h':=λa o e=>(x a o e).stay (λb u _ q=>k b u q) (λ_ q=>q) λ_ _ q=>q
def j8.laid (x:j8 P w H h)(k:∀b u,h.get? b=some u->h'.get? b=some u)(hp:h.objs.size<=a)(new:fV P w (upd H a o) h' a o):j8 P w (upd H a o) h':=λb u e=>by
 let hn:=x.fresh hp;by_cases hb:b=a;.subst hb;rw[aq]at e;cases e;show new
 .rw[aV hb]at e;show(x b u e).stay (λc v _ q=>k c v q) (λc q=>by rw[aV (aX q hn)];show q) λc xs q=>by rw[aV (aX q hn)];show q
end
def Rd (H:Hp)(a:Addr)(u:HO):Prop:=H a=some u\/∃o,H a=some (.pU o u)
def Rd.of (h:H a=some u):Rd H a u:=.inl h
def Rd.ok (r:Rd H a u)(x:j8 P w H h):fV P w H h a u:=by
 rcases r with r|⟨o,r⟩;.show x a u r
 .let⟨_,q⟩:=x a _ r;show q
def YX:Option HO->Prop
 | some (.lst _)=>True
 | some (.dK _)=>True
 | some (.dT _)=>True
 | some (.set _ _)=>True
 | some (.ins _ _ _)=>True
 | some (.ext _)=>True
 | _=>False
section
variable {P:Program}{w:World}{H:Hp}{h h':Heap}{x e:Addr}{o':HO}
def j8.write (ok:j8 P w H h)(F:YX (H x))(Y:e=x\/H e=some (.own x))(k:∀b u,b≠e->h.get? b=some u->h'.get? b=some u)(J:∃u,h'.get? e=some u)(new:fV P w (upd H x o') h' x o'):j8 P w (upd H x o') h':=λb u q=>by
 let D:∀c y,H c=some (.own y)->c≠x:=λc y r z=>by subst z;rw[r]at F;show F
 let I:∀c xs,H c=some (.tup xs)->c≠x:=λc xs r z=>by subst z;rw[r]at F;show F
 by_cases hb:b=x;.subst hb;rw[aq]at q;cases q;show new
 .rw[aV hb]at q;by_cases j:b=e
  .let O:H b=some (.own x):=by
    rcases Y with z|z;.show absurd (j.trans z) hb
    .rw[j];show z
   rw[q]at O;cases O;let⟨v,Z⟩:=J;show⟨v,by rw[j];show Z⟩
  .refine(ok b u q).stay (λc v G r=>k c v ?_ r) (λc r=>by rw[aV (D c b r)];show r) λc xs r=>by rw[aV (I c xs r)];show r
   rcases G with rfl|G;.show j
   .rintro rfl;rcases Y with z|z;.show D c b G z
    .rw[G]at z;cases z;show hb rfl
end
structure Un (fs ex:List Addr)(H H':Hp)(h h':Heap):Prop where
 keep:∀b o,h.get? b=some o->H b=none->b∉fs->b∉ex->h'.get? b=some o
 slot:∀b o,h.get? b=some o->H b=none->b∈fs->b∉ex->∃sl,h'.get? b=some {o with slots:=sl}
 free:∀b o,h.get? b=some o->H b=none->b∉ex->H' b=none
 there:∀b o,h.get? b=some o->b∉ex->∃o',h'.get? b=some o'
 tups:∀b xs,H b=some (.tup xs)->H' b=some (.tup xs)
 qz:∀b o u,H b=some (.pU o u)->H' b=some (.pU o u)
 qT:∀b ps,H b=some (.L_ ps)->∃more,H' b=some (.L_ (ps++more))
section
variable {fs ex:List Addr}{H H1:Hp}{h h1 h':Heap}{a x e:Addr}{o:HO}
def Un.any (u:Un fs ex H H1 h h1)(q:h.get? b=some ob)(n:H b=none)(hx:b∉ex):∃sl,h1.get? b=some {ob with slots:=sl}:=by
 by_cases hb:b∈fs;.show u.slot b ob q n hb hx
 .show⟨ob.slots,u.keep b ob q n hb hx⟩
def Un.kept (k:∀b u,h.get? b=some u->h'.get? b=some u):Un fs ex H H h h':=⟨λb ob q _ _ _=>k b ob q,λb ob q _ _ _=>⟨ob.slots,k b ob q⟩,λ_ _ _ n _=>n,λb ob q _=>⟨ob,k b ob q⟩,λ_ _ q=>q,λ_ _ _ q=>q,λ_ ps q=>⟨#[],by rw[q];simp⟩⟩
def Un.refl:Un fs ex H H h h:=Un.kept λ_ _ q=>q
def Un.laid (k:∀b u,h.get? b=some u->h'.get? b=some u)(hp:h.objs.size<=a)(hn:H a=none):Un fs ex H (upd H a o) h h' where
 keep:=λb u q _ _ _=>k b u q
 slot:=λb u q _ _ _=>⟨u.slots,k b u q⟩
 free:=λb u q n _=>by rw[aV (b8 (cE (ax q) hp))];show n
 there:=λb u q _=>⟨u,k b u q⟩
 tups:=λb xs q=>by rw[aV (aX q hn)];show q
 qz:=λb u xs q=>by rw[aV (aX q hn)];show q
 qT:=λb ps q=>⟨#[],by rw[aV (aX q hn),q];simp⟩
def Un.write (D:YX (H x))(G:e=x\/H e=some (.own x))(k:∀b u,b≠e->h.get? b=some u->h'.get? b=some u)(F:∃u,h'.get? e=some u):Un fs ex H (upd H x o) h h':=by
 let hx:∀b,H b=none->b≠x:=λb n z=>by subst z;rw[n]at D;show D
 let hb:∀b,H b=none->b≠e:=λb n z=>by
  subst z;rcases G with r|r;.show hx b n r
  .rw[n]at r;cases r
 let hm:∀b u,H b=some u->¬YX (some u)->b≠x:=λb u q nm z=>by subst z;rw[q]at D;show nm D
 refine⟨λb u q n _ _=>k b u (hb b n) q,λb u q n _ _=>⟨u.slots,k b u (hb b n) q⟩,λb u q n _=>by rw[aV (hx b n)];show n,λb u q _=>?_,
  λb xs q=>by rw[aV (hm b _ q λz=>z)];show q,λb u xs q=>by rw[aV (hm b _ q λz=>z)];show q,λb ps q=>⟨#[],by rw[aV (hm b _ q λz=>z),q];simp⟩⟩
 by_cases j:b=e;.subst j;show F
 .show⟨u,k b u j q⟩
end
def Ma (h:Heap)(H:Hp):List Addr:=(List.range h.objs.size).filter λa=>(H a).isSome
def zR (h:Heap)(H:Hp):Heap:=W.hideAll h (Ma h H)
def YZ (h)(H):(zR h H).objs.size=h.objs.size:=W.hideAll_size _ _
def abq {h:Heap}(e:h.get? b=some o)(n:H b=none):(zR h H).get? b=some o:=
 W.hideAll_get _ e λhm=>by let q:(H b).isSome=true:=(hJ.mp hm).2;rw[n]at q;simp at q
def adV (e:(zR h H).get? b=some o):h.get? b=some o/\H b=none:=by
 let j:h.get? b=some o:=W.of_hideAll (Ma h H) e;calc⟨j,?_⟩;cases q:H b with| none=>rfl| some x=>have hm:b∈Ma h H:=hJ.mpr ⟨gS.mpr (ax j),by simp[q]⟩;let z:(zR h H).get? b=none:=W.hideAll_none (Ma h H) hm;rw[z]at e;cases e
structure Mod (K:W.Frag)(mg:Str->Option Value)(base:Heap):Prop where
 Ij:K.In base
 glob:base.Ns mainGlobals mg
 blt:∃mb,base.Ns builtinsNs mb/\∀x:Str,x≠"__name__"->mb x=bootBuiltins x
 nolimit:base.NoLimit
structure Cx where
 prog:Program
 w:World
 K:W.Frag
 mg:Str->Option Value
 base:Heap
 A:Around
 N:List Str
 s₀:Shared
 H₀:Hp
 env:Env
 outer:List Env
 stack:List Env
 ex:List Addr
 fn:Str->Bool
 calm:Bool
 pn:List (Addr×Obj)
 xe:Value->Shared->Prop
def frs (l:List Env):List Addr:=l.filterMap (·.frame)
abbrev Cx.fs (X:Cx):List Addr:=frs X.outer
def U4 (sc:Scope)(x:Str):Prop:=sc.names.lookup x=some .local\/sc.names.lookup x=some .cell\/sc.names.lookup x=some .free
def Loc (sc:Scope)(x:Str):Prop:=sc.names.lookup x=some .local\/sc.names.lookup x=some .cell
def Look (env:Env)(h:Heap)(m:Str->Option Value)(x:Str)(u:Value):Prop:=(env.kindOf x=some .local/\m x=some u)\/((env.kindOf x=some .cell\/env.kindOf x=some .free)/\∃c,env.cells.lookup x=some c/\h.IsCell c (some u))
structure Cx.Ok (X:Cx):Prop where
 mod:Mod X.K X.mg X.base
 kind:X.env.scope.kind=.function
 glob:X.env.globals=mainGlobals
 blt:X.env.builtins=builtinsNs
 above:X.s₀.heap.objs.size<=X.env.locals
 inj:∀x y c,X.env.cells.lookup x=some c->X.env.cells.lookup y=some c->x=y
 has:∀x,(X.env.kindOf x=some .cell\/X.env.kindOf x=some .free)->∃c,X.env.cells.lookup x=some c
 cab:∀x c,X.fn x=true->X.env.cells.lookup x=some c->X.s₀.heap.objs.size<=c
 hd:X.calm=true->X.A.handled=none
 frames:X.A.frames=some X.stack
 stk:X.stack=X.outer\/(X.stack=X.env::X.outer/\X.env.frame=some X.env.locals)
 Y4:∀b∈X.ex,b≠X.env.locals/\∀x c,X.env.cells.lookup x=some c->c≠b
 bs:∀b o,X.base.get? b=some o->X.s₀.heap.get? b=some o/\X.H₀ b=none
 Bv:X.base.objs.size<=X.s₀.heap.objs.size
 Cg:∀b o,X.base.get? b=some o->b∉X.ex
 Gu:∀b∈X.ex,b∉X.fs
 pP:X.s₀.heap.FunFrames X.base X.outer
 Ci:∀b∈X.fs,X.H₀ b=none
structure aP (X:Cx)(ak:AH)(σ:List (Option V))(H:Hp)(s:Shared):Prop where
 ok:X.Ok
 os:s.os=X.s₀.os
 bare:AllBare s.gens
 base:Un X.fs X.ex X.H₀ H X.s₀.heap s.heap
 loc:∃m,s.heap.Ns X.env.locals m/\∀(i:Nat) (x:Str) (v:V),X.N[i]?=some x->σ[i]?=some (some v)->U4 X.env.scope x->∃u,cB v u/\Look X.env s.heap m x u
 cell:∀x c,X.env.cells.lookup x=some c->∃v,s.heap.IsCell c v
 free:H X.env.locals=none
 nu:∀x c,X.env.cells.lookup x=some c->H c=none
 pin:∀p∈X.pn++ak,s.heap.get? p.1=some p.2/\H p.1=none/\p.1≠X.env.locals/\p.1∉X.fs/\∀v,p.2.data≠.cell v
 hok:j8 X.prog X.w H s.heap
 len:σ.length=X.N.length
section
variable {X:Cx}{ak:AH}{σ:List (Option V)}{H H':Hp}{s:Shared}{h':Heap}
def Cx.Ok.ai3 (ok:X.Ok)(e:X.base.get? b=some o):b∉X.fs:=λhb=>by have:=(ok.pP.mem hb).1;rw[e]at this;cases this
def aP.bs (I:aP X ak σ H s):∀b o,X.base.get? b=some o->s.heap.get? b=some o/\H b=none:=λb o e=>⟨I.base.keep b o (I.ok.bs b o e).1 (I.ok.bs b o e).2 (I.ok.ai3 e) (I.ok.Cg b o e),I.base.free b o (I.ok.bs b o e).1 (I.ok.bs b o e).2 (I.ok.Cg b o e)⟩
def aP.bk (I:aP X ak σ H s):∀b o,X.base.get? b=some o->s.heap.get? b=some o:=λb o e=>(I.bs b o e).1
def aP.mod (I:aP X ak σ H s):Mod X.K X.mg X.base:=I.ok.mod
def aP.iZ (I:aP X ak σ H s):X.K.In s.heap:=I.ok.mod.Ij.keeps I.bk
def aP.lt (I:aP X ak σ H s):X.env.locals<s.heap.objs.size:=let ⟨_,hn,_⟩:=I.loc;hn.lt
def aP.sz (I:aP X ak σ H s):X.s₀.heap.objs.size<=s.heap.objs.size:=bP I.ok.above (ap I.lt)
def aP.ai4 (I:aP X ak σ H s){a:Addr}(h:s.heap.objs.size<=a):a∉X.fs:=λhb=>by let⟨_,o,j,_⟩:=I.ok.pP.mem hb;show absurd (cE (ax j) (bP I.sz h)) (fk _)
def aP.Mf (I:aP X ak σ H s):∀x c,X.env.cells.lookup x=some c->c≠X.env.locals:=λx c e z=>by let⟨v,o,F,hd⟩:=I.cell x c e;obtain⟨m,⟨o',es,ep,j,D,_⟩,_⟩:=I.loc;rw[z,j]at F;cases F;rw[D]at hd;cases hd
def aP.pP (I:aP X ak σ H s):s.heap.FunFrames X.base X.outer:=by
 let all:∀(l:List Env),(∀b∈frs l,b∈X.fs)->X.s₀.heap.FunFrames X.base l->s.heap.FunFrames X.base l:=by
  intro l
  induction l with| nil=>intro _ _;trivial| cons env r ih=>intro hs hl;obtain⟨F,⟨L,o,j,hn,J,hd⟩,G⟩:=hl;let D:L∈X.fs:=hs L (by unfold frs;rw[kN,j];show b9);let⟨sl,e⟩:=I.base.slot L o J (I.ok.Ci L D) D λz=>I.ok.Gu L z D;show⟨F,(JA L _ ⟨j,hn,e,hd⟩),ih (λb hb=>hs b (by unfold frs;rw[kN,j];show bE _ hb)) G⟩
 show all X.outer (λ_ hb=>hb) I.ok.pP
def aP.stack (I:aP X ak σ H s):s.heap.FunFrames X.base X.stack:=by
 rcases I.ok.stk with e|⟨e,j⟩;.rw[e];show I.pP
 .rw[e];let⟨m,hn,_⟩:=I.loc;calc .cons (by rw[I.ok.kind];decide) j hn ?_ I.pP;show Heap.get?_none_of_le (bP I.ok.Bv I.ok.above)
def aP.Ik (I:aP X ak σ H s):∀b∈frs X.stack,b∈X.env.locals::X.fs:=λb hb=>by
 rcases I.ok.stk with e|⟨e,j⟩;.rw[e]at hb;show bE _ hb
 .rw[e]at hb;unfold frs at hb;rw[kN,j]at hb;show hb
def aP.yZ (I:aP X ak σ H s):∀b∈frs X.stack,H b=none:=λb hb=>by
 rcases bq.mp (I.Ik b hb) with e|hb;.rw[e];show I.free
 .let⟨_,o,j,_⟩:=I.ok.pP.mem hb;show I.base.free b o j (I.ok.Ci b hb) λz=>I.ok.Gu b z hb
def aP.step {g':Array GenState}{t':Nat}{d':Drawn}{ch:List Addr}(I:aP X ak σ H s)(j:∀b∈ch,(b∈X.ex\/X.s₀.heap.objs.size<=b)/\b≠X.env.locals/\(∀x c,X.env.cells.lookup x=some c->c≠b)/\∀p∈X.pn++ak,p.1≠b)(keep:∀b o,b≠X.env.locals->b∉X.fs->b∉ch->s.heap.get? b=some o->H b=none->h'.get? b=some o)(slot:∀b o,b≠X.env.locals->b∈X.fs->b∉ch->s.heap.get? b=some o->H b=none->∃sl,h'.get? b=some {o with slots:=sl})(free:∀b o,b∉ch->s.heap.get? b=some o->H b=none->H' b=none)(there:∀b o,b∉ch->s.heap.get? b=some o->∃o',h'.get? b=some o')(tups:∀b xs,H b=some (.tup xs)->H' b=some (.tup xs))(qz:∀b o u,H b=some (.pU o u)->H' b=some (.pU o u))(qT:∀b ps,H b=some (.L_ ps)->∃more,H' b=some (.L_ (ps++more)))(ns:∀m,s.heap.Ns X.env.locals m->h'.Ns X.env.locals m)(hok:j8 X.prog X.w H' h')(hg:AllBare g'):aP X ak σ H' {s with heap:=h',gens:=g',drawn:=d',toks:=t' }:=by
 let G:∀b o,X.s₀.heap.get? b=some o->b≠X.env.locals:=λb o e=>b8 (cE (ax e) I.ok.above);let J:∀b o,X.s₀.heap.get? b=some o->b∉X.ex->b∉ch:=λb o e hx hb=>by
  rcases(j b hb).1 with z|z;.show hx z
  .show absurd (cE (ax e) z) (fk _)
 let D:∀x c,X.env.cells.lookup x=some c->∀v,s.heap.IsCell c v->h'.IsCell c v:=λx c e v ⟨o,F,hd⟩=>by
  let Y:c∉ch:=λz=>(j c z).2.2.1 x c e rfl;by_cases hc:c∈X.fs
  .let⟨sl,q⟩:=slot c o (I.Mf x c e) hc Y F (I.nu x c e);show⟨_,q,hd⟩
  .show⟨o,keep c o (I.Mf x c e) hc Y F (I.nu x c e),hd⟩
 calc⟨I.ok,I.os,hg,⟨λb o e n hb hx=>?_,λb o e n hb hx=>?_,λb o e n hx=>?_,λb o e hx=>?_,λb xs e=>tups b xs (I.base.tups b xs e),λb o xs e=>qz b o xs (I.base.qz b o xs e),λb ps e=>?_⟩,?_,λx c e=>?_,?_,λx c e=>?_,λp hp=>?_,hok,I.len⟩;.show keep b o (G b o e) hb (J b o e hx) (I.base.keep b o e n hb hx) (I.base.free b o e n hx)
 .let⟨sl,e1⟩:=I.base.slot b o e n hb hx;let⟨O,e2⟩:=slot b _ (G b o e) hb (J b o e hx) e1 (I.base.free b o e n hx);show⟨O,e2⟩
 .let⟨o',e1⟩:=I.base.there b o e hx;show free b o' (J b o e hx) e1 (I.base.free b o e n hx)
 .let⟨o',e1⟩:=I.base.there b o e hx;show there b o' (J b o e hx) e1
 .let⟨m1,e1⟩:=I.base.qT b ps e;let⟨m2,e2⟩:=qT b _ e1;show⟨m1++m2,by rw[e2,Array.append_assoc]⟩
 .let⟨m,hn,hl⟩:=I.loc;calc⟨m,ns m hn,λi x v e1 e2 e3=>?_⟩;let⟨u,r,l⟩:=hl i x v e1 e2 e3;calc⟨u,r,?_⟩;rcases l with l|⟨k,c,e,z⟩;.show .inl l
  .show .inr ⟨k,c,e,D x c e _ z⟩
 .let⟨v,z⟩:=I.cell x c e;show⟨v,D x c e v z⟩
 .obtain⟨m,⟨o,_,_,F,_⟩,_⟩:=I.loc;show free _ o (λz=>(j _ z).2.1 rK) F I.free
 .let⟨v,o,F,hd⟩:=I.cell x c e;show free c o (λz=>(j c z).2.2.1 x c e rK) F (I.nu x c e)
 .let⟨e,n,ne,Z,d⟩:=I.pin p hp;let Y:p.1∉ch:=λz=>(j p.1 z).2.2.2 p hp rfl;show⟨keep p.1 p.2 ne Z Y e n,free p.1 p.2 Y e n,ne,Z,d⟩
def aP.un (I:aP X ak σ H s)(u:Un X.fs [] H H' s.heap h')(hok:j8 X.prog X.w H' h'):aP X ak σ H' {s with heap:=h',toks:=t' }:=by
 obtain⟨m,⟨o,es,ep,G,r⟩,_⟩:=id I.loc;let⟨sl,J⟩:=u.any G I.free qa;show I.step (g':=s.gens) (d':=s.drawn) (ch:=[]) (λ_ z=>nomatch z) (λb o _ hb _ e n=>u.keep b o e n hb qa) (λb o _ hb _ e n=>u.slot b o e n hb qa) (λb o _ e n=>u.free b o e n qa) (λb o _ e=>u.there b o e qa) u.tups u.qz u.qT (λY hm=>by let⟨o',F,D,j,O⟩:=hm;rw[G]at j;cases j;show(JE _ F D ⟨J,O⟩)) hok I.bare
def aP.call (I:aP X ak σ H s)(u:Un (frs X.stack) ch H H' s.heap h')(hok:j8 X.prog X.w H' h')(Z:AllBare g')(D:∀b∈ch,(b∈X.ex\/X.s₀.heap.objs.size<=b)/\b≠X.env.locals/\(∀x c,X.env.cells.lookup x=some c->c≠b)/\∀p∈X.pn++ak,p.1≠b):aP X ak σ H' {s with heap:=h',gens:=g',drawn:=d',toks:=t' }:=by
 obtain⟨m,⟨o,es,ep,Y,r⟩,_⟩:=id I.loc;let⟨sl,J⟩:=u.any Y I.free λz=>(D _ z).2.1 rfl;show I.step (ch:=ch) D (λb o J hb j e n=>u.keep b o e n (λz=>(bq.mp (I.Ik b z)).elim J hb) j) (λb o _ _ j e n=>u.any e n j) (λb o j e n=>u.free b o e n j) (λb o j e=>u.there b o e j) u.tups u.qz u.qT (λm' hm=>by let⟨o',O,G,F,r'⟩:=hm;rw[Y]at F;cases F;show(JE _ O G ⟨J,r'⟩)) hok Z
def aP.turned (I:aP X ak σ H s)(k:∀b o,b≠it->s.heap.get? b=some o->h'.get? b=some o)(hn:H it=none)(D:it≠X.env.locals)(h1:it∈X.ex\/X.s₀.heap.objs.size<=it)(h2:∀x c,X.env.cells.lookup x=some c->c≠it)(h3:∀p∈X.pn++ak,p.1≠it):aP X ak σ H {s with heap:=h',toks:=t' }:=by
 let Y:∀b u,H b=some u->b≠it:=λb u e z=>by rw[z,hn]at e;cases e
 refine I.step (g':=s.gens) (d':=s.drawn) (ch:=[it]) (λb hb=>?_) (λb o _ _ j e _=>k b o (λz=>j (by simp[z])) e) (λb o _ _ j e _=>⟨o.slots,k b o (λz=>j (by simp[z])) e⟩) (λ_ _ _ _ n=>n)
  (λb o j e=>⟨o,k b o (λz=>j (by simp[z])) e⟩) (λ_ _ e=>e) (λ_ _ _ e=>e) (λb ps e=>⟨#[],by rw[e];simp⟩) (λm hm=>?_) (λb u e=>?_) I.bare
 .let e:b=it:=by simpa using hb
  subst e;show⟨h1,D,h2,h3⟩
 .let⟨o,es,ep,F,r⟩:=hm;show JE o es ep ⟨k _ o (gI D) F,r⟩
 .refine(I.hok b u e).stay (λc v j q=>k c v ?_ q) (λ_ q=>q) λ_ _ q=>q
  rcases j with z|z;.rw[z];show Y b u e
  .show Y c _ z
def aP.tok (I:aP X ak σ H s)(t):aP X ak σ H {s with toks:=t}:=I.un (h':=s.heap) (t':=t) Un.refl I.hok
def aP.kept (I:aP X ak σ H s)(k:∀b u,s.heap.get? b=some u->h'.get? b=some u):aP X ak σ H {s with heap:=h',toks:=t' }:=I.un (Un.kept k) (I.hok.kept k)
def aP.laid {a:Addr}{o:HO}{t':Nat}(I:aP X ak σ H s)(k:∀b u,s.heap.get? b=some u->h'.get? b=some u)(hp:s.heap.objs.size<=a)(new:fV X.prog X.w (upd H a o) h' a o):aP X ak σ (upd H a o) {s with heap:=h',toks:=t' }:=I.un (Un.laid k hp (I.hok.fresh hp)) (I.hok.laid k hp new)
def aP.write (I:aP X ak σ H s)(F:YX (H x))(D:e=x\/H e=some (.own x))(k:∀b u,b≠e->s.heap.get? b=some u->h'.get? b=some u)(j:∃u,h'.get? e=some u)(new:fV X.prog X.w (upd H x o) h' x o):aP X ak σ (upd H x o) {s with heap:=h',toks:=t' }:=I.un (Un.write F D k j) (I.hok.write F D k j new)
def aP.U5 (I:aP X ak σ H s)(h:∀p∈Il,s.heap.get? p.1=some p.2/\H p.1=none/\p.1≠X.env.locals/\p.1∉X.fs/\∀v,p.2.data≠.cell v):aP X Il σ H s:=⟨I.ok,I.os,I.bare,I.base,I.loc,I.cell,I.free,I.nu,λp hp=>(bu.mp hp).elim (λz=>I.pin p (mM _ z)) (h p),I.hok,I.len⟩
def Pz {N:List Str}(D:N.Nodup){i j:Nat}{x:Str}(a:N[i]?=some x)(b:N[j]?=some x):i=j:=by let⟨h1,e1⟩:=ah.mp a;let⟨h2,e2⟩:=ah.mp b;show(List.getElem_inj D).mp (e1.trans e2.symm)
def Mh (I:aP X ak σ H s)(hN:X.N.Nodup)(hi:X.N[i]?=some x)(hx:Loc X.env.scope x)(r:cB v u)(h:∀s',aP X ak (σ.set i (some v)) H s'->(∃a,Heap.SameBut a s.heap s'.heap/\(a=X.env.locals\/X.env.cells.lookup x=some a))->(∃m,s'.heap.Ns X.env.locals m/\Look X.env s'.heap m x u)->Q () s')(hf:X.fn x=true\/X.env.scope.names.lookup x=some .local:=by first|show .inl rfl|show .inr rfl|assumption):wpAny M A (storeName X.env x u) Q E s:=by
 let⟨m,hn,hl⟩:=id I.loc;let hcls:(X.env.scope.kind == .class||(X.env.scope.kind == .module&&X.env.locals != X.env.globals))=false:=by rw[I.ok.kind];rfl
 let hiσ:i<σ.length:=by rw[I.len];show(ah.mp hi).1
 let Mf:=I.Mf;let D:∀{a:Addr} {h':Heap},(∃o,s.heap.get? a=some o/\H a=none)->Heap.SameBut a s.heap h'->j8 X.prog X.w H h':=λ{a h'} ha hs b ob e=>by
  let⟨_,_,G⟩:=ha;calc(I.hok b ob e).stay (λc w' F q=>(hs.2 c ?_).trans q) (λ_ q=>q) λ_ _ q=>q;rintro rfl;rcases F with rfl|F
  .rw[G]at e;cases e
  .rw[G]at F;cases F
 rcases hx with hk|hk
 .calc wpAny_storeName_local hk hn (λh' Z hs=>?_) hcls;let⟨oL,_,_,hoL,_⟩:=id hn;calc h _ ⟨I.ok,I.os,I.bare,⟨λb o e n hb hx=>?_,λb o e n hb hx=>?_,I.base.free,λb o e hx=>?_,I.base.tups,I.base.qz,I.base.qT⟩,⟨_,Z,λj y v' e1 e2 e3=>?_⟩,λy c e=>?_,I.free,I.nu,λp hp=>?_,D ⟨oL,hoL,I.free⟩ hs,by simpa using I.len⟩ ⟨_,hs,.inl rK⟩ ⟨_,Z,.inl ⟨hk,qa⟩⟩;.show(hs.2 b (b8 (cE (ax e) I.ok.above))).trans (I.base.keep b o e n hb hx)
  .let⟨sl,e1⟩:=I.base.slot b o e n hb hx;show⟨sl,(hs.2 b (b8 (cE (ax e) I.ok.above))).trans e1⟩
  .let⟨o',e1⟩:=I.base.there b o e hx;show⟨o',(hs.2 b (b8 (cE (ax e) I.ok.above))).trans e1⟩
  .by_cases J:j=i
   .subst J;rw[hi]at e1;cases e1;rw[ka hiσ]at e2;cases e2;show⟨u,r,.inl ⟨hk,qa⟩⟩
   .rw[mP (gI J)]at e2;let⟨u',r',q⟩:=hl j y v' e1 e2 e3;calc⟨u',r',?_⟩;rcases q with⟨k,e⟩|⟨k,c,e,z⟩
    .calc .inl ⟨k,?_⟩;have:y≠x:=λe=>J (Pz hN e1 (e ▸ hi));simp[this,e]
    .show .inr ⟨k,c,e,z.sameBut hs (Mf y c e)⟩
  .let⟨w',z⟩:=I.cell y c e;show⟨w',z.sameBut hs (Mf y c e)⟩
  .let⟨e,n,ne,nf,d⟩:=I.pin p hp;show⟨(hs.2 p.1 ne).trans e,n,ne,nf,d⟩
 .let Y:X.fn x=true:=by
   rcases hf with z|z;.show z
   .rw[z]at hk;cases hk
  let⟨c,F⟩:=I.ok.has x (.inl hk);let⟨w',z⟩:=I.cell x c F;calc wpAny_storeName_cell I.ok.kind hk F z (λh' O hs=>?_);let⟨oc,hoc,ai5⟩:=id z;calc h {s with heap:=h' } ⟨I.ok,I.os,I.bare,⟨λb o e n hb hx=>?_,λb o e n hb hx=>?_,I.base.free,λb o e hx=>?_,I.base.tups,I.base.qz,I.base.qT⟩,⟨m,hn.sameBut hs (gI (Mf x c F)),λj y v' e1 e2 e3=>?_⟩,λy c' e=>?_,I.free,I.nu,λp hp=>?_,D ⟨oc,hoc,I.nu x c F⟩ hs,by simpa using I.len⟩ ⟨c,hs,.inr F⟩ ⟨m,hn.sameBut hs (gI (Mf x c F)),.inr ⟨.inl hk,c,F,O⟩⟩;.show(hs.2 b (b8 (cE (ax e) (I.ok.cab x c Y F)))).trans (I.base.keep b o e n hb hx)
  .let⟨sl,e1⟩:=I.base.slot b o e n hb hx;show⟨sl,(hs.2 b (b8 (cE (ax e) (I.ok.cab x c Y F)))).trans e1⟩
  .let⟨o',e1⟩:=I.base.there b o e hx;show⟨o',(hs.2 b (b8 (cE (ax e) (I.ok.cab x c Y F)))).trans e1⟩
  .by_cases J:j=i
   .subst J;rw[hi]at e1;cases e1;rw[ka hiσ]at e2;cases e2;show⟨u,r,.inr ⟨.inl hk,c,F,O⟩⟩
   .rw[mP (gI J)]at e2;let⟨u',r',q⟩:=hl j y v' e1 e2 e3;calc⟨u',r',?_⟩;rcases q with q|⟨k,c',e,z'⟩;.show .inl q
    .calc .inr ⟨k,c',e,z'.sameBut hs ?_⟩;rintro rfl;show J (Pz hN e1 (I.ok.inj _ _ _ e F ▸ hi))
  .by_cases hcc:c'=c;.subst hcc;show⟨_,O⟩
   .let⟨w2,z2⟩:=I.cell y c' e;show⟨w2,z2.sameBut hs hcc⟩
  .let⟨e,n,ne,nf,d⟩:=I.pin p hp;calc⟨(hs.2 p.1 ?_).trans e,n,ne,nf,d⟩;intro q;rw[q,hoc]at e;let q':oc=p.2:=be e;show d w' (by rw[<-q'];show ai5)
def PJ (I:aP X ak σ H s)(j:X.N.Nodup)(hi:X.N[i]?=some x)(hx:Loc X.env.scope x)(r:cB v u)(h:∀s',aP X ak (σ.set i (some v)) H s'->Q () s')(D:X.fn x=true\/X.env.scope.names.lookup x=some .local:=by first|show .inl rfl|show .inr rfl|assumption):wpAny M A (storeName X.env x u) Q E s:=Mh I j hi hx r (λs' F _ _=>h s' F) D
def aP.call' {s':Shared}(I:aP X ak σ H s)(D:s'.os=s.os)(u:Un (frs X.stack) ch H H' s.heap s'.heap)(hok:j8 X.prog X.w H' s'.heap)(F:AllBare s'.gens)(j:∀b∈ch,(b∈X.ex\/X.s₀.heap.objs.size<=b)/\b≠X.env.locals/\(∀x c,X.env.cells.lookup x=some c->c≠b)/\∀p∈X.pn++ak,p.1≠b):aP X ak σ H' s':=by let⟨h',g',d',t',o'⟩:=s';let e:o'=s.os:=D;subst e;show I.call (g':=g') (t':=t') (d':=d') u hok F j
end
abbrev XK:=Value->Option Addr->Hp->Prop
abbrev St:=List (Option V)
abbrev VK:=V->Hp->Prop
abbrev TE:=St->Hp->VK->Prop
abbrev TT:=St->Hp->(Bool->Hp->Prop)->Prop
abbrev TA:=St->Hp->(List V->Hp->Prop)->Prop
structure Ends where
 nx:St->Hp->Prop
 rt:VK
 bk:St->Hp->Prop:=λ_ _=>False
 ct:St->Hp->Prop:=λ_ _=>False
abbrev TS:=Ends->St->Hp->Prop
def EP (X:Cx)(ak:AH)(σ:St)(Q:VK)(u:Value)(s':Shared):Prop:=∃v H',aP X ak σ H' s'/\cB v u/\Q v H'
def TP (X:Cx)(ak:AH)(σ:St)(Q:Bool->Hp->Prop)(b:Bool)(s':Shared):Prop:=∃H',aP X ak σ H' s'/\Q b H'
def AP (X:Cx)(ak:AH)(σ:St)(Q:List V->Hp->Prop)(us:List Value)(s':Shared):Prop:=∃vs H',aP X ak σ H' s'/\Vals vs us/\Q vs H'
def SP (X:Cx)(ak:AH)(D:Ends)(f:Flow)(s':Shared):Prop:=match f with| .next=>∃σ' H',aP X ak σ' H' s'/\D.nx σ' H'| .brk=>∃σ' H',aP X ak σ' H' s'/\D.bk σ' H'| .cont=>∃σ' H',aP X ak σ' H' s'/\D.ct σ' H'| .ret u=>∃v σ' H',aP X ak σ' H' s'/\cB v u/\D.rt v H'
def PE (X:Cx)(e:Expr)(t:TE):Prop:=∀(ak:AH) (s:Shared) (σ:St) (H:Hp) (Q:VK),aP X ak σ H s->t σ H Q->wpAny (model X.prog X.w) X.A (eval e X.env) (EP X ak σ Q) X.xe s
def PT (X:Cx)(e:Expr)(t:TT):Prop:=∀(ak:AH) (s:Shared) (σ:St) (H:Hp) (Q:Bool->Hp->Prop),aP X ak σ H s->t σ H Q->wpAny (model X.prog X.w) X.A (isTrue e X.env (eval e X.env)) (TP X ak σ Q) X.xe s
def PW (X:Cx)(e:Expr)(t:TT):Prop:=∀(j:Sem Value) (ak:AH) (s:Shared) (σ:St) (H:Hp) (Q:Bool->Hp->Prop),aP X ak σ H s->t σ H Q->wpAny (model X.prog X.w) X.A (isTrue e X.env j) (TP X ak σ Q) X.xe s
def PW.pt (h:PW X e t):PT X e t:=h _
def PA (X:Cx)(es:List Expr)(t:TA):Prop:=∀(pos:Pos) (ak:AH) (s:Shared) (σ:St) (H:Hp) (Q:List V->Hp->Prop),aP X ak σ H s->t σ H Q->wpAny (model X.prog X.w) X.A (spliced (backTo pos (starEach es X.env))) (AP X ak σ Q) X.xe s
def PS (X:Cx)(st:Stmt)(t:TS):Prop:=∀(ak:AH) (s:Shared) (σ:St) (H:Hp) (D:Ends),aP X ak σ H s->t D σ H->wpAny (model X.prog X.w) X.A (exec st X.env) (SP X ak D) X.xe s
def vZ (X:Cx)(st:List Stmt)(t:TS):Prop:=∀(ak:AH) (s:Shared) (σ:St) (H:Hp) (D:Ends),aP X ak σ H s->t D σ H->wpAny (model X.prog X.w) X.A (execs st X.env) (SP X ak D) X.xe s
def b_ {α:Type}{t:Sem α}{Q j:α->Shared->Prop}(h:wpAny M A t Q E s)(D:∀a s,Q a s->j a s):wpAny M A t j E s:=eK h D λ_ _ x=>x
section
variable {X:Cx}
def WY (i:Nat):TE:=λσ H Q=>∃v,σ[i]?=some (some v)/\Q v H
def tC (v:V):TE:=λ_ H Q=>Q v H
def afN {i:Nat}{x:Str}{pos:Pos}(O:X.N[i]?=some x)(Y:U4 X.env.scope x)(hd:(x==("__debug__":Str))=false:=by decide)(G:(x==("__classdict__":Str))=false:=by decide):PE X (.Name x pos) (WY i):=by
 intro ak s σ H Q I h;let⟨v,e,h⟩:=h;let⟨m,hn,hl⟩:=I.loc;let⟨u,r,l⟩:=hl i x v O e Y;let F:EP X ak σ Q u s:=(JA v H ⟨I,r,h⟩)
 rcases l with⟨D,hm⟩|⟨D,c,J,j⟩;.show mS (wpAny_loadName_local I.ok.kind D hn hm F) hd
 .rcases D with D|D;.show mS (wpAny_loadName_cell I.ok.kind D J j F) hd
  .show mS (wpAny_loadName_free I.ok.kind D J j F G) hd
def afO {i j pos}:PE X (.Constant (.int i) j pos) (tC (.int i)):=λ_ _ _ H _ I h=>wpAny_Constant_int (JA (.int i) H ⟨I.tok _,⟨_,rK⟩,h⟩)
def aic {b j pos}:PE X (.Constant (.bool b) j pos) (tC (.bl b)):=λ_ _ _ H _ I h=>Constant_bool (JA (.bl b) H ⟨I,rK,h⟩)
def afP {x j pos}:PE X (.Constant (.str x) j pos) (tC (.str x)):=λ_ _ _ H _ I h=>Calls.Constant_str (JA (.str x) H ⟨I.tok _,⟨_,rK⟩,h⟩)
def Gl (X:Cx)(x:Str):Prop:=X.env.kindOf x=some .globalImplicit
def o8 {E:AE}{ak:AH}{s:Shared}{σ:St}{H:Hp}{x:Str}{u:Value}{pos:Pos}{Q:AE}(I:aP X ak σ H s)(j:Gl X x)(hm:X.mg x=some u)(h:Q u s)(hd:(x==("__debug__":Str))=false:=by decide):wpAny (model X.prog X.w) X.A (eval (.Name x pos) X.env) Q E s:=Calls.Name_function_global I.ok.kind j (Calls.loadGlobal_global (by rw[I.ok.glob];show I.mod.glob.keeps I.bk) hm h) hd
def qU {E:AE}{ak:AH}{s:Shared}{σ:St}{H:Hp}{x:Str}{u:Value}{pos:Pos}{Q:AE}(I:aP X ak σ H s)(j:Gl X x)(hm:X.mg x=none)(D:bootBuiltins x=some u)(h:Q u s)(hn:x≠"__name__":=by decide)(hd:(x==("__debug__":Str))=false:=by decide):wpAny (model X.prog X.w) X.A (eval (.Name x pos) X.env) Q E s:=by let⟨mb,h1,h2⟩:=I.mod.blt;show Calls.Name_function_global I.ok.kind j (Calls.loadGlobal_builtin (by rw[I.ok.glob];show I.mod.glob.keeps I.bk) hm (by rw[I.ok.blt];show h1.keeps I.bk) ((h2 x hn).trans D) h) hd
def adW (j:Gl X x)(hm:X.mg x=some u)(r:cB v u)(hd:(x==("__debug__":Str))=false:=by decide):PE X (.Name x pos) (tC v):=λ_ _ _ H _ I h=>o8 I j hm (JA v H ⟨I,r,h⟩) hd
def adX {x:Str}{v:V}{u:Value}{pos:Pos}(j:Gl X x)(hm:X.mg x=none)(D:bootBuiltins x=some u)(r:cB v u)(hn:x≠"__name__":=by decide)(hd:(x==("__debug__":Str))=false:=by decide):PE X (.Name x pos) (tC v):=λ_ _ _ H _ I h=>qU I j hm D (JA v H ⟨I,r,h⟩) hn hd
variable {a b:Expr}{ta tb:TE}{pos:Pos}
def PC (X:Cx)(op:CmpOp)(a b:Expr)(t:TE):Prop:=∀(ak:AH) (s:Shared) (σ:St) (H:Hp) (Q:VK),aP X ak σ H s->t σ H Q->
  wpAny (model X.prog X.w) X.A (eval a X.env) (λv j=>wpAny (model X.prog X.w) X.A (eval b X.env) (λu D=>wpAny (model X.prog X.w) X.A (compareOp op v u) (EP X ak σ Q) X.xe D) X.xe j) X.xe s
def tB (t:TE):TT:=λσ H Q=>t σ H λx H1=>∃c,x=.bl c/\Q c H1
def afQ (h:PC X op a b t)(h1:behindInMarks op b=false:=by first|show Gv _ qc qc|rfl):PE X (.Compare a [op] [b] pos) t:=λak s σ H Q I hw=>wpAny_Compare1 (h ak s σ H Q I hw) h1
def afR (h:PC X op a b t)(h1:behindInMarks op b=false:=by first|show Gv _ qc qc|rfl):PT X (.Compare a [op] [b] pos) (tB t):=by intro ak s σ H Q I hw;calc wpAny_isTrue_Compare1 (b_ (h ak s σ H _ I hw) λv s1 h1=>b_ h1 λu s2 h2=>b_ h2 λc F D=>?_) h1;let⟨x,H1,j,r1,q1⟩:=D;let⟨d,rfl,q⟩:=q1;cases r1;show eh ⟨H1,j,q⟩
def afS (h:PE X e t)(F:∀j,isTrue e X.env j=(do let v <- j;standAt e.pos;holding [v] (truthy v)):=by intro _;rfl):PT X e (tB t):=by intro ak s σ H Q I hw;calc isTrue_plain (b_ (h ak s σ H _ I hw) λv s1 G=>?_) (F _);let⟨x,H1,D,r1,q1⟩:=G;let⟨d,rfl,q⟩:=q1;cases r1;show eh ⟨H1,D,q⟩
variable {tA pW:TT}{rest:List Expr}
def afT (t u:TT):TT:=λσ H Q=>t σ H λc H1=>if c=true then u σ H1 Q else Q false H1
def tOr (t u:TT):TT:=λσ H Q=>t σ H λc H1=>if c=true then Q true H1 else u σ H1 Q
def afU (t:TT):TT:=λσ H Q=>t σ H λc H1=>Q (!c) H1
def adY (ha:PT X a tA):PW X (.BoolOp .And [a] pos) tA:=by
 intro j ak s σ H Q I h;calc isTrue_and (b_ (ha ak s σ H Q I h) λc s1 e=>?_);cases c with| true=>show isTrue_and_nil e| false=>show e
def afV (ha:PT X a tA):PW X (.BoolOp .Or [a] pos) tA:=by
 intro j ak s σ H Q I h;calc isTrue_or (b_ (ha ak s σ H Q I h) λc s1 e=>?_);cases c with| false=>show isTrue_or_nil e| true=>show e
def afW (ha:PT X a tA)(hb:PW X (.BoolOp .And (b::rest) pos) pW):PW X (.BoolOp .And (a::b::rest) pos) (afT tA pW):=by
 intro F ak s σ H Q I h;calc isTrue_and (b_ (ha ak s σ H _ I h) λc s1 D=>?_);let⟨H1,j,q1⟩:=D;cases c with| true=>show hb F ak s1 σ H1 Q j q1| false=>show⟨H1,j,q1⟩
def aie (ha:PT X a tA)(hb:PW X (.BoolOp .Or (b::rest) pos) pW):PW X (.BoolOp .Or (a::b::rest) pos) (tOr tA pW):=by
 intro F ak s σ H Q I h;calc isTrue_or (b_ (ha ak s σ H _ I h) λc s1 D=>?_);let⟨H1,j,q1⟩:=D;cases c with| true=>show⟨H1,j,q1⟩| false=>show hb F ak s1 σ H1 Q j q1
def afX (ha:PT X a tA):PT X (.UnaryOp .Not a pos) (afU tA):=by intro ak s σ H Q I h;show isTrue_not (ha ak s σ H (λc H1=>Q (!c) H1) I h)
def adn (ta tb:TE):TE:=λσ H Q=>ta σ H λx H1=>∃c,x=.bl c/\if c=true then tb σ H1 Q else Q (.bl false) H1
def afY (ta tb:TE):TE:=λσ H Q=>ta σ H λx H1=>∃c,x=.bl c/\if c=true then Q (.bl true) H1 else tb σ H1 Q
def ado (ta:TE):TE:=λσ H Q=>ta σ H λx H1=>∃c,x=.bl c/\Q (.bl (!c)) H1
def afZ {op}(h:PE X a t):PE X (.BoolOp op [a] pos) t:=λak s σ H Q I hw=>BoolOp_one (h ak s σ H Q I hw)
def af0 (ha:PE X a ta)(hb:PE X (.BoolOp .And (b::rest) pos) tb):PE X (.BoolOp .And (a::b::rest) pos) (adn ta tb):=by
 intro ak s σ H Q I h;calc BoolOp_and (b_ (ha ak s σ H _ I h) λv s1 D=>?_);let⟨x,H1,j,r1,q1⟩:=D;let⟨c,rfl,q1⟩:=q1;cases r1;calc eh ?_;cases c with| true=>show hb ak s1 σ H1 Q j q1| false=>show JA (.bl false) H1 ⟨j,rK,q1⟩
def aif (ha:PE X a ta)(hb:PE X (.BoolOp .Or (b::rest) pos) tb):PE X (.BoolOp .Or (a::b::rest) pos) (afY ta tb):=by
 intro ak s σ H Q I h;calc BoolOp_or (b_ (ha ak s σ H _ I h) λv s1 D=>?_);let⟨x,H1,j,r1,q1⟩:=D;let⟨c,rfl,q1⟩:=q1;cases r1;calc eh ?_;cases c with| false=>show hb ak s1 σ H1 Q j q1| true=>show JA (.bl true) H1 ⟨j,rK,q1⟩
def af2 (ha:PE X a ta):PE X (.UnaryOp .Not a pos) (ado ta):=by intro ak s σ H Q I h;calc UnaryOp_ (b_ (ha ak s σ H _ I h) λv s1 j=>?_);let⟨x,H1,D,r1,q1⟩:=j;let⟨c,rfl,q1⟩:=q1;cases r1;show not_of (eh (JA (.bl (!c)) H1 ⟨D,rK,q1⟩))
def tIf (t:TT)(ta tb:TE):TE:=λσ H Q=>t σ H λc H1=>if c=true then ta σ H1 Q else tb σ H1 Q
def abr (F:PT X c tA)(ha:PE X a ta)(hb:PE X b tb):PE X (.IfExp c a b pos) (tIf tA ta tb):=by
 intro ak s σ H Q I h;calc wpAny_IfExp (b_ (F ak s σ H _ I h) λd s1 D=>?_);let⟨H1,j,q1⟩:=D;cases d with| true=>show ha ak s1 σ H1 Q j q1| false=>show hb ak s1 σ H1 Q j q1
end
def bC (K:W.Frag)(H:Hp)(a:Addr)(xs:List V):Prop:=Rd H a (.lst xs)\/
  ∃(o:Obj) (its:Array Value) (n:Nat),K.lookup a=some o/\o.cls=.type "list"/\o.dict=none/\o.data=.seq its n/\its.size<=sizeLine/\Vals xs its.toList
def aN (K:W.Frag)(H:Hp)(a:Addr)(xs:List V):Prop:=Rd H a (.tup xs)\/
  ∃(o:Obj) (its:Array Value) (n:Nat),K.lookup a=some o/\o.cls=.type "tuple"/\o.data=.seq its n/\its.size<=sizeLine/\Vals xs its.toList
noncomputable def ai6:Value->Option V
 | .none=>some .non
 | .bool b=>some (.bl b)
 | .int i _=>some (.int i)
 | .str x _=>some (.str x)
 | .bytes b _=>some (.Bu b)
 | .float b _=>some (.flt b)
 | .ref a=>some (.ref a)
 | .type n=>some (.ty n)
 | _=>none
def cB.abs (r:cB x u):ai6 u=some x:=by
 cases x with
 | non=>cases r;rfl
 | bl _=>cases r;rfl
 | int _=>let⟨t,rfl⟩:=r;rfl
 | str _=>let⟨t,rfl⟩:=r;rfl
 | Bu _=>let⟨t,rfl⟩:=r;rfl
 | flt _=>let⟨t,rfl⟩:=r;rfl
 | ref _=>cases r;rfl
 | ty _=>cases r;rfl
def cB.inj (r:cB x u)(q:cB y u):x=y:=be (r.abs.symm.trans q.abs)
theorem Vals.inj:∀{xs ys:List V} {us:List Value},Vals xs us->Vals ys us->xs=ys
 | _,_,_,.nil,.nil=>rfl
 | _,_,_,.cons r t,.cons r' t'=>by rw[r.inj r',Vals.inj t t']
section
variable {X:Cx}{ak:AH}{σ:St}{H:Hp}{s:Shared}{a:Addr}{xs ys:List V}
def bC.of {K:W.Frag}(h:H a=some (.lst xs)):bC K H a xs:=.inl (.inl h)
def aN.of {K:W.Frag}(h:H a=some (.tup xs)):aN K H a xs:=.inl (.inl h)
def aP.list (I:aP X ak σ H s)(h:bC X.K H a xs):∃its:List Value,Vals xs its/\PlainL s.heap a its.toArray/\xs.length<=sizeLine:=by
 rcases h with h|⟨o,its,n,j,D,hd,hs,hz,r⟩
 .let⟨z,its,n,r,e⟩:=h.ok I.hok;show⟨its,r,(JA _ n ⟨e,rK,rK,rK⟩),z⟩
 .calc⟨its.toList,r,(JA o n ⟨I.iZ a o j,D,hd,by simpa using hs⟩),?_⟩;let e:=r.length;simp only[fz]at e;lia
def aP.tuple (I:aP X ak σ H s)(h:aN X.K H a xs):∃its:List Value,Vals xs its/\IsTup s.heap a its.toArray/\xs.length<=sizeLine:=by
 rcases h with h|⟨o,its,n,j,D,hs,hz,r⟩
 .let⟨z,its,r,p⟩:=h.ok I.hok;show⟨its,r,p,z⟩
 .calc⟨its.toList,r,⟨o,I.iZ a o j,D,n,by simpa using hs⟩,?_⟩;let e:=r.length;simp only[fz]at e;lia
def aP.Gw (I:aP X ak σ H s)(h:bC X.K H a xs)(h':bC X.K H a ys):xs=ys:=by
 obtain⟨its,r,⟨o,n,e,_,_,d⟩,_⟩:=I.list h;obtain⟨its',D,⟨o',F,j,_,_,d'⟩,_⟩:=I.list h';rw[e]at j;cases j;rw[d]at d';injection d' with d1 _;have:its=its':=by simpa using congrArg Array.toList d1
 subst this;show r.inj D
def aP.Cj (I:aP X ak σ H s)(h:aN X.K H a xs)(h':aN X.K H a ys):xs=ys:=by
 obtain⟨its,r,⟨o,e,_,n,d⟩,_⟩:=I.tuple h;obtain⟨its',D,⟨o',j,_,F,d'⟩,_⟩:=I.tuple h';rw[e]at j;cases j;rw[d]at d';injection d' with d1 _;have:its=its':=by simpa using congrArg Array.toList d1
 subst this;show r.inj D
end
abbrev Cx.wish (X:Cx)(E:AE):Cx:={X with xe:=E}
abbrev Cx.PK (X:Cx):Cx:=X.wish λ_ _=>False
def Cx.Ok.wish {X:Cx}(ok:X.Ok)(E:AE):(X.wish E).Ok:=⟨ok.mod,ok.kind,ok.glob,ok.blt,ok.above,ok.inj,ok.has,ok.cab,ok.hd,ok.frames,ok.stk,ok.Y4,ok.bs,ok.Bv,ok.Cg,ok.Gu,ok.pP,ok.Ci⟩
def Cx.Ok.uF {X:Cx}(ok:(X.wish E).Ok):X.Ok:=⟨ok.mod,ok.kind,ok.glob,ok.blt,ok.above,ok.inj,ok.has,ok.cab,ok.hd,ok.frames,ok.stk,ok.Y4,ok.bs,ok.Bv,ok.Cg,ok.Gu,ok.pP,ok.Ci⟩
section
variable {X:Cx}{ak:AH}{σ:St}{H:Hp}{s:Shared}{E:AE}
def aP.wish (I:aP X ak σ H s)(E:AE):aP (X.wish E) ak σ H s:=⟨I.ok.wish E,I.os,I.bare,I.base,I.loc,I.cell,I.free,I.nu,I.pin,I.hok,I.len⟩
def aP.uF (I:aP (X.wish E) ak σ H s):aP X ak σ H s:=⟨I.ok.uF,I.os,I.bare,I.base,I.loc,I.cell,I.free,I.nu,I.pin,I.hok,I.len⟩
def SP.uF (h:SP (X.wish E) ak D f s'):SP X ak D f s':=by
 cases f with
 | next=>let⟨σ',H',I,q⟩:=h;show JA σ' H' ⟨I.uF,q⟩
 | brk=>let⟨σ',H',I,q⟩:=h;show JA σ' H' ⟨I.uF,q⟩
 | cont=>let⟨σ',H',I,q⟩:=h;show JA σ' H' ⟨I.uF,q⟩
 | ret u=>let⟨v,σ',H',I,r,q⟩:=h;show JE v σ' H' ⟨I.uF,r,q⟩
def vZ.PK {st:List Stmt}(h:vZ X.PK st t):vZ X st t:=λak s σ H D I hw=>eK (h ak s σ H D (I.wish _) hw) (λ_ _ q=>q.uF) λ_ _ z=>False.elim z
end
section
variable {X:Cx}{st:Stmt}{rest:List Stmt}{t u:TS}{e:Expr}{te:TE}{pos:Pos}
def adp:TS:=λD σ H=>D.nx σ H
def af3 (t u:TS):TS:=λD σ H=>t {D with nx:=u D} σ H
def adZ:vZ X [] adp:=λ_ _ σ H _ I h=>wpAny_execs_nil (JA σ H ⟨I,h⟩)
def abt (h1:PS X st t)(h2:vZ X rest u):vZ X (st::rest) (af3 t u):=by
 intro ak s σ H D I h;calc wpAny_execs_cons (b_ (h1 ak s σ H {D with nx:=u D} I h) λf s1 q=>?_);cases f with
 | next=>let⟨σ',H',j,q⟩:=q;show h2 ak s1 σ' H' D j q
 | ret v=>show q
 | brk=>show q
 | cont=>show q
def ad0 (h1:PS X st t):vZ X [st] t:=by
 intro ak s σ H D I h;calc wpAny_execs_cons (b_ (h1 ak s σ H D I h) λf s1 q=>?_);cases f with| next=>show wpAny_execs_nil q| ret v=>show q| brk=>show q| cont=>show q
def aP.quiet {ak:AH}{σ:St}{H:Hp}{s:Shared}(I:aP X ak σ H s):interactive X.env=false:=by simp[interactive,I.ok.kind]
def adq (te:TE):TS:=λD σ H=>te σ H λ_ H1=>D.nx σ H1
def ad1 (F:PE X e te)(hs:swapsWith e none pos.line X.env=pure false:=by rfl):PS X (.Expr e pos) (adq te):=by intro ak s σ H D I h;show wpAny_Expr_any (b_ (F ak s σ H _ I h) λv s1 ⟨x,H1,j,r1,q1⟩=>(JA σ H1 ⟨j,q1⟩)) I.quiet hs
def af4 (te:TE):TS:=λD σ H=>te σ H D.rt
def af5 (F:PE X e te):PS X (.Return (some e) pos) (af4 te):=by intro ak s σ H D I h;show wpAny_Return_some (b_ (F ak s σ H _ I h) λv s1 ⟨x,H1,j,r1,q1⟩=>(JE x σ H1 ⟨j,r1,q1⟩))
def af6 (c:TT)(t u:TS):TS:=λD σ H=>c σ H λb H1=>if b=true then t D σ H1 else u D σ H1
def aii (G:PT X c tc)(ha:vZ X a t)(hb:vZ X b u):PS X (.If c a b pos) (af6 tc t u):=by
 intro ak s σ H D I h;calc wpAny_If (b_ (G ak s σ H _ I h) λd s1 F=>?_);let⟨H1,j,q1⟩:=F;cases d with| true=>show ha ak s1 σ H1 D j q1| false=>show hb ak s1 σ H1 D j q1
def Y7:TS:=λ_ _ _=>False
def Y8:vZ X sts Y7:=λ_ _ _ _ _ _ h=>h.elim
end
abbrev TG:=V->St->Hp->(St->Hp->Prop)->Prop
abbrev Mi:=List V->St->Hp->(St->Hp->Prop)->Prop
def PG (X:Cx)(j:Expr)(t:TG):Prop:=∀(ak:AH) (s:Shared) (σ:St) (H:Hp) (v:V) (u:Value) (Q:St->Hp->Prop),aP X ak σ H s->cB v u->t v σ H Q->
  wpAny (model X.prog X.w) X.A (assign j X.env u) (λ_ s'=>∃σ' H',aP X ak σ' H' s'/\Q σ' H') X.xe s
def Y9 (X:Cx)(ts:List Expr)(t:Mi):Prop:=∀(ak:AH) (s:Shared) (σ:St) (H:Hp) (vs:List V) (us:List Value) (Q:St->Hp->Prop),aP X ak σ H s->Vals vs us->t vs σ H Q->
  wpAny (model X.prog X.w) X.A (assignInOrder ((assignEach ts X.env).map (·.2)) us) (λ_ s'=>∃σ' H',aP X ak σ' H' s'/\Q σ' H') X.xe s
abbrev af7:=V->V->V->Hp->(Hp->Prop)->Prop
def abu (X:Cx)(t:af7):Prop:=∀(ak:AH) (s:Shared) (σ:St) (H:Hp) (o i v:V) (ov j u:Value) (Q:Hp->Prop),aP X ak σ H s->cB o ov->cB i j->cB v u->t o i v H Q->
  wpAny (model X.prog X.w) X.A (setItem ov j u) (λ_ s'=>∃H',aP X ak σ H' s'/\Q H') X.xe s
section
variable {X:Cx}{pos:Pos}
def qW (i:Nat):TG:=λv σ H Q=>Q (σ.set i (some v)) H
def sW (j:X.N.Nodup)(hi:X.N[i]?=some x)(hx:Loc X.env.scope x)(D:X.fn x=true\/X.env.scope.names.lookup x=some .local:=by first|show .inl rfl|show .inr rfl|assumption):PG X (.Name x pos) (qW i):=by intro ak s σ H v u Q I r h;show wpAny_assign_Name (PJ I j hi hx r (λs' F=>(JA _ H ⟨F,h⟩)) D)
def W0:Mi:=λvs σ H Q=>vs=[]/\Q σ H
def zT (t:TG)(u:Mi):Mi:=λvs σ H Q=>∃v r,vs=v::r/\t v σ H λσ' H'=>u r σ' H' Q
def Kd:Y9 X [] W0:=by intro ak s σ H vs us Q I r h;let⟨e,h⟩:=h;subst e;cases r;show assignInOrder_nil (JA σ H ⟨I,h⟩)
def sX (h1:PG X e t)(h2:Y9 X es u)(hs:(assignEach (e::es) X.env).map (·.2)=assign e X.env::(assignEach es X.env).map (·.2):=by rfl):Y9 X (e::es) (zT t u):=by
 intro ak s σ H vs us Q I r h;let⟨v,F,e1,h⟩:=h;subst e1;cases r with| cons r rr=>rw[hs];calc assignInOrder_cons (b_ (h1 ak s σ H _ _ _ I r h) λ_ s1 D=>?_);let⟨σ1,H1,j,q1⟩:=D;show h2 ak s1 σ1 H1 _ _ Q j rr q1
def W2 (K:W.Frag)(n:Nat)(t:Mi):TG:=λv σ H Q=>∃a xs,v=.ref a/\aN K H a xs/\xs.length=n/\t xs σ H Q
def PL {es:List Expr}{k:Nat}{t:Mi}{n:Nat}(J:X.calm=true)(h:Y9 X es t)(hn:(assignEach es X.env).length=n:=by rfl)(j:(assignEach es X.env).findIdx? (·.1)=none:=by rfl):PG X (.Tuple es k pos) (W2 X.K n t):=by intro ak s σ H v u Q I r hw;let⟨a,xs,e1,G,hl,hw⟩:=hw;subst e1;cases r;let⟨its,D,ht,hz⟩:=I.tuple G;calc assign_Tuple_tuple (I.ok.hd J) ht (by simp[hn,<-hl,D.length]) j λh' hx=>?_;let F:aP X ak σ H {s with heap:=h' }:=I.kept (t':=s.toks) λb o e=>hx b o (b8 (ax e)) e;show h ak _ σ H xs _ Q F (by simpa using D) hw
def af8 (to ti:TE)(t:af7):TG:=λv σ H Q=>to σ H λo H1=>ti σ H1 λi D=>t o i v D λj=>Q σ j
def af9 (G:PE X o to)(hi:PE X i ti)(hs:abu X t)(ha:∀v,assign (.Subscript o i pos) X.env v=(do
   let ov <- holding [v] (eval o X.env)
   let D <- holding [v,ov] (eval i X.env)
   standAt pos
   holding [v,ov,D] (setItem ov D v)
   release [v,ov,D] []):=by intro _;rfl):PG X (.Subscript o i pos) (af8 to ti t):=by
 intro ak s σ H v u Q I r h;rw[ha];calc ac (ik (b_ (G ak s σ H _ I h) λov s1 j=>?_));let⟨x,H1,F,r1,q1⟩:=j;calc ac (ik (b_ (hi ak s1 σ H1 _ F q1) λD s2 j=>?_));let⟨y,Y,O,Z,q2⟩:=j;calc ac (ml (ac (ik (b_ (hs ak s2 σ Y x y v ov D u _ O r1 Z r q2) λ_ s3 j=>?_))));let⟨H3,J,q3⟩:=j;show wpAny_release (JA σ H3 ⟨J,q3⟩)
def Ke (te:TE)(g:TG):TS:=λD σ H=>te σ H λx H1=>g x σ H1 D.nx
def af_ (F:PE X e te)(J:PG X tg g)(hs:swapsWithSole [tg] e pos.line X.env=pure false:=by rfl)(hw:swappedStores [tg] e X.env=pure none:=by rfl)(h1:(assignEach [tg] X.env).map (·.2)=[assign tg X.env]:=by rfl):PS X (.Assign [tg] e pos) (Ke te g):=by intro ak s σ H D I h;calc wpAny_Assign_stores (b_ (F ak s σ H _ I h) λv s1 G=>?_) hs hw;let⟨x,H1,j,r1,q1⟩:=G;rw[h1];show b_ (J ak s1 σ H1 x v _ j r1 q1) λ_ s2 q=>q
def aga (j:X.N.Nodup)(hi:X.N[i]?=some x)(hx:Loc X.env.scope x)(G:PE X e te)(hs:swapsWith e (some (.Name x pos')) pos.line X.env=pure false:=by rfl)(J:X.fn x=true\/X.env.scope.names.lookup x=some .local:=by first|show .inl rfl|show .inr rfl|assumption):PS X (.Assign [.Name x pos'] e pos) (Ke te (qW i)):=by intro ak s σ H D I h;calc wpAny_Assign_Name (b_ (G ak s σ H _ I h) λv s1 Y=>?_) hs;let⟨y,H1,F,r1,q1⟩:=Y;show PJ F j hi hx r1 (λs2 O=>(JA _ H1 ⟨O,q1⟩)) J
end
structure It where
 go:Nat->Hp->Prop
 Im:Nat->Hp->V->Hp->Prop
 stop:Nat->Hp->Prop
def uV (X:Cx)(ak:AH)(H:Hp)(b:Addr):Prop:=H b=none/\b≠X.env.locals/\b∉X.fs/\(b∈X.ex\/X.s₀.heap.objs.size<=b)/\(∀x c,X.env.cells.lookup x=some c->c≠b)/\∀p∈X.pn++ak,p.1≠b
def aP.yD {X:Cx}{ak:AH}{σ:St}{H H':Hp}{s:Shared}{b:Addr}(I:aP X ak σ H s)(hb:s.heap.objs.size<=b)(hn:H' b=none):uV X ak H' b:=by
 refine⟨hn,gt (cE I.lt hb),I.ai4 hb,.inr (bP I.sz hb),λx c e z=>?_,λp hp z=>?_⟩
 .let⟨v,q⟩:=I.cell x c e;show absurd (cE q.lt (by rw[z];show hb)) (fk _)
 .show absurd (cE (ax (I.pin p hp).1) (by rw[z];show hb)) (fk _)
structure Turn (P:Program)(w:World)(K:W.Frag)(tg:Expr)(J:It)(fp:List Addr)(it:Addr)(tn:Nat->Heap->Prop):Prop where
 mem:it∈fp
 obj:∀i h,tn i h->∀b∈fp,∃o,h.get? b=some o/\∀v,o.data≠.cell v
 keep:∀i h h',tn i h->(∀b∈fp,∀o,h.get? b=some o->h'.get? b=some o)->tn i h'
 item:∀(X:Cx),X.prog=P->X.w=w->X.K=K->X.calm=true->∀(i:Nat) (ak:AH) (s:Shared) (σ:St) (H:Hp) (E:AE),aP X ak σ H s->(∀b∈fp,uV X ak H b)->tn i s.heap->J.go i H->
  wpAny (model P w) X.A (pyNext (.ref it)) (λr s1=>∃u,r=some u/\
   wpAny (model P w) X.A (letOwnedTupleGo tg (.ref it) u) (λ_ s2=>∃x H',aP X ak σ H' s2/\cB x u/\J.Im i H x H'/\tn (i+1) s2.heap/\∀b∈fp,H' b=none) E s1) E s
 done:∀(X:Cx),X.prog=P->X.w=w->X.K=K->X.calm=true->∀(i:Nat) (ak:AH) (s:Shared) (σ:St) (H:Hp) (E:AE),aP X ak σ H s->(∀b∈fp,uV X ak H b)->tn i s.heap->J.stop i H->
  wpAny (model P w) X.A (pyNext (.ref it)) (λr s1=>r=none/\aP X ak σ H s1) E s
 self:∀(A:Around) (i:Nat) (s:Shared) (Q:AE) (E:AE),tn i s.heap->Q (.ref it) s->wpAny (model P w) A (pyIter (.ref it)) Q E s
abbrev TI:=St->Hp->(It->Hp->Prop)->Prop
def PIE (X:Cx)(ak:AH)(σ:St)(tg:Expr)(R:It->Hp->Prop)(j:Value)(s2:Shared):Prop:=∃(it:Addr) (fp:List Addr) (tn:Nat->Heap->Prop) (J:It) (H':Hp),j=.ref it/\aP X ak σ H' s2/\Turn X.prog X.w X.K tg J fp it tn/\tn 0 s2.heap/\(∀b∈fp,uV X ak H' b)/\R J H'
def PI (X:Cx)(tg iter:Expr)(wi:TI):Prop:=∀(ak:AH) (s:Shared) (σ:St) (H:Hp) (R:It->Hp->Prop),aP X ak σ H s->wi σ H R->
  wpAny (model X.prog X.w) X.A (eval iter X.env) (λv s1=>wpAny (model X.prog X.w) X.A (pyIter v) (PIE X ak σ tg R) X.xe s1) X.xe s
def Io {s : Shared}(D : s.heap.get? it = some o)(F : o.cls = .type n)(hd : o.data = .fields vs)(hn : ["enumerate", "zip", "dict_itemiterator", "dict_reverseitemiterator", "odict_iterator", "itertools.zip_longest", "itertools.pairwise"].contains n = false)(j : Q () s) : wpAny M A (letOwnedTupleGo tg (.ref it) u) Q E s := by
  unfold letOwnedTupleGo;cases tg <;> first
    | show am j
    | (cases u <;> first
        | show am j
        | (refine ac (wpAny_load D ?_)
           rw[F, hd];show wpAny M A (if (["enumerate", "zip", "dict_itemiterator", "dict_reverseitemiterator", "odict_iterator", "itertools.zip_longest", "itertools.pairwise"].contains n&&vs[0]? == some (rawInt _)) = true then _ else _) Q E s;rw[if_neg (by intro h; rw[hn, nL]at h; cases h)];show am j))
abbrev ItS (Sq:Hp->List V->Prop):It:=⟨λi H=>∃xs x,Sq H xs/\xs[i]?=some x,λi H x H'=>H'=H/\∀xs,Sq H xs->xs[i]?=some x,λi H=>∃xs,Sq H xs/\xs.length<=i⟩
def Itl (K:W.Frag)(a:Addr):It:=ItS λH=>bC K H a
def Itt (K:W.Frag)(a:Addr):It:=ItS λH=>aN K H a
def Y_ (lo:Int)(n:Nat):It:=⟨λi _=>i<n,λi H x H'=>H'=H/\x=.int (lo+i),λi _=>n<=i⟩
def Za {P:Program}{w:World}{K:W.Frag}{tg:Expr}(a it:Addr):Turn P w K tg (Itl K a) [it] it (λi h=>h.IsListIter it a i) where
 mem:=by simp
 obj:=λi h st b hb=>by
  let e:b=it:=by simpa using hb
  subst e;let⟨o,e,c,d⟩:=st;show⟨o,e,λv z=>by rw[d]at z;cases z⟩
 keep:=λi h h' st k=>st.at λo e=>k it qa o e
 item:=by intro X J hw G Z i ak s σ H E I D st Y;subst J hw G;let⟨xs,x,F,hx⟩:=Y;let⟨its,O,p,hz⟩:=I.list F;let⟨u,hu,ru⟩:=O.get hx;let⟨f0,f1,f2,f3,f4,f5⟩:=D it qa;calc wpAny_pyNext_list_item st p.isList (x:=u) (by simpa using hu) λh' j sb=>?_;let I1:aP X ak σ H {s with heap:=h' }:=I.turned (t':=s.toks) (λb o hb e=>(sb.2 b hb).trans e) f0 f1 f3 f4 f5;let⟨o,e,c,d⟩:=id j;show⟨u,rK,Io (s:={s with heap:=h' }) e c d qc (JA x H ⟨I1,ru,⟨rK,λys hy=>by rw[I.Gw hy F];show hx⟩,j,λb hb=>(D b hb).1⟩)⟩
 done:=by intro X J hw G Z i ak s σ H E I D st Y;subst J hw G;let⟨xs,F,hx⟩:=Y;let⟨its,O,p,hz⟩:=I.list F;let⟨f0,f1,f2,f3,f4,f5⟩:=D it qa;let hl:=O.length;show wpAny_pyNext_list_end (I.ok.hd Z) st p.isList (by simp;simp_all) λh' eb=>⟨rK,I.turned (t':=s.toks) (λb o hb e=>eb b o hb e) f0 f1 f3 f4 f5⟩
 self:=λ_ _ _ _ _ st h=>wpAny_pyIter_listiter st h
def W3 {P:Program}{w:World}{K:W.Frag}{tg:Expr}(a it:Addr):Turn P w K tg (Itt K a) [it] it (λi h=>h.IsTupleIter it a i) where
 mem:=by simp
 obj:=λi h st b hb=>by
  let e:b=it:=by simpa using hb
  subst e;let⟨o,e,c,d⟩:=st;show⟨o,e,λv z=>by rw[d]at z;cases z⟩
 keep:=λi h h' st k=>st.at λo e=>k it qa o e
 item:=by intro X J hw G Z i ak s σ H E I D st Y;subst J hw G;let⟨xs,x,F,hx⟩:=Y;let⟨its,O,p,hz⟩:=I.tuple F;let⟨u,hu,ru⟩:=O.get hx;let⟨f0,f1,f2,f3,f4,f5⟩:=D it qa;calc wpAny_pyNext_tuple_item st (show s.heap.IsTuple a its.toArray from p) (x:=u) (by simpa using hu) λh' j sb=>?_;let I1:aP X ak σ H {s with heap:=h' }:=I.turned (t':=s.toks) (λb o hb e=>(sb.2 b hb).trans e) f0 f1 f3 f4 f5;let⟨o,e,c,d⟩:=id j;show⟨u,rK,Io (s:={s with heap:=h' }) e c d qc (JA x H ⟨I1,ru,⟨rK,λys hy=>by rw[I.Cj hy F];show hx⟩,j,λb hb=>(D b hb).1⟩)⟩
 done:=by intro X J hw G Z i ak s σ H E I D st Y;subst J hw G;let⟨xs,F,hx⟩:=Y;let⟨its,O,p,hz⟩:=I.tuple F;let⟨f0,f1,f2,f3,f4,f5⟩:=D it qa;let hl:=O.length;show wpAny_pyNext_tuple_end (I.ok.hd Z) st (show s.heap.IsTuple a its.toArray from p) (by simp;lia) λh' eb=>⟨rK,I.turned (t':=s.toks) (λb o hb e=>eb b o hb e) f0 f1 f3 f4 f5⟩
 self:=λ_ _ _ _ _ st h=>wpAny_pyIter_tupleiter st h
def W4 {P:Program}{w:World}{K:W.Frag}{tg:Expr}(it:Addr)(lo:Int)(n:Nat):Turn P w K tg (Y_ lo n) [it] it (λi h=>IsRangeIter h it (lo+(i:Nat)*1) ((n:Int)-(i:Nat)) 1) where
 mem:=by simp
 obj:=λi h st b hb=>by
  let e:b=it:=by simpa using hb
  subst e;show⟨_,st,λv z=>by let z':Data.fields _=Data.cell v:=z;cases z'⟩
 keep:=λi h h' st k=>k it qa _ st
 item:=by intro X G hw F O i ak s σ H E I D st J;subst G hw F;let⟨f0,f1,f2,f3,f4,f5⟩:=D it qa;let W:=Walks.range (prog:=X.prog) (w:=X.w) (I.ok.hd O) it lo 1 n;calc W.item i s _ _ J st λv h' tk hv j Z=>?_;let⟨t,rfl⟩:=hv;let Y:aP X ak σ H {s with heap:=h',toks:=tk}:=I.turned (λb o hb e=>Z b o (by simpa using hb) e) f0 f1 f3 f4 f5;calc⟨_,rK,Io (s:={s with heap:=h',toks:=tk}) (n:="range_iterator") j rK rK qc (JA (.int (lo+i)) H ⟨Y,⟨t,?_⟩,⟨rK,rK⟩,j,λb hb=>(D b hb).1⟩)⟩;rw[Int.mul_one]
 done:=by intro X G hw F O i ak s σ H E I D st J;subst G hw F;let⟨f0,f1,f2,f3,f4,f5⟩:=D it qa;show wpAny_pyNext_range_end (I.ok.hd O) st (by have:n<=i:=J;lia) λh' eb=>⟨rK,I.turned (t':=s.toks) (λb o hb e=>eb b o hb e) f0 f1 f3 f4 f5⟩
 self:=λ_ _ _ _ _ st h=>wpAny_pyIter_rangeiter st h
section
variable {X:Cx}{tg:Expr}
def adt (K:W.Frag)(tl:TE):TI:=λσ H R=>tl σ H λx H1=>∃a,x=.ref a/\(∃xs,bC K H1 a xs)/\R (Itl K a) H1
def agb (K:W.Frag)(tl:TE):TI:=λσ H R=>tl σ H λx H1=>∃a,x=.ref a/\(∃xs,aN K H1 a xs)/\R (Itt K a) H1
def ad2 (hl:PE X l tl):PI X tg l (adt X.K tl):=by
 intro ak s σ H R I h;calc b_ (hl ak s σ H _ I h) λv s1 D=>?_;let⟨x,H1,j,r1,q1⟩:=D;obtain⟨a,e,⟨xs,F⟩,q⟩:=q1;subst e;cases r1;let⟨its,G,p,hz⟩:=j.list F;calc io p.isList ?_;calc JJ s1.heap.objs.size [s1.heap.objs.size] _ _ H1 ⟨rK,j.kept (t':=s1.toks) λb o e=>ae _ e,Za a _,⟨_,aI _ rK,rK,rK⟩,λb hb=>?_,q⟩;let e:b=s1.heap.objs.size:=by simpa using hb
 subst e;show j.yD (al _) (j.hok.fresh (al _))
def agc (hl:PE X l tl):PI X tg l (agb X.K tl):=by
 intro ak s σ H R I h;calc b_ (hl ak s σ H _ I h) λv s1 D=>?_;let⟨x,H1,j,r1,q1⟩:=D;obtain⟨a,e,⟨xs,F⟩,q⟩:=q1;subst e;cases r1;let⟨its,G,p,hz⟩:=j.tuple F;calc kS (show s1.heap.IsTuple a its.toArray from p) ?_;calc JJ s1.heap.objs.size [s1.heap.objs.size] _ _ H1 ⟨rK,j.kept (t':=s1.toks) λb o e=>ae _ e,W3 a _,⟨_,aI _ rK,rK,rK⟩,λb hb=>?_,q⟩;let e:b=s1.heap.objs.size:=by simpa using hb
 subst e;show j.yD (al _) (j.hok.fresh (al _))
def PN {ak:AH}{σ:St}{H:Hp}{s:Shared}{R:It->Hp->Prop}{E:AE}{lo hi:Int}{t u v:Tok}{tk:Nat}(I:aP X ak σ H s)(h1:-(2^62)<=lo)(h2:lo<2^62)(h3:-(2^62)<=hi)(h4:hi<2^62)(q:R (Y_ lo (hi-lo).toNat) H):wpAny (model X.prog X.w) X.A (pyIter (.ref s.heap.objs.size)) (PIE X ak σ tg R) E {s with heap:=s.heap.push {cls:=.type "range",data:=.fields #[.int lo t,.int hi u,.int 1 v]},toks:=tk}:=by
 calc wpAny_pyIter_range (IsRange.new ..) (small_one h1 h2 h3 h4) ?_;let j:aP X ak σ H {s with heap:=s.heap.push {cls:=.type "range",data:=.fields #[.int lo t,.int hi u,.int 1 v]},toks:=tk}:=I.kept λb o e=>ae _ e;refine JJ ((s.heap.push {cls:=.type "range",data:=.fields #[.int lo t,.int hi u,.int 1 v]}).objs.size) [(s.heap.push {cls:=.type "range",data:=.fields #[.int lo t,.int hi u,.int 1 v]}).objs.size] _ _ H ⟨rK,
  j.kept (t':=tk) λb o e=>ae _ e,W4 _ lo (hi-lo).toNat,?_,λb hb=>?_,q⟩
 .let e1:lo+((0:Nat):Int)*1=lo:=qa;let e2:(((hi-lo).toNat:Nat):Int)-((0:Nat):Int)=Builtin.Range.rangeSize lo hi 1:=by rw[rangeSize_one];split <;> grind
  show IsRangeIter _ _ (lo+((0:Nat):Int)*1) ((((hi-lo).toNat:Nat):Int)-((0:Nat):Int)) 1;rw[e1,e2];show aI _ rfl
 .let e:b=(s.heap.push {cls:=.type "range",data:=.fields #[.int lo t,.int hi u,.int 1 v]}).objs.size:=by simpa using hb
  subst e;show j.yD (al _) (j.hok.fresh (al _))
def adu (ta:TA):TI:=λσ H R=>ta σ H λvs H1=>∃j:Int,vs=[.int j]/\-(2^62)<=j/\j<2^62/\R (Y_ 0 j.toNat) H1
def adv (ta:TA):TI:=λσ H R=>ta σ H λvs H1=>∃i j:Int,vs=[.int i,.int j]/\(-(2^62)<=i/\i<2^62/\-(2^62)<=j/\j<2^62)/\R (Y_ i (j-i).toNat) H1
def Zb (G:Gl X "range")(hm:X.mg "range"=none)(ha:PA X [a] ta)(hs:starEach [a] X.env=[(false,eval a X.env)]:=by rfl):PI X tg (.Call (.Name "range" p) [a] [] pos) (adu ta):=by
 intro ak s σ H R I h;calc Call_ (qU I G hm boot_range (ee (b_ (ha pos ak s σ H _ I h) λus s1 F=>?_) hs rK));let⟨vs,H1,D,r1,q1⟩:=F;let⟨j,e,q1,q2,q⟩:=q1;subst e;cases r1 with| cons r rr=>cases rr;let⟨t,rfl⟩:=r;show call_range_1 (PN D p_ p_ q1 q2 (by simpa using q))
def Zd {a b:Expr}{ta:TA}{p pos:Pos}(J:Gl X "range")(hm:X.mg "range"=none)(ha:PA X [a,b] ta)(hs:starEach [a,b] X.env=[(false,eval a X.env),(false,eval b X.env)]:=by rfl)(D:starEach [b] X.env=[(false,eval b X.env)]:=by rfl):PI X tg (.Call (.Name "range" p) [a,b] [] pos) (adv ta):=by
 intro ak s σ H R I h;calc Call_ (qU I J hm boot_range (ee (b_ (ha pos ak s σ H _ I h) λus s1 G=>?_) (by rw[hs,D]) (by rw[D];rfl)));let⟨vs,H1,F,r1,q1⟩:=G;obtain⟨i,j,e,⟨q1,q2,q3,q4⟩,q⟩:=q1;subst e;cases r1 with
 | cons r rr=>
  cases rr with| cons r' rr=>cases rr;let⟨t,rfl⟩:=r;let⟨t',rfl⟩:=r';show call_range_2 (PN F q1 q2 q3 q4 q)
abbrev Kf (J:It)(g:TG)(tb:TS)(D:Ends)(σ:St)(H:Hp):Prop:=∃W:Nat->Nat->St->Hp->Prop,(∃m,W 0 m σ H)/\∀i m σ H,W i m σ H->
 (J.stop i H/\D.nx σ H)\/(J.go i H/\∃N:St->Hp->Prop,(∀σ' H',N σ' H'->∃m',m'<m/\W (i+1) m' σ' H')/\∀x H',J.Im i H x H'->g x σ H' λσ2 H2=>tb {D with nx:=N,ct:=N,bk:=D.nx} σ2 H2)
def agd (wi:TI)(g:TG)(tb:TS):TS:=λD σ H=>wi σ H λJ H1=>Kf J g tb D σ H1
def W5 {J:It}{g:TG}{tb:TS}{D:Ends}{σ:St}{H:Hp}(n:Nat)(F:Nat->St->Hp->Prop)(h0:F 0 σ H)(G:∀i σ H,i<n->F i σ H->J.go i H/\∀x H',J.Im i H x H'->g x σ H' λσ2 Y=>tb {D with nx:=F (i+1),ct:=F (i+1),bk:=D.nx} σ2 Y)(I:∀σ H,F n σ H->J.stop n H/\D.nx σ H):Kf J g tb D σ H:=by
 calc⟨λi m σ H=>m=n-i/\i<=n/\F i σ H,⟨n,qa,ej _,h0⟩,?_⟩;intro i m σ H z;let⟨rfl,hi,p⟩:=z;by_cases j:i<n;.show .inr ⟨(G i σ H j p).1,F (i+1),λσ' H' O=>⟨n-(i+1),Nat.sub_lt_sub_left j (gT _),rK,j,O⟩,(G i σ H j p).2⟩
 .let e:i=n:=p_;subst e;show .inl (I σ H p)
def adw {F:Hp->List V->Prop}{xs:List V}{g:TG}{tb:TS}{D:Ends}{σ:St}{H:Hp}(j:Nat->St->Hp->Prop)(h0:j 0 σ H)(hl:∀i σ H,i<=xs.length->j i σ H->F H xs)(hs:∀i x σ H,xs[i]?=some x->j i σ H->g x σ H λσ2 G=>tb {D with nx:=j (i+1),ct:=j (i+1),bk:=D.nx} σ2 G)(hd:∀σ H,j xs.length σ H->D.nx σ H):Kf (ItS F) g tb D σ H:=W5 xs.length j h0 (λi σ H h p=>⟨(JA xs (xs[i]) ⟨hl i σ H (ap h) p,by simp[h]⟩),λx H' ⟨e,y⟩=>by subst e;show hs i x σ _ (y xs (hl i σ _ (ap h) p)) p⟩) λσ H p=>⟨⟨xs,hl _ σ H (al _) p,al _⟩,hd σ H p⟩
def Ck (fp:List Addr)(h:Heap):List (Addr×Obj):=fp.filterMap λb=>(h.get? b).map λo=>(b,o)
def vm {h:Heap}(hb:b∈fp)(e:h.get? b=some o):(b,o)∈Ck fp h:=nS.mpr ⟨b,hb,by rw[e];rfl⟩
def Ze (hp:p∈Ck fp h):p.1∈fp/\h.get? p.1=some p.2:=by
 let⟨b,hb,e⟩:=nS.mp hp;cases q:h.get? b with
 | none=>rw[q]at e;cases e
 | some o=>rw[q]at e;let j:(b,o)=p:=be e;subst j;show⟨hb,q⟩
def aP.pinned {ak:AH}{σ:St}{H:Hp}{s:Shared}{fp:List Addr}(I:aP X ak σ H s)(F:∀b∈fp,uV X ak H b)(D:∀b∈fp,∃o,s.heap.get? b=some o/\∀v,o.data≠.cell v):aP X (ak++Ck fp s.heap) σ H s:=
 I.U5 λp hp=>(bu.mp hp).elim (λz=>I.pin p (dL _ z)) λz=>by let⟨hb,e⟩:=Ze z;let⟨f0,f1,f2,_⟩:=F p.1 hb;let⟨o,j,d⟩:=D p.1 hb;rw[e]at j;cases j;show⟨e,f0,f1,f2,d⟩
def aP.wg {ak pl:AH}{σ:St}{H:Hp}{s:Shared}(I:aP X (ak++pl) σ H s):aP X ak σ H s:=I.U5 λp hp=>I.pin p (dL _ (mM _ hp))
def agf (hp:PassesOwn (model X.prog X.w) X.A X.env X.xe)(hc:X.calm=true)(hi:PI X tg iter wi)(hg:PG X tg g)(hb:vZ X body tb)(hs:∀x,foldedSetIterable iter X.env x=pure x:=by intro _;rfl):PS X (.For tg iter body [] pos) (agd wi g tb):=by
 intro ak s σ H D I h;calc wpAny_For (b_ (hi ak s σ H _ I h) λv s1 h1=>b_ h1 λitv s2 h2=>?_) hs;obtain⟨it,fp,tn,J,H2,e,I2,T,st2,f2,W,⟨m0,w0⟩,turn⟩:=h2;subst e;let G:∀{H':Hp},(∀b∈fp,H' b=none)->∀b∈fp,uV X ak H' b:=λhn b hb=>⟨hn b hb,(f2 b hb).2⟩
 calc codeAny_forLoop_any (λn s'=>∃i σ' H',aP X ak σ' H' s'/\tn i s'.heap/\(∀b∈fp,H' b=none)/\W i n σ' H') ?_ m0 (JE 0 σ H2 ⟨I2,st2,λb hb=>(f2 b hb).1,w0⟩);intro n s3 z;let⟨i,σ3,H3,I3,Z,fr3,w3⟩:=z;rcases turn i n σ3 H3 w3 with⟨stop,qn⟩|⟨go,N,hN,step⟩
 .calc kP hp (b_ (T.done X rK rK rK hc i ak s3 σ3 H3 X.xe I3 (G fr3) Z stop) λr s4 ⟨hr,I4⟩=>?_);subst hr;show wpAny_execs_nil (JA σ3 H3 ⟨I4,qn⟩)
 .calc kP hp (b_ (T.item X rK rK rK hc i ak s3 σ3 H3 X.xe I3 (G fr3) Z go) λr s4 zz=>?_);let⟨u,hr,h4⟩:=zz;subst hr;calc kP hp (b_ h4 λ_ s5 zz=>?_);let⟨x,H5,I5,r5,y5,Y,fr5⟩:=zz;let I5':=I5.pinned (G fr5) (T.obj _ _ Y);calc kP hp (b_ (hg _ s5 σ3 H5 x u _ I5' r5 (step x H5 y5)) λ_ s6 zz=>?_);let⟨σ6,H6,I6,q6⟩:=zz;calc kP hp (b_ (hb _ s6 σ6 H6 _ I6 q6) λf s7 q7=>?_);let j:∀{σ7:St} {F:Hp},aP X (ak++Ck fp s5.heap) σ7 F s7->N σ7 F->∃m,m<n/\∃i σ' H',aP X ak σ' H' s7/\tn i s7.heap/\(∀b∈fp,H' b=none)/\W i m σ' H':=λ{σ7 F} O n7=>by
   let⟨m',hm,w7⟩:=hN σ7 F n7;calc⟨m',hm,i+1,σ7,F,O.wg,T.keep _ _ _ Y λb hb o e=>(O.pin (b,o) (dL _ (dL _ (vm hb e)))).1,λb hb=>?_,w7⟩;let⟨o,e,d⟩:=T.obj _ _ Y b hb;show(O.pin (b,o) (dL _ (dL _ (vm hb e)))).2.1
  cases f with
  | next=>let⟨σ7,F,O,n7⟩:=q7;show j O n7
  | cont=>let⟨σ7,F,O,n7⟩:=q7;show j O n7
  | brk=>let⟨σ7,F,O,q7⟩:=q7;show JA σ7 F ⟨O.wg,q7⟩
  | ret v=>let⟨x7,σ7,F,O,r7,q7⟩:=q7;show JE x7 σ7 F ⟨O.wg,r7,q7⟩
end
def nC {K:W.Frag}{a:Addr}:=@adw λH=>bC K H a
def za {K:W.Frag}{a:Addr}:=@adw λH=>aN K H a
def oN {lo:Int}{n:Nat}{g:TG}{tb:TS}{D:Ends}{σ:St}{H:Hp}(j:Nat->St->Hp->Prop)(h0:j 0 σ H)(hs:∀i σ H,i<n->j i σ H->g (.int (lo+i)) σ H λσ2 F=>tb {D with nx:=j (i+1),ct:=j (i+1),bk:=D.nx} σ2 F)(hd:∀σ H,j n σ H->D.nx σ H):Kf (Y_ lo n) g tb D σ H:=W5 n j h0 (λi σ H h p=>⟨h,λx H' y=>by let⟨rfl,rfl⟩:=y;show hs i σ _ h p⟩) λσ H p=>⟨al _,hd σ H p⟩
abbrev R2:=V->V->Hp->VK->Prop
def fZ (X:Cx)(f:Value->Value->Sem Value)(r:R2):Prop:=∀(ak:AH) (s:Shared) (σ:St) (H:Hp) (x y:V) (v u:Value) (Q:VK),aP X ak σ H s->cB x v->cB y u->r x y H Q->
  wpAny (model X.prog X.w) X.A (f v u) (EP X ak σ Q) X.xe s
def UnR (X:Cx)(f:Value->Sem Value)(r:V->Hp->VK->Prop):Prop:=∀(ak:AH) (s:Shared) (σ:St) (H:Hp) (x:V) (v:Value) (Q:VK),aP X ak σ H s->cB x v->r x H Q->
  wpAny (model X.prog X.w) X.A (f v) (EP X ak σ Q) X.xe s
def iI (X:Cx)(f:Value)(r:List V->Hp->VK->Prop):Prop:=∀(ak:AH) (s:Shared) (σ:St) (H:Hp) (xs:List V) (us:List Value) (Q:VK),aP X ak σ H s->Vals xs us->r xs H Q->
  wpAny (model X.prog X.w) X.A (call f us) (EP X ak σ Q) X.xe s
def Ga (r:R2)(ta tb:TE):TE:=λσ H Q=>ta σ H λx H1=>tb σ H1 λy j=>r x y j Q
def tUn (r:V->Hp->VK->Prop)(ta:TE):TE:=λσ H Q=>ta σ H λx H1=>r x H1 Q
def rI (C:Int->Int->Prop)(g:Int->Int->V):R2:=λx y H Q=>∃i j,x=.int i/\y=.int j/\C i j/\Q (g i j) H
def Mj (g:Int->Int->V):R2:=λx y H Q=>∃i j,x=.int i/\y=.int j/\Q (g i j) H
def rU (g:Int->V):V->Hp->VK->Prop:=λx H Q=>∃i,x=.int i/\Q (g i) H
section
variable {X:Cx}{a b:Expr}{ta tb:TE}{pos:Pos}
def abv (ha:PE X a ta)(hb:PE X b tb){ak:AH}{s:Shared}{σ:St}{H:Hp}{R:V->V->Hp->Prop}(I:aP X ak σ H s)(h:ta σ H λx H1=>tb σ H1 λy j=>R x y j){Q:AE}{f:Value->Value->Sem Value}(G:∀v u s2 x y j,aP X ak σ j s2->cB x v->cB y u->R x y j->wpAny (model X.prog X.w) X.A (f v u) Q X.xe s2):wpAny (model X.prog X.w) X.A (eval a X.env) (λv J=>wpAny (model X.prog X.w) X.A (eval b X.env) (λu O=>wpAny (model X.prog X.w) X.A (f v u) Q X.xe O) X.xe J) X.xe s:=by calc b_ (ha ak s σ H _ I h) λv s1 D=>?_;let⟨x,H1,F,r1,q1⟩:=D;calc b_ (hb ak s1 σ H1 _ F q1) λu s2 D=>?_;let⟨y,j,Y,Z,q2⟩:=D;show G v u s2 x y j Y r1 Z q2
def aij (D:fZ X (binaryOp op) r)(ha:PE X a ta)(hb:PE X b tb):PE X (.BinOp a op b pos) (Ga r ta tb):=by intro ak s σ H Q I h;show wpAny_BinOp (abv ha hb I h λv u s2 x y G F J j q=>D ak s2 σ G x y v u Q F J j q)
def aik (D:UnR X (unaryOp op) r)(ha:PE X a ta):PE X (.UnaryOp op a pos) (tUn r ta):=by intro ak s σ H Q I h;show UnaryOp_ (b_ (ha ak s σ H _ I h) λv s1 ⟨x,H1,j,r1,q1⟩=>D ak s1 σ H1 x v Q j r1 q1)
def Zf {f:Value->Value->Sem Value}{C:Int->Int->Prop}{g:Int->Int->Int}(D:∀(i j:Int) (t u:Tok) (s:Shared) (Q:AE) (E:AE),C i j->Q (.int (g i j) s.toks) {s with toks:=s.toks+1}->wpAny (model X.prog X.w) X.A (f (.int i t) (.int j u)) Q E s):fZ X f (rI C λi j=>.int (g i j)):=by intro ak s σ H x y v u Q I J F h;let⟨i,j,rfl,rfl,G,q⟩:=h;let⟨t,rfl⟩:=J;let⟨t',rfl⟩:=F;show D i j t t' s _ _ G (JA (.int (g i j)) H ⟨I.tok _,⟨_,rK⟩,q⟩)
def agg {f:Value->Value->Sem Value}{g:Int->Int->Int}(D:∀(i j:Int) (t u:Tok) (s:Shared) (Q:AE) (E:AE),Q (.int (g i j) s.toks) {s with toks:=s.toks+1}->wpAny (model X.prog X.w) X.A (f (.int i t) (.int j u)) Q E s):fZ X f (Mj λi j=>.int (g i j)):=by intro ak s σ H x y v u Q I G F h;let⟨i,j,rfl,rfl,q⟩:=h;let⟨t,rfl⟩:=G;let⟨t',rfl⟩:=F;show D i j t t' s _ _ (JA (.int (g i j)) H ⟨I.tok _,⟨_,rK⟩,q⟩)
def W6 {f:Value->Value->Sem Value}{g:Int->Int->Bool}(D:∀(i j:Int) (t u:Tok) (s:Shared) (Q:AE) (E:AE),Q (.bool (g i j)) s->wpAny (model X.prog X.w) X.A (f (.int i t) (.int j u)) Q E s):fZ X f (Mj λi j=>.bl (g i j)):=by intro ak s σ H x y v u Q I G F h;let⟨i,j,rfl,rfl,q⟩:=h;let⟨t,rfl⟩:=G;let⟨t',rfl⟩:=F;show D i j t t' s _ _ (JA (.bl (g i j)) H ⟨I,rK,q⟩)
def ai7 (i j:Int):Prop:=0<j/\j<1073741824
def ai8 (i j:Int):Prop:=0<=j/\j<=1000000/\i.natAbs<2^64
def W7 (i j:Int):Prop:=(-(2^64)<i/\i<2^64)\/(-(2^64)<j/\j<2^64)
def W7.ok (h:W7 i j):IntMulOk i j:=by
 rcases h with⟨h1,h2⟩|⟨h1,h2⟩;.show .of_left (intBits_le_64 h1 h2)
 .show .of_right (intBits_le_64 h1 h2)
def cL:fZ X (binaryOp .Add) (Mj λi j=>.int (i+j)):=agg λ_ _ _ _ _ _ _ q=>add_int q
def oO:fZ X (binaryOp .Sub) (Mj λi j=>.int (i-j)):=agg λ_ _ _ _ _ _ _ q=>sub_int q
def iM:fZ X (binaryOp .Mult) (rI W7 λi j=>.int (i*j)):=Zf λ_ _ _ _ _ _ _ D q=>mul_int q D.ok
def cI:fZ X (binaryOp .FloorDiv) (rI ai7 λi j=>.int (i/j)):=Zf λi j _ _ _ _ _ D q=>by let h1:(0:Int)<j:=D.1;let h2:j<1073741824:=D.2;show floordiv_int p_ (by rw[nX i (Int.le_of_lt h1)];show q) (.inl (PyProof.noPylong_small (by grind)))
def bV:fZ X (binaryOp .Mod) (rI (λ_ j=>0<j) λi j=>.int (i%j)):=Zf λi j _ _ _ _ _ D q=>by let h1:(0:Int)<j:=D;show mod_int' p_ (by rw[Int.fmod_eq_emod_of_nonneg i p_];show q)
def PX:fZ X (binaryOp .Pow) (rI ai8 λi j=>.int (i^j.toNat)):=Zf λ_ _ _ _ _ _ _ D q=>pow_int_small D.1 D.2.1 D.2.2 q
def unI {f:Value->Sem Value}{g:Int->Int}(j:∀(i:Int) (t:Tok) (s:Shared) (Q:AE) (E:AE),Q (.int (g i) s.toks) {s with toks:=s.toks+1}->wpAny (model X.prog X.w) X.A (f (.int i t)) Q E s):UnR X f (rU λi=>.int (g i)):=by intro ak s σ H x v Q I D h;let⟨i,rfl,q⟩:=h;let⟨t,rfl⟩:=D;show j i t s _ _ (JA (.int (g i)) H ⟨I.tok _,⟨_,rK⟩,q⟩)
def qX:UnR X (unaryOp .USub) (rU λi=>.int (-i)):=unI λ_ _ _ _ _ q=>neg_int q
end
noncomputable def agh:V->V->Bool
 | .non,.non=>true|.non,.int _=>true|.int _,.non=>true|.non,.bl _=>true|.bl _,.non=>true|.non,.str _=>true|.str _,.non=>true
 | .int _,.int _=>true|.bl _,.bl _=>true|.str _,.str _=>true|.Bu _,.Bu _=>true
 | .int _,.str _=>true|.str _,.int _=>true|.bl _,.str _=>true|.str _,.bl _=>true
 | _,_=>false
def rEq:R2:=λx y H Q=>agh x y=true/\Q (.bl (decide (x=y))) H
def rNe:R2:=λx y H Q=>agh x y=true/\Q (.bl (!decide (x=y))) H
def U6:decide (V.int i=V.int j)=(i==j):=by rw[hV];simp
def Zg:decide (V.bl i=V.bl j)=(i==j):=by rw[hV];simp
def U7:decide (V.str i=V.str j)=(i==j):=by rw[hV];simp
def U8:decide (V.Bu i=V.Bu j)=(i.toList==j.toList):=by rw[hV];cases i;cases j;simp
section
variable {X:Cx}{a b c:Expr}{ta tb tc:TE}{pos:Pos}
def dU {ak:AH}{σ:St}{H:Hp}{s:Shared}{Q:VK}{k j:Bool}(I:aP X ak σ H s)(q:Q (.bl k) H)(e:k=j):EP X ak σ Q (.bool j) s:=by subst e;show JA (.bl k) H ⟨I,rK,q⟩
def iQ:fZ X (compareOp .Eq) rEq:=by
 intro ak s σ H x y v u Q I F D h;let⟨hs,q⟩:=h;cases x with
 | non=>
  cases F;cases y with
  | non=>cases D;show PySem.EqNone.eq_none_none (dU I q qa)
  | bl j=>cases D;show PySem.EqNone.eq_none_bool (dU I q qa)
  | int j=>let⟨t',rfl⟩:=D;show PySem.EqNone.eq_none_int (dU I q qa)
  | str j=>let⟨t',rfl⟩:=D;show PySem.EqNone.eq_none_str (dU I q qa)
  | _=>show absurd (show false=true from hs) bv
 | bl i=>
  cases F;cases y with
  | non=>cases D;show PySem.EqNone.eq_bool_none (dU I q qa)
  | bl j=>cases D;show eq_bool (dU I q Zg)
  | str j=>let⟨t',rfl⟩:=D;show PySem.EqMixed.eq_bool_str (dU I q qa)
  | _=>show absurd (show false=true from hs) bv
 | int i=>
  let⟨t,rfl⟩:=F;cases y with
  | non=>cases D;show PySem.EqNone.eq_int_none (dU I q qa)
  | int j=>let⟨t',rfl⟩:=D;show eq_int (dU I q U6)
  | str j=>let⟨t',rfl⟩:=D;show PySem.EqMixed.eq_int_str (dU I q qa)
  | _=>show absurd (show false=true from hs) bv
 | str i=>
  let⟨t,rfl⟩:=F;cases y with
  | non=>cases D;show PySem.EqNone.eq_str_none (dU I q qa)
  | bl j=>cases D;show PySem.EqMixed.eq_str_bool (dU I q qa)
  | int j=>let⟨t',rfl⟩:=D;show PySem.EqMixed.eq_str_int (dU I q qa)
  | str j=>let⟨t',rfl⟩:=D;show eq_str (dU I q U7)
  | _=>show absurd (show false=true from hs) bv
 | Bu i=>
  let⟨t,rfl⟩:=F;cases y with
  | Bu j=>let⟨t',rfl⟩:=D;show W.eq_bytes (dU I q U8)
  | _=>show absurd (show false=true from hs) bv
 | _=>cases y <;> show absurd (show false=true from hs) bv
def zU:fZ X (compareOp .NotEq) rNe:=by
 intro ak s σ H x y v u Q I F D h;let⟨hs,q⟩:=h;cases x with
 | non=>
  cases F;cases y with
  | non=>cases D;show PySem.EqNone.ne_none_none (dU I q qa)
  | bl j=>cases D;show PySem.EqNone.ne_none_bool (dU I q qa)
  | int j=>let⟨t',rfl⟩:=D;show PySem.EqNone.ne_none_int (dU I q qa)
  | str j=>let⟨t',rfl⟩:=D;show PySem.EqNone.ne_none_str (dU I q qa)
  | _=>show absurd (show false=true from hs) bv
 | bl i=>
  cases F;cases y with
  | non=>cases D;show PySem.EqNone.ne_bool_none (dU I q qa)
  | bl j=>cases D;show ne_bool (dU I q (congrArg not Zg))
  | str j=>let⟨t',rfl⟩:=D;show PySem.EqMixed.ne_bool_str (dU I q qa)
  | _=>show absurd (show false=true from hs) bv
 | int i=>
  let⟨t,rfl⟩:=F;cases y with
  | non=>cases D;show PySem.EqNone.ne_int_none (dU I q qa)
  | int j=>let⟨t',rfl⟩:=D;show ne_int (dU I q (congrArg not U6))
  | str j=>let⟨t',rfl⟩:=D;show PySem.EqMixed.ne_int_str (dU I q qa)
  | _=>show absurd (show false=true from hs) bv
 | str i=>
  let⟨t,rfl⟩:=F;cases y with
  | non=>cases D;show PySem.EqNone.ne_str_none (dU I q qa)
  | bl j=>cases D;show PySem.EqMixed.ne_str_bool (dU I q qa)
  | int j=>let⟨t',rfl⟩:=D;show PySem.EqMixed.ne_str_int (dU I q qa)
  | str j=>let⟨t',rfl⟩:=D;show ne_str (dU I q (congrArg not U7))
  | _=>show absurd (show false=true from hs) bv
 | Bu i=>
  let⟨t,rfl⟩:=F;cases y with
  | Bu j=>let⟨t',rfl⟩:=D;show W.ne_bytes (dU I q (congrArg not U8))
  | _=>show absurd (show false=true from hs) bv
 | _=>cases y <;> show absurd (show false=true from hs) bv
def vo:fZ X (compareOp .Lt) (Mj λi j=>.bl (decide (i<j))):=W6 λ_ _ _ _ _ _ _ q=>lt_int q
def qe:fZ X (compareOp .LtE) (Mj λi j=>.bl (decide (i<=j))):=W6 λ_ _ _ _ _ _ _ q=>le_int q
def ail:fZ X (compareOp .Gt) (Mj λi j=>.bl (decide (j<i))):=W6 λ_ _ _ _ _ _ _ q=>gt_int q
def Ew:fZ X (compareOp .GtE) (Mj λi j=>.bl (decide (j<=i))):=W6 λ_ _ _ _ _ _ _ q=>ge_int q
def Zh:fZ X (compareOp .In) (λx y H Q=>∃i j,x=.str i/\y=.str j/\Q (.bl (!(Builtin.Str.occurrences j i 0 j.length 1).isEmpty)) H):=by intro ak s σ H x y v u Q I F D h;let⟨i,j,rfl,rfl,q⟩:=h;let⟨t,rfl⟩:=F;let⟨t',rfl⟩:=D;show in_str (dU I q rK)
def bG (b)(h:op≠.In:=by decide)(h2:op≠.NotIn:=by decide):behindInMarks op b=false:=by
 let e1:(op==CmpOp.In)=false:=by cases op <;> first|rfl|show absurd rK h
 let e2:(op==CmpOp.NotIn)=false:=by cases op <;> first|rfl|show absurd rK h2
 cases b <;> simp[behindInMarks,e1,e2]
def ad3 (D:fZ X (compareOp op) r)(ha:PE X a ta)(hb:PE X b tb)(hm:behindInMarks op b=false):PE X (.Compare a [op] [b] pos) (Ga r ta tb):=by intro ak s σ H Q I h;show wpAny_Compare1 (abv ha hb I h λv u s2 x y G F J j q=>D ak s2 σ G x y v u Q F J j q) hm
def O1 (t:TE):TT:=λσ H Q=>t σ H λx H'=>∃k,x=.bl k/\Q k H'
def ad4 (D:fZ X (compareOp op) r)(ha:PE X a ta)(hb:PE X b tb)(hm:behindInMarks op b=false):PT X (.Compare a [op] [b] pos) (O1 (Ga r ta tb)):=by
 intro ak s σ H Q I h;refine wpAny_isTrue_Compare1 (b_ (ha ak s σ H _ I h) λv s1 ⟨x,H1,j,r1,q1⟩=>b_ (hb ak s1 σ H1 _ j q1) λu s2 ⟨y,O,J,Y,q2⟩=>b_ (D ak s2 σ O x y v u _ J r1 Y q2) λc s3 ⟨z,Z,F,G,k,e,q3⟩=>?_) hm
 subst e;cases G;show eh ⟨Z,F,q3⟩
def Cm (r F:R2)(ta tb tc:TE):TE:=λσ H Q=>ta σ H λx H1=>tb σ H1 λy I=>r x y I λz j=>∃k,z=.bl k/\
 (if k=true then tc σ j λG D=>F y G D Q else Q (.bl false) j)
def abw (Y:fZ X (compareOp op) r)(j:fZ X (compareOp op') r')(ha:PE X a ta)(hb:PE X b tb)(hc:PE X c tc)(hm:lastMarks [op,op'] [b,c]=false:=by with_unfolding_all rfl):PE X (.Compare a [op,op'] [b,c] pos) (Cm r r' ta tb tc):=by
 intro ak s σ H Q I h;refine Compare_chain (b_ (ha ak s σ H _ I h) λv s1 ⟨x,H1,J,r1,q1⟩=>chain_link (b_ (hb ak s1 σ H1 _ J q1) λu s2 ⟨y,H2,I2,F,q2⟩=>b_ (Y ak s2 σ H2 x y v u _ I2 r1 F q2) λd s3 ⟨z,G,D,Z,k,e,q3⟩=>?_)) hm
 subst e;cases Z;calc eh ?_;cases k with| false=>show ite_ff (JA (.bl false) G ⟨D,rK,q3⟩)| true=>show ite_tt (chain_last (b_ (hc ak s3 σ G _ D q3) λw' s4 ⟨z',H4,O,r4,q4⟩=>j ak s4 σ H4 y z' u w' Q O F r4 q4))
def abx (ho:fZ X (compareOp op) r)(j:fZ X (compareOp op') r')(ha:PE X a ta)(hb:PE X b tb)(hc:PE X c tc)(hm:lastMarks [op,op'] [b,c]=false:=by with_unfolding_all rfl):PT X (.Compare a [op,op'] [b,c] pos) (O1 (Cm r r' ta tb tc)):=by
 intro ak s σ H Q I h;refine isTrue_chain (b_ (ha ak s σ H _ I h) λv s1 ⟨x,H1,Y,r1,q1⟩=>test_link (b_ (hb ak s1 σ H1 _ Y q1) λu s2 ⟨y,H2,I2,G,q2⟩=>b_ (ho ak s2 σ H2 x y v u _ I2 r1 G q2) λd s3 ⟨z,J,F,r3,k,e,q3⟩=>?_)) hm
 subst e;cases r3;calc eh ?_;cases k with
 | false=>let⟨k',e',O⟩:=q3;cases e';show ite_ff ⟨J,F,O⟩
 | true=>calc ite_tt (test_last (b_ (hc ak s3 σ J _ F q3) λw' s4 D=>?_));let⟨z',H4,I4,r4,q4⟩:=D;calc b_ (j ak s4 σ H4 y z' u w' _ I4 G r4 q4) λd' s5 D=>?_;let⟨z2,H5,Z,r5,k2,e2,q5⟩:=D;subst e2;cases r5;show eh ⟨H5,Z,q5⟩
def zc:(sizeLine:Nat)<2^63:=by rw[sizeLine_eq];decide
def W8:fZ X (binaryOp .Add) (λx y H Q=>∃i j,x=.str i/\y=.str j/\i.length+j.length<=sizeLine/\Q (.str (i++j)) H):=by intro ak s σ H x y v u Q I F D h;let⟨i,j,rfl,rfl,hz,q⟩:=h;let⟨t,rfl⟩:=F;let⟨t',rfl⟩:=D;show add_str (λt' tk=>(JA (.str (i++j)) H ⟨I.tok _,⟨_,rK⟩,q⟩)) hz
def vals1 (r:Vals [x] us):∃u,us=[u]/\cB x u:=by
 cases r with| cons r1 r2=>cases r2;show⟨_,rK,r1⟩
def vals2 (r:Vals [x,y] us):∃u j,us=[u,j]/\cB x u/\cB y j:=by
 cases r with
 | cons r1 r2=>
  cases r2 with| cons r3 r4=>cases r4;show JA _ _ ⟨rK,r1,r3⟩
def Ml (F:X.calm=true):iI X (.builtin "max") (λxs H Q=>∃i j,xs=[.int i,.int j]/\Q (.int (if j > i then j else i)) H):=by
 intro ak s σ H xs us Q I r h;let⟨i,j,rfl,q⟩:=h;obtain⟨u,G,rfl,⟨t,rfl⟩,⟨t',rfl⟩⟩:=vals2 r;refine max_two_ints (I.ok.hd F) λh' tk k=>(JA _ H ⟨I.kept k,?_,q⟩)
 by_cases D:j > i;.rw[if_pos D,if_pos D];show⟨_,rK⟩
 .rw[if_neg D,if_neg D];show⟨_,rK⟩
def Mp (F:X.calm=true):iI X (.builtin "min") (λxs H Q=>∃i j,xs=[.int i,.int j]/\Q (.int (if j<i then j else i)) H):=by
 intro ak s σ H xs us Q I r h;let⟨i,j,rfl,q⟩:=h;obtain⟨u,G,rfl,⟨t,rfl⟩,⟨t',rfl⟩⟩:=vals2 r;refine min_two_ints (I.ok.hd F) λh' tk k=>(JA _ H ⟨I.kept k,?_,q⟩)
 by_cases D:j<i;.rw[if_pos D,if_pos D];show⟨_,rK⟩
 .rw[if_neg D,if_neg D];show⟨_,rK⟩
def Mq:iI X (.type "int") (λxs H Q=>(∃i,xs=[.int i]/\Q (.int i) H)\/∃k,xs=[.bl k]/\Q (.int (if k then 1 else 0)) H):=by
 intro ak s σ H xs us Q I r h;rcases h with⟨i,rfl,q⟩|⟨k,rfl,q⟩
 .let⟨u,rfl,t,rfl⟩:=vals1 r;show call_int_int (JA (.int i) H ⟨I,⟨_,rK⟩,q⟩)
 .let⟨u,rfl,r1⟩:=vals1 r;cases r1;show call_int_bool (JA (.int (if k then 1 else 0)) H ⟨I.tok _,⟨_,rK⟩,q⟩)
end
structure Gx (h:Heap)(x dx C:Addr)(mA:Str->Option Value):Prop where
 obj:h.get? x=some (W.instObj C dx)
 ns:h.Ns1 dx mA
 ne:dx≠x
def Zi {h:Heap}(n:h.Ns1 dx mA):∃od,h.get? dx=some od/\∀name,W.lookIn name od=some (mA name):=by
 let⟨o,es,ep,F,hd,D,_,hm⟩:=n;calc⟨o,F,λname=>?_⟩;let e:=hm name;unfold nsFind findBy at e;rw[<-Array.find?_toList]at e;unfold W.lookIn;rw[hd];dsimp only;split
 .rename_i y q;rw[q]at e;show congrArg some e
 .rename_i q;rw[q]at e;let a:es.toList.any (·.refKey)=false:=by
   rw[List.any_eq_false];intro y hy;let⟨z,t,j⟩:=D y (Array.mem_toList_iff.mp hy);simp[DictEntry.refKey,j]
  let G:¬es.toList.any (·.refKey)=true:=by rw[a];show bv
  rw[if_neg G];show congrArg some e
def Gx.look (I:Gx h x dx C mA):∃od,W.InstAt h x (W.instObj C dx) C (some od)/\∀name,W.lookIn name od=some (mA name):=let ⟨od,ho,hl⟩:=Zi I.ns
 ⟨od,⟨I.obj,rK,rK,ho⟩,hl⟩
section
variable {prog:Program}{w:World}{A:Around}{E:AE}{s:Shared}{K:W.Frag}{x dx C f:Addr}{mA:Str->Option Value}{name:Str}{v:Value}
def get_map (X:K.In s.heap)(I:Gx s.heap x dx C mA)(D:W.plainGet K C name=true)(F:W.hasDictIn K C=true)(ha:W.findIn K (.ref C) name=some none)(G:mA name=some v)(j:W.handedIn v=true)(h:Q v {s with toks:=s.toks+1}):wpAny (model prog w) A (getAttr (.ref x) name expr) Q E s:=by let⟨od,J,hl⟩:=I.look;show W.get_value X J (nK D).1 (W.findObj_own F ha rK (by rw[hl,G])) j h
def aby (X:K.In s.heap)(I:Gx s.heap x dx C mA)(j:W.plainGet K C name=true)(D:W.findIn K (.ref C) name=some (some (.ref f)))(ht:W.isFn K (.ref f)=true)(F:mA name=none)(h:Q (.ref f,[.ref x]) s):wpAny (model prog w) A (getMethod (.ref x) name pl) Q E s:=by let⟨od,J,hl⟩:=I.look;show W.method_fn X J (nK j).1 (nK j).2 D (beq_iff_eq.mp ht) (by show (W.lookIn name od).map (·.isSome)=some false;rw[hl,F];rfl) h
def ad5 (X:K.In s.heap)(I:Gx s.heap x dx C mA)(hs:W.findIn K (.ref C) "__setattr__"=some (some (.builtin "object.__setattr__")))(hp:W.plainOver K C=true)(ht:W.takerIn K C name=some none)(hh:W.hasDictIn K C=true)(hw:PySem.Within mA ns)(hsz:ns.length<=sizeLine)(h:∀h',Gx h' x dx C (λy=>if y=name then some v else mA y)->Heap.SameBut dx s.heap h'->Q () {s with heap:=h',toks:=s.toks+2}):wpAny (model prog w) A (setAttr (.ref x) name v) Q E s:=by let⟨od,J,hl⟩:=I.look;calc W.set_plain X J hs (W.osa_open (s:={s with toks:=s.toks+1}) (r:=none) X J hp ht λb=>?_);let⟨cd,hc,O⟩:=W.any_some hh;let hx:s.heap.get? x=some ⟨.ref C,some dx,.plain,#[]⟩:=I.obj;calc ac (am (ac (ac (wpAny_loadPart hx (ac (W.Looks.here (s:={s with toks:=s.toks+1}) (W.looks_clsIn X hc) ?_))))));rw[O];calc am (a:=some dx) (ac (am (ac ?_)));calc wpAny_nsSet1 (s:={s with toks:=s.toks+1}) I.ns λh' D j=>?_;let⟨oD,esD,Z,F,G,Y⟩:=D.count (ot name v hw);calc ac (wpAny_lookBehind F (by rw[G];show pastItsLine_dict (bP Y (by rw[dq];show gV hsz))) ?_);show am (h _ ⟨(j.2 _ (gI I.ne)).trans I.obj,D,I.ne⟩ j)
def abz (X:K.In s.heap)(hm:W.makesIn K C=true)(hi:W.findIn K (.ref C) "__init__"=some (some (.ref f)))(j:W.typeIn K (.ref f)=some (.type "function"))(h:codeAny (model prog w) (A.under (.builtin "type.__call__" ⟨.ref C::vs,kw⟩)) (.call (.ref f) ⟨.ref (s.heap.objs.size+1)::vs,kw⟩) (W.InitBack (s.heap.objs.size+1) R) {s with heap:=(s.heap.push W.emptyDict).push (W.instObj C s.heap.objs.size)}):codeAny (model prog w) A (.call (.ref C) ⟨vs,kw⟩) R s:=by let⟨D,g,d,t,os⟩:=s;show W.make_core (W.makes_of X hm) (W.looks_findIn X hi) (λself=>W.bind_fn X self j) (.inl rK) h
end
noncomputable def iw (f:Str)(v:V):List (Str×V)->List (Str×V)
 | []=>[(f,v)]
 | (g,x)::r=>if g=f then (g,v)::r else (g,x)::iw f v r
theorem yE (f g)(v):∀fs:List (Str×V),(iw f v fs).lookup g=if g=f then some v else fs.lookup g
 | []=>by
  show List.lookup g [(f,v)]=_;by_cases h:g=f
  .let hb:(g==f)=true:=beq_iff_eq.mpr h;simp only[List.lookup,hb,if_pos h]
  .let hb:(g==f)=false:=beq_eq_false_iff_ne.mpr h;simp only[List.lookup,hb,if_neg h]
 | (k,x)::r=>by
  let D:=yE f g v r;rw[show iw f v ((k,x)::r)=(if k=f then (k,v)::r else (k,x)::iw f v r) from rfl];by_cases j:k=f
  .rw[if_pos j];by_cases h:g=k
   .let hb:(g==k)=true:=beq_iff_eq.mpr h;simp only[List.lookup,hb,if_pos (h.trans j)]
   .let hb:(g==k)=false:=beq_eq_false_iff_ne.mpr h;simp only[List.lookup,hb,if_neg (λe:g=f=>h (e.trans j.symm))]
  .rw[if_neg j];by_cases h:g=k
   .let hb:(g==k)=true:=beq_iff_eq.mpr h;simp only[List.lookup,hb,if_neg (λe:g=f=>j (h.symm.trans e))]
   .let hb:(g==k)=false:=beq_eq_false_iff_ne.mpr h;simp only[List.lookup,hb];show D
theorem uG (f)(v):∀fs:List (Str×V),f∈(iw f v fs).map (·.1)/\∀g,g∈fs.map (·.1)->g∈(iw f v fs).map (·.1)
 | []=>⟨by simp[iw],λg h=>by simp at h⟩
 | (k,x)::r=>by
  let⟨i1,i2⟩:=uG f v r;rw[show iw f v ((k,x)::r)=(if k=f then (k,v)::r else (k,x)::iw f v r) from rfl];by_cases j:k=f
  .rw[if_pos j];subst j;show⟨qa,λg h=>by simpa using h⟩
  .rw[if_neg j];refine⟨?_,λg h=>?_⟩
   .rw[cf];show bE _ i1
   .rw[cf]at h ⊢;rcases bq.mp h with e|e;.show bq.mpr (.inl e)
    .show bE _ (i2 g e)
theorem yF (f)(v):∀fs:List (Str×V),(iw f v fs).length<=fs.length+1
 | []=>by simp[iw]
 | (k,x)::r=>by
  let D:=yF f v r;rw[show iw f v ((k,x)::r)=(if k=f then (k,v)::r else (k,x)::iw f v r) from rfl];by_cases j:k=f;.rw[if_pos j,dq,dq];lia
  .rw[if_neg j,dq,dq];show gV D
def lQ.some_of (r:lQ (some v) o):∃u,o=some u/\cB v u:=by
 cases o with| none=>show(show False from r).elim| some u=>show⟨u,rK,r⟩
def lQ.none_of (r:lQ none o):o=none:=by
 cases o with| none=>rfl| some u=>show(show False from r).elim
def Mr (r:cB v u):W.handedIn u=true:=by
 cases v with
 | non=>cases(show u=Value.none from r);rfl
 | bl b=>cases(show u=Value.bool b from r);rfl
 | int i=>let⟨t,e⟩:=(show ∃t,u=Value.int i t from r);cases e;rfl
 | str x=>let⟨t,e⟩:=(show ∃t,u=Value.str x t from r);cases e;rfl
 | Bu b=>let⟨t,e⟩:=(show ∃t,u=Value.bytes b t from r);cases e;rfl
 | flt b=>let⟨t,e⟩:=(show ∃t,u=Value.float b t from r);cases e;rfl
 | ref a=>cases(show u=Value.ref a from r);rfl
 | ty n=>cases(show u=Value.type n from r);rfl
section
variable {P:Program}{w:World}{H:Hp}{h:Heap}{a C dx:Addr}{fs:List (Str×V)}
def zf (hok:j8 P w H h)(e:H a=some (.ins C dx fs)):∃mA,Gx h a dx C mA/\(∀f,lQ (fs.lookup f) (mA f))/\PySem.Within mA (fs.map (·.1))/\fs.length<=1000/\H dx=some (.own a):=by
 let⟨d,z,ne,ob,mA,n,r,q⟩:=(show fV P w H h a (.ins C dx fs) from hok a _ e)
 show⟨mA,⟨ob,n,ne⟩,r,q,z,d⟩
end
structure Cls (K:W.Frag)(C:Addr):Prop where
 pg:W.plainGet K C Str.empty=true
 hd:W.hasDictIn K C=true
 po:W.plainOver K C=true
 sa:W.findIn K (.ref C) "__setattr__"=some (some (.builtin "object.__setattr__"))
def Cls.get {K:W.Frag}(c:Cls K C)(f:Str):W.plainGet K C f=true:=c.pg
def iG (K:W.Frag)(C:Addr)(f:Str):Prop:=W.findIn K (.ref C) f=some none
def iG.taker {K:W.Frag}{f:Str}(n:iG K C f):W.takerIn K C f=some none:=by unfold W.takerIn;rw[show W.findIn K (.ref C) f=some none from n];rfl
structure Meth (K:W.Frag)(C:Addr)(m:Str)(f:Addr):Prop where
 at_:W.findIn K (.ref C) m=some (some (.ref f))
 fn:W.isFn K (.ref f)=true
 kp:W.keepIn K (.ref f)=true
section
variable {X:Cx}{ak:AH}{σ:St}{H:Hp}{s:Shared}{a C dx:Addr}{fs:List (Str×V)}{f:Str}{v:V}{A:Around}{E:AE}
def W9 (I:aP X ak σ H s)(e:H a=some (.ins C dx fs))(c:Cls X.K C)(n:iG X.K C f)(l:fs.lookup f=some v)(h:∀u s',aP X ak σ H s'->cB v u->Q u s'):wpAny (model X.prog X.w) A (getAttr (.ref a) f b) Q E s:=by let⟨mA,O,r,_,_,_⟩:=zf I.hok e;let⟨u,D,j⟩:=lQ.some_of (v:=v) (o:=mA f) (by rw[<-l];show r f);show get_map I.iZ O (c.get f) c.hd n D (Mr j) (h u _ (I.tok _) j)
def Ip (I:aP X ak σ H s)(e:H a=some (.ins C dx fs))(c:Cls X.K C)(k:Meth X.K C m g)(l:fs.lookup m=none)(h:Q (.ref g,[.ref a]) s):wpAny (model X.prog X.w) A (getMethod (.ref a) m pl) Q E s:=by let⟨mA,O,r,_,_,_⟩:=zf I.hok e;let hn:mA m=none:=lQ.none_of (by rw[<-l];show r m);show aby I.iZ O (c.get m) k.at_ k.fn hn h
def W_ (I:aP X ak σ H s)(e:H a=some (.ins C dx fs))(c:Cls X.K C)(n:iG X.K C f)(hl:fs.length<1000)(F:cB y u)(h:∀s',aP X ak σ (upd H a (.ins C dx (iw f y fs))) s'->Q () s'):wpAny (model X.prog X.w) A (setAttr (.ref a) f u) Q E s:=by
 let⟨mA,O,r,wi,_,D⟩:=zf I.hok e;let hz:(fs.map (·.1)).length<=sizeLine:=by rw[aa,sizeLine_eq];lia
 calc ad5 I.iZ O c.sa c.po n.taker c.hd wi hz λh' j J=>h _ ?_;let hd:∃o,h'.get? dx=some o:=let ⟨o,_,_,e',_⟩:=j.ns;⟨o,e'⟩
 calc I.write (x:=a) (e:=dx) (by rw[e];show True.intro) (.inr D) (λb q hb z=>(J.2 b hb).trans z) hd ?_;calc⟨by rw[aV O.ne];show D,?_,O.ne,j.obj,_,j.ns,λg=>?_,λg G=>?_⟩;.have:=yF f y fs;lia
 .show lQ ((iw f y fs).lookup g) (if g=f then some u else mA g);rw[yE];by_cases q:g=f;.rw[if_pos q,if_pos q];show F
  .rw[if_neg q,if_neg q];show r g
 .by_cases q:g=f;.rw[q];show(uG f y fs).1
  .calc(uG f y fs).2 g (wi g λz=>G ?_);show (if g=f then some u else mA g)=none;rw[if_neg q];show z
def aP.made (I:aP X ak σ H s):aP X ak σ (upd (upd H s.heap.objs.size (.own (s.heap.objs.size+1))) (s.heap.objs.size+1) (.ins C s.heap.objs.size [])) {s with heap:=(s.heap.push W.emptyDict).push (W.instObj C s.heap.objs.size)}:=by
 let e1:(s.heap.push W.emptyDict).get? s.heap.objs.size=some W.emptyDict:=aI s.heap rfl;let e2:((s.heap.push W.emptyDict).push (W.instObj C s.heap.objs.size)).get? (s.heap.objs.size+1)=some (W.instObj C s.heap.objs.size):=by
  have:=aI (s.heap.push W.emptyDict) (o:=W.instObj C s.heap.objs.size) rfl
  rwa [dE]at this
 let e3:(s.heap.push W.emptyDict).Ns s.heap.objs.size (λ_=>none):=(JE W.emptyDict (#[]) _ ⟨e1,rK,(λe D=>absurd D qa),λ_=>rfl⟩)
 let j:=I.laid (a:=s.heap.objs.size) (o:=.own (s.heap.objs.size+1)) (h':=s.heap.push W.emptyDict) (t':=s.toks) (λb u q=>ae _ q) (al _) ⟨_,e1⟩;calc j.laid (a:=s.heap.objs.size+1) (o:=.ins C s.heap.objs.size []) (t':=s.toks) (λb u q=>ae _ q) (iN (dE _ _)) ?_;let ne:s.heap.objs.size≠s.heap.objs.size+1:=b8 (gT _);refine⟨by rw[aV ne,aq],ej _,ne,e2,λ_=>none,(Heap.Ns1.of_empty e3).at λo q=>ae _ q,λ_=>True.intro,λy hy=>absurd rK hy⟩
def U9 (hb:attributeBase e f env (eval e env)=eval e env)(h:wpAny (model prog w) A (eval e env) (λo j=>wpAny (model prog w) A (getAttr o f true) Q E j) E s):wpAny (model prog w) A (eval (.Attribute e f pos) env) Q E s:=Attribute_any_ h (by rw[arm_eval_Attribute,hb])
end
def Xa (K:W.Frag)(ta:TE)(f:Str):TE:=λσ H Q=>ta σ H λx H1=>∃a C dx fs v,x=.ref a/\H1 a=some (.ins C dx fs)/\Cls K C/\iG K C f/\fs.lookup f=some v/\Q v H1
def agi (K:W.Frag)(ta tv:TE)(f:Str):TS:=λD σ H=>tv σ H λy H1=>ta σ H1 λx j=>∃a C dx fs,x=.ref a/\j a=some (.ins C dx fs)/\Cls K C/\iG K C f/\fs.length<1000/\
 D.nx σ (upd j a (.ins C dx (iw f y fs)))
section
variable {X:Cx}{o e value:Expr}{f:Str}{pos pos':Pos}{ta tv:TE}
variable {ak:AH}{σ:St}{H:Hp}{s:Shared}{A:Around}{E Q:AE}{c:Value}{b:Bool}
def agj (D:PE X e ta)(hb:attributeBase e f X.env (eval e X.env)=eval e X.env):PE X (.Attribute e f pos) (Xa X.K ta f):=by intro ak s σ H Q I h;calc U9 hb (b_ (D ak s σ H _ I h) λu s1 J=>?_);let⟨x,H1,j,O,a,C,dx,fs,v,ex,Y,c,n,l,q⟩:=J;subst ex;obtain rfl:u=Value.ref a:=O;show W9 j Y c n l λZ s2 G F=>(JA v H1 ⟨G,F,q⟩)
def agk (ha:PE X o ta)(G:PE X value tv)(hs:swapsWith value (some (.Attribute o f pos')) pos.line X.env=pure false):PS X (.Assign [.Attribute o f pos'] value pos) (agi X.K ta tv f):=by intro ak s σ H D I h;calc plainObj_wpAny_Assign_Attribute (b_ (G ak s σ H _ I h) λu s1 j=>?_) hs;let⟨y,H1,F,J,q⟩:=j;calc b_ (ha ak s1 σ H1 _ F q) λov s2 j=>?_;let⟨x,H2,Y,Z,a,C,dx,fs,ex,ea,c,n,l,q2⟩:=j;subst ex;obtain rfl:ov=Value.ref a:=Z;show W_ Y ea c n l J λs3 O=>(JA σ _ ⟨O,q2⟩)
inductive lR (K:W.Frag) (H:Hp):V->Value->Prop where
 | non:lR K H .non (.type "NoneType")
 | bl (x:Bool):lR K H (.bl x) (.type "bool")
 | int (i:Int):lR K H (.int i) (.type "int")
 | str (x:Str):lR K H (.str x) (.type "str")
 | flt (x:UInt64):lR K H (.flt x) (.type "float")
 | lst {a:Addr} {xs:List V} (e:H a=some (.lst xs)):lR K H (.ref a) (.type "list")
 | pU {a:Addr} {o:Obj} {xs:List V} (e:H a=some (.pU o (.lst xs))):lR K H (.ref a) (.type "list")
 | tup {a:Addr} {xs:List V} (e:H a=some (.tup xs)):lR K H (.ref a) (.type "tuple")
 | dK {a:Addr} {kvs:List (Key×V)} (e:H a=some (.dK kvs)):lR K H (.ref a) (.type "dict")
 | dT {a:Addr} {kvs:List (List Key×V)} (e:H a=some (.dT kvs)):lR K H (.ref a) (.type "dict")
 | ins {a C dx:Addr} {fs:List (Str×V)} (e:H a=some (.ins C dx fs)) (cl:Cls K C) (ha:W.findIn K (.ref C) "__class__"=some (some (.builtin "object.__class__")))
   (hn:W.specialIn K (.builtin "object.__class__") "__get__"=some (some (.builtin "getset_descriptor.__get__"))) (htk:W.takesIn K (.builtin "object.__class__")=some true)
   (hm:W.mroIn K C (.type "object")=some true):lR K H (.ref a) (.ref C)
def Ms (I:aP X ak σ H s)(j:cB x u)(ty:lR X.K H x t)(e:W.kitOne X.K t c=some b)(h:∀tk,Q (.bool b) {s with toks:=tk}):wpAny (model X.prog X.w) A (call (.builtin "isinstance") [u,c]) Q E s:=by
 cases ty with
 | non=>cases(show u=Value.none from j);show fg W.kitx_none I.iZ True.intro e (λz=>nomatch z) h
 | bl y=>cases(show u=Value.bool y from j);show fg W.kitx_bool I.iZ True.intro e (λz=>nomatch z) h
 | int i=>let⟨t,q⟩:=(show ∃t,u=Value.int i t from j);cases q;show fg W.kitx_int I.iZ True.intro e (λz=>nomatch z) h
 | str y=>let⟨t,q⟩:=(show ∃t,u=Value.str y t from j);cases q;show fg W.kitx_str I.iZ True.intro e (λz=>nomatch z) h
 | flt y=>let⟨t,q⟩:=(show ∃t,u=Value.float y t from j);cases q;show fg W.kitx_float I.iZ True.intro e (λz=>nomatch z) h
 | @lst a xs ea=>
  cases(show u=Value.ref a from j);let⟨_,_,n,_,h1⟩:=(show fV X.prog X.w H s.heap a (.lst xs) from I.hok a _ ea)
  show fg W.kitx_list I.iZ ⟨_,h1,rK⟩ e (λz=>nomatch z) h
 | @pU a ob xs ea=>
  cases(show u=Value.ref a from j);let⟨_,_,_,n,_,h1⟩:=(show fV X.prog X.w H s.heap a (.pU ob (.lst xs)) from I.hok a _ ea)
  show fg W.kitx_list I.iZ ⟨_,h1,rK⟩ e (λz=>nomatch z) h
 | @tup a xs ea=>
  cases(show u=Value.ref a from j);let⟨_,_,_,p⟩:=(show fV X.prog X.w H s.heap a (.tup xs) from I.hok a _ ea)
  let⟨o,h1,h2,_⟩:=p;show fg W.kitx_tuple I.iZ ⟨o,h1,h2⟩ e (λz=>nomatch z) h
 | @dK a kvs ea=>
  cases(show u=Value.ref a from j);let⟨_,_,vs,_,p⟩:=(show fV X.prog X.w H s.heap a (.dK kvs) from I.hok a _ ea)
  let⟨o,es,ep,h1,h2,_⟩:=p;show fg W.kitx_dict I.iZ ⟨o,h1,h2.1⟩ e (λz=>nomatch z) h
 | @dT a kvs ea=>
  cases(show u=Value.ref a from j);let⟨_,_,xs,_,o,es,ep,h1,h2,_⟩:=(show fV X.prog X.w H s.heap a (.dT kvs) from I.hok a _ ea)
  show fg W.kitx_dict I.iZ ⟨o,h1,h2.1⟩ e (λz=>nomatch z) h
 | @ins a C dx fs ea cl ha hn htk hm=>cases(show u=Value.ref a from j);let⟨mA,O,_⟩:=zf I.hok ea;let⟨od,J,_⟩:=O.look;show fg (W.kitx_own (cl.get _) cl.hd ha hn htk hm) I.iZ J e (λz=>nomatch z) h
end
structure fK (k:Nat)(A:Around):Prop where
 hd:A.handled=none
 dp:A.depth+3*k+5<recursionLimit
 un:A.units+16*k+200<cLine
def fK.mono (r:fK k A)(h:j<=k:=by decide):fK j A:=⟨r.hd,by have:=r.dp;lia,by have:=r.un;lia⟩
def fK.deeper (r:fK (k+1) A)(env):fK k (A.deeper env):=⟨r.hd,by have:=r.dp;show A.depth+1+3*k+5<_;lia,by have:=r.un;show A.units+3+16*k+200<_;lia⟩
def Xb {A:Around}:(A.under (.builtin "type.__call__" ⟨.ref C::us,kw⟩)).depth=A.depth+1:=by first|rfl|simp[Around.under,Code.weight,Code.isCreation,Code.isGuard,Code.isCaller,Code.frames,Code.isFrame,guardIds]
def Xc {A:Around}:(A.under (.builtin "type.__call__" ⟨.ref C::us,kw⟩)).units=A.units+1:=by first|rfl|simp[Around.under,Code.cUnits,Code.frames,Code.isFrame]
def fK.make (r:fK (k+1) A)(C)(us)(kw):fK k (A.under (.builtin "type.__call__" ⟨.ref C::us,kw⟩)):=⟨r.hd,by have:=r.dp;rw[Xb];(simp_all;lia),by have:=r.un;rw[Xc];(simp_all;lia)⟩
def fK.depth (r:fK k A):A.depth<recursionLimit:=by have:=r.dp;lia
def fK.units (r:fK k A):A.units+64<cLine:=by have:=r.un;lia
def fK.agl (r:fK k A):A.units<cLine:=by have:=r.un;lia
def zV:TA:=λ_ H Q=>Q [] H
def vp (ta:TE)(tr:TA):TA:=λσ H Q=>ta σ H λx H1=>tr σ H1 λxs j=>Q (x::xs) j
section
variable {X:Cx}{e:Expr}{es:List Expr}{te:TE}{t:TA}{pos:Pos}
def agm:PA X [] zV:=λ_ _ _ _ H Q I h=>gL (JA [] H ⟨I,.nil,h⟩)
def ad6 (ha:PE X e te)(D:PA X es t)(hs:starEach (e::es) X.env=(false,eval e X.env)::starEach es X.env:=by rfl):PA X (e::es) (vp te t):=by intro pos ak s σ H Q I h;rw[hs];show wpAny _ _ (spliced ((false,eval e X.env)::backTo pos (starEach es X.env))) _ _ s;calc eQ (b_ (ha ak s σ H _ I h) λu s1 J=>?_);let⟨x,H1,j,r1,q1⟩:=J;show b_ (D pos ak s1 σ H1 _ j q1) λus s2 ⟨xs,G,F,O,q2⟩=>(JA (x::xs) G ⟨F,.cons r1 O,q2⟩)
def agn (t:TA):TE:=λσ H Q=>t σ H λxs H1=>xs.length<=sizeLine/\∀p,H1 p=none->Q (.ref p) (upd H1 p (.tup xs))
def ago (t:TA):TE:=λσ H Q=>t σ H λxs H1=>xs.length<=sizeLine/\∀p,H1 p=none->Q (.ref p) (upd H1 p (.lst xs))
def agp {x1}(h:PA X es t):PE X (.Tuple es x1 pos) (agn t):=by intro ak s σ H Q I F;calc wpAny_Tuple_spliced (b_ (h pos ak s σ H _ I F) λus s1 ⟨xs,H1,j,r,z,q⟩=>⟨by rw[<-r.length];show z,?_⟩);let D:H1 s1.heap.objs.size=none:=j.hok.fresh (al _);calc JA (.ref s1.heap.objs.size) (upd H1 s1.heap.objs.size (.tup xs)) ⟨j.laid (t':=s1.toks) (λb u e=>ae _ e) (al _) ?_,rK,q _ D⟩;show⟨z,us,r,⟨_,aI _ rK,rK,_,rK⟩⟩
def agq (h:PA X es t):PE X (.List es pos) (ago t):=by intro ak s σ H Q I F;calc wpAny_List_spliced (b_ (h pos ak s σ H _ I F) λus s1 ⟨xs,H1,j,r,z,q⟩=>⟨by rw[<-r.length];show z,?_⟩);let D:H1 s1.heap.objs.size=none:=j.hok.fresh (al _);calc JA (.ref s1.heap.objs.size) (upd H1 s1.heap.objs.size (.lst xs)) ⟨j.laid (t':=s1.toks) (λb u e=>ae _ e) (al _) ?_,rK,q _ D⟩;show⟨z,us,0,r,aI _ rK⟩
end
abbrev Sp:=List V->Hp->VK->XK->Prop
abbrev uH:=List Env->Hp->Shared->XK->Value->Shared->Prop
structure Gy (P:Program)(w:World)(K:W.Frag)(mg:Str->Option Value)(base:Heap)(A:Around)(outer:List Env)(s:Shared)(H:Hp):Prop where
 frames:A.frames=some outer
 mod:Mod K mg base
 bs:∀b o,base.get? b=some o->s.heap.get? b=some o/\H b=none
 Bv:base.objs.size<=s.heap.objs.size
 pP:s.heap.FunFrames base outer
 Ci:∀b∈frs outer,H b=none
 hok:j8 P w H s.heap
 bare:AllBare s.gens
def CE (outer:List Env)(P:Program)(w:World)(H:Hp)(s:Shared)(Q:VK)(u:Value)(s':Shared):Prop:=∃v H',s'.os=s.os/\AllBare s'.gens/\Un (frs outer) [] H H' s.heap s'.heap/\j8 P w H' s'.heap/\cB v u/\Q v H'
def CR (CX:uH)(outer:List Env)(P:Program)(w:World)(H:Hp)(s:Shared)(Q:VK)(E:XK)(r:Result)(s':Shared):Prop:=match r with| .ok (.ret u)=>CE outer P w H s Q u s'| .ok _=>False| .error e=>CX outer H s E e s'
structure bW (P:Program)(w:World)(K:W.Frag)(mg:Str->Option Value)(base:Heap)(CX:uH)(k:Nat)(f:Addr)(fd:FuncData)(ps:List Str)(sp:Sp):Prop where
 len:∀vs H Q E,sp vs H Q E->vs.length=ps.length
 run:∀(A:Around) (outer:List Env) (s:Shared) (H:Hp) (args:Args) (us:List Value) (vs:List V) (Q:VK) (E:XK),fK k A->Gy P w K mg base A outer s H->BindsTo s fd args (ps.zip us)->Vals vs us->sp vs H Q E->
  codeAny (model P w) A (.call (.ref f) args) (CR CX outer P w H s Q E) s
def Gy.make {K:W.Frag}{mg:Str->Option Value}{outer:List Env}(e:Gy P w K mg base A outer s H)(C:Addr)(us:List Value)(j:List (Str×Value)):Gy P w K mg base (A.under (.builtin "type.__call__" ⟨.ref C::us,j⟩)) outer s H:=⟨by first|show e.frames|(simpa [Around.under,Code.envs,Code.isFrame,pushEnvs] using e.frames),e.mod,e.bs,e.Bv,e.pP,e.Ci,e.hok,e.bare⟩
section
variable {X:Cx}{ak:AH}{σ:St}{H:Hp}{s s':Shared}
def aP.env0 (I:aP X ak σ H s):Gy X.prog X.w X.K X.mg X.base X.A X.stack s H:=⟨I.ok.frames,I.ok.mod,I.bs,bP I.ok.Bv I.sz,I.stack,I.yZ,I.hok,I.bare⟩
def aP.after (I:aP X ak σ H s)(h:CE X.stack X.prog X.w H s Q u s'):EP X ak σ Q u s':=by let⟨v,H',os,bare,un,hok,r,q⟩:=h;let⟨D,g,d,t,j⟩:=s';obtain rfl:j=s.os:=os;show JA v H' ⟨I.call (h':=D) (g':=g) (d':=d) (t':=t) (ch:=[]) un hok bare (λb z=>absurd z qa),r,q⟩
end
def Xd (sp:Sp)(j9:List V)(E:XK)(t:TA):TE:=λσ H Q=>t σ H λvs H1=>sp (vs++j9) H1 Q E
def O2 (C:Addr)(m:Str)(sp:Sp)(j9:List V)(E:XK)(ta:TE)(t:TA):TE:=λσ H Q=>ta σ H λx H1=>∃a dx fs,x=.ref a/\H1 a=some (.ins C dx fs)/\fs.lookup m=none/\
 t σ H1 λvs j=>sp (x::(vs++j9)) j Q E
def adx (C:Addr)(sp:Sp)(j9:List V)(E:XK)(t:TA):TE:=λσ H Q=>t σ H λvs H1=>∀x dx,H1 x=none->H1 dx=none->dx≠x->
 sp (.ref x::(vs++j9)) (upd (upd H1 dx (.own x)) x (.ins C dx [])) (λv j=>v=.non/\Q (.ref x) j) E
def bK (K:W.Frag)(fd:FuncData)(ps:List Str)(ds:List Value):Prop:=∀(s:Shared) (us:List Value),K.In s.heap->(us++ds).length=ps.length->BindsTo s fd ⟨us,[]⟩ (ps.zip (us++ds))
def bK.all {K:W.Frag}{ps:List Str}(h:∀us:List Value,us.length=ps.length->bindArgs fd ⟨us,[]⟩=pure (ps.zip us)):bK K fd ps []:=λs us _ hl=>by rw[ia]at hl ⊢;show .of_eq (h us hl)
def Passes (CX:uH)(X:Cx)(E:XK):Prop:=∀(ak:AH) (σ:St) (H:Hp) (s:Shared) (e:Value) (s':Shared),aP X ak σ H s->CX X.stack H s E e s'->X.xe e s'
section
variable {X:Cx}{CX:uH}{k:Nat}{f C:Addr}{fd:FuncData}{ps:List Str}{sp:Sp}{j9:List V}{ds:List Value}{E:XK}{x m:Str}{p pos apos:Pos}{e o:Expr}{es:List Expr}{ta:TE}{t:TA}
def P0 {ak:AH}{σ:St}{H:Hp}{s:Shared}{Q:VK}{us:List Value}{vs:List V}(F:bW X.prog X.w X.K X.mg X.base CX k f fd ps sp)(G:fK k X.A)(hb:bK X.K fd ps ds)(hd:Vals j9 ds)(hx:Passes CX X E)(I:aP X ak σ H s)(r:Vals vs us)(h:sp (vs++j9) H Q E):wpAny (model X.prog X.w) X.A (call (.ref f) us) (EP X ak σ Q) X.xe s:=by
 let D:Vals (vs++j9) (us++ds):=r.append hd;let hl:(us++ds).length=ps.length:=by rw[<-D.length];show F.len _ _ _ _ h
 calc lm (kU (F.run X.A X.stack s H ⟨us,[]⟩ (us++ds) (vs++j9) Q E G I.env0 (hb s us I.iZ hl) D h) λr s' j=>?_);cases r with
 | error e=>show hx ak σ H s e s' I j
 | ok fl=>
  cases fl with| ret u=>show I.after j| next=>show False.elim j| brk=>show False.elim j| cont=>show False.elim j
def ad7 (F:bW X.prog X.w X.K X.mg X.base CX k f fd ps sp)(O:fK k X.A)(Z:Gl X x)(hm:X.mg x=some (.ref f))(J:W.keepIn X.K (.ref f)=true)(hb:bK X.K fd ps ds)(hd:Vals j9 ds)(hx:Passes CX X E)(ha:PA X (e::es) t)(D:(x==("__debug__":Str))=false:=by decide)(Y:starEach (e::es) X.env=(false,eval e X.env)::starEach es X.env:=by rfl)(j:(backTo pos (starEach es X.env)).any (·.1)=false:=by rfl):PE X (.Call (.Name x p) (e::es) [] pos) (Xd sp j9 E t):=by intro ak s σ H Q I h;calc g9 (o8 I Z hm ?_ D);calc jp (h₀:=X.base) I.ok.mod.Ij J (b_ (ha pos ak s σ H _ I h) λus s1 ⟨vs,H1,G,r,q⟩=>⟨G.iZ,?_⟩) Y j;show P0 F O hb hd hx G r q
def ad8 {pl:Sem Bool}(Y:PE X o ta)(c:Cls X.K C)(hm:Meth X.K C m f)(F:bW X.prog X.w X.K X.mg X.base CX k f fd ps sp)(O:fK k X.A)(hb:bK X.K fd ps ds)(hd:Vals j9 ds)(hx:Passes CX X E)(ha:PA X (e::es) t)(j:starEach (e::es) X.env=(false,eval e X.env)::starEach es X.env:=by rfl)(D:(backTo pos (starEach es X.env)).any (·.1)=false:=by rfl)(ht:eval (.Call (.Attribute o m apos) (e::es) [] pos) X.env=(do
   let ov <- eval o X.env
   standAt apos.atName
   let (f,first) <- holding [ov] (getMethod ov m pl)
   callWith pos f first (backTo pos (starEach (e::es) X.env)) (backToKw pos (keywordEach [] X.env))):=by rfl) :
  PE X (.Call (.Attribute o m apos) (e::es) [] pos) (O2 C m sp j9 E ta t):=by
 intro ak s σ H Q I h;calc W.methodCall_KW (pl:=pl) (b_ (Y ak s σ H _ I h) λu s1 Z=>?_) ht;let⟨x,H1,G,rx,a,dx,fs,ex,ea,l,q⟩:=Z;subst ex;obtain rfl:u=Value.ref a:=rx;calc Ip G ea c hm l ?_;calc jp (first:=[.ref a]) (h₀:=X.base) I.ok.mod.Ij hm.kp (b_ (ha pos ak s1 σ H1 _ G q) λus s2 ⟨vs,H2,J,r,q2⟩=>⟨J.iZ,?_⟩) j D;show P0 (us:=.ref a::us) (vs:=.ref a::vs) F O hb hd hx J (.cons rK r) q2
def abA (G:PE X o ta)(c:Cls X.K C)(hm:Meth X.K C m f)(F:bW X.prog X.w X.K X.mg X.base CX k f fd ps sp)(D:fK k X.A)(hb:bK X.K fd ps ds)(hd:Vals j9 ds)(hx:Passes CX X E)(ht:eval (.Call (.Attribute o m apos) [] [] pos) X.env=(do
   let ov <- eval o X.env
   standAt apos.atName
   let (f,first) <- holding [ov] (getMethod ov m pl)
   callWith pos f first (backTo pos (starEach [] X.env)) (backToKw pos (keywordEach [] X.env))):=by rfl) :
  PE X (.Call (.Attribute o m apos) [] [] pos) (O2 C m sp j9 E ta zV):=by
 intro ak s σ H Q I h;calc W.methodCall_KW (pl:=pl) (b_ (G ak s σ H _ I h) λu s1 J=>?_) ht;let⟨x,H1,j,O,a,dx,fs,ex,Y,l,q⟩:=J;subst ex;obtain rfl:u=Value.ref a:=O;calc Ip j Y c hm l ?_;show W.callWith_K0 (first:=[.ref a]) j.iZ hm.kp (P0 (us:=[.ref a]) (vs:=[.ref a]) F D hb hd hx j (.cons rK .nil) q)
structure Mk (K:W.Frag)(C f:Addr):Prop where
 makes:W.makesIn K C=true
 init:W.findIn K (.ref C) "__init__"=some (some (.ref f))
 fn:W.isFn K (.ref f)=true
 kp:W.keepIn K (.ref C)=true
def abB {ak:AH}{σ:St}{H:Hp}{s:Shared}{Q:VK}{us:List Value}{vs:List V}(M:Mk X.K C f)(F:bW X.prog X.w X.K X.mg X.base CX k f fd ps sp)(O:fK (k+1) X.A)(hb:bK X.K fd ps ds)(hd:Vals j9 ds)(hx:Passes CX X E)(I:aP X ak σ H s)(r:Vals vs us)(h:∀x dx,H x=none->H dx=none->dx≠x->sp (.ref x::(vs++j9)) (upd (upd H dx (.own x)) x (.ins C dx [])) (λv Z=>v=.non/\Q (.ref x) Z) E):wpAny (model X.prog X.w) X.A (call (.ref C) us) (EP X ak σ Q) X.xe s:=by
 let G:=h (s.heap.objs.size+1) s.heap.objs.size (I.hok.fresh (kL _)) (I.hok.fresh (al _)) (b8 (gT _));let D:=aP.made (C:=C) I;let J:Vals (V.ref (s.heap.objs.size+1)::(vs++j9)) (Value.ref (s.heap.objs.size+1)::(us++ds)):=.cons rK (r.append hd);let hl:(Value.ref (s.heap.objs.size+1)::us++ds).length=ps.length:=by let e:=J.length;rw[F.len _ _ _ _ G]at e;show e.symm
 refine lm (abz (f:=f) I.iZ M.makes M.init (beq_iff_eq.mp M.fn) (kU (F.run _ X.stack _ _ ⟨Value.ref (s.heap.objs.size+1)::us,[]⟩ (Value.ref (s.heap.objs.size+1)::(us++ds)) _ _ E (O.make C us [])
  (D.env0.make C us []) (hb _ (Value.ref (s.heap.objs.size+1)::us) D.iZ hl) J G) λr s' j=>?_))
 cases r with
 | error e=>show hx ak σ _ _ e s' D j
 | ok fl=>
  cases fl with
  | ret u=>let⟨v,H',Y,rv,ev,q3⟩:=D.after j;subst ev;show⟨rv,(JA (V.ref (s.heap.objs.size+1)) H' ⟨Y,rK,q3⟩)⟩
  | next=>show False.elim j
  | brk=>show False.elim j
  | cont=>show False.elim j
def ad9 (M:Mk X.K C f)(F:bW X.prog X.w X.K X.mg X.base CX k f fd ps sp)(J:fK (k+1) X.A)(Y:Gl X x)(hm:X.mg x=some (.ref C))(hb:bK X.K fd ps ds)(hd:Vals j9 ds)(hx:Passes CX X E)(ha:PA X (e::es) t)(D:(x==("__debug__":Str))=false:=by decide)(O:starEach (e::es) X.env=(false,eval e X.env)::starEach es X.env:=by rfl)(j:(backTo pos (starEach es X.env)).any (·.1)=false:=by rfl):PE X (.Call (.Name x p) (e::es) [] pos) (adx C sp j9 E t):=by intro ak s σ H Q I h;calc g9 (o8 I Y hm ?_ D);calc jp (h₀:=X.base) I.ok.mod.Ij M.kp (b_ (ha pos ak s σ H _ I h) λus s1 ⟨vs,H1,G,r,q⟩=>⟨G.iZ,?_⟩) O j;show abB M F J hb hd hx G r q
end
structure aZ (N P:List Str)(sc:Scope):Prop where
 kind:sc.kind=.function:=by rfl
 co:sc.isCoroutine=false:=by rfl
 gen:sc.isGenerator=false:=by rfl
 nd:N.Nodup:=by decide +kernel
 pre:N.take P.length=P:=by rfl
 par:∀x∈P,sc.names.lookup x=some .local\/sc.names.lookup x=some .cell:=by decide +kernel
 agr:∀y∈sc.names,y.2≠.free:=by decide +kernel
theorem Mt {kindOf:Str->Option NameKind}{x:Str}:∀{binds:List (Str×Value)} {m:Str->Option Value},(∀v,(x,v)∉binds)->bindL kindOf binds m x=m x
 | [],_,_=>rfl
 | (n,v)::r,m,h=>by
  unfold bindL;rw[Mt λw hw=>h w (bE _ hw)];split
  .have:x≠n:=by rintro rfl;show h v b9
   simp[this]
  .rfl
theorem Mu {kindOf:Str->Option NameKind}{x:Str}:∀{binds:List (Str×Value)} {m:Str->Option Value},(∀v,(x,v)∉binds)->bindC kindOf binds m x=m x
 | [],_,_=>rfl
 | (n,v)::r,m,h=>by
  unfold bindC;rw[Mu λw hw=>h w (bE _ hw)];split;.rfl
  .have:x≠n:=by rintro rfl;show h v b9
   simp[this]
theorem Mv {kindOf:Str->Option NameKind}{x:Str}:∀{P:List Str} {vs:List Value} {i:Nat} {m:Str->Option Value},P.Nodup->P[i]?=some x->vs[i]?=some v->kindOf x=some .local->
  bindL kindOf (P.zip vs) m x=some v
 | [],_,_,_,_,h,_,_=>by simp at h
 | _::_,[],_,_,_,_,h,_=>by simp at h
 | p::P,w::vs,0,m,nd,h1,h2,hk=>by simp at h1 h2;subst h1;subst h2;show bindL kindOf ((p,w)::P.zip vs) m p=_;unfold bindL;rw[Mt λv j=>(ib.mp nd).1 (pj j).1,if_pos hk];simp
 | p::P,w::vs,i+1,m,nd,h1,h2,hk=>by show bindL kindOf ((p,w)::P.zip vs) m x=_;unfold bindL;show Mv (i:=i) (ib.mp nd).2 (by simpa using h1) (by simpa using h2) hk
theorem Mw {kindOf:Str->Option NameKind}{x:Str}:∀{P:List Str} {vs:List Value} {i:Nat} {m:Str->Option Value},P.Nodup->P[i]?=some x->vs[i]?=some v->kindOf x≠some .local->
  bindC kindOf (P.zip vs) m x=some v
 | [],_,_,_,_,h,_,_=>by simp at h
 | _::_,[],_,_,_,_,h,_=>by simp at h
 | p::P,w::vs,0,m,nd,h1,h2,hk=>by simp at h1 h2;subst h1;subst h2;show bindC kindOf ((p,w)::P.zip vs) m p=_;unfold bindC;rw[Mu λv j=>(ib.mp nd).1 (pj j).1,if_neg hk];simp
 | p::P,w::vs,i+1,m,nd,h1,h2,hk=>by show bindC kindOf ((p,w)::P.zip vs) m x=_;unfold bindC;show Mw (i:=i) (ib.mp nd).2 (by simpa using h1) (by simpa using h2) hk
def start (N:List Str)(vs:List V):St:=vs.map some++List.replicate (N.length-vs.length) none
noncomputable def sY (CX:uH)(P:Program)(w:World)(K:W.Frag)(mg:Str->Option Value)(base:Heap)(N:List Str)(qual:Str)(scope:Scope)(f:Addr)(cd:Value)(A:Around)(outer:List Env)(s:Shared)(H:Hp)(E:XK):Cx where
 prog:=P
 w:=w
 K:=K
 mg:=mg
 base:=base
 A:=A.deeper (envOfC qual scope s.heap.objs.size f cd)
 N:=N
 s₀:=s
 H₀:=H
 env:=envOfC qual scope s.heap.objs.size f cd
 outer:=outer
 stack:=envOfC qual scope s.heap.objs.size f cd::outer
 ex:=[]
 calm:=true
 fn:=λ_=>true
 pn:=[]
 xe:=λe s'=>wpAny (model P w) (A.deeper (envOfC qual scope s.heap.objs.size f cd)) (leaving (envOfC qual scope s.heap.objs.size f cd) e) (λ_ j=>CX outer H s E e j) (λD j=>CX outer H s E D j) s'
def P_ {sc:Scope}(h:sc.names.lookup x=some .cell):∃c,(cellsFrom n sc.names []).lookup x=some c:=by let q:=W.cellsFrom_some sc.names n [] (.inl h);show Option.isSome_iff_exists.mp q
def Zj {CX:uH}{K:W.Frag}{mg:Str->Option Value}{N ps:List Str}{qual:Str}{scope:Scope}{A:Around}{outer:List Env}{E:XK}{vs:List V}(S:aZ N ps scope)(hd:A.handled=none)(j:Gy P w K mg base A outer s H)(hl:vs.length=ps.length)(r:Vals vs us)(x:InCallC s s.heap.objs.size (bindL (envOfC qual scope s.heap.objs.size f cd).kindOf (ps.zip us) λ_=>none) (cellsFrom (s.heap.objs.size+1) scope.names []) (bindC (envOfC qual scope s.heap.objs.size f cd).kindOf (ps.zip us) λ_=>none) s1):aP (sY CX P w K mg base N qual scope f cd A outer s H E) [] (start N vs) H s1:=by
 let I:ps.length<=N.length:=by have:=congrArg List.length S.pre;rw[av]at this;lia
 let⟨h1,tk,rfl,F⟩:=x.done;let Z:∀b:Addr,b∉(sY CX P w K mg base N qual scope f cd A outer s H E).ex:=λb z=>absurd (show b∈([]:List Addr) from z) qa;refine⟨⟨j.mod,S.kind,rK,rK,al _,λy z c h1 h2=>?_,λy hy=>?_,λy c _ h=>?_,λ_=>hd,Around.frames_deeper j.frames,.inr ⟨rK,rK⟩,λb z=>absurd z (Z b),j.bs,j.Bv,λb _ _=>Z b,λb z=>absurd z (Z b),j.pP,j.Ci⟩,
  rfl,j.bare,Un.kept F,⟨_,x.toInCall.ns,λi y v h1 h2 h3=>?_⟩,λy c h=>⟨_,x.cell y c h⟩,j.hok.fresh (al _),λy c h=>?_,λp hp=>absurd (show p∈([]:AH) from hp) qa,j.hok.kept F,?_⟩
 .show name_of_addr x.apart (iS h1) (iS h2)
 .let hy:scope.names.lookup y=some .cell\/scope.names.lookup y=some .free:=hy;rcases hy with hy|hy;.show P_ hy
  .show absurd rK (S.agr _ (iS hy))
 .show ap (x.above y c (iS h))
 .let hi:i<vs.length:=by
   unfold start at h2;by_cases hi:i<vs.length;.show hi
   .rw[dA (by simpa using hi)]at h2;rw[List.getElem?_replicate]at h2;split at h2 <;> cases h2
  let ha:vs[i]?=some v:=by
   unfold start at h2;rw[dS (by simpa using hi),bS]at h2;cases e:vs[i]? with
   | none=>rw[e]at h2;cases h2
   | some a=>rw[e]at h2;cases h2;rfl
  let⟨u,G,J⟩:=r.get ha;let hp:ps[i]?=some y:=by rw[<-S.pre,List.getElem?_take_of_lt (by simp_all)];show h1
  let D:ps.Nodup:=by rw[<-S.pre];show S.nd.sublist (List.take_sublist _ _)
  calc⟨u,J,?_⟩;rcases S.par y (bp hp) with k|k;.show .inl ⟨k,Mv D hp G k⟩
  .let⟨c,e⟩:=P_ (n:=s.heap.objs.size+1) k;calc .inr ⟨.inl k,c,e,?_⟩;let q:=x.cell y c e;rw[Mw D hp G (by show scope.names.lookup y≠_;rw[k];decide)]at q;show q
 .show j.hok.fresh (ap (x.above y c (iS h)))
 .unfold start;show _=N.length;rw[ay,aa,cq];simp_all
def ady {CX:uH}{P:Program}{w:World}{K:W.Frag}{mg:Str->Option Value}{base:Heap}{k:Nat}{f:Addr}{name qual:Str}{j:Arguments}{body:List Stmt}{scope:Scope}{dV kV doc pm bH ct oc:Value}{an od:Option Addr}{osl:Array (Option Value)}{N ps:List Str}{sp:Sp}(lk:K.lookup f=some ⟨oc,od,.func (W.fnOf name qual j body scope dV kV doc pm an bH ct),osl⟩)(hcd:W.codeIn K bH qual=true)(S:aZ N ps scope)(len:∀vs H Q E,sp vs H Q E->vs.length=ps.length)(D:∀(A:Around) (outer:List Env) (s:Shared) (H:Hp) (vs:List V) (Q:VK) (E:XK),fK k (A.deeper (envOfC qual scope s.heap.objs.size f bH))->sp vs H Q E->
   ∃t,vZ (sY CX P w K mg base N qual scope f bH A outer s H E) body t/\t {nx:=λ_ H'=>Q .non H',rt:=Q} (start N vs) H) :
  bW P w K mg base CX (k+1) f (W.fnOf name qual j body scope dV kV doc pm an bH ct) ps sp:=by
 calc⟨len,λA outer s H args us vs Q E Z O hb r G=>?_⟩;let hl:=len _ _ _ _ G;let KX:K.In s.heap:=O.mod.Ij.keeps λb o e=>(O.bs b o e).1;let lim:s.heap.NoLimit:=O.mod.nolimit.keeps λb o e=>(O.bs b o e).1;let F:∀y∈ps.zip us,scope.names.lookup y.1=some .local\/(scope.names.lookup y.1=some .cell/\((cellsFrom (s.heap.objs.size+1) scope.names []).lookup y.1).isSome=true):=λ⟨n,v⟩ hy=>by
  rcases S.par n (pj hy).1 with q|q;.show .inl q
  .show .inr ⟨q,W.cellsFrom_some _ _ _ (.inl q)⟩
 calc codeAny_call_function Z.depth (KX _ _ lk) rK S.co S.gen rK (W.codeRec_of KX hcd) (hb _ _ _ _ ?_);calc wpAny_newFunctionEnv_cells S.kind F λenv he s1 x=>?_;subst he;calc⟨lim.keeps x.toInCall.keep,codeAny_func ?_⟩;let⟨t,ht,hq⟩:=D A outer s H vs Q E (Z.deeper _) G;let I:aP (sY CX P w K mg base N qual scope f bH A outer s H E) [] (start N vs) H s1:=Zj S Z.hd O hl r x;calc eK (ht [] s1 (start N vs) H _ I hq) (λfl s' hs=>?_) λe s' hs=>hs;let Y:∀{σ':St} {H':Hp} {v:V} {u:Value},aP (sY CX P w K mg base N qual scope f bH A outer s H E) [] σ' H' s'->cB v u->Q v H'->CE outer P w H s Q u s':=λ{σ' H' v u} J rv q=>(JA v H' ⟨J.os,J.bare,J.base,J.hok,rv,q⟩)
 cases fl with
 | ret u=>let⟨v,σ',H',J,rv,q⟩:=hs;show Y J rv q
 | next=>let⟨σ',H',J,q⟩:=hs;show Y (v:=V.non) (u:=Value.none) J rK q
 | brk=>let⟨_,_,_,q⟩:=hs;show False.elim q
 | cont=>let⟨_,_,_,q⟩:=hs;show False.elim q
section
variable {X:Cx}{x:Str}{p pos:Pos}{e:Expr}{es:List Expr}{t:TA}{id T:String}{r:List V->Hp->VK->Prop}
def tCB (r:List V->Hp->VK->Prop)(t:TA):TE:=λσ H Q=>t σ H λvs H1=>r vs H1 Q
def abC (Y:iI X (.builtin id) r)(O:Gl X x)(hm:X.mg x=none)(J:bootBuiltins x=some (.builtin id))(ha:PA X (e::es) t)(hn:x≠"__name__":=by decide)(D:(x==("__debug__":Str))=false:=by decide)(G:starEach (e::es) X.env=(false,eval e X.env)::starEach es X.env:=by rfl)(j:(backTo pos (starEach es X.env)).any (·.1)=false:=by rfl):PE X (.Call (.Name x p) (e::es) [] pos) (tCB r t):=by intro ak s σ H Q I h;calc g9 (qU I O hm J ?_ hn D);show mT (b_ (ha pos ak s σ H _ I h) λus s1 ⟨vs,H1,F,r1,q1⟩=>Y ak s1 σ H1 vs us Q F r1 q1) G j
def Zn (Y:iI X (.type T) r)(O:Gl X x)(hm:X.mg x=none)(J:bootBuiltins x=some (.type T))(ha:PA X (e::es) t)(hn:x≠"__name__":=by decide)(D:(x==("__debug__":Str))=false:=by decide)(G:starEach (e::es) X.env=(false,eval e X.env)::starEach es X.env:=by rfl)(j:(backTo pos (starEach es X.env)).any (·.1)=false:=by rfl):PE X (.Call (.Name x p) (e::es) [] pos) (tCB r t):=by intro ak s σ H Q I h;calc g9 (qU I O hm J ?_ hn D);show ee (b_ (ha pos ak s σ H _ I h) λus s1 ⟨vs,H1,F,r1,q1⟩=>Y ak s1 σ H1 vs us Q F r1 q1) G j
end
end L2
namespace HT
open PySem PyProof.Rows
section
variable {prog:Program}{w:World}{A:Around}{E:AE}{s:Shared}
def ad_ {vs ws:List Value}(ht:IsTup s.heap t vs.toArray)(hb:IsTup s.heap b ws.toArray)(Y:vs≠[])(h1:ws=[]->Q (.ref t) s)(h2:ws≠[]->Q (.ref s.heap.objs.size) {s with heap:=s.heap.push {cls:=.type "tuple",data:=.seq (vs++ws).toArray} })(hsz:vs.length+ws.length<=sizeLine):wpAny (model prog w) A (binaryOp .Add (.ref t) (.ref b)) Q E s:=by
 obtain⟨⟨cls,dd,data,sl⟩,J,hc,n,hd⟩:=id ht;obtain⟨⟨cls2,G,O,I⟩,j,D,Z,F⟩:=id hb;simp only at hc hd D F;subst hc hd D F;let e:vs.toArray++ws.toArray=(vs++ws).toArray:=qa;by_cases hw:ws=[]
 .show concat_meets ⟨_,J,rK⟩ ⟨_,j,rK⟩ noFill_tuple_add seq_tuple_add ma ly (kX _ _)
   (tuple_addW1 t b vs.toArray ws.toArray n Z dd G sl I (by simpa using Y) (by simp[hw])) ⟨J,j,h1 hw⟩
 .refine concat_meets ⟨_,J,rK⟩ ⟨_,j,rK⟩ noFill_tuple_add seq_tuple_add ma ly (kX _ _)
   (tuple_addW2 t b vs.toArray ws.toArray n Z dd G sl I (by simpa using Y) (by simpa using hw) (by rw[bd,bd];show hsz)) ⟨J,j,?_⟩
  rw[e];show h2 hw
def cV (n d:Nat):Option Int->Nat
 | none=>d
 | some v=>if v<0 then (v+(n:Int)).toNat else min v.toNat n
def tu (n d):cV n d none=d:=rfl
def lg (n d k:Nat):cV n d (some (k:Int))=min k n:=by show (if (k:Int)<0 then ((k:Int)+(n:Int)).toNat else min (k:Int).toNat n)=min k n;rw[if_neg p_,dv]
def Zo (n d)(hd:d<=n)(o):cV n d o<=n:=by
 cases o with
 | none=>show hd
 | some v=>
  show (if v<0 then (v+(n:Int)).toNat else min v.toNat n)<=n;by_cases j:v<0;.rw[if_pos j];lia
  .rw[if_neg j];show Nat.min_le_right _ _
def Kg (v:Int)(n d:Nat):(if v<0 then max (v+(n:Int)) 0 else min v (n:Int))=((cV n d (some v):Nat):Int):=by
 show (if v<0 then max (v+(n:Int)) 0 else min v (n:Int))=(((if v<0 then (v+(n:Int)).toNat else min v.toNat n):Nat):Int)
 by_cases j:v<0;.simp only[if_pos j];lia
 .simp only[if_neg j];grind
def Xe (lo hi:Option Int)(n:Nat):Builtin.Slice.sliceAdjust lo hi 1 (n:Int)=(((cV n 0 lo:Nat):Int),((cV n n hi:Nat):Int)):=by
 let h1:¬((1:Int)<0):=p_;unfold Builtin.Slice.sliceAdjust;simp only[h1,if_false];refine Prod.ext ?_ ?_
 .cases lo with| none=>rfl| some v=>show Kg v n 0
 .cases hi with| none=>rfl| some v=>show Kg v n n
def Xf (i j:Nat):Builtin.Slice.slicePlaces (i:Int) (j:Int) 1=j-i:=by unfold Builtin.Slice.slicePlaces;let h1:(1:Int) > 0:=p_;simp only[h1,if_true,Int.ediv_one];split <;> simp_all
def Ir (p:IsPart v o)(h:Q o s):wpAny (model prog w) A (Builtin.Slice.slicePartIndex v) Q E s:=by
 cases p with| none=>show slicePart_none h| int i t=>show slicePart_int h
def wj {sl:Addr}{G F:Value}{lo hi:Option Int}{n:Nat}{Q:Int×Int×Nat->Shared->Prop}(hs:s.heap.IsSliceOf sl G F .none)(pl:IsPart G lo)(I:IsPart F hi)(h:Q (((cV n 0 lo:Nat):Int),1,cV n n hi-cV n 0 lo) s):wpAny (model prog w) A (Builtin.Slice.sliceApplied (.ref sl) (pure (n:Int))) Q E s:=by let⟨os,D,J,j⟩:=id hs;unfold Builtin.Slice.sliceApplied Builtin.Slice.sliceFields;calc ac (ac (cS D j (x:=G) rK (ac (cS D j (x:=F) rK (ac (cS D j (x:=.none) rK (am ?_)))))));calc ac (slicePart_none ?_);show wpAny _ _ (if ((1:Int)==0)=true then _ else _) _ _ s;rw[if_neg qc];calc ac (Ir pl (ac (Ir I (ac (am ?_)))));show wpAny _ _ (match Builtin.Slice.sliceAdjust lo hi 1 (n:Int) with|(lo,hi)=>pure (lo,(1:Int),Builtin.Slice.slicePlaces lo hi 1)) _ _ s;rw[Xe lo hi n];show wpAny _ _ (pure (((cV n 0 lo:Nat):Int),(1:Int),Builtin.Slice.slicePlaces ((cV n 0 lo:Nat):Int) ((cV n n hi:Nat):Int) 1)) _ _ s;rw[Xf];show am h
def abD (xs:Array Value)(i k:Nat):((List.range k).filterMap λ(m:Nat)=>xs[((i:Int)+(m:Int)*1).toNat]?).toArray=((xs.toList.drop i).take k).toArray:=by
 let e:(λ(m:Nat)=>xs[((i:Int)+(m:Int)*1).toNat]?)=λm=>xs[i+m]?:=by
  funext m;have:((i:Int)+(m:Int)*1).toNat=i+m:=by lia
  rw[this]
 rw[e];have:=pick_run xs i k;rw[List.filterMap_map]at this;let e2:((λx=>xs[x]?) ∘ λx=>i+x)=λm=>xs[i+m]?:=rfl;rw[e2]at this;rw[this]
def FN {lo hi:Option Int}(ht:IsTup s.heap t items)(hs:s.heap.IsSliceOf sl vl vu .none)(pl:IsPart vl lo)(I:IsPart vu hi)(hw:¬(cV items.size 0 lo=0/\cV items.size items.size hi=items.size))(h:Q (.ref s.heap.objs.size) {s with heap:=s.heap.push {cls:=.type "tuple",data:=.seq ((items.toList.drop (cV items.size 0 lo)).take (cV items.size items.size hi-cV items.size 0 lo)).toArray} })(hsz:items.size<=sizeLine):wpAny (model prog w) A (getItem (.ref t) (.ref sl)) Q E s:=by
 let O:sizeOk (.seq ((items.toList.drop (cV items.size 0 lo)).take (cV items.size items.size hi-cV items.size 0 lo)).toArray):=by show ((items.toList.drop (cV items.size 0 lo)).take (cV items.size items.size hi-cV items.size 0 lo)).toArray.size<=sizeLine;rw[bd,av,ba,fz];lia
 let Y:cV items.size items.size hi<=items.size:=Zo _ _ (al _) hi;let⟨os,j,D,J⟩:=id hs;let F:s.TypeIs (.ref sl) "slice":=⟨os,j,D⟩
 unfold getItem
 try with_reducible refine ik ?_
 first|refine ac (am ?_)|skip
 calc ac (wpAny_sequenceKey ht.typeIs qc ?_);refine ac (eI (name:=Str.ofString "__getitem__") ht.typeIs fm
  (fb fm ht.typeIs entry_tuple_getitem ?_ (args_tuple_getitem _ _)))
 show wpAny _ _ (Builtin.Tuple.tupleItemsOf (.ref t) >>= _) _ _ s;calc ac (tupleItemsOf_ ht ?_);calc ac (wpAny_typeOf F ?_);rw[if_pos qc];calc ac (wj hs pl I ?_);let G:¬((((cV items.size 0 lo:Nat):Int)==0&&(1:Int)==1&&(cV items.size items.size hi-cV items.size 0 lo)==items.size)=true):=by intro q;rw[bX,bX]at q;let q1:((cV items.size 0 lo:Nat):Int)=0:=eq_of_beq q.1.1;let q2:cV items.size items.size hi-cV items.size 0 lo=items.size:=eq_of_beq q.2;show hw ⟨Iff.mp Int.ofNat_inj q1,by simp_all⟩
 show wpAny _ _ (if (((cV items.size 0 lo:Nat):Int)==0&&(1:Int)==1&&(cV items.size items.size hi-cV items.size 0 lo)==items.size)=true then _ else _) _ _ s;rw[if_neg G,abD]
 first| show ac (m:=Builtin.Tuple.tupleExact _) (fw (am ⟨_,rK,am h⟩) O)| show ac (m:=Builtin.Tuple.tupleExact _) (fw (ac (am (am ⟨_,rK,am h⟩))) O)| show ac (ac (m:=Builtin.Tuple.tupleExact _) (fw (am (am ⟨_,rK,am h⟩)) O))| show ac (ac (m:=Builtin.Tuple.tupleExact _) (fw (am ⟨_,rK,am h⟩) O))
end
end HT
namespace L2
open PySem PySem.Spec PyProof.Rows
abbrev TO:=St->Hp->(Option Int->Hp->Prop)->Prop
def PO (X:Cx)(e:Option Expr)(t:TO):Prop:=∀(ak:AH) (s:Shared) (σ:St) (H:Hp) (Q:Option Int->Hp->Prop),aP X ak σ H s->t σ H Q->
  wpAny (model X.prog X.w) X.A (evalPart e X.env) (λu s'=>∃o H',aP X ak σ H' s'/\IsPart u o/\Q o H') X.xe s
def U_:TO:=λ_ H Q=>Q none H
def adz (t:TE):TO:=λσ H Q=>t σ H λx H1=>∃i,x=.int i/\Q (some i) H1
section
variable {X:Cx}{e:Expr}{te:TE}{lo hi:Option Expr}{tl th:TO}{pos p2:Pos}
def aea:PO X none U_:=by intro ak s σ H Q I h;rw[evalPart_none];show am (JA none H ⟨I,.none,h⟩)
def aeb (h:PE X e te):PO X (some e) (adz te):=by intro ak s σ H Q I hw;rw[evalPart_some];calc b_ (h ak s σ H _ I hw) λu s1 D=>?_;let⟨x,H1,j,r1,q1⟩:=D;let⟨i,rfl,q⟩:=q1;let⟨t,rfl⟩:=r1;show JA (some i) H1 ⟨j,.int i t,q⟩
def Va (X:Cx)(r:V->Option Int->Option Int->Hp->VK->Prop):Prop:=∀(ak:AH) (s:Shared) (σ:St) (H:Hp) (x:V) (v D j:Value) (lo hi:Option Int) (sl:Addr) (Q:VK),aP X ak σ H s->cB x v->s.heap.IsSliceOf sl D j .none->IsPart D lo->IsPart j hi->r x lo hi H Q->
  ∃T id,typeLookup (.type T) "__getitem__"=pure (some (.builtin id))/\s.TypeIs v T/\wpAny (model X.prog X.w) X.A (getItem v (.ref sl)) (EP X ak σ Q) X.xe s
def tSl (r:V->Option Int->Option Int->Hp->VK->Prop)(te:TE)(tl th:TO):TE:=λσ H Q=>te σ H λx H1=>tl σ H1 λl D=>th σ D λu j=>r x l u j Q
def abE (Y:Va X r)(Z:PE X e te)(hl:PO X lo tl)(hu:PO X hi th):PE X (.Subscript e (.Slice lo hi none p2) pos) (tSl r te tl th):=by intro ak s σ H Q I h;calc Subscript_ (b_ (Z ak s σ H _ I h) λv s1 D=>?_);let⟨x,H1,O,r1,q1⟩:=D;calc wpAny_Slice (b_ (hl ak s1 σ H1 _ O q1) λG s2 D=>?_);let⟨l,H2,I2,pl,q2⟩:=D;calc b_ (hu ak s2 σ H2 _ I2 q2) λF j D=>?_;let⟨u,J,I3,pu,q3⟩:=D;rw[evalPart_none];calc am ?_;let I4:aP X ak σ J {j with heap:=j.heap.push {cls:=.type "slice",data:=.fields #[G,F,.none]} }:=I3.kept (t':=j.toks) λb ob q=>ae _ q;let⟨T,id,hT,ht,hg⟩:=Y ak {j with heap:=j.heap.push {cls:=.type "slice",data:=.fields #[G,F,.none]} } σ J x v G F l u j.heap.objs.size Q I4 r1 (Heap.IsSliceOf.new ..) pl pu q3;show wpAny (model X.prog X.w) X.A (subscriptTail e (.Slice lo hi none p2) v (.ref j.heap.objs.size)) (EP X ak σ Q) X.xe {j with heap:=j.heap.push {cls:=.type "slice",data:=.fields #[G,F,.none]} };show tail_any (ops:=[.ref j.heap.objs.size,v]) ht hT hg (by with_unfolding_all rfl)
noncomputable def gQ (xs:List V)(lo hi:Option Int):List V:=(xs.drop (HT.cV xs.length 0 lo)).take (HT.cV xs.length xs.length hi-HT.cV xs.length 0 lo)
def Gb (xs)(lo hi):(gQ xs lo hi).length<=xs.length:=by unfold gQ;rw[av,ba];lia
def Vals.zj (r:Vals xs us):us=[]↔xs=[]:=by
 cases r with| nil=>simp| cons _ _=>simp
end
noncomputable def Bw (n:Nat)(i:Int):Option Nat:=if 0<=i then (if i<n then some i.toNat else none) else if -(n:Int)<=i then some (i+n).toNat else none
def sS {α:Type}(xs:List α)(i:Int):Option α:=(Bw xs.length i).bind λj=>xs[j]?
def Vb (h:Bw n i=some j):seqIndex? i n=some j/\j<n/\-(n:Int)<=i/\i<n:=by
 unfold Bw at h;by_cases h0:0<=i
 .rw[if_pos h0]at h;by_cases h1:i<n
  .rw[if_pos h1]at h;let e:i.toNat=j:=be h;show⟨by rw[seqIndex_of h0 h1,e],p_,p_,h1⟩
  .rw[if_neg h1]at h;cases h
 .rw[if_neg h0]at h;by_cases h1:-(n:Int)<=i
  .rw[if_pos h1]at h;let e:(i+n).toNat=j:=be h;show⟨by rw[seqIndex_neg p_ h1,e],p_,h1,p_⟩
  .rw[if_neg h1]at h;cases h
def Kh {α:Type}{xs:List α}{v:α}(h:sS xs i=some v):∃j,seqIndex? i xs.length=some j/\xs[j]?=some v/\j<xs.length/\-(xs.length:Int)<=i/\i<xs.length:=by
 unfold sS at h;cases e:Bw xs.length i with
 | none=>rw[e]at h;cases h
 | some j=>rw[e]at h;let⟨h1,h2,h3,h4⟩:=Vb e;show⟨j,h1,h,h2,h3,h4⟩
def aQ {α:Type}{xs:List α}{j:Nat}{v:α}(h:xs[j]?=some v):sS xs (j:Int)=some v:=by
 let D:j<xs.length:=(ah.mp h).1;let e:Bw xs.length (j:Int)=some j:=by unfold Bw;rw[if_pos p_,if_pos (Iff.mpr nc D)];simp
 unfold sS;rw[e];show h
def Gz {α:Type}(xs:List α)(v:α):sS (xs++[v]) (-1)=some v:=by
 let hl:(xs++[v]).length=xs.length+1:=qa;let e:Bw (xs++[v]).length (-1)=some xs.length:=by unfold Bw;rw[hl,if_neg qc,if_pos p_];congr 1;simp +arith
 unfold sS;rw[e];show (xs++[v])[xs.length]?=some v;simp
def Ey (b:Expr):Prop:=∀o i,subscripted b false o i=operate [o,i] (getItem o i)
def Gd (X:Cx)(r:R2):Prop:=∀(value j:Expr) (ak:AH) (s:Shared) (σ:St) (H:Hp) (x y:V) (v u:Value) (Q:VK),aP X ak σ H s->cB x v->cB y u->r x y H Q->
  subscripted j false v u=operate [v,u] (getItem v u)->wpAny (model X.prog X.w) X.A (subscriptTail value j v u) (EP X ak σ Q) X.xe s
def xu (X:Cx)(id:String)(r:V->List V->Hp->VK->Prop):Prop:=∀(ak:AH) (s:Shared) (σ:St) (H:Hp) (x:V) (xs:List V) (v:Value) (us:List Value) (Q:VK),aP X ak σ H s->cB x v->Vals xs us->r x xs H Q->
  wpAny (model X.prog X.w) X.A (call (.builtin id) (v::us)) (EP X ak σ Q) X.xe s
section
variable {X:Cx}{a b:Expr}{ta tb:TE}{pos:Pos}
def ain (j:Gd X r)(ha:PE X a ta)(hb:PE X b tb)(hs:Ey b):PE X (.Subscript a b pos) (Ga r ta tb):=by intro ak s σ H Q I h;show Subscript_ (abv ha hb I h λv u s2 x y G F J D q=>j a b ak s2 σ G x y v u Q F J D q (hs _ _))
def ags (K:W.Frag):R2:=λx y H Q=>∃p xs i v,x=.ref p/\y=.int i/\bC K H p xs/\sS xs i=some v/\Q v H
def agt (K:W.Frag):R2:=λx y H Q=>∃p xs i v,x=.ref p/\y=.int i/\aN K H p xs/\sS xs i=some v/\Q v H
def ai9:R2:=λx y H Q=>∃z i c,x=.str z/\y=.int i/\z.length<=sizeLine/\sS z.cps.toList i=some c/\Q (.str ⟨#[c]⟩) H
def iH:Gd X (ags X.K):=by
 intro value G ak s σ H x y v u Q I rx Z h hs;let⟨p,xs,i,z,rfl,rfl,hq,O,q⟩:=h;cases rx;let⟨t,rfl⟩:=Z;let⟨its,r,pl,hz⟩:=I.list hq;let⟨j,h1,h2,h3,h4,h5⟩:=Kh O;let⟨w,J,Y⟩:=r.get h2;let hl:=r.length;let hn:=zc;let D:EP X ak σ Q w s:=(JA z H ⟨I,Y,q⟩)
 by_cases h0:0<=i
 .let F:i.toNat=j:=by
   rw[seqIndex_of h0 h5]at h1;show be h1
  show item_listR pl.isList h0 p_ (by rw[F];simpa using J) D hs
 .let F:(i+(its.toArray.size:Int)).toNat=j:=by
   rw[seqIndex_neg p_ h4]at h1;rw[bd,<-hl];show be h1
  show subscriptTail_builtinR (x:=w) pl.isList.typeIs slot_list_getitem.lookup
   (wpAny_getItem_list_neg (Q:=λr s'=>r=w/\EP X ak σ Q r s') pl.isList p_ (by rw[bd] <;> lia) p_ (by rw[F];simpa using J) ⟨rK,D⟩) hs
def bw:Gd X (agt X.K):=by
 intro value D ak s σ H x y v u Q I rx Y h hs;let⟨p,xs,i,z,rfl,rfl,Z,G,q⟩:=h;cases rx;let⟨t,rfl⟩:=Y;let⟨its,r,pl,hz⟩:=I.tuple Z;let⟨j,h1,h2,h3,h4,h5⟩:=Kh G;let⟨w,J,O⟩:=r.get h2;let hl:=r.length;let hn:=zc;let F:EP X ak σ Q w s:=(JA z H ⟨I,O,q⟩)
 show subscriptTail_builtinR (x:=w) pl.typeIs slot_tuple_getitem.lookup
  (getItem_tuple (j:=j) (Q:=λr s'=>r=w/\EP X ak σ Q r s') pl p_ p_ (by rw[bd,<-hl];show h1) (by simpa using J) ⟨rK,F⟩) hs
def agu:Gd X ai9:=by
 intro value D ak s σ H x y v u Q I J G h hs;let⟨z,i,c,rfl,rfl,hz,F,q⟩:=h;let⟨t,rfl⟩:=J;let⟨t',rfl⟩:=G;let⟨j,h1,h2,h3,h4,h5⟩:=Kh F;let hl:z.cps.toList.length=z.length:=by simp[Str.length]
 rw[hl]at h1 h4 h5;let hn:=zc;show tail_any (typeIs_str s z t) slot_str_getitem.lookup (getItem_str (c:=c) (by
  let e1:decide (i < -(2^63:Int))=false:=ag p_;let e2:decide (i>=2^63)=false:=ag p_;rw[e1,e2,Bool.or_false]) (by rw[h1];simpa using h2) (JA (.str ⟨#[c]⟩) H ⟨I.tok _,⟨_,rK⟩,q⟩)) hs
def Xg (its:List Value)(n j)(u):Obj.mapSeq (·.setIfInBounds j u) {cls:=.type "list",data:=.seq its.toArray n}={cls:=.type "list",data:=.seq (its.set j u).toArray n}:=by simp[Obj.mapSeq]
def aP.lst {ak:AH}{σ:St}{H:Hp}{s:Shared}{p:Addr}{xs:List V}(I:aP X ak σ H s)(h:H p=some (.lst xs)):∃(its:List Value) (n:Nat),Vals xs its/\s.heap.get? p=some {cls:=.type "list",data:=.seq its.toArray n}/\xs.length<=sizeLine:=by let⟨z,its,n,r,e⟩:=I.hok p _ h;show JA its n ⟨r,e,z⟩
def aP.agv {ak:AH}{σ:St}{H:Hp}{s:Shared}{p:Addr}{xs ys:List V}{its its':List Value}{n j:Nat}{f:Obj->Obj}(I:aP X ak σ H s)(h:H p=some (.lst xs))(F:s.heap.get? p=some {cls:=.type "list",data:=.seq its.toArray n})(D:f {cls:=.type "list",data:=.seq its.toArray n}={cls:=.type "list",data:=.seq its'.toArray j })(r:Vals ys its')(hz:ys.length<=sizeLine)(t:Nat):aP X ak σ (upd H p (.lst ys)) {s with heap:=s.heap.update p f,toks:=t}:=by
 let e:(s.heap.update p f).get? p=some {cls:=.type "list",data:=.seq its'.toArray j }:=by rw[gm f F (by rw[D] <;> rfl),D]
 calc I.write (x:=p) (e:=p) (by rw[h];trivial) (.inl rK) (λb u hb q=>(fo _ _ (gI hb)).trans q) ⟨_,e⟩ ?_;show⟨hz,its',j,r,e⟩
def aio:V->V->V->Hp->(Hp->Prop)->Prop:=λo i v H Q=>∃p xs k j,o=.ref p/\i=.int k/\H p=some (.lst xs)/\Bw xs.length k=some j/\Q (upd H p (.lst (xs.set j v)))
def set_list:abu X aio:=by
 intro ak s σ H o i v ov Z u Q I O ri Y h;let⟨p,xs,k,j,rfl,rfl,hp,J,q⟩:=h;cases O;let⟨t,rfl⟩:=ri;let⟨its,n,r,F,hz⟩:=I.lst hp;let⟨h1,h2,h3,h4⟩:=Vb J;let hl:=r.length;let hn:=zc;let G:aP X ak σ (upd H p (.lst (xs.set j v))) {s with heap:=s.heap.update p (Obj.mapSeq (·.setIfInBounds j u))}:=I.agv hp F (Xg its n j u) (r.set Y j) (by rw[eW];show hz) s.toks
 by_cases h0:0<=k
 .let D:k.toNat=j:=by
   rw[seqIndex_of h0 h4]at h1;show be h1
  show W.ki_setAt F h0 p_ (by rw[bd,<-hl];show h4) (by rw[D];show⟨_,G,q⟩)
 .let D:(k+(its.toArray.size:Int)).toNat=j:=by
   rw[seqIndex_neg p_ h3]at h1;rw[bd,<-hl];show be h1
  show W.ki_setBack F p_ (by rw[bd,<-hl];show h3) p_ (by rw[D];show⟨_,G,q⟩)
def Qa (lo hi)(n):(sliceBounds lo hi none n).1=((HT.cV n 0 lo:Nat):Int)/\(sliceBounds lo hi none n).2.1=((HT.cV n n hi:Nat):Int)/\(sliceBounds lo hi none n).2.2=1:=by
 refine⟨?_,?_,rK⟩
 .cases lo with
  | none=>simp[sliceBounds,HT.cV]
  | some i=>
   simp only[sliceBounds,HT.cV,Option.getD_none,show (1:Int) > 0 by decide,if_true];by_cases h:i<0
   .simp only[h,if_true] <;> grind
   .simp only[h,if_false] <;> grind
 .cases hi with
  | none=>simp[sliceBounds,HT.cV]
  | some i=>
   simp only[sliceBounds,HT.cV,Option.getD_none,show (1:Int) > 0 by decide,if_true];by_cases h:i<0
   .simp only[h,if_true] <;> lia
   .simp only[h,if_false] <;> lia
def Oa (its:List Value)(lo hi):slicePick its.toArray lo hi none=((its.drop (HT.cV its.length 0 lo)).take (HT.cV its.length its.length hi-HT.cV its.length 0 lo)).toArray:=by let⟨h1,h2,h3⟩:=Qa lo hi its.toArray.size;unfold slicePick;rw[h1,h2,h3];simp only[sliceRange_one,pick_run,bd] <;> rfl
def agw (K:W.Frag):V->Option Int->Option Int->Hp->VK->Prop:=λx lo hi H Q=>∃a xs,x=.ref a/\bC K H a xs/\∀p,H p=none->Q (.ref p) (upd H p (.lst (gQ xs lo hi)))
def vR:Va X (agw X.K):=by intro ak s σ H x v J G lo hi sl Q I F hs pl j h;let⟨a,xs,rfl,hx,q⟩:=h;cases F;let⟨its,r,ht,hz⟩:=I.list hx;let D:=r.length;calc JA ("list") _ ⟨slot_list_getitem.lookup,ht.isList.typeIs,?_⟩;calc wpAny_getItem_list_slice ht.isList hs pl j .none qa ?_ (by rw[bd] <;> simp_all);rw[Oa,<-D];calc JA (.ref s.heap.objs.size) _ ⟨I.laid (t':=s.toks) (o:=.lst (gQ xs lo hi)) (λb ob q=>ae _ q) (al _) ?_,rK,q _ (I.hok.fresh (al _))⟩;show⟨bP (Gb xs lo hi) hz,_,0,(r.drop (HT.cV xs.length 0 lo)).take (HT.cV xs.length xs.length hi-HT.cV xs.length 0 lo),aI _ rK⟩
def vq:V->Bool
 | .non=>true
 | .bl _=>true
 | .int _=>true
 | .str _=>true
 | _=>false
noncomputable def Ge:V->V->Bool
 | .non,.non=>true
 | .bl a,.bl b=>a==b
 | .bl a,.int b=>(if a then 1 else 0)==b
 | .int a,.bl b=>a==(if b then 1 else 0)
 | .int a,.int b=>a==b
 | .str a,.str b=>a==b
 | _,_=>false
def agx (D:cB y u)(j:cB x v)(G:vq y=true)(F:vq x=true):SeqAt.EqAt A s u v (Ge y x):=by
 cases y with
 | non=>
  cases D;cases x with
  | non=>cases j;show SeqAt.EqAt.same _
  | bl b=>cases j;show SeqAt.EqAt.none_bool b
  | int b=>let⟨t,rfl⟩:=j;show SeqAt.EqAt.none_int b t
  | str b=>let⟨t,rfl⟩:=j;show SeqAt.EqAt.none_str b t
  | _=>show absurd (show false=true from F) bv
 | bl a=>
  cases D;cases x with
  | non=>cases j;show SeqAt.EqAt.bool_none a
  | bl b=>cases j;show SeqAt.EqAt.bool_bool a b
  | int b=>let⟨t,rfl⟩:=j;show SeqAt.EqAt.bool_int a b t
  | str b=>let⟨t,rfl⟩:=j;show SeqAt.EqAt.bool_str a b t
  | _=>show absurd (show false=true from F) bv
 | int a=>
  let⟨t',rfl⟩:=D;cases x with
  | non=>cases j;show SeqAt.EqAt.int_none a t'
  | bl b=>cases j;show SeqAt.EqAt.int_bool a t' b
  | int b=>let⟨t,rfl⟩:=j;show js a t' b t
  | str b=>let⟨t,rfl⟩:=j;show SeqAt.EqAt.int_str a t' b t
  | _=>show absurd (show false=true from F) bv
 | str a=>
  let⟨t',rfl⟩:=D;cases x with
  | non=>cases j;show SeqAt.EqAt.str_none a t'
  | bl b=>cases j;show SeqAt.EqAt.str_bool a t' b
  | int b=>let⟨t,rfl⟩:=j;show SeqAt.EqAt.str_int a t' b t
  | str b=>let⟨t,rfl⟩:=j;show SeqAt.EqAt.str_str a t' b t
  | _=>show absurd (show false=true from F) bv
 | _=>show absurd (show false=true from G) bv
noncomputable def Iw (x:V)(u:Value):Bool:=match u with| .none=>Ge .non x| .bool b=>Ge (.bl b) x| .int i _=>Ge (.int i) x| .str z _=>Ge (.str z) x| _=>false
def Zq (r:cB y u)(f:vq y=true):Iw x u=Ge y x:=by
 cases y with
 | non=>cases r;rfl
 | bl b=>cases r;rfl
 | int i=>let⟨t,rfl⟩:=r;rfl
 | str z=>let⟨t,rfl⟩:=r;rfl
 | _=>show absurd (show false=true from f) bv
theorem Km:∀{xs:List V} {us:List Value},Vals xs us->xs.all vq=true->us.any (Iw x)=xs.any λy=>Ge y x
 | _,_,.nil,_=>rfl
 | y::xs,u::us,.cons r t,f=>by rw[List.all_cons,bX]at f;rw[kK,kK,Zq r f.1,Km t f.2]
theorem GC (D:cB x v)(F:vq x=true):∀{xs:List V} {us:List Value},Vals xs us->xs.all vq=true->∀u∈us,SeqAt.EqAt A s u v (Iw x u)
 | _,_,.nil,_=>λu j=>by cases j
 | y::xs,u::us,.cons r t,f=>λG j=>by
  rw[List.all_cons,bX]at f;rcases bq.mp j with rfl|j;.rw[Zq r f.1];show agx r D f.1 F
  .show GC D F t f.2 G j
def inV (x:V)(xs:List V):Bool:=xs.any λy=>Ge y x
def rIn (K:W.Frag)(j:Bool):R2:=λx y H Q=>∃p xs,y=.ref p/\(bC K H p xs\/aN K H p xs)/\vq x=true/\xs.all vq=true/\Q (.bl (if j then !inV x xs else inV x xs)) H
def wk:fZ X (compareOp .NotIn) (rIn X.K true):=by
 intro ak s σ H x y v u Q I D G h;let⟨p,xs,rfl,j,F,fs,q⟩:=h;cases G;rcases j with j|j
 .let⟨its,r,pl,hz⟩:=I.list j;calc SeqAt.notIn_listAt (Iw x) pl.isList (λw hw=>GC D F r fs w (by simpa using hw)) (JA (.bl _) H ⟨I,rK,?_⟩);rw[show its.toArray.any (Iw x)=its.any (Iw x) by simp,Km r fs];show q
 .let⟨its,r,pl,hz⟩:=I.tuple j;calc SeqAt.notIn_tupleAt (Iw x) pl (λw hw=>GC D F r fs w (by simpa using hw)) (JA (.bl _) H ⟨I,rK,?_⟩);rw[show its.toArray.any (Iw x)=its.any (Iw x) by simp,Km r fs];show q
def bY:iI X (.builtin "len") (λxs H Q=>∃p ys,xs=[.ref p]/\(bC X.K H p ys\/aN X.K H p ys)/\Q (.int ys.length) H):=by
 intro ak s σ H xs us Q I r h;let⟨p,ys,rfl,j,q⟩:=h;let⟨u,rfl,G⟩:=vals1 r;cases G;let hn:=zc;rcases j with j|j
 .let⟨its,F,pl,hz⟩:=I.list j;let D:=F.length;show Calls.call_len_list pl.isList (by simp only[bd] <;> lia) (JA (.int ys.length) H ⟨I.tok _,⟨s.toks+1,by rw[bd,D]⟩,q⟩)
 .let⟨its,F,pl,hz⟩:=I.tuple j;let D:=F.length;show len_tuple pl (by simp only[bd] <;> lia) (JA (.int ys.length) H ⟨I.tok _,⟨s.toks+1,by rw[bd,D]⟩,q⟩)
def Qc:iI X (.builtin "len") (λxs H Q=>∃z,xs=[.str z]/\z.length<=sizeLine/\Q (.int z.length) H):=by intro ak s σ H xs us Q I r h;let⟨z,rfl,hz,q⟩:=h;let⟨u,rfl,t,rfl⟩:=vals1 r;let hn:=zc;show len_str p_ (JA (.int z.length) H ⟨I.tok _,⟨_,rK⟩,q⟩)
def i_:iI X (.type "tuple") (λxs H Q=>∃p ys,xs=[.ref p]/\((bC X.K H p ys/\∀l,H l=none->Q (.ref l) (upd H l (.tup ys)))\/(aN X.K H p ys/\Q (.ref p) H))):=by
 intro ak s σ H xs us Q I r h;let⟨p,ys,rfl,h⟩:=h;let⟨u,rfl,J⟩:=vals1 r;cases J;rcases h with⟨j,q⟩|⟨j,q⟩
 .let⟨its,D,pl,hz⟩:=I.list j;let O:=D.length;calc call_tuple_list pl.isList (λh' kp=>?_) (by simp only[bd] <;> lia);let F:aP X ak σ H {s with heap:=h' }:=I.kept (t':=s.toks) kp;let G:aP X ak σ (upd H h'.objs.size (.tup ys)) {s with heap:=h'.push {cls:=.type "tuple",data:=.seq its.toArray} }:=
   F.laid (t':=s.toks) (λb o e=>ae _ e) (al _) (show fV X.prog X.w _ _ _ (.tup ys) from ⟨hz,its,D,IsTup.new _ _⟩)
  show JA (.ref h'.objs.size) _ ⟨G,rK,q _ (F.hok.fresh (al _))⟩
 .let⟨its,D,pl,hz⟩:=I.tuple j;show call_tuple_same pl (JA (.ref p) H ⟨I,rK,q⟩)
def tyV (K:W.Frag)(T:String)(x:V)(H:Hp):Prop:=match x with
 | .str _=>T="str"
 | .int _=>T="int"
 | .ref p=>(T="list"/\∃xs,bC K H p xs)\/(T="tuple"/\∃o,K.lookup p=some o/\o.cls=.type "tuple"/\o.dict=none)\/
   (T="dict"/\((∃kvs,H p=some (.dK kvs))\/∃kvs,H p=some (.dT kvs)))\/(T="set"/\∃S n,H p=some (.set S n))
 | _=>False
def Zr {ak:AH}{σ:St}{H:Hp}{s:Shared}{T:String}{x:V}{v:Value}(I:aP X ak σ H s)(r:cB x v)(ty:tyV X.K T x H):s.TypeIs v T/\∀a,v=.ref a->∃ob,s.heap.get? a=some ob/\ob.dict=none:=by
 cases x with
 | str z=>let⟨t,rfl⟩:=r;cases(show T="str" from ty);show⟨typeIs_str s z t,λ_ e=>nomatch e⟩
 | int i=>let⟨t,rfl⟩:=r;cases(show T="int" from ty);show⟨typeIs_int s i t,λ_ e=>nomatch e⟩
 | ref p=>
  cases r;rcases ty with⟨rfl,xs,D⟩|⟨rfl,o,j,F,hd⟩|⟨rfl,j⟩|⟨rfl,S,n,j⟩
  .let⟨its,_,pl,_⟩:=I.list D;calc⟨pl.isList.typeIs,λa e=>?_⟩;cases e;let⟨o,n,e,c,hd,_⟩:=pl;show⟨o,e,hd⟩
  .calc⟨⟨o,I.iZ p o j,F⟩,λa e=>?_⟩;cases e;show⟨o,I.iZ _ o j,hd⟩
  .let z:∃o,s.heap.get? p=some o/\o.ExactDict:=by
    rcases j with⟨kvs,j⟩|⟨kvs,j⟩
    .let⟨_,_,_,_,o,_,_,e,ex,_⟩:=I.hok p _ j;show⟨o,e,ex⟩
    .let⟨_,_,_,_,o,_,_,e,ex,_⟩:=I.hok p _ j;show⟨o,e,ex⟩
   let⟨o,e,ex⟩:=z;calc⟨⟨o,e,ex.1⟩,λa e2=>?_⟩;cases e2;show⟨o,e,ex.2.1⟩
  .let⟨o,_,_,_,e,ex,_⟩:=I.hok p _ j;calc⟨⟨o,e,ex.1⟩,λa e2=>?_⟩;cases e2;show⟨o,e,ex.2.1⟩
 | _=>show False.elim ty
def abF (K:W.Frag)(T:String)(r:V->List V->Hp->VK->Prop)(to:TE):TE:=λσ H Q=>to σ H λx H1=>tyV K T x H1/\r x [] H1 Q
def tBM (K:W.Frag)(T:String)(r:V->List V->Hp->VK->Prop)(to:TE)(t:TA):TE:=λσ H Q=>to σ H λx H1=>tyV K T x H1/\t σ H1 λxs j=>r x xs j Q
variable {o e:Expr}{es:List Expr}{to:TE}{t:TA}{name:Str}{apos cpos:Pos}{T id:String}{r:V->List V->Hp->VK->Prop}
def agy (J:PlainAttrs T)(slot:Slot T name id)(F:typeOf (.builtin id)=pure (.type "method_descriptor"))(hm:xu X id r)(O:PE X o to)(D:attributeBase o name X.env (eval o X.env)=eval o X.env:=by rfl)(j:(apos.endLine==cpos.line)=true:=by rfl):PE X (.Call (.Attribute o name apos) [] [] cpos) (abF X.K T r to):=by intro ak s σ H Q I h;calc wpAny_Call_method0_late D j (b_ (O ak s σ H _ I h) λv s1 Y=>?_);let⟨x,H1,G,r1,ty,q1⟩:=Y;let⟨h1,h2⟩:=Zr G r1 ty;show JA T id ⟨J,slot,F,h1,h2,f_ rK (PySem.evalArgs_none (hm ak s1 σ H1 x [] v [] Q G r1 .nil q1))⟩
def aip (Z:PlainAttrs T)(slot:Slot T name id)(J:typeOf (.builtin id)=pure (.type "method_descriptor"))(hm:xu X id r)(ho:PE X o to)(ha:PA X (e::es) t)(F:attributeBase o name X.env (eval o X.env)=eval o X.env:=by rfl)(G:((backTo cpos (starEach (e::es) X.env)).all (λx=>!x.1)&&(backToKw cpos (keywordEach [] X.env)).all (λx=>x.1.isSome)
   && decide ((e::es).length+([]:List Keyword).length+(if ([]:List Keyword).isEmpty then 0 else 1)<30))=true:=by rfl)
  (D:(apos.endLine==cpos.line)=true:=by rfl) (hs:starEach (e::es) X.env=(false,eval e X.env)::starEach es X.env:=by rfl) (j:(backTo cpos (starEach es X.env)).any (·.1)=false:=by rfl) :
  PE X (.Call (.Attribute o name apos) (e::es) [] cpos) (tBM X.K T r to t):=by
 intro ak s σ H Q I h;calc wpAny_Call_method_late F G D rK (b_ (ho ak s σ H _ I h) λv s1 zz=>?_);let⟨x,H1,O,r1,ty,q1⟩:=zz;let⟨h1,h2⟩:=Zr O r1 ty;calc JA T id ⟨Z,slot,J,h1,h2,?_⟩;let Y:=ha cpos ak s1 σ H1 _ O q1;rw[hs]at Y ⊢;calc f_ (by show (false||(backTo cpos (starEach es X.env)).any (·.1))=false;rw[j] <;> rfl) (gu ?_);show b_ Y λus s2 ⟨vs,H2,I2,r2,q2⟩=>hm ak s2 σ H2 x vs v us Q I2 r1 r2 q2
end
def MtM (X:Cx)(id:String)(r:V->List V->Hp->VK->Prop):Prop:=∀(ak:AH) (s:Shared) (σ:St) (H:Hp) (x:V) (xs:List V) (v:Value) (us:List Value) (Q:VK),aP X ak σ H s->cB x v->Vals xs us->r x xs H Q->
  wpAny (model X.prog X.w) X.A (call (.builtin id) (v::us)) (EP X ak σ Q) X.xe s
theorem Vals.one:∀{x:V} {us:List Value},Vals [x] us->∃u,us=[u]/\cB x u
 | _,_,.cons r .nil=>⟨_,rK,r⟩
theorem Vals.zero:∀{us:List Value},Vals [] us->us=[]
 | _,.nil=>rfl
theorem Vals.eraseIdx:∀{xs:List V} {us:List Value} (i:Nat),Vals xs us->Vals (xs.eraseIdx i) (us.eraseIdx i)
 | _,_,_,.nil=>.nil
 | _,_,0,.cons _ t=>t
 | _,_,i+1,.cons r t=>.cons r (Vals.eraseIdx i t)
theorem Vals.rep (h:Vals xs us):∀k:Nat,Vals (List.replicate k xs).flatten (List.replicate k us).flatten
 | 0=>.nil
 | k+1=>by rw[dC,dC,fe,fe];show Vals.append h (Vals.rep h k)
theorem foldl_rep (its:List Value):∀(k:Nat) (j:List Value),
  List.foldl (λx1 D=>x1++D) j.toArray (List.replicate k its.toArray)=(j++(List.replicate k its).flatten).toArray
 | 0,j=>by simp
 | k+1,j=>by
  let e:j.toArray++its.toArray=(j++its).toArray:=qa;let e2:(j++its)++(List.replicate k its).flatten=j++(List.replicate (k+1) its).flatten:=by rw[dC,fe,List.append_assoc]
  rw[<-e2,<-foldl_rep its k (j++its),<-e,dC,nv]
section
variable {X:Cx}{ak:AH}{σ:St}{H:Hp}{s:Shared}{l:Addr}{xs ys:List V}
def aP.abG {its its':List Value}(I:aP X ak σ H s)(D:H l=some (.lst xs))(e:s.heap.get? l=some {cls:=.type "list",data:=.seq its.toArray n})(j:f its.toArray=its'.toArray)(F:Vals ys its')(hz:ys.length<=sizeLine):aP X ak σ (upd H l (.lst ys)) {s with heap:=s.heap.update l (Obj.mapSeq f),toks:=t' }:=by let q:=PySem.IsL.update e f;rw[j]at q;calc I.write (x:=l) (e:=l) (by rw[D];show trivial) (.inl rK) (λJ u hb G=>(fo s.heap (Obj.mapSeq f) (gI hb)).trans G) ⟨_,q⟩ ?_;show⟨hz,its',_,F,q⟩
def aP.abH (I:aP X ak σ H s)(j:Vals ys its)(hz:ys.length<=sizeLine):aP X ak σ (upd H s.heap.objs.size (.lst ys)) {s with heap:=s.heap.push {cls:=.type "list",data:=.seq its.toArray},toks:=t' }:=I.laid (λ_ _ q=>ae _ q) (al _) ⟨hz,its,0,j,aI _ rK⟩
def aP.fresh (I:aP X ak σ H s):H s.heap.objs.size=none:=I.hok.fresh (al _)
def aP.GD (I:aP X ak σ H s)(j:H l=some (.lst xs)):xs.length<=sizeLine/\∃(its:List Value) (n:Nat),Vals xs its/\xs.length=its.length/\s.heap.get? l=some {cls:=.type "list",data:=.seq its.toArray n}:=by let⟨z,its,n,r,e⟩:=I.hok l _ j;show⟨z,its,n,r,r.length,e⟩
def Qd (h:n<=sizeLine):Builtin.List.listTooLong n=false:=by unfold Builtin.List.listTooLong;show ag p_
end
section
variable {X:Cx}
def aec:V->List V->Hp->VK->Prop:=λx vs H Q=>∃l xs y,x=.ref l/\vs=[y]/\H l=some (.lst xs)/\xs.length<sizeLine/\Q .non (upd H l (.lst (xs++[y])))
def jD:MtM X "list.append" aec:=by intro ak s σ H x vs v us Q I J G h;let⟨l,xs,y,rfl,rfl,j,hz,q⟩:=h;cases J;let⟨u,rfl,D⟩:=G.one;let⟨z,its,n,r,hl,e⟩:=I.GD j;calc call_meets F.slot_list_append ⟨_,e,rK⟩ F.entry_list_append (F.args_list_append_2 _ _) (PySem.list_append l its.toArray n u (by rw[bd];simp_all)) ⟨e,?_⟩;calc JA .non _ ⟨I.abG (its':=its++[u]) j e qa (r.append (.cons D .nil)) ?_,rK,q⟩;rw[ay,mE];show hz
def aed:V->List V->Hp->VK->Prop:=λx vs H Q=>∃l b xs zs,x=.ref l/\vs=[.ref b]/\H l=some (.lst xs)/\H b=some (.lst zs)/\xs.length+zs.length<=sizeLine/\Q .non (upd H l (.lst (xs++zs)))
def Zt:MtM X "list.extend" aed:=by
 intro ak s σ H x vs v us Q I rx rv h;let⟨l,b,xs,zs,rfl,rfl,D,O,hz,q⟩:=h;cases rx;let⟨u,rfl,Z⟩:=rv.one;cases Z;let⟨z,its,n,r,hl,e⟩:=I.GD D;let⟨z2,j,Y,r2,J,e2⟩:=I.GD O;let hsz:its.toArray.size+j.toArray.size<=sizeLine:=by rw[bd,bd];simp_all
 let G:¬(!its.toArray.isEmpty&&Builtin.List.listTooLong (its.toArray.size+j.toArray.size))=true:=by rw[Qd hsz,Bool.and_false];show bv
 refine call_meets F.slot_list_extend ⟨_,e,rK⟩ F.entry_list_extend (F.args_list_extend_2 _ _)
  (AutoSeq1.list_extend_list_list_0 l its.toArray n b j.toArray Y G (by rw[bd];simp_all) (Nat.le_succ_of_le hsz)) ⟨e,e2,?_⟩
 calc JA .non _ ⟨I.abG (its':=its++j) D e qa (r.append r2) ?_,rK,q⟩;rw[ay];show hz
def ai_:R2:=λx y H Q=>∃l b xs zs,x=.ref l/\y=.ref b/\H l=some (.lst xs)/\H b=some (.lst zs)/\xs.length+zs.length<=sizeLine/\∀p,H p=none->Q (.ref p) (upd H p (.lst (xs++zs)))
def Zu:fZ X (binaryOp .Add) ai_:=by intro ak s σ H x y v u Q I Y D h;let⟨l,b,xs,zs,rfl,rfl,J,G,hz,q⟩:=h;cases Y;cases D;let⟨z,its,n,r,hl,e⟩:=I.GD J;let⟨z2,j,n2,O,F,e2⟩:=I.GD G;calc PySem.P.add_list e e2 ?_ (by rw[bd,bd];lia);let Z:its.toArray++j.toArray=(its++j).toArray:=qa;rw[Z];show JA (.ref _) _ ⟨I.abH (t':=s.toks) (r.append O) (by rw[ay];lia),rK,q _ I.fresh⟩
def aja:R2:=λx y H Q=>∃l k xs,x=.ref l/\y=.int k/\H l=some (.lst xs)/\-(2^63)<=k/\k<2^63/\xs.length*k.toNat<=sizeLine/\
 ∀p,H p=none->Q (.ref p) (upd H p (.lst (List.replicate k.toNat xs).flatten))
def len_rep {α:Type}(xs:List α)(k):(List.replicate k xs).flatten.length=k*xs.length:=by
 induction k with| zero=>simp| succ k ih=>rw[dC,fe,ay,ih,o0,Nat.add_comm]
def Zv:fZ X (binaryOp .Mult) aja:=by
 intro ak s σ H x y v u Q I rx Y h;let⟨l,k,xs,rfl,rfl,hH,h1,h2,hz,q⟩:=h;cases rx;let⟨t,rfl⟩:=Y;let⟨z,its,n,r,hl,e⟩:=I.GD hH;let Z:its.toArray.size*k.toNat<=sizeLine:=by rw[bd,<-hl];show hz
 let D:¬its.toArray.size*k.toNat > (2^63-1)/8:=by
  have:(sizeLine:Nat)<=(2^63-1)/8:=by decide
  lia
 let G:¬(!Builtin.List.listFitsIndex k)=true:=by rw[fitsIndex_both h1 h2];show bv
 let O:¬Builtin.List.listTooLong (its.toArray.size*k.toNat)=true:=by rw[Qd Z];show bv
 let j:List.foldl (λx1 J=>x1++J) #[] (List.replicate (if its.toArray.isEmpty=true then 0 else k.toNat) its.toArray)=(List.replicate k.toNat its).flatten.toArray:=by
  let f0:∀m:Nat,List.foldl (λx1 J=>x1++J) #[] (List.replicate m its.toArray)=(List.replicate m its).flatten.toArray:=λm=>by have:=foldl_rep its m [];rw[List.nil_append]at this;show this
  rw[f0];cases its with| nil=>simp| cons a r'=>rw[if_neg qa]
 refine kQ (T:="list") (U:="int") qc ⟨_,e,rK⟩ (λs'=>typeIs_int s' k t) noFill_list_mul F.fills_int_mul F.slot_int_rmul repeat_list F.slot_int_index.lookup
  (call_meets F.slot_int_rmul (typeIs_int s k t) F.entry_int_rmul (F.args_int_rmul_2 _ _) (int___rmul___int_list k t l its.toArray n)
   ⟨e,rK,⟨_,e,rK⟩,call_meets F.slot_list_mul ⟨_,e,rK⟩ F.entry_list_mul (F.args_list_mul_2 _ _) (AutoListH.list___mul___list_int_3 l its.toArray n k t G D O) ⟨e,?_⟩⟩)
 rw[j];show JA (.ref _) _ ⟨I.abH (t':=s.toks) (r.rep k.toNat) (by rw[len_rep,Nat.mul_comm];show hz),rK,q _ I.fresh⟩
end
section
variable {κ:Type}[DecidableEq κ]
def dZ (kvs:List (κ×V))(k:κ):Option V:=(kvs.find? λj=>decide (j.1=k)).map (·.2)
noncomputable def putK (kvs:List (κ×V))(k:κ)(v:V):List (κ×V):=if (kvs.any λj=>decide (j.1=k))=true then kvs.map (λj=>if j.1=k then (j.1,v) else j) else kvs++[(k,v)]
def zW (kvs:List (κ×V))(k:κ):List (κ×V):=kvs.filter λj=>decide (j.1≠k)
def jj {p:κ×V}(e:p.1=k):dZ (p::r) k=some p.2:=by simp[dZ,gv,e]
def jk {p:κ×V}(e:¬p.1=k):dZ (p::r) k=dZ r k:=by simp[dZ,gv,e]
theorem tD (k:κ):∀kvs:List (κ×V),(kvs.any λj=>decide (j.1=k))=(dZ kvs k).isSome
 | []=>rfl
 | p::r=>by
  rw[kK];by_cases e:p.1=k;.simp only[jj e,ai e,Bool.true_or,Option.isSome_some]
  .rw[jk e,ag e,Bool.false_or];show tD k r
theorem Qe (k j:κ)(y):∀kvs:List (κ×V),dZ (kvs.map λD=>if D.1=k then (D.1,y) else D) j=(dZ kvs j).map λx=>if j=k then y else x
 | []=>rfl
 | p::r=>by
  let F:=Qe k j y r;rw[cf];by_cases h:p.1=k
  .rw[if_pos h];by_cases e:p.1=j;.rw[jj (p:=(p.1,y)) e,jj e,kR,if_pos (e.symm.trans h)]
   .rw[jk (p:=(p.1,y)) e,jk e,F]
  .rw[if_neg h];by_cases e:p.1=j;.rw[jj (p:=p) e,jj e,kR,if_neg (λz=>h (e.trans z))]
   .rw[jk (p:=p) e,jk e,F]
theorem Mx (k j:κ)(y):∀kvs:List (κ×V),dZ kvs k=none->dZ (kvs++[(k,y)]) j=if j=k then some y else dZ kvs j
 | [],_=>by
  by_cases e:k=j;.rw[if_pos e.symm];show jj (p:=(k,y)) e
  .rw[if_neg (λz=>e z.symm)];show jk (p:=(k,y)) e
 | p::r,hn=>by
  rw[o6];let D:¬p.1=k:=λz=>by rw[jj z]at hn;cases hn
  rw[jk D]at hn;let F:=Mx k j y r hn;by_cases e:p.1=j;.rw[jj e,jj e,if_neg (λz=>D (e.trans z))]
  .rw[jk e,jk e,F]
def abI (kvs:List (κ×V))(k j:κ)(y):dZ (putK kvs k y) j=if j=k then some y else dZ kvs j:=by
 unfold putK;by_cases a:(kvs.any λD=>decide (D.1=k))=true
 .rw[if_pos a,Qe];rw[tD]at a;by_cases e:j=k
  .let⟨x,hx⟩:=Option.isSome_iff_exists.mp a;rw[if_pos e,e,hx,kR,if_pos rfl]
  .rw[if_neg e];cases dZ kvs j with| none=>rfl| some x=>rw[kR,if_neg e]
 .rw[if_neg a];calc Mx k j y kvs ?_;rw[tD]at a;cases q:dZ kvs k with| none=>rfl| some x=>rw[q]at a;show(a rK).elim
def yG (kvs:List (κ×V))(k:κ)(v):(putK kvs k v).length<=kvs.length+1:=by
 unfold putK;split;.rw[aa];lia
 .rw[ay,dq,pk];lia
def abJ {kvs:List (κ×V)}{k:κ}(v:V)(h:dZ kvs k=none):putK kvs k v=kvs++[(k,v)]:=by unfold putK;rw[tD,h];show if_neg qc
def lQ.uI (r:lQ o u):o.isSome=u.isSome:=by
 cases o with
 | none=>cases u with| none=>rfl| some _=>show(show False from r).elim
 | some _=>cases u with| none=>show(show False from r).elim| some _=>rfl
def lQ.getD (r:lQ o u)(rd:cB d d'):cB (o.getD d) (u.getD d'):=by
 cases o with
 | none=>cases u with| none=>show rd| some _=>show(show False from r).elim
 | some _=>cases u with| none=>show(show False from r).elim| some _=>show r
def KV.val (r:KV kvs vs)(k:κ):lQ (dZ kvs k) (valueAt vs k):=by
 unfold KV at r
 induction r with
 | nil=>show True.intro
 | @cons p q ps qs h t ih=>
  let⟨h1,h2⟩:=h;by_cases e:p.1=k
  .let j:q.1=k:=h1.symm.trans e;let b:valueAt (q::qs) k=some q.2:=by simp[valueAt,gv,j]
   rw[jj e,b];show h2
  .let j:¬q.1=k:=λz=>e (h1.trans z)
   let b:valueAt (q::qs) k=valueAt qs k:=by simp[valueAt,gv,j]
   rw[jk e,b];show ih
def KV.any (r:KV kvs vs)(k:κ):(kvs.any λj=>decide (j.1=k))=vs.any λj=>decide (j.1=k):=by
 unfold KV at r
 induction r with| nil=>rfl| cons h t ih=>rw[kK,kK,ih,h.1]
def KV.repl (r:KV kvs vs)(k:κ)(D:cB y u):KV (kvs.map λj=>if j.1=k then (j.1,y) else j) (vs.map λj=>if j.1=k then (j.1,u) else j):=by
 unfold KV at r ⊢
 induction r with
 | nil=>show .nil
 | @cons p q ps qs h t ih=>
  rw[cf,cf];calc .cons ?_ ih;let⟨h1,h2⟩:=h;by_cases e:p.1=k;.rw[if_pos e,if_pos (h1.symm.trans e)];show⟨h1,D⟩
  .rw[if_neg e,if_neg (λz=>e (h1.trans z))];show⟨h1,h2⟩
def KV.put (r:KV kvs vs)(k:κ)(j:cB y u):KV (putK kvs k y) (stored vs k u):=by
 unfold putK stored;rw[r.any k];by_cases e:(vs.any λD=>decide (D.1=k))=true;.rw[if_pos e,if_pos e];show r.repl k j
 .rw[if_neg e,if_neg e];show Paired.snoc r ⟨rK,j⟩
def KV.drop (r:KV kvs vs)(k:κ):KV (zW kvs k) (without vs k):=by
 unfold KV at r ⊢;unfold zW without
 induction r with
 | nil=>show .nil
 | @cons p q ps qs h t ih=>
  let⟨h1,h2⟩:=h;rw[List.filter_cons,List.filter_cons];by_cases e:p.1=k
  .let a:¬decide (p.1≠k)=true:=by simp[e]
   let b:¬decide (q.1≠k)=true:=by simp[h1.symm.trans e]
   rw[if_neg a,if_neg b];show ih
  .let j:¬q.1=k:=λz=>e (h1.trans z)
   let a:decide (p.1≠k)=true:=by simp[e]
   let b:decide (q.1≠k)=true:=by simp[j]
   rw[if_pos a,if_pos b];show .cons ⟨h1,h2⟩ ih
def KV.keys {kvs:List (κ×V)}{vs:List (κ×Value)}(r:KV kvs vs):kvs.map (·.1)=vs.map (·.1):=by
 unfold KV at r
 induction r with| nil=>rfl| cons h t ih=>rw[cf,cf,ih,h.1]
def KV.length {kvs:List (κ×V)}{vs:List (κ×Value)}(r:KV kvs vs):kvs.length=vs.length:=Paired.length r
def abK (kvs:List (κ×V))(k:κ):(zW kvs k).length<=kvs.length:=List.length_filter_le _ _
end
def zX (r:cB (kV k) u):(fW P w).is k u=true:=by
 cases k with
 | inl i=>let⟨t,e⟩:=(show ∃t,u=Value.int i t from r);subst e;show TX P w i t
 | inr x=>let⟨t,e⟩:=(show ∃t,u=Value.str x t from r);subst e;show lO P w x t
theorem Mz:∀{j:List Key} {us:List Value},Vals (j.map kV) us->ItemsAre (fW P w) j us
 | [],_,r=>by rw[ph]at r;cases r;show .nil
 | k::j,_,r=>by
  rw[cf]at r;cases r with| cons h t=>show .cons (zX h) (Mz t)
abbrev KT (H:Hp):List (List Key×V)->List (List Key×Addr×Value)->Prop:=Paired λp q=>p.1=q.1/\H q.2.1=some (.tup (p.1.map kV))/\cB p.2 q.2.2
def KT.val (r:KT H kvs xs)(k:List Key):lQ (dZ kvs k) ((atKey xs k).map (·.2)):=by
 induction r with
 | nil=>show True.intro
 | @cons p q ps qs h t ih=>
  let⟨h1,_,h2⟩:=h;by_cases e:p.1=k
  .let j:q.1=k:=h1.symm.trans e;let b:atKey (q::qs) k=some q.2:=by simp[atKey,gv,j]
   rw[jj e,b];show h2
  .let j:¬q.1=k:=λz=>e (h1.trans z)
   let b:atKey (q::qs) k=atKey qs k:=by simp[atKey,gv,j]
   rw[jk e,b];show ih
def KT.repl (r:KT H kvs xs)(k:List Key)(D:cB y u):KT H (kvs.map λj=>if j.1=k then (j.1,y) else j) (xs.map (putAt k u)):=by
 induction r with
 | nil=>show .nil
 | @cons p q ps qs h t ih=>
  rw[cf,cf];calc .cons ?_ ih;let⟨h1,h2,h3⟩:=h;unfold putAt;by_cases e:p.1=k;.rw[if_pos e,if_pos (h1.symm.trans e)];show⟨h1,h2,D⟩
  .rw[if_neg e,if_neg (λz=>e (h1.trans z))];show⟨h1,h2,h3⟩
def KT.put (r:KT H kvs xs)(k:List Key)(hb:H b=some (.tup (k.map kV)))(j:cB y u):KT H (putK kvs k y) (storedH xs k b u):=by
 let e:(kvs.any λD=>decide (D.1=k))=(atKey xs k).isSome:=by rw[tD,(r.val k).uI,ow]
 unfold putK storedH;rw[e];by_cases q:(atKey xs k).isSome=true;.rw[if_pos q,if_pos q];show r.repl k j
 .rw[if_neg q,if_neg q];show Paired.snoc r ⟨rK,hb,j⟩
def KT.keeps (r:KT H kvs xs)(ht:∀b ys,H b=some (.tup ys)->H' b=some (.tup ys)):KT H' kvs xs:=Paired.abp r λ_ _ z=>⟨z.1,ht _ _ z.2.1,z.2.2⟩
section
variable {P:Program}{w:World}{H:Hp}{h:Heap}{a:Addr}
def adA (ok:j8 P w H h)(e:Rd H a u):fV P w H h a u:=e.ok ok
def Ez (ok:j8 P w H h)(e:Rd H a (.dK kvs)):kvs.length<=sizeLine/\(a==sysModules)=false/\∃vs,KV kvs vs/\h.DictOf (fW P w) a vs:=show fV P w H h a (.dK kvs) from adA ok e
def IK (ok:j8 P w H h)(e:H a=some (.dK kvs)):kvs.length<=sizeLine/\(a==sysModules)=false/\∃vs,KV kvs vs/\h.DictOf (fW P w) a vs:=Ez ok (.inl e)
def Cp {j:List Key}(ok:j8 P w H h)(e:H a=some (.tup (j.map kV))):(tupleKind (fW P w)).is h j a:=by
 let⟨_,its,r,o,h1,h2,n,h3⟩:=(show fV P w H h a (.tup (j.map kV)) from ok a _ e)
 show JE o its.toArray n ⟨h1,h2,h3,by simpa using Mz r⟩
def IV (ok:j8 P w H h)(e:Rd H a (.dT kvs)):kvs.length<=sizeLine/\(a==sysModules)=false/\
  ∃xs,KT H kvs xs/\h.DictOfH (tupleKind (fW P w)) a xs:=by
 let⟨z,y,xs,r,o,es,ep,h1,h2,h3,h4,h5⟩:=(show fV P w H h a (.dT kvs) from adA ok e)
 calc⟨z,y,xs,r,o,es,ep,h1,h2,h3,h4,λx hx=>?_,h5⟩;let all:∀{l:List (List Key×V)} {m:List (List Key×Addr×Value)},KT H l m->∀x∈m,(tupleKind (fW P w)).is h x.1 x.2.1:=by
  intro l m q
  induction q with
  | nil=>intro x hx;show nomatch hx
  | @cons p q ps qs hq t ih=>
   intro x hx;rcases bq.mp hx with e|hx
   .subst e;show Cp ok (by rw[<-hq.1];show hq.2.1)
   .show ih x hx
 show all r x hx
def aiq (ok:j8 P w H h)(e:H a=some (.dT kvs)):kvs.length<=sizeLine/\(a==sysModules)=false/\
  ∃xs,KT H kvs xs/\h.DictOfH (tupleKind (fW P w)) a xs:=IV ok (.inl e)
end
def tE (H:Hp)(a:Addr)(y:V)(r:Option V):Prop:=(∃kvs k,Rd H a (.dK kvs)/\y=kV k/\r=dZ kvs k)\/∃kvs k b,Rd H a (.dT kvs)/\y=.ref b/\H b=some (.tup (k.map kV))/\r=dZ kvs k
def GJ (H:Hp)(a:Addr)(y v:V)(H':Hp):Prop:=(∃kvs k,H a=some (.dK kvs)/\y=kV k/\kvs.length<sizeLine/\H'=upd H a (.dK (putK kvs k v)))\/
 ∃kvs k b,H a=some (.dT kvs)/\y=.ref b/\H b=some (.tup (k.map kV))/\kvs.length<sizeLine/\H'=upd H a (.dT (putK kvs k v))
theorem tE.k {kvs:List (Key×V)}{k:Key}(e:H a=some (.dK kvs)):tE H a (kV k) (dZ kvs k):=.inl (JA kvs k ⟨.inl e,rK,rK⟩)
theorem GJ.k {kvs:List (Key×V)}{k:Key}{v:V}(e:H a=some (.dK kvs))(hl:kvs.length<sizeLine):GJ H a (kV k) v (upd H a (.dK (putK kvs k v))):=.inl (JA kvs k ⟨e,rK,hl,rK⟩)
section
variable {X:Cx}{ak:AH}{σ:St}{H:Hp}{s:Shared}{a:Addr}{y v:V}{u r:Value}{o:Option V}{A:Around}{E:AE}
def aP.big (I:aP X ak σ H s):sysModules<s.heap.objs.size:=by let h:mainGlobals<s.heap.objs.size:=(I.mod.glob.keeps I.bk).lt;show Nat.lt_trans qc h
def ajb (G:A.units+1<cLine)(I:aP X ak σ H s)(g:tE H a y o)(F:cB y u)(h:∀s',aP X ak σ H s'->Q (.bool o.isSome) s'):wpAny (model X.prog X.w) A (compareOp .In u (.ref a)) Q E s:=by
 rcases g with⟨kvs,k,e,D,l⟩|⟨kvs,k,b,e,D,J,l⟩
 .subst D;let⟨z,hd,vs,j,dd⟩:=Ez I.hok e;calc wpAny_in_of (zX F) hd dd.mapOf ?_;rw[<-(j.val k).uI,<-l];show h _ (I.tok _)
 .subst D;cases(show u=Value.ref b from F);let⟨z,hd,xs,j,dd⟩:=IV I.hok e;calc wpAny_in_heap (tupleKind_room_in1 G) (Cp I.hok J) hd dd ?_;let q:=(j.val k).uI;rw[ow]at q;rw[<-q,<-l];show h _ (I.tok _)
def aee (G:A.units+1<cLine)(I:aP X ak σ H s)(g:tE H a y o)(F:cB y u)(h:∀s',aP X ak σ H s'->Q (.bool (!o.isSome)) s'):wpAny (model X.prog X.w) A (compareOp .NotIn u (.ref a)) Q E s:=by
 rcases g with⟨kvs,k,e,D,l⟩|⟨kvs,k,b,e,D,J,l⟩
 .subst D;let⟨z,hd,vs,j,dd⟩:=Ez I.hok e;calc wpAny_notIn_of (zX F) hd dd.mapOf ?_;rw[<-(j.val k).uI,<-l];show h _ (I.tok _)
 .subst D;cases(show u=Value.ref b from F);let⟨z,hd,xs,j,dd⟩:=IV I.hok e;calc wpAny_notIn_heap (tupleKind_room_in1 G) (Cp I.hok J) hd dd ?_;let q:=(j.val k).uI;rw[ow]at q;rw[<-q,<-l];show h _ (I.tok _)
def EY (I:aP X ak σ H s)(D:YX (H a))(hs:Heap.SameBut a s.heap h')(j:∃q,h'.get? a=some q)(new:fV X.prog X.w (upd H a ob) h' a ob):aP X ak σ (upd H a ob) {s with heap:=h',toks:=t' }:=I.write (x:=a) (e:=a) D (.inl rK) (λb q hb z=>(hs.2 b hb).trans z) j new
def Qf {h':Heap}{kvs:List (Key×V)}(z:kvs.length<=sizeLine)(hd:(a==sysModules)=false)(j:KV kvs vs)(dd:h'.DictOf (fW P w) a vs):fV P w H' h' a (.dK kvs):=⟨z,hd,vs,j,dd⟩
def Zw (hu:A.units+1<cLine)(I:aP X ak σ H s)(g:GJ H a y v H')(Y:cB y u)(rv:cB v r)(h:∀s',aP X ak σ H' s'->Q () s'):wpAny (model X.prog X.w) A (setItem (.ref a) u r) Q E s:=by
 rcases g with⟨kvs,k,e,G,l,J⟩|⟨kvs,k,b,e,G,Z,l,J⟩
 .subst G J;let⟨z,hd,vs,j,dd⟩:=IK I.hok e;let hz:vs.length<=sizeLine:=by rw[<-j.length];show z
  let hl:(putK kvs k v).length<=sizeLine:=by have:=yG kvs k v;lia
  calc wpAny_setItem_pairs (hsz:=hz) (zX Y) dd λh' D hs=>h _ ?_;let he:∃q,h'.get? a=some q:=let ⟨q,_,_,F,_⟩:=D;⟨q,F⟩
  show EY I (by rw[e];show True.intro) hs he (Qf hl hd (j.put k rv) D)
 .subst G J;cases(show u=Value.ref b from Y);let⟨z,hd,xs,j,dd⟩:=aiq I.hok e;let hz:xs.length<=sizeLine:=by rw[<-Paired.length j];show z
  let hl:(putK kvs k v).length<=sizeLine:=by have:=yG kvs k v;lia
  calc wpAny_setItem_heap (hsz:=hz) (tupleKind_room_in1 hu) (Cp I.hok Z) dd λh' D hs=>h _ ?_;let⟨q,es,ep,F,h2,h3,h4,_,h5⟩:=D;calc EY I (by rw[e];show True.intro) hs ⟨q,F⟩ ⟨hl,hd,_,(j.put k Z rv).keeps λc ys O=>?_,q,es,ep,F,h2,h3,h4,h5⟩;rw[aV (xr O e (λz=>nomatch z))];show O
end
section
variable {X:Cx}{ak:AH}{σ:St}{H:Hp}{s:Shared}{a:Addr}{kvs:List (Key×V)}{k:Key}{u:Value}{A:Around}{E:AE}
def air (I:aP X ak σ H s)(e:H a=some (.dK kvs))(F:cB (kV k) u)(l:dZ kvs k=some v)(hm:more=[]\/∃x,more=[x])(h:∀D s',aP X ak σ (upd H a (.dK (zW kvs k))) s'->cB v D->Q D s'):wpAny (model X.prog X.w) A (call (.builtin "dict.pop") (.ref a::u::more)) Q E s:=by
 let⟨z,hd,vs,j,dd⟩:=IK I.hok e;let⟨D,hw,O⟩:=lQ.some_of (v:=v) (o:=valueAt vs k) (by rw[<-l];show j.val k);let hp:(keyPart u).isSome=true:=by
  cases k with
  | inl i=>let⟨t,q⟩:=(show ∃t,u=Value.int i t from F);subst q;rfl
  | inr x=>let⟨t,q⟩:=(show ∃t,u=Value.str x t from F);subst q;rfl
 let ha:argsOk "dict.pop" ⟨.ref a::u::more,[]⟩:=by
  rcases hm with q|⟨x,q⟩;.subst q;show PySem.F.args_dict_pop_2 _ _
  .subst q;show PySem.F.args_dict_pop_3 _ _ _
 refine call_meetsIn PySem.F.slot_dict_pop dd.typeIs PySem.F.entry_dict_pop ha (meets_dict_pop_there (fW X.prog X.w) a (zX F) more hm hp)
  (JA vs D ⟨dd,by rw[<-j.length];show z,hw,λh' G hs=>h D _ ?_ O⟩)
 let J:∃q,h'.get? a=some q:=let ⟨q,_,_,hq,_⟩:=G;⟨q,hq⟩
 show EY I (by rw[e];show True.intro) hs J (Qf (bP (abK kvs k) z) hd (j.drop k) G)
def aef (I:aP X ak σ H s)(e:H a=some (.dK kvs))(h:∀s',aP X ak σ (upd H a (.dK [])) s'->Q .none s'):wpAny (model X.prog X.w) A (call (.builtin "dict.clear") [.ref a]) Q E s:=by
 let⟨z,hd,vs,j,dd⟩:=IK I.hok e;calc call_meetsIn PySem.F.slot_dict_clear dd.typeIs PySem.F.entry_dict_clear (PySem.F.args_dict_clear_1 _) (meets_dict_clear (fW X.prog X.w) a) ⟨vs,dd,by rw[<-j.length];show z,λh' D hs=>h _ ?_⟩;let F:∃q,h'.get? a=some q:=let ⟨q,_,_,hq,_⟩:=D;⟨q,hq⟩
 show EY (t':=s.toks) I (by rw[e];show True.intro) hs F (Qf (ej _) hd .nil D)
def ais (I:aP X ak σ H s)(e:Rd H a (.dK kvs))(h:∀t s',aP X ak σ H s'->Q (.int kvs.length t) s'):wpAny (model X.prog X.w) A (call (.builtin "len") [.ref a]) Q E s:=by let⟨z,hd,vs,j,dd⟩:=Ez I.hok e;calc call_len_dict hd dd (by rw[<-j.length];rw[sizeLine_eq]at z;lia) ?_;rw[<-j.length];show h _ _ (I.tok _)
end
def agz (ty td:TE):TE:=λσ H Q=>ty σ H λy H1=>td σ H1 λx j=>∃a o,x=.ref a/\tE j a y o/\Q (.bl o.isSome) j
def Vc (ty td:TE):TE:=λσ H Q=>ty σ H λy H1=>td σ H1 λx j=>∃a o,x=.ref a/\tE j a y o/\Q (.bl (!o.isSome)) j
def adB (td ty tv:TE):TS:=λD σ H=>tv σ H λv H1=>td σ H1 λx G=>ty σ G λy F=>∃a j,x=.ref a/\GJ F a y v j/\D.nx σ j
section
variable {X:Cx}{o i value:Expr}{pos pos':Pos}{td ty tv:TE}
def agA (F:X.A.units+1<cLine)(hi:PE X i ty)(J:PE X o td):PC X .In i o (agz ty td):=by intro ak s σ H Q I h;calc b_ (hi ak s σ H _ I h) λiv s1 j=>?_;let⟨y,H1,D,G,q1⟩:=j;calc b_ (J ak s1 σ H1 _ D q1) λu s2 j=>?_;let⟨x,Z,Y,rx,a,ov,ex,g,q2⟩:=j;subst ex;obtain rfl:u=Value.ref a:=rx;show ajb F Y g G λs3 O=>(JA (.bl ov.isSome) Z ⟨O,rK,q2⟩)
def Zx (F:X.A.units+1<cLine)(hi:PE X i ty)(J:PE X o td):PC X .NotIn i o (Vc ty td):=by intro ak s σ H Q I h;calc b_ (hi ak s σ H _ I h) λiv s1 j=>?_;let⟨y,H1,D,G,q1⟩:=j;calc b_ (J ak s1 σ H1 _ D q1) λu s2 j=>?_;let⟨x,Z,Y,rx,a,ov,ex,g,q2⟩:=j;subst ex;obtain rfl:u=Value.ref a:=rx;show aee F Y g G λs3 O=>(JA (.bl (!ov.isSome)) Z ⟨O,rK,q2⟩)
def aeg (J:X.A.units+1<cLine)(Z:PE X o td)(hi:PE X i ty)(G:PE X value tv)(hs:swapsWith value (some (.Subscript o i pos')) pos.line X.env=pure false):PS X (.Assign [.Subscript o i pos'] value pos) (adB td ty tv):=by intro ak s σ H D I h;calc wpAny_Assign_Subscript (b_ (G ak s σ H _ I h) λr s1 j=>?_) hs;let⟨v,H1,F,rv,q1⟩:=j;calc b_ (Z ak s1 σ H1 _ F q1) λu s2 j=>?_;let⟨x,H2,I2,rx,q2⟩:=j;calc b_ (hi ak s2 σ H2 _ I2 q2) λiv s3 j=>?_;let⟨y,H3,I3,O,a,H4,ex,g,q3⟩:=j;subst ex;obtain rfl:u=Value.ref a:=rx;show Zw J I3 g O rv λs4 Y=>(JA σ H4 ⟨Y,q3⟩)
end
def abL (h:Heap)(hb:sysModules<h.objs.size):fV P w H (h.push {cls:=.type "dict",data:=.dict #[]}) h.objs.size (.dK []):=⟨ej _,beq_eq_false_iff_ne.mpr (gI (b8 hb)),[],.nil,Heap.DictOf.new h⟩
def Zy:TE:=λ_ H Q=>∀p,H p=none->Q (.ref p) (upd H p (.dK []))
section
variable {X:Cx}{pos:Pos}
def abM:PE X (.Dict [] [] pos) Zy:=λak s σ H Q I h=>wpAny_Dict_empty (JA (.ref s.heap.objs.size) _ ⟨I.laid (a:=s.heap.objs.size) (o:=.dK []) (t':=s.toks) (λ_ _ q=>ae _ q) (al _) (abL s.heap I.big),rK,h _ (I.hok.fresh (al _))⟩)
end
structure M1 (X:Cx)(o:Expr)(m:Str)(apos:Pos)(e:Expr)(cpos:Pos):Prop where
 base:attributeBase o m X.env (eval o X.env)=eval o X.env
 few:((backTo cpos (starEach [e] X.env)).all (λx=>!x.1)&&(backToKw cpos (keywordEach [] X.env)).all (λx=>x.1.isSome)
  && decide (([e]:List Expr).length+([]:List Keyword).length+(if ([]:List Keyword).isEmpty then 0 else 1)<30))=true
 line:(apos.endLine==cpos.line)=true
 trees:backTo cpos (starEach [e] X.env)=[(false,eval e X.env)]
structure M2 (X:Cx)(o:Expr)(m:Str)(apos:Pos)(e f:Expr)(cpos:Pos):Prop where
 base:attributeBase o m X.env (eval o X.env)=eval o X.env
 few:((backTo cpos (starEach [e,f] X.env)).all (λx=>!x.1)&&(backToKw cpos (keywordEach [] X.env)).all (λx=>x.1.isSome)
  && decide (([e,f]:List Expr).length+([]:List Keyword).length+(if ([]:List Keyword).isEmpty then 0 else 1)<30))=true
 line:(apos.endLine==cpos.line)=true
 trees:backTo cpos (starEach [e,f] X.env)=[(false,eval e X.env),(false,eval f X.env)]
def IsD (H:Hp)(a:Addr):Prop:=(∃kvs,Rd H a (.dK kvs))\/∃kvs,Rd H a (.dT kvs)
def Zz {X:Cx}{ak:AH}{σ:St}{H:Hp}{s:Shared}{a:Addr}(I:aP X ak σ H s)(d:IsD H a):s.TypeIs (.ref a) "dict"/\(∀b,Value.ref a=.ref b->∃ob,s.heap.get? b=some ob/\ob.dict=none)/\(a==sysModules)=false:=by
 rcases d with⟨kvs,e⟩|⟨kvs,e⟩
 .let⟨_,hd,vs,_,dd⟩:=Ez I.hok e;calc⟨dd.typeIs,λb q=>?_,hd⟩;cases q;let⟨ob,_,_,h1,h2,_⟩:=dd;show⟨ob,h1,h2.2.1⟩
 .let⟨_,hd,xs,_,dd⟩:=IV I.hok e;calc⟨dd.typeIs,λb q=>?_,hd⟩;cases q;let⟨ob,_,_,h1,h2,_⟩:=dd;show⟨ob,h1,h2.2.1⟩
section
variable {X:Cx}{ak:AH}{σ:St}{H:Hp}{s:Shared}{a:Addr}{y d:V}{u r:Value}{o:Option V}{A:Around}{E:AE}
def agB (J:A.units+1<cLine)(I:aP X ak σ H s)(g:tE H a y o)(F:cB y u)(rd:cB d r)(h:∀G s',aP X ak σ H s'->cB (o.getD d) G->Q G s'):wpAny (model X.prog X.w) A (call (.builtin "dict.get") [.ref a,u,r]) Q E s:=by
 rcases g with⟨kvs,k,e,D,l⟩|⟨kvs,k,b,e,D,O,l⟩
 .subst D;let⟨z,hd,vs,j,dd⟩:=Ez I.hok e;calc call_meetsIn ic dd.typeIs md (lI _ _ _) (meets_dict_get_default (fW X.prog X.w) a (zX F) hd r) ⟨_,dd.mapOf,h _ _ (I.tok _) ?_⟩;rw[l];show(j.val k).getD rd
 .subst D;cases(show u=Value.ref b from F);let⟨z,hd,xs,j,dd⟩:=IV I.hok e;calc call_meetsIn ic dd.typeIs md (lI _ _ _) (meetsH_dict_get_default (tupleKind (fW X.prog X.w)) a b hd r) ⟨tupleKind_room_in1 J,k,xs,Cp I.hok O,dd,h _ _ (I.tok _) ?_⟩;rw[l];show(j.val k).getD rd
end
def ZC (td ty tx:TE):TE:=λσ H Q=>td σ H λx H1=>∃a,x=.ref a/\IsD H1 a/\ty σ H1 λy D=>tx σ D λz j=>∃o,tE j a y o/\Q (o.getD z) j
def ZD (td ty:TE):TE:=λσ H Q=>td σ H λx H1=>∃a,x=.ref a/\IsD H1 a/\ty σ H1 λy j=>∃kvs k v,j a=some (.dK kvs)/\y=kV k/\dZ kvs k=some v/\Q v (upd j a (.dK (zW kvs k)))
section
variable {X:Cx}{o e f:Expr}{apos cpos:Pos}{td ty tx:TE}
def abN (G:X.A.units+1<cLine)(Y:PE X o td)(D:PE X e ty)(hf:PE X f tx)(m:M2 X o "get" apos e f cpos):PE X (.Call (.Attribute o "get" apos) [e,f] [] cpos) (ZC td ty tx):=by
 intro ak s σ H Q I h;calc oy m.base m.few m.line i8 ic PySem.F.type_dict_get (b_ (Y ak s σ H _ I h) λu s1 ⟨x,H1,j,rx,a,ex,d,q1⟩=>?_);subst ex;obtain rfl:u=Value.ref a:=rx;let⟨t1,Z,_⟩:=Zz j d;calc⟨t1,Z,?_⟩;rw[m.trees];refine f_ rK (gu (eQ (b_ (D ak s1 σ H1 _ j q1) λiv s2 ⟨y,H2,I2,J,q2⟩=>eQ (b_ (hf ak s2 σ H2 _ I2 q2) λfv s3 ⟨z,H3,I3,rz,ov,g,q3⟩=>gL ?_))))
 show agB G I3 g J rz λw' s4 O F=>(JA _ H3 ⟨O,F,q3⟩)
def abO (O:PE X o td)(D:PE X e ty)(m:M1 X o "pop" apos e cpos):PE X (.Call (.Attribute o "pop" apos) [e] [] cpos) (ZD td ty):=by intro ak s σ H Q I h;calc oy m.base m.few m.line i8 PySem.F.slot_dict_pop PySem.F.type_dict_pop (b_ (O ak s σ H _ I h) λu s1 zz=>?_);let⟨x,H1,j,rx,a,ex,d,q1⟩:=zz;subst ex;obtain rfl:u=Value.ref a:=rx;let⟨t1,Y,_⟩:=Zz j d;calc⟨t1,Y,?_⟩;rw[m.trees];calc f_ rK (gu (eQ (b_ (D ak s1 σ H1 _ j q1) λiv s2 ⟨y,H2,I2,G,kvs,k,v,ea,J,l,q2⟩=>gL ?_)));subst J;show air I2 ea G l (.inl rK) λw' s3 Z F=>(JA v _ ⟨Z,F,q2⟩)
end
end L2
namespace Att
open PySem PySem.W PySem.Calls PyProof.Rows
def IW:∀(ns:List Int) (vs:List Value),WellAll P h vs (ns.map WData.int)->IntsAre vs ns:=by
 intro ns
 induction ns with
 | nil=>intro vs w;rw[ph]at w;cases w;show .nil
 | cons n ns ih=>
  intro vs w;rw[cf]at w;cases w with| cons a b=>cases a;show .cons _ _ (ih _ b)
def ZF {l:OpenLaw}(hn:l.most=some n)(j:l.row.toRowW.claim.pre args=true)(F:WellAll P h vals args):∃a vs ns,vals=[Value.ref a]/\args=[WData.list (ns.map WData.int)]/\h.get? a=some {cls:=.type "list",data:=.seq vs.toArray}/\IntsAre vs ns/\ns.length<=n:=by
 let D:WShape.hasAll [] args [.list .int]=true:=(pre_splitW j).1;let G:l.pre.holds [] {args:=args}=true:=(pre_splitW j).2;let⟨d,r,rfl,h1,h2⟩:=hasAllW_cons D;obtain rfl:=hasAllW_nil h2;let⟨xs,rfl,h3⟩:=hasW_list h1;let⟨ns,rfl⟩:=items_int h3;let J:ns.length<=n:=by
  unfold OpenLaw.pre at G;let h4:(WTm.not (.lt (.lit (.int (n:Int))) (.len (.arg 0)))).holds [] {args:=[.list (ns.map .int)]}=true:=by let h4:=(holds_andW G).1;rw[hn]at h4;show h4
  let h5:=condW_of h4 (w_not (w_lt w_lit (w_len_list (w_arg rK))));rw[aa]at h5;calc Nat.le_of_not_lt λq=>?_;let I:(n:Int)<((ns.length:Nat):Int):=Iff.mpr nc q
  first| (rw[ai I]at h5;show absurd h5 qc)| (simp at h5;lia)
 cases F with
 | cons w1 w2=>
  cases w2;cases w1 with| list ho hall=>show JE _ _ ns ⟨rK,rK,ho,IW ns _ hall,J⟩
def ZG (l:OpenLaw)(args:List WData):l.row.toRowW.claim.post args (.bool true) args=true:=postW_of (r:=l.row.toRowW) (X:=(true==true))
  (show WShape.has [] (.bool true) .bool=true by first|rfl|decide|simp[WShape.has,WShape.arms,WShape.armsAll])
  (show (WTm.eq .res (.lit (.bool true))).value [] {args:=args,res:=some (.bool true),after:=args}=some (.bool (true==true)) from w_eq_bool (w_res rK) w_lit) rfl
def TY {l:OpenLaw}{d:DefRec}(hn:l.most=some n)(Z:d.params.defaults=[])(call:∀(w:World) (s₀ j:Shared) (mg mb:Str->Option Value) (J:Addr) (o:Obj) (pm cd doc:Value) (a:Addr) (vs:List Value) (ns:List Int),
   Ground q loose [] XP w s₀ mg mb j.heap->YP w j.heap->
   j.heap.get? J=some o->o.data=.func (docDef d.name d.params d.body d.scope pm cd doc)->j.heap.CodeRec cd d.name->mg d.name=some (.ref J)->
   j.heap.get? a=some {cls:=.type "list",data:=.seq vs.toArray}->IntsAre vs ns->ns.length<=n->j.gens=#[]->
   codeAny (model l.prog w) callerA (.call (.ref J) ⟨[.ref a],[]⟩) (λr s'=>r=.ok (.ret (.bool true))/\OldK j.heap s'.heap/\s'.os=j.os/\AllBare s'.gens) j) :
  WalkO q loose XP YP l.row.toRowW d [] (λf vs=>PySem.call f vs):=by
 intro w s₀ j mg mb G Y J o pm cd doc dV kV ho hd O hD hmg hg args vals as I hlay hrd hwl hlo;obtain rfl:dV=.none:=Dflts.none hD Z;obtain rfl:kV=.none:=Dflts.noKw hD;let⟨a,vs,ns,rfl,rfl,F,D,cU⟩:=ZF hn I hwl;calc enter_call (kU (call w s₀ j mg mb J o pm cd doc a vs ns G Y ho (fd_plain hd) O hmg F D cU hg) λr s' hq=>?_);let⟨rfl,h2,h3,h4⟩:=hq;show⟨.inl (JE (.bool true) (.bool true) [] ⟨rK,λ_=>rfl,.bool true,ZG l _,λ_=>⟨List.Pairwise.nil,λ_ hm=>(nomatch hm)⟩⟩),h2,h3,h4⟩
end Att
namespace L2
open PySem PySem.Spec PyProof.Rows
theorem MF:∀{vs:List Value} {ns:List Int},IntsAre vs ns->Vals (ns.map V.int) vs
 | _,_,.nil=>.nil
 | _,_,.cons n t h=>.cons ⟨t,rK⟩ (MF h)
def Only (H:Hp):Prop:=∀b,H b=none\/∃o xs,H b=some (.pU o (.lst xs))
def abP {K:W.Frag}{j:Shared}{vs:List Value}(KX:K.In j.heap)(Z:j.heap.Ns mainGlobals mg)(hb:j.heap.Ns builtinsNs mb)(hbb:∀x:Str,x≠"__name__"->mb x=bootBuiltins x)(J:j.heap.NoLimit)(hg:j.gens=#[])(ha:j.heap.get? a=some {cls:=.type "list",data:=.seq vs.toArray})(hi:IntsAre vs ns)(hl:ns.length<=sizeLine)(hr:fK k callerA)(F:∀base:Heap,K.In base->base.Ns mainGlobals mg->bW P w K mg base CX k fa fd [x] sp)(I:∀(s:Shared) (u:Value),BindsTo s fd ⟨[u],[]⟩ [(x,u)])(hsp:∀H:Hp,Only H->bC K H a (ns.map V.int)->sp [.ref a] H (λv _=>v=.bl true) λ_ _ _=>False)(hCX:∀H e s',CX [] H j (λ_ _ _=>False) e s'->False):codeAny (model P w) callerA (.call (.ref fa) ⟨[.ref a],[]⟩) (λr s'=>r=.ok (.ret (.bool true))/\OldK j.heap s'.heap/\s'.os=j.os/\AllBare s'.gens) j:=by
 let rv:=MF hi;let O:=hi.length;let G:∀H:Hp,Only H->bC K H a (ns.map V.int)->j8 P w H j.heap->(∀b,H b≠none->b=a)->(H a≠none->K.lookup a=none)->
   codeAny (model P w) callerA (.call (.ref fa) ⟨[.ref a],[]⟩) (λr s'=>r=.ok (.ret (.bool true))/\OldK j.heap s'.heap/\s'.os=j.os/\AllBare s'.gens) j:=by
  intro H hO hS hok hA hK;let Ve:∀{b:Addr} {o:Obj},j.heap.get? b=some o->H b=none->(zR j.heap H).get? b=some o:=λe n=>abq e n;let Zm:∀{b:Addr} {o:Obj} {es:Array DictEntry} {ep:Nat},j.heap.get? b=some o->o.data=.dict es ep->H b=none:=λ{b o es ep} e d=>by
   cases q:H b with| none=>rfl| some u=>have e':b=a:=hA b (by rw[q];simp);subst e';rw[ha]at e;cases e;let d':Data.seq vs.toArray _=Data.dict es ep:=d;cases d'
  let D:∀{b:Addr} {m:Str->Option Value},j.heap.Ns b m->(zR j.heap H).Ns b m:=λ{b m} ⟨o,es,ep,e,d,r⟩=>(JE o es ep ⟨Ve e (Zm e d),d,r⟩)
  let hKb:K.In (zR j.heap H):=λb o e=>Ve (KX b o e) (by
   cases q:H b with
   | none=>rfl
   | some u=>have e':b=a:=hA b (by rw[q];simp);subst e';rw[hK (by rw[q];simp)]at e;cases e)
  let hM:Mod K mg (zR j.heap H):=⟨hKb,D Z,⟨mb,D hb,hbb⟩,let ⟨mc,h1,h2⟩:=J;⟨mc,D h1,h2⟩⟩
  let e0:Gy P w K mg (zR j.heap H) callerA [] j H:=⟨rK,hM,λb o e=>adV e,iN (YZ _ _),trivial,λb hb=>absurd (show b∈([]:List Addr) from hb) qa,hok,.of_eq hg⟩
  calc kU ((F _ hKb (D Z)).run callerA [] j H ⟨[.ref a],[]⟩ [.ref a] [.ref a] _ _ hr e0 (I j (.ref a)) (.cons rK .nil) (hsp H hO hS)) λr s' h=>?_;cases r with
  | error e=>show(hCX H e s' h).elim
  | ok fl=>
   cases fl with
   | next=>show False.elim h
   | brk=>show False.elim h
   | cont=>show False.elim h
   | ret u=>
    let⟨v,H',os,bare,un,Y,r',q⟩:=h;let q':v=.bl true:=q;subst q';obtain rfl:u=Value.bool true:=r';calc⟨rK,OldK.of_keep λb o e=>?_,os,bare⟩;cases q:H b with
    | none=>show un.keep b o e q (by intro z;show absurd (show b∈([]:List Addr) from z) qa) qa
    | some u=>
     rcases hO b with z|⟨ob,xs,z⟩;.rw[q]at z;cases z
     .let z2:=un.qz b ob _ z;let⟨e1,_⟩:=hok b _ z;let⟨e2,_⟩:=Y b _ z2;rw[e]at e1;cases e1;show e2
 cases hk:K.lookup a with
 | some o=>have e:=KX a o hk;rw[ha]at e;cases e;refine G (λ_=>none) (λ_=>.inl rK) (.inr (JE _ vs.toArray _ ⟨hk,rK,rK,rK,by rw[bd,O];show hl,by simpa using rv⟩)) (λb u z=>by let z':(none:Option HO)=some u:=z;cases z') (λb z=>absurd rK z) λz=>absurd rK z
 | none=>
  refine G (λb=>if b=a then some (.pU {cls:=.type "list",data:=.seq vs.toArray} (.lst (ns.map V.int))) else none) (λb=>?_) (.inl (.inr ⟨{cls:=.type "list",data:=.seq vs.toArray},if_pos rK⟩)) (λb u z=>?_) (λb z=>?_) λ_=>hk
  .by_cases hb:b=a;.show .inr (JA _ _ (if_pos hb))
   .show .inl (if_neg hb)
  .by_cases hb:b=a
   .let z':=(if_pos hb).symm.trans z;cases z';subst hb;show⟨ha,by rw[aa];show hl,vs,_,rv,ha⟩
   .let z':=(if_neg hb).symm.trans z;cases z'
  .by_cases hb:b=a;.show hb
   .show absurd (if_neg hb) z
abbrev KOf {K:W.Frag}{h:Heap}(_:K.In h):W.Frag:=K
def aeh {l:W.OpenLaw}{n k:Nat}{D:List Str}{XP:(Str->Option Value)->Heap->Prop}{YP:World->Heap->Prop}{d:DefRec}{K:Params->W.Frag}{CX:World->uH}{sp:World->Sp}{x:Str}(hn:l.most=some n)(hn2:n<=sizeLine)(O:d.params.defaults=[])(hr:fK k callerA)(hY:∀(w:World) (h:Heap),YP w h->(K w.params).In h)(F:∀(w:World) (mg:Str->Option Value) (J:Addr) (h:Heap),(K w.params).In h->h.Ns mainGlobals mg->mg d.name=some (.ref J)->
   ∃fd:FuncData,(∀(s:Shared) (u:Value),BindsTo s fd ⟨[u],[]⟩ [(x,u)])/\
    ∀base:Heap,(K w.params).In base->base.Ns mainGlobals mg->bW l.prog w (K w.params) mg base (CX w) k J fd [x] (sp w))
  (Z:∀(w:World) (H:Hp) (a:Addr) (ns:List Int),ns.length<=n->Only H->bC (K w.params) H a (ns.map V.int)->sp w [.ref a] H (λv _=>v=.bl true) λ_ _ _=>False)
  (hCX:∀(w:World) (H:Hp) (s:Shared) (e:Value) (s':Shared),CX w [] H s (λ_ _ _=>False) e s'->False) :
  W.WalkO q D XP YP l.row.toRowW d [] (λf vs=>PySem.call f vs):=by
 calc Att.TY hn O λw s₀ s₁ mg mb J o pm cd doc a vs ns G Y ho hd hcd hmg I j cU hg=>?_;let KX:=hY w _ Y;let⟨fd,hb,hF⟩:=F w mg J _ KX G.T.g hmg;show abP KX G.T.g G.T.b G.T.builtins G.T.nolimit hg I j (bP cU hn2) hr hF hb (λH hO hS=>Z w H a ns cU hO hS) λH e s'=>hCX w H s₁ e s'
def inClass (s:Stmt)(j:Nat):Stmt:=match s with| .ClassDef _ _ _ body _ _ _ _ _ _ _=>body.getD j (.Pass ⟨0,0,0,0⟩)| _=>.Pass ⟨0,0,0,0⟩
noncomputable def cX (s:Stmt):Arguments:=match s with| .FunctionDef _ a _ _ _ _ _ _ _ _=>a| _=>{posonlyargs:=[],args:=[],vararg:=none,kwonlyargs:=[],kw_defaults:=[],kwarg:=none,defaults:=[]}
def cM (s:Stmt):List Stmt:=match s with| .FunctionDef _ _ b _ _ _ _ _ _ _=>b| _=>[]
noncomputable def aH (s:Stmt):Scope:=match s with| .FunctionDef _ _ _ _ _ _ sc _ _ _=>sc| _=>{kind:=.function,names:=[],isGenerator:=false,isCoroutine:=false}
abbrev cW:uH:=λ_ _ _ _ _ _=>False
abbrev E0:XK:=λ_ _ _=>False
def cY:Passes cW X E0:=λ_ _ _ _ _ _ _ h=>h.elim
structure d7 (K:W.Frag)(x qual:Str)(st:Stmt)(f:Addr)(fd:FuncData):Prop where
 ex:∃(oc:Value) (od:Option Addr) (kV doc pm:Value) (an:Option Addr) (bH ct:Value) (osl:Array (Option Value)),
  fd=W.fnOf x qual (cX st) (cM st) (aH st) .none kV doc pm an bH ct/\K.lookup f=some ⟨oc,od,.func fd,osl⟩/\W.codeIn K bH qual=true
 kp:W.keepIn K (.ref f)=true
section
variable {P:Program}{w:World}{K:W.Frag}{mg:Str->Option Value}{base:Heap}
def d7.ok {x qual:Str}{st:Stmt}{N ps:List Str}{k:Nat}{sp:Sp}(F:d7 K x qual st f fd)(S:aZ N ps (aH st))(len:∀vs H Q E,sp vs H Q E->vs.length=ps.length)(j:∀(bH:Value) (A:Around) (outer:List Env) (s:Shared) (H:Hp) (vs:List V) (Q:VK) (E:XK),fK k (A.deeper (envOfC qual (aH st) s.heap.objs.size f bH))->sp vs H Q E->
   ∃t,vZ (sY cW P w K mg base N qual (aH st) f bH A outer s H E).PK (cM st) t/\t {nx:=λ_ H'=>Q .non H',rt:=Q} (start N vs) H):bW P w K mg base cW (k+1) f fd ps sp:=by
 let⟨oc,od,kV,doc,pm,an,bH,ct,osl,rfl,J,D⟩:=F.ex;calc ady J D S len λA outer s H vs Q E I G=>?_;let⟨t,h,q⟩:=j bH A outer s H vs Q E I G;show⟨t,h.PK,q⟩
def d7.binds {x qual:Str}{st:Stmt}{ps:List Str}(F:d7 K x qual st f fd)(h:∀(kV doc pm:Value) (an:Option Addr) (bH ct:Value) (us:List Value),us.length=ps.length->bindArgs (W.fnOf x qual (cX st) (cM st) (aH st) .none kV doc pm an bH ct) ⟨us,[]⟩=pure (ps.zip us)):bK K fd ps []:=by let⟨oc,od,kV,doc,pm,an,bH,ct,osl,rfl,D,j⟩:=F.ex;show .all (h kV doc pm an bH ct)
def fO {x qual:Str}{st:Stmt}{f:Addr}{oc:Value}{od an:Option Addr}{osl:Array (Option Value)}{kV doc pm bH ct:Value}(l:K.lookup f=some ⟨oc,od,.func (W.fnOf x qual (cX st) (cM st) (aH st) .none kV doc pm an bH ct),osl⟩)(c:W.codeIn K bH qual=true)(k:W.keepIn K (.ref f)=true):d7 K x qual st f (W.fnOf x qual (cX st) (cM st) (aH st) .none kV doc pm an bH ct):=⟨(JS oc od kV doc pm an bH ct ⟨osl,rK,l,c⟩),k⟩
end
def I_ (j:fK k A):A.units+1<cLine:=jv (Nat.add_le_add_left (by decide:1<=64) _) j.units
def aK (h:n<=1000):n<sizeLine:=jv h qc
section
variable {X:Cx}
def pv (i:Nat){x:Str}{pos:Pos}(D:X.N[i]?=some x:=by rfl)(F:U4 X.env.scope x:=by first|show Or.inl rfl|show Or.inr (Or.inl rK)|show Or.inr (Or.inr rK))(hd:(x==("__debug__":Str))=false:=by decide)(j:(x==("__classdict__":Str))=false:=by decide):PE X (.Name x pos) (WY i):=afN D F hd j
end
def bL {A B:Prop}(h:B):if false=true then A else B:=by rw[if_neg bv];show h
def cu {A B:Prop}(h:A):if true=true then A else B:=by rw[if_pos rfl];show h
def jE {c A B:Prop} [Decidable c] (h1:c->A)(h2:¬c->B):if c then A else B:=by
 by_cases h:c
 .rw[if_pos h];show h1 h
 .rw[if_neg h];show h2 h
def O5 {c A B:Prop} [Decidable c] (j:c)(h:B):if (!decide c)=true then A else B:=by rw[ai j];show bL h
def aB (H H':Hp):Prop:=∀b o,H b=some o->H' b=some o
def aB.refl (H):aB H H:=λ_ _ h=>h
def aB.trans (a:aB H H1)(b:aB H1 H2):aB H H2:=λc o h=>b c o (a c o h)
def aB.free (e:aB H H')(h:H' l=Option.none):H l=Option.none:=by
 cases q:H l with| none=>rfl| some o=>rw[e l o q]at h;cases h
def aB.seq {K:W.Frag}{xs:List V}(e:aB H H')(h:bC K H a xs):bC K H' a xs:=by
 rcases h with(h|⟨o,h⟩)|h;.show .inl (.inl (e _ _ h))
 .show .inl (.inr ⟨o,e _ _ h⟩)
 .show .inr h
section
variable {X:Cx}
def ZJ:iI X (.builtin "len") (λxs H Q=>∃a kvs,xs=[V.ref a]/\H a=some (.dK kvs)/\Q (.int kvs.length) H):=by intro ak s σ H xs us Q I r h;let⟨a,kvs,rfl,ha,q⟩:=h;let⟨u,rfl,D⟩:=vals1 r;cases D;show ais I (.inl ha) λt s' j=>(JA (.int kvs.length) H ⟨j,⟨t,rK⟩,q⟩)
end
section
variable {κ:Type}[DecidableEq κ]
theorem Vf:∀{l:List κ} {k:κ},l.Nodup->¬k∈l->(l++[k]).Nodup
 | [],k,_,_=>by simp
 | a::r,k,h,hk=>by
  let⟨h1,h2⟩:=ib.mp h;show (a::(r++[k])).Nodup;calc ib.mpr ⟨λm=>?_,Vf h2 λm=>hk (bq.mpr (Or.inr m))⟩;rcases bu.mp m with q|q;.show h1 q
  .show hk (bq.mpr (Or.inl (a_.mp q).symm))
end
noncomputable def blk (X:Cx)(scope:Scope)(cl:List (Str×Addr))(C:Addr)(x:Str)(s₀:Shared)(H₀:Hp)(fp:List Addr):Cx:={X with N:=x::X.N,s₀:=s₀,H₀:=H₀,env:=compEnvC scope cl C X.env,outer:=X.stack,ex:=fp,fn:=λ_=>false,pn:=[],xe:=λ_ _=>False}
structure jf (X:Cx)(scope:Scope)(x:Str):Prop where
 kind:scope.kind=.function
 Ja:∀y∈scope.names,y.2≠.cell
 names:∀y∈scope.names,y.2=.local->scope.names.lookup y.1=some .local
 hx:scope.names.lookup x=some .local
 free:∀y∈scope.names,y.2=.free->X.env.kindOf y.1=some .cell\/X.env.kindOf y.1=some .free
 out:∀y∈X.N,scope.names.lookup y≠some .local
 nd:X.N.Nodup
noncomputable def Vg (sc:Scope)(N:List Str)(scope:Scope)(x:Str):Bool:=scope.kind == .function&&scope.names.all (λy=>y.2 != .cell)&&scope.names.all (λy=>y.2 != .local||scope.names.lookup y.1==some .local)&&scope.names.lookup x==some .local &&
 scope.names.all (λy=>y.2 != .free||sc.names.lookup y.1==some .cell||sc.names.lookup y.1==some .free)&&N.all (λy=>scope.names.lookup y != some .local)
def jf.of {X:Cx}(j:X.N.Nodup)(h:Vg X.env.scope X.N scope x=true):jf X scope x:=by
 unfold Vg at h;simp only[bX,fh,pE,bne_iff_ne,beq_iff_eq,ne_eq]at h;obtain⟨⟨⟨⟨⟨h1,h2⟩,h3⟩,h4⟩,h5⟩,D⟩:=h;calc⟨h1,λy hy=>h2 y hy,λy hy e=>(h3 y hy).resolve_left λz=>z e,h4,λy hy e=>?_,λy hy=>D y hy,j⟩;rcases h5 y hy with(z|z)|z;.show absurd e z
 .show .inl z
 .show .inr z
theorem lU {α:Type}:∀{l:List (Str×α)} {x:Str} {a:α},l.lookup x=some a->(x,a)∈l
 | [],_,_,h=>by simp at h
 | (y,b)::r,x,a,h=>by
  rw[gh]at h;split at h
  .rename_i e;let j:x=y:=by simpa using e
   cases h;subst j;show b9
  .show bE _ (lU h)
theorem zY {env:Env}:∀(names:List (Str×NameKind)),(∀y∈names,y.2=.free->∃c,env.cells.lookup y.1=some c)->∀j:List (Str×Addr),(∀n c,j.lookup n=some c->env.cells.lookup n=some c)->
  ∃cl,(forIn names j (λ(p:Str×NameKind) (cs:List (Str×Addr))=>if (p.2==NameKind.free)=true then (do let a <- cellOf env p.1;pure (ForInStep.yield ((p.1,a)::cs))) else (pure (ForInStep.yield cs):Sem _)):Sem (List (Str×Addr)))=pure cl/\
   (∀n c,cl.lookup n=some c->env.cells.lookup n=some c)/\(∀n,(∃c,j.lookup n=some c)->∃c,cl.lookup n=some c)/\∀n,(n,NameKind.free)∈names->∃c,cl.lookup n=some c
 | [],_,j,ha=>⟨j,qa,ha,λ_ h=>h,λ_ h=>by simp at h⟩
 | (n,k)::r,hf,j,ha=>by
  let J:∀y∈r,y.2=.free->∃c,env.cells.lookup y.1=some c:=λy hy=>hf y (bE _ hy);by_cases F:k=.free
  .subst F;let⟨c,O⟩:=hf (n,.free) b9 rfl;let⟨cl,e,h1,h2,h3⟩:=zY r J ((n,c)::j) (λD G h=>by
    rw[gh]at h;split at h
    .rename_i q;let Y:D=n:=by simpa using q
     cases h;subst Y;show O
    .show ha D G h)
   refine⟨cl,?_,h1,λD h=>h2 D ?_,λD h=>?_⟩
   .rw[fE];simp only[beq_self_eq_true,if_true];let e2:cellOf env n=pure c:=by unfold cellOf;rw[O]
    rw[e2];simp only[pure_bind];show e
   .let⟨G,I⟩:=h;rw[gh];split;.show⟨c,rK⟩
    .show⟨G,I⟩
   .rcases bq.mp h with q|q
    .calc h2 D ⟨c,?_⟩;cases q;rw[gh,beq_self_eq_true]
    .show h3 D q
  .let hb:(k==NameKind.free)=false:=by simpa using F
   let⟨cl,e,h1,h2,h3⟩:=zY r J j ha;refine⟨cl,?_,h1,h2,λD h=>?_⟩
   .rw[fE];simp only[hb,fS,if_false,pure_bind];show e
   .rcases bq.mp h with q|q;.cases q;show absurd rK F
    .show h3 D q
theorem j7 {env:Env}:∀{names:List (Str×NameKind)} {x:Str} {k:NameKind},
  (names.map λ(n,k)=>if (k==NameKind.free&&env.scope.kind == .function&&env.kindOf n==some .cell) then (n,NameKind.cell) else (n,k)).lookup x=some k->names.lookup x=some k\/(k=.cell/\names.lookup x=some .free)
 | [],_,_,h=>by simp at h
 | (n,j)::r,x,k,h=>by
  let F:=@j7 env r x k;let h':List.lookup x ((if (j==NameKind.free&&env.scope.kind == .function&&env.kindOf n==some .cell)=true then (n,NameKind.cell) else (n,j))::_)=some k:=h;by_cases D:(j==NameKind.free&&env.scope.kind == .function&&env.kindOf n==some .cell)=true
  .rw[if_pos D]at h';cases hx:x==n with
   | true=>
    simp only[gh,hx]at h' ⊢;cases h';have:j=.free:=by simp at D;show D.1.1
    show .inr ⟨rK,by rw[this]⟩
   | false=>simp only[gh,hx]at h' ⊢;show F h'
  .rw[if_neg D]at h';cases hx:x==n with| true=>simp only[gh,hx]at h' ⊢;show .inl h'| false=>simp only[gh,hx]at h' ⊢;show F h'
def Xh (I:Nat->Shared->Prop)(turn:∀n s,I n s->wpAny (model prog w) A (pyNext it) (λr j=>match r with
   | none=>R (.ok .next) j
   | some v=>wpAny (model prog w) A (letOwnedTupleGo target it v) (λ_ s₀=>wpAny (model prog w) A (assign target env v) (λ_ J=>
     wpAny (model prog w) A (forIn ifs true λc r=>if r=true then do let ok <- isTrue c env (eval c env);pure (ForInStep.yield ok) else pure (ForInStep.yield r)) (λok D=>
      if ok=true then wpAny (model prog w) A (eval elt env) (λx O=>wpAny (model prog w) A (call (.builtin "list.append") [acc,x]) (λ_ Y=>∃m,m<n/\I m Y) (λ_ _=>False) O) (λ_ _=>False) D
      else ∃m,m<n/\I m D) (λ_ _=>False) J) (λ_ _=>False) s₀) (λ_ _=>False) j) (λ_ _=>False) s)
  (n) (h:I n s) :
  codeAny (model prog w) A (.compLoop (.ListComp elt [⟨target,iter,ifs,0⟩] scope pos) 0 it acc env) R s:=by
 calc codeAny_loop rK I (λn s hI=>?_) n h;show wpAny _ A ((compTurn (.ListComp elt [⟨target,iter,ifs,0⟩] scope pos) 0 it acc env).onRaise (λx=>do noteFrame x env;theTreesLotGoes x)) _ _ s;calc wpAny_noted ?_;rw[compTurn_list];calc ac (ml (ac (eK (turn n s hI) (λr j G=>?_) λ_ _ h'=>h'.elim)));cases r with
 | none=>show am G
 | some v=>
  calc ac (eK G (λ_ s₀ h₀=>?_) λ_ _ h'=>h'.elim);calc ac (eK h₀ (λ_ J Z=>ac (eK Z (λok D F=>?_) λ_ _ h'=>h'.elim)) λ_ _ h'=>h'.elim);cases ok with| false=>show am ⟨rK,F⟩| true=>show ac (ac (eK F (λx O h₄=>ac (eK h₄ (λ_ Y h₅=>am (am ⟨rK,h₅⟩)) λ_ _ h'=>h'.elim)) λ_ _ h'=>h'.elim))
def Vh (X:Cx)(ifs:List Expr)(t:TT):Prop:=∀(ak:AH) (s:Shared) (σ:St) (H:Hp) (Q:Bool->Hp->Prop),aP X ak σ H s->t σ H Q->
  wpAny (model X.prog X.w) X.A (forIn ifs true λc r=>if r=true then do let ok <- isTrue c X.env (eval c X.env);pure (ForInStep.yield ok) else pure (ForInStep.yield r)) (TP X ak σ Q) X.xe s
def lV:TT:=λ_ H Q=>Q true H
def aei:Vh X [] lV:=λ_ _ _ H _ I h=>wpAny_tests_nil ⟨H,I,h⟩
def g_ (n i:Nat)(P:Prop):Prop:=∃j,j<n-i/\j=n-(i+1)/\i+1<=n/\P
abbrev Ko (n i:Nat)(D:Addr)(ys:List V)(P:List V->Hp->Prop)(y:V)(H3:Hp):Prop:=H3 D=some (.lst ys)/\ys.length<sizeLine/\g_ n i (P (ys++[y]) (upd H3 D (.lst (ys++[y]))))
abbrev Cr (J:It)(D:Addr)(H:Hp)(R:Hp->Prop)(B:V->Hp->VK->(Hp->Prop)->Prop):Prop:=∃W:Nat->Nat->List V->Hp->Prop,(∃m,W 0 m [] (upd H D (.lst [])))/\
 ∀i m ys H,W i m ys H->(J.stop i H/\R H)\/(J.go i H/\∀x H',J.Im i H x H'->B x H' (λy H3=>H3 D=some (.lst ys)/\ys.length<sizeLine/\∃m',m'<m/\W (i+1) m' (ys++[y]) (upd H3 D (.lst (ys++[y])))) λH2=>∃m',m'<m/\W (i+1) m' ys H2)
def abQ {J:It}{D:Addr}{H:Hp}{R:Hp->Prop}{B:V->Hp->VK->(Hp->Prop)->Prop}(n:Nat)(j:Nat->List V->Hp->Prop)(h0:j 0 [] (upd H D (.lst [])))(O:∀i ys H,i<n->j i ys H->J.go i H/\∀x H',J.Im i H x H'->B x H' (Ko n i D ys (j (i+1))) λI=>g_ n i (j (i+1) ys I))(G:∀ys H,j n ys H->J.stop n H/\R H):Cr J D H R B:=by
 calc⟨λi m ys H=>m=n-i/\i<=n/\j i ys H,⟨n,qa,ej _,h0⟩,?_⟩;intro i m ys H z;let⟨rfl,hi,p⟩:=z;by_cases F:i<n;.show .inr (O i ys H F p)
 .let e:i=n:=p_;subst e;show .inl (G ys H p)
def O6 {F:Hp->List V->Prop}{B:V->Hp->VK->(Hp->Prop)->Prop}{xs:List V}{D:Addr}{H:Hp}{R:Hp->Prop}(j:Nat->List V->Hp->Prop)(h0:j 0 [] (upd H D (.lst [])))(hl:∀i ys H,i<=xs.length->j i ys H->F H xs)(hs:∀i x ys H,xs[i]?=some x->j i ys H->B x H (Ko xs.length i D ys (j (i+1))) λG=>g_ xs.length i (j (i+1) ys G))(hd:∀ys H,j xs.length ys H->R H):Cr (ItS F) D H R B:=abQ xs.length j h0 (λi ys H h p=>⟨(JA xs (xs[i]) ⟨hl i ys H (ap h) p,by simp[h]⟩),λx H' ⟨e,y⟩=>by subst e;show hs i x ys _ (y xs (hl i ys _ (ap h) p)) p⟩) λys H p=>⟨⟨xs,hl _ ys H (al _) p,al _⟩,hd ys H p⟩
abbrev Xi (σ:St)(tt:TT)(te:TE)(x:V)(H:Hp)(k:VK)(l:Hp->Prop):Prop:=tt (some x::σ) H λb H2=>if b=true then te (some x::σ) H2 k else l H2
def adC (wi:TI)(tt:TT)(te:TE):TE:=λσ H Q=>wi σ H λJ H1=>∀D,H1 D=none->Cr J D H1 (Q (.ref D)) (Xi σ tt te)
noncomputable def gF (X:Cx)(scope:Scope)(cl:List (Str×Addr))(C:Addr)(N:List Str)(s₀:Shared)(H₀:Hp)(fp:List Addr):Cx:={X with N:=N,s₀:=s₀,H₀:=H₀,env:=compEnvC scope cl C X.env,outer:=X.stack,ex:=fp,fn:=λ_=>false,pn:=[],xe:=λ_ _=>False}
structure jM (X:Cx)(scope:Scope)(ns N2:List Str)(f:St->St):Prop where
 kind:scope.kind=.function
 Ja:∀y∈scope.names,y.2≠.cell
 names:∀y∈scope.names,y.2=.local->scope.names.lookup y.1=some .local
 free:∀y∈scope.names,y.2=.free->X.env.kindOf y.1=some .cell\/X.env.kindOf y.1=some .free
 ajc:∀σ:St,(f σ).length=σ.length
 ajd:N2.length=X.N.length
 out:∀(σ:St) (i:Nat) (y:Str) (v:V),N2[i]?=some y->(f σ)[i]?=some (some v)->X.N[i]?=some y/\σ[i]?=some (some v)/\scope.names.lookup y≠some .local
def MJ (X:Cx)(tg:Expr)(k:Nat)(TP:V->Hp->(St->Prop)->Prop):Prop:=∀(ak:AH) (s:Shared) (pre rest:St) (H:Hp) (v:V) (u:Value) (Q:St->Prop),pre.length=k->aP X ak (pre++rest) H s->cB v u->TP v H Q->
  wpAny (model X.prog X.w) X.A (assign tg X.env u) (λ_ s'=>∃j,j.length=k/\aP X ak (j++rest) H s'/\Q j) (λ_ _=>False) s
def ZK (TP:V->Hp->(St->Prop)->Prop)(f:St->St)(σ:St)(tt:TT)(te:TE)(x:V)(H:Hp)(k:VK)(l:Hp->Prop):Prop:=TP x H λpre=>tt (pre++f σ) H λb j=>if b=true then te (pre++f σ) j k else l j
def Cu (f:St->St)(k:Nat)(wi:TI)(TP:V->Hp->(St->Prop)->Prop)(tt:TT)(te:TE):TE:=λσ H Q=>wi σ H λJ H1=>∀D,H1 D=none->Cr J D H1 (Q (.ref D)) (ZK TP f σ tt te)
def Cv {X:Cx}{elt iter tg:Expr}{ns N2:List Str}{f:St->St}{TP:V->Hp->(St->Prop)->Prop}{ifs:List Expr}{scope:Scope}{pos:Pos}{wi:TI}{tt:TT}{te:TE}(hc:X.calm=true)(ok:jM X scope ns N2 f)(hi:PI X tg iter wi)(hg:∀cl C s₀ H₀ fp,MJ (gF X scope cl C (ns++N2) s₀ H₀ fp) tg ns.length TP)(ht:∀cl C s₀ H₀ fp,Vh (gF X scope cl C (ns++N2) s₀ H₀ fp) ifs tt)(he:∀cl C s₀ H₀ fp,PE (gF X scope cl C (ns++N2) s₀ H₀ fp) elt te)(hs:∀x,foldedSetIterable iter X.env x=pure x:=by intro _;rfl){use:Option (Value->Sem Unit)}{RR:AE}{p1:Pos}{ak:AH}{s:Shared}{σ:St}{H:Hp}{Q:V->Hp->Prop}(I:aP X ak σ H s)(h:Cu f ns.length wi TP tt te σ H Q)(fin:∀(D C:Addr) (H4:Hp) (s5:Shared) (m:Str->Option Value),s5.heap.Ns C m->(∀h',Heap.SameBut C s5.heap h'->aP X ak σ H4 {s5 with heap:=h' })->uV X ak H4 C->Q (.ref D) H4->compPost (model X.prog X.w) X.A X.xe use RR (.ref D) C (.ok .next) s5):wpAny (model X.prog X.w) X.A (comprehension (.ListComp elt [⟨tg,iter,ifs,0⟩] scope pos) scope X.env p1 (newList []) false (eval iter X.env) use) RR X.xe s:=by
 let⟨cl,hcl,j,_,hall⟩:=zY (env:=X.env) scope.names (λy hy e=>I.ok.has y.1 (ok.free y hy e)) [] (λ_ _ z=>by simp at z);let hclos:closureFor scope X.env=pure cl:=by unfold closureFor;simp only[bind_pure];show hcl
 calc wpAny_comprehension_free (use:=use) (E:=X.xe) (cl:=cl) rK hs hclos ok.kind ok.names (b_ (hi ak s σ H _ I h) λv s1 h1=>b_ h1 λitv s2 h2=>?_);let⟨it,fp,tn,J,H2,e,I2,T,st2,f2,R⟩:=h2;subst e;obtain⟨W,⟨m0,w0⟩,turn⟩:=R s2.heap.objs.size I2.fresh;calc fw (wpAny_newFunctionEnv ok.Ja (by intro y hy;simp at hy) (λh₁ hns₁ hsb₁=>?_) ok.kind);dsimp only at hns₁ hsb₁ ⊢;let F:aP X ak σ (upd H2 s2.heap.objs.size (.lst [])) {s2 with heap:=s2.heap.push {cls:=.type "list",data:=.seq ([]:List Value).toArray} }:=I2.abH (t':=s2.toks) (ys:=[]) (its:=[]) .nil (ej _);generalize hH3:upd H2 s2.heap.objs.size (HO.lst [])=H3 at *
 generalize hs3:s2.heap.push {cls:=.type "list",data:=.seq ([]:List Value).toArray}=hp3 at *
 generalize hD:s2.heap.objs.size=D at *
 generalize hC:hp3.objs.size=C at *
 let hDC:D<C:=by rw[<-hC,<-hs3,dE,hD];show gT _
 let O:∀b o,hp3.get? b=some o->h₁.get? b=some o:=λb o e=>(hsb₁.2 b (by rw[<-hC];show b8 (ax e))).trans (ae _ e);let fpl:∀b∈fp,b<C:=λb hb=>by let⟨o,e,_⟩:=T.obj _ _ st2 b hb;rw[<-hC,<-hs3,dE];show lS (ax e)
 let f3:∀b∈fp,uV X ak H3 b:=λb hb=>by let⟨o,e,_⟩:=T.obj _ _ st2 b hb;calc⟨?_,(f2 b hb).2⟩;rw[<-hH3,aV (by rw[<-hD];show b8 (ax e))];show(f2 b hb).1
 let agC:∀b∈fp,b∉frs X.stack:=λb hb z=>by
  let⟨_,g1,g2,_⟩:=f3 b hb;rcases bq.mp (F.Ik b z) with q|q;.show g1 q
  .show g2 q
 let YOk:(gF X scope cl C (ns++N2) {s2 with heap:=hp3} H3 fp).Ok:=by
  calc⟨I.ok.mod,?_,I.ok.glob,I.ok.blt,iN hC,?_,?_,?_,I.ok.hd,I.ok.frames,.inl rK,?_,?_,?_,?_,?_,?_,?_⟩;.show ok.kind
  .show λa b c h1 h2=>I.ok.inj a b c (j a c h1) (j b c h2)
  .intro a ha;calc hall a ?_;rcases ha with z|z
   .rcases j7 (env:=X.env) z with q|⟨_,q⟩;.show absurd rK (ok.Ja _ (lU q))
    .show lU q
   .rcases j7 (env:=X.env) z with q|⟨q,_⟩;.show lU q
    .cases q
  .intro a c hf;cases hf
  .intro b hb;refine⟨b8 (fpl b hb),λa c h1=>(f3 b hb).2.2.2.2.1 a c (j a c h1)⟩
  .show F.bs
  .show bP I.ok.Bv F.sz
  .intro b o e hb;rcases(f3 b hb).2.2.2.1 with z|z;.show I.ok.Cg b o e z
   .show absurd (cE (ax e) (bP I.ok.Bv z)) (fk _)
  .show agC
  .show F.stack
  .show F.yZ
 let Y0:aP (gF X scope cl C (ns++N2) {s2 with heap:=hp3} H3 fp) [] (List.replicate ns.length none++f σ) H3 {s2 with heap:=h₁,toks:=s2.toks+([]:List (Str×Value)).length}:=by
  refine⟨YOk,rK,F.bare,Un.kept O,⟨_,hns₁,?_⟩,?_,?_,?_,λp hp=>by simp[gF]at hp,F.hok.kept O,?_⟩
  .intro i y v e1 e2 e3;by_cases dY:i<ns.length
   .rw[dS (by rw[cq];show dY),List.getElem?_replicate,if_pos dY]at e2;simp at e2
   .obtain⟨i,rfl⟩:∃k,i=ns.length+k:=⟨i-ns.length,by simp_all⟩
    let e1a:(ns++N2)[ns.length+i]?=some y:=e1;rw[dA p_,lL]at e1a;rw[dA (by rw[cq];lia),cq,lL]at e2;let⟨e1',e2',hout⟩:=ok.out σ i y v e1a e2;let Y:(y,NameKind.free)∈scope.names:=by
     let key:∀k,(relabel scope X.env).names.lookup y=some k->k≠.local->k=.cell\/k=.free->(y,NameKind.free)∈scope.names:=λk q n hk=>by
      rcases j7 (env:=X.env) q with z|⟨_,z⟩
      .rcases hk with rfl|rfl;.show absurd rK (ok.Ja _ (lU z))
       .show lU z
      .show lU z
     rcases e3 with z|z|z
     .rcases j7 (env:=X.env) z with q|⟨q,_⟩;.show absurd q hout
      .cases q
     .show key _ z qc (.inl rK)
     .show key _ z qc (.inr rK)
    let hk:=ok.free _ Y rfl;let⟨m,hn,hl⟩:=F.loc;let⟨u,r,q⟩:=hl i y v e1' e2' (by rcases hk with z|z;show .inr (.inl z);show .inr (.inr z));refine⟨u,r,.inr ⟨?_,?_⟩⟩
    .rcases e3 with z|z|z
     .rcases j7 (env:=X.env) z with q|⟨q,_⟩;.show absurd q hout
      .cases q
     .show .inl z
     .show .inr z
    .rcases q with⟨z,_⟩|⟨_,c,hc',hcell⟩
     .rcases hk with q|q <;> (rw[z]at q;cases q)
     .let⟨c',hc2⟩:=hall y Y;have:c'=c:=by have:=j y c' hc2;rw[hc']at this;show(be this).symm
      subst this;let⟨o,ho,hd⟩:=hcell;show⟨c',hc2,o,O _ _ ho,hd⟩
  .intro a c h1;let⟨v,o,ho,hd⟩:=F.cell a c (j a c h1);show JA v o ⟨O _ _ ho,hd⟩
  .show H3 C=none;show F.hok.fresh (iN hC)
  .show λa c h1=>F.nu a c (j a c h1)
  .show (List.replicate ns.length none++f σ).length=(ns++N2).length;rw[ay,ay,cq,ok.ajc,I.len,ok.ajd]
 let back:∀(s':Shared) (v:St) (H':Hp) (h':Heap),aP (gF X scope cl C (ns++N2) {s2 with heap:=hp3} H3 fp) [] v H' s'->Heap.SameBut C s'.heap h'->(∀b∈fp,H' b=none)->aP X ak σ H' {s' with heap:=h' }:=by
  intro s' v H' h' I' sb fr;let Mg:∀b o,hp3.get? b=some o->b≠C:=λb o e=>by rw[<-hC];show b8 (ax e)
  let U:Un (frs X.stack) fp H3 H' hp3 s'.heap:=I'.base;refine F.call' (ch:=fp) (H':=H') (s':={s' with heap:=h' }) I'.os ⟨λb o e n h1 h2=>(sb.2 b (Mg b o e)).trans (U.keep b o e n h1 h2),λb o e n h1 h2=>?_,U.free,λb o e h2=>?_,U.tups,U.qz,U.qT⟩ (λb ob e=>?_) I'.bare λb hb=>?_
  .let⟨sl,q⟩:=U.slot b o e n h1 h2;show⟨sl,(sb.2 b (Mg b o e)).trans q⟩
  .let⟨o',q⟩:=U.there b o e h2;show⟨o',(sb.2 b (Mg b o e)).trans q⟩
  .let fC:H' C=none:=I'.free;calc(I'.hok b ob e).stay (λc w' hc q=>(sb.2 c ?_).trans q) (λ_ q=>q) λ_ _ q=>q;rintro rfl;rcases hc with rfl|hc
   .rw[fC]at e;cases e
   .rw[fC]at hc;cases hc
  .let⟨_,g1,_,g3,g4,g5⟩:=f3 b hb;show⟨g3,g1,g4,g5⟩
 let G:∀{H':Hp},(∀b∈fp,H' b=none)->∀b∈fp,uV (gF X scope cl C (ns++N2) {s2 with heap:=hp3} H3 fp) [] H' b:=λhn b hb=>⟨hn b hb,b8 (fpl b hb),agC b hb,.inl hb,λa c h1=>(f3 b hb).2.2.2.2.1 a c (j a c h1),λp hp=>by simp[gF]at hp⟩
 let st₁:tn 0 h₁:=T.keep _ _ _ st2 λb _ o e=>O b o (by rw[<-hs3];show ae _ e);let loop:codeAny (model X.prog X.w) X.A (.compLoop (.ListComp elt [⟨tg,iter,ifs,0⟩] scope pos) 0 (.ref it) (.ref D) (compEnvC scope cl C X.env)) (compPost (model X.prog X.w) X.A X.xe use RR (.ref D) C)
   {s2 with heap:=h₁,toks:=s2.toks+([]:List (Str×Value)).length}:=by
  calc Xh (λn s'=>∃i v ys H',v.length=ns.length/\aP (gF X scope cl C (ns++N2) {s2 with heap:=hp3} H3 fp) [] (v++f σ) H' s'/\tn i s'.heap/\(∀b∈fp,H' b=none)/\W i n ys H') ?_ m0 (JI 0 (List.replicate ns.length none) [] H3 ⟨cq,Y0,st₁,λb hb=>(f3 b hb).1,w0⟩);intro n s4 z;let⟨i,v,ys,H4,hv4,I4,st4,fr4,w4⟩:=z;rcases turn i n ys H4 w4 with⟨stop,qn⟩|⟨go,step⟩
  .refine b_ (T.done (gF X scope cl C (ns++N2) {s2 with heap:=hp3} H3 fp) rK rK rK hc i [] s4 (v++f σ) H4 _ I4 (G fr4) st4 stop) λr s5 ⟨hr,I5⟩=>?_
   subst hr;let⟨m,hn,_⟩:=id I5.loc;show fin D C H4 s5 m hn (λh' sb=>back s5 (v++f σ) H4 h' I5 sb fr4) ⟨I5.free,(F.yD (H':=H3) (iN hC) (F.hok.fresh (iN hC))).2⟩ qn
  .calc b_ (T.item (gF X scope cl C (ns++N2) {s2 with heap:=hp3} H3 fp) rK rK rK hc i [] s4 (v++f σ) H4 _ I4 (G fr4) st4 go) λr s5 Z=>?_;let⟨u,hr,h5⟩:=Z
   subst hr;calc b_ h5 λ_ s6 Z=>?_;let⟨y,H6,I6,r6,y6,st6,fr6⟩:=Z;let I6':=I6.pinned (G fr6) (T.obj _ _ st6);calc b_ (hg cl C {s2 with heap:=hp3} H3 fp _ s6 v (f σ) H6 y u _ hv4 I6' r6 (step y H6 y6)) λ_ s7 Z=>?_;let⟨pre,hpre,I7',q7⟩:=Z;calc b_ (ht cl C {s2 with heap:=hp3} H3 fp _ s7 _ H6 _ I7' q7) λb s8 Z=>?_;let⟨H8,I8,q8⟩:=Z;let ZL:∀{σ':St} {H':Hp} {s':Shared},aP (gF X scope cl C (ns++N2) {s2 with heap:=hp3} H3 fp) ([]++Ck fp s6.heap) σ' H' s'->tn (i+1) s'.heap/\∀b∈fp,H' b=none:=λ{σ' H' s'} I9=>by calc⟨T.keep _ _ _ st6 λb hb o e=>(I9.pin (b,o) (dL _ (dL _ (vm hb e)))).1,λb hb=>?_⟩;let⟨o,e,d⟩:=T.obj _ _ st6 b hb;show(I9.pin (b,o) (dL _ (dL _ (vm hb e)))).2.1
   cases b with
   | false=>let⟨m',hm,w'⟩:=q8;let⟨k1,k2⟩:=ZL I8;show⟨m',hm,i+1,pre,ys,H8,hpre,I8.wg,k1,k2,w'⟩
   | true=>have q8':te (pre++f σ) H8 _:=q8;show wpAny _ _ (eval elt _) _ _ _;calc b_ (he cl C {s2 with heap:=hp3} H3 fp _ s8 _ H8 _ I8 q8') λz s9 Z=>?_;let⟨zv,H9,I9,r9,hD9,hz9,m',hm,w'⟩:=Z;calc b_ (jD (X:=gF X scope cl C (ns++N2) {s2 with heap:=hp3} H3 fp) _ s9 _ H9 (.ref D) [zv] (.ref D) [z] (λ_ H'=>H'=upd H9 D (.lst (ys++[zv]))) I9 rK (.cons r9 .nil) (JE D ys zv ⟨rK,rK,hD9,hz9,rK⟩)) λ_ s10 Z=>?_;let⟨_,H10,I10,_,e10⟩:=Z;subst e10;let⟨k1,k2⟩:=ZL I10;show⟨m',hm,i+1,pre,ys++[zv],_,hpre,I10.wg,k1,k2,w'⟩
 show codeAny_compStart_list loop (T.self X.A 0 _ _ _ st₁ loop)
def Kp {scope:Scope}{N:List Str}(j:N.Nodup)(h0:N[0]?=some x)(hx:scope.names.lookup x=some .local):MJ (gF X scope cl C N s₀ H₀ fp) (.Name x pos) 1 (λv _ Q=>Q [some v]):=by intro ak s pre rest H v u Q hp I r q;let⟨G,rfl⟩:=List.length_eq_one_iff.mp hp;calc b_ (sW (X:=gF X scope cl C N s₀ H₀ fp) (i:=0) j h0 (.inl (lookup_relabel_local hx)) (.inr (lookup_relabel_local hx)) ak s _ H v u (λσ' H'=>H'=H/\σ'=some v::rest) I r ⟨rK,rK⟩) λ_ s' F=>?_;let⟨σ',H',D,e1,e2⟩:=F;subst e1 e2;show⟨[some v],rK,D,q⟩
def aej {X:Cx}(J:X.calm=true)(ok:jf X scope x)(hi:PI X (.Name x px) iter wi)(ht:∀cl C s₀ H₀ fp,Vh (blk X scope cl C x s₀ H₀ fp) ifs tt)(j:∀cl C s₀ H₀ fp,PE (blk X scope cl C x s₀ H₀ fp) elt te)(hs:∀x,foldedSetIterable iter X.env x=pure x:=by intro _;rfl):PE X (.ListComp elt [⟨.Name x px,iter,ifs,0⟩] scope pos) (adC wi tt te):=λak s σ H Q I h=>by
 let e:∀cl C s₀ H₀ fp,gF X scope cl C ([x]++X.N) s₀ H₀ fp=blk X scope cl C x s₀ H₀ fp:=λ_ _ _ _ _=>rfl;let nd:([x]++X.N).Nodup:=ib.mpr ⟨λz=>ok.out x z ok.hx,ok.nd⟩;let G:jM X scope [x] X.N id:=⟨ok.kind,ok.Ja,ok.names,ok.free,λ_=>rfl,rK,λσ i y v e1 e2=>⟨e1,e2,ok.out y (bp e1)⟩⟩
 rw[eval_ListComp];show Cv J G hi (λcl C s₀ H₀ fp=>Kp nd rK ok.hx) (λcl C s₀ H₀ fp=>ht cl C s₀ H₀ fp) (λcl C s₀ H₀ fp=>j cl C s₀ H₀ fp) hs I h λD C F Y m hn bk _ q=>⟨m,hn,λh' O=>(JA (.ref D) F ⟨bk h' O,rK,q⟩)⟩
def g_.mk {P:Prop}(h:i<n)(p:P):g_ n i P:=⟨_,Nat.sub_lt_sub_left h (gT _),rK,h,p⟩
def ZM {K:W.Frag}{a D:Addr}{xs:List V}{te:TE}{σ:St}{H:Hp}{R:Hp->Prop}(j:Nat->List V->Hp->Prop)(h0:j 0 [] (upd H D (.lst [])))(hl:∀i ys H,i<=xs.length->j i ys H->bC K H a xs)(hs:∀i x ys H,xs[i]?=some x->j i ys H->te (some x::σ) H (Ko xs.length i D ys (j (i+1))))(hd:∀ys H,j xs.length ys H->R H):Cr (Itl K a) D H R (Xi σ lV te):=O6 j h0 hl hs hd
def S (l:List Nat):Str:=⟨l.toArray⟩
def adD (l):(S l).cps.toList=l:=rfl
def qY (l):(S l).length=l.length:=rfl
def xG (h:S a=S b):a=b:=congrArg (λs:Str=>s.cps.toList) h
def agD (z:Str):S z.cps.toList=z:=by cases z;rfl
def ait (a b):S a++S b=S (a++b):=by
 show (⟨a.toArray++b.toArray⟩:Str)=⟨(a++b).toArray⟩
 simp
def adE (a b):decide (V.str (S a)=V.str (S b))=decide (a=b):=by
 by_cases e:a=b;.subst e;simp
 .rw[ag e,ag];intro z;injection z with z;show e (xG z)
section
variable {X:Cx}{a b c e o:Expr}{pos:Pos}
def aek (l){j pos}(h:x=S l):PE X (.Constant (.str x) j pos) (tC (.str (S l))):=by rw[h];show afP
def aiu:R2:=λx y H Q=>∃i j,x=.str (S i)/\y=.str (S j)/\i.length+j.length<=sizeLine/\Q (.str (S (i++j))) H
def mO:fZ X (binaryOp .Add) aiu:=by intro ak s σ H x y v u Q I F D h;let⟨i,j,rfl,rfl,hz,q⟩:=h;show W8 ak s σ H _ _ v u Q I F D (JA (S i) (S j) ⟨rK,rK,hz,by rw[ait];show q⟩)
def aiv:R2:=λx y H Q=>∃l i c,x=.str (S l)/\y=.int i/\l.length<=sizeLine/\sS l i=some c/\Q (.str (S [c])) H
def zZ:Gd X aiv:=by intro value j ak s σ H x y v u Q I G D h hs;let⟨l,i,c,rfl,rfl,hz,F,q⟩:=h;show agu value j ak s σ H _ _ v u Q I G D (JE (S l) i c ⟨rK,rK,hz,F,q⟩) hs
def aiw:List V->Hp->VK->Prop:=λxs H Q=>∃l,xs=[.str (S l)]/\l.length<=sizeLine/\Q (.int l.length) H
def cZ:iI X (.builtin "len") aiw:=by intro ak s σ H xs us Q I r h;let⟨l,rfl,hz,q⟩:=h;show Qc ak s σ H _ us Q I r ⟨S l,rK,hz,q⟩
def aje:R2:=λx y H Q=>∃i j,x=.str (S i)/\y=.str (S j)/\Q (.bl (decide (i=j))) H
def jF:fZ X (compareOp .Eq) aje:=by intro ak s σ H x y v u Q I F D h;let⟨i,j,rfl,rfl,q⟩:=h;show iQ ak s σ H _ _ v u Q I F D ⟨rK,by rw[adE];show q⟩
def ajf:R2:=λx y H Q=>∃i j,x=.str (S i)/\y=.str (S j)/\Q (.bl (!decide (i=j))) H
def Jb:fZ X (compareOp .NotEq) ajf:=by intro ak s σ H x y v u Q I F D h;let⟨i,j,rfl,rfl,q⟩:=h;show zU ak s σ H _ _ v u Q I F D ⟨rK,by rw[adE];show q⟩
def ajg:R2:=λx y H Q=>∃c l,x=.str (S [c])/\y=.str (S l)/\Q (.bl (decide (c∈l))) H
def agE:fZ X (compareOp .In) ajg:=by
 intro ak s σ H x y v u Q I D j h;let⟨c,l,rfl,rfl,q⟩:=h;show Zh ak s σ H _ _ v u Q I D j (JA (S [c]) (S l) ⟨rK,rK,by
  let e:=StrLaws.found_one (S l) c;rw[adD]at e;rw[show (S [c])=(⟨#[c]⟩:Str) from rK,e];show q⟩)
noncomputable def gU (l:List Nat)(lo hi:Option Int):List Nat:=(l.drop (HT.cV l.length 0 lo)).take (HT.cV l.length l.length hi-HT.cV l.length 0 lo)
def Vi (lo hi)(n):Builtin.Str.strSliceIndices lo hi 1 n=(List.range (HT.cV n n hi-HT.cV n 0 lo)).map (λk=>HT.cV n 0 lo+k):=by
 let D:∀(v:Int) (d:Nat),max (0:Int) (min (if v<0 then v+(n:Int) else v) (n:Int))=((HT.cV n d (some v):Nat):Int):=λv d=>by rw[<-HT.Kg];split <;> grind
 let F:∀a b:Nat,sliceRange (a:Int) (b:Int) 1=(List.range (b-a)).map (λk=>a+k):=λa b=>by
  simp only[sliceRange,show ((1:Int) > 0)=True from by simp,if_true];by_cases G:(a:Int)<b
  .let e3:(((b:Int)-a+1-1)/1).toNat=b-a:=by first|simp|(simp;done)|(simp;lia)
   simp only[G,if_true,e3];calc fA λk _=>?_;lia
  .have:b-a=0:=by simp_all
   simp[G,this]
 unfold Builtin.Str.strSliceIndices;simp only[show ((1:Int) > 0)=True from by simp,if_true];cases lo with
 | none=>
  cases hi with| none=>show F 0 n| some j=>dsimp only;rw[D j n];show F 0 _
 | some i=>
  cases hi with| none=>dsimp only;rw[D i 0];show F _ n| some j=>dsimp only;rw[D i 0,D j n];show F _ _
def ZP (l)(lo hi):Txt.slice (S l) lo hi=S (gU l lo hi):=by
 let I:HT.cV l.length l.length hi<=l.length:=HT.Zo _ _ (al _) _;let F:((Builtin.Str.strSliceIndices lo hi 1 (S l).length).filterMap ((S l).cps[·]?))=gU l lo hi:=by
  rw[Vi];let h:=StrLaws.picks l (HT.cV l.length l.length hi-HT.cV l.length 0 lo) (HT.cV l.length 0 lo);unfold gU;by_cases D:HT.cV l.length 0 lo<=HT.cV l.length l.length hi
  .let h2:=h (by simp_all);rw[qY];simpa [S] using h2
  .let e:HT.cV l.length l.length hi-HT.cV l.length 0 lo=0:=Nat.sub_eq_zero_of_le p_;rw[qY,e];simp
 unfold Txt.slice;split
 .rename_i D;let G:(Builtin.Str.strSliceIndices lo hi 1 (S l).length).length=l.length:=by
   simp at D;simpa [qY] using D
  let j:HT.cV l.length l.length hi-HT.cV l.length 0 lo=l.length:=by rw[Vi,qY]at G;simpa using G
  let h0:HT.cV l.length 0 lo=0\/l.length=0:=p_;let e:gU l lo hi=l:=by
   unfold gU;rw[j];rcases h0 with z|z;.rw[z];simp
   .have:l=[]:=gN.mp z;subst this;simp
  rw[e]
 .rw[F];rfl
def ajh:V->Option Int->Option Int->Hp->VK->Prop:=λx lo hi H Q=>∃l,x=.str (S l)/\l.length<=sizeLine/\Q (.str (S (gU l lo hi))) H
def part_of {o:Option Int}(p:IsPart v o):∃l:Option (Int×Tok),v=partValue l/\l.map (·.1)=o:=by
 cases p with| none=>show⟨none,rK,rK⟩| int i t=>show⟨some (i,t),rK,rK⟩
def pQ:Va X ajh:=by intro ak s σ H x v Y O lo hi sl Q I J hs pl G h;let⟨l,rfl,hz,q⟩:=h;let⟨t,rfl⟩:=J;let⟨p1,rfl,rfl⟩:=part_of pl;let⟨p2,rfl,rfl⟩:=part_of G;calc JA ("str") _ ⟨F.slot_str_getitem.lookup,typeIs_str _ _ _,?_⟩;calc wpAny_getItem_str_slice (l:=p1) (u:=p2) (st:=none) hs rK ?_;let e:=ZP l (p1.map (·.1)) (p2.map (·.1));let j:(Txt.slice (S l) (p1.map (·.1)) (p2.map (·.1))).length<=sizeLine:=bP (Txt.slice_le _ _ _) hz;calc post_val_or_str ⟨j,λt' k=>?_⟩;let D:(if ((Option.map (λx:Int×Tok=>x.1) none).getD 1==1&&(slicePicked (S l) p1 p2 none).length==(S l).length)=true then S l else ⟨((slicePicked (S l) p1 p2 none).filterMap ((S l).cps[·]?)).toArray⟩)=S (gU l (p1.map (·.1)) (p2.map (·.1))):=e;show JA (.str (S (gU l (p1.map (·.1)) (p2.map (·.1))))) H ⟨I.tok _,⟨t',congrArg (λz=>Value.str z t') D⟩,q⟩
abbrev Ts (ls:AA):List V:=ls.map λl=>V.str (S l)
def adF (K:W.Frag):List V->Hp->VK->Prop:=λxs H Q=>∃x n t b,xs=[x,.ty n]/\lR K H x t/\W.kitOne K t (.type n)=some b/\Q (.bl b) H
def cP:iI X (.builtin "isinstance") (adF X.K):=by intro ak s σ H xs us Q I r h;let⟨x,n,t,b,rfl,ty,k,q⟩:=h;let⟨u,D,rfl,r1,j⟩:=vals2 r;cases j;show Ms I r1 ty k λtk=>(JA (.bl b) H ⟨I.tok tk,rK,q⟩)
def aix:R2:=λx y H Q=>∃l n,x=.str (S l)/\y=.int (n:Nat)/\1<=n/\n<1000/\l.length<1000/\Q (.str (S (List.replicate n l).flatten)) H
theorem Qg (l:List Nat):∀(n:Nat) (j:Array Nat),((List.replicate n l.toArray).foldl (· ++ ·) j).toList=j.toList++(List.replicate n l).flatten
 | 0,j=>by simp
 | n+1,j=>by rw[dC,nv,Qg l n,dC];simp
def ael:fZ X (binaryOp .Mult) aix:=by
 intro ak s σ H x y v u Q I O J h;let⟨l,n,rfl,rfl,h1,h2,h3,q⟩:=h;let⟨t,rfl⟩:=O;let⟨t',rfl⟩:=J;let j:l.length*n<=1000*1000:=gp (ap h3) (ap h2);let F:(1000*1000:Nat)<=sizeLine:=by decide
 calc PySem.P.mul_str ?_ ?_ ?_ ?_;.rw[ag qa,ag p_];rfl
 .intro _ _;let e:(2^63-1:Int)/(n:Int)>=1000:=by
   calc Int.le_ediv_of_mul_le (Iff.mpr nc h1) ?_;have:(1000:Int)*(n:Int)<=1000*1000:=by lia
   lia
  rw[qY];lia
 .intro _ _;show decide (_ > _)=false;rw[ag];rw[qY,dv];lia
 .rw[if_neg p_];let D:(⟨(List.replicate (n:Int).toNat (S l).cps).foldl (· ++ ·) #[]⟩:Str)=S (List.replicate n l).flatten:=by
   let e:=Qg l n #[];rw[dv];unfold S;congr 1;apply pi.mp;simpa using e
  rw[D];split
  .rename_i G;let e:(List.replicate n l).flatten=l:=by
    simp at G;rcases G with z|z
    .have:n=1:=by lia
     subst this;simp
    .have:l=[]:=by simpa [S,Str.length] using z
     subst this;simp
   rw[e]at q;show JA (.str (S l)) H ⟨I,⟨t,rK⟩,q⟩
  .calc⟨?_,.str (S (List.replicate n l).flatten),H,I.tok _,⟨_,rK⟩,q⟩;rw[qY,len_rep,Nat.mul_comm];show bP j F
def Vj (ls:AA):Txt.join (S []) (ls.map S)=S ls.flatten:=by
 unfold Txt.join Builtin.Str.glued;let D:∀(ls:AA) (j:Array Nat),((ls.map S).foldl (λj p=>j++(S []).cps++p.cps) j).toList=j.toList++ls.flatten:=by
  intro ls
  induction ls with| nil=>intro j;simp| cons l r ih=>intro j;rw[cf,nv,ih];simp[S]
 unfold S;congr 1;apply pi.mp;cases ls with| nil=>rfl| cons l r=>have:=D r (S l).cps;let e:(List.map S (l::r)).drop 1=List.map S r:=rfl;show (((List.map S (l::r)).drop 1).foldl _ (S l).cps).toList=_;rw[e];show this.trans (by simp[S])
def rJoin (K:W.Frag):V->List V->Hp->VK->Prop:=λx vs H Q=>∃p ls,x=.str (S [])/\vs=[.ref p]/\bC K H p (Ts ls)/\ls.flatten.length<=1000/\Q (.str (S ls.flatten)) H
theorem E_:∀{ls:AA} {us:List Value},Vals (Ts ls) us->StrsAre us (ls.map S)
 | [],_,.nil=>.nil
 | l::r,_,.cons q t=>by let⟨t',rfl⟩:=q;show .cons (S l) t' (E_ t)
def Vk (ls:AA):((ls.map S).map (·.length)).sum=ls.flatten.length:=by
 induction ls with| nil=>rfl| cons l r ih=>rw[cf,cf,n9,ih,fe,ay,qY]
def qI:xu X "str.join" (rJoin X.K):=by
 intro ak s σ H x vs v us Q I G D h;let⟨p,ls,rfl,rfl,F,hz,q⟩:=h;let⟨t,rfl⟩:=G;let⟨u,rfl,j⟩:=vals1 D;cases j;let⟨its,r,pl,_⟩:=I.list F;refine join_list pl.isList (ys:=ls.map S) (by simpa using E_ r) ?_ λt' k=>?_
 .rw[Vk];show _+_*0<=_;lia
 .show JA (.str (S ls.flatten)) H ⟨I.tok k,⟨t',congrArg (λz=>Value.str z t') (Vj ls)⟩,q⟩
end
structure aM (K:W.Frag)(mg:Str->Option Value)(name:Str)(st:Stmt)(ps:List Str):Prop where
 ex:∃f fd,d7 K name name st f fd/\bK K fd ps []/\mg name=some (.ref f)
structure bU (P:Program)(w:World)(K:W.Frag)(mg:Str->Option Value)(base:Heap)(name:Str)(k:Nat)(ps:List Str)(sp:Sp):Prop where
 ex:∃f fd,bW P w K mg base cW k f fd ps sp/\bK K fd ps []/\mg name=some (.ref f)/\W.keepIn K (.ref f)=true
def aM.ok {K:W.Frag}{mg:Str->Option Value}{name:Str}{st:Stmt}{N ps:List Str}{k:Nat}{sp:Sp}(D:aM K mg name st ps)(S:aZ N ps (aH st))(len:∀vs H Q E,sp vs H Q E->vs.length=ps.length)(j:∀(f:Addr) (bH:Value) (A:Around) (outer:List Env) (s:Shared) (H:Hp) (vs:List V) (Q:VK) (E:XK),fK k (A.deeper (envOfC name (aH st) s.heap.objs.size f bH))->sp vs H Q E->
   ∃t,vZ (sY cW P w K mg base N name (aH st) f bH A outer s H E).PK (cM st) t/\t {nx:=λ_ H'=>Q .non H',rt:=Q} (start N vs) H):bU P w K mg base name (k+1) ps sp:=by
 let⟨f,fd,F,b,g⟩:=D.ex;show⟨f,fd,F.ok S len (j f),b,g,F.kp⟩
section
variable {X:Cx}{x:Str}{p pos:Pos}{e:Expr}{es:List Expr}{t:TA}
def agF (D:bU X.prog X.w X.K X.mg X.base x k ps sp)(J:fK k X.A)(I:Gl X x)(ha:PA X (e::es) t)(F:(x==("__debug__":Str))=false:=by decide)(hs:starEach (e::es) X.env=(false,eval e X.env)::starEach es X.env:=by rfl)(j:(backTo pos (starEach es X.env)).any (·.1)=false:=by rfl):PE X (.Call (.Name x p) (e::es) [] pos) (Xd sp [] E0 t):=by let⟨f,fd,G,b,g,kp⟩:=D.ex;show ad7 G J I g kp b .nil cY ha F hs j
end
theorem aB.upd (h:H p=none):aB H (upd H p o):=λb o' e=>by rw[aV (aX e h)];show e
def aB.dH (s:aB H H')(h:H p=none):aB H (L2.upd H' p o):=λb o' e=>by rw[aV (aX e h)];show s b o' e
def abR {K:W.Frag}{h:Heap}{mg:Str->Option Value}{name:Str}{st:Stmt}{ps:List Str}{f:Addr}{oc:Value}{od an:Option Addr}{osl:Array (Option Value)}{kV doc pm bH ct:Value}(X:K.In h)(G:h.Ns mainGlobals mg)(a:W.nsIn K mainGlobals name=some (some (.ref f)))(l:K.lookup f=some ⟨oc,od,.func (W.fnOf name name (cX st) (cM st) (aH st) .none kV doc pm an bH ct),osl⟩)(c:W.codeIn K bH name=true)(k:W.keepIn K (.ref f)=true)(hb:∀(kV doc pm:Value) (an:Option Addr) (bH ct:Value) (us:List Value),us.length=ps.length->bindArgs (W.fnOf name name (cX st) (cM st) (aH st) .none kV doc pm an bH ct) ⟨us,[]⟩=pure (ps.zip us)):aM K mg name st ps:=⟨f,_,fO l c k,(fO l c k).binds hb,c8 X G a⟩
def agG {K:W.Frag}{h:Heap}{mg:Str->Option Value}{st:Stmt}{x:Str}{f D:Addr}{oc:Value}{od an:Option Addr}{osl:Array (Option Value)}{kV doc pm bH ct:Value}(X:K.In h)(G:h.Ns mainGlobals mg)(j:mg "law"=some (.ref D))(a:W.nsIn K mainGlobals "law"=some (some (.ref f)))(l:K.lookup f=some ⟨oc,od,.func (W.fnOf "law" "law" (cX st) (cM st) (aH st) .none kV doc pm an bH ct),osl⟩)(c:W.codeIn K bH "law"=true)(k:W.keepIn K (.ref f)=true)(hb:∀(kV doc pm:Value) (an:Option Addr) (bH ct v:Value),bindArgs (W.fnOf "law" "law" (cX st) (cM st) (aH st) .none kV doc pm an bH ct) ⟨[v],[]⟩=pure [(x,v)]):∃fd:FuncData,d7 K "law" "law" st D fd/\∀(s:Shared) (v:Value),BindsTo s fd ⟨[v],[]⟩ [(x,v)]:=by let e:=j.symm.trans (c8 X G a);cases e;show⟨_,fO l c k,λs v=>.of_eq (hb kV doc pm an bH ct v)⟩
def O7 (K:W.Frag):Sp:=λvs H Q _=>∃(a:Addr) (ns:List Int),vs=[.ref a]/\bC K H a (ns.map V.int)/\ns.length<=63/\∀H',Q (.bl true) H'
def aem {x:Str}{l:W.OpenLaw}{j:List Str}{O:(Str->Option Value)->Heap->Prop}{Y:World->Heap->Prop}{d:DefRec}{K:Params->W.Frag}(hn:l.most=some 63)(D:d.params.defaults=[])(I:∀(w:World) (h:Heap),Y w h->(K w.params).In h)(F:∀(w:World) (mg:Str->Option Value) (G:Addr) (h:Heap),(K w.params).In h->h.Ns mainGlobals mg->mg d.name=some (.ref G)->
   ∃fd:FuncData,(∀(s:Shared) (u:Value),BindsTo s fd ⟨[u],[]⟩ [(x,u)])/\∀base:Heap,(K w.params).In base->base.Ns mainGlobals mg->bW l.prog w (K w.params) mg base cW 20 G fd [x] (O7 (K w.params))) :
  W.WalkO q j O Y l.row.toRowW d [] (λf vs=>PySem.call f vs):=
 L2.aeh (n:=63) (k:=20) (x:=x) (CX:=λ_=>cW) (sp:=λw=>O7 (K w.params)) hn qc D ⟨rK,qc,qc⟩ I F (λ_ _ a ns hl _ J=>(JA a ns ⟨rK,J,hl,λ_=>rfl⟩)) λ_ _ _ _ _ z=>z
namespace RV
end RV
structure QE (X:Cx)(e:Expr)(t:TE):Prop where
 out:PE X e t
structure QT (X:Cx)(e:Expr)(t:TT):Prop where
 out:PT X e t
structure QW (X:Cx)(e:Expr)(t:TT):Prop where
 out:PW X e t
structure QA (X:Cx)(es:List Expr)(t:TA):Prop where
 out:PA X es t
structure QS (X:Cx)(st:Stmt)(t:TS):Prop where
 out:PS X st t
structure xH (X:Cx)(st:List Stmt)(t:TS):Prop where
 out:vZ X st t
structure QG (X:Cx)(e:Expr)(t:TG):Prop where
 out:PG X e t
structure QGs (X:Cx)(es:List Expr)(t:Mi):Prop where
 out:Y9 X es t
structure QI (X:Cx)(tg iter:Expr)(wi:TI):Prop where
 out:PI X tg iter wi
structure QO (X:Cx)(e:Option Expr)(t:TO):Prop where
 out:PO X e t
structure QC (X:Cx)(op:CmpOp)(a b:Expr)(t:TE):Prop where
 out:PC X op a b t
structure QTs (X:Cx)(ifs:List Expr)(t:TT):Prop where
 out:Vh X ifs t
def QW.qt (h:QW X e t):QT X e t:=⟨h.out.pt⟩
section
variable {X:Cx}{st:Stmt}{rest:List Stmt}{t u:TS}
variable {pos:Pos}
variable {e:Expr}{te:TE}
def bI  : xH X [] adp:=⟨adZ⟩
def aA (h1:QS X st t)(h2:xH X rest u):xH X (st::rest) (af3 t u):=⟨abt h1.out h2.out⟩
def aF (h1:QS X st t):xH X [st] t:=⟨ad0 h1.out⟩
def cA (j:QT X c tc)(ha:xH X a t)(hb:xH X b u):QS X (.If c a b pos) (af6 tc t u):=⟨aii j.out ha.out hb.out⟩
def bf (j:QE X e te):QS X (.Return (some e) pos) (af4 te):=⟨af5 j.out⟩
def dD (j:QE X e te)(hs:swapsWith e none pos.line X.env=pure false:=by rfl):QS X (.Expr e pos) (adq te):=⟨ad1 j.out hs⟩
end
section
variable {X:Cx}{tg:Expr}
def fP (hp:PassesOwn (model X.prog X.w) X.A X.env X.xe)(D:X.calm=true)(hi:QI X tg iter wi)(j:QG X tg g)(hb:xH X body tb)(hs:∀x,foldedSetIterable iter X.env x=pure x:=by intro _;rfl):QS X (.For tg iter body [] pos) (agd wi g tb):=⟨agf hp D hi.out j.out hb.out hs⟩
end
section
variable {X:Cx}{o value:Expr}{f:Str}{pos pos':Pos}{ta tv:TE}
def aU (j:X.N.Nodup)(hi:X.N[i]?=some x)(hx:Loc X.env.scope x)(F:QE X e te)(hs:swapsWith e (some (.Name x pos')) pos.line X.env=pure false:=by rfl)(D:X.fn x=true\/X.env.scope.names.lookup x=some .local:=by first|show .inl rfl|show .inr rfl|assumption):QS X (.Assign [.Name x pos'] e pos) (Ke te (qW i)):=⟨aga j hi hx F.out hs D⟩
def qJ:xH X sts Y7:=⟨Y8⟩
def lB (ha:QE X o ta)(j:QE X value tv)(hs:swapsWith value (some (.Attribute o f pos')) pos.line X.env=pure false):QS X (.Assign [.Attribute o f pos'] value pos) (agi X.K ta tv f):=⟨agk ha.out j.out hs⟩
def qZ (D:QE X e te)(j:QG X tg g)(hs:swapsWithSole [tg] e pos.line X.env=pure false:=by rfl)(hw:swappedStores [tg] e X.env=pure none:=by rfl)(h1:(assignEach [tg] X.env).map (·.2)=[assign tg X.env]:=by rfl):QS X (.Assign [tg] e pos) (Ke te g):=⟨af_ D.out j.out hs hw h1⟩
def bF (D:X.N.Nodup)(hi:X.N[i]?=some x)(hx:Loc X.env.scope x)(j:X.fn x=true\/X.env.scope.names.lookup x=some .local:=by first|show .inl rfl|show .inr rfl|assumption):QG X (.Name x pos) (qW i):=⟨sW D hi hx j⟩
def nY {es:List Expr}{k:Nat}{t:Mi}{n:Nat}(D:X.calm=true)(h:QGs X es t)(hn:(assignEach es X.env).length=n:=by rfl)(j:(assignEach es X.env).findIdx? (·.1)=none:=by rfl):QG X (.Tuple es k pos) (W2 X.K n t):=⟨PL D h.out hn j⟩
def lq  : QGs X [] W0:=⟨Kd⟩
def bT (h1:QG X e t)(h2:QGs X es u)(hs:(assignEach (e::es) X.env).map (·.2)=assign e X.env::(assignEach es X.env).map (·.2):=by rfl):QGs X (e::es) (zT t u):=⟨sX h1.out h2.out hs⟩
end
section
variable {X:Cx}
def au {i j pos}:QE X (.Constant (.int i) j pos) (tC (.int i)):=⟨afO⟩
def h_ {b j pos}:QE X (.Constant (.bool b) j pos) (tC (.bl b)):=⟨aic⟩
end
section
variable {X:Cx}{a b c:Expr}{ta tb tc:TE}{pos:Pos}
variable {tA:TT}
variable {pW:TT}{rest:List Expr}
def aJ (j:fZ X (binaryOp op) r)(ha:QE X a ta)(hb:QE X b tb):QE X (.BinOp a op b pos) (Ga r ta tb):=⟨aij j ha.out hb.out⟩
def vA (j:UnR X (unaryOp op) r)(ha:QE X a ta):QE X (.UnaryOp op a pos) (tUn r ta):=⟨aik j ha.out⟩
def d_ (j:fZ X (compareOp op) r)(ha:QE X a ta)(hb:QE X b tb)(hm:behindInMarks op b=false):QE X (.Compare a [op] [b] pos) (Ga r ta tb):=⟨ad3 j ha.out hb.out hm⟩
def bQ (j:fZ X (compareOp op) r)(ha:QE X a ta)(hb:QE X b tb)(hm:behindInMarks op b=false):QT X (.Compare a [op] [b] pos) (O1 (Ga r ta tb)):=⟨ad4 j ha.out hb.out hm⟩
def lW (D:fZ X (compareOp op) r)(j:fZ X (compareOp op') r')(ha:QE X a ta)(hb:QE X b tb)(F:QE X c tc)(hm:lastMarks [op,op'] [b,c]=false:=by with_unfolding_all rfl):QE X (.Compare a [op,op'] [b,c] pos) (Cm r r' ta tb tc):=⟨abw D j ha.out hb.out F.out hm⟩
def z9 (D:fZ X (compareOp op) r)(j:fZ X (compareOp op') r')(ha:QE X a ta)(hb:QE X b tb)(F:QE X c tc)(hm:lastMarks [op,op'] [b,c]=false:=by with_unfolding_all rfl):QT X (.Compare a [op,op'] [b,c] pos) (O1 (Cm r r' ta tb tc)):=⟨abx D j ha.out hb.out F.out hm⟩
def cQ (h:QE X e t)(D:∀j,isTrue e X.env j=(do let v <- j;standAt e.pos;holding [v] (truthy v)):=by intro _;rfl):QT X e (tB t):=⟨afS h.out D⟩
def dG (ha:QT X a tA):QT X (.UnaryOp .Not a pos) (afU tA):=⟨afX ha.out⟩
def zm (ha:QT X a tA)(hb:QW X (.BoolOp .And (b::rest) pos) pW):QW X (.BoolOp .And (a::b::rest) pos) (afT tA pW):=⟨afW ha.out hb.out⟩
def Fb (ha:QT X a tA):QW X (.BoolOp .And [a] pos) tA:=⟨adY ha.out⟩
def je (ha:QT X a tA)(hb:QW X (.BoolOp .Or (b::rest) pos) pW):QW X (.BoolOp .Or (a::b::rest) pos) (tOr tA pW):=⟨aie ha.out hb.out⟩
def iR (ha:QT X a tA):QW X (.BoolOp .Or [a] pos) tA:=⟨afV ha.out⟩
def jG (ha:QE X a ta)(hb:QE X (.BoolOp .And (b::rest) pos) tb):QE X (.BoolOp .And (a::b::rest) pos) (adn ta tb):=⟨af0 ha.out hb.out⟩
def O8 (ha:QE X a ta)(hb:QE X (.BoolOp .Or (b::rest) pos) tb):QE X (.BoolOp .Or (a::b::rest) pos) (afY ta tb):=⟨aif ha.out hb.out⟩
def jg {op}(h:QE X a t):QE X (.BoolOp op [a] pos) t:=⟨afZ h.out⟩
def Qh (ha:QE X a ta):QE X (.UnaryOp .Not a pos) (ado ta):=⟨af2 ha.out⟩
def nD (j:QT X c tA)(ha:QE X a ta)(hb:QE X b tb):QE X (.IfExp c a b pos) (tIf tA ta tb):=⟨abr j.out ha.out hb.out⟩
def aY (j:Gd X r)(ha:QE X a ta)(hb:QE X b tb)(hs:Ey b):QE X (.Subscript a b pos) (Ga r ta tb):=⟨ain j ha.out hb.out hs⟩
end
section
variable {X:Cx}{e:Expr}{te:TE}{lo hi:Option Expr}{tl th:TO}{pos p2:Pos}
variable {es:List Expr}{t:TA}
variable {x:Str}{p:Pos}{id:String}{r:List V->Hp->VK->Prop}
variable {T:String}
def dj {r:V->Option Int->Option Int->Hp->VK->Prop}(j:Va X r)(D:QE X e te)(hl:QO X lo tl)(F:QO X hi th):QE X (.Subscript e (.Slice lo hi none p2) pos) (tSl r te tl th):=⟨abE j D.out hl.out F.out⟩
def eE  : QO X none U_:=⟨aea⟩
def dI (h:QE X e te):QO X (some e) (adz te):=⟨aeb h.out⟩
def jH (h:QA X es t):QE X (.List es pos) (ago t):=⟨agq h.out⟩
def cR {x1}(h:QA X es t):QE X (.Tuple es x1 pos) (agn t):=⟨agp h.out⟩
def ao  : QA X [] zV:=⟨agm⟩
def aj (ha:QE X e te)(j:QA X es t)(hs:starEach (e::es) X.env=(false,eval e X.env)::starEach es X.env:=by rfl):QA X (e::es) (vp te t):=⟨ad6 ha.out j.out hs⟩
def aO (G:iI X (.builtin id) r)(F:Gl X x)(hm:X.mg x=none)(J:bootBuiltins x=some (.builtin id))(ha:QA X (e::es) t)(hn:x≠"__name__":=by decide)(D:(x==("__debug__":Str))=false:=by decide)(I:starEach (e::es) X.env=(false,eval e X.env)::starEach es X.env:=by rfl)(j:(backTo pos (starEach es X.env)).any (·.1)=false:=by rfl):QE X (.Call (.Name x p) (e::es) [] pos) (tCB r t):=⟨abC G F hm J ha.out hn D I j⟩
def eO (G:iI X (.type T) r)(F:Gl X x)(hm:X.mg x=none)(J:bootBuiltins x=some (.type T))(ha:QA X (e::es) t)(hn:x≠"__name__":=by decide)(D:(x==("__debug__":Str))=false:=by decide)(I:starEach (e::es) X.env=(false,eval e X.env)::starEach es X.env:=by rfl)(j:(backTo pos (starEach es X.env)).any (·.1)=false:=by rfl):QE X (.Call (.Name x p) (e::es) [] pos) (tCB r t):=⟨Zn G F hm J ha.out hn D I j⟩
end
section
variable {X:Cx}{o e:Expr}{es:List Expr}{to:TE}{t:TA}{name:Str}{apos cpos:Pos}{T id:String}{r:V->List V->Hp->VK->Prop}
variable {tg:Expr}
def f9 (J:PlainAttrs T)(slot:Slot T name id)(I:typeOf (.builtin id)=pure (.type "method_descriptor"))(hm:xu X id r)(O:QE X o to)(ha:QA X (e::es) t)(F:attributeBase o name X.env (eval o X.env)=eval o X.env:=by rfl)(G:((backTo cpos (starEach (e::es) X.env)).all (λx=>!x.1)&&(backToKw cpos (keywordEach [] X.env)).all (λx=>x.1.isSome)
   && decide ((e::es).length+([]:List Keyword).length+(if ([]:List Keyword).isEmpty then 0 else 1)<30))=true:=by rfl) (D:(apos.endLine==cpos.line)=true:=by rfl) (hs:starEach (e::es) X.env=(false,eval e X.env)::starEach es X.env:=by rfl) (j:(backTo cpos (starEach es X.env)).any (·.1)=false:=by rfl):QE X (.Call (.Attribute o name apos) (e::es) [] cpos) (tBM X.K T r to t):=
 ⟨aip J slot I hm O.out ha.out F G D hs j⟩
def zp (G:PlainAttrs T)(slot:Slot T name id)(F:typeOf (.builtin id)=pure (.type "method_descriptor"))(hm:xu X id r)(I:QE X o to)(D:attributeBase o name X.env (eval o X.env)=eval o X.env:=by rfl)(j:(apos.endLine==cpos.line)=true:=by rfl):QE X (.Call (.Attribute o name apos) [] [] cpos) (abF X.K T r to):=⟨agy G slot F hm I.out D j⟩
def fu {x:Str}{v:V}{u:Value}{pos:Pos}(j:Gl X x)(hm:X.mg x=none)(D:bootBuiltins x=some u)(r:cB v u)(hn:x≠"__name__":=by decide)(hd:(x==("__debug__":Str))=false:=by decide):QE X (.Name x pos) (tC v):=⟨adX j hm D r hn hd⟩
def zq (j:Gl X x)(hm:X.mg x=some u)(r:cB v u)(hd:(x==("__debug__":Str))=false:=by decide):QE X (.Name x pos) (tC v):=⟨adW j hm r hd⟩
def oh (hl:QE X l tl):QI X tg l (adt X.K tl):=⟨ad2 hl.out⟩
def gG (hl:QE X l tl):QI X tg l (agb X.K tl):=⟨agc hl.out⟩
def uJ (j:Gl X "range")(hm:X.mg "range"=none)(ha:QA X [a] ta)(hs:starEach [a] X.env=[(false,eval a X.env)]:=by rfl):QI X tg (.Call (.Name "range" p) [a] [] pos) (adu ta):=⟨Zb j hm ha.out hs⟩
def MN {a b:Expr}{ta:TA}{p pos:Pos}(D:Gl X "range")(hm:X.mg "range"=none)(ha:QA X [a,b] ta)(hs:starEach [a,b] X.env=[(false,eval a X.env),(false,eval b X.env)]:=by rfl)(j:starEach [b] X.env=[(false,eval b X.env)]:=by rfl):QI X tg (.Call (.Name "range" p) [a,b] [] pos) (adv ta):=⟨Zd D hm ha.out hs j⟩
end
section
variable {X:Cx}{e:Expr}{f:Str}{pos:Pos}{ta:TE}
def bR (j:QE X e ta)(hb:attributeBase e f X.env (eval e X.env)=eval e X.env):QE X (.Attribute e f pos) (Xa X.K ta f):=⟨agj j.out hb⟩
end
section
variable {X:Cx}{CX:uH}{k:Nat}{f C:Addr}{fd:FuncData}{ps:List Str}{sp:Sp}{j9:List V}{ds:List Value}{E:XK}{m:Str}{pos apos:Pos}{e o:Expr}{es:List Expr}{ta:TE}{t:TA}
variable {x:Str}{p:Pos}
variable {i:Expr}{td ty:TE}
variable {cpos:Pos}
variable {value:Expr}{tv:TE}{pos':Pos}
def mQ {pl:Sem Bool}(I:QE X o ta)(c:Cls X.K C)(hm:Meth X.K C m f)(F:bW X.prog X.w X.K X.mg X.base CX k f fd ps sp)(G:fK k X.A)(hb:bK X.K fd ps ds)(hd:Vals j9 ds)(hx:Passes CX X E)(ha:QA X (e::es) t)(D:starEach (e::es) X.env=(false,eval e X.env)::starEach es X.env:=by rfl)(j:(backTo pos (starEach es X.env)).any (·.1)=false:=by rfl)(ht:eval (.Call (.Attribute o m apos) (e::es) [] pos) X.env=(do
   let ov <- eval o X.env
   standAt apos.atName
   let (f,first) <- holding [ov] (getMethod ov m pl)
   callWith pos f first (backTo pos (starEach (e::es) X.env)) (backToKw pos (keywordEach [] X.env))):=by rfl):QE X (.Call (.Attribute o m apos) (e::es) [] pos) (O2 C m sp j9 E ta t):=
 ⟨ad8 I.out c hm F G hb hd hx ha.out D j ht⟩
def dR (D:QE X o ta)(c:Cls X.K C)(hm:Meth X.K C m f)(F:bW X.prog X.w X.K X.mg X.base CX k f fd ps sp)(j:fK k X.A)(hb:bK X.K fd ps ds)(hd:Vals j9 ds)(hx:Passes CX X E)(ht:eval (.Call (.Attribute o m apos) [] [] pos) X.env=(do
   let ov <- eval o X.env
   standAt apos.atName
   let (f,first) <- holding [ov] (getMethod ov m pl)
   callWith pos f first (backTo pos (starEach [] X.env)) (backToKw pos (keywordEach [] X.env))):=by rfl):QE X (.Call (.Attribute o m apos) [] [] pos) (O2 C m sp j9 E ta zV):=
 ⟨abA D.out c hm F j hb hd hx ht⟩
def o9 (M:Mk X.K C f)(F:bW X.prog X.w X.K X.mg X.base CX k f fd ps sp)(I:fK (k+1) X.A)(G:Gl X x)(hm:X.mg x=some (.ref C))(hb:bK X.K fd ps ds)(hd:Vals j9 ds)(hx:Passes CX X E)(ha:QA X (e::es) t)(D:(x==("__debug__":Str))=false:=by decide)(J:starEach (e::es) X.env=(false,eval e X.env)::starEach es X.env:=by rfl)(j:(backTo pos (starEach es X.env)).any (·.1)=false:=by rfl):QE X (.Call (.Name x p) (e::es) [] pos) (adx C sp j9 E t):=⟨ad9 M F I G hm hb hd hx ha.out D J j⟩
def Qi  : QE X (.Dict [] [] pos) Zy:=⟨abM⟩
def agH (D:X.A.units+1<cLine)(hi:QE X i ty)(j:QE X o td):QC X .In i o (agz ty td):=⟨agA D hi.out j.out⟩
def ZQ (D:X.A.units+1<cLine)(hi:QE X i ty)(j:QE X o td):QC X .NotIn i o (Vc ty td):=⟨Zx D hi.out j.out⟩
def abS (j:QE X o td)(D:QE X e ty)(m:M1 X o "pop" apos e cpos):QE X (.Call (.Attribute o "pop" apos) [e] [] cpos) (ZD td ty):=⟨abO j.out D.out m⟩
def Vl (F:X.A.units+1<cLine)(j:QE X o td)(hi:QE X i ty)(D:QE X value tv)(hs:swapsWith value (some (.Subscript o i pos')) pos.line X.env=pure false):QS X (.Assign [.Subscript o i pos'] value pos) (adB td ty tv):=⟨aeg F j.out hi.out D.out hs⟩
end
section
variable {X:Cx}{a b:Expr}{pos:Pos}
def agI (h:QC X op a b t)(h1:behindInMarks op b=false:=by first|show Gv _ qc qc|rfl):QE X (.Compare a [op] [b] pos) t:=⟨afQ h.out h1⟩
def agJ (h:QC X op a b t)(h1:behindInMarks op b=false:=by first|show Gv _ qc qc|rfl):QT X (.Compare a [op] [b] pos) (tB t):=⟨afR h.out h1⟩
def qv (i:Nat){x:Str}{pos:Pos}(D:X.N[i]?=some x:=by rfl)(F:U4 X.env.scope x:=by first|show Or.inl rfl|show Or.inr (Or.inl rK)|show Or.inr (Or.inr rK))(hd:(x==("__debug__":Str))=false:=by decide)(j:(x==("__classdict__":Str))=false:=by decide):QE X (.Name x pos) (WY i):=⟨pv i D F hd j⟩
def aG {X:Cx}{x:Str}{pos:Pos}:=@qv X 0 x pos
def aW {X:Cx}{x:Str}{pos:Pos}:=@qv X 1 x pos
def bA {X:Cx}{x:Str}{pos:Pos}:=@qv X 2 x pos
def bN {X:Cx}{x:Str}{pos:Pos}:=@qv X 3 x pos
def cJ {X:Cx}{x:Str}{pos:Pos}:=@qv X 4 x pos
def dF {X:Cx}{x:Str}{pos:Pos}:=@qv X 5 x pos
def fG {X:Cx}{x:Str}{pos:Pos}:=@qv X 6 x pos
def iJ {X:Cx}{x:Str}{pos:Pos}:=@qv X 7 x pos
def jZ {X:Cx}{x:Str}{pos:Pos}:=@qv X 8 x pos
def jN {X:Cx}{x:Str}{pos:Pos}:=@qv X 9 x pos
def jh {X:Cx}{x:Str}{pos:Pos}:=@qv X 10 x pos
def lC {X:Cx}{x:Str}{pos:Pos}:=@qv X 11 x pos
def pX {X:Cx}{x:Str}{pos:Pos}:=@qv X 12 x pos
def dX:QTs X [] lV:=⟨aei⟩
end
section
variable {X:Cx}
def bJ (l){j pos}(h:x=S l):QE X (.Constant (.str x) j pos) (tC (.str (S l))):=⟨aek l h⟩
end
section
variable {X:Cx}{x:Str}{p pos:Pos}{e:Expr}{es:List Expr}{t:TA}
def bD (D:bU X.prog X.w X.K X.mg X.base x k ps sp)(I:fK k X.A)(G:Gl X x)(ha:QA X (e::es) t)(F:(x==("__debug__":Str))=false:=by decide)(hs:starEach (e::es) X.env=(false,eval e X.env)::starEach es X.env:=by rfl)(j:(backTo pos (starEach es X.env)).any (·.1)=false:=by rfl):QE X (.Call (.Name x p) (e::es) [] pos) (Xd sp [] E0 t):=⟨agF D I G ha.out F hs j⟩
end
def jO {X:Cx}(j:X.calm=true)(ok:jf X scope x)(hi:QI X (.Name x px) iter wi)(ht:∀cl C s₀ H₀ fp,QTs (blk X scope cl C x s₀ H₀ fp) ifs tt)(D:∀cl C s₀ H₀ fp,QE (blk X scope cl C x s₀ H₀ fp) elt te)(hs:∀x,foldedSetIterable iter X.env x=pure x:=by intro _;rfl):QE X (.ListComp elt [⟨.Name x px,iter,ifs,0⟩] scope pos) (adC wi tt te):=⟨aej j ok hi.out (λcl C s₀ H₀ fp=>(ht cl C s₀ H₀ fp).out) (λcl C s₀ H₀ fp=>(D cl C s₀ H₀ fp).out) hs⟩
def rfg {as:List Addr}{n:Nat}{x:V}(h:(as.map V.ref)[n]?=some x):∃h:n<as.length,V.ref as[n]=x:=by
 let hn:n<as.length:=by have:=(ah.mp h).1;simpa using this
 rw[bS,af hn]at h;show⟨hn,be h⟩
def aM.dh {K:W.Frag}{mg:Str->Option Value}{name:Str}{st:Stmt}{N ps:List Str}{k:Nat}{sp:Sp}(D:aM K mg name st ps)(S:aZ N ps (aH st))(j:∀(f:Addr) (bH:Value) (A:Around) (outer:List Env) (s:Shared) (H:Hp) (vs:List V) (Q:VK) (E:XK),fK k (A.deeper (envOfC name (aH st) s.heap.objs.size f bH))->sp vs H Q E->
   ∃t,xH (sY cW P w K mg base N name (aH st) f bH A outer s H E).PK (cM st) t/\t {nx:=λ_ H'=>Q .non H',rt:=Q} (start N vs) H) (len:∀vs H Q E,sp vs H Q E->vs.length=ps.length:=by intro _ _ _ _ h;repeat (first|(let⟨rfl,_⟩:=h;rfl)|let⟨_,h⟩:=h)):bU P w K mg base name (k+1) ps sp:=
 D.ok S len λf bH A outer s H vs Q E F h=>let ⟨t,a,b⟩:=j f bH A outer s H vs Q E F h;⟨t,a.out,b⟩
def d7.dh {K:W.Frag}{mg:Str->Option Value}{x qual:Str}{st:Stmt}{N ps:List Str}{k:Nat}{sp:Sp}(F:d7 K x qual st f fd)(S:aZ N ps (aH st))(j:∀(bH:Value) (A:Around) (outer:List Env) (s:Shared) (H:Hp) (vs:List V) (Q:VK) (E:XK),fK k (A.deeper (envOfC qual (aH st) s.heap.objs.size f bH))->sp vs H Q E->
   ∃t,xH (sY cW P w K mg base N qual (aH st) f bH A outer s H E).PK (cM st) t/\t {nx:=λ_ H'=>Q .non H',rt:=Q} (start N vs) H) (len:∀vs H Q E,sp vs H Q E->vs.length=ps.length:=by intro _ _ _ _ h;repeat (first|(let⟨rfl,_⟩:=h;rfl)|let⟨_,h⟩:=h)):bW P w K mg base cW (k+1) f fd ps sp:=
 F.ok S len λbH A outer s H vs Q E D h=>let ⟨t,a,b⟩:=j bH A outer s H vs Q E D h;⟨t,a.out,b⟩
section
variable {prog:Program}{w:World}{A:Around}{E:AE}{s:Shared}
def Jc (O:wpAny (model prog w) A.in1 (collect v) (λvs s1=>∃Y,StrsAre vs Y/\vs.length<64/\
   ∀(h':Heap) (F:List Value) (j:List Str) (e:Nat),(∀b o,s1.heap.get? b=some o->h'.get? b=some o)->h'.get? s1.heap.objs.size=some (seqObj "list" F.toArray e)->StrsAre F j->j.Perm Y->sortedS j=true->
    Q (.ref s1.heap.objs.size) {s1 with heap:=h' }) E s):wpAny (model prog w) A (call (.builtin "sorted") [v]) Q E s:=by
 calc Calls.call_function_entry kind_sorted plain_sorted entry_sorted (args_sorted1 _) ?_;unfold Builtin.«sorted»;calc ac (m:=checkCount "sorted" 1 1 _) (am ?_);calc ac (b_ O λvs s1 ⟨Y,I,J,h⟩=>?_);calc ac (wpAny_newList ?_);let D:(s1.heap.push (seqObj "list" vs.toArray 0)).get? s1.heap.objs.size=some (seqObj "list" vs.toArray 0):=aI _ rfl;refine ac (ik (fb slot_list_sort (s:={s1 with heap:=s1.heap.push (seqObj "list" vs.toArray 0)}) ⟨_,D,rK⟩ entry_list_sort
  (list_sort_treeK (s:={s1 with heap:=s1.heap.push (seqObj "list" vs.toArray 0)}) strKind_oneLt D I.keysOf (λv₁ v₂ rest e=>keyKind_strs (by rw[<-e];show I)) J λG hp hs=>⟨_,rK,?_⟩) (args_list_sort _)))
 let⟨j,h1,h2,h3⟩:=sorted_out_str I hp hs;let⟨e,Z⟩:=sortedHeap_at (vs:=vs) (out:=(arrOf G).map (·.2)) D;calc am ⟨_,rK,h _ ((arrOf G).map (·.2)).toList j e (λb o z=>?_) (by rw[Array.toArray_toList];show Z) h1 h2 h3⟩;let hb:b<s1.heap.objs.size:=ax z;rw[sortedHeap_old (b8 hb) (by rw[dE];show lS hb)];show ae _ z
end
def abT (h:ItemsOf (SignAt x) vs x.cps.size):StrsAre vs.toList (x.cps.toList.map λc=>(⟨#[c]⟩:Str)):=by
 let F:∀(l:List Value) (m:List Nat),l.length=m.length->(∀(j:Nat) v,l[j]?=some v->∃c u,m[j]?=some c/\v=.str ⟨#[c]⟩ u)->StrsAre l (m.map λc=>(⟨#[c]⟩:Str)):=by
  intro l
  induction l with
  | nil=>
   intro m hl _;cases m with| nil=>show .nil| cons c r=>simp at hl
  | cons a r ih=>
   intro m hl G;cases m with
   | nil=>simp at hl
   | cons c m=>
    let⟨J,u,e,rfl⟩:=G 0 a rfl;let I:c=J:=by simpa using e
    subst I;show .cons _ u (ih m (by simpa using hl) λj v D=>G (j+1) v D)
 calc F _ _ (by simpa using h.1) λj v D=>?_;let⟨c,u,e1,e2⟩:=h.2 j v (by simpa using D);show JA c u ⟨by simpa using e1,e2⟩
section
theorem q_:∀{j:List Str} {us:List Value},StrsAre us j->Vals (j.map V.str) us
 | _,_,.nil=>.nil
 | _,_,.cons x t r=>.cons ⟨t,rK⟩ (q_ r)
end
def Its (l:List Nat):It:=⟨λi _=>i<l.length,λi H x H'=>H'=H/\∃c,l[i]?=some c/\x=.str (S [c]),λi _=>l.length<=i⟩
def abU {P:Program}{w:World}{K:W.Frag}{tg:Expr}{ty:String}(D:ty="str_ascii_iterator"\/ty="str_iterator")(l:List Nat)(t:Tok)(it:Addr):Turn P w K tg (Its l) [it] it (λi h=>i<=l.length/\h.IsStrIter it ty (S l) t i) where
 mem:=by simp
 obj:=λi h st b hb=>by
  let e:b=it:=by simpa using hb
  subst e;let⟨_,o,e,c,d⟩:=st;show⟨o,e,λv z=>by rw[d]at z;cases z⟩
 keep:=λi h h' st k=>⟨st.1,let ⟨o,ho,r⟩:=st.2;⟨o,k it qa o ho,r⟩⟩
 item:=by
  intro X hP hw hK Y i ak s σ H E I Z st hg;subst hP hw hK;let⟨f0,f1,f2,f3,f4,f5⟩:=Z it qa;let J:i<(S l).cps.size:=hg;let O:∀(v:Value) (h':Heap) (tk:Nat),SignAt (S l) i v->h'.IsStrIter it ty (S l) t (i+1)->(∀b o,b∉[it]->s.heap.get? b=some o->h'.get? b=some o)->
    ∃u,some v=some u/\wpAny (model X.prog X.w) X.A (letOwnedTupleGo tg (.ref it) u) (λ_ s2=>∃x H',aP X ak σ H' s2/\cB x u/\(Its l).Im i H x H'/\(i+1<=l.length/\s2.heap.IsStrIter it ty (S l) t (i+1))/\∀b∈[it],H' b=none) E {s with heap:=h',toks:=tk}:=by
   intro v h' tk G j F;let⟨c,u,hc',rfl⟩:=G;let I1:aP X ak σ H {s with heap:=h',toks:=tk}:=I.turned (λb o hb e=>F b o (by simpa using hb) e) f0 f1 f3 f4 f5;let⟨o,e,c2,d2⟩:=id j;refine⟨_,rK,Io (s:={s with heap:=h',toks:=tk}) e c2 d2 (by rcases D with rfl|rfl <;> decide) (JA (.str (S [c])) H ⟨I1,⟨u,rK⟩,⟨rK,c,by simpa [S] using hc',rK⟩,⟨hg,j⟩,λb hb=>(Z b hb).1⟩)⟩
  rcases D with rfl|rfl;.show(Walks.strAscii (prog:=X.prog) (w:=X.w) (I.ok.hd Y) it (S l) t).item i s _ _ J st.2 λv h' tk G j F=>O v h' tk G j F
  .show(Walks.strWide (prog:=X.prog) (w:=X.w) (I.ok.hd Y) it (S l) t).item i s _ _ J st.2 λv h' tk G j F=>O v h' tk G j F
 done:=by
  intro X hP hw hK Y i ak s σ H E I Z st hg;subst hP hw hK;let⟨f0,f1,f2,f3,f4,f5⟩:=Z it qa;let hi:i=(S l).cps.size:=Nat.le_antisymm st.1 hg;let j:=st.2;rw[hi]at j;rcases D with rfl|rfl
  .show(Walks.strAscii (prog:=X.prog) (w:=X.w) (I.ok.hd Y) it (S l) t).done s _ _ j λh' tk F=>⟨rK,I.turned (λb o hb e=>F b o (by simpa using hb) e) f0 f1 f3 f4 f5⟩
  .show(Walks.strWide (prog:=X.prog) (w:=X.w) (I.ok.hd Y) it (S l) t).done s _ _ j λh' tk F=>⟨rK,I.turned (λb o hb e=>F b o (by simpa using hb) e) f0 f1 f3 f4 f5⟩
 self:=λA i s Q E st h=>by
  rcases D with rfl|rfl;.show wpAny_pyIter_striter_ascii st.2 h
  .show wpAny_pyIter_striter_wide st.2 h
def ZR {a b c:List Nat}(h1:¬b<a)(h2:¬c<b):¬c<a:=by let j:a<=b:=h1;let D:b<=c:=h2;show List.le_trans j D
theorem MP:∀(r:List Str) (p:Str),risingS p r=true->(∀x∈r,¬x.cps.toList<p.cps.toList)/\(r.map λy=>y.cps.toList).Pairwise (λa b=>decide (b<a)=false)
 | [],_,_=>⟨λ_ h=>by simp at h,List.Pairwise.nil⟩
 | y::r,p,h=>by
  rw[risingS,bX]at h;let h0:¬y.cps.toList<p.cps.toList:=by have:=h.1;simpa [ltCps_eq] using this
  let⟨h1,h2⟩:=MP r y h.2;refine⟨λx hx=>?_,?_⟩
  .rcases bq.mp hx with e|e;.rw[e];show h0
   .show ZR h0 (h1 x e)
  .rw[cf];calc List.Pairwise.cons (λb hb=>?_) h2;let⟨x,hx,rfl⟩:=bc.mp hb;show ag (h1 x hx)
def Cw (ss)(h:sortedS ss=true):(ss.map λy=>y.cps.toList).Pairwise (λa b=>decide (b<a)=false):=by
 cases ss with| nil=>show List.Pairwise.nil| cons x r=>let⟨h1,h2⟩:=MP r x h;rw[cf];calc List.Pairwise.cons (λb hb=>?_) h2;let⟨y,hy,rfl⟩:=bc.mp hb;show ag (h1 y hy)
section
variable {X:Cx}{tg:Expr}
def ajj (tl:TE):TI:=λσ H R=>tl σ H λx H1=>∃l,x=.str (S l)/\R (Its l) H1
def rm (hl:QE X l tl):QI X tg l (ajj tl):=⟨by
 intro ak s σ H R I h;calc b_ (hl.out ak s σ H _ I h) λv s1 F=>?_;let⟨x,H1,j,r1,q1⟩:=F;let⟨l,e,q⟩:=q1;subst e;let⟨t,rfl⟩:=r1;calc wpAny_pyIter_strU ?_;let D:strIterType (S l)="str_ascii_iterator"\/strIterType (S l)="str_iterator":=by unfold strIterType;split <;> simp
 calc JJ s1.heap.objs.size [s1.heap.objs.size] _ _ H1 ⟨rK,j.kept (t':=s1.toks) λb o e=>ae _ e,abU D l t _,⟨ej _,_,aI _ rK,rK,rK⟩,λb hb=>?_,q⟩;let e:b=s1.heap.objs.size:=by simpa using hb
 subst e;show j.yD (al _) (j.hok.fresh (al _))⟩
def wu {l:List Nat}{D:Addr}{te:TE}{σ:St}{H:Hp}{R:Hp->Prop}(j:Nat->List V->Hp->Prop)(h0:j 0 [] (upd H D (.lst [])))(hs:∀i c ys H,l[i]?=some c->j i ys H->te (some (.str (S [c]))::σ) H (Ko l.length i D ys (j (i+1))))(hd:∀ys H,j l.length ys H->R H):Cr (Its l) D H R (Xi σ lV te):=abQ l.length j h0 (λi ys H h p=>⟨h,λx H' y=>by let⟨rfl,c,F,rfl⟩:=y;show hs i c ys _ F p⟩) λys H p=>⟨al _,hd ys H p⟩
def jV (hc:X.calm=true):iI X (.builtin "all") (λxs H Q=>∃(p:Addr) (bs:List Bool),xs=[.ref p]/\bC X.K H p (bs.map V.bl)/\Q (.bl (bs.all id)) H):=by
 intro ak s σ H xs us Q I r h;let⟨p,bs,rfl,hq,q⟩:=h;let⟨u,rfl,O⟩:=vals1 r;cases O;let⟨its,Z,pl,hz⟩:=I.list hq;let G:p≠s.heap.objs.size:=by let⟨o,ho,_⟩:=pl.isList;show b8 (ax ho)
 let hb:∀(i:Nat) (v:Value),its[i]?=some v->v=.bool (bs.getD i true):=λi v j=>by
  let J:=Z.length;let hi:i<bs.length:=by have:=(ah.mp j).1;simp at J;simp_all
  let⟨u,hu,O⟩:=Z.get (i:=i) (x:=.bl bs[i]) (by simp[hi]);rw[j]at hu;cases hu;cases O;simp[List.getD,hi]
 calc call_all_walk (io pl.isList ?_);refine JP s.heap.objs.size _ _ _ _ _ (λi=>bs.getD i true) ⟨rK,Walks.list (A:=X.A.in1) (I.ok.hd hc) s.heap.objs.size p G its.toArray,⟨⟨_,aI _ rK,rK,rK⟩,pl.isList.at λo e=>ae _ e⟩,?_,λh' tk kk=>?_⟩
 .intro i v s' Q' E' j D;let e:=hb i v (by simpa using j);subst e;show eh D
 .let I1:aP X ak σ H {s with heap:=h',toks:=tk}:=I.kept λb o e=>kk b o (by
   intro hm;have:b=s.heap.objs.size:=by simpa using hm
   subst this;show absurd (ax e) (fk _)) (ae _ e)
  calc JA (.bl (bs.all id)) H ⟨I1,?_,q⟩;show Value.bool _=Value.bool _;let J:its.toArray.size=bs.length:=by have:=Z.length;simp at this;simp[this]
  rw[J];congr 1;let Y:∀bs:List Bool,(List.range bs.length).all (λi=>bs.getD i true)=bs.all id:=λbs=>by
   rw[hV,fh,fh];constructor
   .intro h x hx;let⟨i,hi,rfl⟩:=ir.mp hx;have:=h i (gS.mpr hi);simpa [List.getD,hi] using this
   .intro h i hi;let F:=gS.mp hi;have:=h bs[i] (a9 _);simpa [List.getD,F] using this
  show Y bs
def abV:R2:=λx y H Q=>∃i j,x=.str (S i)/\y=.str (S j)/\Q (.bl (!decide (j<i))) H
def nZ:fZ X (compareOp .LtE) abV:=by intro ak s σ H x y v u Q I F D h;let⟨i,j,rfl,rfl,q⟩:=h;let⟨t,rfl⟩:=F;let⟨t',rfl⟩:=D;show PySem.P.le_str (JA (.bl _) H ⟨I,rK,q⟩)
abbrev cF (l:List Nat):Key:=Sum.inr (S l)
def Qj (hc:X.calm=true):iI X (.builtin "sorted") (λxs H Q=>∃(d:Addr) (kvs:List (Key×V)) (ws:AA),xs=[.ref d]/\H d=some (.dK kvs)/\kvs.map (·.1)=ws.map cF/\ws.length<64/\
  ∀(p:Addr) (O:AA),H p=none->O.Perm ws->O.Pairwise (λa b=>decide (b<a)=false)->Q (.ref p) (upd H p (.lst (Ts O)))):=by
 intro ak s σ H xs us Q I r h;let⟨d,kvs,ws,rfl,hd,hk,h64,q⟩:=h;let⟨u,rfl,ru⟩:=vals1 r;cases ru;let⟨hz,lo,vs,Y,dd⟩:=IK I.hok hd;let⟨ep,hat⟩:=dd.dictAt;let hkv:=KV.keys Y;let J:vs.length=ws.length:=by let h1:=KV.length Y;let h2:=congrArg List.length hk;simp at h2;lia
 calc Jc (W.kdu_collect (A:=X.A.in1) (W.kdl_dict (knd:=fW X.prog X.w) (kvs:=vs) (ep:=ep) lo) (I.ok.hd hc) hat (by rw[J];show ap (aK p_)) λh' tk acc kk G=>?_);let hS:StrsAre acc.toList (ws.map S):=by
  let key:∀(l:List Value) (m:AA),l.length=m.length->(∀(j:Nat) v,l[j]?=some v->∃c,m[j]?=some c/\∃u,v=.str (S c) u)->StrsAre l (m.map S):=by
   intro l
   induction l with
   | nil=>intro m hl _;cases m with|nil=>show .nil|cons c r=>simp at hl
   | cons a r ih=>
    intro m hl hv;cases m with
    | nil=>simp at hl
    | cons c m=>
     let⟨c',e,u,rfl⟩:=hv 0 a rfl;let e':c=c':=by simpa using e
     subst e';show .cons _ u (ih m (by simpa using hl) λj v hj=>hv (j+1) v hj)
  calc key _ _ (by rw[fz,G.1,J]) λj v hj=>?_;let⟨k,x,hx,hi⟩:=G.2 j v (by simpa using hj);let F:(ws.map cF)[j]?=some k:=by rw[<-hk,hkv,bS,hx];rfl
  rw[bS]at F;cases hw:ws[j]? with
  | none=>rw[hw]at F;cases F
  | some c=>
   rw[hw]at F;let e:cF c=k:=by simpa using F
   subst e;calc⟨c,rK,?_⟩;rcases iK (show zQ (Sum.inr (S c)) v=true from hi) with⟨i,t,e1,_⟩|⟨y,t,e1,e2⟩;.cases e1
   .cases e1;show⟨t,e2⟩
 let I1:aP X ak σ H {s with heap:=h',toks:=tk}:=I.kept kk;calc⟨_,hS,by rw[fz,G.1,J];show h64,λh2 Z D e k2 he hS' pm so=>?_⟩;let es:D=(D.map λy=>y.cps.toList).map S:=by rw[gc];calc(kM _).symm.trans (fA λy _=>?_);show(agD y).symm
 let M4:(D.map λy=>y.cps.toList).Perm ws:=by have:=pm.map λy:Str=>y.cps.toList;rw[gc]at this;let e:((λy:Str=>y.cps.toList) ∘ S)=id:=rfl;rw[e,kM]at this;show this
 let hv:Vals (Ts (D.map λy=>y.cps.toList)) Z:=by have:=q_ hS';rw[es]at this;simpa [Ts,oz] using this
 let hl:(Ts (D.map λy=>y.cps.toList)).length<=sizeLine:=by rw[aa,M4.length_eq];show ap (aK p_)
 refine JA (.ref h'.objs.size) _ ⟨I1.laid (o:=.lst _) (t':=tk) k2 (al _) ⟨hl,Z,e,hv,he⟩,rK,q _ _ I1.fresh M4 (Cw D so)⟩
def QI.or (h1:QI X tg iter w1)(h2:QI X tg iter w2):QI X tg iter (λσ H R=>w1 σ H R\/w2 σ H R):=⟨λak s σ H R I h=>by
 rcases h with h|h;.show h1.out ak s σ H R I h
 .show h2.out ak s σ H R I h⟩
end
def bC.keep {K:W.Frag}{xs:List V}(k:∀b o,H b=some o->b≠p->H' b=some o)(hp:∀o,H p=some o->(∀ys,o≠.lst ys)/\∀u ys,o≠.pU u (.lst ys))(h:bC K H a xs):bC K H' a xs:=by
 rcases h with(h|⟨o,h⟩)|h;.show .inl (.inl (k _ _ h λe=>(hp _ (e ▸ h)).1 _ rK))
 .show .inl (.inr ⟨o,k _ _ h λe=>(hp _ (e ▸ h)).2 _ _ rK⟩)
 .show .inr h
def aN.keep {K:W.Frag}{xs:List V}(k:∀b o,H b=some o->b≠p->H' b=some o)(hp:∀o,H p=some o->(∀ys,o≠.tup ys)/\∀u ys,o≠.pU u (.tup ys))(h:aN K H a xs):aN K H' a xs:=by
 rcases h with(h|⟨o,h⟩)|h;.show .inl (.inl (k _ _ h λe=>(hp _ (e ▸ h)).1 _ rK))
 .show .inl (.inr ⟨o,k _ _ h λe=>(hp _ (e ▸ h)).2 _ _ rK⟩)
 .show .inr h
end L2
namespace L2
open PySem PySem.Spec PyProof.Rows PySem.W
def aen:List V->Hp->VK->Prop:=λxs H Q=>∃l,xs=[.str (S l)]/\l.length<64/\∀(p:Addr) (j:List Nat),H p=none->j.Perm l->(j.map λc=>[c]).Pairwise (λa b=>decide (b<a)=false)->Q (.ref p) (upd H p (.lst (Ts (j.map λc=>[c]))))
section
variable {X:Cx}
def uW (hc:X.calm=true):iI X (.builtin "sorted") aen:=by
 intro ak s σ H xs us Q I r h;let⟨l,rfl,O,q⟩:=h;let⟨u,rfl,ru⟩:=vals1 r;let⟨t,rfl⟩:=ru;let hz:(S l).cps.size<=sizeLine:=by show l.length<=sizeLine;show ap (aK p_)
 calc Jc (wpAny_collect_str (A:=X.A.in1) (I.ok.hd hc) (S l) t (λs1 acc k1 k2 k3 k4 D=>?_) hz);let hS:=abT D;calc⟨_,hS,?_,λh' F j e kk he J pm G=>?_⟩;.rw[fz,D.1];show O
 let Y:aP X ak σ H s1:=by let I5:=I.kept (h':=s1.heap) (t':=s1.toks) k1;let⟨h',g',d',t'',o'⟩:=s1;simp only at k2 k3 k4;subst k2 k3 k4;show I5
 let Z:(j.map λy=>y.cps.toList.headD 0).Perm l:=by have:=pm.map λy:Str=>y.cps.toList.headD 0;rw[gc]at this;let e:((λy:Str=>y.cps.toList.headD 0) ∘ λc=>(⟨#[c]⟩:Str))=id:=rfl;rw[e,kM,adD]at this;show this
 let es:j=(j.map λy=>y.cps.toList.headD 0).map λc=>(⟨#[c]⟩:Str):=by rw[gc];calc(kM _).symm.trans (fA λy hy=>?_);let⟨c,_,rfl⟩:=bc.mp (pm.mem_iff.mp hy);rfl
 let hn:H s1.heap.objs.size=none:=Y.fresh;let hv:Vals (Ts ((j.map λy=>y.cps.toList.headD 0).map λc=>[c])) F:=by have:=q_ J;rw[es]at this;simpa [Ts,S,oz] using this
 let hl:(Ts ((j.map λy=>y.cps.toList.headD 0).map λc=>[c])).length<=sizeLine:=by rw[aa,aa,Z.length_eq];show ap (aK p_)
 calc JA (.ref s1.heap.objs.size) _ ⟨Y.laid (o:=.lst _) (t':=s1.toks) kk (al _) ⟨hl,F,e,hv,he⟩,rK,q _ _ hn Z ?_⟩;let pw:=Cw j G;rw[es,gc]at pw;show pw
end
end L2
namespace L2
open PySem PySem.Spec PyProof.Rows
section
variable {X:Cx}
def aiy (i j:Int):Prop:=0<j/\j.natAbs.log2<9000
def GP:fZ X (binaryOp .FloorDiv) (rI aiy λi j=>.int (i/j)):=Zf λi j _ _ _ _ _ D q=>by let e:i.fdiv j=i/j:=nX _ (Int.le_of_lt D.1);rw[<-e]at q;show floordiv_int (Int.ne_of_gt D.1) q (.inl (PyProof.noPylong_of_log2 D.2))
def ajk:V->List V->Hp->VK->Prop:=λx vs H Q=>∃l,x=.str (S l)/\vs=[]/\l.length<=1000/\(∀c∈l,c<128)/\Q (.str (S (l.map up1))) H
def ZS:xu X "str.upper" ajk:=by
 intro ak s σ H x vs v us Q I J G h;let⟨l,rfl,rfl,hz,ha,q⟩:=h;let⟨t,rfl⟩:=J;let D:=G.zero;subst D;let j:Builtin.Str.tooLong (Txt.upper (S l)).length=false:=fit_upper (by rw[qY];lia);calc call_gives F.slot_str_upper (typeIs_str s _ t) F.entry_str_upper (F.args_str_upper_1 _) (gives_str_upper (S l) t j) ⟨fit_le j,?_⟩;let e:Txt.upper (S l)=S (l.map up1):=by rw[upper_ascii (x:=S l) ha];simp[S]
 show JA (.str (S (l.map up1))) H ⟨I.tok _,⟨s.toks,congrArg (λz=>Value.str z s.toks) e⟩,q⟩
def ajl:V->List V->Hp->VK->Prop:=λx vs H Q=>∃l,x=.str (S l)/\vs=[]/\l.length<=1000/\(∀c∈l,c<128)/\Q (.str (S (l.map lo1))) H
def Qk:xu X "str.lower" ajl:=by
 intro ak s σ H x vs v us Q I J G h;let⟨l,rfl,rfl,hz,ha,q⟩:=h;let⟨t,rfl⟩:=J;let D:=G.zero;subst D;let j:Builtin.Str.tooLong (Txt.lower (S l)).length=false:=fit_lower (by rw[qY];lia);calc call_gives F.slot_str_lower (typeIs_str s _ t) F.entry_str_lower (F.args_str_lower_1 _) (gives_str_lower (S l) t j) ⟨fit_le j,?_⟩;let e:Txt.lower (S l)=S (l.map lo1):=by rw[lower_ascii (x:=S l) ha];simp[S]
 show JA (.str (S (l.map lo1))) H ⟨I.tok _,⟨s.toks,congrArg (λz=>Value.str z s.toks) e⟩,q⟩
end
def Fd {l:List Nat}{g:TG}{tb:TS}{D:Ends}{σ:St}{H:Hp}(j:Nat->St->Hp->Prop)(h0:j 0 σ H)(hs:∀i c σ H,l[i]?=some c->j i σ H->g (.str (S [c])) σ H λσ2 F=>tb {D with nx:=j (i+1),ct:=j (i+1),bk:=D.nx} σ2 F)(hd:∀σ H,j l.length σ H->D.nx σ H):Kf (Its l) g tb D σ H:=W5 l.length j h0 (λi σ H h p=>⟨h,λx H' y=>by let⟨rfl,c,G,rfl⟩:=y;show hs i c σ _ G p⟩) λσ H p=>⟨al _,hd σ H p⟩
def AL:List Nat:=(List.range 26).map (97 + ·)
def vU {α:Type}{xs:List α}(hn:xs.length=n)(h:0<n)(c):∃v,sS xs (c%(n:Int))=some v/\v∈xs:=by
 let h0:0<=c%(n:Int):=df _ p_;let h1:c%(n:Int)<n:=di _ (Iff.mpr nc h);obtain⟨k,hk⟩:∃k:Nat,c%(n:Int)=(k:Int):=⟨(c%(n:Int)).toNat,p_⟩
 rw[hk];let hl:k<xs.length:=by simp_all
 show⟨xs[k],aQ (by simp[hl]),a9 _⟩
inductive Dt where
 | non|int (i:Int)|str (l:List Nat)|tup (ds:List Dt)|lst (ds:List Dt)
mutual
def toP:Dt->PyData
 | .non=>.none
 | .int i=>.int i
 | .str l=>.str (S l)
 | .tup ds=>.tuple (mU ds)
 | .lst ds=>.list (mU ds)
def mU:List Dt->List PyData
 | []=>[]
 | d::ds=>toP d::mU ds
end
mutual
theorem Xj:∀d e:Dt,PyData.eqv (toP d) (toP e)=true↔d=e
 | .non,.non=>by simp[toP,PyData.eqv]
 | .non,.int _=>by simp[toP,PyData.eqv]
 | .non,.str _=>by simp[toP,PyData.eqv]
 | .non,.tup _=>by simp[toP,PyData.eqv]
 | .non,.lst _=>by simp[toP,PyData.eqv]
 | .int _,.non=>by simp[toP,PyData.eqv]
 | .int _,.int _=>by simp[toP,PyData.eqv]
 | .int _,.str _=>by simp[toP,PyData.eqv]
 | .int _,.tup _=>by simp[toP,PyData.eqv]
 | .int _,.lst _=>by simp[toP,PyData.eqv]
 | .str _,.non=>by simp[toP,PyData.eqv]
 | .str _,.int _=>by simp[toP,PyData.eqv]
 | .str a,.str b=>by simp only[toP,PyData.eqv,beq_iff_eq,Dt.str.injEq];show⟨xG,λz=>by rw[z]⟩
 | .str _,.tup _=>by simp[toP,PyData.eqv]
 | .str _,.lst _=>by simp[toP,PyData.eqv]
 | .tup _,.non=>by simp[toP,PyData.eqv]
 | .tup _,.int _=>by simp[toP,PyData.eqv]
 | .tup _,.str _=>by simp[toP,PyData.eqv]
 | .tup ds,.tup es=>by simp only[toP,PyData.eqv,Dt.tup.injEq];show Ql ds es
 | .tup _,.lst _=>by simp[toP,PyData.eqv]
 | .lst _,.non=>by simp[toP,PyData.eqv]
 | .lst _,.int _=>by simp[toP,PyData.eqv]
 | .lst _,.str _=>by simp[toP,PyData.eqv]
 | .lst _,.tup _=>by simp[toP,PyData.eqv]
 | .lst ds,.lst es=>by simp only[toP,PyData.eqv,Dt.lst.injEq];show Ql ds es
theorem Ql:∀ds es:List Dt,PyData.eqvAll (mU ds) (mU es)=true↔ds=es
 | [],[]=>by simp[mU,PyData.eqvAll]
 | [],_::_=>by simp[mU,PyData.eqvAll]
 | _::_,[]=>by simp[mU,PyData.eqvAll]
 | d::ds,e::es=>by simp only[mU,PyData.eqvAll,bX,List.cons.injEq];rw[Xj d e,Ql ds es]
end
open Classical in
def Kq (d e:Dt):PyData.eqv (toP d) (toP e)=decide (d=e):=by
 by_cases h:d=e;.rw[ai h];show(Xj d e).mpr h
 .rw[ag h];cases z:PyData.eqv (toP d) (toP e) with| false=>rfl| true=>show absurd ((Xj d e).mp z) h
mutual
inductive jl (K:W.Frag) (H:Hp):Nat->Dt->V->Prop
 | non {n}:jl K H n .non .non
 | int {n} (i:Int):jl K H n (.int i) (.int i)
 | str {n} (l:List Nat) (h:∀c∈l,c<128):jl K H n (.str l) (.str (S l))
 | tup {n a ds xs} (h:aN K H a xs) (hs:dN K H n ds xs):jl K H (n+1) (.tup ds) (.ref a)
 | lst {n a ds xs} (h:bC K H a xs) (hs:dN K H n ds xs):jl K H (n+1) (.lst ds) (.ref a)
inductive dN (K:W.Frag) (H:Hp):Nat->List Dt->List V->Prop
 | nil {n}:dN K H n [] []
 | cons {n d ds x xs} (h:jl K H n d x) (hs:dN K H n ds xs):dN K H n (d::ds) (x::xs)
end
def aeo (h:∀c∈l,c<128):PyData.strOk (S l)=true:=by unfold PyData.strOk;show l.toArray.all _=true;rw[Array.all_eq_true_iff_forall_mem];intro x hx;have:=h x (by simpa using hx);show ai p_
mutual
theorem jl.lay {K:W.Frag}:∀{n:Nat} {d:Dt} {x:V},jl K H n d x->(toP d).canLay0=true/\(toP d).depth<=n
 | _,_,_,.non=>by simp[toP,PyData.canLay0,PyData.depth]
 | _,_,_,.int _=>by simp[toP,PyData.canLay0,PyData.depth]
 | _,_,_,.str l h=>by simp only[toP,PyData.canLay0,PyData.depth];show⟨aeo h,ej _⟩
 | _,_,_,.tup _ hs=>by simp only[toP,PyData.canLay0,PyData.depth];have:=hs.lay;show⟨this.1,gV this.2⟩
 | _,_,_,.lst _ hs=>by simp only[toP,PyData.canLay0,PyData.depth];have:=hs.lay;show⟨this.1,gV this.2⟩
theorem dN.lay {K:W.Frag}:∀{n:Nat} {ds:List Dt} {xs:List V},dN K H n ds xs->PyData.canLayAll0 (mU ds)=true/\PyData.depthAll (mU ds)<=n
 | _,_,_,.nil=>by simp[mU,PyData.canLayAll0,PyData.depthAll]
 | _,_,_,.cons h hs=>by let a:=h.lay;let b:=hs.lay;simp only[mU,PyData.canLayAll0,PyData.depthAll,bX];show⟨⟨a.1,b.1⟩,Nat.max_le.mpr ⟨a.2,b.2⟩⟩
end
mutual
theorem jl.same {K:W.Frag}(j:aB H H')(st:∀a xs,aN K H a xs->aN K H' a xs):∀{n:Nat} {d:Dt} {x:V},jl K H n d x->jl K H' n d x
 | _,_,_,.non=>.non
 | _,_,_,.int i=>.int i
 | _,_,_,.str l h=>.str l h
 | _,_,_,.tup h hs=>.tup (st _ _ h) (hs.same j st)
 | _,_,_,.lst h hs=>.lst (j.seq h) (hs.same j st)
theorem dN.same {K:W.Frag}(j:aB H H')(st:∀a xs,aN K H a xs->aN K H' a xs):∀{n:Nat} {ds:List Dt} {xs:List V},dN K H n ds xs->dN K H' n ds xs
 | _,_,_,.nil=>.nil
 | _,_,_,.cons h hs=>.cons (h.same j st) (hs.same j st)
end
section
variable {X:Cx}
mutual
theorem jl.reads {ak:AH}{σ:St}{H:Hp}{s:Shared}(I:aP X ak σ H s):∀{n:Nat} {d:Dt} {x:V} {u:Value},jl X.K H n d x->cB x u->∃as,Reads s.heap u (toP d) as
 | _,_,_,u,.non,r=>by cases r;show⟨[],by rw[toP];show .none⟩
 | _,_,_,u,.int i,r=>by let⟨t,rfl⟩:=r;show⟨[],by rw[toP];show .int i t⟩
 | _,_,_,u,.str l h,r=>by let⟨t,rfl⟩:=r;show⟨[],by rw[toP];show .str _ t⟩
 | _,_,_,u,.tup h hs,r=>by cases r;let⟨its,F,pl,_⟩:=I.tuple h;let⟨as,D⟩:=hs.reads I F;let⟨o,j,G,n,hd⟩:=pl;show⟨as,by rw[toP];show .tuple j G hd (by simpa using D)⟩
 | _,_,_,u,.lst h hs,r=>by cases r;let⟨its,F,pl,_⟩:=I.list h;let⟨as,D⟩:=hs.reads I F;let⟨o,j,G,n,hd⟩:=pl.isList;show⟨_::as,by rw[toP];show .list j G hd (by simpa using D)⟩
theorem dN.reads {ak:AH}{σ:St}{H:Hp}{s:Shared}(I:aP X ak σ H s):∀{n:Nat} {ds:List Dt} {xs:List V} {us:List Value},dN X.K H n ds xs->Vals xs us->∃as,ReadsAll s.heap us (mU ds) as
 | _,_,_,us,.nil,r=>by cases r;show⟨[],by rw[mU];show .nil⟩
 | _,_,_,us,.cons h hs,r=>by
  cases r with| cons q t=>let⟨as,a⟩:=h.reads I q;let⟨bs,b⟩:=hs.reads I t;show⟨as++bs,by rw[mU];show .cons a b⟩
end
def jl.shaped {K:W.Frag}{n:Nat}{d:Dt}{x:V}(h:jl K H n d x)(hn:n<=64):SeqAt.shaped (toP d)=true:=by unfold SeqAt.shaped;rw[h.lay.1,ai (bP h.lay.2 hn)];rfl
open Classical in
def agK (K:W.Frag)(j:Bool):R2:=λx y H Q=>∃n d e,n<=64/\jl K H n d x/\jl K H n e y/\Q (.bl (if j then !decide (d=e) else decide (d=e))) H
def Cy (D:X.A.units+64<cLine):fZ X (compareOp .Eq) (agK X.K false):=by intro ak s σ H x y v u Q I O F h;let⟨n,d,e,hn,hd,j,q⟩:=h;let⟨as,J⟩:=hd.reads I O;let⟨bs,G⟩:=j.reads I F;calc SeqAt.compareEq_shaped J G (hd.shaped hn) (j.shaped hn) D (JA (.bl _) H ⟨I,rK,?_⟩);rw[Kq];show q
def Cz (D:X.A.units+64<cLine):fZ X (compareOp .NotEq) (agK X.K true):=by intro ak s σ H x y v u Q I O F h;let⟨n,d,e,hn,hd,j,q⟩:=h;let⟨as,J⟩:=hd.reads I O;let⟨bs,G⟩:=j.reads I F;calc SeqAt.compareNe_shaped J G (hd.shaped hn) (j.shaped hn) D (JA (.bl _) H ⟨I,rK,?_⟩);rw[Kq];show q
def agL (K:W.Frag):V->List V->Hp->VK->Prop:=λx vs H Q=>∃p ls,x=.str (S [])/\vs=[.ref p]/\aN K H p (Ts ls)/\ls.flatten.length<=1000/\Q (.str (S ls.flatten)) H
def GQ:xu X "str.join" (agL X.K):=by
 intro ak s σ H x vs v us Q I G D h;let⟨p,ls,rfl,rfl,F,hz,q⟩:=h;let⟨t,rfl⟩:=G;let⟨u,rfl,j⟩:=vals1 D;cases j;let⟨its,r,pl,_⟩:=I.tuple F;refine join_tuple pl (ys:=ls.map S) (by simpa using E_ r) ?_ λt' k=>?_
 .rw[Vk];show _+_*0<=_;lia
 .show JA (.str (S ls.flatten)) H ⟨I.tok k,⟨t',congrArg (λz=>Value.str z t') (Vj ls)⟩,q⟩
def Qm (lo c:Int)(n:Nat):It:=⟨λi _=>i<n,λi H x H'=>H'=H/\x=.int (lo+i*c),λi _=>n<=i⟩
def T3 {P:Program}{w:World}{K:W.Frag}{tg:Expr}(it:Addr)(lo c:Int)(n:Nat):Turn P w K tg (Qm lo c n) [it] it (λi h=>IsRangeIter h it (lo+(i:Nat)*c) ((n:Int)-(i:Nat)) c) where
 mem:=by simp
 obj:=λi h st b hb=>by
  let e:b=it:=by simpa using hb
  subst e;show⟨_,st,λv z=>by let z':Data.fields _=Data.cell v:=z;cases z'⟩
 keep:=λi h h' st k=>k it qa _ st
 item:=by intro X G hw F O i ak s σ H E I D st J;subst G hw F;let⟨f0,f1,f2,f3,f4,f5⟩:=D it qa;let W:=Walks.range (prog:=X.prog) (w:=X.w) (I.ok.hd O) it lo c n;calc W.item i s _ _ J st λv h' tk hv j Z=>?_;let⟨t,rfl⟩:=hv;let Y:aP X ak σ H {s with heap:=h',toks:=tk}:=I.turned (λb o hb e=>Z b o (by simpa using hb) e) f0 f1 f3 f4 f5;show⟨_,rK,Io (s:={s with heap:=h',toks:=tk}) (n:="range_iterator") j rK rK qc (JA (.int (lo+i*c)) H ⟨Y,⟨t,rK⟩,⟨rK,rK⟩,j,λb hb=>(D b hb).1⟩)⟩
 done:=by intro X G hw F O i ak s σ H E I D st J;subst G hw F;let⟨f0,f1,f2,f3,f4,f5⟩:=D it qa;show wpAny_pyNext_range_end (I.ok.hd O) st (by have:n<=i:=J;lia) λh' eb=>⟨rK,I.turned (t':=s.toks) (λb o hb e=>eb b o hb e) f0 f1 f3 f4 f5⟩
 self:=λ_ _ _ _ _ st h=>wpAny_pyIter_rangeiter st h
variable {tg:Expr}
def aiz (ta:TA):TI:=λσ H R=>ta σ H λvs H1=>∃r c:Nat,vs=[.int 0,.int ((r*c:Nat):Int),.int (c:Int)]/\1<=r/\r<=9/\1<=c/\c<=9/\R (Qm 0 c r) H1
def agM:∀r c:Fin 10,1<=r.val->1<=c.val->Builtin.Range.small 0 ((r.val*c.val:Nat):Int) (c.val:Int)=true/\Builtin.Range.rangeSize 0 ((r.val*c.val:Nat):Int) (c.val:Int)=(r.val:Int):=by decide +kernel
def ZV {a b c:Expr}{ta:TA}{p pos:Pos}(hg:Gl X "range")(hm:X.mg "range"=none)(ha:QA X [a,b,c] ta)(hs:starEach [a,b,c] X.env=[(false,eval a X.env),(false,eval b X.env),(false,eval c X.env)]:=by rfl)(j:starEach [b,c] X.env=[(false,eval b X.env),(false,eval c X.env)]:=by rfl):QI X tg (.Call (.Name "range" p) [a,b,c] [] pos) (aiz ta):=⟨by
 intro ak s σ H R I h;calc Call_ (qU I hg hm boot_range (ee (b_ (ha.out pos ak s σ H _ I h) λus s1 Z=>?_) (by rw[hs,j]) (by rw[j];rfl)));let⟨vs,H1,Y,r1,q1⟩:=Z;let⟨r,c,e,q1,q2,q3,q4,q⟩:=q1;subst e;cases r1 with
 | cons r1 rr=>
  cases rr with
  | cons r2 rr=>
   cases rr with
   | cons r3 rr=>
    cases rr;let⟨F,rfl⟩:=r1;let⟨D,rfl⟩:=r2;let⟨G,rfl⟩:=r3;let⟨O,sz⟩:=agM ⟨r,Nat.lt_succ_of_le q2⟩ ⟨c,p_⟩ q1 q3;calc call_range_3 p_ ?_ (.inl (PyProof.noPylong_small (by simp_all;lia)));calc wpAny_pyIter_range (IsRange.new ..) O ?_;let J:aP X ak σ H1 {s1 with heap:=s1.heap.push {cls:=.type "range",data:=.fields #[.int 0 F,.int ((r*c:Nat):Int) D,.int (c:Int) G]},toks:=s1.toks}:=Y.kept λb o e=>ae _ e;refine JJ ((s1.heap.push {cls:=.type "range",data:=.fields #[.int 0 F,.int ((r*c:Nat):Int) D,.int (c:Int) G]}).objs.size) [(s1.heap.push {cls:=.type "range",data:=.fields #[.int 0 F,.int ((r*c:Nat):Int) D,.int (c:Int) G]}).objs.size] _ _ H1 ⟨rK,
     J.kept (t':=s1.toks) λb o e=>ae _ e,T3 _ 0 (c:Int) r,?_,λb hb=>?_,q⟩
    .let e1:(0:Int)+((0:Nat):Int)*(c:Int)=0:=qa;let e2:(r:Int)-((0:Nat):Int)=Builtin.Range.rangeSize 0 ((r*c:Nat):Int) (c:Int):=by rw[sz];simp
     show IsRangeIter _ _ ((0:Int)+((0:Nat):Int)*(c:Int)) ((r:Int)-((0:Nat):Int)) (c:Int);rw[e1,e2];show aI _ rfl
    .let e:b=(s1.heap.push {cls:=.type "range",data:=.fields #[.int 0 F,.int ((r*c:Nat):Int) D,.int (c:Int) G]}).objs.size:=by simpa using hb
     subst e;show J.yD (al _) (J.hok.fresh (al _))⟩
end
def T4 {lo c:Int}{n:Nat}{D:Addr}{te:TE}{σ:St}{H:Hp}{R:Hp->Prop}(j:Nat->List V->Hp->Prop)(h0:j 0 [] (upd H D (.lst [])))(hs:∀i ys H,i<n->j i ys H->te (some (.int (lo+i*c))::σ) H λy I=>I D=some (.lst ys)/\ys.length<sizeLine/\g_ n i (j (i+1) (ys++[y]) (upd I D (.lst (ys++[y])))))(hd:∀ys H,j n ys H->R H):∃W:Nat->Nat->List V->Hp->Prop,(∃m,W 0 m [] (upd H D (.lst [])))/\
   ∀i m ys H,W i m ys H->((Qm lo c n).stop i H/\R H)\/((Qm lo c n).go i H/\∀x H',(Qm lo c n).Im i H x H'->lV (some x::σ) H' λb J=>
    if b=true then te (some x::σ) J λy I=>I D=some (.lst ys)/\ys.length<sizeLine/\∃G,G<m/\W (i+1) G (ys++[y]) (upd I D (.lst (ys++[y])))
    else ∃G,G<m/\W (i+1) G ys J):=by
 calc⟨λi m ys H=>m=n-i/\i<=n/\j i ys H,⟨n,qa,ej _,h0⟩,?_⟩;intro i m ys H z;let⟨rfl,hi,p⟩:=z;by_cases F:i<n
 .calc .inr ⟨F,λx H' y=>?_⟩;let⟨e,y⟩:=y;subst e y;show hs i ys H' F p
 .let e:i=n:=p_;subst e;show .inl ⟨al _,hd ys H p⟩
def qC {K:W.Frag}{a D:Addr}{xs:List V}{te:TE}{σ:St}{H:Hp}{R:Hp->Prop}(j:Nat->List V->Hp->Prop)(h0:j 0 [] (upd H D (.lst [])))(hl:∀i ys H,i<=xs.length->j i ys H->aN K H a xs)(hs:∀i x ys H,xs[i]?=some x->j i ys H->te (some x::σ) H (Ko xs.length i D ys (j (i+1))))(hd:∀ys H,j xs.length ys H->R H):Cr (Itt K a) D H R (Xi σ lV te):=O6 j h0 hl hs hd
section
variable {X:Cx}{x:Str}{pos:Pos}
def uc (j:Gl X x)(hm:∃t,X.mg x=some (.str (S l) t))(hd:(x==("__debug__":Str))=false:=by decide):QE X (.Name x pos) (tC (.str (S l))):=let ⟨t,e⟩:=hm;zq j e ⟨t,rK⟩ hd
def Xk (j:Gl X x)(hm:∃t,X.mg x=some (.int i t))(hd:(x==("__debug__":Str))=false:=by decide):QE X (.Name x pos) (tC (.int i)):=let ⟨t,e⟩:=hm;zq j e ⟨t,rK⟩ hd
def Qn (j:QE X o to)(hi:QE X i ti)(hs:abu X t)(ha:∀v,assign (.Subscript o i pos) X.env v=(do
   let ov <- holding [v] (eval o X.env)
   let iv <- holding [v,ov] (eval i X.env)
   standAt pos
   holding [v,ov,iv] (setItem ov iv v)
   release [v,ov,iv] []):=by intro _;rfl):QG X (.Subscript o i pos) (af8 to ti t):=⟨af9 j.out hi.out hs ha⟩
end
def jJ:bootBuiltins "all"=some (.builtin "all"):=by decide +kernel
def M5:bootBuiltins "any"=some (.builtin "any"):=by decide +kernel
def Qo {K:W.Frag}(X:K.In h)(G:h.Ns mainGlobals mg)(a:W.nsIn K mainGlobals x=some (some (.str (S l) t))):∃t,mg x=some (.str (S l) t):=⟨t,c8 X G a⟩
def Qp {K:W.Frag}(X:K.In h)(G:h.Ns mainGlobals mg)(a:W.nsIn K mainGlobals x=some (some (.int i t))):∃t,mg x=some (.int i t):=⟨t,c8 X G a⟩
section
variable {X:Cx}
def abW (K:W.Frag)  (h:X.K=K:=by rfl):Gd X (ags K):=by subst h;show iH
def qK (K:W.Frag)  (h:X.K=K:=by rfl):Gd X (agt K):=by subst h;show bw
def abX (K:W.Frag)  (h:X.K=K:=by rfl):Va X (agw K):=by subst h;show vR
def Qq (K:W.Frag)  (h:X.K=K:=by rfl):iI X (.builtin "isinstance") (adF K):=by subst h;show cP
def GR (K:W.Frag)  (h:X.K=K:=by rfl):xu X "str.join" (rJoin K):=by subst h;show qI
def Qs {name:Str}{apos cpos:Pos}{T id:String}(K:W.Frag)(J:PlainAttrs T)(slot:Slot T name id)(I:typeOf (.builtin id)=pure (.type "method_descriptor"))(hm:xu X id r)(O:QE X o to)(ha:QA X (e::es) t)(F:attributeBase o name X.env (eval o X.env)=eval o X.env:=by rfl)(G:((backTo cpos (starEach (e::es) X.env)).all (λx=>!x.1)&&(backToKw cpos (keywordEach [] X.env)).all (λx=>x.1.isSome)
   && decide ((e::es).length+([]:List Keyword).length+(if ([]:List Keyword).isEmpty then 0 else 1)<30))=true:=by rfl) (D:(apos.endLine==cpos.line)=true:=by rfl) (hs:starEach (e::es) X.env=(false,eval e X.env)::starEach es X.env:=by rfl) (j:(backTo cpos (starEach es X.env)).any (·.1)=false:=by rfl) (h:X.K=K:=by rfl):QE X (.Call (.Attribute o name apos) (e::es) [] cpos) (tBM K T r to t):=by subst h;show f9 J slot I hm O ha F G D hs j
end
def jA (l:List Nat):List Nat:=l.takeWhile λc=>c != 46
def iz (l:List Nat):List Nat:=(l.reverse.takeWhile λc=>c != 46).reverse
theorem GX:∀{l:List Nat} {i:Nat},l[i]?=some 46->(∀k,k<i->l[k]?≠some 46)->jA l=l.take i
 | [],i,h,_=>by simp at h
 | c::l,0,h,_=>by
  have:c=46:=by simpa using h
  subst this;simp[jA]
 | c::l,i+1,h,hk=>by let F:c≠46:=λe=>hk 0 p_ (by simp[e]);let D:=GX (l:=l) (i:=i) (by simpa using h) (λk j=>by have:=hk (k+1) (Nat.succ_lt_succ j);simpa using this);unfold jA at D ⊢;rw[og (by simpa using F),D,List.take_succ_cons]
def M6 (h:46∉l):jA l=l:=by
 unfold jA
 induction l with| nil=>rfl| cons c r ih=>have j:c≠46:=λe=>h (by rw[e];show b9);rw[og (by simpa using j),ih λz=>h (bE _ z)]
def ZW (h:46∉l):iz l=l:=by have:=M6 (l:=l.reverse) (by simpa using h);unfold jA at this;unfold iz;rw[this,List.reverse_reverse]
def abY (h:l[i]?=some 46)(D:∀k,i<k->l[k]?≠some 46):iz l=l.drop (i+1):=by
 let hi:i<l.length:=(ah.mp h).1;let e:jA l.reverse=l.reverse.take (l.length-(i+1)):=by
  refine GX ?_ λk j=>?_
  .rw[List.getElem?_reverse (Nat.sub_lt_left_of_lt_add p_ p_),show l.length-1-(l.length-(i+1))=i by lia];show h
  .rw[List.getElem?_reverse (by simp[Nat.sub_le_iff_le_add,Nat.lt_sub_iff_add_lt]at *;lia)];show D _ (by simp[Nat.sub_le_iff_le_add,Nat.lt_sub_iff_add_lt]at *;lia)
 unfold jA at e;unfold iz;rw[e,List.take_reverse,List.reverse_reverse,show l.length-(l.length-(i+1))=i+1 by rw[Nat.sub_sub_self (by assumption)]]
def ZX (l:List Nat)(n:Nat):gU l none (some (n:Int))=l.take n:=by
 unfold gU;rw[HT.lg];show (l.drop 0).take (min n l.length-0)=_;rw[km,Nat.sub_zero];by_cases h:n<=l.length;.rw[fF h]
 .rw[ku p_,ce (al _),ce p_]
def Qt (l:List Nat)(n:Nat):gU l (some (n:Int)) none=l.drop n:=by
 unfold gU;rw[HT.lg];show (l.drop (min n l.length)).take (l.length-min n l.length)=_;rw[ce (by rw[ba];lia)];by_cases h:n<=l.length;.rw[fF h]
 .rw[ku p_,gX (al _),gX p_]
def adG (l)(i j):Builtin.Str.strSub (S l) i j=S ((l.take j).drop i):=by unfold Builtin.Str.strSub S;congr 1;apply pi.mp;simp[List.drop_take]
section
variable {X:Cx}
def Z1 (l):(Txt.partition (S l) (S [46])).1=S (jA l):=by
 rcases partition_head (S l) (S [46]) with⟨e,h⟩|⟨i,e,h,D⟩
 .rw[e,M6 λhm=>?_];let⟨i,hi⟩:=List.mem_iff_getElem?.mp hm;show h i ((ip (S l) 46 i).mpr hi)
 .rw[e,adG,km,GX (l:=l) ((ip (S l) 46 i).mp h) λk j z=>D k j ((ip (S l) 46 k).mpr z)]
def Xl (l):(Txt.rpartition (S l) (S [46])).2.2=S (iz l):=by
 unfold Txt.rpartition;rcases StrLaws.last_spec (S l) (S [46]) with⟨e,h⟩|⟨i,e,h,D⟩
 .rw[e];show S l=_;rw[ZW λhm=>?_];let⟨i,hi⟩:=List.mem_iff_getElem?.mp hm;show h i ((ip (S l) 46 i).mpr hi)
 .rw[e];show Builtin.Str.strSub (S l) (i+1) l.length=_;rw[adG,ce (al _),abY (l:=l) ((ip (S l) 46 i).mp h) λk j z=>D k j ((ip (S l) 46 k).mpr z)]
def aiA:V->List V->Hp->VK->Prop:=λx vs H Q=>∃l,x=.str (S l)/\vs=[.str (S [46])]/\l.length<=1000/\∀(p:Addr) (b c:Str),H p=none->Q (.ref p) (upd H p (.tup [.str (S (jA l)),.str b,.str c]))
def aep:xu X "str.partition" aiA:=by
 intro ak s σ H x vs v us Q I O J h;let⟨l,rfl,rfl,hz,q⟩:=h;let⟨t,rfl⟩:=O;let⟨u,rfl,G⟩:=vals1 J;let⟨D,rfl⟩:=G;let hsz:(S l).length<=sizeLine:=ap (aK hz);calc call_meets F.slot_str_partition (typeIs_str _ _ _) F.entry_str_partition (F.args_str_partition_2 _ _) (meets_str_partition (S l) (S [46]) t D rK hsz) ?_;let e:=Z1 l;let j:=λb c=>q s.heap.objs.size b c (I.hok.fresh (al _));rw[<-e]at j;unfold Txt.partition at j
 revert j
 cases Builtin.Str.occurrences (S l) (S [46]) 0 (S l).length 1 with| nil=>intro j;calc JA (.ref s.heap.objs.size) _ ⟨I.laid (o:=.tup _) (t':=s.toks+1) (λb ob z=>ae _ z) (al _) ?_,rK,j Str.empty Str.empty⟩;show⟨zsz 3,_,.cons ⟨_,rK⟩ (.cons ⟨_,rK⟩ (.cons ⟨_,rK⟩ .nil)),⟨_,aI _ rK,rK,0,rK⟩⟩| cons i r=>intro j;calc JA (.ref s.heap.objs.size) _ ⟨I.laid (o:=.tup _) (t':=s.toks+1+1) (λb ob z=>ae _ z) (al _) ?_,rK,j (S [46]) (Builtin.Str.strSub (S l) (i+(S [46]).length) (S l).length)⟩;show⟨zsz 3,_,.cons ⟨_,rK⟩ (.cons ⟨_,rK⟩ (.cons ⟨_,rK⟩ .nil)),⟨_,aI _ rK,rK,0,rK⟩⟩
def agN:V->List V->Hp->VK->Prop:=λx vs H Q=>∃l,x=.str (S l)/\vs=[.str (S [46])]/\l.length<=1000/\∀(p:Addr) (a b:Str),H p=none->Q (.ref p) (upd H p (.tup [.str a,.str b,.str (S (iz l))]))
def abZ:xu X "str.rpartition" agN:=by
 intro ak s σ H x vs v us Q I O J h;let⟨l,rfl,rfl,hz,q⟩:=h;let⟨t,rfl⟩:=O;let⟨u,rfl,G⟩:=vals1 J;let⟨D,rfl⟩:=G;let hsz:(S l).length<=sizeLine:=ap (aK hz);calc call_meets F.slot_str_rpartition (typeIs_str _ _ _) F.entry_str_rpartition (F.args_str_rpartition_2 _ _) (meets_str_rpartition (S l) (S [46]) t D rK hsz) ?_;let e:=Xl l;let j:=λb c=>q s.heap.objs.size b c (I.hok.fresh (al _));rw[<-e]at j;unfold Txt.rpartition at j
 revert j
 cases Builtin.Str.lastOccurrence (S l) (S [46]) 0 (S l).length with| none=>intro j;calc JA (.ref s.heap.objs.size) _ ⟨I.laid (o:=.tup _) (t':=s.toks+1) (λb ob z=>ae _ z) (al _) ?_,rK,j Str.empty Str.empty⟩;show⟨zsz 3,_,.cons ⟨_,rK⟩ (.cons ⟨_,rK⟩ (.cons ⟨_,rK⟩ .nil)),⟨_,aI _ rK,rK,0,rK⟩⟩| some i=>intro j;calc JA (.ref s.heap.objs.size) _ ⟨I.laid (o:=.tup _) (t':=s.toks+1+1) (λb ob z=>ae _ z) (al _) ?_,rK,j (Builtin.Str.strSub (S l) 0 i) (S [46])⟩;show⟨zsz 3,_,.cons ⟨_,rK⟩ (.cons ⟨_,rK⟩ (.cons ⟨_,rK⟩ .nil)),⟨_,aI _ rK,rK,0,rK⟩⟩
end
def ab0 {X:Cx}{j iter tg:Expr}{ns N2:List Str}{f:St->St}{TP:V->Hp->(St->Prop)->Prop}{ifs:List Expr}{scope:Scope}{wi:TI}(O:X.calm=true)(ok:jM X scope ns N2 f)(hi:PI X tg iter wi)(J:∀cl C s₀ H₀ fp,MJ (gF X scope cl C (ns++N2) s₀ H₀ fp) tg ns.length TP)(ht:∀cl C s₀ H₀ fp,Vh (gF X scope cl C (ns++N2) s₀ H₀ fp) ifs tt)(F:∀cl C s₀ H₀ fp,PE (gF X scope cl C (ns++N2) s₀ H₀ fp) j te)(hs:∀x,foldedSetIterable iter X.env x=pure x:=by intro _;rfl):PE X (.ListComp j [⟨tg,iter,ifs,0⟩] scope pos) (Cu f ns.length wi TP tt te):=λak s σ H Q I h=>by rw[eval_ListComp];show Cv O ok hi J ht F hs I h λD C G Z m hn bk _ q=>⟨m,hn,λh' Y=>(JA (.ref D) G ⟨bk h' Y,rK,q⟩)⟩
def jP (j:List Nat):Nat->St->St
 | _,[]=>[]
 | i,v::r=>(if j.contains i=true then none else v)::jP j (i+1) r
theorem M7 (ks):∀(i:Nat) (σ:St),(jP ks i σ).length=σ.length
 | _,[]=>rfl
 | i,_::r=>by rw[jP,dq,dq,M7 ks (i+1) r]
theorem M8 (ks):∀(i:Nat) (σ:St) (j:Nat) (v:V),(jP ks i σ)[j]?=some (some v)->ks.contains (i+j)=false/\σ[j]?=some (some v)
 | _,[],j,v,h=>by simp[jP]at h
 | i,x::r,0,v,h=>by
  rw[jP]at h;cases e:ks.contains i with| true=>rw[e]at h;simp at h| false=>rw[e]at h;show⟨by first|rfl|show e,by simpa using h⟩
 | i,x::r,j+1,v,h=>by rw[jP,List.getElem?_cons_succ]at h;let⟨a,b⟩:=M8 ks (i+1) r j v h;show⟨by rw[show i+(j+1)=i+1+j by lia];show a,by rw[List.getElem?_cons_succ];show b⟩
noncomputable def agO (sc:Scope)(N:List Str)(scope:Scope)(N2:List Str)(j:List Nat):Bool:=scope.kind == .function&&scope.names.all (λy=>y.2 != .cell)&&scope.names.all (λy=>y.2 != .local||scope.names.lookup y.1==some .local) &&
 scope.names.all (λy=>y.2 != .free||sc.names.lookup y.1==some .cell||sc.names.lookup y.1==some .free)&&N2.length==N.length &&
 (List.range N.length).all (λi=>j.contains i||(N2[i]? == N[i]? && (N[i]?.map λy=>scope.names.lookup y != some .local)==some true))
def jM.of {X:Cx}(N2)(ks)(h:agO X.env.scope X.N scope N2 ks=true):jM X scope ns N2 (jP ks 0):=by
 unfold agO at h;simp only[bX,fh,pE,bne_iff_ne,beq_iff_eq,ne_eq]at h;obtain⟨⟨⟨⟨⟨h1,h2⟩,h3⟩,h5⟩,F⟩,h7⟩:=h;refine⟨h1,λy hy=>h2 y hy,λy hy e=>(h3 y hy).resolve_left λz=>z e,λy hy e=>?_,M7 ks 0,F,λσ i y v e1 e2=>?_⟩
 .rcases h5 y hy with(z|z)|z;.show absurd e z
  .show .inl z
  .show .inr z
 .let⟨a,b⟩:=M8 ks 0 σ i v e2;rw[Nat.zero_add]at a;let hi:i<X.N.length:=by rw[<-F];show(ah.mp e1).1
  rcases h7 i (gS.mpr hi) with z|⟨j,D⟩;.rw[a]at z;cases z
  .rw[<-j,e1]at D;rw[j]at e1;show⟨e1,b,by simpa using D⟩
def aer {X:Cx}{scope:Scope}{N:List Str}(K:W.Frag)(Y:X.calm=true)(F:N.Nodup)(h0:N[0]?=some x)(h1:N[1]?=some y)(hx:scope.names.lookup x=some .local)(hy:scope.names.lookup y=some .local)(J:X.K=K:=by rfl):MJ (gF X scope cl C N s₀ H₀ fp) (.Tuple [.Name x px,.Name y py] k pos) 2 (λv H Q=>∃a p q,v=.ref a/\aN K H a [p,q]/\Q [some p,some q]):=by
 subst J;intro ak s pre rest H v u Q hp I r q;let⟨a,p,j,rfl,O,q⟩:=q;obtain⟨D,p1,rfl⟩:∃D p1,pre=[D,p1]:=by
  match pre,hp with| [D,p1],_=>show JA D p1 rfl
 let P:PG (gF X scope cl C N s₀ H₀ fp) (.Tuple [.Name x px,.Name y py] k pos) (W2 X.K 2 (zT (qW 0) (zT (qW 1) W0))):=PL (X:=gF X scope cl C N s₀ H₀ fp) Y (sX (sW (i:=0) F h0 (.inl (lookup_relabel_local hx)) (.inr (lookup_relabel_local hx))) (sX (sW (i:=1) F h1 (.inl (lookup_relabel_local hy)) (.inr (lookup_relabel_local hy))) Kd));refine b_ (P ak s _ H (.ref a) u (λσ' H'=>H'=H/\σ'=some p::some j::rest) I r
  (JA a [p,j] ⟨rK,O,rK,p,[j],rK,j,[],rK,rK,rK,rK⟩)) λ_ s' ⟨σ',H',G,e1,e2⟩=>?_
 subst e1 e2;show⟨[some p,some j],rK,G,q⟩
def o_ {X:Cx}{scope:Scope}{N:List Str}(K:W.Frag)(Z:X.calm=true)(G:N.Nodup)(h0:N[0]?=some x)(h1:N[1]?=some y)(h2:N[2]?=some z)(hx:scope.names.lookup x=some .local)(hy:scope.names.lookup y=some .local)(hz:scope.names.lookup z=some .local)(O:X.K=K:=by rfl):MJ (gF X scope cl C N s₀ H₀ fp) (.Tuple [.Name x px,.Name y py,.Name z pz] k pos) 3 (λv H Q=>∃a p q r,v=.ref a/\aN K H a [p,q,r]/\Q [some p,some q,some r]):=by
 subst O;intro ak s pre rest H v u Q hp I r q;let⟨a,p,D,j,rfl,Y,q⟩:=q;obtain⟨F,p1,p2,rfl⟩:∃F p1 p2,pre=[F,p1,p2]:=by
  match pre,hp with| [F,p1,p2],_=>show JE F p1 p2 rfl
 let P:PG (gF X scope cl C N s₀ H₀ fp) (.Tuple [.Name x px,.Name y py,.Name z pz] k pos) (W2 X.K 3 (zT (qW 0) (zT (qW 1) (zT (qW 2) W0)))):=PL (X:=gF X scope cl C N s₀ H₀ fp) Z (sX (sW (i:=0) G h0 (.inl (lookup_relabel_local hx)) (.inr (lookup_relabel_local hx))) (sX (sW (i:=1) G h1 (.inl (lookup_relabel_local hy)) (.inr (lookup_relabel_local hy))) (sX (sW (i:=2) G h2 (.inl (lookup_relabel_local hz)) (.inr (lookup_relabel_local hz))) Kd)));refine b_ (P ak s _ H (.ref a) u (λσ' H'=>H'=H/\σ'=some p::some D::some j::rest) I r
  (JA a [p,D,j] ⟨rK,Y,rK,p,[D,j],rK,D,[j],rK,j,[],rK,rK,rK,rK⟩)) λ_ s' ⟨σ',H',J,e1,e2⟩=>?_
 subst e1 e2;show⟨[some p,some D,some j],rK,J,q⟩
def lX {X:Cx}{j iter tg:Expr}{ns N2:List Str}{f:St->St}{TP:V->Hp->(St->Prop)->Prop}{ifs:List Expr}{scope:Scope}{wi:TI}(G:X.calm=true)(ok:jM X scope ns N2 f)(hi:QI X tg iter wi)(F:∀cl C s₀ H₀ fp,MJ (gF X scope cl C (ns++N2) s₀ H₀ fp) tg ns.length TP)(ht:∀cl C s₀ H₀ fp,QTs (gF X scope cl C (ns++N2) s₀ H₀ fp) ifs tt)(D:∀cl C s₀ H₀ fp,QE (gF X scope cl C (ns++N2) s₀ H₀ fp) j te)(hs:∀x,foldedSetIterable iter X.env x=pure x:=by intro _;rfl):QE X (.ListComp j [⟨tg,iter,ifs,0⟩] scope pos) (Cu f ns.length wi TP tt te):=⟨ab0 G ok hi.out F (λcl C s₀ H₀ fp=>(ht cl C s₀ H₀ fp).out) (λcl C s₀ H₀ fp=>(D cl C s₀ H₀ fp).out) hs⟩
def O9 (n i:Nat)(D:Addr)(TP:V->Hp->(St->Prop)->Prop)(f:St->St)(σ:St)(tt:TT)(te:TE)(x:V)(H:Hp)(ys:List V)(P:List V->Hp->Prop):Prop:=ZK TP f σ tt te x H (Ko n i D ys P) λj=>g_ n i (P ys j)
noncomputable def Jd {K:W.Frag}{a:Addr}{f:St->St}{σ:St}{tt:TT}{te:TE}:=@O6 (λH=>aN K H a) (ZK (λv _ Q=>Q [some v]) f σ tt te)
noncomputable def j4 {K KT:W.Frag}{a:Addr}{f:St->St}{σ:St}{tt:TT}{te:TE}:=@O6 (λH=>aN K H a) (ZK (λv H Q=>∃a p q r,v=.ref a/\aN KT H a [p,q,r]/\Q [some p,some q,some r]) f σ tt te)
def adH (h:te ([some x]++f σ) H λy j=>j D=some (.lst ys)/\ys.length<sizeLine/\g_ n i (P (ys++[y]) (upd j D (.lst (ys++[y]))))):O9 n i D (λv _ Q=>Q [some v]) f σ lV te x H ys P:=by show (if true=true then (te ([some x]++f σ) H λy j=>j D=some (.lst ys)/\ys.length<sizeLine/\g_ n i (P (ys++[y]) (upd j D (.lst (ys++[y]))))) else g_ n i (P ys H));rw[if_pos rfl];show h
def aiB {KT:W.Frag}{n i:Nat}{p q:V}{f:St->St}{x:V}{ys:List V}{P:List V->Hp->Prop}(hx:x=.ref a)(F:aN KT H a [p,q])(h:te ([some p,some q]++f σ) H λy j=>j D=some (.lst ys)/\ys.length<sizeLine/\g_ n i (P (ys++[y]) (upd j D (.lst (ys++[y]))))):O9 n i D (λv H Q=>∃a p q,v=.ref a/\aN KT H a [p,q]/\Q [some p,some q]) f σ lV te x H ys P:=by calc JE a p q ⟨hx,F,?_⟩;show (if true=true then (te ([some p,some q]++f σ) H λy j=>j D=some (.lst ys)/\ys.length<sizeLine/\g_ n i (P (ys++[y]) (upd j D (.lst (ys++[y]))))) else g_ n i (P ys H));rw[if_pos rfl];show h
def vB {KT:W.Frag}{n i:Nat}{p q r:V}{f:St->St}{x:V}{ys:List V}{P:List V->Hp->Prop}(hx:x=.ref a)(F:aN KT H a [p,q,r])(h:te ([some p,some q,some r]++f σ) H λy j=>j D=some (.lst ys)/\ys.length<sizeLine/\g_ n i (P (ys++[y]) (upd j D (.lst (ys++[y]))))):O9 n i D (λv H Q=>∃a p q r,v=.ref a/\aN KT H a [p,q,r]/\Q [some p,some q,some r]) f σ lV te x H ys P:=by calc JI a p q r ⟨hx,F,?_⟩;show (if true=true then (te ([some p,some q,some r]++f σ) H λy j=>j D=some (.lst ys)/\ys.length<sizeLine/\g_ n i (P (ys++[y]) (upd j D (.lst (ys++[y]))))) else g_ n i (P ys H));rw[if_pos rfl];show h
section
variable {X:Cx}
def aes:V->List V->Hp->VK->Prop:=λx vs H Q=>∃(l:Addr) (us:AA) (w:List Nat),x=.ref l/\vs=[.str (S w)]/\H l=some (.lst (Ts us))/\w∈us/\us.length<=1000/\Q .non (upd H l (.lst (Ts (us.erase w))))
def strEq (w:List Nat)(u:Value):Bool:=match u with| .str z _=>z.cps.toList==w| _=>false
def Z2 {us:AA}:us.erase w=us.eraseIdx (us.idxOf w):=by
 induction us with
 | nil=>rfl
 | cons a r ih=>
  by_cases h:a=w;.subst h;simp
  .rw[List.erase_cons_tail (by simpa using h),List.idxOf_cons,cond_eq_ite,if_neg (by simpa using h),lP,ih]
def xJ:MtM X "list.remove" aes:=by
 intro ak s σ H x vs v us Q I rx rv h;let⟨l,ls,w,rfl,rfl,G,hw,hz,q⟩:=h;cases rx;let⟨u,rfl,Z⟩:=rv.one;let⟨t,rfl⟩:=Z;let⟨z,its,n,r,hl,e⟩:=I.GD G;let Y:its.length=ls.length:=by rw[<-hl,aa]
 let hj:ls.idxOf w<ls.length:=List.idxOf_lt_length_of_mem hw;let get:∀(m:Nat) (hm:m<its.toArray.size),∃(tk:Tok) (j:m<ls.length),its.toArray[m]=.str (S ls[m]) tk:=λm hm=>by
  let j:m<ls.length:=by simp at hm;simp_all
  let⟨u1,e1,s1⟩:=r.get (i:=m) (x:=.str (S ls[m])) (by simp[j]);let⟨tk,rfl⟩:=s1;calc JA tk j ?_;rw[af hm]at e1;simpa using e1
 refine call_meets F.slot_list_remove ⟨_,e,rK⟩ F.entry_list_remove (F.args_list_remove_2 _ _) (PySem.MeetsSeq.list_remove l its.toArray n (.str (S w) t) (strEq w) (λy hy=>?_) (ls.idxOf w) (by rw[bd];simp_all) ?_ (λm hm D=>?_) (by rw[bd,Y];show ap (aK hz))) ⟨e,?_⟩
 .let⟨m,hm,rfl⟩:=Array.mem_iff_getElem.mp hy;let⟨tk,_,e1⟩:=get m hm;rw[e1];show PySem.SeqRoads2.EqGives.str _ _ _ _
 .let⟨tk,j,e1⟩:=get (ls.idxOf w) (by rw[bd];lia);rw[e1];show (ls[ls.idxOf w]==w)=true;rw[List.getElem_idxOf];simp
 .let⟨tk,j,e1⟩:=get m hm;rw[e1];show (ls[m]==w)=false;have:=List.not_of_lt_findIdx (p:=λa=>a==w) (xs:=ls) (show m<ls.findIdx (λa=>a==w) from D);simpa using this
 .refine JA .non _ ⟨I.abG (its':=its.eraseIdx (ls.idxOf w)) G e ?_ ?_ ?_,rK,q⟩
  .rw[Array.eraseIdxIfInBounds,dif_pos (by rw[bd];lia)];simp
  .rw[Z2];let J:=Vals.eraseIdx (ls.idxOf w) r;let O:∀(xs:AA) (i:Nat),Ts (xs.eraseIdx i)=(Ts xs).eraseIdx i:=by
    intro xs
    induction xs with
    | nil=>intro i;rfl
    | cons a r ih=>
     intro i;cases i with| zero=>rfl| succ i=>rw[lP,Ts,cf,Ts,cf,lP];congr 1;show ih i
   rw[O];show J
  .rw[aa];show bP (List.length_erase_le ..) (ap (aK hz))
def agP (K:W.Frag):List V->Hp->VK->Prop:=λxs H Q=>∃(a:Addr) (ws:AA),xs=[.ref a]/\bC K H a (Ts ws)/\ws.length<64/\∀(p:Addr) (j:AA),H p=none->j.Perm ws->j.Pairwise (λa b=>decide (b<a)=false)->Q (.ref p) (upd H p (.lst (Ts j)))
def CJ:iI X (.builtin "sorted") (agP X.K):=by
 intro ak s σ H xs us Q I r h;let⟨a,ws,rfl,O,Y,q⟩:=h;let⟨u,rfl,Z⟩:=vals1 r;cases Z;let⟨its,F,pl,_⟩:=I.list O;let cU:its.length=ws.length:=by have:=F.length;simpa using this.symm
 calc sorted_strs pl.isList (E_ F) (by simp_all) λout j a1 a2 a3=>?_;let⟨e,G⟩:=sortedAll_at s.heap its out;let D:(j.map λy=>y.cps.toList).Perm ws:=by have:=a2.map λy:Str=>y.cps.toList;rw[gc]at this;let e:((λy:Str=>y.cps.toList) ∘ S)=id:=rfl;rw[e,kM]at this;show this
 let J:Vals (Ts (j.map λy=>y.cps.toList)) out.toList:=by
  have:=q_ a1;let es:(j.map V.str)=Ts (j.map λy=>y.cps.toList):=by rw[Ts,gc];show fA λy _=>by simp[oz,agD]
  rw[es]at this;show this
 let hl:(Ts (j.map λy=>y.cps.toList)).length<=sizeLine:=by rw[aa,D.length_eq];show ap (aK p_)
 refine JA (.ref (s.heap.objs.size+1)) _ ⟨I.laid (o:=.lst _) (t':=s.toks) (λb o z=>sortedAll_old z) (kL _) ⟨hl,out.toList,e,J,by rw[Array.toArray_toList];show G⟩,rK,q _ _ (I.hok.fresh (kL _)) D (Cw j a3)⟩
def ajm (t:TS):TS:=λD σ H=>∃I:St->Hp->Prop,t {D with nx:=I} σ H/\∀σ' H',I σ' H'->D.nx σ' H'
def fU {st:Stmt}(h:QS X st t):QS X st (ajm t):=⟨λak s σ H D I ⟨J,a,b⟩=>by
 calc b_ (h.out ak s σ H _ I a) λf s' q=>?_;cases f with
 | next=>let⟨σ7,F,j,G⟩:=q;show JA σ7 F ⟨j,b _ _ G⟩
 | cont=>show q
 | brk=>show q
 | ret v=>show q⟩
end
end L2
namespace L2
open PySem PySem.Spec PyProof.Rows PySem.W
section
variable {prog:Program}{w:World}{A:Around}{E:AE}{s:Shared}
variable {X:Cx}
open Classical in
theorem Vm (d:Dt):∀es:List Dt,((mU es).any λy=>PyData.eqv y (toP d))=decide (d∈es)
 | []=>by simp[mU]
 | e::es=>by
  rw[mU,kK,Vm d es,Kq];by_cases z:e=d;.subst z;simp
  .let z':¬d=e:=λy=>z y.symm
   simp[z,z']
def agQ {a b:Addr}{I ob:Obj}{na nb:Nat}{x1 j G D:Nat}{t1 Y t3 J:Tok}{r1 r2:List Value}{Q:AE}(ha:s.heap.get? a=some I)(ca:I.cls=.type "tuple")(da:I.data=.seq (Value.int x1 t1::Value.int j Y::r1).toArray na)(hb:s.heap.get? b=some ob)(cb:ob.cls=.type "tuple")(db:ob.data=.seq (Value.int G t3::Value.int D J::r2).toArray nb)(l1:j<1000)(l2:D<1000)(hu:A.units<cLine)(Z:x1*1000+j≠G*1000+D)(q:Q (.bool (decide (x1*1000+j<G*1000+D))) s):wpAny (model prog w) A (compareOp .Lt (.ref a) (.ref b)) Q E s:=by
 let Ta:s.TypeIs (.ref a) "tuple":=⟨I,ha,ca⟩
 let Tb:s.TypeIs (.ref b) "tuple":=⟨ob,hb,cb⟩
 show wpAny _ _ (richCompare .Lt (.ref a) (.ref b)) Q E s;calc wpAny_richCompare_same_room (op:=.Lt) (T:="tuple") Ta Tb ny (fb ny Ta F.entry_tuple_lt ?_ (F.args_tuple_lt_2 _ _)) hu;show wpAny _ _ (isInstance (.ref b) (.type "tuple") >>= _) _ _ s;calc ac (mo Tb isSubtype_tuple_tuple ?_);simp only[mm,fS,if_false];calc ac (k9 ha da (ac (k9 hb db (ac ?_))));rw[show (Value.int (x1:Int) t1::Value.int (j:Int) Y::r1).toArray.toList.zip (Value.int (G:Int) t3::Value.int (D:Int) J::r2).toArray.toList=(Value.int (x1:Int) t1,Value.int (G:Int) t3)::(Value.int (j:Int) Y,Value.int (D:Int) J)::r1.zip r2 from rfl];rw[fE];calc ac ?_;dsimp only;calc ac (js _ _ _ _ prog w _ _ ?_);by_cases ex:x1=G
 .subst ex;simp only[beq_self_eq_true,mm,fS,if_false];calc am ?_;dsimp only;rw[fE];calc ac ?_;dsimp only;calc ac (js _ _ _ _ prog w _ _ ?_);let O:((j:Int)==(D:Int))=false:=by
   apply beq_eq_false_iff_ne.mpr;intro z;show Z p_
  simp only[O,Bool.not_false,if_true];calc ac (kD (ac (lt_int ?_)));calc ac (am (am (am (am ⟨_,rK,qa,?_⟩))));rw[show decide ((j:Int)<(D:Int))=decide (x1*1000+j<x1*1000+D) by simp];show q
 .let O:((x1:Int)==(G:Int))=false:=by
   apply beq_eq_false_iff_ne.mpr;intro z;show ex p_
  simp only[O,Bool.not_false,if_true];calc ac (kD (ac (lt_int ?_)));calc ac (am (am (am (am ⟨_,rK,qa,?_⟩))));rw[show decide ((x1:Int)<(G:Int))=decide (x1*1000+j<G*1000+D) by
    by_cases z:x1<G;.rw[ai (Iff.mpr nc z),ai p_]
    .rw[ag (by simp[*]),ag p_]]
  show q
def ajn:R2:=λx y H Q=>∃(a b:Addr) (x1 j F D:Nat) (r1 G:List V),x=.ref a/\y=.ref b/\H a=some (.tup (.int x1 :: .int j::r1))/\H b=some (.tup (.int F :: .int D::G))/\j<1000/\D<1000/\x1*1000+j≠F*1000+D/\
 Q (.bl (decide (x1*1000+j<F*1000+D))) H
def agR (Y:X.A.units<cLine):fZ X (compareOp .Lt) ajn:=by
 intro ak s σ H x y v u Q I rx ry h;let⟨a,b,x1,y1,x2,y2,r1,r2,rfl,rfl,ea,Z,l1,l2,D,q⟩:=h;cases rx;cases ry;let⟨_,tv,F,o,ho,hc,n,hd⟩:=I.hok _ _ ea;let⟨_,tv',O,o',G,j,n',J⟩:=I.hok _ _ Z;cases F with
 | cons q1 rr=>
  cases rr with
  | cons q2 rr=>
   cases O with
   | cons q3 rr'=>
    cases rr' with| cons q4 rr'=>let⟨t1,rfl⟩:=q1;let⟨t2,rfl⟩:=q2;let⟨t3,rfl⟩:=q3;let⟨t4,rfl⟩:=q4;show agQ ho hc hd G j J l1 l2 Y D (JA (.bl _) H ⟨I,rK,q⟩)
structure Z4 (K:W.Frag)(C:Addr):Prop where
 ha:W.findIn K (.ref C) "__class__"=some (some (.builtin "object.__class__"))
 hn:W.specialIn K (.builtin "object.__class__") "__get__"=some (some (.builtin "getset_descriptor.__get__"))
 ht:W.takesIn K (.builtin "object.__class__")=some true
 hm:W.mroIn K C (.type "object")=some true
 ki:W.kitOne K (.ref C) (.ref C)=some true
def agS (K:W.Frag):List V->Hp->VK->Prop:=λxs H Q=>∃x C t b,xs=[x,.ref C]/\lR K H x t/\W.kitOne K t (.ref C)=some b/\Q (.bl b) H
def Qu:iI X (.builtin "isinstance") (agS X.K):=by intro ak s σ H xs us Q I r h;let⟨x,n,t,b,rfl,ty,k,q⟩:=h;let⟨u,D,rfl,r1,j⟩:=vals2 r;cases j;show Ms I r1 ty k λtk=>(JA (.bl b) H ⟨I.tok tk,rK,q⟩)
def agT:List V->Hp->VK->Prop:=λxs H Q=>∃l:List Nat,xs=[.str (S l)]/\l.length<=1000/\∀p,H p=none->Q (.ref p) (upd H p (.lst (Ts (l.map λc=>[c]))))
theorem M9:∀(l:List Nat) (us:List Value),us.length=l.length->(∀(i c:Nat),l[i]?=some c->∃t,us[i]?=some (.str (S [c]) t))->Vals (Ts (l.map λc=>[c])) us
 | [],[],_,_=>.nil
 | [],_::_,h,_=>by simp at h
 | _::_,[],h,_=>by simp at h
 | c::l,u::us,h,k=>by let⟨t,e⟩:=k 0 c rfl;let e:u=.str (S [c]) t:=be e;show .cons ⟨t,e⟩ (M9 l us (by simpa using h) λi d hd=>k (i+1) d hd)
def nF (F:X.calm=true):iI X (.type "list") agT:=by
 intro ak s σ H xs us Q I r h;let⟨l,rfl,hl,q⟩:=h;let⟨u,rfl,Z⟩:=vals1 r;let⟨t,rfl⟩:=Z;let hz:l.length<=sizeLine:=ap (aK hl);calc call_list_str (I.ok.hd F) (S l) t (λh' tk j J G Y D=>?_) (by show l.toArray.size<=_;simpa using hz);let hsz:j.size=l.length:=by rw[D.1];show l.toArray.size=_;simp
 calc JA (.ref s.heap.objs.size) _ ⟨I.laid (o:=.lst (Ts (l.map λc=>[c]))) (t':=tk) G (al _) ⟨by rw[aa,aa];show hz,j.toList,J,?_,by simpa using Y⟩,rK,q _ (I.hok.fresh (al _))⟩;calc M9 l j.toList (by rw[fz];show hsz) λi c F=>?_;let hi:i<j.size:=by rw[hsz];show(ah.mp F).1
 let⟨c2,O,e1,e2⟩:=D.2 i j[i] (by simp[hi]);let e1:l.toArray[i]?=some c2:=e1;rw[List.getElem?_toArray,F]at e1;let e1:=be e1;show⟨O,by rw[Array.getElem?_toList,oP hi,e2,e1];rfl⟩
end
end L2
namespace L2
open PySem PySem.Spec PyProof.Rows
def aeu {X:Cx}{ix:Nat}{J:Str}{Kr j:Pos}{F iter tg:Expr}{ns N2:List Str}{f:St->St}{TP:V->Hp->(St->Prop)->Prop}{ifs:List Expr}{scope:Scope}{pos:Pos}{wi:TI}{tt:TT}{te:TE}(hN:X.N.Nodup)(hxi:X.N[ix]?=some J)(Z:Loc X.env.scope J)(hc:X.calm=true)(ok:jM X scope ns N2 f)(hi:PI X tg iter wi)(hg:∀cl C s₀ H₀ fp,MJ (gF X scope cl C (ns++N2) s₀ H₀ fp) tg ns.length TP)(ht:∀cl C s₀ H₀ fp,Vh (gF X scope cl C (ns++N2) s₀ H₀ fp) ifs tt)(he:∀cl C s₀ H₀ fp,PE (gF X scope cl C (ns++N2) s₀ H₀ fp) F te)(hs:∀x,foldedSetIterable iter X.env x=pure x:=by intro _;rfl)(O:swapsWith (.ListComp F [⟨tg,iter,ifs,0⟩] scope pos) (some (.Name J Kr)) j.line X.env=pure true:=by rfl)(hf:X.fn J=true\/X.env.scope.names.lookup J=some .local:=by first|show .inl rfl|show .inr rfl|assumption):PS X (.Assign [.Name J Kr] (.ListComp F [⟨tg,iter,ifs,0⟩] scope pos) j) (Ke (Cu f ns.length wi TP tt te) (qW ix)):=λak s σ H De I h=>by
 rw[exec_Assign_Name_used _ _ _ _ O];calc ac (ml (ac (ac ?_)));calc b_ (Q:=λ_ s'=>∃σ' H',aP X ak σ' H' s'/\De.nx σ' H') ?_ λ_ s' hq=>am (am hq);calc Cv (use:=some (assign (.Name J Kr) X.env)) hc ok hi hg ht he hs I h λD C H4 s5 m hn bk G qn=>?_;calc wpAny_assign_Name (Mh (bk s5.heap (Heap.SameBut.refl _ _)) hN hxi Z (show cB (.ref D) (.ref D) from rK) (λs6 I6 ⟨a,sb6,ha⟩ _=>?_) hf);let Y:C≠a:=by
  rcases ha with z|z;.rw[z];show G.2.1
  .show λy=>G.2.2.2.2.1 _ _ z y.symm
 let⟨o,es,ep,e1,e2⟩:=hn;refine⟨m,(JE o es ep ⟨(sb6.2 C Y).trans e1,e2⟩),λh' sb=>(JA _ H4 ⟨I6.turned (t':=s6.toks) (λb o hb e=>(sb.2 b hb).trans e) G.1 G.2.1 G.2.2.2.1 G.2.2.2.2.1 G.2.2.2.2.2,qn⟩)⟩
def Vn {X:Cx}{ix:Nat}{F:Str}{O j:Pos}{D iter tg:Expr}{ns N2:List Str}{f:St->St}{TP:V->Hp->(St->Prop)->Prop}{ifs:List Expr}{scope:Scope}{pos:Pos}{wi:TI}{tt:TT}{te:TE}(Y:X.N.Nodup)(J:X.N[ix]?=some F)(I:Loc X.env.scope F)(hc:X.calm=true)(ok:jM X scope ns N2 f)(hi:QI X tg iter wi)(hg:∀cl C s₀ H₀ fp,MJ (gF X scope cl C (ns++N2) s₀ H₀ fp) tg ns.length TP)(ht:∀cl C s₀ H₀ fp,QTs (gF X scope cl C (ns++N2) s₀ H₀ fp) ifs tt)(Z:∀cl C s₀ H₀ fp,QE (gF X scope cl C (ns++N2) s₀ H₀ fp) D te)(hs:∀x,foldedSetIterable iter X.env x=pure x:=by intro _;rfl)(G:swapsWith (.ListComp D [⟨tg,iter,ifs,0⟩] scope pos) (some (.Name F O)) j.line X.env=pure true:=by rfl)(hf:X.fn F=true\/X.env.scope.names.lookup F=some .local:=by first|show .inl rfl|show .inr rfl|assumption):QS X (.Assign [.Name F O] (.ListComp D [⟨tg,iter,ifs,0⟩] scope pos) j) (Ke (Cu f ns.length wi TP tt te) (qW ix)):=⟨aeu Y J I hc ok hi.out hg (λa b c d e=>(ht a b c d e).out) (λa b c d e=>(Z a b c d e).out) hs G hf⟩
section
variable {X:Cx}
def aev:V->List V->Hp->VK->Prop:=λx vs H Q=>∃l w,x=.str (S l)/\vs=[.str (S w)]/\∀n:Nat,Q (.int n) H
def Z5:xu X "str.count" aev:=by intro ak s σ H x vs v us Q I G D h;let⟨l,w,rfl,rfl,q⟩:=h;let⟨t,rfl⟩:=G;let⟨u,rfl,j⟩:=D.one;let⟨t',rfl⟩:=j;calc call_gives F.slot_str_count (typeIs_str s _ t) F.entry_str_count (F.args_str_count_2 _ _) (gives_str_count (S l) (S w) t t') ?_;show EP X ak σ Q _ _;show JA (.int (Builtin.Str.occurrences (S l) (S w) 0 (S l).length ((S l).length+1)).length) H ⟨I.tok _,⟨s.toks,rK⟩,q _⟩
end
end L2
namespace L2
open PySem PySem.Spec PyProof.Rows PySem.W
open AutoSeq1 (wpAny_loadPart')
section
variable {prog:Program}{w:World}{A:Around}{E:AE}{s:Shared}
def Qv (t:s.heap.IsTupleIter u a i)(p:s.heap.IsTuple a g)(hx:g[i]?=some x)(q:∀h',h'.IsTupleIter u a (i+1)->Heap.SameBut u s.heap h'->Q x {s with heap:=h' }):wpAny (model prog w) A (Builtin.SmallTypes.nextOf (.ref u)) Q E s:=by let⟨o,j,I,hd⟩:=id t;let⟨ol,G,_,J,D⟩:=p;unfold Builtin.SmallTypes.nextOf;calc ac (eI (name:=Str.ofString "__next__") t.typeIs im (fb im t.typeIs F.entry_tuple_iterator_next ?_ (F.args_tuple_iterator_next_1 _)));show wpAny _ _ (field (.ref u) 0 >>= _) _ _ s;calc ac (cS j hd (x:=.ref a) rK ?_);show wpAny _ _ (if (Value.ref a==Value.none)=true then _ else _) _ _ s;rw[if_neg (show ¬((Value.ref a==Value.none)=true) from bv)];show wpAny _ _ (field (.ref u) 1 >>= _) _ _ s;calc ac (cS j hd (x:=.int i 0) rK ?_);show wpAny _ _ (seqItems? (.ref a) >>= _) _ _ s;calc ac (eJ G D ?_);simp only[dv,hx];calc ac (iL j hd qa (am ⟨x,rK,am (q _ ?_ (Heap.SameBut.update ..))⟩));show⟨_,gm _ j (ie (jI hd _)),(oB ..).trans I,by rw[jI hd];simp[rawInt]⟩
def aew (I:A.handled=none)(t:s.heap.IsTupleIter u a i)(p:s.heap.IsTuple a g)(hx:g[i]?=none)(q:∀h' e,Heap.ExtBut u s.heap h'->(∃o,h'.get? e=some o/\o.cls=.type "StopIteration")->E (.ref e) {s with heap:=h' }):wpAny (model prog w) A (Builtin.SmallTypes.nextOf (.ref u)) Q E s:=by
 let⟨o,j,J,hd⟩:=id t;let⟨ol,G,_,O,D⟩:=p;unfold Builtin.SmallTypes.nextOf;calc ac (eI (name:=Str.ofString "__next__") t.typeIs im (fb im t.typeIs F.entry_tuple_iterator_next ?_ (F.args_tuple_iterator_next_1 _)));show wpAny _ _ (field (.ref u) 0 >>= _) _ _ s;calc ac (cS j hd (x:=.ref a) rK ?_);show wpAny _ _ (if (Value.ref a==Value.none)=true then _ else _) _ _ s;rw[if_neg (show ¬((Value.ref a==Value.none)=true) from bv)];show wpAny _ _ (field (.ref u) 1 >>= _) _ _ s;calc ac (cS j hd (x:=.int i 0) rK ?_);show wpAny _ _ (seqItems? (.ref a) >>= _) _ _ s;calc ac (eJ G D ?_);simp only[dv,hx]
 first|refine ac (kD (ac (iL j hd qa ?_)))|refine ac (iL j hd qa ?_)
 show wpAny _ _ (newExc (.type "StopIteration") [] >>= _) _ _ _;calc ac ?_;simp only[newExc,newTuple];calc ac (fw ?_ qo);calc ac (m:=firstArgMember _ _) (wpAny_of_eq (a:=Value.none) (by first|rfl|(simp only[firstArgMember];rfl)) ?_);calc fw ?_ qo;simp only[raiseNew];refine ac (wpAny_handled ?_)
 first|rw[show A.in1.handled=none from I]|rw[I]
 calc ac (am (wpAny_throw ?_));show q _ _ (((Heap.SameBut.update ..).extBut.push _).push _) ⟨_,aI _ rK,rK⟩
end
section
variable {X:Cx}{ak:AH}{σ:St}{H:Hp}{s:Shared}{h':Heap}
def aP.Fe {t':Nat}{fp:List Addr}(I:aP X ak σ H s)(k:∀b o,b∉fp->s.heap.get? b=some o->h'.get? b=some o)(D:∀b∈fp,uV X ak H b):aP X ak σ H {s with heap:=h',toks:=t' }:=by
 let Y:∀b u,H b=some u->b∉fp:=λb u e z=>by rw[(D b z).1]at e;cases e
 refine I.step (g':=s.gens) (d':=s.drawn) (ch:=fp) (λb hb=>?_) (λb o _ _ j e _=>k b o j e) (λb o _ _ j e _=>⟨o.slots,k b o j e⟩) (λ_ _ _ _ n=>n)
  (λb o j e=>⟨o,k b o j e⟩) (λ_ _ e=>e) (λ_ _ _ e=>e) (λb ps e=>⟨#[],by rw[e];simp⟩) (λm hm=>?_) (λb u e=>?_) I.bare
 .let⟨f0,f1,f2,f3,f4,f5⟩:=D b hb;show⟨f3,f1,f4,f5⟩
 .let⟨o,es,ep,F,r⟩:=hm;show JE o es ep ⟨k _ o (λz=>(D _ z).2.1 rK) F,r⟩
 .refine(I.hok b u e).stay (λc v j q=>k c v ?_ q) (λ_ q=>q) λ_ _ q=>q
  rcases j with z|z;.rw[z];show Y b u e
  .show Y c _ z
def aP.pair {e it:Addr}{i tk:Nat}{x:V}{u:Value}{h1 h2:Heap}(I:aP X ak σ H s)(F:∀b∈[e,it],uV X ak H b)(le:e<s.heap.objs.size)(li:it<s.heap.objs.size)(rx:cB x u)(hT:h1.get? s.heap.objs.size=some {cls:=.type "tuple",data:=.seq #[.int i tk,u]})(G:∀b o,b≠e->b≠it->s.heap.get? b=some o->h1.get? b=some o)(hs:Heap.SameBut e h1 h2):aP X ak σ (upd H s.heap.objs.size (.tup [.int i,x])) {s with heap:=h2,toks:=tk+1}/\∀b∈[e,it],upd H s.heap.objs.size (.tup [.int i,x]) b=none:=by
 let Z:aP X ak σ (upd H s.heap.objs.size (.tup [.int i,x])) {s with heap:=s.heap.push {cls:=.type "tuple",data:=.seq #[.int i tk,u]},toks:=tk+1}:=I.laid (λb v e=>ae _ e) (al _) ⟨zsz 2,[.int i tk,u],.cons ⟨tk,rK⟩ (.cons rx .nil),⟨_,aI _ rK,rK,_,rK⟩⟩
 let ne:∀b∈[e,it],b≠s.heap.objs.size:=λb hb=>by
  rcases bq.mp hb with z|z;.rw[z];show b8 le
  .rw[a_.mp z];show b8 li
 let fr:∀b∈[e,it],upd H s.heap.objs.size (.tup [.int i,x]) b=none:=λb hb=>by rw[aV (ne b hb)];show(F b hb).1
 let J:=aP.Fe (s:={s with heap:=s.heap.push {cls:=.type "tuple",data:=.seq #[.int i tk,u]},toks:=tk+1}) (h':=h2) (fp:=[e,it]) (t':=tk+1) Z (λb o hb g=>?_) λb hb=>?_
 .show⟨J,fr⟩
 .let j:b≠e:=λz=>hb (by simp[z])
  let D:b≠it:=λz=>hb (by simp[z]);rw[hs.2 b j];rcases Heap.get?_push_cases g with⟨O,Y⟩|z
  .rw[O,Y];show hT
  .show G b o j D z
 .let⟨f0,f1,f2,f3,f4,f5⟩:=F b hb;show⟨fr b hb,f1,f2,f3,f4,f5⟩
end
def Qw (l:List Nat):It:=⟨λi _=>i<l.length,λi H v H'=>∃T c,H T=none/\v=.ref T/\l[i]?=some c/\H'=upd H T (.tup [.int i,.str (S [c])]),λi _=>l.length<=i⟩
section
variable {prog:Program}{w:World}{A:Around}{E:AE}{s:Shared}
def T6 {it:Addr}{fp:List Addr}{n:Nat}{I:Nat->Value->Prop}{St:Nat->Heap->Prop}(D:Draws prog w A it fp n I St)(k:Nat):Draws prog w A it fp (k+n) (λj v=>∃i,j=k+i/\I i v) (λj h=>∃i,j=k+i/\St i h) where
 live:=λj h ⟨i,_,st⟩=>D.live i h st
 frame:=λj h h' ⟨i,e,st⟩ J=>⟨i,e,D.frame i h h' st J⟩
 item:=λj s Q E Z ⟨i,e,st⟩ O=>by subst e;show D.item i s Q E (by simp_all) st λv h' tk hp G F=>O v h' tk ⟨i,rK,hp⟩ ⟨i+1,rK,G⟩ F
 done:=λs Q E ⟨i,e,st⟩ Y=>by
  have:i=n:=by lia
  subst this;show D.done s Q E st Y
end
def Xm (l:List Nat)(k:Nat):It:=⟨λi _=>i<l.length,λi H v H'=>∃T c,H T=none/\v=.ref T/\l[i]?=some c/\H'=upd H T (.tup [.int ((k+i:Nat):Int),.str (S [c])]),λi _=>l.length<=i⟩
def Xn {P:Program}{w:World}{K:W.Frag}{elts:List Expr}{x1}{pos:Pos}{ty:String}(J:ty="str_ascii_iterator"\/ty="str_iterator")(l:List Nat)(k:Nat)(t:Tok)(it e:Addr):Turn P w K (.Tuple elts x1 pos) (Xm l k) [e,it] e (λi h=>e≠it/\i<=l.length/\(∃j,IsEnum h e it ((k+i:Nat):Int) j)/\h.IsStrIter it ty (S l) t i) where
 mem:=by simp
 obj:=λi h st b hb=>by
  obtain⟨_,_,⟨j,G⟩,o,Y,_,hd⟩:=st;rcases bq.mp hb with z|z;.show⟨_,by rw[z];show G,λv y=>by cases y⟩
  .show⟨o,by rw[a_.mp z];show Y,λv y=>by rw[hd]at y;cases y⟩
 keep:=λi h h' st k=>by obtain⟨n,le,⟨j,G⟩,o,Y,r⟩:=st;show⟨n,le,⟨j,k e qa _ G⟩,o,k it qa o Y,r⟩
 item:=by
  intro X hP hw hK hc i ak s σ H E I hf st hg;subst hP hw hK;obtain⟨ne,le,⟨j,G⟩,hs⟩:=st;let Z:X.A.in1.handled=none:=by simp[I.ok.hd hc]
  let hg':k+i<k+(S l).cps.size:=Nat.add_lt_add_left hg k;let fin:∀(D:Draws X.prog X.w X.A.in1 it [it] (S l).cps.size (λi v=>∃c u,(S l).cps[i]?=some c/\v=.str ⟨#[c]⟩ u) (λi h=>h.IsStrIter it ty (S l) t i)),
    wpAny (model X.prog X.w) X.A (pyNext (.ref e)) (λr s1=>∃u,r=some u/\wpAny (model X.prog X.w) X.A (letOwnedTupleGo (.Tuple elts x1 pos) (.ref e) u) (λ_ s2=>∃x H',aP X ak σ H' s2/\cB x u/\(Xm l k).Im i H x H'/\(e≠it/\i+1<=l.length/\(∃j,IsEnum s2.heap e it ((k+(i+1):Nat):Int) j)/\s2.heap.IsStrIter it ty (S l) t (i+1))/\∀b∈[e,it],H' b=none) E s1) E s:=by
   intro D;calc wpAny_pyNext_enum_itemD (T6 D k) G ⟨i,rK,hs⟩ hg' ne (by simp[ne]) λx h' tk hP Y F hT hsz hk=>?_;let⟨i',ei,c,u,hc',rfl⟩:=hP;let⟨i'',ei2,F⟩:=F;obtain rfl:i'=i:=by lia
   obtain rfl:i''=i'+1:=by lia
   calc⟨_,rK,wpAny_letOwnedTupleGo_enum Y λh2 he2 O=>?_⟩;let⟨o,ho2,r2⟩:=F;let⟨oi,hoi,_⟩:=id hs;let⟨I3,fr⟩:=aP.pair (i:=k+i') (x:=.str (S [c])) I hf (ax G) (ax hoi) ⟨u,rK⟩ hT hk O;refine JA (.ref s.heap.objs.size) _ ⟨I3,rK,(JA s.heap.objs.size c ⟨I.hok.fresh (al _),rK,by simpa [S] using hc',rK⟩),⟨ne,hg,⟨_,by simpa [Int.add_assoc] using he2⟩,o,(O.2 it (gI ne)).trans ho2,r2⟩,fr⟩
  rcases J with rfl|rfl;.show fin (Draws.strAscii Z it (S l) t)
  .show fin (Draws.strWide Z it (S l) t)
 done:=by
  intro X hP hw hK hc i ak s σ H E I hf st hg;subst hP hw hK;obtain⟨ne,le,⟨j,G⟩,hs⟩:=st;let Z:X.A.in1.handled=none:=by simp[I.ok.hd hc]
  let hi:i=(S l).cps.size:=Nat.le_antisymm le hg;let F:=hs;rw[hi]at F;let⟨f0,f1,f2,f3,f4,f5⟩:=hf it qa;rcases J with rfl|rfl
  .show wpAny_pyNext_enum_endD (Draws.strAscii Z it (S l) t) G F λh' eb=>⟨rK,I.turned (t':=s.toks) (λb o hb e=>eb b o hb e) f0 f1 f3 f4 f5⟩
  .show wpAny_pyNext_enum_endD (Draws.strWide Z it (S l) t) G F λh' eb=>⟨rK,I.turned (t':=s.toks) (λb o hb e=>eb b o hb e) f0 f1 f3 f4 f5⟩
 self:=λA i s Q E st h=>by obtain⟨_,_,⟨j,G⟩,_⟩:=st;show wpAny_pyIter_enum G h
def Xo {K:W.Frag}{elts:List Expr}{x1}{ty:String}(D:ty="str_ascii_iterator"\/ty="str_iterator")(l:List Nat)(t:Tok)(it e:Addr):Turn P w K (.Tuple elts x1 pos) (Qw l) [e,it] e (λi h=>e≠it/\i<=l.length/\(∃j,IsEnum h e it i j)/\h.IsStrIter it ty (S l) t i):=by
 let h:=Xn (P:=P) (w:=w) (K:=K) (elts:=elts) (x1:=x1) (pos:=pos) D l 0 t it e;let e1:Xm l 0=Qw l:=by unfold Xm Qw;simp only[Nat.zero_add]
 simp only[Nat.zero_add]at h;rw[e1]at h;show h
section
variable {X:Cx}{elts:List Expr}{x1:Nat}{tp:Pos}
def agU (ta:TA):TI:=λσ H R=>ta σ H λvs H1=>∃l,vs=[.str (S l)]/\R (Qw l) H1
def ab2 (Y:Gl X "enumerate")(hm:X.mg "enumerate"=none)(ha:QA X [a] ta)(hs:starEach [a] X.env=[(false,eval a X.env)]:=by rfl):QI X (.Tuple elts x1 tp) (.Call (.Name "enumerate" p) [a] [] pos) (agU ta):=⟨by
 intro ak s σ H R I h;calc Call_ (qU I Y hm boot_enumerate (ee (b_ (ha.out pos ak s σ H _ I h) λus s1 O=>?_) hs rK));let⟨vs,H1,j,r1,q1⟩:=O;let⟨l,e,q⟩:=q1;subst e;cases r1 with
 | cons r rr=>
  cases rr;let⟨t,rfl⟩:=r;let D:strIterType (S l)="str_ascii_iterator"\/strIterType (S l)="str_iterator":=by unfold strIterType;split <;> simp
  calc call_enumerate_str λh' G F hsz J=>wpAny_pyIter_enum G ?_;calc JJ (s1.heap.objs.size+1) [s1.heap.objs.size+1,s1.heap.objs.size] _ _ H1 ⟨rK,j.kept (t':=s1.toks) J,Xo D l t s1.heap.objs.size _,⟨Nat.succ_ne_self _,ej _,⟨_,G⟩,F⟩,λb hb=>?_,q⟩;rcases bq.mp hb with z|z
  .rw[z];show j.yD (kL _) (j.hok.fresh (kL _))
  .rw[a_.mp z];show j.yD (al _) (j.hok.fresh (al _))⟩
def Qx (hc:X.calm=true):iI X (.builtin "any") (λxs H Q=>∃(p:Addr) (bs:List Bool),xs=[.ref p]/\bC X.K H p (bs.map V.bl)/\Q (.bl (bs.any id)) H):=by
 intro ak s σ H xs us Q I r h;let⟨p,bs,rfl,hq,q⟩:=h;let⟨u,rfl,O⟩:=vals1 r;cases O;let⟨its,Z,pl,hz⟩:=I.list hq;let G:p≠s.heap.objs.size:=by let⟨o,ho,_⟩:=pl.isList;show b8 (ax ho)
 let hb:∀(i:Nat) (v:Value),its[i]?=some v->v=.bool (bs.getD i false):=λi v j=>by
  let J:=Z.length;let hi:i<bs.length:=by have:=(ah.mp j).1;simp at J;simp_all
  let⟨u,hu,O⟩:=Z.get (i:=i) (x:=.bl bs[i]) (by simp[hi]);rw[j]at hu;cases hu;cases O;simp[List.getD,hi]
 calc call_any_walk (io pl.isList ?_);refine JP s.heap.objs.size _ _ _ _ _ (λi=>bs.getD i false) ⟨rK,Walks.list (A:=X.A.in1) (I.ok.hd hc) s.heap.objs.size p G its.toArray,⟨⟨_,aI _ rK,rK,rK⟩,pl.isList.at λo e=>ae _ e⟩,?_,λh' tk kk=>?_⟩
 .intro i v s' Q' E' j D;let e:=hb i v (by simpa using j);subst e;show eh D
 .let I1:aP X ak σ H {s with heap:=h',toks:=tk}:=I.kept λb o e=>kk b o (by
   intro hm;have:b=s.heap.objs.size:=by simpa using hm
   subst this;show absurd (ax e) (fk _)) (ae _ e)
  calc JA (.bl (bs.any id)) H ⟨I1,?_,q⟩;show Value.bool _=Value.bool _;let J:its.toArray.size=bs.length:=by have:=Z.length;simp at this;simp[this]
  rw[J];congr 1;let Y:∀bs:List Bool,(List.range bs.length).any (λi=>bs.getD i false)=bs.any id:=λbs=>by
   rw[hV,List.any_eq_true,List.any_eq_true];constructor
   .intro z;let⟨i,hi,h⟩:=z;let F:=gS.mp hi;show⟨bs[i],a9 _,by simpa [List.getD,F] using h⟩
   .intro z;let⟨x,hx,h⟩:=z;let⟨i,hi,rfl⟩:=ir.mp hx;show⟨i,gS.mpr hi,by simpa [List.getD,hi] using h⟩
  show Y bs
end
def O_ {h h':Heap}(x:h.IsTuple a g)(k:∀o,h.get? a=some o->h'.get? a=some o):h'.IsTuple a g:=let ⟨o,e,r⟩:=x;⟨o,k o e,r⟩
structure ZA (z ti to u v a b:Addr):Prop where
 q1:ti≠z
 q2:to≠z
 q3:u≠z
 q4:v≠z
 q5:ti≠to
 q6:ti≠u
 q7:ti≠v
 q8:to≠u
 q9:to≠v
 p1:u≠v
 p2:a≠z
 p3:a≠to
 p4:a≠u
 p5:a≠v
 p6:b≠z
 p7:b≠to
 p8:b≠u
 p9:b≠v
section
variable {prog:Program}{w:World}{A:Around}{E:AE}{s:Shared}{z ti to u v a b:Addr}{i:Nat}{f g:Array Value}{x y m n:Value}
def Z6 {Q:AE}(D:ZA z ti to u v a b)(hz:IsZip s.heap z ti to .none)(hi:IsPair s.heap ti (.ref u) (.ref v))(ho:IsPair s.heap to m n)(hu:s.heap.IsTupleIter u a i)(hv:s.heap.IsTupleIter v b i)(ha:s.heap.IsTuple a f)(hb:s.heap.IsTuple b g)(hx:f[i]?=some x)(hy:g[i]?=some y)(q:∀h',IsZip h' z ti to (rawInt s.heap.objs.size)->IsPair h' to x y->h'.IsTupleIter u a (i+1)->h'.IsTupleIter v b (i+1)->IsPair h' s.heap.objs.size x y->
   (∀c o,c≠z->c≠to->c≠u->c≠v->s.heap.get? c=some o->h'.get? c=some o)->Q (.ref s.heap.objs.size) {s with heap:=h' }) :
  wpAny (model prog w) A (Builtin.«zip.__next__» ⟨[.ref z],[]⟩) (λZ s'=>∃r,Z=.done (.ret r)/\Q r s') E s:=by
 show wpAny _ _ (field (.ref z) 2 >>= _) _ _ _;calc ac (cS hz rK (x:=.bool false) rK ?_);show wpAny _ _ (field (.ref z) 3 >>= _) _ _ _;calc ac (cS hz rK (x:=.ref ti) rK (ac (eJ hi rK ?_)));show wpAny _ _ (Builtin.SmallTypes.ownedTupleIsFree (.ref z) >>= _) _ _ _;calc ac ?_;unfold Builtin.SmallTypes.ownedTupleIsFree;calc ac (cS hz rK (x:=.none) rK (am ?_));simp only[if_true];calc ac (kD (ac (cS hz rK (x:=.ref to) rK (ac (e_ hz qa λg1 O k1=>?_)))));replace O:IsZip g1 z ti to .ellipsis:=O;calc ac ?_;simp only[mw,nB,fE,lp];calc ac (ac (jb ?_));show wpAny _ _ (Builtin.SmallTypes.nextOf (.ref u) >>= _) _ _ _;calc ac (Qv (hu.at λo e=>k1.extBut _ o D.q3 e) (O_ ha λo e=>k1.extBut _ o D.p2 e) hx λg2 u2 k2=>am ?_);let o2:IsPair g2 to m n:=k2.extBut _ _ D.q8 (k1.extBut _ _ D.q2 ho);calc ac (eJ o2 rK (ac (iA o2 λg3 J k3=>?_)));replace J:IsPair g3 to x n:=J;calc ac (me (am ?_));calc ac (ac (jb ?_));show wpAny _ _ (Builtin.SmallTypes.nextOf (.ref v) >>= _) _ _ _;calc ac (Qv (hv.at λo e=>k3.extBut _ o D.q9.symm (k2.extBut _ o D.p1.symm (k1.extBut _ o D.q4 e))) (O_ hb λo e=>k3.extBut _ o D.p7 (k2.extBut _ o D.p8 (k1.extBut _ o D.p6 e))) hy λg4 v4 k4=>am ?_);let o4:IsPair g4 to x n:=k4.extBut _ _ D.q9 J;calc ac (eJ o4 rK (ac (iA o4 λj F k5=>?_)));replace F:IsPair j to x y:=F;calc ac (me (am (am ?_)));calc ac (eJ F rK (ac (wpAny_newTuple ?_)));let sz:j.objs.size=s.heap.objs.size:=by rw[k5.1,k4.1,k3.1,k2.1,k1.1]
 let z5:IsZip j z ti to .ellipsis:=k5.extBut _ _ D.q2.symm (k4.extBut _ _ D.q4.symm (k3.extBut _ _ D.q2.symm (k2.extBut _ _ D.q3.symm O)));let kk:∀c o,c≠z->c≠to->c≠u->c≠v->s.heap.get? c=some o->j.get? c=some o:=λc o c1 c2 c3 c4 e=>k5.extBut _ _ c2 (k4.extBut _ _ c4 (k3.extBut _ _ c2 (k2.extBut _ _ c3 (k1.extBut _ _ c1 e))));let u5:j.IsTupleIter u a (i+1):=u2.at λo e=>k5.extBut _ o D.q8.symm (k4.extBut _ o D.p1 (k3.extBut _ o D.q8.symm e));let v5:j.IsTupleIter v b (i+1):=v4.at λo e=>k5.extBut _ o D.q9.symm e;let lz:z<j.objs.size:=ax z5;show wpAny _ _ (Builtin.SmallTypes.ownedTupleHandOut (.ref z) (.ref j.objs.size) >>= _) _ _ _;calc ac ?_;unfold Builtin.SmallTypes.ownedTupleHandOut;let z6:IsZip (j.push {cls:=.type "tuple",data:=.seq #[x,y]}) z ti to .ellipsis:=ae _ z5;refine ac (e_ z6 qa λg7 Y k7=>?_)
 replace Y:IsZip g7 z ti to (rawInt j.objs.size):=Y;refine e_ Y qa λI G k8=>?_
 replace G:IsZip I z ti to (rawInt j.objs.size):=G;let up:∀c o,c≠z->j.get? c=some o->I.get? c=some o:=λc o c1 e=>k8.extBut _ _ c1 (k7.extBut _ _ c1 (ae _ e));let t8:IsPair I j.objs.size x y:=k8.extBut _ _ (gt lz) (k7.extBut _ _ (gt lz) (aI _ rK));rw[sz]at G t8;calc am ⟨_,rK,?_⟩;show Q (.ref j.objs.size) _;rw[sz];show q I G (up _ _ D.q2 F) (u5.at λo e=>up _ o D.q3 e) (v5.at λo e=>up _ o D.q4 e) t8 λc o c1 c2 c3 c4 e=>up c o c1 (kk c o c1 c2 c3 c4 e)
def ab3 (J:A.handled=none)(D:ZA z ti to u v a b)(hz:IsZip s.heap z ti to .none)(hi:IsPair s.heap ti (.ref u) (.ref v))(I:s.heap.IsTupleIter u a i)(ha:s.heap.IsTuple a f)(hx:f[i]?=none)(q:∀h' e,(∀c o,c≠z->c≠to->c≠u->c≠v->s.heap.get? c=some o->h'.get? c=some o)->(∃o,h'.get? e=some o/\o.cls=.type "StopIteration")->E (.ref e) {s with heap:=h' }):wpAny (model prog w) A (Builtin.«zip.__next__» ⟨[.ref z],[]⟩) Q E s:=by
 show wpAny _ _ (field (.ref z) 2 >>= _) _ _ _;calc ac (cS hz rK (x:=.bool false) rK ?_);show wpAny _ _ (field (.ref z) 3 >>= _) _ _ _;calc ac (cS hz rK (x:=.ref ti) rK (ac (eJ hi rK ?_)));show wpAny _ _ (Builtin.SmallTypes.ownedTupleIsFree (.ref z) >>= _) _ _ _;calc ac ?_;unfold Builtin.SmallTypes.ownedTupleIsFree;calc ac (cS hz rK (x:=.none) rK (am ?_));simp only[if_true];calc ac (kD (ac (cS hz rK (x:=.ref to) rK (ac (e_ hz qa λY j k1=>?_)))));replace j:IsZip Y z ti to .ellipsis:=j;calc ac ?_;simp only[mw,nB,fE,lp];calc ac (ac (jb ?_));show wpAny _ _ (Builtin.SmallTypes.nextOf (.ref u) >>= _) _ _ _;calc ac (aew J (I.at λo e=>k1.extBut _ o D.q3 e) (O_ ha λo e=>k1.extBut _ o D.p2 e) hx λg2 e k2 G=>?_);let⟨oe,e1,e2⟩:=G;let F:IsZip g2 z ti to .ellipsis:=k2 _ _ D.q3.symm j;let Z:e≠z:=λt=>by subst t;rw[F]at e1;cases e1;simp at e2
 show e_ F qa λO _ k3=>q O e (λc o c1 _ c3 _ t=>k3.extBut _ _ c1 (k2 _ _ c3 (k1.extBut _ _ c1 t))) ⟨oe,k3.extBut _ _ Z e1,e2⟩
abbrev zP1 (h:Heap)(a:Addr):Heap:=h.push {cls:=.type "tuple_iterator",data:=.fields #[.ref a,.int 0 0]}
abbrev zP2 (h:Heap)(a b:Addr):Heap:=(zP1 h a).push {cls:=.type "tuple_iterator",data:=.fields #[.ref b,.int 0 0]}
abbrev zP3 (h:Heap)(a b:Addr):Heap:=(zP2 h a b).push {cls:=.type "tuple",data:=.seq #[.ref h.objs.size,.ref (zP1 h a).objs.size]}
abbrev zP4 (h:Heap)(a b:Addr):Heap:=(zP3 h a b).push {cls:=.type "tuple",data:=.seq #[.none,.none]}
abbrev Vo (h:Heap)(a b:Addr):Heap:=(zP4 h a b).push {cls:=.type "zip",data:=.fields #[.none,.bool false,.bool false,.ref (zP2 h a b).objs.size,.ref (zP3 h a b).objs.size]}
def agV (a b)(f g):Meets (Builtin.«zip.__new__» ⟨[.type "zip",.ref a,.ref b],[]⟩) (λ_ R s=>s.heap.IsTuple a f/\s.heap.IsTuple b g/\R (.ok (.ret (.ref (zP4 s.heap a b).objs.size))) {s with heap:=Vo s.heap a b}):=
 .of_wp λprog w A R s h=>by
  let⟨hp,j,d,tk,os⟩:=s;let⟨h1,h2,h⟩:=h;let D:=sub_zip;let j1:Heap.IsTuple (Shared.heap ⟨hp,j,d,tk,os⟩) a f:=h1;let j2:Heap.IsTuple (Shared.heap ⟨hp.push {cls:=.type "tuple_iterator",data:=.fields #[.ref a,.int 0 0]},j,d,tk,os⟩) b g:=O_ h2 λo e=>ae _ e
  wp_walk using kS j1,kS j2
  show⟨_,rK,h⟩
def ajo (ha:s.heap.IsTuple a f)(hb:s.heap.IsTuple b g)(q:∀h',IsZip h' (s.heap.objs.size+4) (s.heap.objs.size+2) (s.heap.objs.size+3) .none->IsPair h' (s.heap.objs.size+2) (.ref s.heap.objs.size) (.ref (s.heap.objs.size+1))->IsPair h' (s.heap.objs.size+3) .none .none->
   h'.IsTupleIter s.heap.objs.size a 0->h'.IsTupleIter (s.heap.objs.size+1) b 0->(∀c o,s.heap.get? c=some o->h'.get? c=some o)->Q (.ref (s.heap.objs.size+4)) {s with heap:=h' }) :
  wpAny (model prog w) A (call (.type "zip") [.ref a,.ref b]) Q E s:=by
 calc callType_new F.called_zip qc (F.typeCall_zip_2 _ _) (F.newCall_zip_2 _ _) (λobj=>F.args_object_init_3 obj _ _) F.entry_zip_new (agV a b f g) ⟨ha,hb,?_⟩;let n1:(zP1 s.heap a).objs.size=s.heap.objs.size+1:=dE ..;let D:(zP2 s.heap a b).objs.size=s.heap.objs.size+2:=by rw[dE,n1]
 let j:(zP3 s.heap a b).objs.size=s.heap.objs.size+3:=by rw[dE,D]
 let n4:(zP4 s.heap a b).objs.size=s.heap.objs.size+4:=by rw[dE,j]
 let e5:(Vo s.heap a b).get? (zP4 s.heap a b).objs.size=some _:=aI _ rfl;let e4:(Vo s.heap a b).get? (zP3 s.heap a b).objs.size=some _:=ae _ (aI _ rK);let e3:(Vo s.heap a b).get? (zP2 s.heap a b).objs.size=some _:=ae _ (ae _ (aI _ rK));let e2:(Vo s.heap a b).get? (zP1 s.heap a).objs.size=some _:=ae _ (ae _ (ae _ (aI _ rK)));let e1:(Vo s.heap a b).get? s.heap.objs.size=some _:=ae _ (ae _ (ae _ (ae _ (aI _ rK))));show _/\_;rw[D,j,n4]at e5;rw[n1,D]at e3;rw[j]at e4;rw[n1]at e2;rw[n4];show⟨⟨_,e5,rK⟩,q _ e5 e3 e4 ⟨_,e1,rK,rK⟩ ⟨_,e2,rK,rK⟩ λc o t=>ae _ (ae _ (ae _ (ae _ (ae _ t))))⟩
end
section
variable {X:Cx}{ak:AH}{σ:St}{H:Hp}{s:Shared}
def aP.adI {fp:List Addr}{tk:Nat}{x y:V}{p q:Value}{h2:Heap}(I:aP X ak σ H s)(j:∀b∈fp,uV X ak H b)(lt:∀b∈fp,b<s.heap.objs.size)(Z:cB x p)(F:cB y q)(hT:h2.get? s.heap.objs.size=some {cls:=.type "tuple",data:=.seq #[p,q]})(D:∀b o,b∉fp->s.heap.get? b=some o->h2.get? b=some o):aP X ak σ (upd H s.heap.objs.size (.tup [x,y])) {s with heap:=h2,toks:=tk}/\∀b∈fp,upd H s.heap.objs.size (.tup [x,y]) b=none:=by
 let Y:aP X ak σ (upd H s.heap.objs.size (.tup [x,y])) {s with heap:=s.heap.push {cls:=.type "tuple",data:=.seq #[p,q]},toks:=tk}:=I.laid (λb v e=>ae _ e) (al _) ⟨zsz 2,[p,q],.cons Z (.cons F .nil),⟨_,aI _ rK,rK,_,rK⟩⟩
 let fr:∀b∈fp,upd H s.heap.objs.size (.tup [x,y]) b=none:=λb hb=>by rw[aV (b8 (lt b hb))];show(j b hb).1
 let G:=aP.Fe (s:={s with heap:=s.heap.push {cls:=.type "tuple",data:=.seq #[p,q]},toks:=tk}) (h':=h2) (fp:=fp) (t':=tk) Y (λb o hb g=>?_) λb hb=>?_
 .show⟨G,fr⟩
 .rcases Heap.get?_push_cases g with⟨J,O⟩|z;.rw[J,O];show hT
  .show D b o hb z
 .let⟨f0,f1,f2,f3,f4,f5⟩:=j b hb;show⟨fr b hb,f1,f2,f3,f4,f5⟩
end
def Z7 (K:W.Frag)(a b:Addr):It:=⟨λi H=>∃xs ys x y,aN K H a xs/\aN K H b ys/\xs[i]?=some x/\ys[i]?=some y,λi H t H'=>∃T x y,H T=none/\t=.ref T/\(∀xs,aN K H a xs->xs[i]?=some x)/\(∀ys,aN K H b ys->ys[i]?=some y)/\H'=upd H T (.tup [x,y]),λi H=>∃xs,aN K H a xs/\xs.length<=i⟩
def ab4 {P:Program}{w:World}{K:W.Frag}{elts:List Expr}{x1:Nat}{pos:Pos}{z ti to u v a b:Addr}(D:ZA z ti to u v a b):Turn P w K (.Tuple elts x1 pos) (Z7 K a b) [z,ti,to,u,v] z (λi h=>IsZip h z ti to .none/\IsPair h ti (.ref u) (.ref v)/\(∃m n,IsPair h to m n)/\h.IsTupleIter u a i/\h.IsTupleIter v b i) where
 mem:=by simp
 obj:=λi h st c j=>by
  obtain⟨h1,h2,⟨m,n,h3⟩,⟨o4,h4,_,d4⟩,⟨o5,h5,_,d5⟩⟩:=st;simp only[bq,fi,or_false]at j;rcases j with e|e|e|e|e <;> subst e
  .show⟨_,h1,λv y=>by cases y⟩
  .show⟨_,h2,λv y=>by cases y⟩
  .show⟨_,h3,λv y=>by cases y⟩
  .show⟨o4,h4,λv y=>by rw[d4]at y;cases y⟩
  .show⟨o5,h5,λv y=>by rw[d5]at y;cases y⟩
 keep:=λi h h' st k=>by obtain⟨h1,h2,⟨m,n,h3⟩,h4,h5⟩:=st;show⟨k z qa _ h1,k ti qa _ h2,(JA m n (k to qa _ h3)),h4.at λo e=>k u qa o e,h5.at λo e=>k v qa o e⟩
 item:=by
  intro X hP hw hK j i ak s σ H E I hf st Z;subst hP hw hK;obtain⟨h1,h2,⟨m,n,h3⟩,h4,h5⟩:=st;let⟨xs,ys,x,y,F,J,hx,hy⟩:=Z;let⟨fs,rf,pf,_⟩:=I.tuple F;let⟨gs,rg,pg,_⟩:=I.tuple J;let⟨p,ep,rp⟩:=rf.get hx;let⟨q,eq,rq⟩:=rg.get hy;let lt:∀c∈[z,ti,to,u,v],c<s.heap.objs.size:=λc j=>by
   simp only[bq,fi,or_false]at j;rcases j with e|e|e|e|e <;> subst e
   .show ax h1
   .show ax h2
   .show ax h3
   .let⟨o,e,_⟩:=h4;show ax e
   .let⟨o,e,_⟩:=h5;show ax e
  let O:s.TypeIs (.ref z) "zip":=⟨_,h1,rK⟩
  unfold pyNext;calc ac (om (eI (name:=Str.ofString "__next__") O gy (fb gy O mx ?_ (lT _))));calc Z6 D h1 h2 h3 h4 h5 (show s.heap.IsTuple a fs.toArray from pf) (show s.heap.IsTuple b gs.toArray from pg) (x:=p) (y:=q) (by simpa using ep) (by simpa using eq) λh' k1 k2 k3 k4 k5 k6=>am ?_;calc⟨_,rK,wpAny_letOwnedTupleGo_zip k1 λY e2 G=>?_⟩;let up:∀c o,c∉[z,ti,to,u,v]->s.heap.get? c=some o->Y.get? c=some o:=λc o j e=>by simp only[bq,fi,or_false,not_or]at j;show G.extBut _ _ j.1 (k6 c o j.1 j.2.2.1 j.2.2.2.1 j.2.2.2.2 e)
  let nz:s.heap.objs.size≠z:=gt (lt z qa);let⟨I3,fr⟩:=aP.adI (tk:=s.toks) I hf lt rp rq (G.extBut _ _ nz k5) up;show JA (.ref s.heap.objs.size) _ ⟨I3,rK,(JE s.heap.objs.size x y ⟨I.hok.fresh (al _),rK,λzs hz=>by rw[I.Cj hz F];show hx,λzs hz=>by rw[I.Cj hz J];show hy,rK⟩),
   ⟨e2,G.extBut _ _ D.q1 (k6 _ _ D.q1 D.q5 D.q6 D.q7 h2),(JA _ _ (G.extBut _ _ D.q2 k2)),k3.at λo e=>G.extBut _ o D.q3 e,k4.at λo e=>G.extBut _ o D.q4 e⟩,fr⟩
 done:=by
  intro X hP hw hK j i ak s σ H E I hf st Z;subst hP hw hK;obtain⟨h1,h2,⟨m,n,h3⟩,h4,h5⟩:=st;let⟨xs,F,hl⟩:=Z;let⟨fs,rf,pf,_⟩:=I.tuple F;let cU:=rf.length;let hh:X.A.in1.handled=none:=by simp[I.ok.hd j]
  let O:s.TypeIs (.ref z) "zip":=⟨_,h1,rK⟩
  unfold pyNext;calc ac (om (eI (name:=Str.ofString "__next__") O gy (fb gy O mx ?_ (lT _))));calc ab3 hh D h1 h2 h4 (show s.heap.IsTuple a fs.toArray from pf) (by simp;simp_all) λh' e k zz=>?_;let⟨o,e1,e2⟩:=zz;calc ac (mo (T:="StopIteration") (b:=true) ⟨o,e1,e2⟩ isSubtype_stop ?_);calc am ⟨rK,aP.Fe (fp:=[z,ti,to,u,v]) (t':=s.toks) I (λc o j e=>?_) hf⟩;simp only[bq,fi,or_false,not_or]at j;show k c o j.1 j.2.2.1 j.2.2.2.1 j.2.2.2.2 e
 self:=λA i s Q E st h=>my st.1 h
section
variable {X:Cx}{elts:List Expr}{x1:Nat}{tp:Pos}
def M_:bootBuiltins "zip"=some (.type "zip"):=by decide +kernel
def ajp (K:W.Frag)(ta:TA):TI:=λσ H R=>ta σ H λvs H1=>∃a b,vs=[.ref a,.ref b]/\(∃xs,aN K H1 a xs)/\(∃ys,aN K H1 b ys)/\R (Z7 K a b) H1
def agW {a b:Expr}{ta:TA}{p pos:Pos}(hg:Gl X "zip")(hm:X.mg "zip"=none)(ha:QA X [a,b] ta)(hs:starEach [a,b] X.env=[(false,eval a X.env),(false,eval b X.env)]:=by rfl)(J:starEach [b] X.env=[(false,eval b X.env)]:=by rfl):QI X (.Tuple elts x1 tp) (.Call (.Name "zip" p) [a,b] [] pos) (ajp X.K ta):=⟨by
 intro ak s σ H R I h;calc Call_ (qU I hg hm M_ (ee (b_ (ha.out pos ak s σ H _ I h) λus s1 zz=>?_) (by rw[hs,J]) (by rw[J];rfl)));let⟨vs,H1,F,r1,q1⟩:=zz;obtain⟨a,b,e,⟨xs,Z⟩,⟨ys,O⟩,q⟩:=q1;subst e;cases r1 with
 | cons r rr=>
  cases rr with
  | cons r' rr=>
   cases rr;cases r;cases r';let⟨fs,rf,pf,_⟩:=F.tuple Z;let⟨gs,rg,pg,_⟩:=F.tuple O;let la:a<s1.heap.objs.size:=by
    let⟨o,Y,_⟩:=(show s1.heap.IsTuple a fs.toArray from pf)
    show ax Y
   let lb:b<s1.heap.objs.size:=by
    let⟨o,Y,_⟩:=(show s1.heap.IsTuple b gs.toArray from pg)
    show ax Y
   calc ajo (show s1.heap.IsTuple a fs.toArray from pf) (show s1.heap.IsTuple b gs.toArray from pg) λh' k1 k2 k3 k4 k5 kk=>my k1 ?_;let D:ZA (s1.heap.objs.size+4) (s1.heap.objs.size+2) (s1.heap.objs.size+3) s1.heap.objs.size (s1.heap.objs.size+1) a b:=by
    let j:∀N a b:Nat,a<N->b<N->ZA (N+4) (N+2) (N+3) N (N+1) a b:=λN a b la lb=>by constructor <;> (show (_:Nat)≠_) <;> lia
    show j _ _ _ la lb
   calc JJ (s1.heap.objs.size+4) [s1.heap.objs.size+4,s1.heap.objs.size+2,s1.heap.objs.size+3,s1.heap.objs.size,s1.heap.objs.size+1] _ _ H1 ⟨rK,F.kept (t':=s1.toks) kk,ab4 D,⟨k1,k2,(JA _ _ k3),k4,k5⟩,λc hc=>?_,q⟩;let G:s1.heap.objs.size<=c:=by
    simp only[bq,fi,or_false]at hc;let j:∀N c:Nat,(c=N+4\/c=N+2\/c=N+3\/c=N\/c=N+1)->N<=c:=λN c h=>by lia
    show j _ _ hc
   show F.yD G (F.hok.fresh G)⟩
end
structure wB (B:Heap)(l:List Env)(e:Addr)(cls:Value)(dd:Option Addr)(fl:Value)(h:Heap):Prop where
 stays:B.StaysIn h
 new:B.get? e=none
 frames:h.FunFrames B l
 tr:∃oe vs T oT ts,h.get? e=some oe/\oe.cls=cls/\oe.dict=dd/\oe.data=.fields vs/\vs[1]?=some (.ref T)/\vs[2]?=some .none/\B.get? T=none/\T≠e/\h.get? T=some oT/\oT.data=.fields ts/\ts[3]?=some fl
def wB.outer (x:wB B (env::l) e cls dd fl h):wB B l e cls dd fl h:=⟨x.stays,x.new,x.frames.2.2,x.tr⟩
def Nb (o:Obj)(f):(o.mapFields f).dict=o.dict:=by let⟨c,d,j,sl⟩:=o;cases j <;> rfl
section
variable {M:Model}{A:Around}{E:AE}{s:Shared}{B:Heap}{env:Env}{outer l:List Env}{L e:Addr}{oe:Obj}{vs:Array Value}{head cls fl:Value}{dd:Option Addr}{hadNext:Bool}{Q:Unit->Shared->Prop}
def Je (J:A.frames=some (env::outer))(hl:s.heap.FunFrames B (env::outer))(hf:env.frame=some L)(I:s.heap.get? e=some oe)(kb:B.StaysIn s.heap)(en:B.get? e=none)(hd:oe.data=.fields vs)(hz:1<vs.size)(h2:vs[2]?=some .none)(h:∀h',wB B (env::outer) e oe.cls oe.dict (rawInt L) h'->s.heap.UpToSlots h'->Q () {s with heap:=h' }):wpAny M A (do let a <- frameOf env;let pl <- entryPlaceOf L hadNext;let b <- EntryCells.newEntry head a .none (rawInt L) .none pl;setField (.ref e) 1 b) Q E s:=by
 let out:e∉(env::outer).filterMap (·.frame):=λz=>by let⟨_,u,hu,j⟩:=hl.mem z;rw[I]at hu;cases hu;show j vs hd
 calc ac (wpAny_frameOf_fun J hl hf λg G=>ac (wpAny_entryPlaceOf λpl D=>?_));unfold EntryCells.newEntry newFields;calc ac (fw ?_ (D.sizeOk5 _ _ _ _ _));generalize hO:({cls:=.type "traceback",dict:=none,data:=.fields ([head,.ref L,.none,rawInt L,.none]++(if pl.isEmpty then List.replicate 6 Value.none else pl)).toArray}:Obj)=O;let Y:∃ts,O.data=.fields ts/\ts[3]?=some (rawInt L):=⟨_,by rw[<-hO],by first|(simp;done)|(rcases D with rfl|⟨_,_,_,_,_,_,_,rfl⟩ <;> simp)⟩
 let Z:g.get? e=some oe:=(G.2.1 e out).trans I;let gB:B.StaysIn g:=λb o q=>(G.2.1 b λz=>by rw[(hl.mem z).1]at q;cases q).trans (kb b o q);let Te:g.objs.size≠e:=gt (ax Z);let pe:(g.push O).get? e=some oe:=ae O Z;let⟨ts,F,h3⟩:=Y;let pT:(g.push O).get? g.objs.size=some O:=aI g (ie F);let mv:∀b o,b≠e->g.get? b=some o->((g.push O).update e (Obj.mapFields (·.setIfInBounds 1 (Value.ref g.objs.size)))).get? b=some o:=λb o nb q=>(fo _ _ (gI nb)).trans (ae O q)
 let nr:∀b o,s.heap.get? b=some o->(∀vs,o.data≠.fields vs)->b≠e:=λb o q j z=>by rw[z,I]at q;cases q;show j vs hd
 refine iL pe hd hz (h _ ⟨λb o q=>mv b o (λz=>by rw[z,en]at q;cases q) (gB b o q),en,hl.of_keeps λb o q j=>?_,?_⟩ λb o q j=>?_)
 .let⟨sl,z⟩:=G.2.2 b o q;show⟨_,mv b _ (nr b o q j) z,rK⟩
 .let dd:=jI hd (·.setIfInBounds 1 (Value.ref g.objs.size));refine JJ _ _ g.objs.size O ts ⟨gm _ pe (ie dd),oB _ _,Nb _ _,dd,by simp[hz],by rw[iX qc];show h2,gB.fresh,Te,(fo _ _ (gI Te)).trans pT,F,h3⟩
 .let⟨sl,z⟩:=G.2.2 b o q;show⟨sl,mv b _ (nr b o q j) z⟩
def vC (x:wB B l e cls dd fl s.heap)(h:∀h',wB B l e cls dd .none h'->s.heap.UpToSlots h'->Q () {s with heap:=h' }):wpAny M A (setFlight (.ref e) none) Q E s:=by
 let⟨st,en,fr,oe,vs,T,oT,ts,I,hc,F,hd,h1,h2,Y,Z,G,j,h3⟩:=x;let O:3<ts.size:=(gf.mp h3).1;let mv:∀b,b≠T->(s.heap.update T (Obj.mapFields (·.setIfInBounds 3 ((none:Option Addr).elim Value.none λf=>rawInt f)))).get? b=s.heap.get? b:=λb nb=>fo _ _ (gI nb);let nr:∀b o,s.heap.get? b=some o->(∀vs,o.data≠.fields vs)->b≠T:=λb o q D z=>by rw[z,G]at q;cases q;show D ts j
 unfold setFlight;calc ac (cS I hd h1 ?_);rw[if_pos (show (Value.ref T != Value.none)=true by simp)];calc iL G j O (h _ ⟨λb o q=>(mv b λz=>by rw[z,Y]at q;cases q).trans (st b o q),en,fr.of_keeps λb o q D=>⟨o,(mv b (nr b o q D)).trans q,rK⟩,?_⟩ λb o q D=>⟨o.slots,(mv b (nr b o q D)).trans q⟩);let J:=jI j (·.setIfInBounds 3 ((none:Option Addr).elim Value.none λf=>rawInt f));show JJ oe vs T _ _ ⟨(mv e (gI Z)).trans I,hc,F,hd,h1,h2,Y,Z,gm _ G (ie J),J,by simp[O]⟩
def ab5 (j:A.frames=some (env::outer))(hl:s.heap.FunFrames B (env::outer))(D:env.frame=some L)(F:s.heap.get? e=some oe)(G:B.StaysIn s.heap)(I:B.get? e=none)(hd:oe.data=.fields vs)(h1:vs[1]?=some .none)(h2:vs[2]?=some .none)(h:∀h',wB B (env::outer) e oe.cls oe.dict (rawInt L) h'->s.heap.UpToSlots h'->Q () {s with heap:=h' }):wpAny M A (noteFrame (.ref e) env) Q E s:=by unfold noteFrame;simp only[D];calc ac (cS F hd h1 ?_);rw[if_neg qc];show Je j hl D F G I hd (gf.mp h1).1 h2 h
def Vp (G:A.frames=some (env::outer))(O:env.frame=some L)(x:wB B (env::outer) e cls dd .none s.heap)(h:∀h',wB B (env::outer) e cls dd (rawInt L) h'->s.heap.UpToSlots h'->Q () {s with heap:=h' }):wpAny M A (noteFrame (.ref e) env) Q E s:=by
 let⟨st,Y,fr,oe,vs,T,oT,ts,J,hc,F,hd,h1,h2,Z,Te,I,j,h3⟩:=x;subst hc F;let mv:∀b,b≠T->(s.heap.update T (Obj.mapFields (·.setIfInBounds 3 Value.none))).get? b=s.heap.get? b:=λb nb=>fo _ _ (gI nb);let nr:∀b o,s.heap.get? b=some o->(∀vs,o.data≠.fields vs)->b≠T:=λb o q D z=>by rw[z,I]at q;cases q;show D ts j
 unfold noteFrame;simp only[O];calc ac (cS J hd h1 ?_);rw[if_pos (show (Value.ref T != Value.none)=true by simp)];calc ac (cS I j h3 ?_);rw[if_neg (show ¬((Value.none==rawInt L)=true) by simp[rawInt])];calc ac (iL I j (gf.mp h3).1 ?_);refine Je G (fr.of_keeps λb o q D=>⟨o,(mv b (nr b o q D)).trans q,rK⟩) O ((mv e (gI Te)).trans J) (λb o q=>(mv b λz=>by rw[z,Z]at q;cases q).trans (st b o q)) Y hd (gf.mp h1).1 h2
  λh' y k=>h h' y λb o q D=>k b o ((mv b (nr b o q D)).trans q) D
def leave_new (j:A.frames=some (env::outer))(hl:s.heap.FunFrames B (env::outer))(G:env.frame=some L)(F:s.heap.get? e=some oe)(D:B.StaysIn s.heap)(I:B.get? e=none)(hd:oe.data=.fields vs)(h1:vs[1]?=some .none)(h2:vs[2]?=some .none)(h:∀h',wB B outer e oe.cls oe.dict .none h'->s.heap.UpToSlots h'->Q () {s with heap:=h' }):wpAny M A (leaving env (.ref e)) Q E s:=by unfold leaving;show ac (ab5 j hl G F D I hd h1 h2 λh1 x k=>vC x λh2 y k2=>h h2 y.outer (k.trans k2))
def ab6 (j:A.frames=some (env::outer))(D:env.frame=some L)(x:wB B (env::outer) e cls dd .none s.heap)(h:∀h',wB B outer e cls dd .none h'->s.heap.UpToSlots h'->Q () {s with heap:=h' }):wpAny M A (leaving env (.ref e)) Q E s:=by unfold leaving;show ac (Vp j D x λh1 x k=>vC x λh2 y k2=>h h2 y.outer (k.trans k2))
end
def fV.there (x:fV P w H h a o):∃u,h.get? a=some u:=by
 cases o with
 | lst xs=>let⟨_,_,_,_,e⟩:=x;show⟨_,e⟩
 | tup xs=>let⟨_,_,_,_,e,_⟩:=x;show⟨_,e⟩
 | dK kvs=>let⟨_,_,_,_,o,_,_,e,_⟩:=x;show⟨_,e⟩
 | dT kvs=>let⟨_,_,_,_,o,_,_,e,_⟩:=x;show⟨_,e⟩
 | set S n=>let⟨o,_,_,_,e,_⟩:=x;show⟨_,e⟩
 | ins C dx fs=>let⟨_,_,_,e,_⟩:=x;show⟨_,e⟩
 | own y=>show x
 | xd fs=>obtain⟨_,⟨_,_,_,e,_⟩,_⟩:=x;show⟨_,e⟩
 | rng lo hi=>let⟨_,_,_,e⟩:=x;show⟨_,e⟩
 | pU ob u=>let⟨e,_⟩:=x;show⟨_,e⟩
 | L_ ps=>show⟨_,(show h.get? a=some _ from x)⟩
 | met f y=>show⟨_,(show h.get? a=some _ from x)⟩
 | ext φ=>let⟨_,e,_⟩:=x;show e
structure Z8 (P:Program)(w:World)(outer:List Env)(H:Hp)(s:Shared)(a:Addr)(cls:Value)(dd:Option Addr)(H':Hp)(s':Shared)(B:Heap):Prop where
 os:s'.os=s.os
 bare:AllBare s'.gens
 un:Un (frs outer) [] H H' s.heap s'.heap
 hok:j8 P w H' s'.heap
 fly:wB B outer a cls dd .none s'.heap
 na:H' a=none
 Ma:∀b u,H' b=some u->∃o,B.get? b=some o
 kp:∀b o,s.heap.get? b=some o->b∉frs outer->H b=none->B.get? b=some o
 th:∀b o,s.heap.get? b=some o->b∉frs outer->∃o',B.get? b=some o'
noncomputable def CK (P:Program)(w:World):uH:=λouter H s E e s'=>∃(a:Addr) (cls:Value) (dd:Option Addr) (H':Hp) (B:Heap),e=.ref a/\Z8 P w outer H s a cls dd H' s' B/\E cls dd H'
section
variable {X:Cx}{ak:AH}{σ:St}{H1 H':Hp}{s1 s2:Shared}{e:Addr}{oe:Obj}{vs:Array Value}{Q:Unit->Shared->Prop}{E:AE}{cls:Value}{dd:Option Addr}{B:Heap}
def aP.Jf (I:aP X ak σ H1 s1)(q:X.s₀.heap.get? b=some o)(nb:b∉frs X.outer):b∉frs X.stack:=λz=>by
 rcases bq.mp (I.Ik b z) with z|z;.show absurd (cE (ax q) I.ok.above) (by rw[z];show fk _)
 .show nb z
def aP.ab7 (I:aP X ak σ H1 s1)(z:b∈frs X.outer):b∈frs X.stack:=by
 rcases I.ok.stk with e|⟨e,j⟩;.rw[e];show z
 .rw[e];unfold frs;rw[kN,j];show bE _ z
def aP.raised (I:aP X ak σ H1 s1)(G:X.stack=X.env::X.outer)(hf:X.env.frame=some X.env.locals)(hex:X.ex=[])(Y:s1.heap.get? e=some oe)(hd:oe.data=.fields vs)(h1:vs[1]?=some .none)(h2:vs[2]?=some .none)(ne:H1 e=none)(O:∀b o,X.s₀.heap.get? b=some o->b≠e)(q:∀s2 B,Z8 X.prog X.w X.outer X.H₀ X.s₀ e oe.cls oe.dict H1 s2 B->Q () s2):wpAny (model X.prog X.w) X.A (leaving X.env (.ref e)) Q E s1:=by
 let Z:X.A.frames=some (X.env::X.outer):=by rw[<-G];show I.ok.frames
 let hl:s1.heap.FunFrames (hideAll s1.heap (e::frs X.stack)) (X.env::X.outer):=by rw[<-G];show funFrames_hide I.stack λenv Y b hb=>bE _ (nS.mpr ⟨env,Y,hb⟩)
 let D:∀b:Addr,b∉X.ex:=λb=>by rw[hex];simp
 calc leave_new Z hl hf Y (λb o z=>of_hideAll _ z) (hideAll_none _ (.head _)) hd h1 h2 λh' x k=>q _ (hideAll s1.heap (e::frs X.stack)) ?_;let F:∀b o,s1.heap.get? b=some o->b≠e->b∉frs X.stack->(hideAll s1.heap (e::frs X.stack)).get? b=some o:=λb o z n1 n2=>hideAll_get _ z λm=>by
  rcases bq.mp m with m|m;.show n1 m
  .show n2 m
 let kF:∀b o,s1.heap.get? b=some o->b∈frs X.stack->∃sl,h'.get? b=some {o with slots:=sl}:=λb o z m=>by let⟨_,u,hu,nf⟩:=I.stack.mem m;rw[z]at hu;cases hu;show k b _ z nf
 let kT:∀b u,H1 b=some u->∀o,s1.heap.get? b=some o->(hideAll s1.heap (e::frs X.stack)).get? b=some o:=λb u t o z=>F b o z (λm=>by rw[m,ne]at t;cases t) λm=>by rw[I.yZ b m]at t;cases t
 calc⟨I.os,I.bare,⟨λb o z n hb _=>?_,λb o z n hb _=>?_,λb o z n _=>I.base.free b o z n (D b),λb o z _=>?_,I.base.tups,I.base.qz,I.base.qT⟩,λb o t=>?_,x,ne,λb u t=>?_,λb o z hb n=>?_,λb o z hb=>?_⟩;.show x.stays b o (F b o (I.base.keep b o z n hb (D b)) (O b o z) (I.Jf z hb))
 .let⟨sl,e1⟩:=I.base.slot b o z n hb (D b);let⟨J,e2⟩:=kF b _ e1 (I.ab7 hb);show⟨J,e2⟩
 .let⟨j,e1⟩:=I.base.there b o z (D b);by_cases m:b∈frs X.stack
  .let⟨J,e2⟩:=kF b _ e1 m;show⟨_,e2⟩
  .show⟨j,x.stays b j (F b j e1 (O b o z) m)⟩
 .refine(I.hok b o t).stay (λc u hc z=>x.stays c u ?_) (λ_ r=>r) λ_ _ r=>r
  rcases hc with rfl|hc;.show kT c _ t u z
  .show kT c _ hc u z
 .let⟨o,z⟩:=(I.hok b u t).there;show⟨o,kT b u t o z⟩
 .show F b o (I.base.keep b o z n hb (D b)) (O b o z) (I.Jf z hb)
 .let⟨j,e1⟩:=I.base.there b o z (D b);show⟨j,F b j e1 (O b o z) (I.Jf z hb)⟩
def aP.passed (I:aP X ak σ H1 s1)(D:X.stack=X.env::X.outer)(hf:X.env.frame=some X.env.locals)(J:X.ex=[])(x:Z8 X.prog X.w X.stack H1 s1 e cls dd H' s2 B)(q:∀s3,Z8 X.prog X.w X.outer X.H₀ X.s₀ e cls dd H' s3 B->Q () s3):wpAny (model X.prog X.w) X.A (leaving X.env (.ref e)) Q E s2:=by
 let F:X.A.frames=some (X.env::X.outer):=by rw[<-D];show I.ok.frames
 let j:∀b:Addr,b∉X.ex:=λb=>by rw[J];simp
 let n0:∀b:Addr,b∉([]:List Addr):=λb=>by simp
 calc ab6 F hf (by rw[<-D];show x.fly) λh' y k=>q _ ?_;let kp:∀b o,X.s₀.heap.get? b=some o->b∉frs X.outer->X.H₀ b=none->B.get? b=some o:=λb o z hb n=>x.kp b o (I.base.keep b o z n hb (j b)) (I.Jf z hb) (I.base.free b o z n (j b));let th:∀b o,X.s₀.heap.get? b=some o->b∉frs X.outer->∃o',B.get? b=some o':=λb o z hb=>by let⟨G,e1⟩:=I.base.there b o z (j b);show x.th b G e1 (I.Jf z hb)
 let Z:∀b o,X.s₀.heap.get? b=some o->b∈frs X.outer->∃sl,h'.get? b=some {o with slots:=sl}:=λb o z m=>by let⟨sl,e1⟩:=I.base.slot b o z (I.ok.Ci b m) m (j b);let⟨sl2,e2⟩:=x.un.slot b _ e1 (I.yZ b (I.ab7 m)) (I.ab7 m) (n0 b);let⟨_,u,Y,nf⟩:=I.ok.pP.mem m;rw[z]at Y;cases Y;let⟨Jg,e3⟩:=k b _ e2 nf;show⟨Jg,e3⟩
 refine⟨x.os.trans I.os,x.bare,⟨λb o z n hb _=>y.stays b o (kp b o z hb n),λb o z n hb _=>Z b o z hb,λb o z n _=>?_,λb o z _=>?_,λb xs t=>x.un.tups b xs (I.base.tups b xs t),λb o u t=>x.un.qz b o u (I.base.qz b o u t),λb ps t=>?_⟩,λb o t=>?_,y,x.na,x.Ma,kp,th⟩
 .let⟨G,e1⟩:=I.base.there b o z (j b);show x.un.free b G e1 (I.base.free b o z n (j b)) (n0 b)
 .by_cases m:b∈frs X.outer
  .let⟨sl,e3⟩:=Z b o z m;show⟨_,e3⟩
  .let⟨o',e1⟩:=th b o z m;show⟨o',y.stays b o' e1⟩
 .let⟨m1,e1⟩:=I.base.qT b ps t;let⟨m2,e2⟩:=x.un.qT b _ e1;show⟨m1++m2,by rw[e2,Array.append_assoc]⟩
 .refine(x.hok b o t).stay (λc u O z=>?_) (λ_ r=>r) λ_ _ r=>r
  have:∃v,H' c=some v:=by
   rcases O with rfl|O;.show⟨_,t⟩
   .show⟨_,O⟩
  let⟨v,hv⟩:=this;let⟨o',hB⟩:=x.Ma c v hv;have:=x.fly.stays c o' hB;rw[z]at this;cases this;show y.stays c u hB
end
def Lets (X:Cx)(E:XK):Prop:=∀(ak:AH) (σ:St) (H:Hp) (s:Shared) (e:Addr) (oe:Obj) (vs:Array Value),aP X ak σ H s->s.heap.get? e=some oe->oe.data=.fields vs->vs[1]?=some .none->vs[2]?=some .none->H e=none->
 (∀b o,X.s₀.heap.get? b=some o->b≠e)->E oe.cls oe.dict H->X.xe (.ref e) s
section
variable {P:Program}{w:World}{K:W.Frag}{mg:Str->Option Value}{base:Heap}{N:List Str}{qual:Str}{scope:Scope}{f:Addr}{cd:Value}{A:Around}{outer:List Env}{s:Shared}{H:Hp}{E:XK}
def qL:Lets (sY (CK P w) P w K mg base N qual scope f cd A outer s H E) E:=λak σ H1 s1 e oe vs I j hd h1 h2 ne D q=>I.raised rK rK rK j hd h1 h2 ne D λs2 B x=>(JJ e _ _ _ B ⟨rK,x,q⟩)
def vV:Passes (CK P w) (sY (CK P w) P w K mg base N qual scope f cd A outer s H E) E:=λak σ H1 s1 e s2 I ⟨a,cls,dd,H',B,z,x,q⟩=>by subst z;show I.passed rK rK rK x λj y=>(JJ a cls dd H' B ⟨rK,y,q⟩)
end
structure DefX (P:Program)(w:World)(K:W.Frag)(mg:Str->Option Value)(base:Heap)(name:Str)(k:Nat)(ps:List Str)(sp:Sp):Prop where
 ex:∃f fd,bW P w K mg base (CK P w) k f fd ps sp/\bK K fd ps []/\mg name=some (.ref f)/\W.keepIn K (.ref f)=true
def d7.z_ {K:W.Frag}{mg:Str->Option Value}{x qual:Str}{st:Stmt}{N ps:List Str}{k:Nat}{sp:Sp}(F:d7 K x qual st f fd)(S:aZ N ps (aH st))(len:∀vs H Q E,sp vs H Q E->vs.length=ps.length)(j:∀(bH:Value) (A:Around) (outer:List Env) (s:Shared) (H:Hp) (vs:List V) (Q:VK) (E:XK),fK k (A.deeper (envOfC qual (aH st) s.heap.objs.size f bH))->sp vs H Q E->
   ∃t,xH (sY (CK P w) P w K mg base N qual (aH st) f bH A outer s H E) (cM st) t/\t {nx:=λ_ H'=>Q .non H',rt:=Q} (start N vs) H):bW P w K mg base (CK P w) (k+1) f fd ps sp:=by
 let⟨oc,od,kV,doc,pm,an,bH,ct,osl,rfl,J,D⟩:=F.ex;calc ady J D S len λA outer s H vs Q E I G=>?_;let⟨t,h,q⟩:=j bH A outer s H vs Q E I G;show⟨t,h.out,q⟩
def aM.z_ {K:W.Frag}{mg:Str->Option Value}{name:Str}{st:Stmt}{N ps:List Str}{k:Nat}{sp:Sp}(D:aM K mg name st ps)(S:aZ N ps (aH st))(len:∀vs H Q E,sp vs H Q E->vs.length=ps.length)(j:∀(f:Addr) (bH:Value) (A:Around) (outer:List Env) (s:Shared) (H:Hp) (vs:List V) (Q:VK) (E:XK),fK k (A.deeper (envOfC name (aH st) s.heap.objs.size f bH))->sp vs H Q E->
   ∃t,xH (sY (CK P w) P w K mg base N name (aH st) f bH A outer s H E) (cM st) t/\t {nx:=λ_ H'=>Q .non H',rt:=Q} (start N vs) H):DefX P w K mg base name (k+1) ps sp:=by
 let⟨f,fd,F,b,g⟩:=D.ex;show⟨f,fd,F.z_ S len (j f),b,g,F.kp⟩
def zu (CX:uH)(X:Cx)(E:XK)(S:St->Prop):Prop:=∀(ak:AH) (σ:St) (H:Hp) (s:Shared) (e:Value) (s':Shared),aP X ak σ H s->S σ->CX X.stack H s E e s'->X.xe e s'
def Passes.all (h:Passes CX X E):zu CX X E λ_=>True:=λak σ H s e s' I _ q=>h ak σ H s e s' I q
def agX (sp:Sp)(E:XK)(S:St->Prop)(t:TA):TE:=λσ H Q=>S σ/\t σ H λvs H1=>sp vs H1 Q E
section
variable {X:Cx}{k:Nat}{f:Addr}{fd:FuncData}{ps:List Str}{sp:Sp}{E:XK}{S:St->Prop}{x:Str}{p pos:Pos}{e:Expr}{es:List Expr}{t:TA}
def ou (D:DefX X.prog X.w X.K X.mg X.base x k ps sp)(hr:fK k X.A)(hg:Gl X x)(hx:zu (CK X.prog X.w) X E S)(ha:QA X (e::es) t)(O:(x==("__debug__":Str))=false:=by decide)(hs:starEach (e::es) X.env=(false,eval e X.env)::starEach es X.env:=by rfl)(J:(backTo pos (starEach es X.env)).any (·.1)=false:=by rfl):QE X (.Call (.Name x p) (e::es) [] pos) (agX sp E S t):=⟨by
 let⟨f,fd,F,hb,hm,Z⟩:=D.ex;intro ak s σ H Q I h;let⟨hS,h⟩:=h;calc g9 (o8 I hg hm ?_ O);calc jp (h₀:=X.base) I.ok.mod.Ij Z (b_ (ha.out pos ak s σ H _ I h) λus s1 ⟨vs,H1,j,r,q⟩=>⟨j.iZ,?_⟩) hs J;let hl:us.length=ps.length:=by rw[<-r.length];show F.len _ _ _ _ q
 let Y:=hb s1 us j.iZ (by rw[ia];show hl);rw[ia]at Y;calc lm (kU (F.run X.A X.stack s1 H1 ⟨us,[]⟩ us vs Q E hr j.env0 Y r q) λr s' G=>?_);cases r with
 | error e=>show hx ak σ H1 s1 e s' j hS G
 | ok fl=>
  cases fl with
  | ret u=>show j.after G
  | next=>show False.elim G
  | brk=>show False.elim G
  | cont=>show False.elim G⟩
end
def aex {K:W.Frag}(X:K.In h)(q:excIn K C bmB newId=true):∃bm N nm q bs hdct sn sub ab col dd k0 k1 k2 k3 k5 mN,h.get? C=some (excClassObj nm q C N bs bm hdct sn sub ab col dd k0 k1 k2 k3 k5 newId)/\h.Ns N mN/\mN "__init__"=none/\OwnTail h bmB bm:=by
 unfold excIn at q;split at q
 .next dd cd sl ho=>
  split at q
  .next C' bm k0 k1 k2 k3 n k5 hm hs=>
   simp only[bX,beq_iff_eq,Bool.not_eq_true']at q;obtain⟨⟨⟨⟨⟨e1,e2⟩,j⟩,ht⟩,hok⟩,D⟩:=q;subst e1 e2;let⟨nm,bs,mro,ns,I,hd,sn,sub,ab,col,G⟩:=cd;dsimp only at hm j hok D;subst hm j;let F:sl=#[k0,k1,k2,k3,some (.builtin n),k5]:=by cases sl;simp only at hs;rw[hs]
   subst F;show JS bm ns nm I bs hd sn sub ⟨ab,col,dd,k0,k1,k2,k3,k5,_,X _ _ ho,.of_isNs (isNs_of_in X hok),nsMap_none_of_in X hok D,tail_of_in X ht⟩
  .cases q
 .cases q
abbrev j5:List Value:=[.type "ValueError",.type "Exception",.type "BaseException",.type "object"]
def agY (C:Addr)(E:XK)(t:TA):TS:=λ_ σ H=>t σ H λvs H1=>vs.length<=sizeLine/\E (.ref C) none H1
section
variable {X:Cx}{C:Addr}{E:XK}{x:Str}{np cpos pos:Pos}{e:Expr}{es:List Expr}{t:TA}
def GZ (hl:Lets X E)(hc:X.calm=true)(Y:X.ex=[])(hg:Gl X x)(hm:X.mg x=some (.ref C))(hC:excIn X.K C j5 "ValueError.__new__"=true)(ha:QA X (e::es) t)(O:(x==("__debug__":Str))=false:=by decide)(hs:starEach (e::es) X.env=(false,eval e X.env)::starEach es X.env:=by rfl)(J:(backTo cpos (starEach es X.env)).any (·.1)=false:=by rfl):QS X (.Raise (some (.Call (.Name x np) (e::es) [] cpos)) none pos) (agY C E t):=⟨by
 intro ak s σ H D I h;let⟨tl,N,nm,q,bs,hdct,sn,sub,ab,col,dd,k0,k1,k2,k3,k5,mN,cC,cN,Z,T⟩:=aex I.ok.mod.Ij hC;let ar:=ha.out cpos ak s σ H _ I h;rw[hs]at ar;refine wpAny_Raise_call_subT (C:=C) (nm:=nm) (q:=q) (N:=N) (bs:=bs) (bm:=tl) (hdct:=hdct) (sn:=sn) (sub:=sub) (ab:=ab) (col:=col) (dd:=dd) (k0:=k0) (k1:=k1) (k2:=k2) (k3:=k3) (k5:=k5) gg (mN:=mN)
  (T.hasType gg.hasBase) (I.ok.hd hc) (by rw[hs];show (false||(backTo cpos (starEach es X.env)).any (·.1))=false;rw[J];rfl) Z (o8 I hg hm ⟨rK,?_⟩ O)
 rw[hs];calc gu (eK ar (λus s2 z=>?_) λ_ _ y=>y);let⟨vs,H1,j,r,hv,hE⟩:=z;calc⟨rK,by rw[<-r.length];show hv,j.bk _ _ cC,cN.keeps j.bk,T.keeps j.bk,λh' a hx=>?_⟩;let⟨tt,G,_,_⟩:=hx.there;refine hl ak σ H1 _ a _ _ (j.kept (t':=s2.toks) hx.keeps) G rK rK rK ?_ (λb o z y=>?_) hE
 .cases z:H1 a with| none=>rfl| some u=>let⟨o,F⟩:=(j.hok a u z).there;rw[hx.new]at F;cases F
 .let⟨o',F⟩:=j.base.there b o z (by rw[Y];simp);rw[y,hx.new]at F;cases F⟩
end
def agZ (a:Addr)(cls:Value)(dd:Option Addr):Heap->Prop:=λh=>∃oe vs,h.get? a=some oe/\oe.cls=cls/\oe.dict=dd/\oe.data=.fields vs/\vs[2]?=some .none
section
variable {X:Cx}{ak:AH}{σ:St}{H H':Hp}{s s':Shared}{a:Addr}{cls fl:Value}{dd:Option Addr}{B h3:Heap}
def aP.caught (I:aP X ak σ H s)(x:Z8 X.prog X.w X.stack H s a cls dd H' s' B)(y:wB B X.stack a cls dd fl h3)(k:s'.heap.UpToSlots h3):aP X ak σ (upd H' a (.ext (agZ a cls dd))) {s' with heap:=h3}:=by
 let n0:∀b:Addr,b∉([]:List Addr):=λb=>by simp
 let⟨oe,vs,T,oT,ts,G,D,J,hd,_,h2,_⟩:=y.tr;let O:∀b o,s.heap.get? b=some o->b∈frs X.stack->(∃sl,h3.get? b=some {o with slots:=sl})/\∀vs,o.data≠.fields vs:=λb o z m=>by let⟨_,u,Z,F⟩:=I.stack.mem m;rw[z]at Z;cases Z;let⟨sl2,e2⟩:=x.un.slot b _ z (I.yZ b m) m (n0 b);let⟨Jg,e3⟩:=k b _ e2 F;show⟨⟨Jg,e3⟩,F⟩
 let na:∀b o,s.heap.get? b=some o->b≠a:=λb o z m=>by
  by_cases hb:b∈frs X.stack
  .obtain⟨⟨sl,e3⟩,F⟩:=O b o z hb;rw[m,G]at e3;cases e3;show F vs hd
  .let⟨o',e'⟩:=x.th b o z hb;rw[m,y.new]at e';cases e'
 let j:∀b u,H' b=some u->b≠a:=λb u z m=>by rw[m,x.na]at z;cases z
 let Y:∀c u v,H' c=some v->s'.heap.get? c=some u->h3.get? c=some u:=λc u v t z=>by let⟨o',hB⟩:=x.Ma c v t;have:=x.fly.stays c o' hB;rw[z]at this;cases this;show y.stays c u hB
 refine I.call' (s':={s' with heap:=h3}) (ch:=[]) x.os ⟨λb o z n hb _=>y.stays b o (x.kp b o z hb n),λb o z n hb _=>(O b o z hb).1,λb o z n _=>?_,λb o z _=>?_,λb xs t=>?_,λb o u t=>?_,λb ps t=>?_⟩ (λb o t=>?_) x.bare λb z=>absurd z qa
 .rw[aV (na b o z)];show x.un.free b o z n (n0 b)
 .by_cases m:b∈frs X.stack
  .obtain⟨⟨sl,e3⟩,_⟩:=O b o z m;show⟨_,e3⟩
  .let⟨o',e1⟩:=x.th b o z m;show⟨o',y.stays b o' e1⟩
 .let t':=x.un.tups b xs t;rw[aV (j b _ t')];show t'
 .let t':=x.un.qz b o u t;rw[aV (j b _ t')];show t'
 .let⟨more,t'⟩:=x.un.qT b ps t;show⟨more,by rw[aV (j b _ t')];show t'⟩
 .by_cases hb:b=a
  .subst hb;rw[aq]at t;cases t;show⟨(JA oe vs ⟨G,D,J,hd,h2⟩),⟨oe,G⟩,λh h' ⟨oe,vs,e1,e2,e3,e4⟩ q=>(JA oe vs ⟨q oe e1,e2,e3,e4⟩)⟩
  .rw[aV hb]at t;refine(x.hok b o t).stay (λc u D z=>?_) (λc r=>by rw[aV (j c _ r)];show r) λc xs r=>by rw[aV (j c _ r)];show r
   rcases D with rfl|D;.show Y c u _ t z
   .show Y c u _ D z
end
abbrev Cx.tried (X:Cx)(pn:AH)(xe:AE):Cx:={X with pn:=pn,xe:=xe}
abbrev Cx.held (X:Cx)(a:Addr):Cx:={X with A:=X.A.mark (some (.ref a)),calm:=false,xe:=λ_ _=>False}
section
variable {X:Cx}{ak Il pn:AH}{σ:St}{H:Hp}{s:Shared}{xe:AE}{a:Addr}
def aP.tried (I:aP X ak σ H s)(xe:AE):aP (X.tried (X.pn++ak) xe) [] σ H s:=⟨⟨I.ok.mod,I.ok.kind,I.ok.glob,I.ok.blt,I.ok.above,I.ok.inj,I.ok.has,I.ok.cab,I.ok.hd,I.ok.frames,I.ok.stk,I.ok.Y4,I.ok.bs,I.ok.Bv,I.ok.Cg,I.ok.Gu,I.ok.pP,I.ok.Ci⟩,I.os,I.bare,I.base,I.loc,I.cell,I.free,I.nu,λp hp=>I.pin p (by simpa using hp),I.hok,I.len⟩
def aP.tG (I:aP (X.tried (X.pn++ak) xe) Il σ H s):aP X ak σ H s:=⟨⟨I.ok.mod,I.ok.kind,I.ok.glob,I.ok.blt,I.ok.above,I.ok.inj,I.ok.has,I.ok.cab,I.ok.hd,I.ok.frames,I.ok.stk,I.ok.Y4,I.ok.bs,I.ok.Bv,I.ok.Cg,I.ok.Gu,I.ok.pP,I.ok.Ci⟩,I.os,I.bare,I.base,I.loc,I.cell,I.free,I.nu,λp hp=>I.pin p (mM _ hp),I.hok,I.len⟩
def SP.tG (h:SP (X.tried (X.pn++ak) xe) Il D f s):SP X ak D f s:=by
 cases f with
 | next=>let⟨σ',H',I,q⟩:=h;show JA σ' H' ⟨I.tG,q⟩
 | brk=>let⟨σ',H',I,q⟩:=h;show JA σ' H' ⟨I.tG,q⟩
 | cont=>let⟨σ',H',I,q⟩:=h;show JA σ' H' ⟨I.tG,q⟩
 | ret u=>let⟨v,σ',H',I,r,q⟩:=h;show JE v σ' H' ⟨I.tG,r,q⟩
def aP.held (I:aP X ak σ H s)(a):aP (X.held a) ak σ H s:=⟨⟨I.ok.mod,I.ok.kind,I.ok.glob,I.ok.blt,I.ok.above,I.ok.inj,I.ok.has,I.ok.cab,(λz=>nomatch z),I.ok.frames,I.ok.stk,I.ok.Y4,I.ok.bs,I.ok.Bv,I.ok.Cg,I.ok.Gu,I.ok.pP,I.ok.Ci⟩,I.os,I.bare,I.base,I.loc,I.cell,I.free,I.nu,I.pin,I.hok,I.len⟩
def aP.Jh (I:aP (X.held a) ak σ H s)(ok:X.Ok):aP X ak σ H s:=⟨ok,I.os,I.bare,I.base,I.loc,I.cell,I.free,I.nu,I.pin,I.hok,I.len⟩
end
structure aiC (K:W.Frag)(C:Addr):Prop where
 cl:(clsIn K C).isSome=true
 ga:findIn K (.ref C) "__getattribute__"=some (some (.builtin "BaseException.__getattribute__"))
 gx:findIn K (.ref C) "__getattr__"=some none
 ha:findIn K (.ref C) "__class__"=some (some (.builtin "object.__class__"))
 hn:specialIn K (.builtin "object.__class__") "__get__"=some (some (.builtin "getset_descriptor.__get__"))
 ht:takesIn K (.builtin "object.__class__")=some true
 hm:mroIn K C (.type "object")=some true
 hb:mroIn K C (.type "BaseException")=some true
end L2
namespace HT
open PySem PySem.Spec PyProof.Rows
section
variable {prog:Program}{w:World}{A:Around}{E:AE}{s:Shared}
def FP {lo hi:Option Int}(ht:IsTup s.heap t items)(hs:s.heap.IsSliceOf sl vl vu .none)(pl:IsPart vl lo)(D:IsPart vu hi)(hw:cV items.size 0 lo=0/\cV items.size items.size hi=items.size)(h:Q (.ref t) s):wpAny (model prog w) A (getItem (.ref t) (.ref sl)) Q E s:=by
 let⟨F,h1,h2,h3⟩:=id hs;let ty:s.TypeIs (.ref sl) "slice":=⟨F,h1,h2⟩
 unfold getItem
 try with_reducible refine ik ?_
 first|refine ac (am ?_)|skip
 calc ac (wpAny_sequenceKey ht.typeIs qc (ac (eI (name:=Str.ofString "__getitem__") ht.typeIs fm (fb fm ht.typeIs entry_tuple_getitem ?_ (args_tuple_getitem _ _)))));show wpAny _ _ (Builtin.Tuple.tupleItemsOf (.ref t) >>= _) _ _ s;calc ac (tupleItemsOf_ ht (ac (wpAny_typeOf ty ?_)));rw[if_pos qc];calc ac (wj hs pl D ?_);let j:((((cV items.size 0 lo:Nat):Int)==0&&(1:Int)==1&&(cV items.size items.size hi-cV items.size 0 lo)==items.size)=true):=by rw[hw.1,hw.2];simp
 show wpAny _ _ (if (((cV items.size 0 lo:Nat):Int)==0&&(1:Int)==1&&(cV items.size items.size hi-cV items.size 0 lo)==items.size)=true then _ else _) _ _ s;rw[if_pos j];calc ac ?_;unfold Builtin.Tuple.tupleIsExact;calc ac (wpAny_typeOf ht.typeIs (am ?_));rw[if_pos qc];show ac (kD (am ⟨_,rK,am h⟩))
end
end HT
namespace L2
open PySem PySem.Spec PyProof.Rows PySem.W
section
variable {X:Cx}
def aiD (K:W.Frag):R2:=λx y H Q=>∃a b xs ys,x=.ref a/\y=.ref b/\aN K H a xs/\aN K H b ys/\xs.length+ys.length<=sizeLine/\(xs=[]->H b=some (.tup ys))/\(ys=[]->xs≠[]->H a=some (.tup xs))/\
 ∀p H',aB H H'->H' p=some (.tup (xs++ys))->Q (.ref p) H'
def vW:fZ X (binaryOp .Add) (aiD X.K):=by
 intro ak s σ H x y v u Q I rx ry h;let⟨a,b,xs,ys,rfl,rfl,ha,hb,hz,e1,e2,q⟩:=h;cases rx;cases ry;let⟨its,r1,p1,_⟩:=I.tuple ha;let⟨D,Y,p2,_⟩:=I.tuple hb;by_cases hx:xs=[]
 .let hi:its=[]:=r1.zj.mpr hx;obtain⟨⟨cls,dd,data,sl⟩,ho,hc,n,hd⟩:=id p1;obtain⟨⟨cls2,O,J,Z⟩,F,j,n2,G⟩:=id p2;simp only at hc hd j G;subst hc hd j G;show concat_meets ⟨_,ho,rK⟩ ⟨_,F,rK⟩ noFill_tuple_add seq_tuple_add ma ly (kX _ _)
   (tuple_addW0 a b its.toArray D.toArray n n2 dd O sl Z (by simp[hi])) ⟨ho,F,(JA (.ref b) H ⟨I,rK,q b H (aB.refl _) (by rw[hx];show e1 hx)⟩)⟩
 .refine HT.ad_ p1 p2 (λz=>hx (r1.zj.mp z)) (λz=>(JA (.ref a) H ⟨I,rK,?_⟩)) (λz=>?_) (by rw[<-r1.length,<-Y.length];show hz)
  .let hy:=Y.zj.mp z;show q a H (aB.refl _) (by rw[hy,ia];show e2 hy hx)
  .calc JA (.ref s.heap.objs.size) _ ⟨I.laid (t':=s.toks) (o:=.tup (xs++ys)) (λb ob q=>ae _ q) (al _) ?_,rK,q _ _ (aB.upd (I.hok.fresh (al _))) aq⟩;show⟨by rw[ay];show hz,_,r1.append Y,IsTup.new _ _⟩
def ajq (K:W.Frag):V->Option Int->Option Int->Hp->VK->Prop:=λx lo hi H Q=>∃a xs,x=.ref a/\H a=some (.tup xs)/\∀p H',aB H H'->H' p=some (.tup (gQ xs lo hi))->Q (.ref p) H'
def vX:Va X (ajq X.K):=by
 intro ak s σ H x v J G lo hi sl Q I F hs pl D h;let⟨a,xs,rfl,hx,q⟩:=h;cases F;let⟨its,r,ht,hz⟩:=I.tuple (aN.of hx);let j:its.toArray.size=xs.length:=by rw[bd];show r.length.symm
 calc JA ("tuple") _ ⟨fm.lookup,ht.typeIs,?_⟩;by_cases hw:HT.cV xs.length 0 lo=0/\HT.cV xs.length xs.length hi=xs.length
 .calc HT.FP ht hs pl D (by rw[j];show hw) (JA (.ref a) H ⟨I,rK,q a H (aB.refl _) ?_⟩);unfold gQ;rw[hw.1,hw.2];simpa using hx
 .calc HT.FN ht hs pl D (by rw[j];show hw) ?_ (by rw[j];show hz);rw[j];calc JA (.ref s.heap.objs.size) _ ⟨I.laid (t':=s.toks) (o:=.tup (gQ xs lo hi)) (λb ob q=>ae _ q) (al _) ?_,rK,q _ _ (aB.upd (I.hok.fresh (al _))) aq⟩;show⟨bP (Gb xs lo hi) hz,_,(r.drop (HT.cV xs.length 0 lo)).take (HT.cV xs.length xs.length hi-HT.cV xs.length 0 lo),IsTup.new _ _⟩
def wD:fillsNumberSlot (.type "tuple") "mul"=pure false:=PySem.fillsNumberSlot_seq (id:="tuple.__mul__") (r:=some (.builtin "tuple.__rmul__")) ke.lookup qi (by rw[typeLookup_type,builtinLookup_eq_fast];kernel_rfl) qi
def CN:seqRepeat? (.type "tuple")=pure (some (.builtin "tuple.__mul__")):=by unfold seqRepeat?;rw[PySem.seqSlot_of (T:="tuple") (name:="__mul__") (id:="tuple.__mul__") ke.lookup qi,PySem.seqSlot_of (T:="tuple") (name:="__rmul__") (id:="tuple.__rmul__") (by rw[typeLookup_type,builtinLookup_eq_fast];kernel_rfl) qi];rfl
def Ji (a)(t:Tok)(l)(items)(n)(dd)(sl):Meets (Builtin.«int.__rmul__» ⟨[.int a t,.ref l],[]⟩) (λ_ R s=>s.heap.get? l=some {cls:=.type "tuple",dict:=dd,data:=.seq items n,slots:=sl}/\R (.ok (.ret Value.notImplemented)) s):=
 .of_wp λprog w A R s h=>by
  let⟨hp,g,d,tk,os⟩:=s;let⟨hl,h⟩:=h
  wp_walk
  show⟨_,rK,h⟩
def Vq {α:Type}(n)(l:List α):(List.replicate n l).flatten.length=n*l.length:=by
 induction n with| zero=>simp| succ n ih=>rw[dC,fe,ay,ih,o0];lia
theorem Vr:∀(n:Nat) (a j:Array Value),List.foldl (λx1 D=>x1++D) j (List.replicate n a)=(j.toList++(List.replicate n a.toList).flatten).toArray
 | 0,a,j=>by simp
 | n+1,a,j=>by rw[dC,nv,Vr n a (j++a)];simp[dC]
def Nf (n:Nat)(a:Array Value):List.foldl (λx1 j=>x1++j) #[] (List.replicate n a)=((List.replicate n a.toList).flatten).toArray:=by rw[Vr];simp
def Xp (l)(j:Array Value)(n)(dd)(sl)(x)(u:Tok)(h0:¬j.isEmpty=true)(h1:2<=x)(h2:x<=100)(h3:j.size<=100):Meets (Builtin.«tuple.__mul__» ⟨[.ref l,.int x u],[]⟩) (λ_ R s=>s.heap.get? l=some {cls:=.type "tuple",dict:=dd,data:=.seq j n,slots:=sl}/\R (.ok (.ret (.ref s.heap.objs.size))) {s with heap:=s.heap.push {cls:=.type "tuple",data:=.seq (List.foldl (λx1 D=>x1++D) #[] (List.replicate x.toNat j))} }):=
 .of_wp λprog w A R s h=>by
  let⟨hp,g,d,tk,os⟩:=s;let⟨hl,h⟩:=h;let f1:=AutoSeq1.idx_int;let f2:=AutoSeq1.sub_tuple_tuple;let c1:(decide (x < -(2^63))||decide (x>=2^63))=false:=by simp;lia
  let c2:(j.isEmpty||x==1)=false:=by simp at h0;simp[h0];lia
  let c3:(decide (x<=0)||j.isEmpty)=false:=by simp at h0;simp[h0];show Int.le_of_lt h1
  wp_walk using jS hl
  rw[if_neg (by rw[c1];decide)]
  wp_walk using jS hl
  rw[if_neg (by rw[c2];decide)]
  try wp_walk using jS hl
  rw[if_neg (by rw[c3];decide)];let c4:(j.size:Int)*x<=10000:=lv (show (j.size:Int)<=100 by lia) h2 p_ p_
  try wp_walk using jS hl
  rw[if_neg p_]
  try wp_walk using jS hl
  rw[if_neg (by unfold Builtin.Tuple.tupleTooMany;simp[sizeLine];lia)];let hz:(List.foldl (λx1 D=>x1++D) #[] (List.replicate x.toNat j)).size<=sizeLine:=by rw[Nf,bd,Vq,fz];have:x.toNat*j.size<=100*100:=gp (by simp_all) h3;show bP this qc
  calc ac ?_;unfold Builtin.Tuple.tupleExact;calc fw ?_ hz;show am ⟨_,rK,h⟩
def aiE (K:W.Frag):R2:=λx y H Q=>∃a xs,∃n:Nat,x=.ref a/\y=.int n/\aN K H a xs/\xs≠[]/\2<=n/\n<=100/\xs.length<=100/\∀p,H p=none->Q (.ref p) (upd H p (.tup (List.replicate n xs).flatten))
theorem Qy (r:Vals xs us):∀n,Vals (List.replicate n xs).flatten (List.replicate n us).flatten
 | 0=>.nil
 | n+1=>by rw[dC,dC,fe,fe];show r.append (Qy r n)
def aey:fZ X (binaryOp .Mult) (aiE X.K):=by
 intro ak s σ H x y v u Q I O J h;let⟨a,xs,n,rfl,rfl,ha,hx,Y,D,F,q⟩:=h;cases O;let⟨tk,rfl⟩:=J;let⟨its,r1,p1,_⟩:=I.tuple ha;let hl:=r1.length;obtain⟨⟨cls,dd,data,sl⟩,j,G,m,hd⟩:=id p1;simp only at G hd;subst G hd;let h0:¬its.toArray.isEmpty=true:=λz=>hx (r1.zj.mp (by simpa using z));refine kQ (T:="tuple") (U:="int") qc ⟨_,j,rK⟩ (λs'=>typeIs_int s' _ _) wD PySem.F.fills_int_mul ko CN PySem.F.slot_int_index.lookup
  (call_meets ko (typeIs_int s _ _) PySem.F.entry_int_rmul (PySem.F.args_int_rmul_2 _ _) (Ji _ _ a its.toArray m dd sl) ⟨j,rK,⟨_,j,rK⟩,?_⟩)
 calc call_meets ke ⟨_,j,rK⟩ PySem.F.entry_tuple_mul (PySem.F.args_tuple_mul_2 _ _) (Xp a its.toArray m dd sl (n:Int) _ h0 p_ p_ (by rw[bd,<-hl];show F)) ⟨j,?_⟩;calc JA (.ref s.heap.objs.size) _ ⟨I.laid (t':=s.toks) (o:=.tup (List.replicate n xs).flatten) (λb ob q=>ae _ q) (al _) ?_,rK,q _ (I.hok.fresh (al _))⟩;refine⟨?_,(List.replicate n its).flatten,Qy r1 n,?_⟩
 .rw[Vq];have:n*xs.length<=100*100:=gp D F;show bP this qc
 .rw[Nf,show ((n:Int)).toNat=n from rK,show its.toArray.toList=its by simp];show IsTup.new _ _
end
def xK (K:Frag)(C fI:Addr):Bool:=match K.lookup C with
 | some ⟨.type "type",_,.cls cd,sl⟩=>(match cd.mro,sl.toList with
  | .ref D::tl,[_,_,_,_,some (.builtin n),_]=>(D==C)&&(n=="ValueError.__new__")&&(!cd.hasDel)&&(cd.hasDict&&(tailIn K j5 tl&&(nsOkIn K cd.ns&&(nsIn K cd.ns "__init__" == some (some (.ref fI))))))
  | _,_=>false)
 | _=>false
def ajr {K:Frag}(X:K.In h)(G:h.Ns N m)(e:nsIn K N n=some (some v)):m n=some v:=by
 let⟨o,es,ep,j,hd,_,D⟩:=G;unfold nsIn at e;split at e
 .next c0 d0 es0 n0 Ng q=>
  let z:=X _ _ q;rw[j]at z;cases z;cases hd;split at e
  .next en he=>cases e;rw[<-D];unfold nsFind findBy;rw[<-Array.find?_toList,he];rfl
  .split at e <;> cases e
 .cases e
def Ks {K:Frag}(X:K.In h)(q:xK K C fI=true):∃bm N nm q bs sn sub ab col dd k0 k1 k2 k3 k5 mN,h.get? C=some (excClassObj nm q C N bs bm true sn sub ab col dd k0 k1 k2 k3 k5 "ValueError.__new__")/\h.Ns N mN/\mN "__init__"=some (.ref fI)/\OwnTail h j5 bm:=by
 unfold xK at q;split at q
 .next dd cd sl ho=>
  split at q
  .next D tl k0 k1 k2 k3 n k5 hm hs=>rw[bX,bX,bX,bX,bX,bX,beq_iff_eq,beq_iff_eq,beq_iff_eq,Bool.not_eq_true']at q;obtain⟨⟨⟨e1,e2⟩,e3⟩,e4,ht,hok,hi⟩:=q;subst e1 e2;let⟨nm,bs,mro,ns,F,hd,sn,sub,ab,col,j⟩:=cd;dsimp only at hm e3 e4 hok hi;subst hm e3 e4;let⟨G⟩:=sl;dsimp only at hs;subst hs;show JS tl ns nm F bs sn sub ab ⟨col,dd,k0,k1,k2,k3,k5,_,X _ _ ho,.of_isNs (isNs_of_in X hok),ajr X (.of_isNs (isNs_of_in X hok)) hi,tail_of_in X ht⟩
  .cases q
 .cases q
section
variable {prog:Program}{w:World}{A:Around}{E:AE}{h:Heap}{g:Array GenState}{d:Drawn}{t:Nat}{os:OsState}
variable {nm q:Str}{C N fI:Addr}{bs bm:List Value}{sn:List Str}{sub:List Value}{ab:Bool}{col:Option Bool}{dd:Option Addr}{k0 k1 k2 k3 k5:Option Value}{oI:Obj}{mN:Str->Option Value}{rest:List Value}
abbrev newArgs (rest:List Value):Obj:={cls:=.type "tuple",data:=.seq rest.toArray}
abbrev newExc (C a:Addr):Obj:={cls:=.ref C,data:=.fields #[.ref a,.none,.none,.none,.bool false,.none]}
def Qz (T:OwnTail h j5 bm)(j:h.get? C=some (excClassObj nm q C N bs bm true sn sub ab col dd k0 k1 k2 k3 k5 "ValueError.__new__"))(hn:h.Ns N mN)(hi:mN "__init__"=some (.ref fI))(O:h.get? fI=some oI)(D:oI.cls=.type "function")(hz:rest.length<=sizeLine)(hq:wpAny (model prog w) A (call (.ref fI) (.ref (h.objs.size+1)::rest)) (λr s'=>r=.none/\Q (.done (.ret (.ref (h.objs.size+1)))) s') E ⟨(h.push (newArgs rest)).push (newExc C h.objs.size),g,d,t,os⟩):wpAny (model prog w) A (Builtin.«type.__call__» ⟨.ref C::rest,[]⟩) Q E ⟨h,g,d,t,os⟩:=by
 let F:=gg
 repeat (first|with_reducible refine iq j ?_|with_reducible refine wpAny_madeBy_exc j ?_|wp_step)
 calc codeAny_call_builtin_code (Code.quiet_builtin _ F.quiet) (wpAny_check_new_subT F T j (codeAny_exc_new_subT F T j ?_ hz));show wpAny _ _ _ _ _ _;let up:∀b o,h.get? b=some o->((h.push (newArgs rest)).push (newExc C h.objs.size)).get? b=some o:=λb o z=>ae _ (ae _ z);let I:=up _ _ j;let Z:=up _ _ O;let Y:=hn.keeps up;let J:=T.keeps up;let eX:((h.push (newArgs rest)).push (newExc C h.objs.size)).get? (h.objs.size+1)=some (newExc C h.objs.size):=by heap_get
 let G:(Value.ref C::bm).contains (.ref C)=true:=qa;unfold isInstance
 repeat (first|with_reducible refine iq eX ?_|(with_reducible calc wpAny_isSubtype_exc I ?_;rw[G])|wp_step)
 show wpAny _ _ (typeLookup (.ref C) "__init__") _ _ _;calc wpAny_typeLookup_tail I Y J F.mroIs F.init.lookup ?_;rw[hi];calc ik (ac ?_);unfold bindSpecial;calc ac (wpAny_typeOf (T:="function") ⟨_,Z,D⟩ ?_);rw[if_pos qc];calc am (ac (eK hq (λr s' z=>?_) λ_ _ y=>y));let⟨rfl,z⟩:=z
 wp_walk
 show z
def ab9 (T:OwnTail h j5 bm)(j:h.get? C=some (excClassObj nm q C N bs bm true sn sub ab col dd k0 k1 k2 k3 k5 "ValueError.__new__"))(hn:h.Ns N mN)(hi:mN "__init__"=some (.ref fI))(I:h.get? fI=some oI)(D:oI.cls=.type "function")(hz:rest.length<=sizeLine)(F:wpAny (model prog w) (A.under (.builtin "type.__call__" ⟨.ref C::rest,[]⟩)) (call (.ref fI) (.ref (h.objs.size+1)::rest)) (λr s'=>r=.none/\Q (.ref (h.objs.size+1)) s') E ⟨(h.push (newArgs rest)).push (newExc C h.objs.size),g,d,t,os⟩):wpAny (model prog w) A (call (.ref C) rest) Q E ⟨h,g,d,t,os⟩:=by
 let f1:=tc_lookup;let f2:=tc_bind (.ref C);let G:(⟨h,g,d,t,os⟩:Shared).TypeIs (.ref C) "type":=⟨_,j,rK⟩
 calc lm (codeAny_of_tree ?_);show wpAny _ _ (callAny (.ref C) _) _ _ _
 repeat (any_goals (first|assumption|with_reducible refine iq j ?_|wp_step))
 show⟨rK,codeAny_call_builtin_at (Code.quiet_builtin _ qi) entry_typeCall (wpAny_check_type_call_sub j (Qz T j hn hi I D hz F))⟩
end
section
variable {M:Model}{A:Around}{E:AE}{s:Shared}{env:Env}{x:Sem Value}{Q:Flow->Shared->Prop}
variable {nm q:Str}{C N:Addr}{bs bm:List Value}{hdct:Bool}{sn:List Str}{sub:List Value}{ab:Bool}{col:Option Bool}{dd:Option Addr}{k0 k1 k2 k3 k5:Option Value}{newId:String}
def Z9 (hb:bm.contains (.type "BaseException")=true)(G:A.handled=none)(hx:wpAny M A x (λv s1=>∃e oe vs,v=.ref e/\s1.heap.get? C=some (excClassObj nm q C N bs bm hdct sn sub ab col dd k0 k1 k2 k3 k5 newId)/\s1.heap.get? e=some oe/\oe.cls=.ref C/\oe.data=.fields vs/\vs[1]?=some .none/\E (.ref e) s1) E s):wpAny M A (raiseStmt env (some x) none) Q E s:=by
 let inB:(Value.ref C::bm).contains (.type "BaseException")=true:=by rw[List.contains_cons,hb,Bool.or_true]
 unfold raiseStmt;calc ac (eK hx (λv s1 z=>?_) λ_ _ y=>y);let⟨e,oe,vs,rfl,j,F,D,hd,h1,J⟩:=z;let⟨oc,od,I,osl⟩:=oe;dsimp only at D hd;subst D hd;let⟨hp,g,d,tk,os⟩:=s1
 repeat (first|with_reducible refine iq F ?_|with_reducible refine iq j ?_|(with_reducible calc wpAny_isSubtype_exc j ?_;rw[inB])|wp_step)
 rw[h1];calc am ?_;rw[if_neg qc];show am (wpAny_raiseNew_none G J)
end
def iT (a:Addr)(cls:Value)(dd:Option Addr):Heap->Prop:=λh=>∃oe vs,h.get? a=some oe/\oe.cls=cls/\oe.dict=dd/\oe.data=.fields vs/\vs[1]?=some .none/\vs[2]?=some .none/\dd≠some a
def iT.at {h h':Heap}(x:iT a cls dd h)(k:∀o,h.get? a=some o->h'.get? a=some o):iT a cls dd h':=let ⟨oe,vs,e,r⟩:=x;(JA oe vs ⟨k oe e,r⟩)
def iT.ok (x:iT a cls dd h):fV P w H h a (.ext (iT a cls dd)):=⟨x,let ⟨oe,_,e,_⟩:=x;⟨oe,e⟩,λ_ _ y k=>y.at k⟩
def drop (H:Hp)(a:Addr):Hp:=λb=>if b=a then none else H b
def qM:drop H a a=none:=by unfold drop;rw[if_pos rfl]
def jQ (h:b≠a):drop H a b=H b:=by unfold drop;rw[if_neg h]
section
variable {X:Cx}{ak:AH}{σ:St}{H:Hp}{s:Shared}{a:Addr}{φ:Heap->Prop}
def aP.drop (I:aP X ak σ H s)(ha:H a=some (.ext φ))(Jf:∀b o,X.s₀.heap.get? b=some o->b≠a):aP X ak σ (L2.drop H a) s:=by
 let ne:∀b u,H b=some u->(∀φ,u≠.ext φ)->b≠a:=λb u e n z=>by rw[z,ha]at e;cases e;show n φ rfl
 refine⟨I.ok,I.os,I.bare,⟨I.base.keep,I.base.slot,λb o e n hx=>?_,I.base.there,λb xs e=>?_,λb o u e=>?_,λb ps e=>?_⟩,I.loc,I.cell,?_,λx c e=>?_,λp hp=>?_,λb o e=>?_,I.len⟩
 .by_cases hb:b=a;.rw[hb];show qM
  .rw[jQ hb];show I.base.free b o e n hx
 .let z:=I.base.tups b xs e;rw[jQ (ne b _ z λφ=>by simp)];show z
 .let z:=I.base.qz b o u e;rw[jQ (ne b _ z λφ=>by simp)];show z
 .let⟨more,z⟩:=I.base.qT b ps e;show⟨more,by rw[jQ (ne b _ z λφ=>by simp)];show z⟩
 .by_cases hb:X.env.locals=a;.rw[hb];show qM
  .rw[jQ hb];show I.free
 .by_cases hb:c=a;.rw[hb];show qM
  .rw[jQ hb];show I.nu x c e
 .let⟨e1,e2,e3⟩:=I.pin p hp;calc⟨e1,?_,e3⟩;by_cases hb:p.1=a;.rw[hb];show qM
  .rw[jQ hb];show e2
 .by_cases hb:b=a;.rw[hb,qM]at e;cases e
  .rw[jQ hb]at e;refine(I.hok b o e).stay (λc u _ z=>z) (λc r=>?_) λc xs r=>?_
   .rw[jQ (ne c _ r λφ=>by simp)];show r
   .rw[jQ (ne c _ r λφ=>by simp)];show r
end
structure MkX (K:Frag)(C f:Addr):Prop where
 ini:xK K C f=true
 fn:W.isFn K (.ref f)=true
 kp:W.keepIn K (.ref C)=true
def aez (C:Addr)(sp:Sp)(E:XK)(t:TA):TS:=λ_ σ H=>t σ H λvs H1=>vs.length<=sizeLine/\∀a,H1 a=none->sp (.ref a::vs) (upd H1 a (.ext (iT a (.ref C) none))) (λv j=>v=.non/\∃dd,j a=some (.ext (iT a (.ref C) dd))/\E (.ref C) dd (drop j a)) E0
section
variable {X:Cx}{k:Nat}{f C:Addr}{fd:FuncData}{ps:List Str}{sp:Sp}{x:Str}{p pos cpos:Pos}{e:Expr}{es:List Expr}{t:TA}{E:XK}
def aeA {ak:AH}{s:Shared}{σ:St}{H:Hp}{G:Addr->Hp->Prop}(M:MkX X.K C f)(F:bW X.prog X.w X.K X.mg X.base cW k f fd ps sp)(hr:fK (k+1) X.A)(hg:Gl X x)(hm:X.mg x=some (.ref C))(hb:bK X.K fd ps [])(ha:QA X (e::es) t)(I:aP X ak σ H s)(h:t σ H λvs H1=>vs.length<=sizeLine/\∀a,H1 a=none->sp (.ref a::vs) (upd H1 a (.ext (iT a (.ref C) none))) (λv Y=>v=.non/\G a Y) E0)(hdb:(x==("__debug__":Str))=false)(hs:starEach (e::es) X.env=(false,eval e X.env)::starEach es X.env)(Z:(backTo cpos (starEach es X.env)).any (·.1)=false):wpAny (model X.prog X.w) X.A (eval (.Call (.Name x p) (e::es) [] cpos) X.env) (λv s'=>∃a Y,v=.ref a/\aP X ak σ Y s'/\X.s₀.heap.objs.size<=a/\G a Y) X.xe s:=by
 calc g9 (o8 I hg hm ?_ hdb);calc jp (h₀:=X.base) I.ok.mod.Ij M.kp (b_ (ha.out cpos ak s σ H _ I h) λus s1 ⟨vs,H1,J,r,hz,q⟩=>⟨J.iZ,?_⟩) hs Z;let⟨bm,N,nm,qn,bs,sn,sub,ab,col,dd,k0,k1,k2,k3,k5,mN,cC,cN,ci,T⟩:=Ks J.iZ M.ini;obtain⟨oI,hoI,hcI⟩:∃oI,s1.heap.get? f=some oI/\oI.cls=.type "function":=by
  let z:(X.K.lookup f).map (·.cls)=some (.type "function"):=beq_iff_eq.mp M.fn;cases y:X.K.lookup f with
  | none=>rw[y]at z;cases z
  | some of=>rw[y]at z;show⟨of,J.iZ _ _ y,be z⟩
 let O:X.s₀.heap.objs.size<=s1.heap.objs.size+1:=Nat.le_succ_of_le J.sz;let⟨j,g,d,tk,os⟩:=s1;let I2:aP X ak σ H1 ⟨j.push (newArgs us),g,d,tk,os⟩:=J.kept (t':=tk) λb u z=>ae _ z;let hsz:(j.push (newArgs us)).objs.size=j.objs.size+1:=dE _ _;let eX:((j.push (newArgs us)).push (newExc C j.objs.size)).get? (j.objs.size+1)=some (newExc C j.objs.size):=by heap_get
 let I3:aP X ak σ (upd H1 (j.objs.size+1) (.ext (iT (j.objs.size+1) (.ref C) none))) ⟨(j.push (newArgs us)).push (newExc C j.objs.size),g,d,tk,os⟩:=I2.laid (t':=tk) (λb u z=>ae _ z) (iN hsz) (iT.ok (JA _ _ ⟨eX,rK,rK,rK,rK,rK,qa⟩))
 let hq:=q (j.objs.size+1) (I2.hok.fresh (iN hsz));let r2:Vals (V.ref (j.objs.size+1)::vs) (Value.ref (j.objs.size+1)::us):=.cons rK r;let hl:(Value.ref (j.objs.size+1)::us).length=ps.length:=by rw[<-r2.length];show F.len _ _ _ _ hq
 let hB:=hb ⟨(j.push (newArgs us)).push (newExc C j.objs.size),g,d,tk,os⟩ (Value.ref (j.objs.size+1)::us) I3.iZ (by rw[ia];show hl);rw[ia]at hB;calc ab9 T cC cN ci hoI hcI (by show us.length<=sizeLine;rw[<-r.length];show hz) (lm (kU (F.run _ X.stack _ _ ⟨Value.ref (j.objs.size+1)::us,[]⟩ (Value.ref (j.objs.size+1)::us) _ _ E0 (hr.make C us []) (I3.env0.make C us []) hB r2 hq) λr s' D=>?_));cases r with
 | error e=>show False.elim D
 | ok fl=>
  cases fl with
  | ret u=>let⟨v,H',I4,rv,ev,q3⟩:=I3.after D;subst ev;show⟨rv,_,H',rK,I4,O,q3⟩
  | next=>show False.elim D
  | brk=>show False.elim D
  | cont=>show False.elim D
def uK (hl:Lets X E)(hc:X.calm=true)(M:MkX X.K C f)(F:bW X.prog X.w X.K X.mg X.base cW k f fd ps sp)(hr:fK (k+1) X.A)(hg:Gl X x)(hm:X.mg x=some (.ref C))(hb:bK X.K fd ps [])(ha:QA X (e::es) t)(J:(x==("__debug__":Str))=false:=by decide)(hs:starEach (e::es) X.env=(false,eval e X.env)::starEach es X.env:=by rfl)(G:(backTo cpos (starEach es X.env)).any (·.1)=false:=by rfl):QS X (.Raise (some (.Call (.Name x p) (e::es) [] cpos)) none pos) (aez C sp E t):=⟨by
 intro ak s σ H D I h;let run:=aeA (p:=p) M F hr hg hm hb ha I h J hs G;let⟨bm,N,nm,qn,bs,sn,sub,ab,col,dd,k0,k1,k2,k3,k5,mN,cC,cN,ci,T⟩:=Ks I.ok.mod.Ij M.ini;rw[arm_exec_Raise];refine ac (ml (Z9 (C:=C) (nm:=nm) (q:=qn) (N:=N) (bs:=bs) (bm:=bm) (hdct:=true) (sn:=sn) (sub:=sub) (ab:=ab) (col:=col) (dd:=dd) (k0:=k0) (k1:=k1) (k2:=k2) (k3:=k3) (k5:=k5) (newId:="ValueError.__new__")
  (T.hasType gg.hasBase) (I.ok.hd hc) (ac (eK run (λv s1 z=>ac (ml (am ?_))) λ_ _ y=>y))))
 let⟨a,H2,rfl,O,Y,dd2,j,hE⟩:=z;obtain⟨⟨oe,vs,Z,h1,h2,h3,h4,Z_,_⟩,_⟩:=O.hok a _ j;let Jf:∀b o,X.s₀.heap.get? b=some o->b≠a:=λb o z y=>absurd (ax z) (by rw[y];show Nat.not_lt.mpr Y);let I3:=O.drop j Jf;calc JE a oe vs ⟨rK,O.bk _ _ cC,Z,h1,h3,h4,hl ak σ _ _ a oe vs I3 Z h3 h4 Z_ qM Jf ?_⟩;rw[h1,h2];show hE⟩
end
section
variable {prog:Program}{w:World}{A:Around}{E:AE}{h:Heap}{g:Array GenState}{d:Drawn}{t:Nat}{os:OsState}
variable {nm q:Str}{C N a:Addr}{bs bm:List Value}{sn:List Str}{sub:List Value}{ab:Bool}{col:Option Bool}{dd:Option Addr}{k0 k1 k2 k3 k5:Option Value}{rest:List Value}{Q:AE}{oe:Obj}{vs:Array Value}
def aac (T:OwnTail h j5 bm)(Y:h.get? C=some (excClassObj nm q C N bs bm true sn sub ab col dd k0 k1 k2 k3 k5 "ValueError.__new__"))(J:h.get? a=some oe)(I:oe.cls=.ref C)(hd:oe.data=.fields vs)(hz:0<vs.size)(Z:rest.length<=sizeLine)(G:Q .none ⟨(h.push (newArgs rest)).update a (Obj.mapFields (·.setIfInBounds 0 (.ref h.objs.size))),g,d,t,os⟩):wpAny (model prog w) A (call (.builtin "ValueError.__init__") (.ref a::rest)) Q E ⟨h,g,d,t,os⟩:=by
 let F:=gg;let⟨oc,od,O,osl⟩:=oe;dsimp only at I hd;subst I hd;calc lm (codeAny_call_builtin F.init.plain F.initEntry (wpAny_check_init_subT F T Y J rK ?_));let j:(h.push (newArgs rest)).get? a=some ⟨.ref C,od,.fields vs,osl⟩:=ae _ J;unfold Builtin.«BaseException.__init__»
 repeat (first|with_reducible refine iq j ?_|wp_step)
 obtain⟨D,e0⟩:∃D,vs[0]?=some D:=⟨_,oP hz⟩
 rw[e0];calc am (ac (iL j rK hz ?_));cases D <;> first|show me (am G)|show am (am G)
end
def tH:List Value->Bool
 | .ref _::r=>tH r
 | l=>l==j5
theorem CP (self):∀{l:List Value},tH l=true->refuseLoop self "__setattr__" l=pure ()
 | .ref _::r,e=>(refuseLoop_ref self "__setattr__" _ r).trans (CP self (l:=r) e)
 | [],e=>by cases e
 | .type n::r,e=>by rw[beq_iff_eq.mp (show (Value.type n::r==j5)=true from e)];show PySem.F.store_ValueError.passes self
 | .none::r,e=>by cases(beq_iff_eq.mp (show (Value.none::r==j5)=true from e))
 | .bool b::r,e=>by cases(beq_iff_eq.mp (show (Value.bool b::r==j5)=true from e))
 | .int i t::r,e=>by cases(beq_iff_eq.mp (show (Value.int i t::r==j5)=true from e))
 | .float i t::r,e=>by cases(beq_iff_eq.mp (show (Value.float i t::r==j5)=true from e))
 | .str i t::r,e=>by cases(beq_iff_eq.mp (show (Value.str i t::r==j5)=true from e))
 | .bytes i t::r,e=>by cases(beq_iff_eq.mp (show (Value.bytes i t::r==j5)=true from e))
 | .builtin n::r,e=>by cases(beq_iff_eq.mp (show (Value.builtin n::r==j5)=true from e))
structure CQ (K:Frag)(C:Addr):Prop where
 ln:((clsIn K C).any λcd=>cd.hasDict&&tH cd.mro)=true
 ob:mroIn K C (.type "object")=some true
 sa:findIn K (.ref C) "__setattr__"=some (some (.builtin "object.__setattr__"))
section
open Builtin Builtin.ObjectAttr
variable {prog:Program}{w:World}{A:Around}{E:AE}{s:Shared}{K:Frag}{x C:Addr}{ox:Obj}{od:Option Obj}{name:Str}{v:Value}
def Nh (X:K.In s.heap)(T:CQ K C)(hn:findIn K (.ref C) name=some none)(I:InstAt s.heap x ox C od)(h:wpAny (model prog w) A.in1 (storeInOwnDict (.ref x) (.ref C) (.str name s.toks) name v false) (λj s'=>match j with|.done (.ret _)=>Q () s'|_=>False) (λ_ _=>False) {s with toks:=s.toks+1}):wpAny (model prog w) A (setAttr (.ref x) name v) Q E s:=by
 let F:=PySem.F.store_ValueError;let⟨cd,Y,G⟩:=any_some T.ln;rw[bX]at G;let D:=I.type (M:=model prog w);let J:Looks (model prog w) s.heap (mroOf (.ref C)) cd.mro:=(looks_clsIn X Y).andThen .now;let Z:Looks (model prog w) s.heap (isInstance (.ref x) (.type "object")) true:=D.andThen (looks_mroIn X T.ob);let O:=looks_findIn (M:=model prog w) X hn;let⟨hh,g,d,t,os⟩:=s;unfold setAttr;calc ac (wpAny_mkText (ac (ac (ac (D.at ((looks_findIn X T.sa).at (ik (ac ?_))))))));rw[F.slot.bind (.ref x)];calc am (ac (lm (codeAny_call_builtin F.slot.plain F.entry (@check_slot (model prog w) _ _ _ "object.__setattr__" "object" "__setattr__" (.ref x) [.str name t,v] [] _ F.kind F.split Z (F.args (.ref x) (.str name t) v) ?_))));show wpAny (model prog w) A.in1 (Builtin.«object.__setattr__» ⟨[.ref x,.str name t,v],[]⟩) _ _ _;rw[osa_eq,refuse_eq];calc ac (ac (D.at (ac (J.at ?_))));rw[CP _ G.2];calc am (ac (D.at (ac (O.at (ac (am ?_))))));calc eK h (λj s' z=>?_) λ_ _ z=>z.elim;cases j with
 | done f=>cases f with| ret u=>show am (am z)| next=>show z.elim| brk=>show z.elim| cont=>show z.elim
 | again c=>show z.elim
end
section
open Builtin Builtin.ObjectAttr
variable {prog:Program}{w:World}{A:Around}{E:AE}{h:Heap}{g:Array GenState}{d:Drawn}{t:Nat}{os:OsState}{K:Frag}{x C dx:Addr}{vs:Array Value}{sl:Array (Option Value)}{name:Str}{v:Value}{Q:Fin->Shared->Prop}{b:Bool}{tk:Tok}
def Xr (X:K.In h)(T:CQ K C)(hx:h.get? x=some ⟨.ref C,none,.fields vs,sl⟩)(hq:∀h' t',h'.Ns1 h.objs.size (λy=>if y=name then some v else none)->h'.get? x=some ⟨.ref C,some h.objs.size,.fields vs,sl⟩->(∀c o,c≠x->h.get? c=some o->h'.get? c=some o)->Q (.done (.ret .none)) ⟨h',g,d,t',os⟩):wpAny (model prog w) A (storeInOwnDict (.ref x) (.ref C) (.str name tk) name v b) Q E ⟨h,g,d,t,os⟩:=by
 let⟨cd,hc,I⟩:=any_some T.ln;rw[bX]at I;let xs:x≠h.objs.size:=b8 (ax hx);calc ac (am (ac (ac (wpAny_loadPart hx (ac ((looks_clsIn X hc).here ?_))))));rw[I.1];let j:(h.push {cls:=.type "dict",data:=.dict #[]}).get? x=some ⟨.ref C,none,.fields vs,sl⟩:=ae _ hx;calc ac (wpAny_alloc' ?_);calc ac (wpAny_update' j ?_);calc am ?_;generalize e1:((h.push {cls:=.type "dict",data:=.dict #[]}).update x λo=>{cls:=o.cls,dict:=some h.objs.size,data:=o.data,slots:=o.slots})=h1;let g1:h1.get? h.objs.size=some {cls:=.type "dict",data:=.dict #[]}:=by rw[<-e1];show(Heap.get?_update_ne _ _ _ _ xs.symm).trans (Heap.get?_push_at rK rK)
 let g2:h1.get? x=some ⟨.ref C,some h.objs.size,.fields vs,sl⟩:=by rw[<-e1];show gm _ j rfl
 let g3:∀c o,c≠x->h.get? c=some o->h1.get? c=some o:=λc o n z=>by rw[<-e1];show(Heap.get?_update_ne _ _ _ _ n).trans (ae _ z)
 let n1:h1.Ns h.objs.size (λ_=>none):=(JE _ (#[]) _ ⟨g1,rK,(λe O=>absurd O qa),λ_=>rfl⟩)
 show wpAny _ _ (storeInDict h.objs.size (.str name tk) name v) _ _ _;unfold storeInDict newKeyGuard;calc ac (am (ac (wpAny_nsSet1 (Heap.Ns1.of_empty n1) λh2 J k2=>?_)));let⟨oD,Z,Y,D,F,G⟩:=J.count (ot name v PySem.Within.nil);calc ac (wpAny_lookBehind D (by rw[F];show pastItsLine_dict (bP G (by rw[dq,pk,sizeLine_eq];lia))) (am ?_));show hq h2 _ J ((k2.2 x xs).trans g2) λc o n z=>(k2.2 c (b8 (ax z))).trans (g3 c o n z)
def T7 (X:K.In h)(T:CQ K C)(hx:h.get? x=some ⟨.ref C,some dx,.fields vs,sl⟩)(hn:h.Ns1 dx mA)(hw:PySem.Within mA ns)(hl:ns.length<=100)(Y:∀h' t',h'.Ns1 dx (λy=>if y=name then some v else mA y)->(∀c o,c≠dx->h.get? c=some o->h'.get? c=some o)->Q (.done (.ret .none)) ⟨h',g,d,t',os⟩):wpAny (model prog w) A (storeInOwnDict (.ref x) (.ref C) (.str name tk) name v b) Q E ⟨h,g,d,t,os⟩:=by let⟨cd,Z,G⟩:=any_some T.ln;rw[bX]at G;calc ac (am (ac (ac (wpAny_loadPart hx (ac ((looks_clsIn X Z).here ?_))))));rw[G.1];calc am ?_;show wpAny _ _ (storeInDict dx (.str name tk) name v) _ _ _;unfold storeInDict newKeyGuard;calc ac (am (ac (wpAny_nsSet1 hn λh2 I k2=>?_)));let⟨oD,O,J,D,j,F⟩:=I.count (ot name v hw);calc ac (wpAny_lookBehind D (by rw[j];show pastItsLine_dict (bP F (by rw[dq,sizeLine_eq];lia))) (am ?_));show Y h2 _ I λc o n z=>(k2.2 c n).trans z
end
def XD (a:Addr)(fs:List (Str×V)):Heap->Prop:=λh=>∃mA,h.Ns1 a mA/\(∀f,lQ (fs.lookup f) (mA f))/\PySem.Within mA (fs.map (·.1))/\fs.length<=50
def XD.at {h h':Heap}(x:XD a fs h)(k:∀o,h.get? a=some o->h'.get? a=some o):XD a fs h':=let ⟨mA,n,r⟩:=x;⟨mA,n.at k,r⟩
def XD.ok (x:XD a fs h):fV P w H h a (.ext (XD a fs)):=⟨x,let ⟨_,⟨o,_,_,e,_⟩,_⟩:=x;⟨o,e⟩,λ_ _ y k=>y.at k⟩
def aiF (K : Frag)(ta tv : TE)(f : Str) : TS := λD σ H => tv σ H λy H1 => ta σ H1 λx j => ∃a C dd, x = .ref a /\ j a = some (.ext (iT a (.ref C) dd)) /\ CQ K C /\ findIn K (.ref C) f = some none /\
  ((dd = none /\ ∀dx, dx ≠ a -> j dx = none -> D.nx σ (upd (upd j dx (.ext (XD dx [(f, y)]))) a (.ext (iT a (.ref C) (some dx))))) \/
   ∃dx fs, dd = some dx /\ j dx = some (.ext (XD dx fs)) /\ fs.length<50 /\ D.nx σ (upd j dx (.ext (XD dx (iw f y fs)))))
section
variable {X:Cx}{o value:Expr}{f:Str}{pos pos':Pos}{ta tv:TE}
def vY (ha:QE X o ta)(hv:QE X value tv)(hs:swapsWith value (some (.Attribute o f pos')) pos.line X.env=pure false):QS X (.Assign [.Attribute o f pos'] value pos) (aiF X.K ta tv f):=⟨by
 intro ak s σ H D I h;calc plainObj_wpAny_Assign_Attribute (b_ (hv.out ak s σ H _ I h) λu s1 zz=>?_) hs;let⟨y,H1,I1,ry,q⟩:=zz;calc b_ (ha.out ak s1 σ H1 _ I1 q) λov s2 zz=>?_;let⟨x,J,G,rx,a,C,dd,ex,ea,T,hn,q2⟩:=zz;subst ex;obtain rfl:ov=Value.ref a:=rx;obtain⟨⟨oe,vs,he,h1,h2,h3,h4,Z_,h5⟩,_⟩:=G.hok a _ ea;let⟨oc,od,oda,osl⟩:=oe;dsimp only at h1 h2 h3;subst h1 h2 h3;let hk:X.K.In s2.heap:=G.iZ;let⟨j,g,d,t,os⟩:=s2;rcases q2 with⟨rfl,q2⟩|⟨dx,fs,rfl,Z,hl,q2⟩
 .calc Nh hk T hn (od:=none) ⟨he,rK,rK,True.intro⟩ (Xr hk T he λh' t' n' e' Y=>?_);let xs:a≠j.objs.size:=b8 (ax he);let nN:J j.objs.size=none:=G.hok.fresh (al _);let na:∀b,J b=none->b≠a:=λb n z=>by rw[z,ea]at n;cases n
  let ne:∀b w,J b=some w->(∀φ,w≠.ext φ)->b≠a/\b≠j.objs.size:=λb w e n=>⟨λz=>by rw[z,ea]at e;cases e;show n _ rK,λz=>by rw[z,nN]at e;cases e⟩
  let up:∀b,b≠a->b≠j.objs.size->upd (upd J j.objs.size (.ext (XD j.objs.size [(f,y)]))) a (.ext (iT a (.ref C) (some j.objs.size))) b=J b:=λb n1 F=>by rw[aV n1,aV F]
  let lt:∀b o,j.get? b=some o->b≠j.objs.size:=λb o z=>b8 (ax z);let hD:XD j.objs.size [(f,y)] h':=⟨_,n',λg'=>by
    show lQ (List.lookup g' [(f,y)]) (if g'=f then some u else none);by_cases q:g'=f;.rw[if_pos q,q];simp only[List.lookup,beq_self_eq_true];show ry
    .rw[if_neg q];have:(g'==f)=false:=beq_false_of_ne q;simp only[List.lookup,this];trivial,λg' hg=>by
    by_cases q:g'=f;.rw[q];simp
    .show absurd (show (if g'=f then some u else none)=none by rw[if_neg q]) hg,by show 1<=50;decide⟩
  let I3:aP X ak σ (upd (upd J j.objs.size (.ext (XD j.objs.size [(f,y)]))) a (.ext (iT a (.ref C) (some j.objs.size)))) ⟨h',g,d,t',os⟩:=G.un (t':=t')
   ⟨λb o z n _ _=>Y b o (na b n) z,λb o z n _ _=>⟨o.slots,Y b o (na b n) z⟩,λb o z n _=>(up b (na b n) (lt b o z)).trans n,λb o z _=>by
    by_cases hb:b=a;.show⟨_,by rw[hb];show e'⟩
    .show⟨o,Y b o hb z⟩,λb xs e=>by
    let⟨n1,F⟩:=ne b _ e λφ=>by simp
    show(up b n1 F).trans e,λb o xs e=>by
    let⟨n1,F⟩:=ne b _ e λφ=>by simp
    show(up b n1 F).trans e,λb ps e=>by
    let⟨n1,F⟩:=ne b _ e λφ=>by simp
    show⟨#[],by rw[up b n1 F,e];simp⟩⟩ λb o e=>by
   by_cases hb:b=a
   .subst hb;rw[aq]at e;cases e;show iT.ok (JA _ _ ⟨e',rK,rK,rK,h4,Z_,λz=>xs (be z).symm⟩)
   .rw[aV hb]at e;by_cases hn:b=j.objs.size
    .subst hn;rw[aq]at e;cases e;show hD.ok
    .rw[aV hn]at e;refine(G.hok b o e).stay (λc w O z=>Y c w (λy=>?_) z) (λc r=>?_) λc xs r=>?_
     .rcases O with O|O;.show hb (O.symm.trans y)
      .rw[y,ea]at O;cases O
     .let⟨n1,F⟩:=ne c _ r λφ=>by simp
      show(up c n1 F).trans r
     .let⟨n1,F⟩:=ne c _ r λφ=>by simp
      show(up c n1 F).trans r
  show JA σ _ ⟨I3,q2 _ xs.symm nN⟩
 .obtain⟨⟨mA,nA,rA,wA,lA⟩,⟨od,hod⟩,_⟩:=G.hok dx _ Z;calc Nh hk T hn (od:=some od) ⟨he,rK,rK,hod⟩ (T7 (ns:=fs.map (·.1)) hk T he nA wA (by rw[aa];lia) λh' t' n' Y=>?_);let I3:aP X ak σ (upd J dx (.ext (XD dx (iw f y fs)))) ⟨h',g,d,t',os⟩:=G.write (t':=t') (e:=dx) (by rw[Z];trivial) (.inl rK) (λb o n z=>Y b o n z) (let ⟨o,_,_,e,_⟩:=n';⟨o,e⟩)
   (XD.ok ⟨_,n',λg'=>?_,λg' hg=>?_,?_⟩)
  .show JA σ _ ⟨I3,q2⟩
  .show lQ ((iw f y fs).lookup g') (if g'=f then some u else mA g');rw[yE];by_cases q:g'=f;.rw[if_pos q,if_pos q];show ry
   .rw[if_neg q,if_neg q];show rA g'
  .by_cases q:g'=f;.rw[q];show(uG f y fs).1
   .calc(uG f y fs).2 g' (wA g' λz=>hg ?_);show (if g'=f then some u else mA g')=none;rw[if_neg q];show z
  .have:=yF f y fs;lia⟩
end
structure InitOf (K:Frag)(R:Addr):Prop where
 ga:specialIn K (.ref R) "__getattribute__"=some (some (.builtin "type.__getattribute__"))
 rd:readsIn K R (.type "type")=true
 fc:findCls K (.ref R) (.type "type") "__init__"=some (.val (.builtin "ValueError.__init__"))
def ab_ (K:Frag)(t:TA):TE:=λσ H Q=>t σ H λvs H1=>∃a C f dd rest,vs=.ref a::rest/\H1 a=some (.ext (iT a (.ref C) dd))/\xK K C f=true/\rest.length<=sizeLine/\Q .non H1
section
variable {X:Cx}{R:Addr}{x:Str}{np apos pos:Pos}{e:Expr}{es:List Expr}{t:TA}
def vD {pl:Sem Bool}(hg:Gl X x)(hm:X.mg x=some (.ref R))(F:InitOf X.K R)(ha:QA X (e::es) t)(J:(x==("__debug__":Str))=false:=by decide)(hs:starEach (e::es) X.env=(false,eval e X.env)::starEach es X.env:=by rfl)(Y:(backTo pos (starEach es X.env)).any (·.1)=false:=by rfl)(ht:eval (.Call (.Attribute (.Name x np) "__init__" apos) (e::es) [] pos) X.env=(do
   let ov <- eval (.Name x np) X.env
   standAt apos.atName
   let (f,first) <- holding [ov] (getMethod ov "__init__" pl)
   callWith pos f first (backTo pos (starEach (e::es) X.env)) (backToKw pos (keywordEach [] X.env))):=by rfl) :
  QE X (.Call (.Attribute (.Name x np) "__init__" apos) (e::es) [] pos) (ab_ X.K t):=⟨by
 intro ak s σ H Q I h;calc methodCall_KW (pl:=pl) (o8 I hg hm ?_ J) ht;calc method_cls I.iZ F.ga (cls_value I.iZ F.rd F.fc rK ?_);let I0:=I.tok (s.toks+1);calc mT (b_ (ha.out pos ak _ σ H _ I0 h) λus s1 zz=>?_) hs Y;let⟨vs,H1,Z,r1,a,C,f,dd,rest,ev,O,hC,hz,q⟩:=zz;subst ev;let⟨bm,N,nm,qn,bs,sn,sub,ab,col,Cq,k0,k1,k2,k3,k5,mN,cC,cN,ci,T⟩:=Ks Z.iZ hC;obtain⟨⟨oe,ws,he,h1,h2,h3,h4,Z_,h5⟩,_⟩:=Z.hok a _ O;obtain⟨u,j,rfl,ra,rr⟩:∃u j,us=u::j/\cB (.ref a) u/\Vals rest j:=by
  cases r1 with| cons ra rr=>show JA _ _ ⟨rK,ra,rr⟩
 obtain rfl:u=Value.ref a:=ra;let⟨D,g,d,tk,os⟩:=s1;let hsz:0<ws.size:=jv (ej 1) (gf.mp h4).1;calc aac T cC he h1 h3 hsz (by rw[<-rr.length];show hz) ?_;let e1:(D.push (newArgs j)).get? a=some oe:=ae _ he;let I2:aP X ak σ H1 ⟨D.push (newArgs j),g,d,tk,os⟩:=Z.kept (t':=tk) λb u z=>ae _ z;let G:=jI h3 (·.setIfInBounds 0 (Value.ref D.objs.size));let e2:((D.push (newArgs j)).update a (Obj.mapFields (·.setIfInBounds 0 (.ref D.objs.size)))).get? a=some (oe.mapFields (·.setIfInBounds 0 (.ref D.objs.size))):=gm _ e1 (ie G);let I3:aP X ak σ (upd H1 a (.ext (iT a (.ref C) dd))) ⟨(D.push (newArgs j)).update a (Obj.mapFields (·.setIfInBounds 0 (.ref D.objs.size))),g,d,tk,os⟩:=I2.write (t':=tk) (e:=a) (by rw[O];trivial) (.inl rK)
  (λb u n z=>(fo _ _ (gI n)).trans z) ⟨_,e2⟩ (iT.ok (JA _ _ ⟨e2,(oB _ _).trans h1,(Nb _ _).trans h2,G,by rw[iX qc];show h4,by rw[iX qc];show Z_,h5⟩))
 rw[show upd H1 a (.ext (iT a (.ref C) dd))=H1 from funext λb=>by
  by_cases hb:b=a;.rw[hb,aq,O]
  .rw[aV hb]]at I3
 show(JA .non H1 ⟨I3,rK,q⟩)⟩
end
def drop_new (na:H a=none)(ne:dx≠a)(nd:upd H a o dx=none):aB H (drop (upd (upd (upd H a o) dx p) a q) a)/\drop (upd (upd (upd H a o) dx p) a q) a dx=some p:=by
 rw[aV ne]at nd;refine⟨λb u e=>?_,?_⟩
 .let h1:b≠a:=aX e na;let h2:b≠dx:=aX e nd;rw[jQ h1,aV h1,aV h2,aV h1];show e
 .rw[jQ ne,aV ne,aq]
structure pR (K:Frag)(mg:Str->Option Value)(name:Str)(C f:Addr)(fs:List Str):Prop where
 uL:mg name=some (.ref C)
 M:MkX K C f
 T:CQ K C
 is:aiC K C
 hd:hasDictIn K C=true
 no:∀g∈fs,findIn K (.ref C) g=some none
def Jj (C:Addr)(nm:Str):Sp:=λvs H Q _=>∃(a:Addr) (v:V),vs=[.ref a,v]/\H a=some (.ext (iT a (.ref C) none))/\∀dx,dx≠a->H dx=none->Q .non (upd (upd H dx (.ext (XD dx [(nm,v)]))) a (.ext (iT a (.ref C) (some dx))))
def Jk (C:Addr)(n1 j:Str):Sp:=λvs H Q _=>∃(a:Addr) (v w:V),vs=[.ref a,v,w]/\H a=some (.ext (iT a (.ref C) none))/\∀dx,dx≠a->H dx=none->Q .non (upd (upd (upd H dx (.ext (XD dx [(n1,v)]))) a (.ext (iT a (.ref C) (some dx)))) dx (.ext (XD dx (iw j w [(n1,v)]))))
section
variable {prog:Program}{w:World}{A:Around}{E:AE}{s:Shared}{z ti to u v a b:Addr}{i:Nat}{f g:Array Value}{x y m n:Value}
def aad {Q:AE}(D:ZA z ti to u v a b)(hz:IsZip s.heap z ti to .none)(hi:IsPair s.heap ti (.ref u) (.ref v))(ho:IsPair s.heap to m n)(hu:s.heap.IsListIter u a i)(hv:s.heap.IsListIter v b i)(ha:s.heap.IsList a f)(hb:s.heap.IsList b g)(hx:f[i]?=some x)(hy:g[i]?=some y)(q:∀h',IsZip h' z ti to (rawInt s.heap.objs.size)->IsPair h' to x y->h'.IsListIter u a (i+1)->h'.IsListIter v b (i+1)->IsPair h' s.heap.objs.size x y->
   (∀c o,c≠z->c≠to->c≠u->c≠v->s.heap.get? c=some o->h'.get? c=some o)->Q (.ref s.heap.objs.size) {s with heap:=h' }) :
  wpAny (model prog w) A (Builtin.«zip.__next__» ⟨[.ref z],[]⟩) (λZ s'=>∃r,Z=.done (.ret r)/\Q r s') E s:=by
 show wpAny _ _ (field (.ref z) 2 >>= _) _ _ _;calc ac (cS hz rK (x:=.bool false) rK ?_);show wpAny _ _ (field (.ref z) 3 >>= _) _ _ _;calc ac (cS hz rK (x:=.ref ti) rK (ac (eJ hi rK ?_)));show wpAny _ _ (Builtin.SmallTypes.ownedTupleIsFree (.ref z) >>= _) _ _ _;calc ac ?_;unfold Builtin.SmallTypes.ownedTupleIsFree;calc ac (cS hz rK (x:=.none) rK (am ?_));simp only[if_true];calc ac (kD (ac (cS hz rK (x:=.ref to) rK (ac (e_ hz qa λg1 O k1=>?_)))));replace O:IsZip g1 z ti to .ellipsis:=O;calc ac ?_;simp only[mw,nB,fE,lp];calc ac (ac (jb ?_));show wpAny _ _ (Builtin.SmallTypes.nextOf (.ref u) >>= _) _ _ _;calc ac (mf (hu.at λo e=>k1.extBut _ o D.q3 e) (lx ha λo e=>k1.extBut _ o D.p2 e) hx λg2 u2 k2=>am ?_);let o2:IsPair g2 to m n:=k2.extBut _ _ D.q8 (k1.extBut _ _ D.q2 ho);calc ac (eJ o2 rK (ac (iA o2 λg3 J k3=>?_)));replace J:IsPair g3 to x n:=J;calc ac (me (am ?_));calc ac (ac (jb ?_));show wpAny _ _ (Builtin.SmallTypes.nextOf (.ref v) >>= _) _ _ _;calc ac (mf (hv.at λo e=>k3.extBut _ o D.q9.symm (k2.extBut _ o D.p1.symm (k1.extBut _ o D.q4 e))) (lx hb λo e=>k3.extBut _ o D.p7 (k2.extBut _ o D.p8 (k1.extBut _ o D.p6 e))) hy λg4 v4 k4=>am ?_);let o4:IsPair g4 to x n:=k4.extBut _ _ D.q9 J;calc ac (eJ o4 rK (ac (iA o4 λj F k5=>?_)));replace F:IsPair j to x y:=F;calc ac (me (am (am ?_)));calc ac (eJ F rK (ac (wpAny_newTuple ?_)));let sz:j.objs.size=s.heap.objs.size:=by rw[k5.1,k4.1,k3.1,k2.1,k1.1]
 let z5:IsZip j z ti to .ellipsis:=k5.extBut _ _ D.q2.symm (k4.extBut _ _ D.q4.symm (k3.extBut _ _ D.q2.symm (k2.extBut _ _ D.q3.symm O)));let kk:∀c o,c≠z->c≠to->c≠u->c≠v->s.heap.get? c=some o->j.get? c=some o:=λc o c1 c2 c3 c4 e=>k5.extBut _ _ c2 (k4.extBut _ _ c4 (k3.extBut _ _ c2 (k2.extBut _ _ c3 (k1.extBut _ _ c1 e))));let u5:j.IsListIter u a (i+1):=u2.at λo e=>k5.extBut _ o D.q8.symm (k4.extBut _ o D.p1 (k3.extBut _ o D.q8.symm e));let v5:j.IsListIter v b (i+1):=v4.at λo e=>k5.extBut _ o D.q9.symm e;let lz:z<j.objs.size:=ax z5;show wpAny _ _ (Builtin.SmallTypes.ownedTupleHandOut (.ref z) (.ref j.objs.size) >>= _) _ _ _;calc ac ?_;unfold Builtin.SmallTypes.ownedTupleHandOut;let z6:IsZip (j.push {cls:=.type "tuple",data:=.seq #[x,y]}) z ti to .ellipsis:=ae _ z5;refine ac (e_ z6 qa λg7 Y k7=>?_)
 replace Y:IsZip g7 z ti to (rawInt j.objs.size):=Y;refine e_ Y qa λI G k8=>?_
 replace G:IsZip I z ti to (rawInt j.objs.size):=G;let up:∀c o,c≠z->j.get? c=some o->I.get? c=some o:=λc o c1 e=>k8.extBut _ _ c1 (k7.extBut _ _ c1 (ae _ e));let t8:IsPair I j.objs.size x y:=k8.extBut _ _ (gt lz) (k7.extBut _ _ (gt lz) (aI _ rK));rw[sz]at G t8;calc am ⟨_,rK,?_⟩;show Q (.ref j.objs.size) _;rw[sz];show q I G (up _ _ D.q2 F) (u5.at λo e=>up _ o D.q3 e) (v5.at λo e=>up _ o D.q4 e) t8 λc o c1 c2 c3 c4 e=>up c o c1 (kk c o c1 c2 c3 c4 e)
def acd (hh:A.handled=none)(D:ZA z ti to u v a b)(hz:IsZip s.heap z ti to .none)(hi:IsPair s.heap ti (.ref u) (.ref v))(Z:IsPair s.heap to m n)(Y:s.heap.IsListIter u a i)(O:s.heap.IsListIter v b i)(ha:s.heap.IsList a f)(hb:s.heap.IsList b g)(hx:f[i]?=some x)(hy:g[i]?=none)(q:∀h' e,(∀c o,c≠z->c≠to->c≠u->c≠v->s.heap.get? c=some o->h'.get? c=some o)->(∃o,h'.get? e=some o/\o.cls=.type "StopIteration")->E (.ref e) {s with heap:=h' }):wpAny (model prog w) A (Builtin.«zip.__next__» ⟨[.ref z],[]⟩) Q E s:=by
 show wpAny _ _ (field (.ref z) 2 >>= _) _ _ _;calc ac (cS hz rK (x:=.bool false) rK ?_);show wpAny _ _ (field (.ref z) 3 >>= _) _ _ _;calc ac (cS hz rK (x:=.ref ti) rK (ac (eJ hi rK ?_)));show wpAny _ _ (Builtin.SmallTypes.ownedTupleIsFree (.ref z) >>= _) _ _ _;calc ac ?_;unfold Builtin.SmallTypes.ownedTupleIsFree;calc ac (cS hz rK (x:=.none) rK (am ?_));simp only[if_true];calc ac (kD (ac (cS hz rK (x:=.ref to) rK (ac (e_ hz qa λg1 j k1=>?_)))));replace j:IsZip g1 z ti to .ellipsis:=j;calc ac ?_;simp only[mw,nB,fE,lp];calc ac (ac (jb ?_));show wpAny _ _ (Builtin.SmallTypes.nextOf (.ref u) >>= _) _ _ _;calc ac (mf (Y.at λo e=>k1.extBut _ o D.q3 e) (lx ha λo e=>k1.extBut _ o D.p2 e) hx λg2 u2 k2=>am ?_);let G:IsPair g2 to m n:=k2.extBut _ _ D.q8 (k1.extBut _ _ D.q2 Z);calc ac (eJ G rK (ac (iA G λg3 F k3=>?_)));replace F:IsPair g3 to x n:=F;calc ac (me (am ?_));calc ac (ac (jb ?_));show wpAny _ _ (Builtin.SmallTypes.nextOf (.ref v) >>= _) _ _ _;calc ac (wpAny_nextOf_list_end hh (O.at λo e=>k3.extBut _ o D.q9.symm (k2.extBut _ o D.p1.symm (k1.extBut _ o D.q4 e))) (lx hb λo e=>k3.extBut _ o D.p7 (k2.extBut _ o D.p8 (k1.extBut _ o D.p6 e))) hy λg4 e k4 J=>?_);let⟨oe,e1,e2⟩:=J;let I:IsZip g4 z ti to .ellipsis:=k4 _ _ D.q4.symm (k3.extBut _ _ D.q2.symm (k2.extBut _ _ D.q3.symm j));let ez:e≠z:=λt=>by subst t;rw[I]at e1;cases e1;simp at e2
 show e_ I qa λg5 _ k5=>q g5 e (λc o c1 c2 c3 c4 t=>k5.extBut _ _ c1 (k4 _ _ c4 (k3.extBut _ _ c2 (k2.extBut _ _ c3 (k1.extBut _ _ c1 t))))) ⟨oe,k5.extBut _ _ ez e1,e2⟩
abbrev zl1 (h:Heap)(a:Addr):Heap:=h.push {cls:=.type "list_iterator",data:=.fields #[.ref a,.int 0 0]}
abbrev zl2 (h:Heap)(a b:Addr):Heap:=(zl1 h a).push {cls:=.type "list_iterator",data:=.fields #[.ref b,.int 0 0]}
abbrev zl3 (h:Heap)(a b:Addr):Heap:=(zl2 h a b).push {cls:=.type "tuple",data:=.seq #[.ref h.objs.size,.ref (zl1 h a).objs.size]}
abbrev zl4 (h:Heap)(a b:Addr):Heap:=(zl3 h a b).push {cls:=.type "tuple",data:=.seq #[.none,.none]}
abbrev Vs (h:Heap)(a b:Addr):Heap:=(zl4 h a b).push {cls:=.type "zip",data:=.fields #[.none,.bool false,.bool false,.ref (zl2 h a b).objs.size,.ref (zl3 h a b).objs.size]}
def aeB (a b)(f g):Meets (Builtin.«zip.__new__» ⟨[.type "zip",.ref a,.ref b],[]⟩) (λ_ R s=>s.heap.IsList a f/\s.heap.IsList b g/\R (.ok (.ret (.ref (zl4 s.heap a b).objs.size))) {s with heap:=Vs s.heap a b}):=
 .of_wp λprog w A R s h=>by
  let⟨hp,j,d,tk,os⟩:=s;let⟨h1,h2,h⟩:=h;let D:=sub_zip;let j1:Heap.IsList (Shared.heap ⟨hp,j,d,tk,os⟩) a f:=h1;let j2:Heap.IsList (Shared.heap ⟨hp.push {cls:=.type "list_iterator",data:=.fields #[.ref a,.int 0 0]},j,d,tk,os⟩) b g:=lx h2 λo e=>ae _ e
  wp_walk using io j1,io j2
  show⟨_,rK,h⟩
def ajs (ha:s.heap.IsList a f)(hb:s.heap.IsList b g)(q:∀h',IsZip h' (s.heap.objs.size+4) (s.heap.objs.size+2) (s.heap.objs.size+3) .none->IsPair h' (s.heap.objs.size+2) (.ref s.heap.objs.size) (.ref (s.heap.objs.size+1))->IsPair h' (s.heap.objs.size+3) .none .none->
   h'.IsListIter s.heap.objs.size a 0->h'.IsListIter (s.heap.objs.size+1) b 0->(∀c o,s.heap.get? c=some o->h'.get? c=some o)->Q (.ref (s.heap.objs.size+4)) {s with heap:=h' }) :
  wpAny (model prog w) A (call (.type "zip") [.ref a,.ref b]) Q E s:=by
 calc callType_new F.called_zip qc (F.typeCall_zip_2 _ _) (F.newCall_zip_2 _ _) (λobj=>F.args_object_init_3 obj _ _) F.entry_zip_new (aeB a b f g) ⟨ha,hb,?_⟩;let n1:(zl1 s.heap a).objs.size=s.heap.objs.size+1:=dE ..;let D:(zl2 s.heap a b).objs.size=s.heap.objs.size+2:=by rw[dE,n1]
 let j:(zl3 s.heap a b).objs.size=s.heap.objs.size+3:=by rw[dE,D]
 let n4:(zl4 s.heap a b).objs.size=s.heap.objs.size+4:=by rw[dE,j]
 let e5:(Vs s.heap a b).get? (zl4 s.heap a b).objs.size=some _:=aI _ rfl;let e4:(Vs s.heap a b).get? (zl3 s.heap a b).objs.size=some _:=ae _ (aI _ rK);let e3:(Vs s.heap a b).get? (zl2 s.heap a b).objs.size=some _:=ae _ (ae _ (aI _ rK));let e2:(Vs s.heap a b).get? (zl1 s.heap a).objs.size=some _:=ae _ (ae _ (ae _ (aI _ rK)));let e1:(Vs s.heap a b).get? s.heap.objs.size=some _:=ae _ (ae _ (ae _ (ae _ (aI _ rK))));show _/\_;rw[D,j,n4]at e5;rw[n1,D]at e3;rw[j]at e4;rw[n1]at e2;rw[n4];show⟨⟨_,e5,rK⟩,q _ e5 e3 e4 ⟨_,e1,rK,rK⟩ ⟨_,e2,rK,rK⟩ λc o t=>ae _ (ae _ (ae _ (ae _ (ae _ t))))⟩
end
def ace (K:W.Frag)(a b:Addr):It:=⟨λi H=>∃xs ys x y,bC K H a xs/\bC K H b ys/\xs[i]?=some x/\ys[i]?=some y,λi H t H'=>∃T x y,H T=none/\t=.ref T/\(∀xs,bC K H a xs->xs[i]?=some x)/\(∀ys,bC K H b ys->ys[i]?=some y)/\H'=upd H T (.tup [x,y]),λi H=>∃xs ys,bC K H a xs/\bC K H b ys/\i<xs.length/\ys.length<=i⟩
def aae {P:Program}{w:World}{K:W.Frag}{elts:List Expr}{x1:Nat}{pos:Pos}{z ti to u v a b:Addr}(D:ZA z ti to u v a b):Turn P w K (.Tuple elts x1 pos) (ace K a b) [z,ti,to,u,v] z (λi h=>IsZip h z ti to .none/\IsPair h ti (.ref u) (.ref v)/\(∃m n,IsPair h to m n)/\h.IsListIter u a i/\h.IsListIter v b i) where
 mem:=by simp
 obj:=λi h st c j=>by
  obtain⟨h1,h2,⟨m,n,h3⟩,⟨o4,h4,_,d4⟩,⟨o5,h5,_,d5⟩⟩:=st;simp only[bq,fi,or_false]at j;rcases j with e|e|e|e|e <;> subst e
  .show⟨_,h1,λv y=>by cases y⟩
  .show⟨_,h2,λv y=>by cases y⟩
  .show⟨_,h3,λv y=>by cases y⟩
  .show⟨o4,h4,λv y=>by rw[d4]at y;cases y⟩
  .show⟨o5,h5,λv y=>by rw[d5]at y;cases y⟩
 keep:=λi h h' st k=>by obtain⟨h1,h2,⟨m,n,h3⟩,h4,h5⟩:=st;show⟨k z qa _ h1,k ti qa _ h2,(JA m n (k to qa _ h3)),h4.at λo e=>k u qa o e,h5.at λo e=>k v qa o e⟩
 item:=by
  intro X hP hw hK j i ak s σ H E I hf st Z;subst hP hw hK;obtain⟨h1,h2,⟨m,n,h3⟩,h4,h5⟩:=st;let⟨xs,ys,x,y,G,F,hx,hy⟩:=Z;let⟨fs,rf,pf,_⟩:=I.list G;let⟨gs,rg,pg,_⟩:=I.list F;let⟨p,ep,rp⟩:=rf.get hx;let⟨q,eq,rq⟩:=rg.get hy;let lt:∀c∈[z,ti,to,u,v],c<s.heap.objs.size:=λc j=>by
   simp only[bq,fi,or_false]at j;rcases j with e|e|e|e|e <;> subst e
   .show ax h1
   .show ax h2
   .show ax h3
   .let⟨o,e,_⟩:=h4;show ax e
   .let⟨o,e,_⟩:=h5;show ax e
  let O:s.TypeIs (.ref z) "zip":=⟨_,h1,rK⟩
  unfold pyNext;calc ac (om (eI (name:=Str.ofString "__next__") O gy (fb gy O mx ?_ (lT _))));calc aad D h1 h2 h3 h4 h5 (show s.heap.IsList a fs.toArray from pf.isList) (show s.heap.IsList b gs.toArray from pg.isList) (x:=p) (y:=q) (by simpa using ep) (by simpa using eq) λh' k1 k2 k3 k4 k5 k6=>am ?_;calc⟨_,rK,wpAny_letOwnedTupleGo_zip k1 λY e2 J=>?_⟩;let up:∀c o,c∉[z,ti,to,u,v]->s.heap.get? c=some o->Y.get? c=some o:=λc o j e=>by simp only[bq,fi,or_false,not_or]at j;show J.extBut _ _ j.1 (k6 c o j.1 j.2.2.1 j.2.2.2.1 j.2.2.2.2 e)
  let nz:s.heap.objs.size≠z:=gt (lt z qa);let⟨I3,fr⟩:=aP.adI (tk:=s.toks) I hf lt rp rq (J.extBut _ _ nz k5) up;show JA (.ref s.heap.objs.size) _ ⟨I3,rK,(JE s.heap.objs.size x y ⟨I.hok.fresh (al _),rK,λzs hz=>by rw[I.Gw hz G];show hx,λzs hz=>by rw[I.Gw hz F];show hy,rK⟩),
   ⟨e2,J.extBut _ _ D.q1 (k6 _ _ D.q1 D.q5 D.q6 D.q7 h2),(JA _ _ (J.extBut _ _ D.q2 k2)),k3.at λo e=>J.extBut _ o D.q3 e,k4.at λo e=>J.extBut _ o D.q4 e⟩,fr⟩
 done:=by
  intro X hP hw hK j i ak s σ H E I hf st Z;subst hP hw hK;obtain⟨h1,h2,⟨m,n,h3⟩,h4,h5⟩:=st;let⟨xs,ys,G,F,hx,hl⟩:=Z;let⟨fs,rf,pf,_⟩:=I.list G;let⟨gs,rg,pg,_⟩:=I.list F;let cU:=rg.length;let⟨p,ep,rp⟩:=rf.get (af hx);let hh:X.A.in1.handled=none:=by simp[I.ok.hd j]
  let O:s.TypeIs (.ref z) "zip":=⟨_,h1,rK⟩
  unfold pyNext;calc ac (om (eI (name:=Str.ofString "__next__") O gy (fb gy O mx ?_ (lT _))));calc acd hh D h1 h2 h3 h4 h5 (show s.heap.IsList a fs.toArray from pf.isList) (show s.heap.IsList b gs.toArray from pg.isList) (x:=p) (by simpa using ep) (by simp;simp_all) λh' e k zz=>?_;let⟨o,e1,e2⟩:=zz;calc ac (mo (T:="StopIteration") (b:=true) ⟨o,e1,e2⟩ isSubtype_stop ?_);calc am ⟨rK,aP.Fe (fp:=[z,ti,to,u,v]) (t':=s.toks) I (λc o j e=>?_) hf⟩;simp only[bq,fi,or_false,not_or]at j;show k c o j.1 j.2.2.1 j.2.2.2.1 j.2.2.2.2 e
 self:=λA i s Q E st h=>my st.1 h
section
variable {X:Cx}{elts:List Expr}{x1:Nat}{tp:Pos}
def aiG (K:W.Frag)(ta:TA):TI:=λσ H R=>ta σ H λvs H1=>∃a b,vs=[.ref a,.ref b]/\(∃xs,bC K H1 a xs)/\(∃ys,bC K H1 b ys)/\R (ace K a b) H1
def aeC {a b:Expr}{ta:TA}{p pos:Pos}(hg:Gl X "zip")(hm:X.mg "zip"=none)(ha:QA X [a,b] ta)(hs:starEach [a,b] X.env=[(false,eval a X.env),(false,eval b X.env)]:=by rfl)(J:starEach [b] X.env=[(false,eval b X.env)]:=by rfl):QI X (.Tuple elts x1 tp) (.Call (.Name "zip" p) [a,b] [] pos) (aiG X.K ta):=⟨by
 intro ak s σ H R I h;calc Call_ (qU I hg hm M_ (ee (b_ (ha.out pos ak s σ H _ I h) λus s1 zz=>?_) (by rw[hs,J]) (by rw[J];rfl)));let⟨vs,H1,F,r1,q1⟩:=zz;obtain⟨a,b,e,⟨xs,Z⟩,⟨ys,O⟩,q⟩:=q1;subst e;cases r1 with
 | cons r rr=>
  cases rr with
  | cons r' rr=>
   cases rr;cases r;cases r';let⟨fs,rf,pf,_⟩:=F.list Z;let⟨gs,rg,pg,_⟩:=F.list O;let la:a<s1.heap.objs.size:=by
    let⟨o,Y,_⟩:=(show s1.heap.IsList a fs.toArray from pf.isList)
    show ax Y
   let lb:b<s1.heap.objs.size:=by
    let⟨o,Y,_⟩:=(show s1.heap.IsList b gs.toArray from pg.isList)
    show ax Y
   calc ajs (show s1.heap.IsList a fs.toArray from pf.isList) (show s1.heap.IsList b gs.toArray from pg.isList) λh' k1 k2 k3 k4 k5 kk=>my k1 ?_;let D:ZA (s1.heap.objs.size+4) (s1.heap.objs.size+2) (s1.heap.objs.size+3) s1.heap.objs.size (s1.heap.objs.size+1) a b:=by
    let j:∀N a b:Nat,a<N->b<N->ZA (N+4) (N+2) (N+3) N (N+1) a b:=λN a b la lb=>by constructor <;> (show (_:Nat)≠_) <;> lia
    show j _ _ _ la lb
   calc JJ (s1.heap.objs.size+4) [s1.heap.objs.size+4,s1.heap.objs.size+2,s1.heap.objs.size+3,s1.heap.objs.size,s1.heap.objs.size+1] _ _ H1 ⟨rK,F.kept (t':=s1.toks) kk,aae D,⟨k1,k2,(JA _ _ k3),k4,k5⟩,λc hc=>?_,q⟩;let G:s1.heap.objs.size<=c:=by
    simp only[bq,fi,or_false]at hc;let j:∀N c:Nat,(c=N+4\/c=N+2\/c=N+3\/c=N\/c=N+1)->N<=c:=λN c h=>by lia
    show j _ _ hc
   show F.yD G (F.hok.fresh G)⟩
end
def ag0 {K KT:W.Frag}{a b D:Addr}{xs ys:List V}{f:St->St}{tt:TT}{te:TE}{σ:St}{H:Hp}{R:Hp->Prop}(G:xs.length=ys.length+1)(j:Nat->List V->Hp->Prop)(h0:j 0 [] (upd H D (.lst [])))(hl:∀i zs H,i<=ys.length->j i zs H->bC K H a xs/\bC K H b ys)(hs:∀i x y zs H T,xs[i]?=some x->ys[i]?=some y->j i zs H->H T=none->O9 ys.length i D (λv H Q=>∃a p q,v=.ref a/\aN KT H a [p,q]/\Q [some p,some q]) f σ tt te (.ref T) (upd H T (.tup [x,y])) zs (j (i+1)))(hd:∀zs H,j ys.length zs H->R H):Cr (ace K a b) D H R (ZK (λv H Q=>∃a p q,v=.ref a/\aN KT H a [p,q]/\Q [some p,some q]) f σ tt te):=
 abQ ys.length j h0 (λi zs H h p=>by let⟨q1,q2⟩:=hl i zs H (ap h) p;show⟨(JI xs ys (xs[i]) (ys[i]) ⟨q1,q2,by simp[show i<xs.length by lia],by simp[h]⟩),λt H' y=>by let⟨T,x,y,F,rfl,hx,hy,rfl⟩:=y;show hs i x y zs H T (hx xs q1) (hy ys q2) p F⟩) λzs H p=>⟨(JA xs ys ⟨(hl _ zs H (al _) p).1,(hl _ zs H (al _) p).2,p_,al _⟩),hd zs H p⟩
section
variable {prog:Program}{w:World}{A:Around}{E:AE}{s:Shared}
variable {X:Cx}
def aeD {a b:Addr}{D ob:Obj}{na nb:Nat}{x1 j:Nat}{J I O G:Tok}{Q:AE}(ha:s.heap.get? a=some D)(ca:D.cls=.type "tuple")(da:D.data=.seq [Value.int x1 J,Value.int j I].toArray na)(hb:s.heap.get? b=some ob)(cb:ob.cls=.type "tuple")(db:ob.data=.seq [Value.int x1 O,Value.int j G].toArray nb)(hu:A.units<cLine)(q:Q (.bool false) s):wpAny (model prog w) A (compareOp .Lt (.ref a) (.ref b)) Q E s:=by
 let Z:s.TypeIs (.ref a) "tuple":=⟨D,ha,ca⟩
 let Y:s.TypeIs (.ref b) "tuple":=⟨ob,hb,cb⟩
 show wpAny _ _ (richCompare .Lt (.ref a) (.ref b)) Q E s;calc wpAny_richCompare_same_room (op:=.Lt) (T:="tuple") Z Y ny (fb ny Z F.entry_tuple_lt ?_ (F.args_tuple_lt_2 _ _)) hu;show wpAny _ _ (isInstance (.ref b) (.type "tuple") >>= _) _ _ s;calc ac (mo Y isSubtype_tuple_tuple ?_);simp only[mm,fS,if_false];calc ac (k9 ha da (ac (k9 hb db (ac ?_))));rw[show [Value.int (x1:Int) J,Value.int (j:Int) I].toArray.toList.zip [Value.int (x1:Int) O,Value.int (j:Int) G].toArray.toList=[(Value.int (x1:Int) J,Value.int (x1:Int) O),(Value.int (j:Int) I,Value.int (j:Int) G)] from rfl];rw[fE];calc ac ?_;dsimp only;calc ac (js _ _ _ _ prog w _ _ ?_);simp only[beq_self_eq_true,mm,fS,if_false];calc am ?_;dsimp only;rw[fE];calc ac ?_;dsimp only;calc ac (js _ _ _ _ prog w _ _ ?_);simp only[beq_self_eq_true,mm,fS,if_false];calc am ?_;dsimp only;rw[lp];calc am ?_;dsimp only;show am ⟨_,rK,by show Builtin.Tuple.tupleCompareSizes CmpOp.Lt 2 2≠_;decide,q⟩
def ajt:R2:=λx y H Q=>∃(a b:Addr) (x1 j F D:Nat),x=.ref a/\y=.ref b/\H a=some (.tup [.int x1,.int j])/\H b=some (.tup [.int F,.int D])/\j<1000/\D<1000/\
 Q (.bl (decide (x1*1000+j<F*1000+D))) H
def ag1 (hu:X.A.units<cLine):fZ X (compareOp .Lt) ajt:=by
 intro ak s σ H x y v u Q I rx ry h;let⟨a,b,x1,D,x2,Y,rfl,rfl,ea,eb,l1,l2,q⟩:=h;by_cases F:x1*1000+D=x2*1000+Y
 .let e1:x1=x2:=p_;let e2:D=Y:=by simp_all
  subst e1 e2;rw[ag (fk _)]at q;cases rx;cases ry;let⟨_,tv,J,o,ho,hc,n,hd⟩:=I.hok _ _ ea;let⟨_,tv',G,o',O,j,n',Z⟩:=I.hok _ _ eb;cases J with
  | cons q1 rr=>
   cases rr with
   | cons q2 rr=>
    cases rr;cases G with
    | cons q3 rr'=>
     cases rr' with| cons q4 rr'=>cases rr';let⟨t1,rfl⟩:=q1;let⟨t2,rfl⟩:=q2;let⟨t3,rfl⟩:=q3;let⟨t4,rfl⟩:=q4;show aeD ho hc hd O j Z hu (JA (.bl _) H ⟨I,rK,q⟩)
 .show agR hu ak s σ H _ _ _ _ Q I rx ry (JS a b x1 D x2 Y [] [] ⟨rK,rK,ea,eb,l1,l2,F,q⟩)
open Classical in
def aiH (K:W.Frag)(j:Bool):R2:=λx y H Q=>∃n d es,n<=60/\jl K H n d x/\jl K H n (.lst es) y/\Q (.bl (if j then !decide (d∈es) else decide (d∈es))) H
def Vt (O:X.A.units+64<cLine):fZ X (compareOp .In) (aiH X.K false):=by intro ak s σ H x y v u Q I J F h;let⟨n,d,es,hn,hd,j,q⟩:=h;let⟨as,G⟩:=hd.reads I J;let⟨bs,D⟩:=j.reads I F;let l1:=hd.lay;let l2:=j.lay;rw[toP]at D;simp only[toP,PyData.canLay0,PyData.depth]at l2;calc SeqAt.in_list_reads D G l2.1 l1.1 (by have:=Nat.min_le_right (PyData.depthAll (mU es)) (toP d).depth;lia) (JA (.bl _) H ⟨I,rK,?_⟩);rw[Vm];show q
end
def aeE {name:Str}{apos cpos:Pos}{T id:String}(K:W.Frag)(G:PlainAttrs T)(slot:Slot T name id)(F:typeOf (.builtin id)=pure (.type "method_descriptor"))(hm:xu X id r)(I:QE X o to)(D:attributeBase o name X.env (eval o X.env)=eval o X.env:=by rfl)(j:(apos.endLine==cpos.line)=true:=by rfl)(h:X.K=K:=by rfl):QE X (.Call (.Attribute o name apos) [] [] cpos) (abF K T r to):=by subst h;show zp G slot F hm I D j
section
variable {X:Cx}{o e f:Expr}{apos cpos:Pos}{td ty tx:TE}
def acf (G:X.A.units+1<cLine)(j:QE X o td)(F:QE X e ty)(D:QE X f tx)(m:M2 X o "get" apos e f cpos):QE X (.Call (.Attribute o "get" apos) [e,f] [] cpos) (ZC td ty tx):=⟨abN G j.out F.out D.out m⟩
structure KDict (P:Program)(w:World)(K:W.Frag)(a:Addr)(kvs:List (Key×V)):Prop where
 z:(a==sysModules)=false
 ex:∃o vs,K.lookup a=some o/\KV kvs vs/\o.IsDictOf (fW P w) vs
def ag2 (P:Program)(w:World)(K:W.Frag)(td ty tx:TE):TE:=λσ H Q=>td σ H λx H1=>∃a kvs,x=.ref a/\KDict P w K a kvs/\ty σ H1 λy D=>tx σ D λz j=>∃k,y=kV k/\Q ((dZ kvs k).getD z) j
def QB (ho:QE X o td)(O:QE X e ty)(hf:QE X f tx)(m:M2 X o "get" apos e f cpos):QE X (.Call (.Attribute o "get" apos) [e,f] [] cpos) (ag2 X.prog X.w X.K td ty tx):=⟨by
 intro ak s σ H Q I h;calc oy m.base m.few m.line i8 ic PySem.F.type_dict_get (b_ (ho.out ak s σ H _ I h) λu s1 zz=>?_);let⟨x,H1,j,rx,a,kvs,ex,d,q1⟩:=zz;subst ex;obtain rfl:u=Value.ref a:=rx;let⟨ob,vs,G,D,hd⟩:=d.ex;let dd:∀{s':Shared} {σ':St} {H':Hp},aP X ak σ' H' s'->s'.heap.DictOf (fW X.prog X.w) a vs:=λJ=>Heap.dictOf_iff.mpr ⟨ob,J.iZ a ob G,hd⟩;refine⟨(dd j).typeIs,λb q=>?_,?_⟩
 .cases q;let⟨ob,_,_,h1,h2,_⟩:=dd j;show⟨ob,h1,h2.2.1⟩
 rw[m.trees];refine f_ rK (gu (eQ (b_ (O.out ak s1 σ H1 _ j q1) λiv s2 ⟨y,H2,I2,Y,q2⟩=>eQ (b_ (hf.out ak s2 σ H2 _ I2 q2) λfv s3 ⟨z,H3,F,rz,k,Z,q3⟩=>gL ?_))))
 subst Z;calc call_meetsIn ic (dd F).typeIs md (lI _ _ _) (meets_dict_get_default (fW X.prog X.w) a (zX Y) d.z fv) ⟨_,(dd F).mapOf,?_⟩;show(JA _ H3 ⟨F.tok _,(D.val k).getD rz,q3⟩)⟩
def ag3:List V->Hp->VK->Prop:=λxs H Q=>∃(d:Addr) (kvs:List (Key×V)),xs=[.ref d]/\H d=some (.dK kvs)/\∀p:Addr,H p=none->Q (.ref p) (upd H p (.dK kvs))
def Jl:iI X (.type "dict") ag3:=by
 intro ak s σ H xs us Q I r h;let⟨d,kvs,rfl,hd,q⟩:=h;let⟨u,rfl,F⟩:=vals1 r;cases F;let⟨hz,lo,vs,j,dd⟩:=IK I.hok hd;calc kt_call_dict lo dd (by rw[<-j.length];show hz) λh' D hs=>?_;let lt:sysModules<s.heap.objs.size:=I.big;refine JA (.ref s.heap.objs.size) _ ⟨I.laid (o:=.dK kvs) (t':=s.toks) (λb u e=>?_) (al _) ⟨hz,?_,vs,j,D⟩,rK,q _ (I.hok.fresh (al _))⟩
 .show hs.extBut b u (b8 (ax e)) (ae _ e)
 .show beq_eq_false_iff_ne.mpr (gt lt)
end
def aaf {l:List Nat}{g:TG}{tb:TS}{D:Ends}{σ:St}{H:Hp}(j:Nat->St->Hp->Prop)(h0:j 0 σ H)(hs:∀i c σ H T,l[i]?=some c->j i σ H->H T=none->g (.ref T) σ (upd H T (.tup [.int i,.str (S [c])])) λσ2 F=>tb {D with nx:=j (i+1),ct:=j (i+1),bk:=D.nx} σ2 F)(hd:∀σ H,j l.length σ H->D.nx σ H):Kf (Qw l) g tb D σ H:=W5 l.length j h0 (λi σ H h p=>⟨h,λx H' y=>by let⟨T,c,I,rfl,G,rfl⟩:=y;show hs i c σ _ T G p I⟩) λσ H p=>⟨al _,hd σ H p⟩
end L2
namespace PySem.F
end PySem.F
namespace L2
open PySem PySem.Spec PyProof.Rows PySem.W
section
def acg (a:List Int)(x:Int):(a++[x]).sum=a.sum+x:=by
 induction a with| nil=>simp| cons y r ih=>rw[o6,n9,n9,ih];lia
theorem Aa (ns:List Int):∀k,k<=ns.length->preSum (λi=>ns.getD i 0) k=(ns.take k).sum
 | 0,_=>by simp[preSum]
 | k+1,h=>by
  show preSum (λi=>ns.getD i 0) k+ns.getD k 0=_;let e:ns.take (k+1)=ns.take k++[ns[k]]:=by rw[cw,af h];rfl
  rw[Aa ns k (ap h),e,acg];simp[List.getD,show k<ns.length by lia]
def ag4 (ns:List Int)(b:Int)(hb:0<=b)(h:∀x∈ns,-b<=x/\x<=b):-(b*ns.length)<=ns.sum/\ns.sum<=b*ns.length:=by
 induction ns with
 | nil=>simp
 | cons a r ih=>
  let h1:=h a b9;let h2:=ih λx hx=>h x (bE _ hx);rw[n9,dq];let e:b*((r.length+1:Nat):Int)=b*r.length+b:=by rw[Int.natCast_add,Int.mul_add];simp
  rw[e];lia
end
end L2
namespace L2
open PySem PySem.Spec PyProof.Rows PySem.SeqAt PySem.MeetsSeq PySem.MeetsSeq3 PySem.W
open AutoSeq1 (wpAny_loadPart')
section
variable {X:Cx}
def aag:MtM X "dict.clear" (λx vs H Q=>∃(a:Addr) (kvs:List (Key×V)),x=.ref a/\vs=[]/\H a=some (.dK kvs)/\Q .non (upd H a (.dK []))):=by intro ak s σ H x vs v us Q I J G h;let⟨a,kvs,rfl,rfl,F,q⟩:=h;cases J;let j:=G.zero;subst j;show aef I F λs' D=>(JA .non _ ⟨D,rK,q⟩)
end
end L2
namespace L2
open PySem PySem.Spec PyProof.Rows PySem.W
section
variable {X:Cx}
def aiI (K:W.Frag):List V->Hp->VK->Prop:=λxs H Q=>∃(p:Addr) (ns:List Int),xs=[.ref p]/\bC K H p (ns.map V.int)/\ns.length<=1000/\(∀x∈ns,-1000000000000000<=x/\x<=1000000000000000)/\Q (.int ns.sum) H
def aah (hc:X.calm=true):iI X (.builtin "sum") (aiI X.K):=by
 intro ak s σ H xs us Q I r h;let⟨p,ns,rfl,hq,hn,hb,q⟩:=h;let⟨u,rfl,O⟩:=vals1 r;cases O;let⟨its,rv,pl,hz⟩:=I.list hq;let Z:=rv.length;rw[aa]at Z;let J:p≠s.heap.objs.size:=by let⟨o,G,_⟩:=pl.isList;show b8 (ax G)
 let F:∀(i:Nat) (v:Value),its.toArray[i]?=some v->∃t,v=.int (ns.getD i 0) t:=λi v F=>by
  let F:its[i]?=some v:=by simpa using F
  let hi:i<ns.length:=by have:=(ah.mp F).1;simp_all
  let⟨u,Y,O⟩:=rv.get (i:=i) (x:=.int ns[i]) (by simp[hi]);rw[F]at Y;cases Y;let⟨t,e⟩:=O;show⟨t,by rw[e];simp[List.getD,hi]⟩
 let hsz:its.toArray.size=ns.length:=by simp[Z]
 calc call_sum_walk (io pl.isList ?_);refine JP s.heap.objs.size _ _ _ _ _ _ ⟨rK,Walks.list (A:=X.A.in1) (I.ok.hd hc) s.heap.objs.size p J its.toArray,⟨⟨_,aI _ rK,rK,rK⟩,pl.isList.at λo e=>ae _ e⟩,?_,F,λj hj=>?_,λh' tk t' kk=>?_⟩
 .intro b hb;have:b=s.heap.objs.size\/b=p:=by simpa using hb
  rw[dE];rcases this with e|e;.rw[e];show gT _
  .rw[e];let⟨o,G,_⟩:=pl.isList;show lS (ax G)
 .let D:j<ns.length:=by simp_all
  let h1:=hb _ (a9 D);let e1:ns.getD j 0=ns[j]:=by simp[List.getD,D]
  let h2:=ag4 (ns.take (j+1)) 1000000000000000 qc λx hx=>hb x (cy hx);let hl:(ns.take (j+1)).length<=1000:=by rw[av];lia
  rw[Aa ns (j+1) D,e1];unfold InLong;lia
 .let I1:aP X ak σ H {s with heap:=h',toks:=tk}:=I.kept λb o e=>kk b o (by
   intro hm;have:b=s.heap.objs.size:=by simpa using hm
   subst this;show absurd (ax e) (fk _)) (ae _ e)
  rw[hsz,Aa ns ns.length (al _),cv];show JA (.int _) H ⟨I1,⟨t',rK⟩,q⟩
def tE.rd {kvs:List (Key×V)}{k:Key}(e:Rd H a (.dK kvs)):tE H a (kV k) (dZ kvs k):=.inl (JA kvs k ⟨e,rK,rK⟩)
def Rd.mv (k:aB H H')(r:Rd H a u):Rd H' a u:=by
 rcases r with r|⟨o,r⟩;.show .inl (k _ _ r)
 .show .inr ⟨o,k _ _ r⟩
end
end L2
namespace L2
open PySem PySem.Spec PyProof.Rows
section
variable {X:Cx}{ak:AH}{σ:St}{H:Hp}{s:Shared}
def ag5 (X:Cx)(s:Shared)(x:Str)(u:Value):Prop:=∃m,s.heap.Ns X.env.locals m/\Look X.env s.heap m x u
def ach {E:AE}{x:Str}{u:Value}{pos:Pos}{Q:AE}(I:aP X ak σ H s)(h:ag5 X s x u)(q:Q u s)(hd:(x==("__debug__":Str))=false:=by decide)(F:(x==("__classdict__":Str))=false:=by decide):wpAny (model X.prog X.w) X.A (eval (.Name x pos) X.env) Q E s:=by
 let⟨m,hn,l⟩:=h;rcases l with⟨D,hm⟩|⟨D,c,G,j⟩;.show mS (wpAny_loadName_local I.ok.kind D hn hm q) hd
 .rcases D with D|D;.show mS (wpAny_loadName_cell I.ok.kind D G j q) hd
  .show mS (wpAny_loadName_free I.ok.kind D G j q F) hd
end
end L2
namespace L2
open PySem PySem.Spec PyProof.Rows PySem.Builtin PySem.Builtin.Str
def Ku (x y z:Str)(t u v:Tok)(h0:(u==0||v==0)=false)(D:(y==z)=false)(hl:tooLong (x.length+(occurrences x y 0 x.length (x.length+1)).length*z.length)=false):Gives («str.replace» ⟨[.str x t,.str y u,.str z v],[]⟩) (if (((occurrences x y 0 x.length (x.length+1)).isEmpty||(y.length==0&&z.length==0))||u==v)=true then .val (.str x t) else .str (glued z (partsBetween x (occurrences x y 0 x.length (x.length+1)) y.length))):=by
 show Gives (if ((occurrences x y 0 x.length (x.length+1)).isEmpty||(y.length==0&&z.length==0))=true then (rule "str.replace.nothing" >>= λ_=>ret (.str x t)) else
     (isSame (.str y u) (.str z v) >>= λsame=>if same=true then (rule "str.replace.old-is-new" >>= λ_=>ret (.str x t)) else if tooLong (x.length+(occurrences x y 0 x.length (x.length+1)).length*z.length)=true then unsupported "str.replace:memory" else retStr (glued z (partsBetween x (occurrences x y 0 x.length (x.length+1)) y.length)))) _
 cases F:((occurrences x y 0 x.length (x.length+1)).isEmpty||(y.length==0&&z.length==0))
 .cases j:(u==v)
  .rw[isSame_str_other y z u v h0 j D,hl];show .of_eq rfl
  .let e:isSame (.str y u) (.str z v)=pure true:=by
    show isSame.created (y==z) u v=_;unfold isSame.created;rw[h0,j];rfl
   rw[e];show .rule (.of_eq rK)
 .show .rule (.of_eq rK)
def oR (c:Nat):Nat:=if 65<=c/\c<=90 then 63 else c
theorem Vu:∀j:List Str,(Str.join ⟨#[65]⟩ j).cps.toList.map oR=(Str.join ⟨#[63]⟩ j).cps.toList.map oR
 | []=>rfl
 | [a]=>rfl
 | a::b::r=>by let D:=Vu (b::r);show ((a++⟨#[65]⟩++Str.join ⟨#[65]⟩ (b::r)).cps.toList).map oR=((a++⟨#[63]⟩++Str.join ⟨#[63]⟩ (b::r)).cps.toList).map oR;simp only[Str.cps_append,Array.toList_append,bz,D];rfl
def aeF (l:List Nat)(n:Nat):((glued (S [65]) (partsBetween (S l) (occurrences (S l) (S [63]) 0 (S l).length n) (S [63]).length)).cps.toList).map oR=l.map oR:=by let e:=StrLaws.glued_between_self (S l) (S [63]) n;rw[StrLaws.glued_eq_join]at e ⊢;have:=Vu (partsBetween (S l) (occurrences (S l) (S [63]) 0 (S l).length n) (S [63]).length);rw[show (⟨#[65]⟩:Str)=S [65] from rK,show (⟨#[63]⟩:Str)=S [63] from rK,e]at this;show this
section
variable {X:Cx}
def PEt (X:Cx)(e:Expr)(t:TE):Prop:=∀(ak:AH) (s:Shared) (σ:St) (H:Hp) (Q:VK),aP X ak σ H s->t σ H Q->wpAny (model X.prog X.w) X.A (eval e X.env) (λu s'=>EP X ak σ Q u s'/\0<s'.toks) X.xe s
def aeG {e:Expr}{ta:TE}{f:Str}{pos:Pos}(F:PE X e ta)(hb:attributeBase e f X.env (eval e X.env)=eval e X.env):PEt X (.Attribute e f pos) (Xa X.K ta f):=by intro ak s σ H Q I h;calc U9 hb (b_ (F ak s σ H _ I h) λu s1 J=>?_);let⟨x,H1,j,Y,a,C,dx,fs,v,ex,Z,c,n,l,q⟩:=J;subst ex;obtain rfl:u=Value.ref a:=Y;let⟨mA,O,r,_,_,_⟩:=zf j.hok Z;let⟨u,G,D⟩:=lQ.some_of (v:=v) (o:=mA f) (by rw[<-l];show r f);show get_map j.iZ O (c.get f) c.hd n G (Mr D) ⟨(JA v H1 ⟨j.tok _,D,q⟩),Nat.succ_pos _⟩
def ag6 {a b:Expr}{ta tb:TE}{pos:Pos}{r:R2}(F:Gd X r)(ha:PEt X a ta)(hb:PE X b tb)(hs:Ey b):PEt X (.Subscript a b pos) (Ga r ta tb):=by intro ak s σ H Q I h;calc Subscript_ (b_ (ha ak s σ H _ I h) λv s1 z=>?_);obtain⟨⟨x,H1,D,r1,q1⟩,G⟩:=z;calc Py (eK (hb ak s1 σ H1 _ D q1) (λu s2 z ht=>?_) λ_ _ z _=>z);let⟨y,O,J,Y,q2⟩:=z;show Py (eK (F a b ak s2 σ O x y v u Q J r1 Y q2 (hs _ _)) (λw Z z j=>⟨z,cE G (bP ht j)⟩) λ_ _ z _=>z)
def ag7 (ix:Nat):TE:=λσ H Q=>∃l:List Nat,σ[ix]?=some (some (.str (S l)))/\l.length<=63/\∀j:List Nat,j.map oR=l.map oR->Q (.str (S j)) H
def ag8 {e1:Expr}{t1:TE}{x g:Str}{ix:Nat}{px pg apos cpos G:Pos}{j:Nat}{z:Str}(h1:PEt X e1 t1)(hN:X.N[ix]?=some x)(hv:U4 X.env.scope x)(hg:Gl X g)(hm:∃t,t≠0/\X.mg g=some (.str (S [63]) t))(hz:z=S [65])(hst:starEach [e1,.Call (.Attribute (.Name x px) "replace" apos) [.Name g pg,.Constant (.str z) j G] [] cpos] X.env=[(false,eval e1 X.env),(false,eval (.Call (.Attribute (.Name x px) "replace" apos) [.Name g pg,.Constant (.str z) j G] [] cpos) X.env)])(J:((backTo cpos (starEach [.Name g pg,.Constant (.str z) j G] X.env)).all (λx=>!x.1)&&(backToKw cpos (keywordEach [] X.env)).all (λx=>x.1.isSome)&&decide ([Expr.Name g pg,.Constant (.str z) j G].length+([]:List Keyword).length+(if ([]:List Keyword).isEmpty then 0 else 1)<30))=true)(D:(apos.endLine==cpos.line)=true)(hd:(x==("__debug__":Str))=false)(hcd:(x==("__classdict__":Str))=false)(hgd:(g==("__debug__":Str))=false):PA X [e1,.Call (.Attribute (.Name x px) "replace" apos) [.Name g pg,.Constant (.str z) j G] [] cpos] (vp t1 (vp (ag7 ix) zV)):=by
 subst hz;let⟨tB,hB,hm⟩:=hm;intro pos ak s σ H Q I h;rw[hst];show wpAny _ _ (spliced ((false,eval e1 X.env)::(false,eval _ X.env)::[])) _ _ s;calc eQ (b_ (h1 ak s σ H _ I h) λu s1 y=>?_);obtain⟨⟨x1,H1,Z,r1,l,hl,h63,q⟩,tk⟩:=y;let⟨m,hn,hlm⟩:=id Z.loc;obtain⟨ur,⟨tr,er⟩,lr⟩:=hlm ix x _ hN hl hv;subst er;let exr:ag5 X s1 x (.str (S l) tr):=⟨m,hn,lr⟩
 calc eQ (wpAny_Call_method_late rK J D rK (ach Z exr ?_ hd hcd));calc JA ("str") ("str.replace") ⟨bo,PySem.F.slot_str_replace,PySem.F.type_str_replace,typeIs_str s1 _ tr,λ_ e=>(nomatch e),?_⟩;calc f_ rK (gu ?_);show wpAny _ _ (spliced ((false,eval (.Name g pg) X.env)::(false,eval (.Constant (.str (S [65])) j G) X.env)::[])) _ _ _;calc eQ (o8 Z hg hm (eQ (Calls.Constant_str (gL ?_))) hgd);let cU:=StrLaws.occ_length_le (S l) (S [63]) 0 (S l).length ((S l).length+1);let hsl:(S l).length=l.length:=qY l;let Iz:tooLong ((S l).length+(occurrences (S l) (S [63]) 0 (S l).length ((S l).length+1)).length*(S [65]).length)=false:=by unfold tooLong sizeLine;rw[show (S [65]).length=1 from rfl];show ag p_
 refine call_gives F.slot_str_replace (typeIs_str _ _ tr) F.entry_str_replace (F.args_str_replace_3 _ _ _) (Ku (S l) (S [63]) (S [65]) tr tB s1.toks ?_ rK Iz) ?_
 .have:s1.toks≠0:=gt tk;simp[*]
 let Y:∀(O:List Nat) (t':Tok) (k:Nat),O.map oR=l.map oR->AP X ak σ Q [u,.str (S O) t'] {s1 with toks:=k}:=λO t' k e=>(JA [x1,.str (S O)] H1 ⟨Z.tok _,.cons r1 (.cons ⟨_,rK⟩ .nil),q O e⟩)
 split;.show gL (Y l _ _ rK)
 .calc⟨?_,gL ?_⟩;.show fits_replaced (S [63]) (by rw[hsl,show (S [65]).length=1 from rfl];lia)
  .show Y _ _ _ (aeF l _)
end
structure QEt (X:Cx)(e:Expr)(t:TE):Prop where
 out:PEt X e t
end L2
namespace L2
open PySem PySem.Spec PyProof.Rows
section
variable {X:Cx}
def aeH {e:Expr}{ta:TE}{f:Str}{pos:Pos}(j:QE X e ta)(hb:attributeBase e f X.env (eval e X.env)=eval e X.env):QEt X (.Attribute e f pos) (Xa X.K ta f):=⟨aeG j.out hb⟩
def ag9 {a b:Expr}{ta tb:TE}{pos:Pos}{r:R2}(j:Gd X r)(ha:QEt X a ta)(hb:QE X b tb)(hs:Ey b):QEt X (.Subscript a b pos) (Ga r ta tb):=⟨ag6 j ha.out hb.out hs⟩
def aha {e1:Expr}{Z:TE}{x g:Str}(ix:Nat){Y pg apos cpos F:Pos}{j:Nat}{z:Str}(h1:QEt X e1 Z)(hm:∃t,t≠0/\X.mg g=some (.str (S [63]) t))(hN:X.N[ix]?=some x)(hv:U4 X.env.scope x)(hg:Gl X g)(hz:z=S [65])(O:starEach [e1,.Call (.Attribute (.Name x Y) "replace" apos) [.Name g pg,.Constant (.str z) j F] [] cpos] X.env=[(false,eval e1 X.env),(false,eval (.Call (.Attribute (.Name x Y) "replace" apos) [.Name g pg,.Constant (.str z) j F] [] cpos) X.env)])(G:((backTo cpos (starEach [.Name g pg,.Constant (.str z) j F] X.env)).all (λx=>!x.1)&&(backToKw cpos (keywordEach [] X.env)).all (λx=>x.1.isSome)&&decide ([Expr.Name g pg,.Constant (.str z) j F].length+([]:List Keyword).length+(if ([]:List Keyword).isEmpty then 0 else 1)<30))=true)(D:(apos.endLine==cpos.line)=true)(hd:(x==("__debug__":Str))=false:=by decide)(J:(x==("__classdict__":Str))=false:=by decide)(I:(g==("__debug__":Str))=false:=by decide):QA X [e1,.Call (.Attribute (.Name x Y) "replace" apos) [.Name g pg,.Constant (.str z) j F] [] cpos] (vp Z (vp (ag7 ix) zV)):=⟨ag8 h1.out hN hv hg hm hz O G D hd J I⟩
end
end L2
namespace L2
open PySem PySem.Spec PyProof.Rows PySem.W
def Xu (l)(j:Array Value)(n)(dd)(sl)(u:Tok)(h0:¬j.isEmpty=true):Meets (Builtin.«tuple.__mul__» ⟨[.ref l,.int 1 u],[]⟩) (λ_ R s=>s.heap.get? l=some {cls:=.type "tuple",dict:=dd,data:=.seq j n,slots:=sl}/\R (.ok (.ret (.ref l))) s):=
 .of_wp λprog w A R s h=>by
  let⟨hp,g,d,tk,os⟩:=s;let⟨hl,h⟩:=h;let f1:=AutoSeq1.idx_int;let f2:=AutoSeq1.sub_tuple_tuple
  wp_walk using jS hl
  show⟨_,rK,h⟩
section
variable {X:Cx}
def aiJ (K:W.Frag):R2:=λx y H Q=>∃a xs,∃n:Nat,x=.ref a/\y=.int n/\H a=some (.tup xs)/\xs≠[]/\1<=n/\n<=100/\xs.length<=100/\∀p H',aB H H'->H' p=some (.tup (List.replicate n xs).flatten)->Q (.ref p) H'
def Vv:fZ X (binaryOp .Mult) (aiJ X.K):=by
 intro ak s σ H x y v u Q I J F h;let⟨a,xs,n,rfl,rfl,ha,hx,n1,D,O,q⟩:=h;by_cases h2:2<=n;.show aey ak s σ H _ _ v u Q I J F (JE a xs n ⟨rK,rK,aN.of ha,hx,h2,D,O,λp hp=>q p _ (aB.upd hp) aq⟩)
 .let e:n=1:=p_;subst e;cases J;let⟨tk,rfl⟩:=F;let⟨its,r1,p1,_⟩:=I.tuple (aN.of ha);obtain⟨⟨cls,dd,data,sl⟩,j,G,m,hd⟩:=id p1;simp only at G hd;subst G hd;let h0:¬its.toArray.isEmpty=true:=λz=>hx (r1.zj.mp (by simpa using z));refine kQ (T:="tuple") (U:="int") qc ⟨_,j,rK⟩ (λs'=>typeIs_int s' _ _) wD PySem.F.fills_int_mul ko CN PySem.F.slot_int_index.lookup
   (call_meets ko (typeIs_int s _ _) PySem.F.entry_int_rmul (PySem.F.args_int_rmul_2 _ _) (Ji _ _ a its.toArray m dd sl) ⟨j,rK,⟨_,j,rK⟩,?_⟩)
  calc call_meets ke ⟨_,j,rK⟩ PySem.F.entry_tuple_mul (PySem.F.args_tuple_mul_2 _ _) (Xu a its.toArray m dd sl _ h0) ⟨j,?_⟩;show JA (.ref a) H ⟨I,rK,q a H (aB.refl _) (by simpa using ha)⟩
end
def aiK (K:W.Frag)(C:Addr)(tb:XK->St->TS)(th:TS):TS:=λD σ H=>∃E:XK,tb E σ D σ H/\∀(a:Addr) (cls:Value) (dd:Option Addr) (H':Hp),E cls dd H'->H' a=none->
 exmOne K cls (.ref C)=some true/\th D σ (upd H' a (.ext (agZ a cls dd)))
section
variable {X:Cx}{C:Addr}{x:Str}{np hpos pos:Pos}{body suite:List Stmt}{b0:Stmt}{tb:XK->St->TS}{th:TS}
def aeI (j:X.stack=X.env::X.outer)(hf:X.env.frame=some X.env.locals)(hg:Gl X x)(hm:X.mg x=some (.ref C))(hb:∀(pn:AH) (xe:AE) (E:XK) (σ0:St),PassesOwn (model X.prog X.w) X.A X.env xe->zu (CK X.prog X.w) (X.tried pn xe) E (·=σ0)->xH (X.tried pn xe) body (tb E σ0))(hh:∀a,xH (X.held a) (b0::suite) th)(hdb:(x==("__debug__":Str))=false:=by decide):QS X (.Try body [.ExceptHandler (some (.Name x np)) none (b0::suite) hpos] [] [] pos) (aiK X.K C tb th):=⟨by
 intro ak s σ H D I h;let⟨E,G,Y⟩:=h;let hp:PassesOwn (model X.prog X.w) X.A X.env (λe s₁=>wpAny (model X.prog X.w) X.A (noteFrame e X.env) (λ_ s₂=>wpAny (model X.prog X.w) X.A (setFlight e none) (λ_ s₃=>wpAny (model X.prog X.w) X.A (handleBy e X.env [.ExceptHandler (some (.Name x np)) none (b0::suite) hpos]) (SP X ak D) X.xe s₃) X.xe s₂) X.xe s₁):=PassesOwn.looking;let hP:zu (CK X.prog X.w) (X.tried (X.pn++ak) (λe s₁=>wpAny (model X.prog X.w) X.A (noteFrame e X.env) (λ_ s₂=>wpAny (model X.prog X.w) X.A (setFlight e none) (λ_ s₃=>wpAny (model X.prog X.w) X.A (handleBy e X.env [.ExceptHandler (some (.Name x np)) none (b0::suite) hpos]) (SP X ak D) X.xe s₃) X.xe s₂) X.xe s₁)) E (·=σ):=by
  intro Il σ' H1 s1 e s2 I1 O hq;let⟨a,cls,dd,H',B,ea,ex,q⟩:=hq;subst ea;let J:=I1.tG;let O:σ'=σ:=O;subst O;let fl:wB B (X.env::X.outer) a cls dd .none s2.heap:=by rw[<-j];show ex.fly
  let Z:X.A.frames=some (X.env::X.outer):=by rw[<-j];show J.ok.frames
  let⟨hmt,hsu⟩:=Y a cls dd H' q ex.na;calc Vp Z hf fl λh1 y1 k1=>vC y1 λh2 y2 k2=>?_;let I2:=J.caught ex (by rw[j];show y2) (k1.trans k2);calc wpAny_handleBy_cons (codeAny_handlers_test (o8 (X:=X.held a) (I2.held a) hg hm ?_ hdb)) (by intro q;cases q);let LT:Looks (model X.prog X.w) h2 (typeOf (.ref a)) cls:=by let⟨oe,_,_,_,_,he,hc,_⟩:=y2.tr;show hc ▸ (Looks.ld he).andThen .now
  calc(exm_one (K:=X.K) I2.iZ LT hmt).here ?_;calc codeAny_handlers_suite (vC y2 λh3 y3 k3=>?_);let I3:=J.caught ex (by rw[j];show y3) ((k1.trans k2).trans k3);calc eK ((hh a).out ak _ _ _ D (I3.held a) hsu) (λf s5 hs=>?_) λ_ _ z=>z.elim;cases f with
  | next=>let⟨σ5,H5,F,q5⟩:=hs;show JA _ _ ⟨F.Jh J.ok,q5⟩
  | brk=>let⟨σ5,H5,F,q5⟩:=hs;show JA _ _ ⟨F.Jh J.ok,q5⟩
  | cont=>let⟨σ5,H5,F,q5⟩:=hs;show JA _ _ ⟨F.Jh J.ok,q5⟩
  | ret u=>let⟨v,σ5,H5,F,r5,q5⟩:=hs;show JE v _ _ ⟨F.Jh J.ok,r5,q5⟩
 calc wpAny_Try_except (eK ((hb _ _ E σ hp hP).out [] s σ H D (I.tried _) G) (λf s1 hs=>?_) λe s1 z=>z);let hs:=hs.tG;cases f with
 | next=>let⟨σ',H',I',q⟩:=hs;show(bI (X:=X)).out ak s1 σ' H' D I' q
 | brk=>show hs
 | cont=>show hs
 | ret u=>show hs⟩
end
section
variable {X:Cx}
def aai (hc:X.calm=true):iI X (.builtin "min") (λxs H Q=>∃(p:Addr) (ns:List Int),xs=[.ref p]/\aN X.K H p (ns.map V.int)/\0<ns.length/\∀m∈ns,(∀x∈ns,m<=x)->Q (.int m) H):=by
 intro ak s σ H xs us Q I r h;let⟨p,ns,rfl,hq,h0,q⟩:=h;let⟨u,rfl,J⟩:=vals1 r;cases J;let⟨its,Z,pl,hz⟩:=I.tuple hq;let Y:=Z.length;rw[aa]at Y;let G:p≠s.heap.objs.size:=by let⟨o,F,_⟩:=pl;show b8 (ax F)
 let hb:∀(i:Nat) (v:Value),its.toArray[i]?=some v->∃t,v=.int (ns.getD i 0) t:=λi v D=>by
  let D:its[i]?=some v:=by simpa using D
  let hi:i<ns.length:=by have:=(ah.mp D).1;lia
  let⟨u,O,J⟩:=Z.get (i:=i) (x:=.int ns[i]) (by simp[hi]);rw[D]at O;cases O;let⟨t,e⟩:=J;show⟨t,by rw[e];simp[List.getD,hi]⟩
 calc call_min_walk (kS (show s.heap.IsTuple p its.toArray from pl) ?_);refine JP s.heap.objs.size _ _ _ _ _ _ ⟨rK,Walks.tuple (A:=X.A.in1) (I.ok.hd hc) s.heap.objs.size p G its.toArray,⟨⟨_,aI _ rK,rK,rK⟩,pl.push _⟩,?_,by simp;lia,CmpOf.ints_lt (λi=>ns.getD i 0) hb,λv h' tk hP kk=>?_⟩
 .intro b hb;have:b=s.heap.objs.size\/b=p:=by simpa using hb
  rw[dE];rcases this with e|e;.rw[e];show gT _
  .rw[e];let⟨o,F,_⟩:=pl;show lS (ax F)
 .let I1:aP X ak σ H {s with heap:=h',toks:=tk}:=I.kept λb o e=>kk b o (by
   intro hm;have:b=s.heap.objs.size:=by simpa using hm
   subst this;show absurd (ax e) (fk _)) (ae _ e)
  let⟨k1,k2⟩:=argBest_lt (λi=>ns.getD i 0) (its.toArray.size-1);let hsz:its.toArray.size=ns.length:=by simp[Y]
  let⟨t,e⟩:=hb _ v hP;generalize argBest _ _=j at k1 k2 e;let hj:j<ns.length:=p_;calc JA (.int (ns.getD j 0)) H ⟨I1,⟨t,e⟩,q _ (by simp[List.getD,hj]) λx hx=>?_⟩;let⟨i,hi,rfl⟩:=ir.mp hx;have:=k2 i p_;simpa [List.getD,hi] using this
end
def aeJ {K:W.Frag}{a b:Addr}{xs ys:List V}{g:TG}{tb:TS}{D:Ends}{σ:St}{H:Hp}(Y:xs.length=ys.length)(j:Nat->St->Hp->Prop)(h0:j 0 σ H)(hl:∀i σ H,i<=xs.length->j i σ H->aN K H a xs/\aN K H b ys)(hs:∀i x y σ H T,xs[i]?=some x->ys[i]?=some y->j i σ H->H T=none->g (.ref T) σ (upd H T (.tup [x,y])) λσ2 G=>tb {D with nx:=j (i+1),ct:=j (i+1),bk:=D.nx} σ2 G)(hd:∀σ H,j xs.length σ H->D.nx σ H):∃W:Nat->Nat->St->Hp->Prop,(∃m,W 0 m σ H)/\∀i m σ H,W i m σ H->
   ((Z7 K a b).stop i H/\D.nx σ H)\/((Z7 K a b).go i H/\∃N:St->Hp->Prop,(∀σ' H',N σ' H'->∃I,I<m/\W (i+1) I σ' H')/\∀x H',(Z7 K a b).Im i H x H'->g x σ H' λσ2 G=>tb {D with nx:=N,ct:=N,bk:=D.nx} σ2 G):=by
 calc⟨λi m σ H=>m=xs.length-i/\i<=xs.length/\j i σ H,⟨xs.length,qa,ej _,h0⟩,?_⟩;intro i m σ H z;let⟨rfl,hi,p⟩:=z;let⟨q1,q2⟩:=hl i σ H hi p;by_cases F:i<xs.length
 .calc .inr ⟨(JI xs ys (xs[i]) (ys[i]) ⟨q1,q2,by simp[F],by simp[show i<ys.length by lia]⟩),j (i+1),λσ' H' J=>⟨xs.length-(i+1),p_,rK,F,J⟩,λt H' y=>?_⟩;let⟨T,x,y,O,rfl,hx,hy,rfl⟩:=y;show hs i x y σ H T (hx xs q1) (hy ys q2) p O
 .let e:i=xs.length:=p_;subst e;show .inl ⟨⟨xs,q1,al _⟩,hd σ H p⟩
end L2
namespace L2
open PySem
theorem eS {n:Nat}{P:List Value->Prop}(h:∀a us,us.length=n->P (a::us)):∀us,us.length=n+1->P us
 | a::us,e=>h a us (Nat.succ.inj e)
@[elab_as_elim] theorem e1 {P:List Value->Prop} (h:∀a,P [a]) (us:List Value) (hl:us.length=1):P us:=eS (λa us e=>(by rw[List.eq_nil_of_length_eq_zero e];show h a)) us hl
@[elab_as_elim] theorem e2 {P:List Value->Prop} (h:∀a b,P [a,b]) (us:List Value) (hl:us.length=2):P us:=eS (λa us e=>e1 (P:=λr=>P (a::r)) (h a) us e) us hl
@[elab_as_elim] theorem e3 {P:List Value->Prop} (h:∀a b c,P [a,b,c]) (us:List Value) (hl:us.length=3):P us:=eS (λa us e=>e2 (P:=λr=>P (a::r)) (h a) us e) us hl
@[elab_as_elim] theorem e4 {P:List Value->Prop} (h:∀a b c d,P [a,b,c,d]) (us:List Value) (hl:us.length=4):P us:=eS (λa us e=>e3 (P:=λr=>P (a::r)) (h a) us e) us hl
@[elab_as_elim] theorem e5 {P:List Value->Prop} (h:∀a b c d e,P [a,b,c,d,e]) (us:List Value) (hl:us.length=5):P us:=eS (λa us e=>e4 (P:=λr=>P (a::r)) (h a) us e) us hl
@[elab_as_elim] theorem e6 {P:List Value->Prop} (h:∀a b c d e f,P [a,b,c,d,e,f]) (us:List Value) (hl:us.length=6):P us:=eS (λa us e=>e5 (P:=λr=>P (a::r)) (h a) us e) us hl
@[elab_as_elim] theorem e7 {P:List Value->Prop} (h:∀a b c d e f g,P [a,b,c,d,e,f,g]) (us:List Value) (hl:us.length=7):P us:=eS (λa us e=>e6 (P:=λr=>P (a::r)) (h a) us e) us hl
@[elab_as_elim] theorem e8 {P:List Value->Prop} (h:∀a b c d e f g i,P [a,b,c,d,e,f,g,i]) (us:List Value) (hl:us.length=8):P us:=eS (λa us e=>e7 (P:=λr=>P (a::r)) (h a) us e) us hl
end L2
namespace My
open PySem L2
def top (i:Nat):Stmt:=PySem.Challenge.pw_letterrack_k60_deeds_done.main.body.getD i (.Pass ⟨0,0,0,0⟩)
noncomputable abbrev jW:Stmt:=inClass (top 4) 0
def Kv:aZ ["self","word"] ["self","word"] (aH jW):={}
noncomputable abbrev j_:Stmt:=inClass (top 7) 0
def Ob:aZ ["self","row","column"] ["self","row","column"] (aH j_):={}
noncomputable abbrev nG:Stmt:=inClass (top 9) 0
def T8:aZ ["self","row","column"] ["self","row","column"] (aH nG):={}
noncomputable abbrev jo:Stmt:=inClass (top 11) 0
def Jm:aZ ["self","tile"] ["self","tile"] (aH jo):={}
noncomputable abbrev rB:Stmt:=top 16
def Gf:aZ ["thing"] ["thing"] (aH rB):={}
noncomputable abbrev xM:Stmt:=top 17
def Xv:aZ ["thing"] ["thing"] (aH xM):={}
noncomputable abbrev ud:Stmt:=top 18
def QD:aZ ["sign"] ["sign"] (aH ud):={}
noncomputable abbrev xO:Stmt:=top 19
def Xw:aZ ["sign"] ["sign"] (aH xO):={}
noncomputable abbrev xP:Stmt:=top 20
def vG:aZ ["rack","signs","tiles","sign","tile"] ["rack","signs"] (aH xP):={}
noncomputable abbrev vH:Stmt:=top 25
def uf:aZ ["thing","width"] ["thing"] (aH vH):={}
noncomputable abbrev vI:Stmt:=top 26
def Gg:aZ ["thing"] ["thing"] (aH vI):={}
noncomputable abbrev ug:Stmt:=top 27
def CV:aZ ["thing"] ["thing"] (aH ug):={}
noncomputable abbrev oU:Stmt:=top 28
def Bx:aZ ["rows","row","column"] ["rows","row","column"] (aH oU):={}
noncomputable abbrev qg:Stmt:=top 29
def Kw:aZ ["rows","thing"] ["rows","thing"] (aH qg):={}
noncomputable abbrev vJ:Stmt:=top 30
def T9:aZ ["rows","marks","begin"] ["rows","marks","begin"] (aH vJ):={}
noncomputable abbrev qj:Stmt:=top 31
def zx:aZ ["rows","column"] ["rows","column"] (aH qj):={}
noncomputable abbrev kh:Stmt:=inClass (top 32) 0
def Oc:aZ ["self","rows","marks","begin"] ["self","rows","marks","begin"] (aH kh):={}
noncomputable abbrev nH:Stmt:=inClass (top 32) 1
def T_:aZ ["self","row","column"] ["self","row","column"] (aH nH):={}
noncomputable abbrev iU:Stmt:=inClass (top 32) 2
def wF:aZ ["self"] ["self"] (aH iU):={}
noncomputable abbrev lY:Stmt:=inClass (top 32) 3
def mV:aZ ["self","row","column","way","line","place","ahead","signs","first"] ["self","row","column","way"] (aH lY):={}
noncomputable abbrev kj:Stmt:=inClass (top 32) 5
def lu:aZ ["self","laying","lines","row","column","sign"] ["self","laying"] (aH kj):={}
noncomputable abbrev uh:Stmt:=top 35
def QF:aZ ["board","thing"] ["board","thing"] (aH uh):={}
noncomputable abbrev um:Stmt:=top 36
def wG:aZ ["board","thing","cells"] ["board","thing"] (aH um):={}
noncomputable abbrev vK:Stmt:=top 37
def Ua:aZ ["laying"] ["laying"] (aH vK):={}
noncomputable abbrev pY:Stmt:=top 38
def CZ:aZ ["laying"] ["laying"] (aH pY):={}
noncomputable abbrev xQ:Stmt:=top 39
def Xx:aZ ["laying"] ["laying"] (aH xQ):={}
noncomputable abbrev lD:Stmt:=top 40
def oH:aZ ["board","row","column","around"] ["board","row","column"] (aH lD):={}
noncomputable abbrev Ab:Stmt:=top 41
def lE:aZ ["board","laying","after","way","asked","row","column","words","along","run"] ["board","laying"] (aH Ab):={}
noncomputable abbrev rC:Stmt:=top 42
def ql:aZ ["board","laying","row","column","sign"] ["board","laying"] (aH rC):={}
noncomputable abbrev nJ:Stmt:=top 43
def FQ:aZ ["laying"] ["laying"] (aH nJ):={}
noncomputable abbrev rD:Stmt:=top 44
def qm:aZ ["board","laying","after","row","column"] ["board","laying"] (aH rD):={}
noncomputable abbrev pA:Stmt:=top 45
def rE:aZ ["board","laying","joined"] ["board","laying"] (aH pA):={}
noncomputable abbrev qp:Stmt:=top 46
def jq:aZ ["board","book","laying","words","row","column","way","signs","word"] ["board","book","laying"] (aH qp):={}
noncomputable abbrev pB:Stmt:=top 47
def Jo:aZ ["board","book","rack","laying"] ["board","book","rack","laying"] (aH pB):={}
noncomputable abbrev vL:Stmt:=top 51
def Ub:aZ ["worths","sign"] ["worths","sign"] (aH vL):={}
noncomputable abbrev xR:Stmt:=top 52
def Xy:aZ ["word","place"] ["word","place"] (aH xR):={}
noncomputable abbrev qu:Stmt:=top 53
def eG:aZ ["board","worths","laying","word","cells","total","times","place","sign","cell","worth","mark"] ["board","worths","laying","word"] (aH qu):={}
noncomputable abbrev vM:Stmt:=top 54
def Uc:aZ ["bonus","laying"] ["bonus","laying"] (aH vM):={}
noncomputable abbrev uo:Stmt:=top 55
def C_:aZ ["board","worths","bonus","laying","counted"] ["board","worths","bonus","laying"] (aH uo):={}
noncomputable abbrev qw:Stmt:=top 57
def Ky:aZ ["rack","laying"] ["rack","laying"] (aH qw):={}
noncomputable abbrev uq:Stmt:=top 60
def Dc:aZ ["thing"] ["thing"] (aH uq):={}
noncomputable abbrev xT:Stmt:=top 61
def Xz:aZ ["thing"] ["thing"] (aH xT):={}
noncomputable abbrev vN:Stmt:=top 62
def Ud:aZ ["tiles"] ["tiles"] (aH vN):={}
noncomputable abbrev uw:Stmt:=top 63
def QH:aZ ["things","place","thing"] ["things","place","thing"] (aH uw):={}
noncomputable abbrev kE:Stmt:=inClass (top 64) 0
def Od:aZ ["self","board","racks","bag","points"] ["self","board","racks","bag","points"] (aH kE):={}
noncomputable abbrev oJ:Stmt:=top 65
def jr:aZ ["stand","turn","size","laying","points","left","many","rack","racks","sums"] ["stand","turn","size","laying","points"] (aH oJ):={}
noncomputable abbrev qx:Stmt:=top 66
def mW:aZ ["stand","turn","tiles","left","many","rack","bag"] ["stand","turn","tiles"] (aH qx):={}
noncomputable abbrev lZ:Stmt:=inClass (top 67) 0
def Dd:aZ ["self","board","book","worths","bonus","size","racks","bag"] ["self","board","book","worths","bonus","size","racks","bag"] (aH lZ):={}
noncomputable abbrev oV:Stmt:=inClass (top 67) 1
def nO:aZ ["self","deed","stand","turn","points"] ["self","deed"] (aH oV):={}
noncomputable abbrev iB:Stmt:=inClass (top 67) 3
def FT:aZ ["self"] ["self"] (aH iB):={}
noncomputable abbrev iC:Stmt:=inClass (top 67) 4
def FW:aZ ["self"] ["self"] (aH iC):={}
noncomputable abbrev ju:Stmt:=inClass (top 67) 5
def Jp:aZ ["self"] ["self"] (aH ju):={}
noncomputable abbrev gW:Stmt:=inClass (top 67) 6
def Df:aZ ["self"] ["self"] (aH gW):={}
noncomputable abbrev mj:Stmt:=inClass (top 67) 7
def QJ:aZ ["self"] ["self"] (aH mj):={}
noncomputable abbrev jw:Stmt:=inClass (top 67) 8
def oK:aZ ["self","racks","many","last"] ["self"] (aH jw):={}
noncomputable abbrev xU:Stmt:=top 69
def Jq:aZ ["text"] ["text"] (aH xU):={}
noncomputable abbrev rF:Stmt:=top 70
def Oe:aZ ["text"] ["text"] (aH rF):={}
noncomputable abbrev mq:Stmt:=inClass (top 71) 0
def Dg:aZ ["self","words","word"] ["self","words"] (aH mq):={}
noncomputable abbrev kI:Stmt:=inClass (top 71) 1
def Og:aZ ["self"] ["self"] (aH kI):={}
noncomputable abbrev nP:Stmt:=inClass (top 71) 2
def Ue:aZ ["self","text"] ["self","text"] (aH nP):={}
noncomputable abbrev iV:Stmt:=inClass (top 71) 4
def G3:aZ ["self","word"] ["self","word"] (aH iV):={}
noncomputable abbrev mz:Stmt:=inClass (top 71) 6
def QK:aZ ["self"] ["self"] (aH mz):={}
noncomputable abbrev xV:Stmt:=top 73
def XC:aZ ["_law_script","_law_k"] ["_law_script","_law_k"] (aH xV):={}
noncomputable abbrev Ac:Stmt:=top 74
def m_:aZ ["_law_cell","_law_many","_law_found","_law_number","_law_k"] ["_law_cell","_law_many"] (aH Ac):={}
noncomputable abbrev xW:Stmt:=top 75
def rG:aZ ["_law_cell","_law_letters_here","_law_found","_law_k"] ["_law_cell"] (aH xW):={}
noncomputable abbrev Fg:Stmt:=top 76
def mC:aZ ["_law_cell","_law_letters_here","_law_words_here","_law_number","_law_size","_law_word","_law_rest","_law_k"] ["_law_cell","_law_letters_here"] (aH Fg):={}
noncomputable abbrev Jr:Stmt:=top 77
def jR:aZ ["_law_cell","_law_letters_here","_law_rows_here","_law_columns","_law_signs","_law_marks","_law_number","_law_sign","_law_begin","_law_texts","_law_some"] ["_law_cell","_law_letters_here"] (aH Jr):={}
noncomputable abbrev Fi:Stmt:=top 78
def wH:aZ ["_law_cell","_law_letters_here","_law_many","_law_blanks","_law_tiles_here","_law_number"] ["_law_cell","_law_letters_here","_law_many","_law_blanks"] (aH Fi):={}
noncomputable abbrev Fj:Stmt:=top 79
def fB:aZ ["_law_script","_law_letters_here","_law_cell","_law_size","_law_many","_law_few","_law_tiles_here","_law_racks","_law_k","_law_less","_law_worths","_law_letter","_law_bonus","_law_rows_here","_law_marks","_law_begin","_law_board","_law_words_here"] ["_law_script"] (aH Fj):={}
noncomputable abbrev Fl:Stmt:=top 80
def G4:aZ ["_law_parts_here","_law_racks"] ["_law_parts_here"] (aH Fl):={}
noncomputable abbrev ux:Stmt:=top 81
def gH:aZ ["_law_rows_here","_law_word","_law_place","_law_rack","_law_row","_law_column","_law_way","_law_left","_law_laying_here","_law_letter","_law_tile"] ["_law_rows_here","_law_word","_law_place","_law_rack"] (aH ux):={}
noncomputable abbrev Js:Stmt:=top 82
def aeK:aZ ["_law_board","_law_book","_law_rack","_law_laying_here"] ["_law_board","_law_book","_law_rack","_law_laying_here"] (aH Js):={}
noncomputable abbrev Ad:Stmt:=top 83
def uM:aZ ["_law_board","_law_book","_law_words_here","_law_rack","_law_cell","_law_number","_law_place","_law_laying_here"] ["_law_board","_law_book","_law_words_here","_law_rack","_law_cell"] (aH Ad):={}
noncomputable abbrev Jt:Stmt:=top 84
def jT:aZ ["_law_now","_law_book","_law_words_here","_law_cell","_law_board","_law_racks","_law_bag","_law_sums","_law_done","_law_passed","_law_over","_law_numbers","_law_rack","_law_laying_here","_law_many","_law_by"] ["_law_now","_law_book","_law_words_here","_law_cell"] (aH Jt):={}
noncomputable abbrev zy:Stmt:=top 85
def tK:aZ ["_law_rack","_law_tiles_here","_law_left","_law_tile"] ["_law_rack","_law_tiles_here"] (aH zy):={}
noncomputable abbrev Ju:Stmt:=top 86
def gA:aZ ["_law_now","_law_parts_here","_law_deed_here","_law_board","_law_racks","_law_bag","_law_sums","_law_done","_law_passed","_law_over","_law_here","_law_points","_law_left","_law_drawn"] ["_law_now","_law_parts_here","_law_deed_here"] (aH Ju):={}
noncomputable abbrev Ae:Stmt:=top 87
def lF:aZ ["_law_game","_law_now","_law_board","_law_racks","_law_bag","_law_sums","_law_done","_law_passed","_law_over","_law_there"] ["_law_game","_law_now"] (aH Ae):={}
noncomputable abbrev Fo:Stmt:=top 88
def G5:aZ ["_law_game","_law_rack","_law_sum_of"] ["_law_game"] (aH Fo):={}
noncomputable abbrev Pa:Stmt:=top 89
def mX:aZ ["_law_script","_law_parts_here","_law_book","_law_worths","_law_game","_law_now","_law_rules","_law_word","_law_cell","_law_deed_here","_law_points","_law_found"] ["_law_script"] (aH Pa):={}
section
variable {P:Program}{w:World}{K:W.Frag}{mg:Str->Option Value}{base:Heap}
def Dh (c:Nat):Bool:=decide (97<=c)&&decide (c<=122)
def Gh (c:Nat):Bool:=decide (65<=c)&&decide (c<=90)
def Di (l:List Nat):Bool:=match l with|[c]=>Dh c||Gh c|_=>false
def lt1 (a b:Nat):([a]<[b])↔a<b:=by simp[ii]
def Kz (a b:Nat):(!decide ([a]<[b]))=decide (b<=a):=by
 by_cases h:a<b;.rw[ai ((lt1 a b).mpr h),ag p_];rfl
 .rw[ag (λz=>h ((lt1 a b).mp z)),ai p_];rfl
def adJ (K:W.Frag)(H:Hp)(x:V):Prop:=∃t,lR K H x t/\W.kitOne K t (.type "str")=some false
def QM (K:W.Frag):Sp:=λvs H Q _=>(∃x,vs=[x]/\adJ K H x/\Q (.bl false) H)\/(∃l,vs=[.str (S l)]/\l.length<=1000/\Q (.bl (Di l)) H)
def XF (D:aM K mg "is_sign" xM ["thing"])(O:mg "len"=none)(F:mg "str"=none)(I:mg "isinstance"=none):bU P w K mg base "is_sign" 1 ["thing"] (QM K):=by
 refine D.dh Xv (λf bH A outer s H vs Q E Y h=>?_) (λvs H Q E h=>?_)
 .refine⟨_,aA (cA (QW.qt (je (dG (cQ (aO cP qf I aS (aj aG (aj (fu (v:=.ty "str") qf F ij rK) ao)))))
     (iR (bQ zU (aO cZ qf O aE (aj aG ao)) au (bG _))))) (aF (bf h_)) bI)
   (aF (bf (O8 (lW nZ nZ (bJ [97] qi) aG (bJ [122] qi))
    (jg (lW nZ nZ (bJ [65] qi) aG (bJ [90] qi)))))),?_⟩
  rcases h with⟨x,rfl,⟨t,ty,J⟩,q⟩|⟨l,rfl,hl,q⟩;.show⟨_,rK,_,_,_,false,rK,ty,J,_,rK,cu (cu q)⟩
  .let hz:l.length<=sizeLine:=ap (aK p_);calc⟨_,rK,_,_,_,true,rK,.str _,qh,_,rK,bL ⟨_,rK,l,rK,hz,rK,_,rK,?_⟩⟩;by_cases h1:l.length=1
   .let⟨c,rfl⟩:=List.length_eq_one_iff.mp h1;calc O5 rK ?_;calc⟨_,rK,[97],[c],rK,rK,decide (97<=c),by rw[Kz],?_⟩;let G:Q (.bl (Dh c||Gh c)) H:=q;let j:(Gh c=(Dh c||Gh c))->Cm abV abV (tC (.str (S [65]))) (WY 0) (tC (.str (S [90]))) [some (.str (S [c]))] H Q:=λe=>by
     calc⟨_,rK,[65],[c],rK,rK,decide (65<=c),by rw[Kz],?_⟩;rw[<-e]at G;by_cases h2:65<=c
     .rw[ai h2];calc cu (JA [c] [90] ⟨rK,rK,?_⟩);rw[Kz];simpa [Gh,h2] using G
     .rw[ag h2];calc bL ?_;simpa [Gh,h2] using G
    by_cases h2:97<=c
    .rw[ai h2];calc cu (JA [c] [122] ⟨rK,rK,_,rK,?_⟩);rw[Kz];by_cases h3:c<=122
     .rw[ai h3];calc cu ?_;simpa [Dh,h2,h3] using G
     .rw[ag h3];show bL (j (by simp[Dh,h2,h3]))
    .rw[ag h2];show bL ⟨_,rK,bL (j (by simp[Dh,h2]))⟩
   .let e:(!decide (V.int (l.length:Int)=V.int 1))=true:=by
     rw[ag];rfl;intro z;injection z with z;lia
    rw[e];let e2:Di l=false:=by
     match l,h1 with| [],_=>rfl| [c],h=>show absurd rK h| _::_::_,_=>rfl
    rw[e2]at q;show cu q
 .rcases h with⟨x,rfl,_⟩|⟨x,rfl,_⟩ <;> rfl
def aaj (K:W.Frag):Sp:=λvs H Q _=>∃(a:Addr) (ns:List Int) (k:Nat),vs=[.ref a,.int k]/\bC K H a (ns.map V.int)/\∀v:Int,Q (.int v) H
def isLet (c:Nat):Prop:=97<=c/\c<=122
structure XH (ls:List Nat):Prop where
 lo:2<=ls.length
 hi:ls.length<=26
 az:∀c∈ls,isLet c
def XJ (D:aM K mg "_law_cell_at" xV ["_law_script","_law_k"])(G:mg "len"=none):bU P w K mg base "_law_cell_at" 1 ["_law_script","_law_k"] (aaj K):=by
 calc D.dh XC (λf bH A outer s H vs Q E J h=>?_);let⟨a,ns,k,rfl,j,q⟩:=h;calc⟨_,aA (cA (bQ vo aW (aO bY qf G aE (aj aG ao)) (bG _)) (aF (bf (aY iH aG aW (λ_ _=>rfl)))) bI) (aF (bf au)),?_⟩;calc⟨_,rK,_,rK,a,_,rK,.inl j,_,_,rK,rK,_,rK,?_⟩;refine jE (λI=>?_) (λ_=>?_)
 .let F:k<ns.length:=by
   have:=dP I;rw[aa]at this;lia
  show⟨_,rK,_,rK,a,_,_,.int ns[k],rK,rK,j,aQ (by simp[F]),q _⟩
 .show q _
def mF (l:List Nat):(l.map λc=>[c]).flatten=l:=by
 induction l with| nil=>rfl| cons c r ih=>rw[cf,fe,ih];rfl
def aiL:∀c∈AL,isLet c:=λc D=>by let⟨k,j,rfl⟩:=bc.mp D;have:=gS.mp j;show⟨p_,p_⟩
def qN (c:Nat):Prop:=Di [c]=true
def qN.lt {c:Nat}(h:qN c):c<128:=by unfold qN Di Dh Gh at h;simp at h;lia
def aak {c:Nat}(h:isLet c):qN c:=by simp[qN,Di,Dh,h.1,h.2]
def aal {c:Nat}(h:isLet c):qN (c-32):=by let h1:=h.1;let h2:=h.2;simp[qN,Di,Dh,Gh];lia
def aeL {xs:List V}{a b:Nat}(h1:a<=b)(h2:b<=xs.length):gQ xs (some (a:Int)) (some (b:Int))=(xs.drop a).take (b-a):=by unfold gQ;rw[HT.lg,HT.lg,fF h2,fF (show a<=xs.length by lia)]
abbrev ones (cs:List Nat):List (List Nat):=cs.map λc=>[c]
structure Blk (r w:Nat)(ls:AA):Prop where
 len:ls.length=r
 rH:∀l∈ls,l.length=w
def MK:List Nat:=[46,50,51,52,98,99,100]
def BJ (c:Nat):Prop:=c=46\/qN c
def Jv (c:Nat):Prop:=c∈MK
structure QV (r w:Nat)(aD aL:AA)(i j:Nat):Prop where
 r1:1<=r
 r9:r<=9
 w1:1<=w
 w9:w<=9
 br:Blk r w aD
 bm:Blk r w aL
 cr:∀l∈aD,∀c∈l,BJ c
 cm:∀l∈aL,∀c∈l,Jv c
 bi:i<r
 bj:j<w
def KC (ls:AA)(l:List Nat):Ts ls++[V.str (S l)]=Ts (ls++[l]):=by simp[Ts]
def aam (cs:List Nat)(c:Nat):ones cs++[[c]]=ones (cs++[c]):=by simp[ones]
def cell (R:AA)(i j:Nat):Nat:=(R.getD i []).getD j 0
def cell_eq {R:AA}{i j:Nat}(hi:i<R.length)(D:j<R[i].length):cell R i j=R[i][j]:=by unfold cell;rw[aw (l:=R),af hi];show (R[i]).getD j 0=_;rw[aw,af D];rfl
def Vw:Sp:=λvs H Q _=>∃i:Int,vs=[.int i]/\Q (.bl true) H
def Ug (D:aM K mg "is_whole" rB ["thing"])(G:mg "int"=none)(F:mg "bool"=none)(j:mg "isinstance"=none):bU P w K mg base "is_whole" 1 ["thing"] Vw:=by calc D.dh Gf (λf bH A outer s H vs Q E I h=>?_);let⟨i,rfl,q⟩:=h;calc⟨_,(aF (bf (jG (aO cP qf j aS (aj aG (aj (fu (v:=.ty "int") qf G fR rK) ao))) (jg (Qh (aO cP qf j aS (aj aG (aj (fu (v:=.ty "bool") qf F gd rK) ao)))))))),?_⟩;show⟨_,rK,_,_,_,true,rK,.int _,qh,true,rK,cu ⟨_,rK,_,_,_,false,rK,.int _,qh,false,rK,q⟩⟩
def nQ {ls:AA}{i:Nat}{l:List Nat}(h:ls[i]?=some l):(Ts ls)[i]?=some (.str (S l)):=by simp[Ts,h]
def rJ {ls:AA}{i:Nat}{x:V}(h:(Ts ls)[i]?=some x):∃l,ls[i]?=some l/\x=.str (S l):=by rw[bS]at h;let⟨l,h1,h2⟩:=c9.mp h;show⟨l,h1,h2.symm⟩
def zA (n:Nat):((List.replicate n true).all id)=true:=by simp
def wI (n:Nat):(List.replicate n true).map V.bl++[V.bl true]=(List.replicate (n+1) true).map V.bl:=by rw[kH,bz];rfl
def KD:Sp:=λvs H Q _=>∃(p:Addr) (ls:AA) (r w:Nat),vs=[.ref p]/\H p=some (.tup (Ts ls))/\Blk r w ls/\1<=r/\r<=9/\1<=w/\w<=9/\∀H',aB H H'->Q (.bl true) H'
def Uh (D:aM K mg "is_block" vH ["thing"])(bB:mg "len"=none)(cD:mg "tuple"=none)(pC:mg "str"=none)(fH:mg "all"=none)(bh:mg "isinstance"=none)(zB:∃t,mg "MOST"=some (.int 9 t)):bU P w K mg base "is_block" 1 ["thing"] KD:=by
 calc D.dh uf (λf bH A outer s H vs Q E hr h=>?_);let⟨p,ls,r,w,rfl,hp,hb,r1,r9,w1,w9,q⟩:=h;let pZ:(Ts ls).length=r:=by rw[aa,hb.len]
 let h0:0<ls.length:=by rw[hb.len];lia
 calc⟨_,(aA (cA (QW.qt (je (dG (cQ (aO cP qf bh aS (aj aG (aj (fu (v:=.ty "tuple") qf cD ck rK) ao))))) (iR (dG (z9 qe qe au (aO bY qf bB aE (aj aG ao)) (Xk qf zB)))))) (aF (bf h_)) bI) (aA (cA (dG (cQ (aO (jV rK) qf fH jJ (aj (jO rK (jf.of uf.nd qh) (gG aG) (λ_ _ _ _ _=>dX) (λ_ _ _ _ _=>(aO (Qq K) qf bh aS (aj aG (aj (fu (v:=.ty "str") qf pC ij rK) ao))))) ao)))) (aF (bf h_)) bI) (aA (aU (i:=1) uf.nd rK (Or.inr rK) (aO cZ qf bB aE (aj (aY bw aG au (λ_ _=>rfl)) ao))) (aF (bf (jG (lW qe qe au aW (Xk qf zB)) (jg (aO (jV rK) qf fH jJ (aj (jO rK (jf.of uf.nd qh) (gG aG) (λ_ _ _ _ _=>dX) (λ_ _ _ _ _=>(d_ iQ (aO cZ qf bB aE (aj aG ao)) bA (bG _)))) ao))))))))),?_⟩;calc⟨_,rK,_,_,_,true,rK,.tup hp,qh,_,rK,bL ?_⟩;calc⟨_,rK,p,_,rK,.inr (aN.of hp),_,_,rK,rK,true,by rw[pZ];simp;lia,cu (JA _ _ ⟨rK,rK,true,by rw[pZ];simp;lia,bL ?_⟩)⟩;refine⟨_,rK,p,rK,⟨_,aN.of hp⟩,λL hL=>qC (xs:=Ts ls) (λi ys Y=>ys=(List.replicate i true).map V.bl/\Y L=some (.lst ys)/\aB H Y) ⟨rK,aq,aB.upd hL⟩ (λi ys Y _ h=>aN.of (h.2.2 _ _ hp)) ?_ ?_⟩
 .intro i x ys Y hi z;let⟨rfl,I,F⟩:=z;let⟨l,hl,rfl⟩:=rJ hi;let J:i<(Ts ls).length:=(ah.mp hi).1;refine⟨_,rK,_,_,_,true,rK,.str _,qh,I,by rw[aa,cq];show aK p_,g_.mk J ⟨wI i,aq,F.dH hL⟩⟩
 .intro ys Y z;let⟨rfl,I,F⟩:=z;calc JA L _ ⟨rK,bC.of I,?_⟩;rw[zA];calc⟨_,rK,bL ?_⟩;let G:ls[0].length=w:=hb.rH _ (a9 _);let hz:ls[0].length<=sizeLine:=ap (aK p_);calc⟨_,rK,p,_,_,.str (S ls[0]),rK,rK,aN.of (F _ _ hp),aQ (j:=0) (nQ (by simp[h0])),_,rK,hz,?_⟩;calc⟨_,rK,_,_,rK,rK,true,by rw[G];simp;lia,cu (JA _ _ ⟨rK,rK,true,by rw[G];simp;lia,cu ?_⟩)⟩;refine⟨_,rK,p,rK,⟨_,aN.of (F _ _ hp)⟩,λL2 vh=>qC (xs:=Ts ls) (λi ys Z=>ys=(List.replicate i true).map V.bl/\Z L2=some (.lst ys)/\aB H Z) ⟨rK,aq,F.dH (F.free vh)⟩ (λi ys Y _ h=>aN.of (h.2.2 _ _ hp)) ?_ ?_⟩
  .intro i x ys Z hi z;let⟨rfl,zE,O⟩:=z;let⟨l,hl,rfl⟩:=rJ hi;let J:i<(Ts ls).length:=(ah.mp hi).1;let hlw:l.length=w:=hb.rH _ (bp hl);calc⟨_,rK,_,rK,ap (aK p_),_,rK,rK,zE,by rw[aa,cq];show aK p_,g_.mk J ⟨?_,aq,O.dH (F.free vh)⟩⟩;rw[hlw,G,ai rfl];show wI i
  .intro ys Z z;let⟨rfl,zE,O⟩:=z;calc JA L2 _ ⟨rK,bC.of zE,?_⟩;rw[zA];show q Z O
def G6 {r w:Nat}{ls:AA}(h:Blk r w ls):ls.flatten.length=r*w:=by
 rw[List.length_flatten];have:ls.map List.length=List.replicate r w:=by rw[<-h.len,List.eq_replicate_iff];show⟨qa,λb hb=>by let⟨l,hl,rfl⟩:=bc.mp hb;show h.rH l hl⟩
 rw[this,List.sum_replicate_nat]
def aan:Sp:=λvs H Q _=>∃(p:Addr) (ls:AA) (r w:Nat),vs=[.ref p]/\H p=some (.tup (Ts ls))/\Blk r w ls/\1<=r/\r<=9/\1<=w/\w<=9/\(∀l∈ls,∀c∈l,BJ c)/\∀H',aB H H'->Q (.bl true) H'
def Ui (D:aM K mg "are_rows" vI ["thing"])(fH:mg "all"=none)(gb:∃t,mg "FREE"=some (.str (S [46]) t))(Af:bU P w K mg base "is_block" 1 ["thing"] KD)(Dj:bU P w K mg base "is_sign" 1 ["thing"] (QM K)):bU P w K mg base "are_rows" 2 ["thing"] aan:=by
 calc D.dh Gg (λf bH A outer s H vs Q E Z h=>?_);let⟨p,ls,r,w,rfl,hp,hb,r1,r9,w1,w9,hc,q⟩:=h;let hrw:r*w<=81:=gp r9 w9;let hfl:=G6 hb;calc⟨_,(aF (bf (jG (bD Af Z.mono rK (aj aG ao)) (jg (aO (jV rK) qf fH jJ (aj (jO rK (jf.of Gg.nd qh) (rm (f9 bo c_ de GQ (bJ [] qi) (aj aG ao))) (λ_ _ _ _ _=>dX) (λ_ _ _ _ _=>(O8 (d_ jF aG (uc qf gb) (bG _)) (jg (bD Dj Z.mono rK (aj aG ao)))))) ao)))))),?_⟩;calc⟨_,rK,p,ls,r,w,rK,hp,hb,r1,r9,w1,w9,λH1 s1=>⟨true,rK,cu ?_⟩⟩;calc⟨rK,_,rK,p,ls,rK,rK,aN.of (s1 _ _ hp),p_,_,rK,λL hL=>?_⟩;refine wu (λi ys j=>ys=(List.replicate i true).map V.bl/\j L=some (.lst ys)/\aB H j) ⟨rK,aq,s1.dH (s1.free hL)⟩ ?_ ?_
 .intro i c ys j hi z;let⟨rfl,F,J⟩:=z;let Y:i<ls.flatten.length:=(ah.mp hi).1;let⟨l,hl,O⟩:=List.mem_flatten.mp (bp hi);let G:j L=some (.lst ((List.replicate i true).map V.bl))/\((List.replicate i true).map V.bl).length<sizeLine/\g_ ls.flatten.length i ((List.replicate i true).map V.bl++[V.bl true]=(List.replicate (i+1) true).map V.bl/\upd j L (.lst ((List.replicate i true).map V.bl++[V.bl true])) L=some (.lst ((List.replicate i true).map V.bl++[V.bl true]))/\aB H (upd j L (.lst ((List.replicate i true).map V.bl++[V.bl true])))):=
   ⟨F,by rw[aa,cq];show aK p_,g_.mk Y ⟨wI i,aq,J.dH (s1.free hL)⟩⟩
  calc⟨_,rK,[c],[46],rK,rK,_,rK,?_⟩;rcases hc l hl c O with e|e
  .subst e;rw[ai rfl];show cu G
  .by_cases I:[c]=[46]
   .rw[ai I];show cu G
   .rw[ag I];calc bL ⟨_,rK,.inr ⟨[c],rK,by show 1<=1000;decide,?_⟩⟩;rw[show Di [c]=true from e];show G
 .intro ys j z;let⟨rfl,F,J⟩:=z;calc JA L _ ⟨rK,bC.of F,?_⟩;rw[zA];show q j J
def Vx:Sp:=λvs H Q _=>∃(p:Addr) (ls:AA) (r w:Nat),vs=[.ref p]/\H p=some (.tup (Ts ls))/\Blk r w ls/\1<=r/\r<=9/\1<=w/\w<=9/\(∀l∈ls,∀c∈l,Jv c)/\∀H',aB H H'->Q (.bl true) H'
def QX (D:aM K mg "are_marks" ug ["thing"])(fH:mg "all"=none)(zF:∃t,mg "MARKS"=some (.str (S MK) t))(Af:bU P w K mg base "is_block" 1 ["thing"] KD):bU P w K mg base "are_marks" 2 ["thing"] Vx:=by
 calc D.dh CV (λf bH A outer s H vs Q E Z h=>?_);let⟨p,ls,r,w,rfl,hp,hb,r1,r9,w1,w9,hc,q⟩:=h;let hrw:r*w<=81:=gp r9 w9;let Y:=G6 hb;calc⟨_,(aF (bf (jG (bD Af Z.mono rK (aj aG ao)) (jg (aO (jV rK) qf fH jJ (aj (jO rK (jf.of CV.nd qh) (rm (f9 bo c_ de GQ (bJ [] qi) (aj aG ao))) (λ_ _ _ _ _=>dX) (λ_ _ _ _ _=>(d_ agE aG (uc qf zF) rK))) ao)))))),?_⟩;calc⟨_,rK,p,ls,r,w,rK,hp,hb,r1,r9,w1,w9,λH1 s1=>⟨true,rK,cu ?_⟩⟩;calc⟨rK,_,rK,p,ls,rK,rK,aN.of (s1 _ _ hp),p_,_,rK,λL O=>?_⟩;refine wu (λi ys F=>ys=(List.replicate i true).map V.bl/\F L=some (.lst ys)/\aB H F) ⟨rK,aq,s1.dH (s1.free O)⟩ ?_ ?_
 .intro i c ys F hi z;let⟨rfl,j,G⟩:=z;let J:i<ls.flatten.length:=(ah.mp hi).1;let⟨l,hl,I⟩:=List.mem_flatten.mp (bp hi);calc⟨_,rK,c,MK,rK,rK,j,by rw[aa,cq];show aK p_,g_.mk J ⟨?_,aq,G.dH (s1.free O)⟩⟩;rw[ai (show c∈MK from hc l hl c I)];show wI i
 .intro ys F z;let⟨rfl,j,G⟩:=z;calc JA L _ ⟨rK,bC.of j,?_⟩;rw[zA];show q F G
def G7 (K:W.Frag):Sp:=λvs H Q _=>∃(p:Addr) (ls:AA) (r w:Nat) (i j:Int),vs=[.ref p,.int i,.int j]/\aN K H p (Ts ls)/\Blk r w ls/\1<=r/\r<=9/\w<=9/\Q (.bl (decide (0<=i/\i<r/\0<=j/\j<w))) H
def Oh (D:aM K mg "is_cell_of" oU ["rows","row","column"])(J:mg "len"=none)(I:bU P w K mg base "is_whole" 1 ["thing"] Vw):bU P w K mg base "is_cell_of" 2 ["rows","row","column"] (G7 K):=by
 calc D.dh Bx (λf bH A outer s H vs Q E G h=>?_);let⟨p,ls,r,w,i,j,rfl,hp,hb,r1,r9,w9,q⟩:=h;let Z:(Ts ls).length=r:=by rw[aa,hb.len]
 let h0:0<ls.length:=by rw[hb.len];lia
 let F:ls[0].length=w:=hb.rH _ (a9 _);calc⟨_,(aA (cA (QW.qt (je (dG (cQ (bD I G.mono rK (aj aW ao)))) (iR (dG (cQ (bD I G.mono rK (aj bA ao))))))) (aF (bf h_)) bI) (aF (bf (jG (lW qe vo au aW (aO bY qf J aE (aj aG ao))) (jg (lW qe vo au bA (aO cZ qf J aE (aj (aY bw aG au (λ_ _=>rfl)) ao)))))))),?_⟩;calc⟨_,rK,i,rK,_,rK,bL ⟨_,rK,j,rK,_,rK,bL ?_⟩⟩;calc⟨_,rK,_,_,rK,rK,_,rK,?_⟩;by_cases h1:0<=i
 .rw[ai h1];calc cu ⟨_,rK,p,_,rK,.inr hp,_,_,rK,rK,_,rK,?_⟩;rw[Z];by_cases h2:i<(r:Int)
  .rw[ai h2];calc cu ⟨_,rK,_,_,rK,rK,_,rK,?_⟩;by_cases h3:0<=j
   .rw[ai h3];calc cu ⟨_,rK,p,_,_,.str (S ls[0]),rK,rK,hp,aQ (j:=0) (nQ (by simp[h0])),_,rK,ap (aK p_),_,_,rK,rK,?_⟩;rw[F];simpa [h1,h2,h3] using q
   .rw[ag h3];calc bL ?_;simpa [h1,h2,h3] using q
  .rw[ag h2];calc bL ?_;simpa [h1,h2] using q
 .rw[ag h1];calc bL ⟨_,rK,bL ?_⟩;simpa [h1] using q
def Vy (K:W.Frag):Sp:=λvs H Q _=>∃(p b:Addr) (ls:AA) (r w:Nat) (i j:Nat),vs=[.ref p,.ref b]/\H p=some (.tup (Ts ls))/\H b=some (.tup [.int i,.int j])/\Blk r w ls/\1<=r/\r<=9/\w<=9/\i<r/\j<w/\Q (.bl true) H
def KH (D:aM K mg "is_begin_of" qg ["rows","thing"])(Y:mg "len"=none)(O:mg "tuple"=none)(I:mg "isinstance"=none)(F:bU P w K mg base "is_cell_of" 2 ["rows","row","column"] (G7 K)):bU P w K mg base "is_begin_of" 3 ["rows","thing"] (Vy K):=by calc D.dh Kw (λf bH A outer s H vs Q E G h=>?_);let⟨p,b,ls,r,w,i,j,rfl,hp,hb,J,r1,r9,w9,hi,Z,q⟩:=h;calc⟨_,(aF (bf (jG (aO cP qf I aS (aj aW (aj (fu (v:=.ty "tuple") qf O ck rK) ao))) (jG (d_ iQ (aO bY qf Y aE (aj aW ao)) au (bG _)) (jg (bD F G.mono rK (aj aG (aj (aY bw aW au (λ_ _=>rfl)) (aj (aY bw aW au (λ_ _=>rfl)) ao))))))))),?_⟩;calc⟨_,rK,_,_,_,true,rK,.tup hb,qh,true,rK,cu ?_⟩;calc⟨_,rK,b,_,rK,.inr (aN.of hb),rK,true,rK,cu ?_⟩;calc⟨_,rK,_,rK,b,_,_,.int i,rK,rK,aN.of hb,aQ (j:=0) rK,_,rK,b,_,_,.int j,rK,rK,aN.of hb,aQ (j:=1) rK,?_⟩;calc JO p ls r w i j ⟨rK,aN.of hp,J,r1,r9,w9,?_⟩;rw[ai ⟨p_,p_,p_,p_⟩];show q
def Vz:Sp:=λvs H Q _=>∃(pr pm pb:Addr) (r w:Nat) (aD aL:AA) (i j:Nat),vs=[.ref pr,.ref pm,.ref pb]/\H pr=some (.tup (Ts aD))/\H pm=some (.tup (Ts aL))/\H pb=some (.tup [.int i,.int j])/\QV r w aD aL i j/\∀H',aB H H'->Q (.bl true) H'
def Uj (D:aM K mg "is_board" vJ ["rows","marks","begin"])(I:mg "len"=none)(XM:bU P w K mg base "are_rows" 2 ["thing"] aan)(Uk:bU P w K mg base "are_marks" 2 ["thing"] Vx)(Oi:bU P w K mg base "is_begin_of" 3 ["rows","thing"] (Vy K)):bU P w K mg base "is_board" 4 ["rows","marks","begin"] Vz:=by
 calc D.dh T9 (λf bH A outer s H vs Q E O h=>?_);let⟨pr,pm,pb,r,w,aD,aL,i,j,rfl,G,hm,hb,B,q⟩:=h;let l1:(Ts aD).length=r:=by rw[aa,B.br.len]
 let l2:(Ts aL).length=r:=by rw[aa,B.bm.len]
 let h0:0<aD.length:=by rw[B.br.len];show B.r1
 let J:0<aL.length:=by rw[B.bm.len];show B.r1
 let Z:aD[0].length=w:=B.br.rH _ (a9 _);let Y:aL[0].length=w:=B.bm.rH _ (a9 _);let w9:=B.w9;calc⟨_,(aA (cA (QW.qt (je (dG (cQ (bD XM O.mono rK (aj aG ao)))) (iR (dG (cQ (bD Uk O.mono rK (aj aW ao))))))) (aF (bf h_)) bI) (aA (cA (QW.qt (je (bQ zU (aO bY qf I aE (aj aW ao)) (aO bY qf I aE (aj aG ao)) (bG _)) (iR (bQ zU (aO cZ qf I aE (aj (aY bw aW au (λ_ _=>rfl)) ao)) (aO cZ qf I aE (aj (aY bw aG au (λ_ _=>rfl)) ao)) (bG _))))) (aF (bf h_)) bI) (aF (bf (bD Oi O.mono rK (aj aG (aj bA ao))))))),?_⟩;calc⟨_,rK,pr,aD,r,w,rK,G,B.br,B.r1,B.r9,B.w1,B.w9,B.cr,λH1 s1=>⟨_,rK,bL ?_⟩⟩;calc⟨_,rK,pm,aL,r,w,rK,s1 _ _ hm,B.bm,B.r1,B.r9,B.w1,B.w9,B.cm,λH2 s2=>⟨_,rK,bL ?_⟩⟩;let F:=s1.trans s2;calc⟨_,rK,pm,_,rK,.inr (aN.of (F _ _ hm)),_,rK,pr,_,rK,.inr (aN.of (F _ _ G)),rK,_,rK,?_⟩;calc O5 (by rw[l1,l2]) ?_;calc⟨_,rK,pm,_,_,.str (S aL[0]),rK,rK,aN.of (F _ _ hm),aQ (j:=0) (nQ (by simp[J])),_,rK,ap (aK p_),_,rK,pr,_,_,.str (S aD[0]),rK,rK,aN.of (F _ _ G),aQ (j:=0) (nQ (by simp[h0])),_,rK,ap (aK p_),rK,_,rK,?_⟩;calc O5 (by rw[Z,Y]) ?_;calc⟨_,rK,_,rK,pr,pb,aD,r,w,i,j,rK,F _ _ G,F _ _ hb,B.br,B.r1,B.r9,B.w9,B.bi,B.bj,?_⟩;show q H2 F
structure fY (K:W.Frag)(C:Addr):Prop where
 cl:Cls K C
 nr:iG K C "rows"
 nm:iG K C "marks"
 nb:iG K C "begin"
structure cG (C:Addr)(H:Hp)(p:Addr)(r w:Nat)(aD aL:AA)(i j:Nat):Prop where
 ex:∃dx pr pm pb,H p=some (.ins C dx [("rows",.ref pr),("marks",.ref pm),("begin",.ref pb)])/\H pr=some (.tup (Ts aD))/\H pm=some (.tup (Ts aL))/\H pb=some (.tup [.int i,.int j])
 ok:QV r w aD aL i j
def cG.mv {C:Addr}{H H':Hp}{p:Addr}{r w:Nat}{aD aL:AA}{i j:Nat}(B:cG C H p r w aD aL i j)(s:aB H H'):cG C H' p r w aD aL i j:=by obtain⟨⟨dx,pr,pm,pb,a,b,c,d⟩,o⟩:=B;show⟨(JI dx pr pm pb ⟨s _ _ a,s _ _ b,s _ _ c,s _ _ d⟩),o⟩
def KJ (C:Addr):Sp:=λvs H Q _=>∃(p dx pr pm pb:Addr) (r w:Nat) (aD aL:AA) (i j:Nat),vs=[.ref p,.ref pr,.ref pm,.ref pb]/\H p=some (.ins C dx [])/\H pr=some (.tup (Ts aD))/\H pm=some (.tup (Ts aL))/\H pb=some (.tup [.int i,.int j])/\QV r w aD aL i j/\
 ∀H',(∀b o,H b=some o->b≠p->H' b=some o)->H' p=some (.ins C dx [("rows",.ref pr),("marks",.ref pm),("begin",.ref pb)])->Q .non H'
def Oj {f C:Addr}{fd:FuncData}(F:d7 K "__init__" "Board.__init__" kh f fd)(T:fY K C)(I:bU P w K mg base "is_board" 4 ["rows","marks","begin"] Vz):bW P w K mg base cW 5 f fd ["self","rows","marks","begin"] (KJ C):=by
 calc F.dh Oc (λbH A outer s H vs Q E J h=>?_);let⟨p,dx,pr,pm,pb,r,w,aD,aL,i,j,rfl,hp,G,hm,hb,B,q⟩:=h;calc⟨_,(aA (cA (dG (cQ (bD I J.mono rK (aj aW (aj bA (aj bN ao)))))) qJ bI) (aA (lB aG aW rK) (aA (lB aG bA rK) (aF (lB aG bN rK))))),?_⟩;calc⟨_,rK,_,rK,_,rK,pr,pm,pb,r,w,aD,aL,i,j,rK,G,hm,hb,B,λH1 s1=>⟨_,rK,bL ?_⟩⟩;calc⟨_,rK,_,rK,p,C,dx,_,rK,s1 _ _ hp,T.cl,T.nr,by show 0<1000;decide,?_⟩;calc⟨_,rK,_,rK,p,C,dx,_,rK,aq,T.cl,T.nm,by show 1<1000;decide,?_⟩;calc⟨_,rK,_,rK,p,C,dx,_,rK,aq,T.cl,T.nb,by show 2<1000;decide,?_⟩;calc q _ (λb o e D=>?_) ?_;.rw[aV D,aV D,aV D];show s1 _ _ e
 .show aq
noncomputable def atC (aD:AA)(r w:Nat)(i j:Int):Nat:=if 0<=i/\i<r/\0<=j/\j<w then (aD.getD i.toNat []).getD j.toNat 0 else 46
def XR (C:Addr):Sp:=λvs H Q _=>∃(p:Addr) (r w:Nat) (aD aL:AA) (bi bj:Nat) (i j:Int),vs=[.ref p,.int i,.int j]/\cG C H p r w aD aL bi bj/\Q (.str (S [atC aD r w i j])) H
def aiM {f C:Addr}{fd:FuncData}(F:d7 K "at" "Board.at" nH f fd)(T:fY K C)(Z:∃t,mg "FREE"=some (.str (S [46]) t))(J:bU P w K mg base "is_cell_of" 2 ["rows","row","column"] (G7 K)):bW P w K mg base cW 3 f fd ["self","row","column"] (XR C):=by
 calc F.dh T_ (λbH A outer s H vs Q E Y h=>?_);let⟨p,r,w,aD,aL,bi,bj,i,j,rfl,B,q⟩:=h;obtain⟨⟨dx,pr,pm,pb,hp,D,hm,hb⟩,O⟩:=B;let w9:=O.w9;calc⟨_,(aF (bf (nD (cQ (bD J Y.mono rK (aj (bR aG rK) (aj aW (aj bA ao))))) (aY zZ (aY bw (bR aG rK) aW (λ_ _=>rfl)) bA (λ_ _=>rfl)) (uc qf Z)))),?_⟩;calc⟨_,rK,p,C,dx,_,_,rK,hp,T.cl,T.nr,rK,_,rK,_,rK,pr,aD,r,w,i,j,rK,aN.of D,O.br,O.r1,O.r9,O.w9,_,rK,?_⟩;by_cases h:0<=i/\i<r/\0<=j/\j<w
 .rw[ai h];let e:atC aD r w i j=(aD.getD i.toNat []).getD j.toNat 0:=if_pos h;rw[e]at q;obtain⟨i,rfl⟩:∃k:Nat,i=k:=⟨i.toNat,p_⟩
  obtain⟨j,rfl⟩:∃k:Nat,j=k:=⟨j.toNat,p_⟩
  rw[dv,dv]at q;let hi:i<aD.length:=by rw[O.br.len];lia
  let G:aD[i]?=some (aD.getD i []):=by rw[aw,af hi];rfl
  let hw:(aD.getD i []).length=w:=O.br.rH _ (bp G);let I:(aD.getD i [])[j]?=some ((aD.getD i []).getD j 0):=by rw[aw (l:=aD.getD i []),af p_];rfl
  refine cu ⟨_,rK,p,C,dx,_,_,rK,hp,T.cl,T.nr,rK,_,rK,pr,_,_,_,rK,rK,aN.of D,aQ (nQ G),_,rK,_,_,_,rK,rK,ap (aK p_),aQ I,q⟩
 .rw[ag h];let e:atC aD r w i j=46:=if_neg h;rw[e]at q;show bL q
def isFree (aD:AA):Bool:=aD.flatten.all λc=>decide ([c]=[46])
def QZ (C:Addr):Sp:=λvs H Q _=>∃(p:Addr) (r w:Nat) (aD aL:AA) (bi bj:Nat),vs=[.ref p]/\cG C H p r w aD aL bi bj/\∀H',aB H H'->Q (.bl (isFree aD)) H'
def XS {f C:Addr}{fd:FuncData}(F:d7 K "is_free" "Board.is_free" iU f fd)(T:fY K C)(fH:mg "all"=none)(gb:∃t,mg "FREE"=some (.str (S [46]) t)):bW P w K mg base cW 1 f fd ["self"] (QZ C):=by
 calc F.dh wF (λbH A outer s H vs Q E hr h=>?_);let⟨p,r,w,aD,aL,bi,bj,rfl,B,q⟩:=h;obtain⟨⟨dx,pr,pm,pb,hp,I,hm,hb⟩,O⟩:=B;let hrw:r*w<=81:=gp O.r9 O.w9;let Z:=G6 O.br;calc⟨_,(aF (bf (aO (jV rK) qf fH jJ (aj (jO rK (jf.of wF.nd qh) (rm (f9 bo c_ de GQ (bJ [] qi) (aj (bR aG rK) ao))) (λ_ _ _ _ _=>dX) (λ_ _ _ _ _=>(d_ jF aG (uc qf gb) (bG _)))) ao)))),?_⟩;calc⟨rK,_,rK,p,C,dx,_,_,rK,hp,T.cl,T.nr,rK,pr,aD,rK,rK,aN.of I,p_,_,rK,λL Y=>?_⟩;refine wu (λi ys D=>ys=((aD.flatten.take i).map λc=>decide ([c]=[46])).map V.bl/\D L=some (.lst ys)/\aB H D) ⟨rK,aq,aB.upd Y⟩ ?_ ?_
 .intro i c ys D hi z;let⟨rfl,j,G⟩:=z;let J:i<aD.flatten.length:=(ah.mp hi).1;calc⟨_,rK,[c],[46],rK,rK,j,?_,g_.mk J ⟨?_,aq,G.dH Y⟩⟩;.rw[aa,aa,av];show aK p_
  .rw[cw,hi];simp
 .intro ys D z;let⟨rfl,j,G⟩:=z;rw[cv]at j;calc JA L _ ⟨rK,bC.of j,?_⟩;let e:((aD.flatten.map λc=>decide ([c]=[46])).all id)=isFree aD:=by
   unfold isFree;rw[List.all_map];rfl
  rw[e];show q D G
def Pb (aD:AA)(j:Nat):List Nat:=aD.map λl=>l.getD j 0
def lineOf (aD:AA)(i j:Nat)(way:Int):List Nat:=if way=0 then aD.getD i [] else Pb aD j
def placeOf (i j:Nat)(way:Int):Nat:=if way=0 then j else i
def adK:Sp:=λvs H Q _=>∃(p:Addr) (aD:AA) (r w j:Nat),vs=[.ref p,.int j]/\H p=some (.tup (Ts aD))/\Blk r w aD/\r<=9/\w<=9/\j<w/\∀H',aB H H'->Q (.str (S (Pb aD j))) H'
def KN (D:aM K mg "column_text" qj ["rows","column"]):bU P w K mg base "column_text" 1 ["rows","column"] adK:=by
 calc D.dh zx (λf bH A outer s H vs Q E hr h=>?_);let⟨p,aD,r,w,j,rfl,hp,hb,r9,w9,hj,q⟩:=h;calc⟨_,(aF (bf (f9 bo c_ de qI (bJ [] qi) (aj (jO rK (jf.of zx.nd qh) (gG aG) (λ_ _ _ _ _=>dX) (λ_ _ _ _ _=>(aY zZ aG bA (λ_ _=>rfl)))) ao)))),?_⟩;let Z:(Ts aD).length=r:=by rw[aa,hb.len]
 refine⟨rK,_,rK,p,rK,⟨_,aN.of hp⟩,λL O=>qC (xs:=Ts aD) (λi ys G=>ys=Ts (ones ((aD.take i).map λl=>l.getD j 0))/\G L=some (.lst ys)/\aB H G) ⟨rK,aq,aB.upd O⟩ (λi ys G _ h=>aN.of (h.2.2 _ _ hp)) ?_ ?_⟩
 .intro i x ys G hi z;let⟨rfl,F,I⟩:=z;let⟨l,hl,rfl⟩:=rJ hi;let J:i<(Ts aD).length:=(ah.mp hi).1;let Y:l.length=w:=hb.rH _ (bp hl);calc⟨_,rK,_,rK,l,_,l.getD j 0,rK,rK,ap (aK p_),?_,F,?_,g_.mk J ⟨?_,aq,I.dH O⟩⟩;.show aQ (by rw[aw,af p_];rfl)
  .rw[aa,aa,aa,av];show aK p_
  .rw[KC,aam,cw,hl];simp
 .intro ys G z;let⟨rfl,F,I⟩:=z;rw[Z,<-hb.len,cv]at F;calc JA L _ ⟨rK,rK,bC.of F,?_,?_⟩;.rw[mF,aa,hb.len];lia
  .rw[mF];show q G I
def vO {r w:Nat}{aD:AA}(hb:Blk r w aD){i j:Nat}(hi:i<r){way:Int}:(lineOf aD i j way).length=if way=0 then w else r:=by
 unfold lineOf;by_cases h:way=0
 .rw[if_pos h,if_pos h,aw,af (by rw[hb.len];show hi)];show hb.rH _ (a9 _)
 .rw[if_neg h,if_neg h];unfold Pb;rw[aa,hb.len]
def qO (l:List Nat):(iz l).length<=l.length:=by unfold iz;rw[List.length_reverse];show bP (List.takeWhile_prefix _).length_le (by rw[List.length_reverse];show al _)
def xX (l:List Nat):(jA l).length<=l.length:=(List.takeWhile_prefix _).length_le
noncomputable def aci (i j:Nat)(way:Int)(l:List Nat):List V:=if way=0 then [.int i,.int ((j:Int)-(iz (l.take j)).length),.str (S (iz (l.take j)++jA (l.drop j)))] else [.int ((i:Int)-(iz (l.take i)).length),.int j,.str (S (iz (l.take i)++jA (l.drop i)))]
def adL (C:Addr):Sp:=λvs H Q _=>∃(p:Addr) (r w:Nat) (aD aL:AA) (bi bj i j:Nat) (way:Int),vs=[.ref p,.int i,.int j,.int way]/\cG C H p r w aD aL bi bj/\i<r/\j<w/\(way=0\/way=1)/\
 ∀(t:Addr) (H':Hp),aB H H'->H t=none->H' t=some (.tup (aci i j way (lineOf aD i j way)))->Q (.ref t) H'
def ahc {f C:Addr}{fd:FuncData}(F:d7 K "run" "Board.run" lY f fd)(T:fY K C)(bB:mg "len"=none)(gb:∃t,mg "FREE"=some (.str (S [46]) t))(Ol:bU P w K mg base "column_text" 1 ["rows","column"] adK):bW P w K mg base cW 2 f fd ["self","row","column","way"] (adL C):=by
 calc F.dh mV (λbH A outer s H vs Q E hr h=>?_);let⟨p,r,w,aD,aL,bi,bj,i,j,way,rfl,B,hi,hj,Z,q⟩:=h;obtain⟨⟨dx,pr,pm,pb,hp,Y,hm,hb⟩,O⟩:=B;let r9:=O.r9;let w9:=O.w9;calc⟨_,(aA (aU (i:=4) mV.nd rK (Or.inl rK) (nD (bQ iQ bN au (bG _)) (aY bw (bR aG rK) aW (λ_ _=>rfl)) (bD Ol hr.mono rK (aj (bR aG rK) (aj bA ao))))) (aA (aU (i:=5) mV.nd rK (Or.inl rK) (nD (bQ iQ bN au (bG _)) bA aW)) (aA (aU (i:=6) mV.nd rK (Or.inl rK) (aY bw (f9 bo PySem.F.slot_str_rpartition PySem.F.type_str_rpartition abZ (dj pQ cJ eE (dI dF)) (aj (uc qf gb) ao)) au (λ_ _=>rfl))) (aA (aU (i:=7) mV.nd rK (Or.inl rK) (aJ mO fG (aY bw (f9 bo PySem.F.slot_str_partition PySem.F.type_str_partition aep (dj pQ cJ (dI dF) eE) (aj (uc qf gb) ao)) au (λ_ _=>rfl)))) (aA (aU (i:=8) mV.nd rK (Or.inl rK) (aJ oO dF (aO cZ qf bB aE (aj fG ao)))) (aF (bf (nD (bQ iQ bN au (bG _)) (cR (aj aW (aj jZ (aj iJ ao)))) (cR (aj jZ (aj bA (aj iJ ao)))))))))))),?_⟩;let J:aD[i]?=some (aD.getD i []):=by rw[aw,af (by rw[O.br.len];show hi)];rfl
 rcases Z with rfl|rfl
 .let I:(lineOf aD i j 0).length=w:=vO O.br hi;let el:aD.getD i []=lineOf aD i j 0:=rfl;rw[el]at J;let hz:∀l:List Nat,l.length<=100->l.length<=sizeLine:=λl h=>ap (aK p_);calc⟨_,rK,rK,_,rK,cu ?_⟩;calc⟨_,rK,p,C,dx,_,_,rK,hp,T.cl,T.nr,rK,_,rK,pr,_,_,_,rK,rK,aN.of Y,aQ (nQ J),?_⟩;generalize hL:lineOf aD i j 0=l at I J ⊢;calc⟨_,rK,rK,_,rK,cu ⟨_,rK,?_⟩⟩;calc⟨_,rK,_,rK,_,rK,l,rK,hz _ p_,rK,?_⟩;rw[ZX];calc⟨_,rK,rK,by rw[av];lia,λp1 a1 b1 D=>?_⟩;calc JI p1 _ _ _ ⟨rK,rK,aN.of aq,aQ (j:=2) rK,?_⟩;let s1:aB H (upd H p1 (.tup [.str a1,.str b1,.str (S (iz (l.take j)))])):=aB.upd D;generalize upd H p1 (.tup [.str a1,.str b1,.str (S (iz (l.take j)))])=H1 at s1 ⊢;let t1:=qO (l.take j);let t2:=xX (l.drop j);rw[av]at t1;rw[ba]at t2;calc⟨_,rK,_,rK,_,rK,_,rK,l,rK,hz _ p_,rK,?_⟩;rw[Qt];calc⟨_,rK,rK,by rw[ba];lia,λp2 b2 c2 G=>?_⟩;calc JI p2 _ _ _ ⟨rK,rK,aN.of aq,aQ (j:=0) rK,_,_,rK,rK,ap (aK p_),?_⟩;let s2:=s1.dH (o:=HO.tup [.str (S (jA (l.drop j))),.str b2,.str c2]) (s1.free G);generalize upd H1 p2 (HO.tup [.str (S (jA (l.drop j))),.str b2,.str c2])=H2 at s2 ⊢;calc⟨_,rK,_,rK,_,rK,hz _ p_,_,_,rK,rK,?_⟩;calc⟨_,rK,rK,_,rK,cu ?_⟩;calc⟨_,rK,_,rK,_,rK,zsz 3,λt ht=>?_⟩;show q t _ (s2.dH (s2.free ht)) (s2.free ht) (by rw[aq,hL];rfl)
 .let I:(lineOf aD i j 1).length=r:=vO O.br hi;let el:Pb aD j=lineOf aD i j 1:=rfl;let hz:∀l:List Nat,l.length<=100->l.length<=sizeLine:=λl h=>ap (aK p_);calc⟨_,rK,rK,_,rK,bL ?_⟩;calc⟨_,rK,p,C,dx,_,_,rK,hp,T.cl,T.nr,rK,_,rK,pr,aD,r,w,j,rK,Y,O.br,r9,w9,hj,λH0 s0=>?_⟩;rw[el];generalize hL:lineOf aD i j 1=l at I ⊢;calc⟨_,rK,rK,_,rK,bL ⟨_,rK,?_⟩⟩;calc⟨_,rK,_,rK,_,rK,l,rK,hz _ p_,rK,?_⟩;rw[ZX];calc⟨_,rK,rK,by rw[av];lia,λp1 a1 b1 D=>?_⟩;calc JI p1 _ _ _ ⟨rK,rK,aN.of aq,aQ (j:=2) rK,?_⟩;let s1:aB H (upd H0 p1 (.tup [.str a1,.str b1,.str (S (iz (l.take i)))])):=s0.dH (s0.free D);generalize upd H0 p1 (.tup [.str a1,.str b1,.str (S (iz (l.take i)))])=H1 at s1 ⊢;let t1:=qO (l.take i);let t2:=xX (l.drop i);rw[av]at t1;rw[ba]at t2;calc⟨_,rK,_,rK,_,rK,_,rK,l,rK,hz _ p_,rK,?_⟩;rw[Qt];calc⟨_,rK,rK,by rw[ba];lia,λp2 b2 c2 G=>?_⟩;calc JI p2 _ _ _ ⟨rK,rK,aN.of aq,aQ (j:=0) rK,_,_,rK,rK,ap (aK p_),?_⟩;let s2:=s1.dH (o:=HO.tup [.str (S (jA (l.drop i))),.str b2,.str c2]) (s1.free G);generalize upd H1 p2 (HO.tup [.str (S (jA (l.drop i))),.str b2,.str c2])=H2 at s2 ⊢;calc⟨_,rK,_,rK,_,rK,hz _ p_,_,_,rK,rK,?_⟩;calc⟨_,rK,rK,_,rK,bL ?_⟩;calc⟨_,rK,_,rK,_,rK,zsz 3,λt ht=>?_⟩;show q t _ (s2.dH (s2.free ht)) (s2.free ht) (by rw[aq,hL];rfl)
abbrev bO:=Nat×Nat×Nat
def wJ (H:Hp)(a:Addr)(t:bO):Prop:=H a=some (.tup [.int t.1,.int t.2.1,.str (S [t.2.2])])
noncomputable def tO (H:Hp)(a:Addr):bO:=match H a with| some (.tup [.int x,.int y,.str z])=>(x.toNat,y.toNat,z.cps.toList.headD 0)| _=>(0,0,0)
def Jw {H:Hp}{a:Addr}{t:bO}(h:wJ H a t):tO H a=t:=by unfold tO;rw[show H a=_ from h];rfl
structure eV (H:Hp)(as:List Addr)(ts:List bO):Prop where
 at_:∀a∈as,wJ H a (tO H a)
 eq:as.map (tO H)=ts
def eV.Ni {H H':Hp}{as:List Addr}{ts:List bO}(k:∀a xs,H a=some (.tup xs)->H' a=some (.tup xs))(h:eV H as ts):eV H' as ts:=by let e:∀a∈as,tO H' a=tO H a:=λa ha=>Jw (k a _ (h.at_ a ha));show⟨λa ha=>by rw[e a ha];show k a _ (h.at_ a ha),by rw[<-h.eq];show fA e⟩
def eV.mv {H H':Hp}{as:List Addr}{ts:List bO}(k:aB H H')(h:eV H as ts):eV H' as ts:=h.Ni λa xs e=>k a _ e
def eV.snoc {H:Hp}{as:List Addr}{ts:List bO}{a:Addr}{t:bO}(h:eV H as ts)(ha:wJ H a t):eV H (as++[a]) (ts++[t]):=by
 calc⟨λb hb=>?_,by rw[bz,h.eq,List.map_singleton,Jw ha]⟩;rcases bu.mp hb with z|z;.show h.at_ b z
 .rw[a_.mp z,Jw ha];show ha
def eV.nil {H:Hp}:eV H [] []:=⟨λa h=>by simp at h,rK⟩
def eV.len {H:Hp}{as:List Addr}{ts:List bO}(h:eV H as ts):as.length=ts.length:=by rw[<-h.eq,aa]
def eV.get {H:Hp}{as:List Addr}{ts:List bO}(h:eV H as ts){i:Nat}(hi:i<as.length):∃t,ts[i]?=some t/\wJ H as[i] t:=⟨tO H as[i],by rw[<-h.eq];simp[hi],h.at_ _ (a9 _)⟩
def setAt (R:AA)(i j z:Nat):List (List Nat):=R.set i ((R.getD i []).set j z)
def dW (R:AA)(ts:List bO):List (List Nat):=ts.foldl (λR t=>setAt R t.1 t.2.1 t.2.2) R
def VB {r w:Nat}{R:AA}(h:Blk r w R){i j z:Nat}(hi:i<r):Blk r w (setAt R i j z):=by
 calc⟨by unfold setAt;rw[eW,h.len],λl hl=>?_⟩;rcases fN hl with y|y;.show h.rH l y
 .rw[y,eW,aw,af (by rw[h.len];show hi)];show h.rH _ (a9 _)
def aeM {r w:Nat}{R:AA}(h:Blk r w R){i j z:Nat}(hi:i<r){D:Nat->Prop}(hp:∀l∈R,∀c∈l,D c)(hz:D z):∀l∈setAt R i j z,∀c∈l,D c:=λl hl c F=>by
 rcases fN hl with y|y;.show hp l y c F
 .rw[y]at F;rcases fN F with u|u
  .rw[aw,af (by rw[h.len];show hi)]at u;show hp _ (a9 _) c u
  .rw[u];show hz
def inB (r w:Nat)(t:bO):Prop:=t.1<r/\t.2.1<w/\qN t.2.2
theorem tL {r w:Nat}:∀{ts:List bO} {R:AA},Blk r w R->(∀t∈ts,inB r w t)->Blk r w (dW R ts)
 | [],_,h,_=>h
 | t::ts,_,h,k=>tL (ts:=ts) (VB h (k t b9).1) λx hx=>k x (bE _ hx)
theorem G8 {r w:Nat}:∀{ts:List bO} {R:AA},Blk r w R->(∀t∈ts,inB r w t)->(∀l∈R,∀c∈l,BJ c)->∀l∈dW R ts,∀c∈l,BJ c
 | [],_,_,_,g=>g
 | t::ts,_,h,k,g=>G8 (ts:=ts) (VB h (k t b9).1) (λx hx=>k x (bE _ hx)) (aeM h (k t b9).1 g (.inr (k t b9).2.2))
def acj {r w:Nat}{aD aL:AA}{bi bj:Nat}(B:QV r w aD aL bi bj){ts:List bO}(k:∀t∈ts,inB r w t):QV r w (dW aD ts) aL bi bj:=⟨B.r1,B.r9,B.w1,B.w9,tL B.br k,B.bm,G8 B.br k B.cr,B.cm,B.bi,B.bj⟩
def aao (R:AA)(ts:List bO)(t:bO):dW R (ts++[t])=setAt (dW R ts) t.1 t.2.1 t.2.2:=by unfold dW;rw[List.foldl_append];rfl
structure jx (H0 H:Hp)(ps:List Addr)(R:AA):Prop where
 len:ps.length=R.length
 nd:ps.Nodup
 fr:∀p∈ps,H0 p=none
 at_:∀(i:Nat) (h:i<ps.length),H ps[i]=some (.lst (Ts (ones (R.getD i []))))
def jx.mv {H0 H H':Hp}{ps:List Addr}{R:AA}(h:jx H0 H ps R)(k:∀p∈ps,H' p=H p):jx H0 H' ps R:=⟨h.len,h.nd,h.fr,λi hi=>by rw[k _ (a9 _)];show h.at_ i hi⟩
def jx.mvS {H0 H H':Hp}{ps:List Addr}{R:AA}(h:jx H0 H ps R)(k:aB H H'):jx H0 H' ps R:=⟨h.len,h.nd,h.fr,λi hi=>k _ _ (h.at_ i hi)⟩
def jx.snoc {H0 H:Hp}{ps:List Addr}{R:AA}(h:jx H0 H ps R){p:Addr}{l:List Nat}(hn:p∉ps)(h0:H0 p=none)(hp:H p=some (.lst (Ts (ones l)))):jx H0 H (ps++[p]) (R++[l]):=by
 refine⟨by simp[h.len],?_,λx hx=>?_,λi hi=>?_⟩
 .rw[List.nodup_append];calc⟨h.nd,qa,λa ha b hb=>?_⟩;rw[a_.mp hb];show λz=>hn (z ▸ ha)
 .rcases bu.mp hx with z|z;.show h.fr x z
  .rw[a_.mp z];show h0
 .by_cases c:i<ps.length;.rw[List.getElem_append_left c,h.at_ i c,aw,aw,dS (by rw[<-h.len];show c)]
  .let e:i=ps.length:=by simp at hi;lia
   subst e;rw[List.getElem_append_right (al _)];simp only[Nat.sub_self,List.getElem_singleton];rw[hp,aw,dA (by rw[h.len];show al _),h.len];simp
def jx.set {H0 H:Hp}{ps:List Addr}{R:AA}(h:jx H0 H ps R){i j z:Nat}(hi:i<ps.length):jx H0 (upd H ps[i] (.lst ((Ts (ones (R.getD i []))).set j (.str (S [z]))))) ps (setAt R i j z):=by
 let e:(Ts (ones (R.getD i []))).set j (.str (S [z]))=Ts (ones ((R.getD i []).set j z)):=by show List.set (((R.getD i []).map λc=>[c]).map λl=>V.str (S l)) j (V.str (S [z]))=((List.set (R.getD i []) j z).map λc=>[c]).map λl=>V.str (S l);rw[nE,nE]
 rw[e];calc⟨by unfold setAt;rw[eW];show h.len,h.nd,h.fr,λk D=>?_⟩;by_cases c:k=i
 .subst c;rw[aq];unfold setAt;rw[aw (l:=R.set _ _),ka (by rw[<-h.len];show hi)];rfl
 .rw[aV (λz=>c ((List.getElem_inj h.nd).mp z)),h.at_ k D];unfold setAt;rw[aw (l:=R.set _ _),mP (λz=>c z.symm),<-aw]
def Dk (C:Addr):Sp:=λvs H Q _=>∃(p t:Addr) (as:List Addr) (ts:List bO) (r w:Nat) (aD aL:AA) (bi bj:Nat),vs=[.ref p,.ref t]/\cG C H p r w aD aL bi bj/\H t=some (.tup (as.map V.ref))/\eV H as ts/\(∀t∈ts,inB r w t)/\
 ∀(j:Addr) (H':Hp),aB H H'->cG C H' j r w (dW aD ts) aL bi bj->Q (.ref j) H'
def aeN {f C f0:Addr}{fd d8:FuncData}(F:d7 K "laid" "Board.laid" kj f fd)(T:fY K C)(iy:mg "list"=none)(cD:mg "tuple"=none)(wK:mg "Board"=some (.ref C))(KQ:Mk K C f0)(KR:bW P w K mg base cW 5 f0 d8 ["self","rows","marks","begin"] (KJ C))(KY:bK K d8 ["self","rows","marks","begin"] []):bW P w K mg base cW 8 f fd ["self","laying"] (Dk C):=by
 calc F.dh lu (λbH A outer s H vs Q E hr h=>?_);let⟨p,t,as,ts,r,w,aD,aL,bi,bj,rfl,BA,ht,hL,dY,q⟩:=h;obtain⟨⟨dx,pr,pm,pb,hx,hpr,hpm,hpb⟩,B⟩:=BA;let r9:=B.r9;let w9:=B.w9;let Y:=B.br;calc⟨_,(aA (Vn (ix:=2) (ns:=["row"]) lu.nd rK (Or.inl rK) rK (jM.of ["self","laying","lines",".3","column","sign"] [3] qh) (gG (bR aG rK)) (λ_ _ _ _ _=>(Kp (show (["row","self","laying","lines",".3","column","sign"]:List Str).Nodup by decide +kernel) rK qf)) (λ_ _ _ _ _=>dX) (λ_ _ _ _ _=>(eO (nF rK) qf iy fq (aj aG ao)))) (aA (fP cz rK (gG aW) (nY rK (bT (bF (i:=3) lu.nd rK (Or.inl rK)) (bT (bF (i:=4) lu.nd rK (Or.inl rK)) (bT (bF (i:=5) lu.nd rK (Or.inl rK)) lq)))) (aF (qZ dF (Qn (aY iH bA bN (λ_ _=>rfl)) cJ set_list)))) (aF (bf (o9 KQ KR hr.mono rK wK KY .nil cY (aj (eO i_ qf cD ck (aj (jO rK (jf.of lu.nd qh) (oh bA) (λ_ _ _ _ _=>dX) (λ_ _ _ _ _=>(Qs K bo c_ de (GR K) (bJ [] qi) (aj aG ao)))) ao)) (aj (bR aG rK) (aj (bR aG rK) ao)))))))),?_⟩;refine⟨_,rK,p,C,dx,_,_,rK,hx,T.cl,T.nr,rK,pr,rK,⟨_,aN.of hpr⟩,λM hM=>Jd (f:=jP [3] 0) (tt:=lV) (xs:=Ts aD) (λi ys H2=>∃ps:List Addr,ys=ps.map V.ref/\H2 M=some (.lst ys)/\aB H H2/\jx H H2 ps (aD.take i)/\M∉ps)
  ⟨[],rK,aq,aB.upd hM,⟨qa,pV,λp h=>by simp at h,λi h=>by simp at h⟩,qa⟩ (λi ys H2 _ h=>by let⟨_,_,_,G,_⟩:=h;show aN.of (G _ _ hpr)) ?_ ?_⟩
 .intro i x ys H2 hi z;let⟨ps,rfl,Jx,G,VD,nM⟩:=z;let⟨l,hl,rfl⟩:=rJ hi;let hil:i<(Ts aD).length:=(ah.mp hi).1;let hlw:l.length=w:=Y.rH _ (bp hl);let pZ:(Ts aD).length=r:=by rw[aa,Y.len]
  let hpl:ps.length<=9:=by rw[VD.len,av,Y.len];lia
  calc adH ⟨_,rK,l,rK,p_,λc hc=>?_⟩;let ncM:M≠c:=λz=>by rw[<-z,Jx]at hc;cases hc
  let ncp:c∉ps:=λz=>by let⟨k,hk,e⟩:=ir.mp z;have:=VD.at_ k hk;rw[e,hc]at this;cases this
  refine⟨by rw[aV ncM];show Jx,by rw[aa];show aK p_,g_.mk hil ⟨ps++[c],qa,aq,(G.dH (G.free hc)).dH hM,?_,?_⟩⟩
  .rw[show aD.take (i+1)=aD.take i++[l] by rw[cw,hl];rfl];calc jx.mv ((VD.mvS (aB.upd hc)).snoc ncp (G.free hc) aq) λy hy=>aV λz=>?_;rcases bu.mp hy with u|u
   .show nM (z ▸ u)
   .show ncM (z.symm.trans (a_.mp u))
  .intro z;rcases bu.mp z with u|u;.show nM u
   .show ncM (a_.mp u)
 .intro ys H2 z;let⟨ps,rfl,Jx,G,VD,nM⟩:=z;rw[ce (by rw[aa];show al _)]at VD;refine⟨_,rK,t,rK,⟨_,aN.of (G _ _ ht)⟩,za (K:=K) (a:=t) (xs:=as.map V.ref) (λi σ H3=>∃v3 v4 v5:Option V,σ=[some (.ref p),some (.ref t),some (.ref M),v3,v4,v5]/\aB H H3/\H3 M=some (.lst (ps.map V.ref))/\jx H H3 ps (dW aD (ts.take i)))
   (JE none none none ⟨rK,G,Jx,VD⟩) (λi σ H3 _ h=>by let⟨_,_,_,_,G,_⟩:=h;show aN.of (G _ _ ht)) ?_ ?_⟩
  .intro i x σ H3 j z;let⟨v3,v4,v5,rfl,D,Gi,I⟩:=z;rw[bS]at j;let hi:i<as.length:=by
    rcases Nat.lt_or_ge i as.length with z|z;.show z
    .rw[List.getElem?_eq_none z]at j;cases j
   rw[af hi]at j;let j:V.ref as[i]=x:=be j;subst j;let⟨u,eu,hU⟩:=hL.get hi;let hum:=bp eu;let⟨u1,u2,u3⟩:=dY u hum;let hb3:Blk r w (dW aD (ts.take i)):=tL Y λy hy=>dY y (cy hy);let hpl:ps.length=r:=by rw[I.len,hb3.len]
   let hps:u.1<ps.length:=p_;calc JA (as[i]) _ ⟨rK,aN.of (D _ _ hU),rK,_,_,rK,_,_,rK,_,_,rK,rK,?_⟩;refine⟨_,rK,_,rK,_,rK,M,_,_,.ref ps[u.1],rK,rK,bC.of Gi,aQ (by simp[hps]),_,rK,ps[u.1],_,_,u.2.1,rK,rK,I.at_ u.1 hps,?_,?_⟩
   .have:((dW aD (ts.take i)).getD u.1 []).length=w:=by
     rw[aw,af (by rw[hb3.len];show u1)];show hb3.rH _ (a9 _)
    unfold Bw;rw[aa,aa,this,if_pos p_,if_pos p_];congr 1
   .refine JE _ _ _ ⟨rK,D.dH (I.fr _ (a9 _)),?_,?_⟩
    .let ne:M≠ps[u.1]:=λz=>nM (by rw[z];show a9 _)
     rw[aV ne];show Gi
    .rw[show dW aD (ts.take (i+1))=setAt (dW aD (ts.take i)) u.1 u.2.1 u.2.2 by rw[cw,eu];show aao _ _ _];show I.set hps
  .intro σ H3 z;let⟨v3,v4,v5,rfl,D,Gi,I⟩:=z;rw[ce (by rw[aa,hL.len];show al _)]at I;let B':=acj B dY;let hpl:ps.length=r:=by rw[I.len,B'.br.len]
   refine⟨_,rK,M,rK,⟨_,bC.of Gi⟩,λN hN=>ZM (xs:=ps.map V.ref) (λi ys Z=>ys=Ts ((dW aD ts).take i)/\Z N=some (.lst ys)/\aB H3 Z) ⟨rK,aq,aB.upd hN⟩ (λi ys Z _ h=>bC.of (h.2.2 _ _ Gi)) ?_ ?_⟩
   .intro i x ys Z hi z;let⟨rfl,O,Jy⟩:=z;rw[bS]at hi;let J:i<ps.length:=by
     rcases Nat.lt_or_ge i ps.length with z|z;.show z
     .rw[List.getElem?_eq_none z]at hi;cases hi
    rw[af J]at hi;let hi:V.ref ps[i]=x:=be hi;subst hi;let Gj:i<(dW aD ts).length:=by rw[<-I.len];show J
    let hg:(dW aD ts).getD i []=(dW aD ts)[i]:=by rw[aw,af Gj];rfl
    let hw:(dW aD ts)[i].length=w:=B'.br.rH _ (a9 _);let hat:=I.at_ i J;rw[hg]at hat;calc⟨rK,_,rK,ps[i],ones (dW aD ts)[i],rK,rK,bC.of (Jy _ _ hat),by rw[mF,hw];lia,O,?_,g_.mk (by rw[aa];show J) ⟨?_,aq,Jy.dH hN⟩⟩;.rw[aa,av];show aK p_
    .rw[mF,KC,cw,af Gj];rfl
   .intro ys Z z;let⟨rfl,O,Jy⟩:=z;rw[ce (by rw[aa,I.len];show al _)]at O;calc JA N _ ⟨rK,.inl ⟨bC.of O,λl hl=>?_⟩⟩;let s5:=(D.trans Jy).dH (o:=.tup (Ts (dW aD ts))) ((D.trans Jy).free hl);calc⟨_,rK,p,C,dx,_,_,rK,s5 _ _ hx,T.cl,T.nm,rK,_,rK,p,C,dx,_,_,rK,s5 _ _ hx,T.cl,T.nb,rK,λx dy nx ndx wC=>?_⟩;let s6:aB (upd Z l (.tup (Ts (dW aD ts)))) (upd (upd (upd Z l (.tup (Ts (dW aD ts)))) dy (HO.own x)) x (HO.ins C dy [])):=λb o e=>by rw[aV (aX e nx),aV (aX e ndx)];show e
    calc JS x dy l pm pb r w (dW aD ts) ⟨aL,bi,bj,rK,aq,s6 _ _ aq,s6 _ _ (s5 _ _ hpm),s6 _ _ (s5 _ _ hpb),B',λH5 kp hx5=>⟨rK,?_⟩⟩;let s7:aB (upd Z l (.tup (Ts (dW aD ts)))) H5:=λb o e=>kp b o (s6 b o e) (aX e nx);show q x H5 (s5.trans s7) ⟨(JI dy l pm pb ⟨hx5,s7 _ _ aq,s7 _ _ (s5 _ _ hpm),s7 _ _ (s5 _ _ hpb)⟩),B'⟩
def Fp (ts:List bO):Prop:=ts.Pairwise (λa b=>a.1=b.1)\/ts.Pairwise (λa b=>a.1<b.1)
def X3 {H:Hp}{M:Addr}{ys zs:List V}(j:H M=some (.lst ys)):∀a xs,H a=some (.tup xs)->upd H M (.lst zs) a=some (.tup xs):=λa xs e=>by
 let ne:a≠M:=λz=>by rw[z,j]at e;cases e
 rw[aV ne];show e
abbrev kJ:=Nat×Nat×Nat×List Nat
def aap (H:Hp)(a:Addr)(q:kJ):Prop:=H a=some (.tup [.int q.1,.int q.2.1,.int q.2.2.1,.str (S q.2.2.2)])
noncomputable def tM (R:AA)(i j wy:Nat):kJ:=(if wy=0 then i else i-(iz ((lineOf R i j (wy:Int)).take i)).length,if wy=0 then j-(iz ((lineOf R i j (wy:Int)).take j)).length else j,wy,iz ((lineOf R i j (wy:Int)).take (placeOf i j (wy:Int)))++jA ((lineOf R i j (wy:Int)).drop (placeOf i j (wy:Int))))
structure iD {α:Type}(enc:α->List V)(H:Hp)(as:List Addr)(xs:List α):Prop where
 len:as.length=xs.length
 at_:∀(i:Nat) (a:Addr) (x:α),as[i]?=some a->xs[i]?=some x->H a=some (.tup (enc x))
def iD.Ni {α:Type}{enc:α->List V}{H H':Hp}{as:List Addr}{xs:List α}(k:∀a ys,H a=some (.tup ys)->H' a=some (.tup ys))(h:iD enc H as xs):iD enc H' as xs:=⟨h.len,λi a x h1 h2=>k _ _ (h.at_ i a x h1 h2)⟩
def iD.mv {α:Type}{enc:α->List V}{H H':Hp}{as:List Addr}{xs:List α}(k:aB H H')(h:iD enc H as xs):iD enc H' as xs:=h.Ni λa ys e=>k a _ e
def iD.nil {α:Type}{enc:α->List V}{H:Hp}:iD enc H [] []:=⟨rK,λi a x h=>by simp at h⟩
def iD.one {α:Type}{enc:α->List V}{H:Hp}{a:Addr}{x:α}(h:H a=some (.tup (enc x))):iD enc H [a] [x]:=⟨rK,λi b y h1 h2=>by
 match i,h1,h2 with
 | 0,h1,h2=>have e1:a=b:=be h1;let e2:x=y:=be h2;rw[<-e1,<-e2];show h
 | n+1,h1,h2=>show absurd h1 qa⟩
def iD.app {α:Type}{enc:α->List V}{H:Hp}{as bs:List Addr}{xs ys:List α}(h:iD enc H as xs)(g:iD enc H bs ys):iD enc H (as++bs) (xs++ys):=by
 calc⟨by rw[ay,ay,h.len,g.len],λi a x h1 h2=>?_⟩;by_cases c:i<as.length
 .rw[dS c]at h1;rw[dS (by rw[<-h.len];show c)]at h2;show h.at_ i a x h1 h2
 .rw[dA p_]at h1;rw[dA (by rw[<-h.len];lia),<-h.len]at h2;show g.at_ _ a x h1 h2
def iD.get {α:Type}{enc:α->List V}{H:Hp}{as:List Addr}{xs:List α}(h:iD enc H as xs){i:Nat}(hi:i<as.length):∃x,xs[i]?=some x/\H as[i]=some (.tup (enc x)):=by
 let hx:i<xs.length:=by rw[<-h.len];show hi
 show⟨xs[i],af hx,h.at_ i _ _ (af hi) (af hx)⟩
abbrev QL:=iD (λq:kJ=>[V.int q.1,V.int q.2.1,V.int q.2.2.1,V.str (S q.2.2.2)])
abbrev AL3:=iD (λq:Nat×Nat×Nat=>[V.int q.1,V.int q.2.1,V.int q.2.2])
def ni (ts:List bO):Nat:=if ts.head?.map (·.1)=ts.getLast?.map (·.1) then 0 else 1
noncomputable def Ag (ts:List bO):List (Nat×Nat×Nat):=(ts.take 1).map (λt=>(t.1,t.2.1,ni ts))++ts.map λt=>(t.1,t.2.1,1-ni ts)
def qd (R:AA)(a:Nat×Nat×Nat):kJ:=tM R a.1 a.2.1 a.2.2
def Jz (q:kJ):Bool:=decide (1<q.2.2.2.length)
def jK (aD:AA)(ts:List bO):List kJ:=((Ag ts).map (qd (dW aD ts))).filter Jz
def aaq (ts:List bO):ni ts<=1:=by unfold ni;split <;> decide
def G9 {r w:Nat}{R:AA}(hb:Blk r w R)(r9:r<=9)(w9:w<=9){i j wy:Nat}(hi:i<r):(tM R i j wy).2.2.2.length<=20:=by
 let D:=vO hb hi (j:=j) (way:=(wy:Int));let F:(lineOf R i j (wy:Int)).length<=9:=by rw[D];split <;> assumption
 show (iz _++jA _).length<=20;let a1:=qO ((lineOf R i j (wy:Int)).take (placeOf i j (wy:Int)));let a2:=xX ((lineOf R i j (wy:Int)).drop (placeOf i j (wy:Int)));rw[av]at a1;rw[ba]at a2;rw[ay];lia
def aar {ts:List bO}(h:0<ts.length):ni ts=if ts[0].1=ts[ts.length-1].1 then 0 else 1:=by unfold ni;rw[List.head?_eq_getElem?,oQ,af h,af p_];simp only[kR,Option.some.injEq]
def jL {H:Hp}{as:List Addr}{ts:List bO}(j:eV H as ts){i:Nat}(hi:i<ts.length):∃(h:i<as.length),H as[i]=some (.tup [.int ts[i].1,.int ts[i].2.1,.str (S [ts[i].2.2])]):=by
 let h:i<as.length:=by rw[j.len];show hi
 let⟨t,e,ht⟩:=j.get h;rw[af hi]at e;let e:=be e;rw[<-e]at ht;show⟨h,ht⟩
def aeO {as:List Addr}(h:0<as.length):sS (as.map V.ref) (-1)=some (.ref as[as.length-1]):=by
 let e:as.map V.ref=(as.take (as.length-1)).map V.ref++[V.ref as[as.length-1]]:=by rw[<-List.map_singleton,<-bz];congr 1;have:=kq (as.length-1) as;rw[gr p_,show as.length-1+1=as.length by lia,mB]at this;show this.symm
 rw[e];show Gz _ _
def aas {ts:List bO}(hl:Fp ts)(h0:0<ts.length):((ts.map λt=>decide (V.int (t.1:Int)=V.int (ts[0].1:Int))).all id)=decide (ni ts=0):=by
 let hd:∀a b:Nat,decide (V.int (a:Int)=V.int (b:Int))=decide (a=b):=λa b=>by
  by_cases h:a=b;.subst h;simp
  .have:¬V.int (a:Int)=V.int (b:Int):=λz=>h (by injection z with z;show on z)
   simp[h,this]
 let j:(∀t∈ts,t.1=ts[0].1)↔ts[0].1=ts[ts.length-1].1:=by
  constructor
  .intro h;show(h _ (a9 _)).symm
  .intro h t ht;let⟨i,hi,rfl⟩:=ir.mp ht;rcases hl with hl|hl
   .rw[iE]at hl;rcases lh i with z|z;.subst z;rfl
    .show(hl 0 i h0 hi z).symm
   .rw[iE]at hl;rcases lh (ts.length-1) with z|z
    .have:i=0:=by lia
     subst this;rfl
    .have:=hl 0 (ts.length-1) h0 p_ z;lia
 rw[aar h0,hV,fh,decide_eq_true_iff];constructor
 .intro h;rw[if_pos];calc j.mp λt ht=>?_;have:=h _ (bc.mpr ⟨t,ht,rK⟩);rw[hd]at this;show dP this
 .intro h x hx;let⟨t,ht,rfl⟩:=bc.mp hx;let D:ts[0].1=ts[ts.length-1].1:=by
   by_cases z:ts[0].1=ts[ts.length-1].1;.show z
   .rw[if_neg z]at h;cases h
  rw[hd];show ai (j.mpr D t ht)
def Q0:Sp:=λvs H Q _=>∃(t:Addr) (as:List Addr) (ts:List bO),vs=[.ref t]/\H t=some (.tup (as.map V.ref))/\eV H as ts/\0<ts.length/\ts.length<=7/\Fp ts/\∀H',aB H H'->Q (.bl (decide (ni ts=0))) H'
def Q5 (D:aM K mg "is_across" pY ["laying"])(fH:mg "all"=none):bU P w K mg base "is_across" 1 ["laying"] Q0:=by
 calc D.dh CZ (λf bH A outer s H vs Q E hr h=>?_);let⟨t,as,ts,rfl,ht,Y,h0,h7,hl,q⟩:=h;let J:=Y.len;calc⟨_,(aF (bf (aO (jV rK) qf fH jJ (aj (lX (ns:=["row","column","sign"]) rK (jM.of ["laying"] [] qh) (gG aG) (λ_ _ _ _ _=>(o_ K rK (show (["row","column","sign","laying"]:List Str).Nodup by decide +kernel) rK rK rK qf qf qf)) (λ_ _ _ _ _=>dX) (λ_ _ _ _ _=>(d_ iQ aG (aY (qK K) (aY (qK K) bN au (λ_ _=>rfl)) au (λ_ _=>rfl)) (bG _)))) ao)))),?_⟩;refine⟨_,rK,t,rK,⟨_,aN.of ht⟩,λN Z=>j4 (K:=K) (KT:=K) (a:=t) (f:=jP [] 0) (tt:=lV) (xs:=as.map V.ref) (λn ys G=>ys=((ts.take n).map λt=>decide (V.int (t.1:Int)=V.int (ts[0].1:Int))).map V.bl/\G N=some (.lst ys)/\aB H G)
  ⟨rK,aq,aB.upd Z⟩ (λn ys G _ h=>aN.of (h.2.2 _ _ ht)) ?_ ?_⟩
 .intro n x ys G hx z;let⟨rfl,O,F⟩:=z;let⟨hn,hx⟩:=rfg hx;let I:n<ts.length:=p_;let⟨_,en⟩:=jL (Y.mv F) I;let⟨g0,e0⟩:=jL (Y.mv F) h0;calc vB hx.symm (aN.of en) ?_;calc⟨_,rK,_,rK,t,_,_,.ref as[0],rK,rK,aN.of (F _ _ ht),aQ (j:=0) (by simp[g0]),as[0],_,_,_,rK,rK,aN.of e0,aQ (j:=0) rK,rK,O,?_,g_.mk (by rw[aa];show hn) ⟨?_,aq,F.dH Z⟩⟩;.rw[aa,aa,av];show aK p_
  .rw[show ts.take (n+1)=ts.take n++(some ts[n]).toList by rw[cw,af I],bz,bz];rfl
 .intro ys G z;let⟨rfl,O,F⟩:=z;calc JA N _ ⟨rK,bC.of O,?_⟩;rw[aa,J,cv,aas hl h0];show q G F
def aat {r w:Nat}{R:AA}{i j wy:Nat}(D:wy<=1):aci i j (wy:Int) (lineOf R i j (wy:Int))=[.int (tM R i j wy).1,.int (tM R i j wy).2.1,.str (S (tM R i j wy).2.2.2)]:=by
 unfold aci tM placeOf;by_cases z:wy=0
 .subst z;let a1:=qO ((lineOf R i j ((0:Nat):Int)).take j);rw[av]at a1;rw[if_pos rfl];show [V.int (i:Int),V.int ((j:Int)-_),_]=[V.int (i:Int),V.int ((j-_:Nat):Int),_]
  rw[Int.ofNat_sub p_];rfl
 .have:wy=1:=by lia
  subst this;let a1:=qO ((lineOf R i j ((1:Nat):Int)).take i);rw[av]at a1;rw[if_neg qc];show [V.int ((i:Int)-_),V.int (j:Int),_]=[V.int ((i-_:Nat):Int),V.int (j:Int),_]
  rw[Int.ofNat_sub p_];rfl
def G_ (C:Addr):Sp:=λvs H Q _=>∃(b t:Addr) (as:List Addr) (ts:List bO) (r w:Nat) (aD aL:AA) (bi bj:Nat),vs=[.ref b,.ref t]/\cG C H b r w aD aL bi bj/\H t=some (.tup (as.map V.ref))/\eV H as ts/\(∀t∈ts,inB r w t)/\0<ts.length/\ts.length<=7/\Fp ts/\
 ∀(T:Addr) (bs:List Addr) (H':Hp),aB H H'->H' T=some (.tup (bs.map V.ref))->QL H' bs (jK aD ts)->Q (.ref T) H'
def aau {C f1 f2:Addr}{dM fd2:FuncData}(D:aM K mg "formed" Ab ["board","laying"])(bB:mg "len"=none)(cD:mg "tuple"=none)(cj:fY K C)(kO:Meth K C "laid" f1)(kY:bW P w K mg base cW 8 f1 dM ["self","laying"] (Dk C))(kZ:bK K dM ["self","laying"] [])(Ul:Meth K C "run" f2)(Um:bW P w K mg base cW 2 f2 fd2 ["self","row","column","way"] (adL C))(Uo:bK K fd2 ["self","row","column","way"] [])(yI:bU P w K mg base "is_across" 1 ["laying"] Q0):bU P w K mg base "formed" 10 ["board","laying"] (G_ C):=by
 calc D.dh lE (λf bH A outer s H vs Q E hr h=>?_);let⟨b,t,as,ts,r,w,aD,aL,bi,bj,rfl,BA,ht,hL,dY,h0,h7,hl,q⟩:=h;let⟨dx,_,_,_,ex,_⟩:=id BA.ex;let r9:=BA.ok.r9;let w9:=BA.ok.w9;let hal:=hL.len;let pZ:=aaq ts;calc⟨_,(aA (aU (i:=2) lE.nd rK (Or.inl rK) (mQ aG cj.cl kO kY hr.mono kZ .nil cY (aj aW ao))) (aA (fU (aU (i:=3) lE.nd rK (Or.inr rK) (nD (cQ (bD yI hr.mono rK (aj aW ao))) au au))) (aA (aU (i:=4) lE.nd rK (Or.inl rK) (jH (aj (cR (aj (aY bw (aY bw aW au (λ_ _=>rfl)) au (λ_ _=>rfl)) (aj (aY bw (aY bw aW au (λ_ _=>rfl)) au (λ_ _=>rfl)) (aj bN ao)))) ao))) (aA (dD (f9 cn PySem.F.slot_list_extend PySem.F.type_list_extend Zt cJ (aj (lX (ns:=["row","column","sign"]) rK (jM.of ["board","laying","after","way","asked",".5",".6","words","along","run"] [5,6] qh) (gG aW) (λ_ _ _ _ _=>(o_ K rK (show (["row","column","sign","board","laying","after","way","asked",".5",".6","words","along","run"]:List Str).Nodup by decide +kernel) rK rK rK qf qf qf)) (λ_ _ _ _ _=>dX) (λ_ _ _ _ _=>(cR (aj aG (aj aW (aj (aJ oO au fG) ao)))))) ao))) (aA (aU (i:=7) lE.nd rK (Or.inl rK) (jH ao)) (aA (fP cz rK (oh cJ) (nY rK (bT (bF (i:=5) lE.nd rK (Or.inl rK)) (bT (bF (i:=6) lE.nd rK (Or.inl rK)) (bT (bF (i:=8) lE.nd rK (Or.inl rK)) lq)))) (aA (aU (i:=9) lE.nd rK (Or.inl rK) (mQ bA cj.cl Ul Um hr.mono Uo .nil cY (aj dF (aj fG (aj jZ ao))))) (aF (cA (bQ Ew (aO cZ qf bB aE (aj (aY bw jN au (λ_ _=>rfl)) ao)) au (bG _)) (aF (dD (f9 cn dr du jD iJ (aj (cR (aj (aY bw jN au (λ_ _=>rfl)) (aj (aY bw jN au (λ_ _=>rfl)) (aj jZ (aj (aY bw jN au (λ_ _=>rfl)) ao))))) ao)))) bI)))) (aF (bf (eO i_ qf cD ck (aj iJ ao)))))))))),?_⟩;calc⟨_,rK,b,dx,_,rK,ex,rK,_,rK,b,t,as,ts,r,w,aD,aL,bi,bj,rK,BA,ht,hL,dY,λx1 H1 s1 B1=>?_⟩;let hb':=tL BA.ok.br dY;generalize hR:dW aD ts=R at B1 hb';refine⟨λσ H'=>aB H1 H'/\σ=[some (.ref b),some (.ref t),some (.ref x1),some (.int (ni ts)),none,none,none,none,none,none],?_,?_⟩
 .calc⟨_,rK,t,as,ts,rK,s1 _ _ ht,hL.mv s1,h0,h7,hl,λH2 s2=>⟨_,rK,?_⟩⟩;by_cases z:ni ts=0
  .rw[ai z];calc cu ⟨s2,?_⟩;rw[z];rfl
  .rw[ag z];calc bL ⟨s2,?_⟩;rw[show ni ts=1 by lia];rfl
 rintro σ H2 ⟨s2,rfl⟩;let s12:=s1.trans s2;let hL2:=hL.mv s12;let Nj:=s12 _ _ ht;let⟨g0,e0⟩:=jL hL2 h0;calc⟨_,rK,t,_,_,.ref as[0],rK,rK,aN.of Nj,aQ (j:=0) (by simp[g0]),as[0],_,_,_,rK,rK,aN.of e0,aQ (j:=0) rK,_,rK,t,_,_,.ref as[0],rK,rK,aN.of Nj,aQ (j:=0) (by simp[g0]),as[0],_,_,_,rK,rK,aN.of e0,aQ (j:=1) rK,_,rK,zsz 3,λF ht1=>⟨zsz 1,λG hA0=>?_⟩⟩;let k3:aB H2 (upd H2 F (HO.tup [.int ts[0].1,.int ts[0].2.1,.int (ni ts)])):=aB.upd ht1;let k4:=k3.dH (o:=HO.lst [.ref F]) (k3.free hA0);let hA0':=k3.free hA0;let n1A:F≠G:=λz=>by rw[<-z,aq]at hA0;cases hA0
 let e1:upd (upd H2 F (HO.tup [.int ts[0].1,.int ts[0].2.1,.int (ni ts)])) G (HO.lst [.ref F]) F=some (.tup [.int ts[0].1,.int ts[0].2.1,.int (ni ts)]):=by rw[aV n1A,aq]
 let eA:upd (upd H2 F (HO.tup [.int ts[0].1,.int ts[0].2.1,.int (ni ts)])) G (HO.lst [.ref F]) G=some (.lst [.ref F]):=aq;generalize upd (upd H2 F (HO.tup [.int ts[0].1,.int ts[0].2.1,.int (ni ts)])) G (HO.lst [.ref F])=H4 at k4 e1 eA ⊢;let ht4:=k4 _ _ Nj;let zE:=hL2.mv k4;let e1l:(1:Int)-(ni ts:Int)=((1-ni ts:Nat):Int):=p_;refine⟨_,rK,.inl ⟨rK,_,bC.of eA⟩,_,rK,t,rK,⟨_,aN.of ht4⟩,λN hN=>j4 (K:=K) (KT:=K) (a:=t) (f:=jP [5,6] 0) (tt:=lV) (xs:=as.map V.ref) (λn ys I=>∃cs:List Addr,ys=cs.map V.ref/\cs.length=n/\I N=some (.lst ys)/\aB H4 I/\AL3 I cs ((ts.take n).map λt=>(t.1,t.2.1,1-ni ts)))
  ⟨[],rK,rK,aq,aB.upd hN,iD.nil⟩ (λn ys I _ h=>by let⟨_,_,_,_,J,_⟩:=h;show aN.of (J _ _ ht4)) ?_ ?_⟩
 .intro n x ys I hx z;let⟨cs,rfl,Z,xY,pN,JB⟩:=z;let⟨hn,hx⟩:=rfg hx;let hnt:n<ts.length:=p_;let⟨_,en⟩:=jL (zE.mv pN) hnt;calc vB hx.symm (aN.of en) ?_;calc⟨_,rK,_,rK,_,rK,_,_,rK,rK,zsz 3,λg hg=>?_⟩;let kg:aB I (upd I g (HO.tup [.int ts[n].1,.int ts[n].2.1,.int (1-(ni ts:Int))])):=aB.upd hg;let hNg:=kg _ _ xY;calc⟨hNg,by rw[aa];show aK p_,g_.mk (by rw[aa];show hn) ⟨cs++[g],qa,by simp[Z],by rw[aq],(pN.trans kg).dH hN,?_⟩⟩;rw[show ts.take (n+1)=ts.take n++[ts[n]] by rw[cw,af hnt];rfl,bz];calc((JB.mv kg).app (iD.one (x:=(ts[n].1,ts[n].2.1,1-ni ts)) ?_)).Ni (X3 hNg);rw[aq,e1l]
 intro ys I z;let⟨cs,rfl,Z,xY,pN,JB⟩:=z;rw[aa]at Z;rw[aa,hal,cv]at JB;let eA5:=pN _ _ eA;calc JI G N _ _ ⟨rK,rK,eA5,xY,by rw[aa,Z];show ap (aK (by simp;lia)),?_⟩;let acn:AL3 (upd I G (HO.lst ([V.ref F]++cs.map V.ref))) ([F]++cs) (Ag ts):=by
  let hone:AL3 I [F] ((ts.take 1).map λt=>(t.1,t.2.1,ni ts)):=by rw[List.take_one,List.head?_eq_getElem?,af h0];show iD.one (x:=(ts[0].1,ts[0].2.1,ni ts)) (pN _ _ e1)
  show(hone.app JB).Ni (X3 eA5)
 let sH6:aB H1 (upd I G (HO.lst ([V.ref F]++cs.map V.ref))):=λa o e=>by have:=(k4.trans pN) _ _ (s2 _ _ e);rw[aV (λz=>by rw[z]at e;have:=s2 _ _ e;rw[hA0']at this;cases this)];show this
 let Y:upd I G (HO.lst ([V.ref F]++cs.map V.ref)) G=some (.lst (([F]++cs).map V.ref)):=by rw[aq];simp
 generalize upd I G (HO.lst ([V.ref F]++cs.map V.ref))=H6 at acn sH6 Y ⊢;let ahd:=acn.len;let hak:(Ag ts).length=1+ts.length:=by unfold Ag;rw[ay,aa,aa,av];lia
 let ajw:∀n (a:Nat×Nat×Nat),(Ag ts)[n]?=some a->a.1<r/\a.2.1<w/\a.2.2<=1:=λn a ha=>by
  rcases bu.mp (bp ha) with z|z
  .let⟨u,hu,rfl⟩:=bc.mp z;have:=dY u (cy hu);show⟨this.1,this.2.1,pZ⟩
  .let⟨u,hu,rfl⟩:=bc.mp z;have:=dY u hu;show⟨this.1,this.2.1,by show 1-ni ts<=1;lia⟩
 calc⟨zsz 0,λW hW=>?_⟩;let hW0:=sH6.free hW;let nWA:G≠W:=λz=>by rw[<-z,Y]at hW;cases hW
 let kW:aB H6 (upd H6 W (HO.lst [])):=aB.upd hW;refine⟨_,rK,G,rK,⟨_,bC.of (kW _ _ Y)⟩,nC (K:=K) (a:=G) (xs:=([F]++cs).map V.ref) (λn σ H'=>∃(v6 v7 v8 v9:Option V) (bs:List Addr),σ=[some (.ref b),some (.ref t),some (.ref x1),some (.int (ni ts)),some (.ref G),v6,v7,some (.ref W),v8,v9]/\aB H6 H'/\H' W=some (.lst (bs.map V.ref))/\bs.length<=n/\QL H' bs ((((Ag ts).take n).map (qd R)).filter Jz))
  (JJ none none none none [] ⟨rK,kW,aq,al _,iD.nil⟩) (λn σ H' _ h=>by let⟨_,_,_,_,_,_,J,_⟩:=h;show bC.of (J _ _ Y)) ?_ ?_⟩
 .intro n x σ H' hx z;let⟨v6,v7,v8,v9,bs,rfl,J,hWb,Q7,hQ⟩:=z;let hn:n<([F]++cs).length:=by have:=(ah.mp hx).1;simpa using this
  rw[bS,af hn]at hx;let hx:V.ref ([F]++cs)[n]=x:=be hx;subst hx;let⟨a,ea,hat⟩:=(acn.mv J).get hn;let⟨c1,c2,c3⟩:=ajw n a ea;let hn9:n<9:=by rw[ahd,hak]at hn;lia
  calc JA (([F]++cs)[n]) _ ⟨rK,aN.of hat,rK,_,_,rK,_,_,rK,_,_,rK,rK,?_⟩;let B2:=B1.mv (sH6.trans J);let⟨dx1,_,_,_,VF,_⟩:=id B2.ex;calc⟨_,rK,x1,dx1,_,rK,VF,rK,_,rK,_,rK,_,rK,x1,r,w,R,aL,bi,bj,a.1,a.2.1,(a.2.2:Int),rK,B2,c1,c2,p_,λt2 H7 s7 _ ht7=>?_⟩;rw[aat (r:=r) (w:=w) c3]at ht7;let cU:=G9 hb' r9 w9 c1 (j:=a.2.1) (wy:=a.2.2);let O:=aN.of (K:=K) ht7;let aco:=s7 _ _ hWb;calc⟨_,rK,t2,_,_,_,rK,rK,O,aQ (j:=2) rK,_,rK,ap (aK p_),_,_,rK,rK,_,rK,?_⟩;let adM:(Ag ts).take (n+1)=(Ag ts).take n++[a]:=by rw[cw,ea];rfl
  by_cases hc:Jz (qd R a)=true
  .have:decide ((2:Int)<=((tM R a.1 a.2.1 a.2.2).2.2.2.length:Int))=true:=ai (by have:=dP hc;show (2:Int)<=((qd R a).2.2.2.length:Int);lia);rw[this];calc cu ⟨_,rK,.inl ⟨rK,_,bC.of aco⟩,_,rK,t2,_,_,_,rK,rK,O,aQ (j:=0) rK,_,rK,t2,_,_,_,rK,rK,O,aQ (j:=1) rK,_,rK,_,rK,t2,_,_,_,rK,rK,O,aQ (j:=2) rK,zsz 4,λg hg=>?_⟩;let kg:aB H7 (upd H7 g (HO.tup [.int (tM R a.1 a.2.1 a.2.2).1,.int (tM R a.1 a.2.1 a.2.2).2.1,.int a.2.2,.str (S (tM R a.1 a.2.1 a.2.2).2.2.2)])):=aB.upd hg;let hWg:=kg _ _ aco;calc JE W _ _ ⟨rK,rK,hWg,by rw[aa];show aK p_,?_⟩;calc JJ _ _ _ _ (bs++[g]) ⟨rK,((J.trans s7).trans kg).dH hW,by rw[aq];simp,by simp;lia,?_⟩;rw[adM,bz,List.filter_append];let e2:([a].map (qd R)).filter Jz=[qd R a]:=by simp[hc]
   rw[e2];show(((hQ.mv s7).mv kg).app (iD.one (x:=qd R a) aq)).Ni (X3 hWg)
  .have:decide ((2:Int)<=((tM R a.1 a.2.1 a.2.2).2.2.2.length:Int))=false:=ag (λz=>hc (ai (by let z:(2:Int)<=((qd R a).2.2.2.length:Int):=z;lia)));rw[this];calc bL (JJ _ _ _ _ bs ⟨rK,J.trans s7,aco,p_,?_⟩);rw[adM,bz,List.filter_append];let e2:([a].map (qd R)).filter Jz=[]:=by simp[hc]
   rw[e2,ia];show hQ.mv s7
 .intro σ H' z;let⟨v6,v7,v8,v9,bs,rfl,J,hWb,Q7,hQ⟩:=z;rw[aa,ahd,cv]at hQ;calc⟨_,rK,W,_,rK,.inl ⟨bC.of hWb,λT hT=>?_⟩⟩;let k:aB H' (upd H' T (HO.tup (bs.map V.ref))):=aB.upd hT;calc q T bs _ (((s1.trans sH6).trans J).trans k) aq ?_;unfold jK;rw[hR];show hQ.mv k
def Hf (K:W.Frag)(T:String)(H:Hp)(x:V):Prop:=∃t,lR K H x t/\W.kitOne K t (.type T)=some false
def lR.mv {K:W.Frag}{H H':Hp}{x:V}{t:Value}(h:lR K H x t)(s:aB H H'):lR K H' x t:=by
 cases h with| non=>show .non| bl b=>show .bl b| int i=>show .int i| str x=>show .str x| flt x=>show .flt x| lst e=>show .lst (s _ _ e)| pU e=>show .pU (s _ _ e)| tup e=>show .tup (s _ _ e)| dK e=>show .dK (s _ _ e)| dT e=>show .dT (s _ _ e)| ins e a b c d f=>show .ins (s _ _ e) a b c d f
def Hf.mv {K:W.Frag}{T:String}{H H':Hp}{x:V}(h:Hf K T H x)(s:aB H H'):Hf K T H' x:=let ⟨t,a,b⟩:=h;⟨t,lR.mv a s,b⟩
def Hg (K:W.Frag):Sp:=λvs H Q _=>(∃i:Int,vs=[.int i]/\Q (.bl true) H)\/(∃b:Bool,vs=[.bl b]/\Q (.bl false) H)\/∃x,vs=[x]/\Hf K "int" H x/\Q (.bl false) H
def Q8 (D:aM K mg "is_whole" rB ["thing"])(G:mg "int"=none)(F:mg "bool"=none)(j:mg "isinstance"=none):bU P w K mg base "is_whole" 1 ["thing"] (Hg K):=by
 refine D.dh Gf (λf bH A outer s H vs Q E I h=>?_) (λvs H Q E h=>?_)
 .calc⟨_,(aF (bf (jG (aO cP qf j aS (aj aG (aj (fu (v:=.ty "int") qf G fR rK) ao))) (jg (Qh (aO cP qf j aS (aj aG (aj (fu (v:=.ty "bool") qf F gd rK) ao)))))))),?_⟩;rcases h with⟨i,rfl,q⟩|⟨b,rfl,q⟩|⟨x,rfl,⟨t,ty,k⟩,q⟩;.show⟨_,rK,_,_,_,true,rK,.int _,qh,true,rK,cu ⟨_,rK,_,_,_,false,rK,.int _,qh,false,rK,q⟩⟩
  .show⟨_,rK,_,_,_,true,rK,.bl _,qh,true,rK,cu ⟨_,rK,_,_,_,true,rK,.bl _,qh,true,rK,q⟩⟩
  .show⟨_,rK,_,_,_,false,rK,ty,k,false,rK,bL q⟩
 .rcases h with⟨i,rfl,_⟩|⟨i,rfl,_⟩|⟨i,rfl,_⟩ <;> rfl
def all_map {α:Type}(l:List α)(f:α->Bool):((l.map f).all id)=l.all f:=by induction l with|nil=>rfl|cons a l ih=>simp[ih]
def take_snoc {α β:Type}{l:List α}{i:Nat}{a:α}(h:l[i]?=some a)(f:α->β):(l.take (i+1)).map f=(l.take i).map f++[f a]:=by rw[cw,h,bz];rfl
inductive xZ (K:W.Frag) (H:Hp):V->Option Int->Prop
 | int (i:Int):xZ K H (.int i) (some i)
 | bl (b:Bool):xZ K H (.bl b) none
 | no {x:V} (h:Hf K "int" H x):xZ K H x none
def xZ.mv {H H':Hp}{x:V}{o:Option Int}(h:xZ K H x o)(s:aB H H'):xZ K H' x o:=by
 cases h with| int i=>show .int i| bl b=>show .bl b| no h=>show .no (h.mv s)
noncomputable def JC (r w:Nat)(oi oj:Option Int):Bool:=match oi,oj with|some i,some j=>decide (0<=i/\i<r/\0<=j/\j<w)|_,_=>false
def VG (K:W.Frag):Sp:=λvs H Q _=>∃(p:Addr) (ls:AA) (r w:Nat) (x y:V) (oi oj:Option Int),vs=[.ref p,x,y]/\H p=some (.tup (Ts ls))/\Blk r w ls/\1<=r/\r<=9/\w<=9/\xZ K H x oi/\xZ K H y oj/\Q (.bl (JC r w oi oj)) H
def xZ.sp {H:Hp}{x:V}{o:Option Int}{Q:VK}{E:XK}(h:xZ K H x o)(q:Q (.bl o.isSome) H):Hg K [x] H Q E:=by
 cases h with| int i=>show .inl ⟨i,rK,q⟩| bl b=>show .inr (.inl ⟨b,rK,q⟩)| no h=>show .inr (.inr ⟨x,rK,h,q⟩)
def KZ (D:aM K mg "is_cell_of" oU ["rows","row","column"])(J:mg "len"=none)(I:bU P w K mg base "is_whole" 1 ["thing"] (Hg K)):bU P w K mg base "is_cell_of" 2 ["rows","row","column"] (VG K):=by
 calc D.dh Bx (λf bH A outer s H vs Q E G h=>?_);let⟨p,ls,r,w,x,y,oi,oj,rfl,hp,hb,r1,r9,w9,hx,hy,q⟩:=h;let Z:(Ts ls).length=r:=by rw[aa,hb.len]
 let h0:0<ls.length:=by rw[hb.len];lia
 let F:ls[0].length=w:=hb.rH _ (a9 _);calc⟨_,(aA (cA (QW.qt (je (dG (cQ (bD I G.mono rK (aj aW ao)))) (iR (dG (cQ (bD I G.mono rK (aj bA ao))))))) (aF (bf h_)) bI) (aF (bf (jG (lW qe vo au aW (aO bY qf J aE (aj aG ao))) (jg (lW qe vo au bA (aO cZ qf J aE (aj (aY bw aG au (λ_ _=>rfl)) ao)))))))),?_⟩;calc⟨_,rK,?_⟩;dsimp only[zV,vp];calc xZ.sp hx ⟨_,rK,?_⟩;cases hx with
 | bl b=>show cu q
 | no h=>show cu q
 | int i=>
  calc bL ⟨_,rK,?_⟩;dsimp only[zV,vp];calc xZ.sp hy ⟨_,rK,?_⟩;cases hy with
  | bl b=>show cu q
  | no h=>show cu q
  | int j=>
   calc bL ?_;let q:Q (.bl (decide (0<=i/\i<(r:Int)/\0<=j/\j<(w:Int)))) H:=q;calc⟨_,rK,_,_,rK,rK,_,rK,?_⟩;by_cases h1:0<=i
   .rw[ai h1];calc cu ⟨_,rK,p,_,rK,.inr (aN.of hp),_,_,rK,rK,_,rK,?_⟩;rw[Z];by_cases h2:i<(r:Int)
    .rw[ai h2];calc cu ⟨_,rK,_,_,rK,rK,_,rK,?_⟩;by_cases h3:0<=j
     .rw[ai h3];calc cu ⟨_,rK,p,_,_,.str (S ls[0]),rK,rK,aN.of hp,aQ (j:=0) (nQ (by simp[h0])),_,rK,ap (aK p_),_,_,rK,rK,?_⟩;rw[F];simpa [h1,h2,h3] using q
     .rw[ag h3];calc bL ?_;simpa [h1,h2,h3] using q
    .rw[ag h2];calc bL ?_;simpa [h1,h2] using q
   .rw[ag h1];calc bL ⟨_,rK,bL ?_⟩;simpa [h1] using q
inductive VH (K:W.Frag) (H:Hp):V->Option (List Nat)->Prop
 | no {x:V} (h:adJ K H x):VH K H x none
 | str (l:List Nat) (h:l.length<=1000):VH K H (.str (S l)) (some l)
def VH.mv {H H':Hp}{x:V}{o:Option (List Nat)}(h:VH K H x o)(s:aB H H'):VH K H' x o:=by
 cases h with| no h=>show .no (let ⟨t,a,b⟩:=h;⟨t,lR.mv a s,b⟩)| str l h=>show .str l h
abbrev yc:=Option (Option Int×Option Int×Option (List Nat))
inductive zG (K:W.Frag) (H:Hp):V->yc->Prop
 | no {x:V} (h:Hf K "tuple" H x):zG K H x none
 | bad {b:Addr} {xs:List V} (h:H b=some (.tup xs)) (hl:xs.length≠3):zG K H (.ref b) none
 | tri {b:Addr} {x y z:V} {oi oj:Option Int} {ol:Option (List Nat)} (h:H b=some (.tup [x,y,z])) (hx:xZ K H x oi) (hy:xZ K H y oj) (hz:VH K H z ol):zG K H (.ref b) (some (oi,oj,ol))
def zG.mv {H H':Hp}{x:V}{o:yc}(h:zG K H x o)(s:aB H H'):zG K H' x o:=by
 cases h with| no h=>show .no (h.mv s)| bad h hl=>show .bad (s _ _ h) hl| tri h hx hy hz=>show .tri (s _ _ h) (hx.mv s) (hy.mv s) (hz.mv s)
def sgO (ol:Option (List Nat)):Bool:=match ol with|none=>false|some l=>Di l
def uy (r w:Nat)(o:yc):Bool:=match o with|none=>false|some (oi,oj,ol)=>JC r w oi oj&&sgO ol
def Nk (K:W.Frag)(C:Addr):Sp:=λvs H Q _=>∃(b:Addr) (x:V) (o:yc) (r w:Nat) (aD aL:AA) (bi bj:Nat),vs=[.ref b,x]/\cG C H b r w aD aL bi bj/\zG K H x o/\Q (.bl (uy r w o)) H
def Q9 {C:Addr}(D:aM K mg "is_triple" uh ["board","thing"])(bB:mg "len"=none)(cD:mg "tuple"=none)(Y:mg "isinstance"=none)(T:fY K C)(J:bU P w K mg base "is_cell_of" 2 ["rows","row","column"] (VG K))(Z:bU P w K mg base "is_sign" 1 ["thing"] (QM K)):bU P w K mg base "is_triple" 3 ["board","thing"] (Nk K C):=by
 calc D.dh QF (λf bH A outer s H vs Q E G h=>?_);let⟨b,x,o,r,w,aD,aL,bi,bj,rfl,BA,hT,q⟩:=h;obtain⟨⟨dx,pr,pm,pb,hb,F,hpm,O⟩,B⟩:=BA;calc⟨_,(aA (cA (QW.qt (je (dG (cQ (aO cP qf Y aS (aj aW (aj (fu (v:=.ty "tuple") qf cD ck rK) ao))))) (iR (bQ zU (aO bY qf bB aE (aj aW ao)) au (bG _))))) (aF (bf h_)) bI) (aF (bf (jG (bD J G.mono rK (aj (bR aG rK) (aj (aY bw aW au (λ_ _=>rfl)) (aj (aY bw aW au (λ_ _=>rfl)) ao)))) (jg (bD Z G.mono rK (aj (aY bw aW au (λ_ _=>rfl)) ao))))))),?_⟩;cases hT with
 | no h=>let⟨t,ty,k⟩:=h;show⟨_,rK,_,_,_,false,rK,ty,k,_,rK,cu (cu q)⟩
 | @bad a xs h hl=>calc⟨_,rK,_,_,_,true,rK,.tup h,qh,_,rK,bL ⟨_,rK,a,_,rK,.inr (aN.of h),rK,_,rK,?_⟩⟩;rw[ag (show ¬V.int (xs.length:Nat)=V.int 3 from λz=>hl (by injection z with z;lia))];show cu q
 | @tri a x y z oi oj ol h hx hy hz=>
  calc⟨_,rK,_,_,_,true,rK,.tup h,qh,_,rK,bL ⟨_,rK,a,_,rK,.inr (aN.of h),rK,_,rK,O5 rK ?_⟩⟩;calc⟨_,rK,b,C,dx,_,_,rK,hb,T.cl,T.nr,rK,_,rK,a,_,_,x,rK,rK,aN.of h,aQ (j:=0) rK,_,rK,a,_,_,y,rK,rK,aN.of h,aQ (j:=1) rK,pr,aD,r,w,x,y,oi,oj,rK,F,B.br,B.r1,B.r9,B.w9,hx,hy,_,rK,?_⟩;let q:Q (.bl (JC r w oi oj&&sgO ol)) H:=q;cases I:JC r w oi oj with
  | false=>rw[I]at q;show bL q
  | true=>
   rw[I]at q;calc cu ⟨_,rK,a,_,_,z,rK,rK,aN.of h,aQ (j:=2) rK,?_⟩;dsimp only[zV,vp];cases hz with| no h=>show .inl ⟨z,rK,h,q⟩| str l hl=>show .inr ⟨l,rK,hl,q⟩
abbrev PL2:=iD (λq:Nat×Nat=>[V.int q.1,V.int q.2])
def yd:Sp:=λvs H Q _=>∃(t:Addr) (as:List Addr) (ts:List bO),vs=[.ref t]/\H t=some (.tup (as.map V.ref))/\eV H as ts/\ts.length<=100/\
 ∀(L:Addr) (cs:List Addr) (H':Hp),aB H H'->H' L=some (.lst (cs.map V.ref))->PL2 H' cs (ts.map λt=>(t.1,t.2.1))->Q (.ref L) H'
def Uq (D:aM K mg "cells_of" vK ["laying"]):bU P w K mg base "cells_of" 1 ["laying"] yd:=by
 calc D.dh Ua (λf bH A outer s H vs Q E hr h=>?_);let⟨t,as,ts,rfl,ht,hL,h7,q⟩:=h;let Z:=hL.len;calc⟨_,(aF (bf (lX (ns:=["row","column","sign"]) rK (jM.of ["laying"] [] qh) (gG aG) (λ_ _ _ _ _=>(o_ K rK (show (["row","column","sign","laying"]:List Str).Nodup by decide +kernel) rK rK rK qf qf qf)) (λ_ _ _ _ _=>dX) (λ_ _ _ _ _=>(cR (aj aG (aj aW ao))))))),?_⟩;refine⟨_,rK,t,rK,⟨_,aN.of ht⟩,λN hN=>j4 (K:=K) (KT:=K) (a:=t) (f:=jP [] 0) (tt:=lV) (xs:=as.map V.ref) (λn ys j=>∃cs:List Addr,ys=cs.map V.ref/\cs.length=n/\j N=some (.lst ys)/\aB H j/\PL2 j cs ((ts.take n).map λt=>(t.1,t.2.1)))
  ⟨[],rK,rK,aq,aB.upd hN,iD.nil⟩ (λn ys j _ h=>by let⟨_,_,_,_,sm,_⟩:=h;show aN.of (sm _ _ ht)) ?_ ?_⟩
 .intro n x ys j hx z;let⟨cs,rfl,I,Y,J,O⟩:=z;let⟨hn,hx⟩:=rfg hx;let F:n<ts.length:=p_;let⟨_,en⟩:=jL (hL.mv J) F;calc vB hx.symm (aN.of en) ?_;calc⟨_,rK,_,rK,zsz 2,λg hg=>?_⟩;let kg:aB j (upd j g (HO.tup [.int ts[n].1,.int ts[n].2.1])):=aB.upd hg;let G:=kg _ _ Y;calc⟨G,by rw[aa];show aK p_,g_.mk (by rw[aa];show hn) ⟨cs++[g],qa,by simp[I],by rw[aq],(J.trans kg).dH hN,?_⟩⟩;rw[show ts.take (n+1)=ts.take n++[ts[n]] by rw[cw,af F];rfl,bz];show((O.mv kg).app (iD.one (x:=(ts[n].1,ts[n].2.1)) aq)).Ni (X3 G)
 .intro ys j z;let⟨cs,rfl,I,Y,J,O⟩:=z;rw[aa,Z,cv]at O;show q N cs j J Y O
structure Hh (K:W.Frag)(H:Hp)(xs:List V)(os:List yc):Prop where
 len:xs.length=os.length
 at_:∀(i:Nat) (x:V) (o:yc),xs[i]?=some x->os[i]?=some o->zG K H x o
inductive LyD (K:W.Frag) (H:Hp):V->Option (List yc)->Prop
 | no {x:V} (h:Hf K "tuple" H x):LyD K H x none
 | tup {p:Addr} {xs:List V} {os:List yc} (h:H p=some (.tup xs)) (hp:Hh K H xs os) (h1:os.length<=100):LyD K H (.ref p) (some os)
def mkT (t:bO):yc:=some (some (t.1:Int),some (t.2.1:Int),some [t.2.2])
def adN (o:yc):Nat×Nat:=match o with|some (some i,some j,_)=>(i.toNat,j.toNat)|_=>(0,0)
def ltQ (p:(Nat×Nat)×(Nat×Nat)):Bool:=decide (p.1.1*1000+p.1.2<p.2.1*1000+p.2.2)
def jU (cs:List (Nat×Nat)):Bool:=(cs.zip (cs.drop 1)).all ltQ
noncomputable def layB (r w:Nat)(o:Option (List yc)):Bool:=match o with|none=>false|some os=>decide (1<=os.length/\os.length<=7)&&os.all (uy r w)&&jU (os.map adN)
def Q_ (ts:List bO):(ts.map mkT).map adN=ts.map λt=>(t.1,t.2.1):=by rw[gc];show fA λt _=>rfl
def acp {r w:Nat}{o:yc}(h:uy r w o=true):∃t:bO,o=mkT t/\inB r w t:=by
 match o with
 | none=>cases h
 | some (oi,oj,ol)=>
  unfold uy at h;simp only[bX]at h;let⟨h1,h2⟩:=h
  match oi,oj,ol with
  | none,_,_=>cases h1
  | some i,none,_=>cases h1
  | some i,some j,none=>cases h2
  | some i,some j,some l=>
   let h1:=dP h1;let h2:Di l=true:=h2
   match l with
   | []=>cases h2
   | [c]=>calc⟨(i.toNat,j.toNat,c),?_,⟨by show i.toNat<r;lia,by show j.toNat<w;lia,h2⟩⟩;show some (some i,some j,some [c])=some (some ((i.toNat:Nat):Int),some ((j.toNat:Nat):Int),some [c]);rw[cp h1.1,cp h1.2.2.1]
   | _::_::_=>cases h2
def acq {r w:Nat}{t:bO}(h:inB r w t):uy r w (mkT t)=true:=by unfold uy mkT JC sgO;let h1:=h.1;let h2:=h.2.1;simp only[bX];show⟨ai p_,h.2.2⟩
theorem Nm {r w:Nat}:∀{os:List yc},os.all (uy r w)=true->∃ts:List bO,os=ts.map mkT/\∀t∈ts,inB r w t
 | [],_=>⟨[],rK,λt h=>by simp at h⟩
 | o::os,h=>by
  rw[List.all_cons,bX]at h;let⟨ts,e,k⟩:=Nm h.2;let⟨t,e2,k2⟩:=acp h.1;show⟨t::ts,by rw[e,e2];rfl,λu j=>by
   rcases bq.mp j with z|z;.rw[z];show k2
   .show k u z⟩
def zG.aiN {H:Hp}{x:V}{t:bO}(h:zG K H x (mkT t)):∃b,x=.ref b/\wJ H b t:=by
 generalize j:mkT t=o at h;cases h with
 | no _=>cases j
 | bad _ _=>cases j
 | @tri b x y z oi oj ol h hx hy hz=>have j:=be j;injection j with e1 e2;injection e2 with e2 e3;subst e1 e2 e3;cases hx;cases hy;cases hz;show⟨b,rK,h⟩
theorem Hh.lay {H:Hp}:∀{ts:List bO} {xs:List V},Hh K H xs (ts.map mkT)->∃as:List Addr,xs=as.map V.ref/\eV H as ts
 | [],[],_=>⟨[],rK,eV.nil⟩
 | [],_::_,h=>by have:=h.len;simp at this
 | _::_,[],h=>by have:=h.len;simp at this
 | t::ts,x::xs,h=>by
  let⟨b,rfl,hb⟩:=(h.at_ 0 x (mkT t) rK rK).aiN;let⟨as,e,j⟩:=Hh.lay (ts:=ts) (xs:=xs) ⟨by have:=h.len;simpa using this,λi x o a c=>h.at_ (i+1) x o a c⟩;refine⟨b::as,by rw[e];rfl,⟨λa ha=>?_,?_⟩⟩
  .rcases bq.mp ha with z|z;.rw[z,Jw hb];show hb
   .show j.at_ a z
  .rw[cf,j.eq,Jw hb]
def zG.mk {H:Hp}{b:Addr}{t:bO}(h:wJ H b t):zG K H (.ref b) (mkT t):=.tri h (.int _) (.int _) (.str _ (by show 1<=1000;decide))
def Hh.of_lay {H:Hp}{as:List Addr}{ts:List bO}(h:eV H as ts):Hh K H (as.map V.ref) (ts.map mkT):=by calc⟨by rw[aa,aa,h.len],λi x o hx j=>?_⟩;rw[bS]at hx j;let⟨a,ha,rfl⟩:=c9.mp hx;let⟨t,ht,rfl⟩:=c9.mp j;let hi:i<as.length:=(ah.mp ha).1;let⟨u,D,F⟩:=h.get hi;rw[ht]at D;rw[be D];rw[af hi]at ha;rw[<-be ha];show zG.mk F
def aav (K:W.Frag)(C:Addr):Sp:=λvs H Q _=>∃(b:Addr) (x:V) (o:Option (List yc)) (r w:Nat) (aD aL:AA) (bi bj:Nat),vs=[.ref b,x]/\cG C H b r w aD aL bi bj/\LyD K H x o/\∀H',aB H H'->Q (.bl (layB r w o)) H'
def Ra {C:Addr}(D:aM K mg "is_laying" um ["board","thing"])(bB:mg "len"=none)(cD:mg "tuple"=none)(bh:mg "isinstance"=none)(fH:mg "all"=none)(yg:mg "zip"=none)(oX:∃t,mg "MOST_TILES"=some (.int 7 t))(Ur:bU P w K mg base "is_triple" 3 ["board","thing"] (Nk K C))(rM:bU P w K mg base "cells_of" 1 ["laying"] yd):bU P w K mg base "is_laying" 4 ["board","thing"] (aav K C):=by
 calc D.dh wG (λf bH A outer s H vs Q E hr h=>?_);let⟨b,x,o,r,w,aD,aL,bi,bj,rfl,BA,hT,q⟩:=h;let w9:=BA.ok.w9;calc⟨_,(aA (cA (QW.qt (je (dG (cQ (aO cP qf bh aS (aj aW (aj (fu (v:=.ty "tuple") qf cD ck rK) ao))))) (iR (dG (z9 qe qe au (aO bY qf bB aE (aj aW ao)) (Xk qf oX)))))) (aF (bf h_)) bI) (aA (cA (dG (cQ (aO (jV rK) qf fH jJ (aj (jO rK (jf.of wG.nd qh) (gG aW) (λ_ _ _ _ _=>dX) (λ_ _ _ _ _=>(bD Ur hr.mono rK (aj aW (aj aG ao))))) ao)))) (aF (bf h_)) bI) (aA (aU (i:=2) wG.nd rK (Or.inl rK) (bD rM hr.mono rK (aj aW ao))) (aF (bf (aO (jV rK) qf fH jJ (aj (lX (ns:=["cell","later"]) rK (jM.of ["board","thing","cells"] [] qh) (aeC qf yg (aj bA (aj (dj vR bA (dI au) eE) ao))) (λ_ _ _ _ _=>(aer K rK (show (["cell","later","board","thing","cells"]:List Str).Nodup by decide +kernel) rK rK qf qf)) (λ_ _ _ _ _=>dX) (λ_ _ _ _ _=>(d_ (ag1 hr.agl) aG aW (bG _)))) ao))))))),?_⟩;cases hT with
 | no h=>let⟨t,ty,k⟩:=h;show⟨_,rK,_,_,_,false,rK,ty,k,_,rK,cu (cu (q H (aB.refl _)))⟩
 | @tup p xs os hp hP h100=>
  let cU:=hP.len;calc⟨_,rK,_,_,_,true,rK,.tup hp,qh,_,rK,bL ?_⟩;let F:¬layB r w (some os)=true->∀H',aB H H'->Q (.bl false) H':=λz H' s'=>by have:=q H' s';rw[Bool.not_eq_true _ |>.mp z]at this;show this
  calc⟨_,rK,p,_,rK,.inr (aN.of hp),_,_,rK,rK,?_⟩;rw[cU];by_cases h1:1<=os.length
  .calc⟨true,by simp;lia,cu (JA _ _ ⟨rK,rK,?_⟩)⟩;by_cases h7:os.length<=7
   .calc⟨true,by simp;lia,bL ?_⟩;refine⟨_,rK,p,rK,⟨_,aN.of hp⟩,λL hL=>qC (xs:=xs) (λi ys Z=>ys=((os.take i).map (uy r w)).map V.bl/\Z L=some (.lst ys)/\aB H Z) ⟨rK,aq,aB.upd hL⟩ (λi ys Z _ h=>aN.of (h.2.2 _ _ hp)) ?_ ?_⟩
    .intro i x ys Z hi z;let⟨rfl,Y,j⟩:=z;let hil:i<xs.length:=(ah.mp hi).1;let hio:i<os.length:=p_;let ho:=af hio;calc⟨_,rK,_,rK,b,x,os[i],r,w,aD,aL,bi,bj,rK,BA.mv j,(hP.at_ i x _ hi ho).mv j,Y,?_,g_.mk hil ⟨?_,aq,j.dH hL⟩⟩;.rw[aa,aa,av];show aK p_
     .rw[take_snoc ho,bz];rfl
    .intro ys Z z;let⟨rfl,Y,j⟩:=z;calc JA L _ ⟨rK,bC.of Y,?_⟩;rw[cU,cv,all_map];calc⟨_,rK,?_⟩;cases ha:os.all (uy r w) with
     | false=>show cu (F (by unfold layB;simp only;rw[ha];simp) Z j)
     | true=>
      calc bL ?_;let⟨ts,rfl,dY⟩:=Nm ha;let⟨as,rfl,hLy⟩:=hP.lay;rw[aa]at h1 h7;calc⟨_,rK,p,as,ts,rK,j _ _ hp,hLy.mv j,p_,λLc cs H3 s3 hLc hcs=>?_⟩;let fj:=j.trans s3;calc⟨_,rK,_,rK,_,rK,Lc,_,rK,bC.of hLc,λM hM=>?_⟩;let hcl:=hcs.len;rw[aa]at hcl;let eM:gQ (cs.map V.ref) (some 1) none=(cs.drop 1).map V.ref:=by unfold gQ;rw[show (some (1:Int))=some (((1:Nat):Int)) from rK,HT.lg,HT.tu,aa,fF (show 1<=cs.length by lia),ce (by rw[ba,aa];lia),oq]
      rw[eM];let sM:aB H3 (upd H3 M (HO.lst ((cs.drop 1).map V.ref))):=aB.upd hM;let Gk:upd H3 M (HO.lst ((cs.drop 1).map V.ref)) M=some (.lst ((cs.drop 1).map V.ref)):=aq;let J:=sM _ _ hLc;let K1:=hcs.mv sM;let gJ:=fj.trans sM;generalize upd H3 M (HO.lst ((cs.drop 1).map V.ref))=H4 at sM Gk J K1 gJ ⊢;generalize O:(ts.map λt=>(t.1,t.2.1))=cc at K1;let ajx:cc.length=cs.length:=by rw[<-O,aa,hcl]
      let hw9:∀u∈cc,u.2<1000:=λu hu=>by rw[<-O]at hu;let⟨t,ht,rfl⟩:=bc.mp hu;have:=(dY t ht).2.1;show t.2.1<1000;lia
      let Gn:(cc.zip (cc.drop 1)).length=cs.length-1:=by rw[List.length_zip,ba,ajx];lia
      refine JA Lc M ⟨rK,⟨_,bC.of J⟩,⟨_,bC.of Gk⟩,λN hN=>ag0 (f:=jP [] 0) (K:=K) (KT:=K) (a:=Lc) (b:=M) (tt:=lV) (xs:=cs.map V.ref) (ys:=(cs.drop 1).map V.ref) (by rw[aa,aa,ba];lia)
       (λn zs G=>zs=(((cc.zip (cc.drop 1)).take n).map ltQ).map V.bl/\G N=some (.lst zs)/\aB H4 G)
       ⟨rK,aq,aB.upd hN⟩ (λn zs G _ h=>⟨bC.of (h.2.2 _ _ J),bC.of (h.2.2 _ _ Gk)⟩) ?_ ?_⟩
      .intro n x y zs G T hx hy z hT;let⟨rfl,xY,pN⟩:=z;let kT:aB G (upd G T (HO.tup [x,y])):=aB.upd hT;rw[bS]at hx hy;let⟨a1,ha1,rfl⟩:=c9.mp hx;let⟨a2,I,rfl⟩:=c9.mp hy;rw[nV]at I;let n1:n<cs.length:=(ah.mp ha1).1;let n2:1+n<cs.length:=(ah.mp I).1;let c1:cc[n]?=some cc[n]:=af p_;let c2:cc[1+n]?=some cc[1+n]:=af p_;let e1:=kT _ _ (pN _ _ (K1.at_ n a1 _ ha1 c1));let e2:=kT _ _ (pN _ _ (K1.at_ (1+n) a2 _ I c2));calc aiB rK (aN.of aq) ?_;calc⟨_,rK,_,rK,a1,a2,_,_,_,_,rK,rK,e1,e2,hw9 _ (a9 _),hw9 _ (a9 _),kT _ _ xY,?_,g_.mk (by rw[aa,ba];lia) ⟨?_,aq,(pN.trans kT).dH hN⟩⟩;.rw[aa,aa,av];show aK p_
       .let ez:(cc.zip (cc.drop 1))[n]?=some (cc[n],cc[1+n]):=by
         rw[oS];show⟨c1,by rw[nV];show c2⟩
        rw[take_snoc ez,bz];rfl
      .intro zs G z;let⟨rfl,xY,pN⟩:=z;calc JA N _ ⟨rK,bC.of xY,?_⟩;rw[ce (by rw[aa,ba,Gn];lia),all_map];have:=q G (gJ.trans pN);let e:layB r w (some (ts.map mkT))=jU cc:=by
        unfold layB;simp only;rw[ha,Q_,O,aa,ai (show 1<=ts.length/\ts.length<=7 from ⟨h1,h7⟩)];rfl
       rw[e]at this;show this
   .calc⟨false,by simp;lia,cu ?_⟩;show F (by unfold layB;simp;lia) H (aB.refl _)
  .calc⟨false,by simp;lia,bL ⟨_,rK,cu ?_⟩⟩;show F (by unfold layB;simp;lia) H (aB.refl _)
def aeP {f C R:Addr}{fd:FuncData}(F:d7 K "__init__" "Taken.__init__" j_ f fd)(j:mg "RackError"=some (.ref R))(D:InitOf K R)(T:pR K mg "Taken" C f ["row","column"]):bW P w K mg base cW 1 f fd ["self","row","column"] (Jk C "row" "column"):=by calc F.dh Ob (λbH A outer s H vs Q E G h=>?_);let⟨a,v,u,rfl,ha,q⟩:=h;calc⟨_,(aA (dD (vD qf j D (aj aG (aj aW (aj bA ao))))) (aA (vY aG aW rK) (aF (vY aG bA rK)))),?_⟩;calc⟨_,rK,_,rK,_,rK,a,C,f,none,[v,u],rK,ha,T.M.ini,zsz 2,?_⟩;show⟨_,rK,_,rK,a,C,none,rK,ha,T.T,T.no _ qa,.inl ⟨rK,λdx ne nd=>⟨_,rK,_,rK,a,C,some dx,rK,aq,T.T,T.no _ qa,.inr (JA dx _ ⟨rK,by rw[aV ne,aq],by show 1<50;decide,q dx ne nd⟩)⟩⟩⟩
def ahe {f C R:Addr}{fd:FuncData}(F:d7 K "__init__" "Gap.__init__" nG f fd)(j:mg "RackError"=some (.ref R))(D:InitOf K R)(T:pR K mg "Gap" C f ["row","column"]):bW P w K mg base cW 1 f fd ["self","row","column"] (Jk C "row" "column"):=by calc F.dh T8 (λbH A outer s H vs Q E G h=>?_);let⟨a,v,u,rfl,ha,q⟩:=h;calc⟨_,(aA (dD (vD qf j D (aj aG (aj aW (aj bA ao))))) (aA (vY aG aW rK) (aF (vY aG bA rK)))),?_⟩;calc⟨_,rK,_,rK,_,rK,a,C,f,none,[v,u],rK,ha,T.M.ini,zsz 2,?_⟩;show⟨_,rK,_,rK,a,C,none,rK,ha,T.T,T.no _ qa,.inl ⟨rK,λdx ne nd=>⟨_,rK,_,rK,a,C,some dx,rK,aq,T.T,T.no _ qa,.inr (JA dx _ ⟨rK,by rw[aV ne,aq],by show 1<50;decide,q dx ne nd⟩)⟩⟩⟩
def Np {H:Hp}{a dx:Addr}{o p q p2:HO}(na:H a=none)(ne:dx≠a)(nd:upd H a o dx=none):upd (upd (upd (upd H a o) dx p) a q) dx p2 a=some q/\aB H (drop (upd (upd (upd (upd H a o) dx p) a q) dx p2) a)/\drop (upd (upd (upd (upd H a o) dx p) a q) dx p2) a dx=some p2:=by
 rw[aV ne]at nd;refine⟨by rw[aV ne.symm,aq],λb u e=>?_,?_⟩
 .let h1:b≠a:=aX e na;let h2:b≠dx:=aX e nd;rw[jQ h1,aV h2,aV h1,aV h2,aV h1];show e
 .rw[jQ ne,aq]
abbrev VJ (i j:Nat):List (Str×V):=iw "column" (.int j) [("row",.int i)]
def VL {α:Type}{p:α->Bool}{l:List α}{n:Nat}(hn:n<l.length)(h0:∀x∈l.take n,p x=false)(h1:p l[n]=true):l.find? p=some l[n]:=by
 let e:l=l.take n++l[n]::l.drop (n+1):=by rw[<-gr hn,kq]
 let e2:(l.take n++l[n]::l.drop (n+1)).find? p=some l[n]:=by rw[List.find?_append,List.find?_eq_none.mpr λx hx=>by rw[h0 x hx];decide,Option.none_or,List.find?_cons_of_pos h1]
 rw[<-e]at e2;show e2
def VN {α:Type}{p:α->Bool}{l:List α}(h0:∀x∈l,p x=false):l.find? p=none:=List.find?_eq_none.mpr λx hx=>by rw[h0 x hx];decide
def ahf (a b:Nat):decide (V.int (a:Int)=V.int (b:Int))=decide (a=b):=by
 by_cases h:a=b;.subst h;simp
 .have:¬V.int (a:Int)=V.int (b:Int):=λz=>h (by injection z with z;show on z)
  simp[h,this]
def tQ (ts:List bO):Bool:=ts.all λt=>decide (t.1=(ts.headD (0,0,0)).1)
def tR (ts:List bO):Bool:=ts.all λt=>decide (t.2.1=(ts.headD (0,0,0)).2.1)
def wM {ts:List bO}(h:0<ts.length):ts.headD (0,0,0)=ts[0]:=by
 cases ts with| nil=>simp at h| cons a b=>rfl
def Nq:Sp:=λvs H Q _=>∃(t:Addr) (as:List Addr) (ts:List bO),vs=[.ref t]/\H t=some (.tup (as.map V.ref))/\eV H as ts/\0<ts.length/\ts.length<=7/\∀H',aB H H'->Q (.bl (tQ ts)) H'
def VP:Sp:=λvs H Q _=>∃(t:Addr) (as:List Addr) (ts:List bO),vs=[.ref t]/\H t=some (.tup (as.map V.ref))/\eV H as ts/\0<ts.length/\ts.length<=7/\∀H',aB H H'->Q (.bl (tR ts)) H'
def Om (D:aM K mg "is_across" pY ["laying"])(fH:mg "all"=none):bU P w K mg base "is_across" 1 ["laying"] Nq:=by
 calc D.dh CZ (λf bH A outer s H vs Q E hr h=>?_);let⟨t,as,ts,rfl,ht,Y,h0,h7,q⟩:=h;let J:=Y.len;let hh:=wM h0;calc⟨_,(aF (bf (aO (jV rK) qf fH jJ (aj (lX (ns:=["row","column","sign"]) rK (jM.of ["laying"] [] qh) (gG aG) (λ_ _ _ _ _=>(o_ K rK (show (["row","column","sign","laying"]:List Str).Nodup by decide +kernel) rK rK rK qf qf qf)) (λ_ _ _ _ _=>dX) (λ_ _ _ _ _=>(d_ iQ aG (aY (qK K) (aY (qK K) bN au (λ_ _=>rfl)) au (λ_ _=>rfl)) (bG _)))) ao)))),?_⟩;refine⟨_,rK,t,rK,⟨_,aN.of ht⟩,λN Z=>j4 (K:=K) (KT:=K) (a:=t) (f:=jP [] 0) (tt:=lV) (xs:=as.map V.ref) (λn ys G=>ys=((ts.take n).map λt=>decide (t.1=(ts.headD (0,0,0)).1)).map V.bl/\G N=some (.lst ys)/\aB H G)
  ⟨rK,aq,aB.upd Z⟩ (λn ys G _ h=>aN.of (h.2.2 _ _ ht)) ?_ ?_⟩
 .intro n x ys G hx z;let⟨rfl,O,F⟩:=z;let⟨hn,hx⟩:=rfg hx;let I:n<ts.length:=p_;let⟨_,en⟩:=jL (Y.mv F) I;let⟨g0,e0⟩:=jL (Y.mv F) h0;calc vB hx.symm (aN.of en) ?_;calc⟨_,rK,_,rK,t,_,_,.ref as[0],rK,rK,aN.of (F _ _ ht),aQ (j:=0) (by simp[g0]),as[0],_,_,_,rK,rK,aN.of e0,aQ (j:=0) rK,rK,O,?_,g_.mk (by rw[aa];show hn) ⟨?_,aq,F.dH Z⟩⟩;.rw[aa,aa,av];show aK p_
  .rw[take_snoc (af I),bz,hh,ahf];rfl
 .intro ys G z;let⟨rfl,O,F⟩:=z;calc JA N _ ⟨rK,bC.of O,?_⟩;rw[aa,J,cv,all_map];show q G F
def X7 (D:aM K mg "is_down" xQ ["laying"])(fH:mg "all"=none):bU P w K mg base "is_down" 1 ["laying"] VP:=by
 calc D.dh Xx (λf bH A outer s H vs Q E hr h=>?_);let⟨t,as,ts,rfl,ht,Y,h0,h7,q⟩:=h;let J:=Y.len;let hh:=wM h0;calc⟨_,(aF (bf (aO (jV rK) qf fH jJ (aj (lX (ns:=["row","column","sign"]) rK (jM.of ["laying"] [] qh) (gG aG) (λ_ _ _ _ _=>(o_ K rK (show (["row","column","sign","laying"]:List Str).Nodup by decide +kernel) rK rK rK qf qf qf)) (λ_ _ _ _ _=>dX) (λ_ _ _ _ _=>(d_ iQ aW (aY (qK K) (aY (qK K) bN au (λ_ _=>rfl)) au (λ_ _=>rfl)) (bG _)))) ao)))),?_⟩;refine⟨_,rK,t,rK,⟨_,aN.of ht⟩,λN Z=>j4 (K:=K) (KT:=K) (a:=t) (f:=jP [] 0) (tt:=lV) (xs:=as.map V.ref) (λn ys G=>ys=((ts.take n).map λt=>decide (t.2.1=(ts.headD (0,0,0)).2.1)).map V.bl/\G N=some (.lst ys)/\aB H G)
  ⟨rK,aq,aB.upd Z⟩ (λn ys G _ h=>aN.of (h.2.2 _ _ ht)) ?_ ?_⟩
 .intro n x ys G hx z;let⟨rfl,O,F⟩:=z;let⟨hn,hx⟩:=rfg hx;let I:n<ts.length:=p_;let⟨_,en⟩:=jL (Y.mv F) I;let⟨g0,e0⟩:=jL (Y.mv F) h0;calc vB hx.symm (aN.of en) ?_;calc⟨_,rK,_,rK,t,_,_,.ref as[0],rK,rK,aN.of (F _ _ ht),aQ (j:=0) (by simp[g0]),as[0],_,_,_,rK,rK,aN.of e0,aQ (j:=1) rK,rK,O,?_,g_.mk (by rw[aa];show hn) ⟨?_,aq,F.dH Z⟩⟩;.rw[aa,aa,av];show aK p_
  .rw[take_snoc (af I),bz,hh,ahf];rfl
 .intro ys G z;let⟨rfl,O,F⟩:=z;calc JA N _ ⟨rK,bC.of O,?_⟩;rw[aa,J,cv,all_map];show q G F
abbrev IL2:=iD (λq:Int×Int=>[V.int q.1,V.int q.2])
def around (i j:Int):List (Int×Int):=[(i-1,j),(i+1,j),(i,j-1),(i,j+1)]
def tkC (aD:AA)(r w:Nat)(p:Int×Int):Bool:=!decide ([atC aD r w p.1 p.2]=[46])
def Pg (aD:AA)(r w:Nat)(i j:Int):Bool:=(around i j).any (tkC aD r w)
def any_map {α:Type}(l:List α)(f:α->Bool):((l.map f).any id)=l.any f:=by induction l with|nil=>rfl|cons a l ih=>simp[ih]
def Rb (C:Addr):Sp:=λvs H Q _=>∃(b:Addr) (r w:Nat) (aD aL:AA) (bi bj:Nat) (i j:Int),vs=[.ref b,.int i,.int j]/\cG C H b r w aD aL bi bj/\∀H',aB H H'->Q (.bl (Pg aD r w i j)) H'
def Oo {C f1:Addr}{dM:FuncData}(D:aM K mg "is_next_to_taken" lD ["board","row","column"])(yh:mg "any"=none)(gb:∃t,mg "FREE"=some (.str (S [46]) t))(cj:fY K C)(rN:Meth K C "at" f1)(rO:bW P w K mg base cW 3 f1 dM ["self","row","column"] (XR C))(rP:bK K dM ["self","row","column"] []):bU P w K mg base "is_next_to_taken" 5 ["board","row","column"] (Rb C):=by
 calc D.dh oH (λf bH A outer s H vs Q E hr h=>?_);let⟨b,r,w,aD,aL,bi,bj,i,j,rfl,BA,q⟩:=h;calc⟨_,(aA (aU (i:=3) oH.nd rK (Or.inl rK) (cR (aj (cR (aj (aJ oO aW au) (aj bA ao))) (aj (cR (aj (aJ cL aW au) (aj bA ao))) (aj (cR (aj aW (aj (aJ oO bA au) ao))) (aj (cR (aj aW (aj (aJ cL bA au) ao))) ao)))))) (aF (bf (aO (Qx rK) qf yh M5 (aj (jO rK (jf.of oH.nd qh) (gG bN) (λ_ _ _ _ _=>dX) (λ_ _ _ _ _=>(d_ Jb (mQ aW cj.cl rN rO hr.mono rP .nil cY (aj (aY (qK K) aG au (λ_ _=>rfl)) (aj (aY (qK K) aG au (λ_ _=>rfl)) ao))) (uc qf gb) (bG _)))) ao))))),?_⟩;calc⟨_,rK,_,_,rK,rK,_,rK,zsz 2,λG h1=>⟨_,rK,_,_,rK,rK,_,rK,zsz 2,λg2 h2=>⟨_,rK,_,rK,_,_,rK,rK,zsz 2,λF h3=>⟨_,rK,_,rK,_,_,rK,rK,zsz 2,λI h4=>⟨zsz 4,λA O=>?_⟩⟩⟩⟩⟩;dsimp only at h1 h2 h3 h4 O ⊢;let k1:aB H (upd H G (HO.tup [.int (i-1),.int j])):=aB.upd h1;let e1:upd H G (HO.tup [.int (i-1),.int j]) G=some (.tup [.int (i-1),.int j]):=aq;generalize upd H G (HO.tup [.int (i-1),.int j])=H1 at k1 e1 h2 h3 h4 O ⊢;let k2:aB H1 (upd H1 g2 (HO.tup [.int (i+1),.int j])):=aB.upd h2;let e2:upd H1 g2 (HO.tup [.int (i+1),.int j]) g2=some (.tup [.int (i+1),.int j]):=aq;generalize upd H1 g2 (HO.tup [.int (i+1),.int j])=H2 at k2 e2 h3 h4 O ⊢;let k3:aB H2 (upd H2 F (HO.tup [.int i,.int (j-1)])):=aB.upd h3;let e3:upd H2 F (HO.tup [.int i,.int (j-1)]) F=some (.tup [.int i,.int (j-1)]):=aq;generalize upd H2 F (HO.tup [.int i,.int (j-1)])=H3 at k3 e3 h4 O ⊢;let k4:aB H3 (upd H3 I (HO.tup [.int i,.int (j+1)])):=aB.upd h4;let e4:upd H3 I (HO.tup [.int i,.int (j+1)]) I=some (.tup [.int i,.int (j+1)]):=aq;generalize upd H3 I (HO.tup [.int i,.int (j+1)])=H4 at k4 e4 O ⊢;let k5:aB H4 (upd H4 A (HO.tup [.ref G,.ref g2,.ref F,.ref I])):=aB.upd O;let e5:upd H4 A (HO.tup [.ref G,.ref g2,.ref F,.ref I]) A=some (.tup ([G,g2,F,I].map V.ref)):=aq;let il:IL2 H4 [G,g2,F,I] (around i j):=((iD.one (x:=(i-1,j)) (k4 _ _ (k3 _ _ (k2 _ _ e1)))).app (iD.one (x:=(i+1,j)) (k4 _ _ (k3 _ _ e2)))).app ((iD.one (x:=(i,j-1)) (k4 _ _ e3)).app (iD.one (x:=(i,j+1)) e4));let s5:=(((k1.trans k2).trans k3).trans k4).trans k5;let Y:=il.mv k5;generalize upd H4 A (HO.tup [.ref G,.ref g2,.ref F,.ref I])=H5 at k5 e5 s5 Y ⊢;let BA5:=BA.mv s5;refine⟨_,rK,A,rK,⟨_,aN.of e5⟩,λN hN=>qC (xs:=[G,g2,F,I].map V.ref) (λn ys J=>ys=(((around i j).take n).map (tkC aD r w)).map V.bl/\J N=some (.lst ys)/\aB H5 J)
  ⟨rK,aq,aB.upd hN⟩ (λn ys J _ h=>aN.of (h.2.2 _ _ e5)) ?_ ?_⟩
 .intro n x ys J hx z;let⟨rfl,sU,qP⟩:=z;let hn:n<[G,g2,F,I].length:=by have:=(ah.mp hx).1;simpa using this
  let hn4:n<4:=hn;rw[bS,af hn]at hx;let hx:V.ref [G,g2,F,I][n]=x:=be hx;subst hx;let⟨u,eu,hu⟩:=(Y.mv qP).get hn;let Z:=BA5.mv qP;let⟨dx,_,_,_,ex,_⟩:=id Z.ex;calc⟨_,rK,b,dx,_,rK,ex,rK,_,rK,_,_,_,_,rK,rK,aN.of hu,aQ (j:=0) rK,_,rK,_,_,_,_,rK,rK,aN.of hu,aQ (j:=1) rK,b,r,w,aD,aL,bi,bj,u.1,u.2,rK,Z,[_],[46],rK,rK,sU,?_,g_.mk (by rw[aa];show hn) ⟨?_,aq,qP.dH hN⟩⟩;.rw[aa,aa,av];show aK p_
  .rw[take_snoc eu,bz];rfl
 .intro ys J z;let⟨rfl,sU,qP⟩:=z;calc JA N _ ⟨rK,bC.of sU,?_⟩;rw[ce (by show 4<=4;decide),any_map];show q J (s5.trans qP)
def JD:Sp:=λvs H Q _=>∃c:Nat,vs=[.str (S [c])]/\c<128/\Q (.str (S ([c].map PyProof.Rows.lo1))) H
def Rc (D:aM K mg "letter_of" ud ["sign"]):bU P w K mg base "letter_of" 1 ["sign"] JD:=by calc D.dh QD (λf bH A outer s H vs Q E F h=>?_);let⟨c,rfl,j,q⟩:=h;calc⟨_,(aF (bf (zp bo mh mi Qk aG))),?_⟩;show⟨_,rK,rK,[c],rK,rK,by show 1<=1000;decide,λd hd=>by rw[a_.mp hd];show j,q⟩
def Rf {aD:AA}{r w i j:Nat}(hi:i<r)(D:j<w):atC aD r w (i:Int) (j:Int)=cell aD i j:=by unfold atC cell;rw[if_pos ⟨p_,p_,p_,p_⟩,dv,dv]
def tkT (aD:AA)(t:bO):Bool:=!decide ([cell aD t.1 t.2.1]=[46])
def Ah (aD:AA)(ts:List bO):Option bO:=ts.find? (tkT aD)
def Rg (C j:Addr):Sp:=λvs H Q E=>∃(b t:Addr) (as:List Addr) (ts:List bO) (r w:Nat) (aD aL:AA) (bi bj:Nat),vs=[.ref b,.ref t]/\cG C H b r w aD aL bi bj/\H t=some (.tup (as.map V.ref))/\eV H as ts/\(∀t∈ts,inB r w t)/\
 (∀u,Ah aD ts=some u->∀(dx:Addr) (H':Hp),aB H H'->H' dx=some (.ext (XD dx (VJ u.1 u.2.1)))->E (.ref j) (some dx) H')/\
 (Ah aD ts=none->∀H',aB H H'->Q .non H')
def Oq {C O f0 f1:Addr}{d8 dM:FuncData}(D:aM K mg "check_free" rC ["board","laying"])(gb:∃t,mg "FREE"=some (.str (S [46]) t))(cj:fY K C)(rN:Meth K C "at" f1)(rO:bW P w K mg base cW 3 f1 dM ["self","row","column"] (XR C))(rP:bK K dM ["self","row","column"] [])(T:pR K mg "Taken" O f0 ["row","column"])(aeQ:bW P w K mg base cW 1 f0 d8 ["self","row","column"] (Jk O "row" "column"))(K4:bK K d8 ["self","row","column"] []):DefX P w K mg base "check_free" 5 ["board","laying"] (Rg C O):=by
 refine D.z_ ql (λvs H Q E h=>?_) (λf bH A outer s H vs Q E hr h=>?_)
 .let⟨b,t,as,ts,r,w,aD,aL,bi,bj,rfl,_⟩:=h;rfl
 .let⟨b,t,as,ts,r,w,aD,aL,bi,bj,rfl,BA,ht,hL,dY,qE,q⟩:=h;let aeR:=T.M;let Y:=T.uL;let hal:=hL.len;calc⟨_,(aF (fP kf rK (gG aW) (nY rK (bT (bF (i:=2) ql.nd rK (Or.inl rK)) (bT (bF (i:=3) ql.nd rK (Or.inl rK)) (bT (bF (i:=4) ql.nd rK (Or.inl rK)) lq)))) (aF (cA (bQ Jb (mQ aG cj.cl rN rO hr.mono rP .nil cY (aj bA (aj bN ao))) (uc qf gb) (bG _)) (aF (uK qL rK aeR aeQ hr.mono qf Y K4 (aj bA (aj bN ao)))) bI)))),?_⟩;refine⟨_,rK,t,rK,⟨_,aN.of ht⟩,za (K:=K) (a:=t) (xs:=as.map V.ref) (λn σ H'=>∃Z v3 v4:Option V,σ=[some (.ref b),some (.ref t),Z,v3,v4]/\aB H H'/\∀x∈ts.take n,tkT aD x=false)
   (JE none none none ⟨rK,aB.refl _,λx hx=>by simp at hx⟩) (λn σ H' _ h=>by let⟨_,_,_,_,I,_⟩:=h;show aN.of (I _ _ ht)) ?_ ?_⟩
  .intro n x σ H' hx z;let⟨Z,v3,v4,rfl,I,j⟩:=z;let⟨hn,hx⟩:=rfg hx;let F:n<ts.length:=p_;subst hx;let⟨_,en⟩:=jL (hL.mv I) F;let⟨c1,c2,_⟩:=dY _ (a9 F);let J:=BA.mv I;let⟨dx0,_,_,_,ex,_⟩:=id J.ex;calc JA (as[n]) _ ⟨rK,aN.of en,rK,_,_,rK,_,_,rK,_,_,rK,rK,?_⟩;calc⟨_,rK,b,dx0,_,rK,ex,rK,_,rK,_,rK,b,r,w,aD,aL,bi,bj,_,_,rK,J,[_],[46],rK,rK,_,rK,?_⟩;rw[Rf c1 c2];cases G:tkT aD ts[n] with
   | true=>rw[show (!decide ([cell aD ts[n].1 ts[n].2.1]=[46]))=true from G];calc cu ⟨_,rK,_,rK,zsz 2,λa na=>(JE a _ _ ⟨rK,aq,λdx ne nd=>?_⟩)⟩;let⟨k0,k1,k2⟩:=Np (q:=.ext (iT a (.ref O) (some dx))) (p:=.ext (XD dx [("row",.int ts[n].1)])) (p2:=.ext (XD dx (VJ ts[n].1 ts[n].2.1))) na ne nd;show⟨rK,some dx,k0,qE ts[n] (VL F j G) dx _ (I.trans k1) k2⟩
   | false=>
    rw[show (!decide ([cell aD ts[n].1 ts[n].2.1]=[46]))=false from G];calc bL (JE _ _ _ ⟨rK,I,λx hx=>?_⟩);rw[cw,af F]at hx;rcases bu.mp hx with z|z;.show j x z
    .rw[a_.mp z];show G
  .intro σ H' z;let⟨Z,v3,v4,rfl,I,j⟩:=z;rw[aa,hal,cv]at j;show q (VN j) H' I
def VR (j:Addr):Sp:=λvs H Q E=>∃(t:Addr) (as:List Addr) (ts:List bO),vs=[.ref t]/\H t=some (.tup (as.map V.ref))/\eV H as ts/\0<ts.length/\ts.length<=7/\
 ((tQ ts||tR ts)=false->∀H',aB H H'->E (.ref j) none H')/\((tQ ts||tR ts)=true->∀H',aB H H'->Q .non H')
def FZ {F:Addr}(D:aM K mg "check_straight" nJ ["laying"])(Y:mg "Crooked"=some (.ref F))(j:W.excIn K F j5 "ValueError.__new__"=true)(yI:bU P w K mg base "is_across" 1 ["laying"] Nq)(G:bU P w K mg base "is_down" 1 ["laying"] VP):DefX P w K mg base "check_straight" 3 ["laying"] (VR F):=by
 refine D.z_ FQ (λvs H Q E h=>?_) (λf bH A outer s H vs Q E I h=>?_)
 .let⟨t,as,ts,rfl,_⟩:=h;rfl
 .let⟨t,as,ts,rfl,ht,J,h0,h7,Z,q⟩:=h;calc⟨_,(aF (cA (QW.qt (zm (dG (cQ (bD yI I.mono rK (aj aG ao)))) (Fb (dG (cQ (bD G I.mono rK (aj aG ao))))))) (aF (GZ qL rK rK qf Y j (aj (bJ [116,104,101,32,99,101,108,108,115,32,97,114,101,32,110,111,116,32,105,110,32,111,110,101,32,108,105,110,101] qi) ao))) bI)),?_⟩;calc⟨_,rK,t,as,ts,rK,ht,J,h0,h7,λH1 s1=>⟨_,rK,?_⟩⟩;cases ha:tQ ts with
  | true=>show bL (bL (q (by rw[ha];rfl) H1 s1))
  | false=>
   calc cu ⟨_,rK,t,as,ts,rK,s1 _ _ ht,J.mv s1,h0,h7,λO s2=>⟨_,rK,?_⟩⟩;cases hd:tR ts with| true=>show bL (q (by rw[ha,hd];rfl) O (s1.trans s2))| false=>show cu ⟨zsz 1,Z (by rw[ha,hd];rfl) O (s1.trans s2)⟩
structure adO (R:AA)(a b c d i j:Nat):Prop where
 i1:a<=i
 i2:i<=b
 j1:c<=j
 j2:j<=d
 fr:cell R i j=46
 up:∀i' j',a<=i'->i'<i->c<=j'->j'<=d->cell R i' j'≠46
 le:∀j',c<=j'->j'<j->cell R i j'≠46
def JF (R:AA)(a b c d:Nat):Prop:=∀i j,a<=i->i<=b->c<=j->j<=d->cell R i j≠46
def mG (ts:List bO):bO:=ts.getLastD (0,0,0)
def oY (ts:List bO):bO:=ts.headD (0,0,0)
def acu {ts:List bO}(h:0<ts.length):mG ts=ts[ts.length-1]:=by unfold mG;rw[List.getLastD_eq_getLast?,oQ,af p_];rfl
def Rh (C CG:Addr):Sp:=λvs H Q E=>∃(b t:Addr) (as:List Addr) (ts:List bO) (r w:Nat) (aD aL:AA) (bi bj:Nat),vs=[.ref b,.ref t]/\cG C H b r w aD aL bi bj/\H t=some (.tup (as.map V.ref))/\eV H as ts/\(∀t∈ts,inB r w t)/\0<ts.length/\
 (∀i j,adO (dW aD ts) (oY ts).1 (mG ts).1 (oY ts).2.1 (mG ts).2.1 i j->∀(dx:Addr) (H':Hp),aB H H'->H' dx=some (.ext (XD dx (VJ i j)))->E (.ref CG) (some dx) H')/\
 (JF (dW aD ts) (oY ts).1 (mG ts).1 (oY ts).2.1 (mG ts).2.1->∀H',aB H H'->Q .non H')
def Ot {C CG f0 f1 f2:Addr}{d8 dM fd2:FuncData}(D:aM K mg "check_gaps" rD ["board","laying"])(fQ:mg "range"=none)(gb:∃t,mg "FREE"=some (.str (S [46]) t))(cj:fY K C)(rN:Meth K C "at" f1)(rO:bW P w K mg base cW 3 f1 dM ["self","row","column"] (XR C))(rP:bK K dM ["self","row","column"] [])(kO:Meth K C "laid" f2)(kY:bW P w K mg base cW 8 f2 fd2 ["self","laying"] (Dk C))(kZ:bK K fd2 ["self","laying"] [])(T:pR K mg "Gap" CG f0 ["row","column"])(aiO:bW P w K mg base cW 1 f0 d8 ["self","row","column"] (Jk CG "row" "column"))(X_:bK K d8 ["self","row","column"] []):DefX P w K mg base "check_gaps" 10 ["board","laying"] (Rh C CG):=by
 refine D.z_ qm (λvs H Q E h=>?_) (λf bH A outer s H vs Q E hr h=>?_)
 .let⟨b,t,as,ts,r,w,aD,aL,bi,bj,rfl,_⟩:=h;rfl
 .let⟨b,t,as,ts,r,w,aD,aL,bi,bj,rfl,BA,ht,hL,dY,h0,qE,q⟩:=h;let aiP:=T.M;let ahg:=T.uL;let hal:=hL.len;let r9:=BA.ok.r9;let w9:=BA.ok.w9;let⟨dx,_,_,_,ex,_⟩:=id BA.ex;calc⟨_,(aA (aU (i:=2) qm.nd rK (Or.inl rK) (mQ aG cj.cl kO kY hr.mono kZ .nil cY (aj aW ao))) (aF (fP kf rK (MN qf fQ (aj (aY bw (aY bw aW au (λ_ _=>rfl)) au (λ_ _=>rfl)) (aj (aJ cL (aY bw (aY bw aW (vA qX au) (λ_ _=>rfl)) au (λ_ _=>rfl)) au) ao))) (bF (i:=3) qm.nd rK (Or.inl rK)) (aF (fP kf rK (MN qf fQ (aj (aY bw (aY bw aW au (λ_ _=>rfl)) au (λ_ _=>rfl)) (aj (aJ cL (aY bw (aY bw aW (vA qX au) (λ_ _=>rfl)) au (λ_ _=>rfl)) au) ao))) (bF (i:=4) qm.nd rK (Or.inl rK)) (aF (cA (bQ jF (mQ bA cj.cl rN rO hr.mono rP .nil cY (aj bN (aj cJ ao))) (uc qf gb) (bG _)) (aF (uK qL rK aiP aiO hr.mono qf ahg X_ (aj bN (aj cJ ao)))) bI))))))),?_⟩;calc⟨_,rK,b,dx,_,rK,ex,rK,_,rK,b,t,as,ts,r,w,aD,aL,bi,bj,rK,BA,ht,hL,dY,λx1 H1 s1 B1=>?_⟩;rw[show oY ts=ts[0] from wM h0,acu h0]at qE q;let⟨a1,a2,_⟩:=dY _ (a9 h0);let⟨l1,l2,_⟩:=dY _ (a9 (show ts.length-1<ts.length by lia));let hL1:=hL.mv s1;let J:=s1 _ _ ht;let⟨g0,e0⟩:=jL hL1 h0;let⟨gl,el⟩:=jL hL1 (show ts.length-1<ts.length by lia);let eal:as.length-1=ts.length-1:=p_;let adP:sS (as.map V.ref) (-1)=some (.ref as[ts.length-1]):=by
   rw[aeO (show 0<as.length by lia)];simp only[eal]
  generalize hR:dW aD ts=R at B1 qE q;generalize ef:ts[0]=ff at e0 qE q a1 a2;generalize eg:ts[ts.length-1]=ll at el qE q l1 l2;calc⟨_,rK,t,_,_,.ref as[0],rK,rK,aN.of J,aQ (j:=0) (by simp[g0]),as[0],_,_,_,rK,rK,aN.of e0,aQ (j:=0) rK,_,rK,_,rK,t,_,_,.ref as[ts.length-1],rK,rK,aN.of J,adP,as[ts.length-1],_,_,_,rK,rK,aN.of el,aQ (j:=0) rK,_,_,rK,rK,(ff.1:Int),(ll.1:Int)+1,rK,⟨p_,p_,p_,p_⟩,?_⟩;refine oN (lo:=(ff.1:Int)) (λn σ H'=>∃v3 Y:Option V,σ=[some (.ref b),some (.ref t),some (.ref x1),v3,Y]/\aB H1 H'/\∀i j,ff.1<=i->i<ff.1+n->ff.2.1<=j->j<=ll.2.1->cell R i j≠46)
   (JA none none ⟨rK,aB.refl _,λi j O z2=>by lia⟩) ?_ ?_
  .intro n σ H' hn z;let⟨v3,Y,rfl,Z,I⟩:=z;let hn2:ff.1+n<=ll.1:=p_;let en:(ff.1:Int)+(n:Int)=((ff.1+n:Nat):Int):=p_;rw[en];let Nj:=Z _ _ J;let e02:=Z _ _ e0;let el2:=Z _ _ el;calc⟨_,rK,t,_,_,.ref as[0],rK,rK,aN.of Nj,aQ (j:=0) (by simp[g0]),as[0],_,_,_,rK,rK,aN.of e02,aQ (j:=1) rK,_,rK,_,rK,t,_,_,.ref as[ts.length-1],rK,rK,aN.of Nj,adP,as[ts.length-1],_,_,_,rK,rK,aN.of el2,aQ (j:=1) rK,_,_,rK,rK,(ff.2.1:Int),(ll.2.1:Int)+1,rK,⟨p_,p_,p_,p_⟩,?_⟩;refine oN (lo:=(ff.2.1:Int)) (λm σ H2=>∃Y:Option V,σ=[some (.ref b),some (.ref t),some (.ref x1),some (.int ((ff.1+n:Nat):Int)),Y]/\aB H1 H2/\∀j,ff.2.1<=j->j<ff.2.1+m->cell R (ff.1+n) j≠46)
    ⟨_,rK,Z,λj O z2=>by lia⟩ ?_ ?_
   .intro m σ H2 hm z;let⟨Y,rfl,F,G⟩:=z;let hm2:ff.2.1+m<=ll.2.1:=p_;let em:(ff.2.1:Int)+(m:Int)=((ff.2.1+m:Nat):Int):=p_;rw[em];let B2:=B1.mv F;let⟨dx1,_,_,_,VF,_⟩:=id B2.ex;calc⟨_,rK,x1,dx1,_,rK,VF,rK,_,rK,_,rK,x1,r,w,R,aL,bi,bj,_,_,rK,B2,[_],[46],rK,rK,_,rK,?_⟩;rw[Rf (show ff.1+n<r by lia) (show ff.2.1+m<w by lia)];by_cases hc:cell R (ff.1+n) (ff.2.1+m)=46
    .rw[ai (show [cell R (ff.1+n) (ff.2.1+m)]=[46] by rw[hc])];calc cu ⟨_,rK,_,rK,zsz 2,λa na=>(JE a _ _ ⟨rK,aq,λdx ne nd=>?_⟩)⟩;let⟨k0,k1,k2⟩:=Np (q:=.ext (iT a (.ref CG) (some dx))) (p:=.ext (XD dx [("row",.int (ff.1+n:Nat))])) (p2:=.ext (XD dx (VJ (ff.1+n) (ff.2.1+m)))) na ne nd;show⟨rK,some dx,k0,qE _ _ ⟨p_,hn2,p_,hm2,hc,I,G⟩ dx _ ((s1.trans F).trans k1) k2⟩
    .rw[ag (show ¬[cell R (ff.1+n) (ff.2.1+m)]=[46] from λz=>hc (by injection z))];calc bL ⟨_,rK,F,λj O z2=>?_⟩;by_cases z:j=ff.2.1+m;.rw[z];show hc
     .show G j O p_
   .intro σ H2 z;let⟨Y,rfl,F,G⟩:=z;calc JA _ _ ⟨rK,F,λi j O z2 z3 z4=>?_⟩;by_cases z:i=ff.1+n;.rw[z];show G j z3 p_
    .show I i j O p_ z3 z4
  .intro σ H' z;let⟨v3,Y,rfl,Z,I⟩:=z;show q (λi j O z2 z3 z4=>I i j O p_ z3 z4) H' (s1.trans Z)
def nR (t:bO):Nat×Nat:=(t.1,t.2.1)
noncomputable def BL (aD:AA)(r w bi bj:Nat)(ts:List bO):Bool:=if isFree aD=true then decide ((bi,bj)∈ts.map nR) else ts.any λt=>Pg aD r w t.1 t.2.1
theorem dN.ofP {H:Hp}:∀{cs:List Addr} {j:List (Nat×Nat)},PL2 H cs j->dN K H 1 (j.map λc=>Dt.tup [.int c.1,.int c.2]) (cs.map V.ref)
 | [],[],_=>.nil
 | [],_::_,h=>by have:=h.len;simp at this
 | _::_,[],h=>by have:=h.len;simp at this
 | a::cs,c::j,h=>.cons (.tup (aN.of (h.at_ 0 a c rK rK)) (.cons (.int _) (.cons (.int _) .nil))) (dN.ofP ⟨by have:=h.len;simpa using this,λi a x h1 h2=>h.at_ (i+1) a x h1 h2⟩)
def JG {c:Nat×Nat}{j:List (Nat×Nat)}:Dt.tup [.int c.1,.int c.2]∈(j.map λc=>Dt.tup [.int (c.1:Int),.int (c.2:Int)])↔c∈j:=by
 constructor
 .intro h;let⟨d,hd,e⟩:=bc.mp h;injection e with e;injection e with e1 e2;injection e1 with e1;injection e2 with e2;injection e2 with e2;have:d=c:=Prod.ext (on e1) (on e2);rw[<-this];show hd
 .intro h;show bc.mpr ⟨c,h,rK⟩
def Ri (C j:Addr):Sp:=λvs H Q E=>∃(b t:Addr) (as:List Addr) (ts:List bO) (r w:Nat) (aD aL:AA) (bi bj:Nat),vs=[.ref b,.ref t]/\cG C H b r w aD aL bi bj/\H t=some (.tup (as.map V.ref))/\eV H as ts/\ts.length<=7/\
 (BL aD r w bi bj ts=false->∀H',aB H H'->E (.ref j) none H')/\(BL aD r w bi bj ts=true->∀H',aB H H'->Q .non H')
open Classical in
def JH {C J f1:Addr}{dM:FuncData}(D:aM K mg "check_joined" pA ["board","laying"])(yh:mg "any"=none)(cj:fY K C)(rQ:Meth K C "is_free" f1)(rR:bW P w K mg base cW 1 f1 dM ["self"] (QZ C))(rT:bK K dM ["self"] [])(acv:mg "Apart"=some (.ref J))(aeS:W.excIn K J j5 "ValueError.__new__"=true)(rM:bU P w K mg base "cells_of" 1 ["laying"] yd)(Dl:bU P w K mg base "is_next_to_taken" 5 ["board","row","column"] (Rb C)):DefX P w K mg base "check_joined" 7 ["board","laying"] (Ri C J):=by
 refine D.z_ rE (λvs H Q E h=>?_) (λf bH A outer s H vs Q E I h=>?_)
 .let⟨b,t,as,ts,r,w,aD,aL,bi,bj,rfl,_⟩:=h;rfl
 .let⟨b,t,as,ts,r,w,aD,aL,bi,bj,rfl,BA,ht,Z,h7,qE,q⟩:=h;let O:=Z.len;let⟨dx,pr,pm,pb,ex,_,_,hpb⟩:=id BA.ex;calc⟨_,(aA (fU (cA (cQ (dR aG cj.cl rQ rR I.mono rT .nil cY)) (aF (aU (i:=2) rE.nd rK (Or.inl rK) (d_ (Vt I.units) (bR aG rK) (bD rM I.mono rK (aj aW ao)) rK))) (aF (aU (i:=2) rE.nd rK (Or.inl rK) (aO (Qx rK) qf yh M5 (aj (lX (ns:=["row","column","sign"]) rK (jM.of ["board","laying","joined"] [] qh) (gG aW) (λ_ _ _ _ _=>(o_ K rK (show (["row","column","sign","board","laying","joined"]:List Str).Nodup by decide +kernel) rK rK rK qf qf qf)) (λ_ _ _ _ _=>dX) (λ_ _ _ _ _=>(bD Dl I.mono rK (aj bN (aj aG (aj aW ao)))))) ao)))))) (aF (cA (dG (cQ bA)) (aF (GZ qL rK rK qf acv aeS (aj (bJ [116,104,101,32,108,97,121,105,110,103,32,105,115,32,106,111,105,110,101,100,32,116,111,32,110,111,116,104,105,110,103] qi) ao))) bI))),?_⟩;refine⟨λσ H'=>aB H H'/\σ=[some (.ref b),some (.ref t),some (.bl (BL aD r w bi bj ts))],?_,?_⟩
  .calc⟨_,rK,b,dx,_,rK,ex,rK,b,r,w,aD,aL,bi,bj,rK,BA,λH1 s1=>⟨_,rK,?_⟩⟩;cases hf:isFree aD with
   | true=>
    calc cu ⟨_,rK,b,C,dx,_,_,rK,s1 _ _ ex,cj.cl,cj.nb,rK,_,rK,t,as,ts,rK,s1 _ _ ht,Z.mv s1,p_,λLc cs H2 s2 hLc hcs=>?_⟩;let ajy:=s2 _ _ (s1 _ _ hpb);calc JE 2 (.tup [.int bi,.int bj]) ((ts.map nR).map λc=>Dt.tup [.int c.1,.int c.2]) ⟨qc,.tup (aN.of ajy) (.cons (.int _) (.cons (.int _) .nil)),.lst (bC.of hLc) (dN.ofP hcs),?_⟩;calc⟨s1.trans s2,?_⟩;let e:BL aD r w bi bj ts=decide ((bi,bj)∈ts.map nR):=by unfold BL;rw[if_pos hf]
    rw[e];simp only[fS,if_false];by_cases hm:(bi,bj)∈ts.map nR;.rw[ai hm,ai (JG (c:=(bi,bj)).mpr hm)];rfl
    .rw[ag hm,ag (λz=>hm (JG (c:=(bi,bj)).mp z))];rfl
   | false=>
    refine bL ⟨_,rK,t,rK,⟨_,aN.of (s1 _ _ ht)⟩,λN hN=>j4 (K:=K) (KT:=K) (a:=t) (f:=jP [] 0) (tt:=lV) (xs:=as.map V.ref) (λn ys F=>ys=((ts.take n).map λt=>Pg aD r w t.1 t.2.1).map V.bl/\F N=some (.lst ys)/\aB H1 F)
     ⟨rK,aq,aB.upd hN⟩ (λn ys F _ h=>aN.of (h.2.2 _ _ (s1 _ _ ht))) ?_ ?_⟩
    .intro n x ys F hx z;let⟨rfl,Y,j⟩:=z;let⟨hn,hx⟩:=rfg hx;let G:n<ts.length:=p_;let fj:=s1.trans j;let⟨_,en⟩:=jL (Z.mv fj) G;calc vB hx.symm (aN.of en) ?_;calc⟨_,rK,_,rK,_,rK,b,r,w,aD,aL,bi,bj,_,_,rK,BA.mv fj,λH4 s4=>⟨s4 _ _ Y,?_,g_.mk (by rw[aa];show hn) ⟨?_,aq,(j.trans s4).dH hN⟩⟩⟩;.rw[aa,aa,av];show aK p_
     .rw[take_snoc (af G),bz];rfl
    .intro ys F z;let⟨rfl,Y,j⟩:=z;calc JA N _ ⟨rK,bC.of Y,s1.trans j,?_⟩;rw[aa,O,cv,any_map];let e:BL aD r w bi bj ts=ts.any λt=>Pg aD r w t.1 t.2.1:=by unfold BL;rw[if_neg (by rw[hf];decide)]
     rw[e];rfl
  .rintro σ H' ⟨sm,rfl⟩;calc⟨_,rK,_,rK,?_⟩;cases hj:BL aD r w bi bj ts with| true=>show bL (q hj H' sm)| false=>show cu ⟨zsz 1,qE hj H' sm⟩
structure yJ (w:List Nat):Prop where
 lo:2<=w.length
 hi:w.length<=9
 az:∀c∈w,isLet c
def Rj:Sp:=λvs H Q _=>∃l:List Nat,vs=[.str (S l)]/\yJ l/\∀H',aB H H'->Q (.bl true) H'
def aay {c:Nat}(h:isLet c):decide ([c]<[97])=false/\decide ([122]<[c])=false:=by
 let j:∀a b:Nat,([a]<[b])↔a<b:=λa b=>by simp[ii]
 constructor;.rw[ag];rw[j];have:=h.1;lia
 .rw[ag];rw[j];have:=h.2;lia
def Yb (D:aM K mg "is_word" xU ["text"])(Y:mg "len"=none)(G:mg "all"=none):bU P w K mg base "is_word" 1 ["text"] Rj:=by
 calc D.dh Jq (λf bH A outer s H vs Q E Z h=>?_);let⟨l,rfl,hw,q⟩:=h;let h1:=hw.lo;let h2:=hw.hi;let hz:l.length<=sizeLine:=ap (aK p_);refine⟨_,aF (bf (jG (lW qe qe au (aO cZ qf Y aE (aj aG ao)) au)
  (jg (aO (jV rK) qf G qi (aj (jO rK (jf.of Jq.nd qh) (rm aG) (λ_ _ _ _ _=>dX)
   (λ_ _ _ _ _=>lW nZ nZ (bJ [97] qi) aG (bJ [122] qi))) ao))))),?_⟩
 calc⟨_,rK,l,rK,hz,_,_,rK,rK,true,(by simp;lia),?_⟩;calc cu (JA _ _ ⟨rK,rK,true,(by simp;lia),?_⟩);calc cu ?_;refine⟨_,rK,l,rK,λL O=>wu (λi ys F=>ys=(List.replicate i true).map V.bl/\F L=some (.lst ys)/\aB H F) ⟨rK,aq,aB.upd O⟩ ?_ ?_⟩
 .intro i c ys F hi z;let⟨rfl,j,I⟩:=z;let J:i<l.length:=(ah.mp hi).1;let⟨a1,a2⟩:=aay (hw.az c (bp hi));calc⟨_,rK,[97],[c],rK,rK,true,by rw[a1];rfl,cu (JA [c] [122] ⟨rK,rK,j,?_,g_.mk J ⟨?_,aq,I.dH O⟩⟩)⟩;.rw[aa,cq];show aK p_
  .rw[a2,kH,bz];rfl
 .intro ys F z;let⟨rfl,j,I⟩:=z;calc JA L (List.replicate l.length true) ⟨rK,bC.of j,?_⟩;let e:(List.replicate l.length true).all id=true:=qa;rw[e];show q F I
def K5:Sp:=λvs H Q _=>∃l:List Nat,vs=[.str (S l)]/\yJ l/\∀H',aB H H'->Q .non H'
def Ou (D:aM K mg "check_word" rF ["text"])(F:bU P w K mg base "is_word" 1 ["text"] Rj):bU P w K mg base "check_word" 2 ["text"] K5:=by calc D.dh Oe (λf bH A outer s H vs Q E j h=>?_);let⟨l,rfl,hw,q⟩:=h;calc⟨_,aF (cA (dG (cQ (bD F j rK (aj aG ao)))) qJ bI),?_⟩;calc⟨_,rK,l,rK,hw,λH1 s1=>⟨true,rK,?_⟩⟩;show bL (q H1 s1)
structure pG (K:W.Frag)(C:Addr):Prop where
 cl:Cls K C
 nh:iG K C "held"
def lG (ws:AA):List (Key×V):=ws.map λl=>(cF l,V.bl true)
def acw (ws:AA):(lG ws).map (·.1)=ws.map cF:=by unfold lG;rw[gc];rfl
def Hi {a b:List Nat}(h:cF a=cF b):a=b:=xG (l_ h)
def K7 (ws:AA)(l:List Nat):dZ (lG ws) (cF l)=if l∈ws then some (.bl true) else none:=by
 induction ws with
 | nil=>simp[lG,dZ]
 | cons a r ih=>
  by_cases e:a=l
  .subst e;have:dZ (lG (a::r)) (cF a)=some (.bl true):=jj (p:=(cF a,V.bl true)) rfl;rw[this];simp
  .have:dZ (lG (a::r)) (cF l)=dZ (lG r) (cF l):=jk (p:=(cF a,V.bl true)) λz=>e (Hi z)
   rw[this,ih];let j:¬l=a:=λz=>e z.symm;simp[j]
def aeT {ws:AA}{l:List Nat}(h:l∈ws):putK (lG ws) (cF l) (.bl true)=lG ws:=by
 let j:((lG ws).any λF=>decide (F.1=cF l))=true:=by rw[tD,K7,if_pos h];rfl
 unfold putK;rw[if_pos j];calc(fA λF D=>?_).trans (kM _);let⟨a,_,rfl⟩:=bc.mp D;by_cases e:cF a=cF l;.simp[e]
 .simp[e]
def aeU {ws:AA}{l:List Nat}(h:l∉ws):putK (lG ws) (cF l) (.bl true)=lG (ws++[l]):=by rw[abJ _ (by rw[K7,if_neg h])];simp[lG]
structure fD (C:Addr)(H:Hp)(p d:Addr)(ws:AA):Prop where
 ob:∃dx,H p=some (.ins C dx [("held",.ref d)])
 dc:H d=some (.dK (lG ws))
 nd:ws.Nodup
 az:∀l∈ws,yJ l
def yK (ws:AA)(l:List Nat):List (List Nat):=if l∈ws then ws else ws++[l]
def Rk (ws:AA)(l:List Nat):putK (lG ws) (cF l) (.bl true)=lG (yK ws l):=by
 unfold yK;split;.rename_i h;show aeT h
 .rename_i h;show aeU h
def V0 {ws:AA}{l:List Nat}(h:ws.Nodup):(yK ws l).Nodup:=by
 unfold yK;split;.show h
 .rename_i hl;show Vf h hl
def Rm {ws:AA}{l x:List Nat}:x∈yK ws l↔x∈ws\/x=l:=by
 unfold yK;split;.rename_i h;show⟨.inl,λz=>z.elim id λe=>e ▸ h⟩
 .simp
def Rn (ws:AA)(l:List Nat):(yK ws l).length<=ws.length+1:=by
 unfold yK;split;.lia
 .simp
def aiQ (K:W.Frag)(H:Hp)(a:Addr)(ls:AA):Prop:=bC K H a (Ts ls)\/aN K H a (Ts ls)
def Ro (K:W.Frag)(C:Addr):Sp:=λvs H Q _=>∃(p dx a:Addr) (ls:AA),vs=[.ref p,.ref a]/\H p=some (.ins C dx [])/\aiQ K H a ls/\(∀l∈ls,yJ l)/\ls.length<=200/\
 ∀(d:Addr) (ws:AA) (H':Hp),H d=none->fD C H' p d ws->(∀x,x∈ws↔x∈ls)->ws.length<=ls.length->(∀b o,H b=some o->b≠p->H' b=some o)->Q .non H'
def aeV {f C:Addr}{fd:FuncData}(F:d7 K "__init__" "Book.__init__" mq f fd)(T:pG K C)(D1:bU P w K mg base "check_word" 2 ["text"] K5):bW P w K mg base cW 3 f fd ["self","words"] (Ro K C):=by
 calc F.dh Dg (λbH A outer s H vs Q E hr h=>?_);let⟨p,dx,a,ls,rfl,hp,Z,hW,hn,k⟩:=h;let hu:=I_ hr;let nd:=Dg.nd;refine⟨_,aA (lB aG Qi rK) (aF (fP cz rK ((oh aW).or (gG aW)) (bF (i:=2) nd rK (Or.inl rK))
  (aA (dD (bD D1 hr rK (aj bA ao))) (aF (Vl hu (bR aG rK) bA h_ rK))))),?_⟩
 intro d hd;let V1:p≠d:=aX hp hd;calc⟨_,rK,p,C,dx,[],rK,(by rw[aV V1];show hp),T.cl,T.nh,(by show 0<1000;decide),?_⟩;let hP1:upd (upd H d (HO.dK [])) p (HO.ins C dx (iw "held" (V.ref d) [])) p=some (.ins C dx [("held",.ref d)]):=aq;let hD1:upd (upd H d (HO.dK [])) p (HO.ins C dx (iw "held" (V.ref d) [])) d=some (.dK (lG [])):=by rw[aV V1.symm,aq];rfl
 let O:∀b o,H b=some o->b≠p->upd (upd H d (HO.dK [])) p (HO.ins C dx (iw "held" (V.ref d) [])) b=some o:=λb o e hb=>by rw[aV hb,aV (aX e hd)];show e
 generalize upd (upd H d (HO.dK [])) p (HO.ins C dx (iw "held" (V.ref d) []))=H1 at hP1 hD1 O ⊢;let npl:∀o,H p=some o->(∀ys,o≠.lst ys)/\∀u ys,o≠.pU u (.lst ys):=λo e=>by rw[hp]at e;cases e;show⟨λ_ z=>(nomatch z),λ_ _ z=>(nomatch z)⟩
 let npt:∀o,H p=some o->(∀ys,o≠.tup ys)/\∀u ys,o≠.pU u (.tup ys):=λo e=>by rw[hp]at e;cases e;show⟨λ_ z=>(nomatch z),λ_ _ z=>(nomatch z)⟩
 rcases Z with Z|Z
 .refine .inl ⟨_,rK,a,rK,⟨_,Z.keep O npl⟩,nC (K:=K) (a:=a) (xs:=Ts ls) (λi σ G=>∃(v2:Option V) (ws:AA),σ=[some (.ref p),some (.ref a),v2]/\G p=some (.ins C dx [("held",.ref d)])/\G d=some (.dK (lG ws))/\ws.Nodup/\
   (∀x,x∈ws↔x∈ls.take i)/\ws.length<=i/\∀b o,H b=some o->b≠p->G b=some o) (JA none [] ⟨rK,hP1,hD1,pV,λx=>by simp,al _,O⟩) (λi σ G _ ⟨_,_,_,_,_,_,_,_,kp⟩=>Z.keep kp npl) ?_ ?_⟩
  .intro i y σ G hi z;let⟨v2,ws,rfl,j,J,I,hm,hl,kp⟩:=z;rw[bS]at hi;let⟨l,D,e⟩:=c9.mp hi;subst e;let hil:i<ls.length:=(ah.mp D).1;calc⟨_,rK,l,rK,hW l (bp D),λH3 Y=>?_⟩;let hd3:=Y _ _ J;calc⟨_,rK,p,C,dx,_,_,rK,Y _ _ j,T.cl,T.nh,rK,_,rK,d,_,rK,GJ.k (k:=cF l) hd3 (by rw[lG,aa];show aK p_),?_⟩;calc JA _ (yK ws l) ⟨rK,by rw[aV V1];show Y _ _ j,by rw[aq,Rk],V0 I,λx=>?_,bP (Rn _ _) p_,λb o e hb=>?_⟩;.rw[Rm,hm,cw,D];simp
   .rw[aV (aX e hd)];show Y _ _ (kp b o e hb)
  .intro σ G z;let⟨v2,ws,rfl,j,J,I,hm,hl,kp⟩:=z;rw[aa]at hm hl;rw[cv]at hm;show k d ws G hd ⟨⟨dx,j⟩,J,I,λl hl=>hW l ((hm l).mp hl)⟩ hm hl kp
 .refine .inr ⟨_,rK,a,rK,⟨_,Z.keep O npt⟩,za (K:=K) (a:=a) (xs:=Ts ls) (λi σ G=>∃(v2:Option V) (ws:AA),σ=[some (.ref p),some (.ref a),v2]/\G p=some (.ins C dx [("held",.ref d)])/\G d=some (.dK (lG ws))/\ws.Nodup/\
   (∀x,x∈ws↔x∈ls.take i)/\ws.length<=i/\∀b o,H b=some o->b≠p->G b=some o) (JA none [] ⟨rK,hP1,hD1,pV,λx=>by simp,al _,O⟩) (λi σ G _ ⟨_,_,_,_,_,_,_,_,kp⟩=>Z.keep kp npt) ?_ ?_⟩
  .intro i y σ G hi z;let⟨v2,ws,rfl,j,J,I,hm,hl,kp⟩:=z;rw[bS]at hi;let⟨l,D,e⟩:=c9.mp hi;subst e;let hil:i<ls.length:=(ah.mp D).1;calc⟨_,rK,l,rK,hW l (bp D),λH3 Y=>?_⟩;let hd3:=Y _ _ J;calc⟨_,rK,p,C,dx,_,_,rK,Y _ _ j,T.cl,T.nh,rK,_,rK,d,_,rK,GJ.k (k:=cF l) hd3 (by rw[lG,aa];show aK p_),?_⟩;calc JA _ (yK ws l) ⟨rK,by rw[aV V1];show Y _ _ j,by rw[aq,Rk],V0 I,λx=>?_,bP (Rn _ _) p_,λb o e hb=>?_⟩;.rw[Rm,hm,cw,D];simp
   .rw[aV (aX e hd)];show Y _ _ (kp b o e hb)
  .intro σ G z;let⟨v2,ws,rfl,j,J,I,hm,hl,kp⟩:=z;rw[aa]at hm hl;rw[cv]at hm;show k d ws G hd ⟨⟨dx,j⟩,J,I,λl hl=>hW l ((hm l).mp hl)⟩ hm hl kp
def adQ (C:Addr):Sp:=λvs H Q _=>∃(p d:Addr) (ws:AA) (l:List Nat),vs=[.ref p,.str (S l)]/\fD C H p d ws/\Q (.bl (decide (l∈ws))) H
def ahh {f C:Addr}{fd:FuncData}(F:d7 K "has" "Book.has" nP f fd)(T:pG K C):bW P w K mg base cW 1 f fd ["self","text"] (adQ C):=by
 calc F.dh Ue (λbH A outer s H vs Q E j h=>?_);let⟨p,d,ws,l,rfl,B,q⟩:=h;let D:=I_ j;obtain⟨⟨dx,hp⟩,hd,_,_⟩:=id B;calc⟨_,aF (bf (agI (agH D aW (bR aG rK)))),?_⟩;calc⟨_,rK,_,rK,p,C,dx,_,_,rK,hp,T.cl,T.nh,rK,d,_,rK,tE.k (k:=cF l) hd,?_⟩;rw[K7];by_cases h:l∈ws;.rw[if_pos h];simpa [h] using q
 .rw[if_neg h];simpa [h] using q
def ajz (ws:AA):Prop:=ws.Pairwise (λa b=>decide (b<a)=false)
def K8 (C:Addr):Sp:=λvs H Q _=>∃(p d:Addr) (ws:AA),vs=[.ref p]/\fD C H p d ws/\ws.length<64/\
 ∀(t:Addr) (us:AA) (H':Hp),aB H H'->H t=none->H' t=some (.tup (Ts us))->us.Perm ws->ajz us->Q (.ref t) H'
def acy {f C:Addr}{fd:FuncData}(F:d7 K "words" "Book.words" kI f fd)(T:pG K C)(G:mg "sorted"=none)(j:mg "tuple"=none):bW P w K mg base cW 1 f fd ["self"] (K8 C):=by calc F.dh Og (λbH A outer s H vs Q E O h=>?_);let⟨p,d,ws,rfl,B,D,q⟩:=h;obtain⟨⟨dx,hp⟩,hd,_,_⟩:=id B;calc⟨_,aF (bf (eO i_ qf j ck (aj (aO (Qj rK) qf G f8 (aj (bR aG rK) ao)) ao))),?_⟩;calc⟨_,rK,p,C,dx,_,_,rK,hp,T.cl,T.nh,rK,d,_,ws,rK,hd,acw ws,D,λt us ht pm J=>?_⟩;calc JA t _ ⟨rK,.inl ⟨bC.of aq,λv I=>?_⟩⟩;let s1:aB H (upd H t (.lst (Ts us))):=aB.upd ht;show q v us _ (s1.dH (s1.free I)) (s1.free I) aq pm J
def gR (c:Nat):Nat:=if 65<=c/\c<=90 then 63 else c
def sgN (c:Nat):Prop:=isLet c\/(65<=c/\c<=90)
def sgN.lt {c:Nat}(h:sgN c):c<128:=by
 rcases h with h|h;.have:=h.2;lia
 .lia
noncomputable def zH (left:AA):List Nat->Sum Nat (List (List Nat))
 | []=>.inr left
 | c::cs=>if [gR c]∈left then zH (left.erase [gR c]) cs else .inl (gR c)
theorem V2:∀{us:AA},(∀l∈us,l.length=1)->us.flatten.length=us.length
 | [],_=>rfl
 | u::us,h=>by rw[fe,ay,V2 λl hl=>h l (bE _ hl),h u b9,dq];lia
def aaz:Sp:=λvs H Q _=>∃c:Nat,vs=[.str (S [c])]/\c<128/\Q (.str (S [gR c])) H
def le1 (a b:Nat):(!decide ([b]<[a]))=decide (a<=b):=by
 by_cases h:a<=b;.rw[ai h,ag (by simp[ii];lia)];rfl
 .rw[ag h,ai (by simp[ii];lia)];rfl
def Yc (D:aM K mg "tile_of" xO ["sign"]):bU P w K mg base "tile_of" 1 ["sign"] aaz:=by
 calc D.dh Xw (λf bH A outer s H vs Q E j h=>?_);let⟨c,rfl,F,q⟩:=h;calc⟨_,(aF (bf (nD (z9 nZ nZ (bJ [65] qi) aG (bJ [90] qi)) (bJ [63] qi) aG))),?_⟩;calc⟨_,rK,[65],[c],rK,rK,?_⟩;rw[le1];unfold gR at q;by_cases h1:65<=c
 .rw[ai h1];calc⟨_,rK,cu (JA [c] [90] ⟨rK,rK,?_⟩)⟩;rw[le1];by_cases h2:c<=90
  .rw[if_pos ⟨h1,h2⟩]at q;rw[ai h2];show⟨_,rK,cu q⟩
  .rw[if_neg λz=>h2 z.2]at q;rw[ag h2];show⟨_,rK,bL ⟨_,rK,q⟩⟩
 .rw[if_neg λz=>h1 z.1]at q;rw[ag h1];show⟨_,rK,bL ⟨_,rK,bL ⟨_,rK,q⟩⟩⟩
def aaA (x:List Nat)(ws:AA):inV (.str (S x)) (Ts ws)=decide (x∈ws):=by
 unfold inV
 induction ws with
 | nil=>simp[Ts]
 | cons y ws ih=>
  let e:Ge (.str (S y)) (.str (S x))=decide (y=x):=by
   show decide (S y=S x)=_;by_cases h:y=x;.rw[h];simp
   .let h2:S y≠S x:=λe=>h (xG e)
    simp[h,h2]
  show (Ge (.str (S y)) (.str (S x))||(Ts ws).any _)=_;rw[e,ih];by_cases h:y=x;.simp[h]
  .let h2:¬x=y:=λe=>h e.symm
   simp[h,h2]
def K9 (ws:AA):(Ts ws).all vq=true:=by rw[fh];intro x hx;let⟨l,_,rfl⟩:=bc.mp hx;rfl
def Yd {f C R:Addr}{fd:FuncData}(F:d7 K "__init__" "Lacking.__init__" jo f fd)(j:mg "RackError"=some (.ref R))(D:InitOf K R)(T:pR K mg "Lacking" C f ["tile"]):bW P w K mg base cW 1 f fd ["self","tile"] (Jj C "tile"):=by calc F.dh Jm (λbH A outer s H vs Q E G h=>?_);let⟨a,v,rfl,ha,q⟩:=h;calc⟨_,(aA (dD (vD qf j D (aj aG (aj aW ao)))) (aF (vY aG aW rK))),?_⟩;calc⟨_,rK,_,rK,a,C,f,none,[v],rK,ha,T.M.ini,zsz 1,?_⟩;show⟨_,rK,_,rK,a,C,none,rK,ha,T.T,T.no _ qa,.inl ⟨rK,λdx ne nd=>q dx ne nd⟩⟩
def JK (C:Addr):Sp:=λvs H Q E=>∃(bM j:List Nat),vs=[.str (S bM),.str (S j)]/\bM.length<=63/\j.length<=63/\(∀c∈j,c<128)/\
 (∀t,zH (bM.map λc=>[c]) j=.inl t->∀(dx:Addr) (H':Hp),aB H H'->H' dx=some (.ext (XD dx [("tile",.str (S [t]))]))->E (.ref C) (some dx) H')/\
 (∀left,zH (bM.map λc=>[c]) j=.inr left->∀(ws:AA) (H':Hp),aB H H'->ws.Perm left->ws.Pairwise (λa b=>decide (b<a)=false)->Q (.str (S ws.flatten)) H')
def Ye {C f0:Addr}{d8:FuncData}(D:aM K mg "left_of" xP ["rack","signs"])(iy:mg "list"=none)(gY:mg "sorted"=none)(T:pR K mg "Lacking" C f0 ["tile"])(aaB:bW P w K mg base cW 1 f0 d8 ["self","tile"] (Jj C "tile"))(Dm:bK K d8 ["self","tile"] [])(aaC:bU P w K mg base "tile_of" 1 ["sign"] aaz):DefX P w K mg base "left_of" 3 ["rack","signs"] (JK C):=by
 refine D.z_ vG (λvs H Q E h=>?_) (λf bH A outer s H vs Q E hr h=>?_)
 .let⟨bM,j,rfl,_⟩:=h;rfl
 .let⟨bM,j,rfl,ajA,aj0,hsg,qE,q⟩:=h;let aaD:=T.M;let Yg:=T.uL;calc⟨_,(aA (aU (i:=2) vG.nd rK (Or.inl rK) (eO (nF rK) qf iy fq (aj aG ao))) (aA (fP kf rK (rm aW) (bF (i:=3) vG.nd rK (Or.inl rK)) (aA (aU (i:=4) vG.nd rK (Or.inl rK) (bD aaC hr.mono rK (aj bN ao))) (aA (cA (bQ wk cJ bA rK) (aF (uK qL rK aaD aaB hr.mono qf Yg Dm (aj cJ ao))) bI) (aF (dD (f9 cn iO iP xJ bA (aj cJ ao))))))) (aF (bf (f9 bo c_ de qI (bJ [] qi) (aj (aO CJ qf gY f8 (aj bA ao)) ao)))))),?_⟩;calc⟨_,rK,bM,rK,p_,λL hL=>?_⟩;let s1:aB H (upd H L (.lst (Ts (bM.map λc=>[c])))):=aB.upd hL;calc⟨_,rK,j,rK,?_⟩;refine Fd (λi σ Y=>∃(v3 v4:Option V) (us:AA),σ=[some (.str (S bM)),some (.str (S j)),some (.ref L),v3,v4]/\aB H Y/\Y L=some (.lst (Ts us))/\us.length<=63/\(∀l∈us,l.length=1)/\zH (bM.map λc=>[c]) j=zH us (j.drop i))
   (JE none none (bM.map λc=>[c]) ⟨rK,s1,aq,by rw[aa];show ajA,λl hl=>by let⟨c,_,rfl⟩:=bc.mp hl;rfl,by rw[km]⟩) ?_ ?_
  .intro i c σ Y Z z;let⟨v3,v4,us,rfl,O,G,JL,I,F⟩:=z;let hcs:=hsg c (bp Z);let hi:i<j.length:=(ah.mp Z).1;let J:j.drop i=c::j.drop (i+1):=by
    rw[gr hi];rw[af hi]at Z;rw[be Z]
   rw[J]at F;calc⟨_,rK,c,rK,hcs,?_⟩;calc⟨_,rK,_,rK,L,Ts us,rK,.inl (bC.of G),rK,K9 us,?_⟩;rw[aaA];by_cases hm:[gR c]∈us
   .rw[ai hm];calc⟨_,rK,bL ⟨_,rK,.inl ⟨rK,_,bC.of G⟩,_,rK,L,us,[gR c],rK,rK,G,hm,p_,?_⟩⟩;calc JE _ _ (us.erase [gR c]) ⟨rK,O.dH hL,aq,?_,λl hl=>I l (List.mem_of_mem_erase hl),?_⟩;.have:=(lj (a:=[gR c]) (l:=us)).length_le;lia
    .rw[F];show (if _ then _ else _)=_;rw[if_pos hm]
   .rw[ag hm];let e:zH (bM.map λc=>[c]) j=.inl (gR c):=by rw[F];show (if _ then _ else _)=_;rw[if_neg hm]
    calc⟨_,rK,cu ⟨_,rK,zsz 1,λa na=>(JA a _ ⟨rK,aq,λdx ne nd=>⟨rK,some dx,aq,?_⟩⟩)⟩⟩;let⟨k1,k2⟩:=drop_new (q:=.ext (iT a (.ref C) (some dx))) (p:=.ext (XD dx [("tile",.str (S [gR c]))])) na ne nd;show qE _ e dx _ (O.trans k1) k2
  .intro σ Y z;let⟨v3,v4,us,rfl,O,G,JL,I,F⟩:=z;rw[mB]at F;calc⟨rK,_,rK,L,us,rK,bC.of G,p_,λp ws hp pm pw=>?_⟩;calc JA p ws ⟨rK,rK,bC.of aq,?_,?_⟩;.rw[V2 λl hl=>I l (pm.mem_iff.mp hl),pm.length_eq];lia
   .show q us F ws _ (O.dH (O.free hp)) pm pw
def aaE {f C R:Addr}{fd:FuncData}(F:d7 K "__init__" "NoWord.__init__" jW f fd)(j:mg "RackError"=some (.ref R))(D:InitOf K R)(T:pR K mg "NoWord" C f ["word"]):bW P w K mg base cW 1 f fd ["self","word"] (Jj C "word"):=by calc F.dh Kv (λbH A outer s H vs Q E G h=>?_);let⟨a,v,rfl,ha,q⟩:=h;calc⟨_,(aA (dD (vD qf j D (aj aG (aj aW ao)))) (aF (vY aG aW rK))),?_⟩;calc⟨_,rK,_,rK,a,C,f,none,[v],rK,ha,T.M.ini,zsz 1,?_⟩;show⟨_,rK,_,rK,a,C,none,rK,ha,T.T,T.no _ qa,.inl ⟨rK,λdx ne nd=>q dx ne nd⟩⟩
theorem Dn {p:Nat->Bool}:∀{l:List Nat} {c:Nat},c∈l.takeWhile p->c∈l/\p c=true
 | [],c,h=>by simp at h
 | a::l,c,h=>by
  rw[List.takeWhile_cons]at h;by_cases z:p a=true
  .rw[if_pos z]at h;rcases bq.mp h with e|e;.rw[e];show⟨b9,z⟩
   .have:=Dn e;show⟨bE _ this.1,this.2⟩
  .rw[if_neg z]at h;simp at h
def acz {r w:Nat}{R:AA}(hb:Blk r w R)(hp:∀l∈R,∀c∈l,BJ c){i j wy:Nat}(hi:i<r)(F:j<w):∀c∈lineOf R i j (wy:Int),BJ c:=λc D=>by
 unfold lineOf at D;split at D
 .rw[aw,af (by rw[hb.len];show hi)]at D;show hp _ (a9 _) c D
 .let⟨l,hl,e⟩:=bc.mp D;let hw:=hb.rH l hl;let e2:l.getD j 0=l[j]:=by rw[aw,af (show j<l.length by lia)];rfl
  rw[<-e,e2];show hp l hl _ (a9 _)
def aeX {r w:Nat}{R:AA}(hb:Blk r w R)(hp:∀l∈R,∀c∈l,BJ c){i j wy:Nat}(hi:i<r)(F:j<w):∀c∈(tM R i j wy).2.2.2,qN c:=λc G=>by
 let D:∀c,c∈lineOf R i j (wy:Int)->(c != 46)=true->qN c:=λc h1 h2=>by
  rcases acz hb hp hi F c h1 with z|z;.rw[z]at h2;cases h2
  .show z
 rcases bu.mp (show c∈iz _++jA _ from G) with z|z
 .unfold iz at z;have:=Dn (List.mem_reverse.mp z);show D c (cy (List.mem_reverse.mp this.1)) this.2
 .have:=Dn z;show D c (ed this.1) this.2
def acA {r w:Nat}{aD:AA}{ts:List bO}(hb:Blk r w (dW aD ts))(hp:∀l∈dW aD ts,∀c∈l,BJ c)(Y:∀t∈ts,inB r w t):∀q∈jK aD ts,∀c∈q.2.2.2,qN c:=λq D=>by
 let⟨a,ha,rfl⟩:=bc.mp (hJ.mp D).1;let hi:a.1<r/\a.2.1<w:=by
  rcases bu.mp ha with z|z
  .let⟨u,j,rfl⟩:=bc.mp z;have:=Y u (cy j);show⟨this.1,this.2.1⟩
  .let⟨u,j,rfl⟩:=bc.mp z;have:=Y u j;show⟨this.1,this.2.1⟩
 show aeX hb hp hi.1 hi.2
def Us {r w:Nat}{aD:AA}{ts:List bO}(hb:Blk r w (dW aD ts))(r9:r<=9)(w9:w<=9)(Y:∀t∈ts,inB r w t):∀q∈jK aD ts,q.2.2.2.length<=20:=λq D=>by
 let⟨a,ha,rfl⟩:=bc.mp (hJ.mp D).1;let hi:a.1<r:=by
  rcases bu.mp ha with z|z
  .let⟨u,j,rfl⟩:=bc.mp z;show(Y u (cy j)).1
  .let⟨u,j,rfl⟩:=bc.mp z;show(Y u j).1
 show G9 hb r9 w9 hi
def dQ (q:kJ):Dt:=.tup [.int q.1,.int q.2.1,.int q.2.2.1,.str q.2.2.2]
theorem dN.ofQ {H:Hp}:∀{bs:List Addr} {j:List kJ},QL H bs j->(∀q∈j,∀c∈q.2.2.2,c<128)->dN K H 1 (j.map dQ) (bs.map V.ref)
 | [],[],_,_=>.nil
 | [],_::_,h,_=>by have:=h.len;simp at this
 | _::_,[],h,_=>by have:=h.len;simp at this
 | a::bs,q::j,h,k=>.cons (.tup (aN.of (h.at_ 0 a q rK rK)) (.cons (.int _) (.cons (.int _) (.cons (.int _) (.cons (.str _ (k q b9)) .nil))))) (dN.ofQ ⟨by have:=h.len;simpa using this,λi a x h1 h2=>h.at_ (i+1) a x h1 h2⟩ λF D=>k F (bE _ D))
def Rp (q:kJ):List Nat:=q.2.2.2.map PyProof.Rows.lo1
def Hj (ws:AA)(q:kJ):Bool:=!decide (Rp q∈ws)
noncomputable def Gp (aD:AA)(ws:AA)(ts:List bO):Option (List Nat):=if jK aD ts=[] then some ([(oY ts).2.2].map PyProof.Rows.lo1) else ((jK aD ts).find? (Hj ws)).map Rp
def Nr (C CB j:Addr):Sp:=λvs H Q E=>∃(b k d t:Addr) (ws:AA) (as:List Addr) (ts:List bO) (r w:Nat) (aD aL:AA) (bi bj:Nat),vs=[.ref b,.ref k,.ref t]/\cG C H b r w aD aL bi bj/\fD CB H k d ws/\H t=some (.tup (as.map V.ref))/\eV H as ts/\(∀t∈ts,inB r w t)/\0<ts.length/\ts.length<=7/\Fp ts/\
 (∀l,Gp aD ws ts=some l->∀(dx:Addr) (H':Hp),aB H H'->H' dx=some (.ext (XD dx [("word",.str (S l))]))->E (.ref j) (some dx) H')/\(Gp aD ws ts=none->∀H',aB H H'->Q .non H')
def fD.mv {C:Addr}{H H':Hp}{p d:Addr}{ws:AA}(B:fD C H p d ws)(s:aB H H'):fD C H' p d ws:=⟨let ⟨dx,e⟩:=B.ob;⟨dx,s _ _ e⟩,s _ _ B.dc,B.nd,B.az⟩
def JM {aD:AA}{ts:List bO}(h:ts.length<=7):(jK aD ts).length<=100:=by calc bP (List.length_filter_le _ _) ?_;rw[aa];unfold Ag;rw[ay,aa,aa,av];lia
open Classical in
def K_ {C CB CW f0 f1:Addr}{d8 dM:FuncData}(D:aM K mg "check_words" qp ["board","book","laying"])(uN:pG K CB)(Yh:Meth K CB "has" f1)(Yi:bW P w K mg base cW 1 f1 dM ["self","text"] (adQ CB))(Yj:bK K dM ["self","text"] [])(T:pR K mg "NoWord" CW f0 ["word"])(Rq:bW P w K mg base cW 1 f0 d8 ["self","word"] (Jj CW "word"))(Ai:bK K d8 ["self","word"] [])(Hl:bU P w K mg base "formed" 10 ["board","laying"] (G_ C))(Ut:bU P w K mg base "letter_of" 1 ["sign"] JD):DefX P w K mg base "check_words" 12 ["board","book","laying"] (Nr C CB CW):=by
 refine D.z_ jq (λvs H Q E h=>?_) (λf bH A outer s H vs Q E hr h=>?_)
 .let⟨b,k,d,t,ws,as,ts,r,w,aD,aL,bi,bj,rfl,_⟩:=h;rfl
 .let⟨b,k,d,t,ws,as,ts,r,w,aD,aL,bi,bj,rfl,BA,BK,ht,hL,dY,h0,h7,hl1,qE,q⟩:=h;let Rr:=T.M;let Nt:=T.uL;let hb':=tL BA.ok.br dY;let hp':=G8 BA.ok.br dY BA.ok.cr;let hsg:=acA hb' hp' dY;let h20:=Us hb' BA.ok.r9 BA.ok.w9 dY;let hwl:=JM (aD:=aD) h7;let hlt:∀q∈jK aD ts,∀c∈q.2.2.2,c<128:=λq hq c hc=>(hsg q hq c hc).lt;calc⟨_,(aA (aU (i:=3) jq.nd rK (Or.inl rK) (bD Hl hr.mono rK (aj aG (aj bA ao)))) (aA (cA (bQ (Cy hr.units) bN (cR ao) (bG _)) (aF (uK qL rK Rr Rq hr.mono qf Nt Ai (aj (bD Ut hr.mono rK (aj (aY bw (aY bw bA au (λ_ _=>rfl)) au (λ_ _=>rfl)) ao)) ao))) bI) (aF (fP kf rK (gG bN) (nY rK (bT (bF (i:=4) jq.nd rK (Or.inl rK)) (bT (bF (i:=5) jq.nd rK (Or.inl rK)) (bT (bF (i:=6) jq.nd rK (Or.inl rK)) (bT (bF (i:=7) jq.nd rK (Or.inl rK)) lq))))) (aA (aU (i:=8) jq.nd rK (Or.inl rK) (zp bo mh mi Qk iJ)) (aF (cA (dG (cQ (mQ aW uN.cl Yh Yi hr.mono Yj .nil cY (aj jZ ao)))) (aF (uK qL rK Rr Rq hr.mono qf Nt Ai (aj jZ ao))) bI))))))),?_⟩;calc⟨_,rK,_,rK,b,t,as,ts,r,w,aD,aL,bi,bj,rK,BA,ht,hL,dY,h0,h7,hl1,λT1 b1 H1 s1 hT1 hQ1=>?_⟩;generalize hW:jK aD ts=W at hsg h20 hwl hlt hQ1;calc⟨_,rK,zsz 0,λZ hZ=>?_⟩;let sZ:aB H1 (upd H1 Z (HO.tup [])):=aB.upd hZ;let eZ:upd H1 Z (HO.tup []) Z=some (.tup []):=aq;let Y:=sZ _ _ hT1;let I:=hQ1.mv sZ;let d9:=s1.trans sZ;generalize upd H1 Z (HO.tup [])=H2 at sZ eZ Y I d9 ⊢;calc JE 2 (.tup (W.map dQ)) (.tup []) ⟨qc,.tup (aN.of Y) (dN.ofQ I hlt),.tup (aN.of eZ) .nil,_,rK,?_⟩;let Q7:=I.len;cases O:W with
  | nil=>simp only[ph,decide_true];let⟨g0,e0⟩:=jL (hL.mv d9) h0;let hh:oY ts=ts[0]:=wM h0;let hs0:=(dY _ (a9 h0)).2.2;calc cu ⟨_,rK,t,_,_,.ref as[0],rK,rK,aN.of (d9 _ _ ht),aQ (j:=0) (by simp[g0]),as[0],_,_,_,rK,rK,aN.of e0,aQ (j:=2) rK,ts[0].2.2,rK,hs0.lt,zsz 1,λa na=>(JA a _ ⟨rK,aq,λdx ne nd=>⟨rK,some dx,aq,?_⟩⟩)⟩;let⟨k1,k2⟩:=drop_new (q:=.ext (iT a (.ref CW) (some dx))) (p:=.ext (XD dx [("word",.str (S ([ts[0].2.2].map PyProof.Rows.lo1)))])) na ne nd;calc qE _ ?_ dx _ (d9.trans k1) k2;unfold Gp;rw[if_pos (hW.trans O),hh]
  | cons q0 Wr=>
   let hne:¬(Dt.tup (W.map dQ)=Dt.tup []):=λz=>by rw[O]at z;injection z with z;cases z
   let hmw:Gp aD ws ts=(W.find? (Hj ws)).map Rp:=by unfold Gp;rw[if_neg (by rw[hW,O];simp),hW]
   rw[<-O];rw[ag hne];refine bL ⟨_,rK,T1,rK,⟨_,aN.of Y⟩,za (K:=K) (a:=T1) (xs:=b1.map V.ref) (λn σ H'=>∃v4 v5 v6 v7 v8:Option V,σ=[some (.ref b),some (.ref k),some (.ref t),some (.ref T1),v4,v5,v6,v7,v8]/\aB H2 H'/\∀x∈W.take n,Hj ws x=false)
    (JJ none none none none none ⟨rK,aB.refl _,λx hx=>by simp at hx⟩) (λn σ H' _ h=>by let⟨_,_,_,_,_,_,sm,_⟩:=h;show aN.of (sm _ _ Y)) ?_ ?_⟩
   .intro n x σ H' hx z;let⟨v4,v5,v6,v7,v8,rfl,sm,F⟩:=z;let⟨hn,hx⟩:=rfg hx;let G:n<W.length:=p_;subst hx;let en:=(I.mv sm).at_ n _ _ (af hn) (af G);let hm:=a9 G;let aj1:=h20 _ hm;calc JA (b1[n]) _ ⟨rK,aN.of en,rK,_,_,rK,_,_,rK,_,_,rK,_,_,rK,rK,?_⟩;calc⟨_,rK,rK,W[n].2.2.2,rK,rK,p_,hlt _ hm,?_⟩;let BK':=BK.mv (d9.trans sm);let⟨dk,ek⟩:=BK'.ob;calc⟨_,rK,k,dk,_,rK,ek,rK,_,rK,k,d,ws,_,rK,BK',_,rK,?_⟩;cases J:Hj ws W[n] with
    | true=>rw[show (!decide (W[n].2.2.2.map PyProof.Rows.lo1∈ws))=true from J];calc cu ⟨_,rK,zsz 1,λa na=>(JA a _ ⟨rK,aq,λdx ne nd=>⟨rK,some dx,aq,?_⟩⟩)⟩;let⟨k1,k2⟩:=drop_new (q:=.ext (iT a (.ref CW) (some dx))) (p:=.ext (XD dx [("word",.str (S (Rp W[n])))])) na ne nd;calc qE _ ?_ dx _ ((d9.trans sm).trans k1) k2;rw[hmw,VL G F J];rfl
    | false=>
     rw[show (!decide (W[n].2.2.2.map PyProof.Rows.lo1∈ws))=false from J];calc bL (JJ _ _ _ _ _ ⟨rK,sm,λx hx=>?_⟩);rw[cw,af G]at hx;rcases bu.mp hx with z|z;.show F x z
     .rw[a_.mp z];show J
   .intro σ H' z;let⟨v4,v5,v6,v7,v8,rfl,sm,F⟩:=z;rw[aa,Q7,cv]at F;show q (by rw[hmw,VN F];rfl) H' (d9.trans sm)
inductive Vd
 | ok|BP (i j:Nat)|BW|gap (i j:Nat)|BX|BZ (t:Nat)|nw (l:List Nat)
inductive sV (aD:AA) (r w bi bj:Nat) (ws:AA) (bM:List Nat) (ts:List bO):Vd->Prop
 | BP {u:bO} (h:Ah aD ts=some u):sV aD r w bi bj ws bM ts (.BP u.1 u.2.1)
 | BW (h1:Ah aD ts=none) (h:(tQ ts||tR ts)=false):sV aD r w bi bj ws bM ts .BW
 | gap {i j:Nat} (h1:Ah aD ts=none) (h2:(tQ ts||tR ts)=true) (h:adO (dW aD ts) (oY ts).1 (mG ts).1 (oY ts).2.1 (mG ts).2.1 i j):sV aD r w bi bj ws bM ts (.gap i j)
 | BX (h1:Ah aD ts=none) (h2:(tQ ts||tR ts)=true) (h3:JF (dW aD ts) (oY ts).1 (mG ts).1 (oY ts).2.1 (mG ts).2.1) (h:BL aD r w bi bj ts=false):sV aD r w bi bj ws bM ts .BX
 | BZ {t:Nat} (h1:Ah aD ts=none) (h2:(tQ ts||tR ts)=true) (h3:JF (dW aD ts) (oY ts).1 (mG ts).1 (oY ts).2.1 (mG ts).2.1) (h4:BL aD r w bi bj ts=true) (h:zH (bM.map λc=>[c]) (ts.map (·.2.2))=.inl t):sV aD r w bi bj ws bM ts (.BZ t)
 | nw {l:List Nat} (h1:Ah aD ts=none) (h2:(tQ ts||tR ts)=true) (h3:JF (dW aD ts) (oY ts).1 (mG ts).1 (oY ts).2.1 (mG ts).2.1) (h4:BL aD r w bi bj ts=true) (h5:∃left,zH (bM.map λc=>[c]) (ts.map (·.2.2))=.inr left) (h:Gp aD ws ts=some l):sV aD r w bi bj ws bM ts (.nw l)
 | ok (h1:Ah aD ts=none) (h2:(tQ ts||tR ts)=true) (h3:JF (dW aD ts) (oY ts).1 (mG ts).1 (oY ts).2.1 (mG ts).2.1) (h4:BL aD r w bi bj ts=true) (h5:∃left,zH (bM.map λc=>[c]) (ts.map (·.2.2))=.inr left) (h:Gp aD ws ts=none):sV aD r w bi bj ws bM ts .ok
structure Rt where
 lay:Addr
 BP:Addr
 BW:Addr
 gap:Addr
 BX:Addr
 BZ:Addr
 nw:Addr
def VdX (c:Rt)(H:Hp)(cls:Value)(dd:Option Addr):Vd->Prop
 | .ok=>False
 | .BP i j=>cls=.ref c.BP/\∃dx,dd=some dx/\H dx=some (.ext (XD dx (VJ i j)))
 | .BW=>cls=.ref c.BW/\dd=none
 | .gap i j=>cls=.ref c.gap/\∃dx,dd=some dx/\H dx=some (.ext (XD dx (VJ i j)))
 | .BX=>cls=.ref c.BX/\dd=none
 | .BZ t=>cls=.ref c.BZ/\∃dx,dd=some dx/\H dx=some (.ext (XD dx [("tile",.str (S [t]))]))
 | .nw l=>cls=.ref c.nw/\∃dx,dd=some dx/\H dx=some (.ext (XD dx [("word",.str (S l))]))
def V3 {cs:List (Nat×Nat)}(h:jU cs=true):∀n,(hn:n+1<cs.length)->cs[n].1*1000+cs[n].2<cs[n+1].1*1000+cs[n+1].2:=λn hn=>by
 unfold jU at h;rw[fh]at h;have:=h (cs[n],cs[n+1]) (by
  calc bp (i:=n) ?_;rw[oS];show⟨af p_,by rw[nV,Nat.add_comm 1 n];show af hn⟩)
 show dP this
theorem Ru {cs:List (Nat×Nat)}(h:jU cs=true):∀k n,(hn:n+k+1<cs.length)->cs[n].1*1000+cs[n].2<cs[n+k+1].1*1000+cs[n+k+1].2
 | 0,n,hn=>V3 h n hn
 | k+1,n,hn=>Nat.lt_trans (Ru h k n p_) (V3 h (n+k+1) hn)
def La {ts:List bO}{r w:Nat}(w9:w<=9)(Y:∀t∈ts,inB r w t)(h0:0<ts.length)(G:jU (ts.map nR)=true)(hs:(tQ ts||tR ts)=true):Fp ts:=by
 let I:=wM h0;rw[pE]at hs;rcases hs with hs|hs
 .calc .inl ?_;unfold tQ at hs;rw[fh]at hs;rw[iE];intro i j hi D _;rw[dP (hs _ (a9 hi)),dP (hs _ (a9 D))]
 .calc .inr ?_;unfold tR at hs;rw[fh]at hs;rw[iE];intro i j hi D F;let e1:=dP (hs _ (a9 hi));let e2:=dP (hs _ (a9 D));have:=Ru G (j-i-1) i (by rw[aa];lia);simp only[show i+(j-i-1)+1=j by lia,List.getElem_map]at this;let this:ts[i].1*1000+ts[i].2.1<ts[j].1*1000+ts[j].2.1:=this;lia
def aaF {c:Nat}(h:qN c):sgN c:=by unfold qN Di Dh Gh at h;simp at h;show h
def Lb (K : W.Frag)(C CB : Addr)(c : Rt) : Sp := λvs H Q E => ∃(b k d : Addr) (ws : List (List Nat)) (bM : List Nat) (x : V) (r w : Nat) (aD aL : List (List Nat)) (bi bj : Nat), vs = [.ref b, .ref k, .str (S bM), x] /\ cG C H b r w aD aL bi bj /\ fD CB H k d ws /\ bM.length <= 63 /\
  ((∃o, LyD K H x o /\ layB r w o = false /\ ∀H', aB H H' -> E (.ref c.lay) none H') \/
   (∃(t : Addr) (as : List Addr) (ts : List bO), x = .ref t /\ H t = some (.tup (as.map V.ref)) /\ eV H as ts /\ (∀t ∈ ts, inB r w t) /\ 0<ts.length /\ ts.length <= 7 /\ jU (ts.map nR) = true /\
     (∀v cls dd H', sV aD r w bi bj ws bM ts v -> VdX c H' cls dd v -> aB H H' -> E cls dd H') /\ (sV aD r w bi bj ws bM ts .ok -> ∀H', aB H H' -> Q .non H')))
def JN {C CB:Addr}{c:Rt}(D:aM K mg "check_laying" pB ["board","book","rack","laying"])(Uu:mg "NoLaying"=some (.ref c.lay))(Yk:W.excIn K c.lay j5 "ValueError.__new__"=true)(Uv:bU P w K mg base "is_laying" 4 ["board","thing"] (aav K C))(Rv:DefX P w K mg base "check_free" 5 ["board","laying"] (Rg C c.BP))(Ho:DefX P w K mg base "check_straight" 3 ["laying"] (VR c.BW))(Rw:DefX P w K mg base "check_gaps" 10 ["board","laying"] (Rh C c.gap))(Ld:DefX P w K mg base "check_joined" 7 ["board","laying"] (Ri C c.BX))(uO:DefX P w K mg base "left_of" 3 ["rack","signs"] (JK c.BZ))(Ov:DefX P w K mg base "check_words" 12 ["board","book","laying"] (Nr C CB c.nw)):DefX P w K mg base "check_laying" 14 ["board","book","rack","laying"] (Lb K C CB c):=by
 refine D.z_ Jo (λvs H Q E h=>?_) (λf bH A outer s H vs Q E I h=>?_)
 .let⟨b,k,d,ws,bM,x,r,w,aD,aL,bi,bj,rfl,_⟩:=h;rfl
 .let⟨b,k,d,ws,bM,x,r,w,aD,aL,bi,bj,rfl,J,BK,h63,h⟩:=h;calc⟨_,(aA (cA (dG (cQ (bD Uv I.mono rK (aj aG (aj bN ao))))) (aF (GZ qL rK rK qf Uu Yk (aj (bJ [110,111,32,108,97,121,105,110,103,32,102,111,114,32,116,104,105,115,32,98,111,97,114,100] qi) ao))) bI) (aA (dD (ou Rv I.mono rK vV.all (aj aG (aj bN ao)))) (aA (dD (ou Ho I.mono rK vV.all (aj bN ao))) (aA (dD (ou Rw I.mono rK vV.all (aj aG (aj bN ao)))) (aA (dD (ou Ld I.mono rK vV.all (aj aG (aj bN ao)))) (aA (dD (ou uO I.mono rK vV.all (aj bA (aj (f9 bo c_ de qI (bJ [] qi) (aj (lX (ns:=["row","column","sign"]) rK (jM.of ["board","book","rack","laying"] [] qh) (gG bN) (λ_ _ _ _ _=>(o_ K rK (show (["row","column","sign","board","book","rack","laying"]:List Str).Nodup by decide +kernel) rK rK rK qf qf qf)) (λ_ _ _ _ _=>dX) (λ_ _ _ _ _=>bA)) ao)) ao)))) (aF (dD (ou Ov I.mono rK vV.all (aj aG (aj aW (aj bN ao)))))))))))),?_⟩;rcases h with⟨o,hD,hB,G⟩|⟨t,as,ts,rfl,ht,F,Y,h0,h7,Gj,G,q⟩
  .calc⟨_,rK,_,rK,b,x,o,r,w,aD,aL,bi,bj,rK,J,hD,λH1 s1=>⟨_,rK,?_⟩⟩;rw[hB];show cu ⟨zsz 1,G H1 s1⟩
  .let hal:=F.len;let hB:layB r w (some (ts.map mkT))=true:=by
    unfold layB;simp only;rw[Q_,aa,ai (show 1<=ts.length/\ts.length<=7 by lia),show jU (ts.map λt=>(t.1,t.2.1))=true from Gj,List.all_map];have:ts.all (uy r w ∘ mkT)=true:=fh.mpr λt ht=>acq (Y t ht);rw[this];rfl
   calc⟨_,rK,_,rK,b,.ref t,some (ts.map mkT),r,w,aD,aL,bi,bj,rK,J,.tup ht (Hh.of_lay F) (by rw[aa];lia),λH1 s1=>⟨_,rK,?_⟩⟩;rw[hB];calc bL ⟨True.intro,_,rK,_,rK,b,t,as,ts,r,w,aD,aL,bi,bj,rK,J.mv s1,s1 _ _ ht,F.mv s1,Y,λu hu dx H' s' hd=>G _ _ _ H' (.BP hu) ⟨rK,dx,rK,hd⟩ (s1.trans s'),λO H2 s2=>?_⟩;let d9:=s1.trans s2;calc⟨True.intro,_,rK,t,as,ts,rK,d9 _ _ ht,F.mv d9,h0,h7,λe H' s'=>G _ _ _ H' (.BW O e) ⟨rK,rK⟩ (d9.trans s'),λZ H3 s3=>?_⟩;let fj:=d9.trans s3;calc⟨True.intro,_,rK,_,rK,b,t,as,ts,r,w,aD,aL,bi,bj,rK,J.mv fj,fj _ _ ht,F.mv fj,Y,h0,λi j e dx H' s' hd=>G _ _ _ H' (.gap O Z e) ⟨rK,dx,rK,hd⟩ (fj.trans s'),λv3 H4 s4=>?_⟩;let gJ:=fj.trans s4;calc⟨True.intro,_,rK,_,rK,b,t,as,ts,r,w,aD,aL,bi,bj,rK,J.mv gJ,gJ _ _ ht,F.mv gJ,h7,λe H' s'=>G _ _ _ H' (.BX O Z v3 e) ⟨rK,rK⟩ (gJ.trans s'),λv4 H5 s5=>?_⟩;let zJ:=gJ.trans s5;let ht5:=zJ _ _ ht;refine⟨True.intro,_,rK,rK,_,rK,t,rK,⟨_,aN.of ht5⟩,λN hN=>j4 (K:=K) (KT:=K) (a:=t) (f:=jP [] 0) (tt:=lV) (xs:=as.map V.ref) (λn ys H6=>ys=Ts (ones ((ts.take n).map (·.2.2)))/\H6 N=some (.lst ys)/\aB H5 H6)
    ⟨rK,aq,aB.upd hN⟩ (λn ys H6 _ h=>aN.of (h.2.2 _ _ ht5)) ?_ ?_⟩
   .intro n x ys H6 hx z;let⟨rfl,sU,qP⟩:=z;let⟨hn,hx⟩:=rfg hx;let hnt:n<ts.length:=p_;let⟨_,en⟩:=jL (F.mv (zJ.trans qP)) hnt;calc vB hx.symm (aN.of en) ?_;calc⟨_,rK,sU,?_,g_.mk (by rw[aa];show hn) ⟨?_,aq,qP.dH hN⟩⟩;.rw[aa,aa,aa,av];show aK p_
    .rw[take_snoc (af hnt)];simp[Ts,ones]
   .intro ys H6 z;let⟨rfl,sU,qP⟩:=z;rw[aa,hal,cv]at sU;let B_:=zJ.trans qP;calc JA N (ones (ts.map (·.2.2))) ⟨rK,rK,bC.of sU,by rw[mF,aa];lia,?_⟩;rw[mF];refine JA bM (ts.map (·.2.2)) ⟨rK,h63,by rw[aa];lia,λc hc=>?_,λtl e dx H' s' hd=>G _ _ _ H' (.BZ O Z v3 v4 e) ⟨rK,dx,rK,hd⟩ (B_.trans s'),λleft v5 ws' H7 s7 _ _=>?_⟩
    .let⟨u,hu,rfl⟩:=bc.mp hc;show(aaF (Y u hu).2.2).lt
    let JQ:=B_.trans s7;calc⟨True.intro,_,rK,_,rK,_,rK,b,k,d,t,ws,as,ts,r,w,aD,aL,bi,bj,rK,J.mv JQ,BK.mv JQ,JQ _ _ ht,F.mv JQ,Y,h0,h7,La J.ok.w9 Y h0 Gj Z,λl e dx H' s' hd=>G _ _ _ H' (.nw O Z v3 v4 ⟨left,v5⟩ e) ⟨rK,dx,rK,hd⟩ (JQ.trans s'),λv6 H8 s8=>?_⟩;show q (.ok O Z v3 v4 ⟨left,v5⟩ v6) H8 (JQ.trans s8)
def WD (kvs:List (Key×V)):Prop:=∀j∈kvs,∃(c:Nat) (i:Int),j=(cF [c],V.int i)/\97<=c/\c<=122
def wf (kvs:List (Key×V))(c:Nat):Int:=match dZ kvs (cF [c]) with| some (.int i)=>i| _=>0
def aaG {kvs:List (Key×V)}{k:Key}{v:V}(h:dZ kvs k=some v):(k,v)∈kvs:=by
 unfold dZ at h;cases e:kvs.find? (λj=>decide (j.1=k)) with
 | none=>rw[e]at h;cases h
 | some p=>
  rw[e]at h;let h:p.2=v:=be h;let m:=List.mem_of_find?_eq_some e;let q:=List.find?_some e;let q:p.1=k:=by simpa using q
  rw[<-h,<-q];show m
def ahi {kvs:List (Key×V)}(h:WD kvs)(c:Nat):(dZ kvs (cF [c])).getD (.int 0)=.int (wf kvs c):=by
 unfold wf;cases e:dZ kvs (cF [c]) with| none=>rfl| some v=>let⟨d,i,q,_⟩:=h _ (aaG e);have:v=V.int i:=congrArg Prod.snd q;subst this;rfl
def adR {kvs:List (Key×V)}(h:WD kvs){c:Nat}(j:¬(97<=c/\c<=122)):wf kvs c=0:=by
 unfold wf;cases e:dZ kvs (cF [c]) with
 | none=>rfl
 | some v=>
  let⟨d,i,q,h1,h2⟩:=h _ (aaG e);have:cF [c]=cF [d]:=congrArg Prod.fst q;have:S [c]=S [d]:=l_ this;have:[c]=[d]:=xG this;have:c=d:=by simpa using this
  lia
def V4:Sp:=λvs H Q _=>∃(d:Addr) (kvs:List (Key×V)) (c:Nat),vs=[.ref d,.str (S [c])]/\Rd H d (.dK kvs)/\WD kvs/\Q (.int (wf kvs c)) H
def Uw (D:aM K mg "worth_of" vL ["worths","sign"]):bU P w K mg base "worth_of" 1 ["worths","sign"] V4:=by
 calc D.dh Ub (λf bH A outer s H vs Q E F h=>?_);let⟨d,kvs,c,rfl,hd,j,q⟩:=h;let G:=I_ F;calc⟨_,(aF (bf (nD (z9 nZ nZ (bJ [97] qi) aW (bJ [122] qi)) (acf G aG aW au ⟨rK,rK,rK,rK⟩) au))),?_⟩;calc⟨_,rK,[97],[c],rK,rK,decide (97<=c),by rw[Kz],?_⟩;by_cases c1:97<=c
 .rw[ai c1];calc cu (JA [c] [122] ⟨rK,rK,_,rK,?_⟩);rw[Kz];by_cases c2:c<=122
  .rw[ai c2];calc cu ⟨_,rK,d,rK,.inl ⟨_,hd⟩,_,rK,_,tE.rd (k:=cF [c]) hd,?_⟩;rw[ahi j];show q
  .rw[ag c2];calc bL ?_;let e:=adR j (c:=c) p_;rw[e]at q;show q
 .rw[ag c1];calc bL ⟨_,rK,bL ?_⟩;let e:=adR j (c:=c) p_;rw[e]at q;show q
def Rx:Sp:=λvs H Q _=>∃(a:Addr) (q:kJ) (n:Nat),vs=[.ref a,.int n]/\aap H a q/\q.2.2.1<=1/\
 ∀(t:Addr) (H':Hp),aB H H'->H' t=some (.tup [.int ((q.1+n*q.2.2.1:Nat):Int),.int ((q.2.1+n*(1-q.2.2.1):Nat):Int)])->Q (.ref t) H'
def Yl (D:aM K mg "cell_in" xR ["word","place"]):bU P w K mg base "cell_in" 1 ["word","place"] Rx:=by
 calc D.dh Xy (λf bH A outer s H vs Q E J h=>?_);obtain⟨a,⟨i,j,wy,l⟩,n,rfl,ha,I,q⟩:=h;let F:=aN.of (K:=K) ha;calc⟨_,(aF (bf (nD (bQ iQ (aY bw aG au (λ_ _=>rfl)) au (bG _)) (cR (aj (aY bw aG au (λ_ _=>rfl)) (aj (aJ cL (aY bw aG au (λ_ _=>rfl)) aW) ao))) (cR (aj (aJ cL (aY bw aG au (λ_ _=>rfl)) aW) (aj (aY bw aG au (λ_ _=>rfl)) ao)))))),?_⟩;calc⟨_,rK,a,_,_,_,rK,rK,F,aQ (j:=2) rK,?_⟩;by_cases z:wy=0
 .subst z;calc⟨rK,_,rK,cu ⟨_,rK,a,_,_,_,rK,rK,F,aQ (j:=0) rK,_,rK,a,_,_,_,rK,rK,F,aQ (j:=1) rK,_,rK,_,_,rK,rK,zsz 2,λt ht=>?_⟩⟩;calc q t _ (aB.upd ht) ?_;rw[aq];simp
 .let G:wy=1:=by simp only at I;lia
  subst G;calc⟨rK,_,rK,bL ⟨_,rK,a,_,_,_,rK,rK,F,aQ (j:=0) rK,_,rK,_,_,rK,rK,_,rK,a,_,_,_,rK,rK,F,aQ (j:=1) rK,zsz 2,λt ht=>?_⟩⟩;calc q t _ (aB.upd ht) ?_;rw[aq];simp
def Gq (c:Nat):Int:=if c=50 then 2 else if c=51 then 3 else if c=52 then 4 else 1
def Nu (c:Nat):Int:=if c=98 then 2 else if c=99 then 3 else if c=100 then 4 else 1
def V5:List (Key×V):=[(cF [50],.int 2),(cF [51],.int 3),(cF [52],.int 4)]
def V6:List (Key×V):=[(cF [98],.int 2),(cF [99],.int 3),(cF [100],.int 4)]
def V7 (a b:Nat):decide (cF [a]=cF [b])=decide (a=b):=by
 by_cases h:a=b;.subst h;simp
 .have:¬cF [a]=cF [b]:=λz=>h (by have:=xG (l_ z);simpa using this)
  rw[ag h,ag this]
def ahj (c:Nat):(dZ V5 (cF [c])).getD (.int 1)=.int (Gq c):=by
 unfold dZ V5 Gq;simp only[gv,V7];by_cases h1:c=50;.subst h1;rfl
 by_cases h2:c=51;.subst h2;rfl
 by_cases h3:c=52;.subst h3;rfl
 rw[ag (λz=>h1 z.symm),ag (λz=>h2 z.symm),ag (λz=>h3 z.symm),if_neg h1,if_neg h2,if_neg h3];rfl
def ahk (c:Nat):(dZ V6 (cF [c])).getD (.int 1)=.int (Nu c):=by
 unfold dZ V6 Nu;simp only[gv,V7];by_cases h1:c=98;.subst h1;rfl
 by_cases h2:c=99;.subst h2;rfl
 by_cases h3:c=100;.subst h3;rfl
 rw[ag (λz=>h1 z.symm),ag (λz=>h2 z.symm),ag (λz=>h3 z.symm),if_neg h1,if_neg h2,if_neg h3];rfl
def sx (q:kJ)(k:Nat):Nat:=q.1+k*q.2.2.1
def sy (q:kJ)(k:Nat):Nat:=q.2.1+k*(1-q.2.2.1)
noncomputable def Gr (M:AA)(kvs:List (Key×V))(ts:List bO)(q:kJ)(k c:Nat)(p:Int×Int):Int×Int:=if (sx q k,sy q k)∈ts.map nR then (p.1+wf kvs c*Gq (cell M (sx q k) (sy q k)),p.2*Nu (cell M (sx q k) (sy q k))) else (p.1+wf kvs c,p.2)
noncomputable def nj (M:AA)(kvs:List (Key×V))(ts:List bO)(q:kJ):Nat->Int×Int
 | 0=>(0,1)
 | n+1=>Gr M kvs ts q n (q.2.2.2.getD n 0) (nj M kvs ts q n)
noncomputable def Nv (M:AA)(kvs:List (Key×V))(ts:List bO)(q:kJ):Int:=(nj M kvs ts q q.2.2.2.length).1*(nj M kvs ts q q.2.2.2.length).2
def ahl (c:Nat):1<=Gq c/\Gq c<=4:=by
 unfold Gq;split;.lia
 split;.lia
 split <;> lia
def ahm (c:Nat):1<=Nu c/\Nu c<=4:=by
 unfold Nu;split;.lia
 split;.lia
 split <;> lia
theorem acB (M:AA)(kvs:List (Key×V))(ts:List bO)(q:kJ):∀n,1<=(nj M kvs ts q n).2/\(nj M kvs ts q n).2<=4^n
 | 0=>⟨pS _,pS _⟩
 | n+1=>by
  let⟨h1,h2⟩:=acB M kvs ts q n;show 1<=(Gr _ _ _ _ _ _ _).2/\(Gr _ _ _ _ _ _ _).2<=4^(n+1);unfold Gr;rw[Int.pow_succ];split
  .let⟨w1,w2⟩:=ahm (cell M (sx q n) (sy q n));calc⟨?_,lv h2 w2 p_ p_⟩;have:=lv h1 w1 p_ p_;simpa using this
  .calc⟨h1,?_⟩;simp only;lia
def ajB (M:AA)(kvs:List (Key×V))(ts:List bO)(q:kJ){n:Nat}(hn:n<=20):-(2^64)<(nj M kvs ts q n).2/\(nj M kvs ts q n).2<2^64:=by
 let⟨h1,h2⟩:=acB M kvs ts q n;let h3:(4:Int)^n<=4^20:=by
  have:=Nat.pow_le_pow_right (show 0<4 by decide) hn
  exact_mod_cast this
 let h4:(4:Int)^20=1099511627776:=by decide
 let h5:(2:Int)^64=18446744073709551616:=by decide
 lia
structure QIn (r w:Nat)(q:kJ):Prop where
 way:q.2.2.1<=1
 len:q.2.2.2.length<=20
 inn:∀k,k<q.2.2.2.length->sx q k<r/\sy q k<w
def Ry (C:Addr):Sp:=λvs H Q _=>∃(b d t a:Addr) (kvs:List (Key×V)) (as:List Addr) (ts:List bO) (q:kJ) (r w:Nat) (aD aL:AA) (bi bj:Nat),vs=[.ref b,.ref d,.ref t,.ref a]/\cG C H b r w aD aL bi bj/\Rd H d (.dK kvs)/\WD kvs/\H t=some (.tup (as.map V.ref))/\eV H as ts/\ts.length<=7/\aap H a q/\QIn r w q/\
 ∀H',aB H H'->Q (.int (Nv aL kvs ts q)) H'
open Classical in
def aaH {C gl gw:Addr}(D:aM K mg "word_points" qu ["board","worths","laying","word"])(qb:mg "enumerate"=none)(cj:fY K C)(Le:mg "LETTER_MARKS"=some (.ref gl))(Rz:mg "WORD_MARKS"=some (.ref gw))(kl:KDict P w K gl V5)(kw:KDict P w K gw V6)(rM:bU P w K mg base "cells_of" 1 ["laying"] yd)(aaI:bU P w K mg base "cell_in" 1 ["word","place"] Rx)(Ym:bU P w K mg base "worth_of" 1 ["worths","sign"] V4):bU P w K mg base "word_points" 2 ["board","worths","laying","word"] (Ry C):=by
 calc D.dh eG (λf bH A outer s H vs Q E hr h=>?_);let⟨b,d,t,a,kvs,as,ts,F,r,w',aD,aL,bi,bj,rfl,BA,hd,hW,ht,hL,h7,ha,hq,q⟩:=h;obtain⟨⟨dx,pr,pm,pb,hb,hpr,hpm,hpb⟩,B⟩:=BA;calc⟨_,(aA (aU (i:=4) eG.nd rK (Or.inl rK) (bD rM hr.mono rK (aj bA ao))) (aA (aU (i:=5) eG.nd rK (Or.inl rK) au) (aA (aU (i:=6) eG.nd rK (Or.inl rK) au) (aA (fP cz rK (ab2 qf qb (aj (aY bw bN au (λ_ _=>rfl)) ao)) (nY rK (bT (bF (i:=7) eG.nd rK (Or.inl rK)) (bT (bF (i:=8) eG.nd rK (Or.inl rK)) lq))) (aA (aU (i:=9) eG.nd rK (Or.inl rK) (bD aaI hr.mono rK (aj bN (aj iJ ao)))) (aA (aU (i:=10) eG.nd rK (Or.inl rK) (bD Ym hr.mono rK (aj aW (aj jZ ao)))) (aA (fU (cA (bQ (Vt hr.units) jN cJ rK) (aA (aU (i:=11) eG.nd rK (Or.inl rK) (aY zZ (aY bw (bR aG rK) (aY bw jN au (λ_ _=>rfl)) (λ_ _=>rfl)) (aY bw jN au (λ_ _=>rfl)) (λ_ _=>rfl))) (aA (aU (i:=10) eG.nd rK (Or.inl rK) (aJ iM jh (QB (zq (v:=.ref _) qf Le rK) lC au ⟨rK,rK,rK,rK⟩))) (aF (aU (i:=6) eG.nd rK (Or.inl rK) (aJ iM fG (QB (zq (v:=.ref _) qf Rz rK) lC au ⟨rK,rK,rK,rK⟩)))))) bI)) (aF (aU (i:=5) eG.nd rK (Or.inl rK) (aJ cL dF jh))))))) (aF (bf (aJ iM dF fG))))))),?_⟩;calc⟨_,rK,t,as,ts,rK,ht,hL,p_,λLc cs H1 s1 hLc hcs=>?_⟩;refine⟨_,rK,a,_,_,_,rK,rK,aN.of (s1 _ _ ha),aQ (j:=3) rK,_,rK,aaf (l:=F.2.2.2) (λn σ Z=>∃v7 v8 v9 Y I:Option V,σ=[some (.ref b),some (.ref d),some (.ref t),some (.ref a),some (.ref Lc),some (.int (nj aL kvs ts F n).1),some (.int (nj aL kvs ts F n).2),v7,v8,v9,Y,I]/\aB H1 Z)
  (JJ none none none none none ⟨rK,aB.refl _⟩) ?_ ?_⟩
 .intro n c σ Z T hc z hT;let⟨v7,v8,v9,Y,I,rfl,s2⟩:=z;let hn:n<F.2.2.2.length:=(ah.mp hc).1;let⟨hx,hy⟩:=hq.inn n hn;let kT:aB Z (upd Z T (HO.tup [.int n,.str (S [c])])):=aB.upd hT;calc JA T _ ⟨rK,aN.of aq,rK,_,_,rK,_,_,rK,rK,?_⟩;let s3:=(s1.trans s2).trans kT;let Nx:=s2.trans kT;generalize upd Z T (HO.tup [.int n,.str (S [c])])=H3 at kT s3 Nx ⊢;calc⟨_,rK,_,rK,a,F,n,rK,s3 _ _ ha,hq.way,λg H4 s4 hg=>?_⟩;let O:=s3.trans s4;calc⟨_,rK,_,rK,d,kvs,c,rK,hd.mv O,hW,?_⟩;let gi:sx F n<aL.length:=by rw[B.bm.len];show hx
  let hwi:aL[sx F n].length=w':=B.bm.rH _ (a9 _);let gj:sy F n<aL[sx F n].length:=by rw[hwi];show hy
  let J:aL.getD (sx F n) []=aL[sx F n]:=by rw[aw,af gi];rfl
  let w9:=B.w9;let hgd:F.2.2.2.getD n 0=c:=by rw[aw,hc];rfl
  let G:nj aL kvs ts F (n+1)=Gr aL kvs ts F n c (nj aL kvs ts F n):=by rw[<-hgd];rfl
  let hg:H4 g=some (.tup [.int (sx F n:Nat),.int (sy F n:Nat)]):=hg;refine⟨λσ H'=>∃(wv:Int) (u11:Option V),σ=[some (.ref b),some (.ref d),some (.ref t),some (.ref a),some (.ref Lc),some (.int (nj aL kvs ts F n).1),some (.int (nj aL kvs ts F (n+1)).2),some (.int n),some (.str (S [c])),some (.ref g),some (.int wv),u11]/\aB H1 H'/\(nj aL kvs ts F n).1+wv=(nj aL kvs ts F (n+1)).1,?_,?_⟩
  .let K1:=hcs.mv (Nx.trans s4);calc⟨_,rK,_,rK,2,.tup [.int (sx F n:Nat),.int (sy F n:Nat)],(ts.map nR).map λc=>Dt.tup [.int c.1,.int c.2],qc,.tup (aN.of hg) (.cons (.int _) (.cons (.int _) .nil)),.lst (bC.of ((Nx.trans s4) _ _ hLc)) (dN.ofP K1),?_⟩;simp only[fS,if_false];by_cases hm:(sx F n,sy F n)∈ts.map nR
   .rw[ai (JG (c:=(sx F n,sy F n)).mpr hm)];calc⟨_,rK,cu ⟨_,rK,b,C,dx,_,_,rK,O _ _ hb,cj.cl,cj.nm,rK,_,rK,g,_,_,_,rK,rK,aN.of hg,aQ (j:=0) rK,pm,_,_,.str (S (aL.getD (sx F n) [])),rK,rK,aN.of (O _ _ hpm),aQ ?_,_,rK,g,_,_,_,rK,rK,aN.of hg,aQ (j:=1) rK,?_⟩⟩;.rw[J];show nQ (af gi)
    generalize hmm:cell aL (sx F n) (sy F n)=m;calc JE _ _ m ⟨rK,rK,ap (aK (by rw[J,hwi];lia)),aQ (by rw[<-hmm,J,cell_eq gi gj];show af gj),?_⟩;let⟨l1,l2⟩:=ahl m;let⟨w1,w2⟩:=ahm m;let e:nj aL kvs ts F (n+1)=((nj aL kvs ts F n).1+wf kvs c*Gq m,(nj aL kvs ts F n).2*Nu m):=by rw[G];unfold Gr;rw[if_pos hm,hmm]
    calc⟨_,rK,gl,V5,rK,kl,_,rK,cF [m],rK,_,Gq m,rK,ahj m,.inr ⟨p_,p_⟩,?_⟩;calc⟨_,rK,gw,V6,rK,kw,_,rK,cF [m],rK,_,Nu m,rK,ahk m,.inr ⟨p_,p_⟩,?_⟩;calc JA (wf kvs c*Gq m) (some (.str (S [m]))) ⟨?_,Nx.trans s4,?_⟩;.rw[e];rfl
    .rw[e]
   .rw[ag (λz=>hm (JG (c:=(sx F n,sy F n)).mp z))];let e:nj aL kvs ts F (n+1)=((nj aL kvs ts F n).1+wf kvs c,(nj aL kvs ts F n).2):=by rw[G];unfold Gr;rw[if_neg hm]
    calc⟨_,rK,bL (JA (wf kvs c) I ⟨?_,Nx.trans s4,?_⟩)⟩;.rw[e];rfl
    .rw[e]
  .intro σ H' z;let⟨wv,u11,rfl,s5,ew⟩:=z;calc⟨_,rK,_,rK,_,_,rK,rK,?_⟩;show JJ _ _ _ _ _ ⟨by rw[<-ew];rfl,s5⟩
 .intro σ Z z;let⟨v7,v8,v9,Y,I,rfl,s2⟩:=z;calc⟨_,rK,_,rK,_,_,rK,rK,?_⟩;show⟨.inr (ajB _ _ _ _ hq.len),q _ (s1.trans s2)⟩
def V8 {r w:Nat}{R:AA}(hb:Blk r w R)(r9:r<=9)(w9:w<=9){i j wy:Nat}(hi:i<r)(J:j<w)(I:wy<=1):QIn r w (tM R i j wy):=by
 calc⟨I,G9 hb r9 w9 hi,λk F=>?_⟩;let D:=vO hb hi (j:=j) (way:=(wy:Int));let F:k<(iz ((lineOf R i j (wy:Int)).take (placeOf i j (wy:Int)))++jA ((lineOf R i j (wy:Int)).drop (placeOf i j (wy:Int)))).length:=F;rw[ay]at F;let a1:=qO ((lineOf R i j (wy:Int)).take (placeOf i j (wy:Int)));let a2:=xX ((lineOf R i j (wy:Int)).drop (placeOf i j (wy:Int)));rw[av]at a1;rw[ba]at a2;unfold sx sy;by_cases z:wy=0
 .subst z;let ep:placeOf i j ((0:Nat):Int)=j:=if_pos rfl;rw[ep]at F a1 a2;let D:(lineOf R i j ((0:Nat):Int)).length=w:=by rw[D];show if_pos rfl
  rw[D]at a1 a2;show i+k*0<r/\(j-(iz ((lineOf R i j ((0:Nat):Int)).take j)).length)+k*(1-0)<w;lia
 .let G:wy=1:=p_;subst G;let ep:placeOf i j ((1:Nat):Int)=i:=if_neg qc;rw[ep]at F a1 a2;let D:(lineOf R i j ((1:Nat):Int)).length=r:=by rw[D];show if_neg qc
  rw[D]at a1 a2;show (i-(iz ((lineOf R i j ((1:Nat):Int)).take i)).length)+k*1<r/\j+k*(1-1)<w;lia
def RB {r w:Nat}{aD:AA}(hb:Blk r w aD)(r9:r<=9)(w9:w<=9){ts:List bO}(Y:∀t∈ts,inB r w t){q:kJ}(h:q∈jK aD ts):QIn r w q:=by
 unfold jK at h;let⟨a,ha,rfl⟩:=bc.mp (hJ.mp h).1;let j:=tL hb Y;let Z:=aaq ts;rcases bu.mp ha with z|z
 .let⟨u,D,rfl⟩:=bc.mp z;let⟨h1,h2,_⟩:=Y u (cy D);show V8 j r9 w9 h1 h2 Z
 .let⟨u,D,rfl⟩:=bc.mp z;let⟨h1,h2,_⟩:=Y u D;show V8 j r9 w9 h1 h2 (show 1-ni ts<=1 by lia)
def ahn {kvs:List (Key×V)}{c0:Nat}{i:Int}(c:Nat):wf (putK kvs (cF [c0]) (.int i)) c=if c=c0 then i else wf kvs c:=by
 unfold wf;rw[abI];by_cases h:c=c0;.rw[if_pos h,if_pos (by rw[h])]
 .rw[if_neg h,if_neg (λz=>h (by have:=xG (l_ z);simpa using this))]
def WD.put {kvs:List (Key×V)}(h:WD kvs){c:Nat}(i:Int)(h1:97<=c)(h2:c<=122):WD (putK kvs (cF [c]) (.int i)):=by
 unfold putK;intro j m;split at m
 .let⟨p,hp,rfl⟩:=bc.mp m;split
  .rename_i e;show JA c i ⟨by rw[e],h1,h2⟩
  .show h p hp
 .rcases bu.mp m with m|m;.show h j m
  .rw[a_.mp m];show JA c i ⟨rK,h1,h2⟩
def WB (b:Int)(kvs:List (Key×V)):Prop:=∀c,0<=wf kvs c/\wf kvs c<=b
def WB.put {b:Int}{kvs:List (Key×V)}(h:WB b kvs){c:Nat}{i:Int}(h1:0<=i)(h2:i<=b):WB b (putK kvs (cF [c]) (.int i)):=λe=>by
 rw[ahn];split;.show⟨h1,h2⟩
 .show h e
def V9:Sp:=λvs H Q _=>∃(pb t:Addr) (as:List Addr) (n m:Int),vs=[.ref pb,.ref t]/\H pb=some (.tup [.int n,.int m])/\H t=some (.tup (as.map V.ref))/\Q (.int (if n<=(as.length:Int) then m else 0)) H
def Ux (D:aM K mg "bonus_of" vM ["bonus","laying"])(G:mg "len"=none):bU P w K mg base "bonus_of" 1 ["bonus","laying"] V9:=by
 calc D.dh Uc (λf bH A outer s H vs Q E I h=>?_);let⟨pb,t,as,n,m,rfl,F,ht,q⟩:=h;calc⟨_,(aF (bf (nD (bQ Ew (aO bY qf G aE (aj aW ao)) (aY bw aG au (λ_ _=>rfl)) (bG _)) (aY bw aG au (λ_ _=>rfl)) au))),?_⟩;calc⟨_,rK,t,_,rK,.inr (aN.of ht),_,rK,pb,_,_,_,rK,rK,aN.of F,aQ (j:=0) rK,_,_,rK,rK,_,rK,?_⟩;rw[aa];by_cases c:n<=(as.length:Int)
 .rw[if_pos c]at q;rw[ai c];show cu ⟨_,rK,pb,_,_,_,rK,rK,aN.of F,aQ (j:=1) rK,q⟩
 .rw[if_neg c]at q;rw[ag c];show bL q
theorem aho {M:AA}{kvs:List (Key×V)}{ts:List bO}{q:kJ}(j:WB 1000000 kvs):∀n,0<=(nj M kvs ts q n).1/\(nj M kvs ts q n).1<=4000000*(n:Int)
 | 0=>⟨pS _,by show (0:Int)<=4000000*0;decide⟩
 | n+1=>by
  let⟨h1,h2⟩:=aho (M:=M) (ts:=ts) (q:=q) j n;let⟨b1,b2⟩:=j (q.2.2.2.getD n 0);show 0<=(Gr _ _ _ _ _ _ _).1/\(Gr _ _ _ _ _ _ _).1<=4000000*((n+1:Nat):Int)
  unfold Gr;split
  .let⟨w1,w2⟩:=ahl (cell M (sx q n) (sy q n));let m1:=Int.mul_nonneg b1 (show 0<=Gq (cell M (sx q n) (sy q n)) by lia);let m2:=lv b2 w2 p_ qc;simp only;lia
  .simp only;lia
def ajC {M:AA}{kvs:List (Key×V)}{ts:List bO}{q:kJ}{r w:Nat}(D:WB 1000000 kvs)(j:QIn r w q)(r9:r<=9)(w9:w<=9):-1000000000000000<=Nv M kvs ts q/\Nv M kvs ts q<=1000000000000000:=by
 let hl:q.2.2.2.length<=9:=by
  rcases lh q.2.2.2.length with z|z;.lia
  let h:=j.inn (q.2.2.2.length-1) p_;let hw:=j.way;unfold sx sy at h;by_cases c:q.2.2.1=0;.rw[c]at h;lia
  .rw[show q.2.2.1=1 by lia]at h;lia
 unfold Nv;let⟨h1,h2⟩:=aho (M:=M) (ts:=ts) (q:=q) D q.2.2.2.length;let⟨h3,h4⟩:=acB M kvs ts q q.2.2.2.length;let h5:(4:Int)^q.2.2.2.length<=4^9:=by
  have:=Nat.pow_le_pow_right (show 0<4 by decide) hl
  exact_mod_cast this
 let F:(4:Int)^9=262144:=by decide
 rw[F]at h5;let h7:=Int.mul_nonneg h1 (show 0<=(nj M kvs ts q q.2.2.2.length).2 by lia);let G:=lv (show (nj M kvs ts q q.2.2.2.length).1<=36000000 by lia) (show (nj M kvs ts q q.2.2.2.length).2<=262144 by lia) p_ qc;lia
noncomputable def Yn (aD aL:AA)(kvs:List (Key×V))(ts:List bO)(n m:Int):Int:=((jK aD ts).map (Nv aL kvs ts)).sum+if n<=(ts.length:Int) then m else 0
def Yo (C:Addr):Sp:=λvs H Q _=>∃(b d pb t:Addr) (kvs:List (Key×V)) (n m:Int) (as:List Addr) (ts:List bO) (r w:Nat) (aD aL:AA) (bi bj:Nat),vs=[.ref b,.ref d,.ref pb,.ref t]/\cG C H b r w aD aL bi bj/\Rd H d (.dK kvs)/\WD kvs/\WB 1000000 kvs/\H pb=some (.tup [.int n,.int m])/\H t=some (.tup (as.map V.ref))/\eV H as ts/\(∀t∈ts,inB r w t)/\0<ts.length/\ts.length<=7/\Fp ts/\
 ∀H',aB H H'->Q (.int (Yn aD aL kvs ts n m)) H'
def RD {C:Addr}(D:aM K mg "points_of" uo ["board","worths","bonus","laying"])(JR:mg "sum"=none)(Hl:bU P w K mg base "formed" 10 ["board","laying"] (G_ C))(Ow:bU P w K mg base "word_points" 2 ["board","worths","laying","word"] (Ry C))(Yp:bU P w K mg base "bonus_of" 1 ["bonus","laying"] V9):bU P w K mg base "points_of" 11 ["board","worths","bonus","laying"] (Yo C):=by
 calc D.dh C_ (λf bH A outer s H vs Q E hr h=>?_);let⟨b,d,pb,t,kvs,n,m,as,ts,r,w,aD,aL,bi,bj,rfl,I,hd,hW,hB,hpb,ht,Z,Y,h0,h7,hl1,q⟩:=h;calc⟨_,(aA (Vn (ix:=4) (ns:=["word"]) C_.nd rK (Or.inl rK) rK (jM.of ["board","worths","bonus","laying","counted"] [] qh) (gG (bD Hl hr.mono rK (aj aG (aj bN ao)))) (λ_ _ _ _ _=>(Kp (show (["word","board","worths","bonus","laying","counted"]:List Str).Nodup by decide +kernel) rK qf)) (λ_ _ _ _ _=>dX) (λ_ _ _ _ _=>(bD Ow hr.mono rK (aj aW (aj bA (aj cJ (aj aG ao))))))) (aF (bf (aJ cL (aO (aah rK) qf JR PyProof.Rows.boot_sum (aj cJ ao)) (bD Yp hr.mono rK (aj bA (aj bN ao))))))),?_⟩;calc⟨_,rK,_,rK,b,t,as,ts,r,w,aD,aL,bi,bj,rK,I,ht,Z,Y,h0,h7,hl1,λT bs H1 s1 hT hQ=>?_⟩;let hql:=JM (aD:=aD) h7;let Q7:bs.length=(jK aD ts).length:=hQ.len;refine⟨T,rK,⟨_,aN.of hT⟩,λM hM=>Jd (K:=K) (a:=T) (f:=jP [] 0) (tt:=lV) (xs:=bs.map V.ref) (λi ys G=>ys=((jK aD ts).take i).map (λq=>V.int (Nv aL kvs ts q))/\G M=some (.lst ys)/\aB H1 G)
  ⟨rK,aq,aB.upd hM⟩ (λi ys G _ h=>aN.of (h.2.2 _ _ hT)) ?_ ?_⟩
 .intro i x ys G hx z;let⟨rfl,J,s2⟩:=z;let⟨hi,hx⟩:=rfg hx;let hiw:i<(jK aD ts).length:=p_;subst hx;let⟨qq,eq,O⟩:=(hQ.mv s2).get hi;let hB2:=I.1;let⟨_,F⟩:=id I;let hqi:=RB F.br F.r9 F.w9 Y (bp eq);let j:=s1.trans s2;calc adH ⟨_,rK,_,rK,_,rK,_,rK,b,d,t,bs[i],kvs,as,ts,qq,r,w,aD,aL,bi,bj,rK,I.mv j,hd.mv j,hW,j _ _ ht,Z.mv j,h7,O,hqi,λH3 s3=>?_⟩;calc⟨s3 _ _ J,by rw[aa,av];show aK p_,g_.mk (by rw[aa];show hi) ⟨?_,aq,(s2.trans s3).dH hM⟩⟩;rw[cw,eq,bz];rfl
 .intro ys G z;let⟨rfl,J,s2⟩:=z;rw[aa,Q7,cv]at J;let⟨_,F⟩:=id I;let j:=s1.trans s2;let ajD:G M=some (.lst (((jK aD ts).map (Nv aL kvs ts)).map V.int)):=by rw[gc];show J
  refine⟨_,rK,M,(jK aD ts).map (Nv aL kvs ts),rK,bC.of ajD,by rw[aa];lia,λx hx=>?_,_,rK,_,rK,pb,t,as,n,m,rK,j _ _ hpb,j _ _ ht,_,_,rK,rK,?_⟩
  .let⟨qq,hq,rfl⟩:=bc.mp hx;show ajC hB (RB F.br F.r9 F.w9 Y hq) F.r9 F.w9
  .rw[Z.len];show q G j
def RG {a b:AA}(p:a.Perm b)(h1:a.Pairwise (λx y=>decide (y<x)=false))(h2:b.Pairwise (λx y=>decide (y<x)=false)):a=b:=p.eq_of_pairwise (le:=λx y=>decide (y<x)=false) (λx y _ _ j D=>List.le_antisymm (List.not_lt.mp (j3 j)) (List.not_lt.mp (j3 D))) h1 h2
def Lg {xs:List V}{b:Nat}(h:b<=xs.length):gQ xs none (some (b:Int))=xs.take b:=by unfold gQ;rw[HT.lg,HT.tu,fF h];simp
def Dp {xs:List V}{a:Nat}(h:a<=xs.length):gQ xs (some (a:Int)) none=xs.drop a:=by unfold gQ;rw[HT.lg,HT.tu,fF h,ce (by rw[ba];lia)]
def dJ (l:List Nat):List Nat:=l.mergeSort (λa b=>decide (a<=b))
def jX (l:List Nat):(dJ l).Perm l:=List.mergeSort_perm _ _
def ahp {a b:Nat}:(decide ([b]<[a])=false)↔a<=b:=by rw[decide_eq_false_iff_not,ii];simp
def RJ (l:List Nat):((dJ l).map λc=>[c]).Pairwise (λa b=>decide (b<a)=false):=by rw[List.pairwise_map];have:=List.pairwise_mergeSort (le:=λa b:Nat=>decide (a<=b)) (λa b c h1 h2=>by simp at *;lia) (λa b=>by simp;lia) l;show this.imp λh=>ahp.mpr (dP h)
def wN {l:List Nat}{ws:AA}(pm:ws.Perm (l.map λc=>[c]))(pw:ws.Pairwise (λa b=>decide (b<a)=false)):ws.flatten=dJ l:=by let e:=RG (pm.trans ((jX l).map λc=>[c]).symm) pw (RJ l);rw[e];show mF _
def aaJ {a b:List Nat}(h:a.Perm b):dJ a=dJ b:=by
 let e:=RG (((jX a).trans (h.trans (jX b).symm)).map λc=>[c]) (RJ a) (RJ b);have:=congrArg List.flatten e
 rwa [mF,mF]at this
def Ph:Sp:=λvs H Q _=>∃l:List Nat,vs=[.str (S l)]/\l.length<64/\∀H',aB H H'->Q (.str (S (dJ l))) H'
def Uy (D:aM K mg "in_order" vN ["tiles"])(Y:mg "sorted"=none):bU P w K mg base "in_order" 1 ["tiles"] Ph:=by
 calc D.dh Ud (λf bH A outer s H vs Q E F h=>?_);let⟨l,rfl,j,q⟩:=h;calc⟨_,(aF (bf (f9 bo c_ de qI (bJ [] qi) (aj (aO (uW rK) qf Y f8 (aj aG ao)) ao)))),?_⟩;calc⟨rK,_,rK,l,rK,j,λp ls hp pm pw=>?_⟩;calc JA p (ls.map λc=>[c]) ⟨rK,rK,bC.of aq,?_,?_⟩;.rw[mF,pm.length_eq];lia
 .rw[wN (pm.map λc=>[c]) pw];show q _ (aB.upd hp)
def RK:Sp:=λvs H Q _=>∃(a:Addr) (xs:List V) (i:Nat) (v:V),vs=[.ref a,.int i,v]/\H a=some (.tup xs)/\i<xs.length/\xs.length<=63/\∀p H',aB H H'->H' p=some (.tup (xs.set i v))->Q (.ref p) H'
def RL (D:aM K mg "exchanged" uw ["things","place","thing"]):bU P w K mg base "exchanged" 1 ["things","place","thing"] RK:=by
 calc D.dh QH (λf bH A outer s H vs Q E hr h=>?_);let⟨a,xs,i,v,rfl,ha,hi,Y,q⟩:=h;calc⟨_,(aF (bf (aJ vW (aJ vW (dj vX aG eE (dI aW)) (cR (aj bA ao))) (dj vX aG (dI (aJ cL aW au)) eE)))),?_⟩;calc⟨_,rK,_,rK,_,rK,a,xs,rK,ha,λp1 H1 s1 h1=>?_⟩;calc⟨_,rK,zsz 1,λp2 J=>?_⟩;let e2:upd H1 p2 (HO.tup [v]) p2=some (.tup [v]):=aq;let s2:aB H1 (upd H1 p2 (HO.tup [v])):=aB.upd J;generalize upd H1 p2 (HO.tup [v])=H2 at e2 s2 ⊢;let F:(gQ xs none (some (i:Int)))=xs.take i:=Lg p_;let j:(gQ xs (some ((i:Int)+1)) none)=xs.drop (i+1):=Dp (a:=i+1) p_;rw[F]at h1;calc JI p1 p2 _ _ ⟨rK,rK,aN.of (s2 _ _ h1),aN.of e2,?_,λ_=>e2,λz=>absurd z qa,λp3 H3 I h3=>?_⟩;.rw[av];show ap (aK (by simp;lia))
 calc⟨_,rK,_,rK,_,_,rK,rK,_,rK,a,xs,rK,I _ _ (s2 _ _ (s1 _ _ ha)),λp4 H4 G h4=>?_⟩;rw[j]at h4;calc JI p3 p4 _ _ ⟨rK,rK,aN.of (G _ _ h3),aN.of h4,?_,λz=>by simp at z,λ_ _=>G _ _ h3,λp5 O Z h5=>?_⟩;.rw[ay,av,ba];show ap (aK (by simp;lia))
 calc q p5 O ((((s1.trans s2).trans I).trans G).trans Z) ?_;rw[h5,iF,if_pos hi];simp
def Yq {X:Cx}{S:St->Prop}:zu (CK X.prog X.w) X (λ_ _ _=>False) S:=λ_ _ _ _ _ _ _ _ ⟨_,_,_,_,_,_,_,z⟩=>z.elim
noncomputable def pO:List Nat->List Nat->Option (List Nat)
 | l,[]=>some l
 | l,c::cs=>if gR c∈l then pO (l.erase (gR c)) cs else none
theorem tU (c:Nat):∀l:List Nat,(l.map λc=>[c]).erase [c]=(l.erase c).map λc=>[c]
 | []=>rfl
 | a::l=>by
  rw[cf,List.erase_cons,List.erase_cons];by_cases e:a=c;.subst e;simp
  .rw[if_neg (by simpa using e),if_neg (by simpa using e),tU c l];rfl
theorem RM:∀{cs l j:List Nat},pO l cs=some j->zH (l.map λc=>[c]) cs=.inr (j.map λc=>[c])
 | [],l,j,h=>by cases h;rfl
 | c::cs,l,j,h=>by
  unfold pO at h;split at h
  .rename_i hm;unfold zH;rw[if_pos (bc.mpr ⟨_,hm,rK⟩),tU];show RM h
  .cases h
theorem zK:∀{cs l j:List Nat},pO l cs=some j->j.length+cs.length=l.length
 | [],l,j,h=>by cases h;rfl
 | c::cs,l,j,h=>by
  unfold pO at h;split at h
  .rename_i hm;have:=zK h;rw[List.length_erase_of_mem hm]at this;have:=List.length_pos_of_mem hm;simp only[dq];lia
  .cases h
theorem zL:∀{cs l j:List Nat},pO l cs=some j->∀c∈j,c∈l
 | [],l,j,h=>by cases h;show λ_ h=>h
 | c::cs,l,j,h=>by
  unfold pO at h;split at h;.show λd hd=>List.mem_of_mem_erase (zL h d hd)
  .cases h
def RN:Sp:=λvs H Q _=>∃(bM l:List Nat) (t:Addr) (as:List Addr) (ts:List bO),vs=[.str (S bM),.ref t]/\H t=some (.tup (as.map V.ref))/\eV H as ts/\ts.length<=7/\bM.length<=63/\(∀t∈ts,sgN t.2.2)/\pO bM (ts.map (·.2.2))=some l/\∀H',aB H H'->Q (.str (S (dJ l))) H'
def Lh {C:Addr}(D:aM K mg "left_behind" qw ["rack","laying"])(uO:DefX P w K mg base "left_of" 3 ["rack","signs"] (JK C)):bU P w K mg base "left_behind" 4 ["rack","laying"] RN:=by
 calc D.dh Ky (λf bH A outer s H vs Q E hr h=>?_);let⟨bM,l,t,as,ts,rfl,ht,hL,h7,Z,O,JT,q⟩:=h;let Y:=hL.len;calc⟨_,(aF (bf (ou uO hr.mono rK (Yq (S:=λ_=>True)) (aj aG (aj (f9 bo c_ de qI (bJ [] qi) (aj (lX (ns:=["row","column","sign"]) rK (jM.of ["rack","laying"] [] qh) (gG aW) (λ_ _ _ _ _=>(o_ K rK (show (["row","column","sign","rack","laying"]:List Str).Nodup by decide +kernel) rK rK rK qf qf qf)) (λ_ _ _ _ _=>dX) (λ_ _ _ _ _=>bA)) ao)) ao))))),?_⟩;refine⟨True.intro,_,rK,rK,_,rK,t,rK,⟨_,aN.of ht⟩,λN hN=>j4 (K:=K) (KT:=K) (a:=t) (f:=jP [] 0) (tt:=lV) (xs:=as.map V.ref) (λn ys F=>ys=Ts (ones ((ts.take n).map (·.2.2)))/\F N=some (.lst ys)/\aB H F)
  ⟨rK,aq,aB.upd hN⟩ (λn ys F _ h=>aN.of (h.2.2 _ _ ht)) ?_ ?_⟩
 .intro n x ys F hx z;let⟨rfl,J,I⟩:=z;let⟨hn,hx⟩:=rfg hx;let j:n<ts.length:=p_;let⟨_,en⟩:=jL (hL.mv I) j;calc vB hx.symm (aN.of en) ?_;calc⟨_,rK,J,?_,g_.mk (by rw[aa];show hn) ⟨?_,aq,I.dH hN⟩⟩;.rw[aa,aa,aa,av];show aK p_
  .rw[show ts.take (n+1)=ts.take n++[ts[n]] by rw[cw,af j];rfl];simp only[Ts,ones,bz];rfl
 .intro ys F z;let⟨rfl,J,I⟩:=z;rw[aa,Y,cv]at J;calc JA N (ones (ts.map (·.2.2))) ⟨rK,rK,bC.of J,by rw[mF,aa];lia,?_⟩;rw[mF];let G:=RM JT;refine JA bM (ts.map (λt:bO=>t.2.2)) ⟨rK,Z,(by rw[aa];lia),(λc hc=>?_),(λt e=>?_),(λleft e ws H7 s7 pm pw=>?_)⟩
  .let⟨u,hu,rfl⟩:=bc.mp hc;show(O u hu).lt
  .rw[G]at e;cases e
  rw[G]at e;cases e;rw[wN pm pw];show q H7 (I.trans s7)
def oM (c:Nat):Prop:=isLet c\/c=63
def oM.lt {c:Nat}(h:oM c):c<128:=by
 rcases h with h|h;.have:=h.2;lia
 .lia
def V_:Sp:=λvs H Q _=>∃l:List Nat,vs=[.str (S l)]/\l≠[]/\l.length<=63/\(∀c∈l,oM c)/\∀H',aB H H'->Q (.bl true) H'
def RP (D:aM K mg "are_tiles" uq ["thing"])(bh:mg "isinstance"=none)(pC:mg "str"=none)(fH:mg "all"=none)(Y:∃t,mg "BLANK"=some (.str (S [63]) t)):bU P w K mg base "are_tiles" 1 ["thing"] V_:=by
 calc D.dh Dc (λf bH A outer s H vs Q E hr h=>?_);let⟨l,rfl,J,h63,ht,q⟩:=h;calc⟨_,(aA (cA (QW.qt (je (dG (cQ (aO cP qf bh aS (aj aG (aj (fu (v:=.ty "str") qf pC ij rK) ao))))) (iR (bQ jF aG (bJ [] qi) (bG _))))) (aF (bf h_)) bI) (aF (bf (aO (jV rK) qf fH jJ (aj (jO rK (jf.of Dc.nd qh) (rm aG) (λ_ _ _ _ _=>dX) (λ_ _ _ _ _=>(O8 (d_ jF aG (uc qf Y) (bG _)) (jg (lW nZ nZ (bJ [97] qi) aG (bJ [122] qi)))))) ao))))),?_⟩;calc⟨_,rK,_,_,_,true,rK,.str _,qh,true,rK,bL ⟨_,rK,l,[],rK,rK,_,rK,?_⟩⟩;rw[ag J];refine bL ⟨_,rK,l,rK,λL Z=>wu (λi ys j=>ys=(List.replicate i true).map V.bl/\j L=some (.lst ys)/\aB H j) ⟨rK,aq,aB.upd Z⟩ ?_ ?_⟩
 .intro i c ys j hi z;let⟨rfl,F,I⟩:=z;let O:i<l.length:=(ah.mp hi).1;let G:∀b,b=true->j L=some (.lst ((List.replicate i true).map V.bl))/\((List.replicate i true).map V.bl).length<sizeLine/\g_ l.length i ((List.replicate i true).map V.bl++[V.bl b]=(List.replicate (i+1) true).map V.bl/\upd j L (.lst ((List.replicate i true).map V.bl++[V.bl b])) L=some (.lst ((List.replicate i true).map V.bl++[V.bl b]))/\aB H (upd j L (.lst ((List.replicate i true).map V.bl++[V.bl b])))):=λb hb=>by
   subst hb;show⟨F,by rw[aa,cq];show aK p_,g_.mk O ⟨wI i,aq,I.dH Z⟩⟩
  calc⟨_,rK,[c],[63],rK,rK,_,rK,?_⟩;rcases ht c (bp hi) with h|h
  .let⟨a1,a2⟩:=aay h;let h3:¬([c]=[63]):=λz=>by injection z with z;subst z;have:=h.1;lia
   rw[ag h3];show bL ⟨_,rK,[97],[c],rK,rK,true,by rw[a1];rfl,cu (JA [c] [122] ⟨rK,rK,G _ (by rw[a2];rfl)⟩)⟩
  .subst h;rw[ai rfl];show cu (G _ rK)
 .intro ys j z;let⟨rfl,F,I⟩:=z;calc JA L (List.replicate l.length true) ⟨rK,bC.of F,?_⟩;rw[zA];show q j I
inductive dz
 | lay (ts:List bO)|swap (l:List Nat)|pass
def jd:List Nat:=[108,97,121]
def ig:List Nat:=[115,119,97,112]
def fJ:List Nat:=[112,97,115,115]
def dz.name:dz->List Nat
 | .lay _=>jd
 | .swap _=>ig
 | .pass=>fJ
def uP (H:Hp)(p:Addr):dz->Prop
 | .lay ts=>∃t as,H p=some (.tup [.str (S jd),.ref t])/\H t=some (.tup (as.map V.ref))/\eV H as ts
 | .swap l=>H p=some (.tup [.str (S ig),.str (S l)])
 | .pass=>H p=some (.tup [.str (S fJ)])
theorem uP.mv {H H':Hp}{p:Addr}(s:aB H H'):∀{d:dz},uP H p d->uP H' p d
 | .lay _,⟨t,as,h1,h2,h3⟩=>(JA t as ⟨s _ _ h1,s _ _ h2,h3.mv s⟩)
 | .swap _,h=>s _ _ h
 | .pass,h=>s _ _ h
def aaK:Sp:=λvs H Q _=>∃(p:Addr) (d:dz),vs=[.ref p]/\uP H p d/\(∀l,d=.swap l->l≠[]/\l.length<=63/\∀c∈l,oM c)/\∀H',aB H H'->Q (.bl true) H'
open Classical in
def Yr (D:aM K mg "is_deed" xT ["thing"])(J:mg "isinstance"=none)(cD:mg "tuple"=none)(bB:mg "len"=none)(Uz:bU P w K mg base "are_tiles" 1 ["thing"] V_):bU P w K mg base "is_deed" 2 ["thing"] aaK:=by
 calc D.dh Xz (λf bH A outer s H vs Q E F h=>?_);let⟨p,d,rfl,hd,hs,q⟩:=h;calc⟨_,(aA (cA (dG (cQ (aO cP qf J aS (aj aG (aj (fu (v:=.ty "tuple") qf cD ck rK) ao))))) (aF (bf h_)) bI) (aA (cA (bQ iQ (aO bY qf bB aE (aj aG ao)) au (bG _)) (aF (bf (O8 (d_ jF (aY bw aG au (λ_ _=>rfl)) (bJ [108,97,121] qi) (bG _)) (jg (jG (d_ jF (aY bw aG au (λ_ _=>rfl)) (bJ [115,119,97,112] qi) (bG _)) (jg (bD Uz F.mono rK (aj (aY bw aG au (λ_ _=>rfl)) ao)))))))) bI) (aF (bf (d_ (Cy F.units) aG (cR (aj (bJ [112,97,115,115] qi) ao)) (bG _)))))),?_⟩;cases d with
 | lay ts=>let⟨t,as,h1,h2,h3⟩:=hd;calc⟨_,rK,_,_,_,true,rK,.tup h1,qh,true,rK,bL ?_⟩;calc⟨_,rK,p,_,rK,.inr (aN.of h1),rK,true,qa,cu ?_⟩;calc⟨_,rK,p,_,_,.str (S jd),rK,rK,aN.of h1,aQ (j:=0) rK,jd,jd,rK,rK,true,by rw[ai rfl],cu ?_⟩;show q H (aB.refl _)
 | swap l=>have h1:H p=some (.tup [.str (S ig),.str (S l)]):=hd;let⟨Y,g2,O⟩:=hs l rfl;calc⟨_,rK,_,_,_,true,rK,.tup h1,qh,true,rK,bL ?_⟩;calc⟨_,rK,p,_,rK,.inr (aN.of h1),rK,true,qa,cu ?_⟩;calc⟨_,rK,p,_,_,.str (S ig),rK,rK,aN.of h1,aQ (j:=0) rK,ig,jd,rK,rK,false,by rw[ag qc],bL ?_⟩;calc⟨_,rK,p,_,_,.str (S ig),rK,rK,aN.of h1,aQ (j:=0) rK,ig,ig,rK,rK,true,by rw[ai rfl],cu ?_⟩;show⟨_,rK,p,_,_,.str (S l),rK,rK,aN.of h1,aQ (j:=1) rK,l,rK,Y,g2,O,q⟩
 | pass=>have h1:H p=some (.tup [.str (S fJ)]):=hd;calc⟨_,rK,_,_,_,true,rK,.tup h1,qh,true,rK,bL ?_⟩;calc⟨_,rK,p,_,rK,.inr (aN.of h1),rK,false,qa,bL ?_⟩;calc⟨_,rK,zsz 1,λZ I=>?_⟩;let G:aB H (upd H Z (HO.tup [.str (S fJ)])):=aB.upd I;calc JE 1 (.tup [.str fJ]) (.tup [.str fJ]) ⟨qc,.tup (aN.of (G _ _ h1)) (.cons (.str _ qc) .nil),.tup (aN.of aq) (.cons (.str _ qc) .nil),?_⟩;rw[ai rfl];show q _ G
structure Std where
 r:Nat
 w:Nat
 aD:List (List Nat)
 aL:List (List Nat)
 bi:Nat
 bj:Nat
 racks:List (List Nat)
 bag:List Nat
 jc:List Int
structure rW (K:W.Frag)(C:Addr):Prop where
 cl:Cls K C
 nb:iG K C "board"
 nr:iG K C "racks"
 ng:iG K C "bag"
 np:iG K C "points"
structure gC (C CS:Addr)(H:Hp)(p:Addr)(z:Std):Prop where
 ex:∃dx b pr pp,H p=some (.ins CS dx [("board",.ref b),("racks",.ref pr),("bag",.str (S z.bag)),("points",.ref pp)])/\cG C H b z.r z.w z.aD z.aL z.bi z.bj/\H pr=some (.tup (Ts z.racks))/\H pp=some (.tup (z.jc.map V.int))
def gC.mv {C CS:Addr}{H H':Hp}{p:Addr}{z:Std}(A:gC C CS H p z)(s:aB H H'):gC C CS H' p z:=by let⟨dx,b,pr,pp,h1,h2,h3,h4⟩:=A.ex;show⟨dx,b,pr,pp,s _ _ h1,h2.mv s,s _ _ h3,s _ _ h4⟩
structure k_ (z:Std):Prop where
 n1:1<=z.racks.length
 n4:z.racks.length<=4
 r7:∀l∈z.racks,l.length<=7/\∀c∈l,oM c
 b6:z.bag.length<=60
 bt:∀c∈z.bag,oM c
 pl:z.jc.length=z.racks.length
def Fq (CS:Addr):Sp:=λvs H Q _=>∃(p dx b pr pp:Addr) (l:List Nat),vs=[.ref p,.ref b,.ref pr,.str (S l),.ref pp]/\H p=some (.ins CS dx [])/\
 ∀H',(∀b o,H b=some o->b≠p->H' b=some o)->H' p=some (.ins CS dx [("board",.ref b),("racks",.ref pr),("bag",.str (S l)),("points",.ref pp)])->Q .non H'
def Ox {f C:Addr}{fd:FuncData}(F:d7 K "__init__" "Stand.__init__" kE f fd)(T:rW K C):bW P w K mg base cW 1 f fd ["self","board","racks","bag","points"] (Fq C):=by
 calc F.dh Od (λbH A outer s H vs Q E D h=>?_);let⟨p,dx,b,pr,pp,l,rfl,hp,q⟩:=h;calc⟨_,(aA (lB aG aW rK) (aA (lB aG bA rK) (aA (lB aG bN rK) (aF (lB aG cJ rK))))),?_⟩;calc⟨_,rK,_,rK,p,C,dx,_,rK,hp,T.cl,T.nb,by show 0<1000;decide,?_⟩;calc⟨_,rK,_,rK,p,C,dx,_,rK,aq,T.cl,T.nr,by show 1<1000;decide,?_⟩;calc⟨_,rK,_,rK,p,C,dx,_,rK,aq,T.cl,T.ng,by show 2<1000;decide,?_⟩;calc⟨_,rK,_,rK,p,C,dx,_,rK,aq,T.cl,T.np,by show 3<1000;decide,?_⟩;calc q _ (λb o e j=>?_) ?_;.rw[aV j,aV j,aV j,aV j];show e
 .show aq
def Dq {C CS x dx:Addr}{H j:Hp}{z:Std}{b pr pp:Addr}(hx:H x=none)(hd:H dx=none)(D:∀a o,upd (upd H dx (.own x)) x (.ins CS dx []) a=some o->a≠x->j a=some o)(e:j x=some (.ins CS dx [("board",.ref b),("racks",.ref pr),("bag",.str (S z.bag)),("points",.ref pp)]))(hb:cG C H b z.r z.w z.aD z.aL z.bi z.bj)(F:H pr=some (.tup (Ts z.racks)))(hp:H pp=some (.tup (z.jc.map V.int))):aB H j/\gC C CS j x z:=by let s:aB H j:=λa o h=>D a o (by rw[aV (aX h hx),aV (aX h hd)];show h) (aX h hx);show⟨s,dx,b,pr,pp,e,hb.mv s,s _ _ F,s _ _ hp⟩
def oA {l:List Nat}(b:Nat):gU l none (some (b:Int))=l.take b:=by
 unfold gU;rw[HT.lg,HT.tu];simp only[km,Nat.sub_zero];by_cases h:b<=l.length;.rw[fF h]
 .rw[ku p_,ce (al _),ce p_]
def j6 {l:List Nat}(b:Nat):gU l (some (b:Int)) none=l.drop b:=by
 unfold gU;rw[HT.lg,HT.tu];by_cases h:b<=l.length;.rw[fF h,ce (by rw[ba];lia)]
 .rw[ku p_,Nat.sub_self,List.take_zero,gX p_]
def ajE (n k:Nat):(if (0:Int) > (n:Int)-(k:Int) then (0:Int) else (n:Int)-k)=((n-k:Nat):Int):=by split <;> lia
noncomputable def Lj (z:Std)(turn size:Nat)(ts:List bO)(l:List Nat)(pt:Int):Std:={z with aD:=dW z.aD ts,racks:=z.racks.set turn (dJ (dJ l++z.bag.take (size-(dJ l).length))),bag:=z.bag.drop (size-(dJ l).length),jc:=z.jc.set turn (z.jc.getD turn 0+pt)}
def jy (l:List Nat):(dJ l).length=l.length:=(jX l).length_eq
def JV (ls:AA)(i:Nat)(l:List Nat):(Ts ls).set i (.str (S l))=Ts (ls.set i l):=by simp only[Ts,nE]
def RQ (ls:List Int)(i:Nat)(x:Int):(ls.map V.int).set i (.int x)=(ls.set i x).map V.int:=by rw[nE]
def aaL (C CS:Addr):Sp:=λvs H Q _=>∃(p t:Addr) (z:Std) (turn size:Nat) (pt:Int) (as:List Addr) (ts:List bO) (l:List Nat),vs=[.ref p,.int turn,.int size,.ref t,.int pt]/\gC C CS H p z/\k_ z/\turn<z.racks.length/\size<=7/\H t=some (.tup (as.map V.ref))/\eV H as ts/\(∀t∈ts,inB z.r z.w t)/\ts.length<=7/\(∀t∈ts,sgN t.2.2)/\pO (z.racks.getD turn []) (ts.map (·.2.2))=some l/\
 ∀j H',aB H H'->gC C CS H' j (Lj z turn size ts l pt)->Q (.ref j) H'
def Hq {C CS f0 f1:Addr}{d8 dM:FuncData}(D:aM K mg "behind_laying" oJ ["stand","turn","size","laying","points"])(yj:mg "max"=none)(bB:mg "len"=none)(cj:fY K C)(T:rW K CS)(wO:mg "Stand"=some (.ref CS))(zM:Mk K CS f0)(zN:bW P w K mg base cW 1 f0 d8 ["self","board","racks","bag","points"] (Fq CS))(zO:bK K d8 ["self","board","racks","bag","points"] [])(kO:Meth K C "laid" f1)(kY:bW P w K mg base cW 8 f1 dM ["self","laying"] (Dk C))(kZ:bK K dM ["self","laying"] [])(Oz:bU P w K mg base "left_behind" 4 ["rack","laying"] RN)(pH:bU P w K mg base "in_order" 1 ["tiles"] Ph)(uz:bU P w K mg base "exchanged" 1 ["things","place","thing"] RK):bU P w K mg base "behind_laying" 10 ["stand","turn","size","laying","points"] (aaL C CS):=by
 calc D.dh jr (λf bH A outer s H vs Q E I h=>?_);let⟨p,t,z,turn,size,pt,as,ts,l,rfl,A0,Z,F,hsz,ht,hL,dY,h7,hsg,JT,q⟩:=h;let⟨dx,b,pr,pp,hp,hb,O,hpp⟩:=A0.ex;let hg:z.racks.getD turn []=z.racks[turn]:=by rw[aw,af F];rfl
 rw[hg]at JT;let⟨k7,kt⟩:=Z.r7 _ (a9 F);let hll:=zK JT;let hl7:(dJ l).length<=7:=by rw[jy];lia
 let hb6:=Z.b6;let n4:=Z.n4;let hpl:=Z.pl;calc⟨_,(aA (aU (i:=5) jr.nd rK (Or.inl rK) (bD Oz I.mono rK (aj (aY bw (bR aG rK) aW (λ_ _=>rfl)) (aj bN ao)))) (aA (aU (i:=6) jr.nd rK (Or.inl rK) (aO (Ml rK) qf yj PyProof.Rows.boot_max (aj (aJ oO bA (aO cZ qf bB aE (aj dF ao))) (aj au ao)))) (aA (aU (i:=7) jr.nd rK (Or.inl rK) (bD pH I.mono rK (aj (aJ mO dF (dj pQ (bR aG rK) eE (dI fG))) ao))) (aA (aU (i:=8) jr.nd rK (Or.inl rK) (bD uz I.mono rK (aj (bR aG rK) (aj aW (aj iJ ao))))) (aA (aU (i:=9) jr.nd rK (Or.inl rK) (bD uz I.mono rK (aj (bR aG rK) (aj aW (aj (aJ cL (aY bw (bR aG rK) aW (λ_ _=>rfl)) cJ) ao))))) (aF (bf (o9 zM zN I.mono rK wO zO .nil cY (aj (mQ (bR aG rK) cj.cl kO kY I.mono kZ .nil cY (aj bN ao)) (aj jZ (aj (dj pQ (bR aG rK) (dI fG) eE) (aj jN ao)))))))))))),?_⟩;calc⟨_,rK,p,CS,dx,_,_,rK,hp,T.cl,T.nr,rK,_,rK,pr,_,_,.str (S z.racks[turn]),rK,rK,aN.of O,aQ (j:=turn) (nQ (af F)),_,rK,z.racks[turn],l,t,as,ts,rK,ht,hL,h7,p_,hsg,JT,λH1 s1=>?_⟩;calc⟨_,rK,_,rK,dJ l,rK,ap (aK p_),_,_,rK,rK,_,_,rK,?_⟩;rw[ajE];generalize hm:size-(dJ l).length=m;calc⟨_,rK,_,rK,p,CS,dx,_,_,rK,s1 _ _ hp,T.cl,T.ng,rK,_,rK,_,rK,z.bag,rK,ap (aK p_),dJ l,_,rK,rK,?_,dJ l++z.bag.take m,?_,?_,λH2 s2=>?_⟩;.rw[oA,av];show ap (aK p_)
 .rw[oA];rfl
 .rw[ay,av];lia
 let d9:=s1.trans s2;calc⟨_,rK,p,CS,dx,_,_,rK,d9 _ _ hp,T.cl,T.nr,rK,_,rK,_,rK,pr,_,turn,_,rK,d9 _ _ O,(by rw[aa];show F),(by rw[aa];lia),λDr H3 s3 Hr=>?_⟩;let Y:=d9.trans s3;let G:turn<z.jc.length:=p_;let hgp:z.jc.getD turn 0=z.jc[turn]:=by rw[aw,af G];rfl
 calc⟨_,rK,p,CS,dx,_,_,rK,Y _ _ hp,T.cl,T.np,rK,_,rK,_,rK,p,CS,dx,_,_,rK,Y _ _ hp,T.cl,T.np,rK,_,rK,pp,_,_,.int z.jc[turn],rK,rK,aN.of (Y _ _ hpp),aQ (j:=turn) (by rw[bS,af G];rfl),_,rK,_,_,rK,rK,pp,_,turn,_,rK,Y _ _ hpp,(by rw[aa];show G),(by rw[aa];lia),λJW H4 s4 yL=>?_⟩;let J:=Y.trans s4;let⟨bx,_,_,_,hbx,_⟩:=(hb.mv J).ex;calc⟨_,rK,p,CS,dx,_,_,rK,J _ _ hp,T.cl,T.nb,rK,b,bx,_,rK,hbx,rK,_,rK,b,t,as,ts,z.r,z.w,z.aD,z.aL,z.bi,z.bj,rK,hb.mv J,J _ _ ht,hL.mv J,dY,λb' H5 s5 hb'=>?_⟩;let zJ:=J.trans s5;calc⟨_,rK,_,rK,p,CS,dx,_,_,rK,zJ _ _ hp,T.cl,T.ng,rK,_,rK,_,rK,z.bag,rK,ap (aK p_),_,rK,λx ex n1 n2 n3=>?_⟩;rw[JV]at Hr;rw[RQ]at yL;calc JO x ex b' Dr JW (z.bag.drop m) ⟨by rw[j6];rfl,aq,λH6 k6 e6=>⟨rK,?_⟩⟩;let⟨s6,A6⟩:=Dq (z:=Lj z turn size ts l pt) n1 n2 k6 (by unfold Lj;simp only;rw[hm];show e6) hb' (by unfold Lj;simp only;rw[hm];show s5 _ _ (s4 _ _ Hr)) (by unfold Lj;simp only;rw[hgp];show s5 _ _ yL);show q x H6 (zJ.trans s6) A6
theorem Ny:∀{cs ds l:List Nat},cs.map oR=ds.map oR->pO l cs=pO l ds
 | [],[],_,_=>rfl
 | [],_::_,_,h=>by simp at h
 | _::_,[],_,h=>by simp at h
 | c::cs,d::ds,l,h=>by
  rw[cf,cf]at h;injection h with h1 h2;unfold pO;rw[show gR c=gR d from h1];split;.show Ny h2
  .rfl
def ahq {c d:Nat}(h:oR c=oR d)(hd:d<128):c<128:=by unfold oR at h;split at h <;> split at h <;> lia
theorem aaM:∀{cs ds:List Nat},cs.map oR=ds.map oR->(∀d∈ds,d<128)->∀c∈cs,c<128
 | [],_,_,_,c,hc=>by cases hc
 | a::cs,[],h,_,_,_=>by simp at h
 | a::cs,d::ds,h,hd,c,hc=>by
  rw[cf,cf]at h;injection h with h1 h2;rcases bq.mp hc with e|e;.subst e;show ahq h1 (hd d b9)
  .show aaM h2 (λx hx=>hd x (bE _ hx)) c e
noncomputable def Pj (z:Std)(turn:Nat)(l m:List Nat):Std:={z with racks:=z.racks.set turn (dJ (dJ m++z.bag.take l.length)),bag:=z.bag.drop l.length++dJ l}
def Wa (C CS:Addr):Sp:=λvs H Q _=>∃(p:Addr) (z:Std) (turn:Nat) (l m:List Nat),vs=[.ref p,.int turn,.str (S l)]/\gC C CS H p z/\k_ z/\turn<z.racks.length/\l.length<=7/\(∀c∈l,oM c)/\pO (z.racks.getD turn []) l=some m/\l.length<=z.bag.length/\
 ∀j H',aB H H'->gC C CS H' j (Pj z turn l m)->Q (.ref j) H'
def Lk {C CS CL f0:Addr}{d8:FuncData}(D:aM K mg "behind_swap" qx ["stand","turn","tiles"])(bB:mg "len"=none)(aeZ:∃t,t≠0/\mg "BLANK"=some (.str (S [63]) t))(T:rW K CS)(wO:mg "Stand"=some (.ref CS))(zM:Mk K CS f0)(zN:bW P w K mg base cW 1 f0 d8 ["self","board","racks","bag","points"] (Fq CS))(zO:bK K d8 ["self","board","racks","bag","points"] [])(uO:DefX P w K mg base "left_of" 3 ["rack","signs"] (JK CL))(pH:bU P w K mg base "in_order" 1 ["tiles"] Ph)(uz:bU P w K mg base "exchanged" 1 ["things","place","thing"] RK):bU P w K mg base "behind_swap" 10 ["stand","turn","tiles"] (Wa C CS):=by
 calc D.dh mW (λf bH A outer s H vs Q E I h=>?_);let⟨p,z,turn,l,m,rfl,A0,Z,F,hl7,hlt,JT,Q7,q⟩:=h;let⟨dx,b,pr,pp,hp,hb,G,hpp⟩:=A0.ex;let hg:z.racks.getD turn []=z.racks[turn]:=by rw[aw,af F];rfl
 rw[hg]at JT;let⟨k7,kt⟩:=Z.r7 _ (a9 F);let hll:=zK JT;let hl7':(dJ m).length<=7:=by rw[jy];lia
 let hb6:=Z.b6;let n4:=Z.n4;calc⟨_,(aA (aU (i:=3) mW.nd rK (Or.inl rK) (ou uO I.mono rK (Yq (S:=λ_=>True)) (aha 2 (ag9 bw (aeH aG rK) aW (λ_ _=>rfl)) aeZ rK (Or.inl rK) qf qi rK rK rK))) (aA (aU (i:=4) mW.nd rK (Or.inl rK) (aO cZ qf bB aE (aj bA ao))) (aA (cA (bQ vo (aO cZ qf bB aE (aj (bR aG rK) ao)) cJ (bG _)) qJ bI) (aA (aU (i:=5) mW.nd rK (Or.inl rK) (bD pH I.mono rK (aj (aJ mO bN (dj pQ (bR aG rK) eE (dI cJ))) ao))) (aA (aU (i:=6) mW.nd rK (Or.inl rK) (aJ mO (dj pQ (bR aG rK) (dI cJ) eE) (bD pH I.mono rK (aj bA ao)))) (aF (bf (o9 zM zN I.mono rK wO zO .nil cY (aj (bR aG rK) (aj (bD uz I.mono rK (aj (bR aG rK) (aj aW (aj dF ao)))) (aj fG (aj (bR aG rK) ao)))))))))))),?_⟩;calc⟨True.intro,_,rK,p,CS,dx,_,_,rK,hp,T.cl,T.nr,rK,_,rK,pr,_,_,.str (S z.racks[turn]),rK,rK,aN.of G,aQ (j:=turn) (nQ (af F)),l,rK,p_,λl' el=>?_⟩;let cU:l'.length=l.length:=by have:=congrArg List.length el;simpa using this
 let J:=RM (Ny el ▸ JT:pO z.racks[turn] l'=some m);calc JA (z.racks[turn]) l' ⟨rK,p_,p_,aaM el (λd hd=>(hlt d hd).lt),(λt e=>?_),(λleft e ws H1 s1 pm pw=>?_)⟩;.rw[J]at e;cases e
 rw[J]at e;cases e;rw[wN pm pw];calc⟨_,rK,l,rK,ap (aK p_),?_⟩;calc⟨_,rK,p,CS,dx,_,_,rK,s1 _ _ hp,T.cl,T.ng,rK,z.bag,rK,ap (aK p_),_,rK,_,_,rK,rK,false,(by simp;lia),bL ?_⟩;calc⟨_,rK,_,rK,p,CS,dx,_,_,rK,s1 _ _ hp,T.cl,T.ng,rK,_,rK,_,rK,z.bag,rK,ap (aK p_),dJ m,_,rK,rK,?_,dJ m++z.bag.take l.length,?_,?_,λH2 s2=>?_⟩;.rw[oA,av];show ap (aK p_)
 .rw[oA];rfl
 .rw[ay,av];lia
 let d9:=s1.trans s2;calc⟨_,rK,p,CS,dx,_,_,rK,d9 _ _ hp,T.cl,T.ng,rK,_,rK,_,rK,z.bag,rK,ap (aK p_),_,rK,l,rK,p_,λH3 s3=>(JA _ (dJ l) ⟨rK,rK,?_,?_⟩)⟩;.rw[j6,ba,jy];show ap (aK p_)
 let O:=d9.trans s3;calc⟨_,rK,p,CS,dx,_,_,rK,O _ _ hp,T.cl,T.nb,rK,_,rK,p,CS,dx,_,_,rK,O _ _ hp,T.cl,T.nr,rK,_,rK,_,rK,pr,_,turn,_,rK,O _ _ G,(by rw[aa];show F),(by rw[aa];lia),λDr H4 s4 Hr=>?_⟩;let Y:=O.trans s4;calc⟨_,rK,_,rK,p,CS,dx,_,_,rK,Y _ _ hp,T.cl,T.np,rK,λx ex n1 n2 n3=>?_⟩;rw[JV]at Hr;calc JO x ex b Dr pp (z.bag.drop l.length++dJ l) ⟨by rw[j6];rfl,aq,λH6 k6 e6=>⟨rK,?_⟩⟩;let⟨s6,A6⟩:=Dq (z:=Pj z turn l m) n1 n2 k6 e6 (hb.mv Y) Hr (Y _ _ hpp);show q x H6 (Y.trans s6) A6
structure Gm where
 sts:List Std
 done:List (List Nat)
 ws:List (List Nat)
 kvs:List (Key×V)
 bn:Int
 bm:Int
 size:Nat
structure qy (K:W.Frag)(C:Addr):Prop where
 cl:Cls K C
 nk:iG K C "book"
 nw:iG K C "worths"
 nn:iG K C "bonus"
 nz:iG K C "size"
 ns:iG K C "stands"
 nd:iG K C "done"
structure yp (C CS:Addr)(H:Hp)(as:List Addr)(zs:List Std):Prop where
 len:as.length=zs.length
 at_:∀(i:Nat) (a:Addr) (z:Std),as[i]?=some a->zs[i]?=some z->gC C CS H a z
def yp.mv {C CS:Addr}{H H':Hp}{as:List Addr}{zs:List Std}(h:yp C CS H as zs)(s:aB H H'):yp C CS H' as zs:=⟨h.len,λi a z h1 h2=>(h.at_ i a z h1 h2).mv s⟩
def yp.last {C CS:Addr}{H:Hp}{as:List Addr}{zs:List Std}{z:Std}(h:yp C CS H as (zs++[z])):∃bs a,as=bs++[a]/\gC C CS H a z:=by
 let hl:=h.len;rw[ay]at hl;let j:as≠[]:=λe=>by subst e;simp at hl
 calc JA as.dropLast (as.getLast j) ⟨(kr j).symm,h.at_ zs.length _ z ?_ qa⟩;rw[List.getLast_eq_getElem,af (by simp at hl;lia)];congr 1;simp at hl;simp[hl]
structure jY (C CS CB CG:Addr)(H:Hp)(g ps pd:Addr)(G:Gm):Prop where
 ex:∃dx k kd d pb,H g=some (.ins CG dx [("book",.ref k),("worths",.ref d),("bonus",.ref pb),("size",.int G.size),("stands",.ref ps),("done",.ref pd)])/\fD CB H k kd G.ws/\H d=some (.dK G.kvs)/\H pb=some (.tup [.int G.bn,.int G.bm])
 st:∃as,H ps=some (.lst (as.map V.ref))/\yp C CS H as G.sts
 dn:H pd=some (.lst (Ts G.done))
def jY.mv {C CS CB CG:Addr}{H H':Hp}{g ps pd:Addr}{G:Gm}(A:jY C CS CB CG H g ps pd G)(s:aB H H'):jY C CS CB CG H' g ps pd G:=by obtain⟨⟨dx,k,kd,d,pb,h1,h2,h3,h4⟩,⟨as,h5,j⟩,h7⟩:=A;show⟨(JJ dx k kd d pb ⟨s _ _ h1,h2.mv s,s _ _ h3,s _ _ h4⟩),⟨as,s _ _ h5,j.mv s⟩,s _ _ h7⟩
def wQ {bs:List Addr}{a:Addr}:sS ((bs++[a]).map V.ref) (-1)=some (.ref a):=by rw[bz];show Gz _ _
def nU (C CS CB CG:Addr)(R:Hp->Std->VK->Prop):Sp:=λvs H Q _=>∃(g ps pd:Addr) (G:Gm) (zs:List Std) (z:Std),vs=[.ref g]/\jY C CS CB CG H g ps pd G/\G.sts=zs++[z]/\R H z Q
def RT (C:Addr)(H:Hp)(z:Std)(Q:VK):Prop:=∀b,cG C H b z.r z.w z.aD z.aL z.bi z.bj->Q (.ref b) H
def Ds (H:Hp)(z:Std)(Q:VK):Prop:=∀p,H p=some (.tup (Ts z.racks))->Q (.ref p) H
def Ys (H:Hp)(z:Std)(Q:VK):Prop:=Q (.str (S z.bag)) H
def acC (H:Hp)(z:Std)(Q:VK):Prop:=∀p,H p=some (.tup (z.jc.map V.int))->Q (.ref p) H
def RW {C CS CB CG f:Addr}{fd:FuncData}(F:d7 K "board_now" "Game.board_now" iB f fd)(T:qy K CG)(TS:rW K CS):bW P w K mg base cW 1 f fd ["self"] (nU C CS CB CG (RT C)):=by calc F.dh FT (λbH A outer s H vs Q E O h=>?_);let⟨g,ps,pd,G,zs,z,rfl,J,hz,q⟩:=h;obtain⟨⟨dx,k,kd,d,pb,h1,h2,h3,h4⟩,⟨as,h5,j⟩,h7⟩:=J;rw[hz]at j;let⟨bs,a,rfl,D⟩:=j.last;let⟨I,b,pr,pp,e1,e2,e3,e4⟩:=D.ex;calc⟨_,(aF (bf (bR (aY iH (bR aG rK) (vA qX au) (λ_ _=>rfl)) rK))),?_⟩;show⟨_,rK,g,CG,dx,_,_,rK,h1,T.cl,T.ns,rK,_,rK,ps,_,_,.ref a,rK,rK,bC.of h5,wQ,a,CS,I,_,_,rK,e1,TS.cl,TS.nb,rK,q b e2⟩
def RX {C CS CB CG f:Addr}{fd:FuncData}(F:d7 K "racks_now" "Game.racks_now" iC f fd)(T:qy K CG)(TS:rW K CS):bW P w K mg base cW 1 f fd ["self"] (nU C CS CB CG Ds):=by calc F.dh FW (λbH A outer s H vs Q E O h=>?_);let⟨g,ps,pd,G,zs,z,rfl,J,hz,q⟩:=h;obtain⟨⟨dx,k,kd,d,pb,h1,h2,h3,h4⟩,⟨as,h5,j⟩,h7⟩:=J;rw[hz]at j;let⟨bs,a,rfl,D⟩:=j.last;let⟨I,b,pr,pp,e1,e2,e3,e4⟩:=D.ex;calc⟨_,(aF (bf (bR (aY iH (bR aG rK) (vA qX au) (λ_ _=>rfl)) rK))),?_⟩;show⟨_,rK,g,CG,dx,_,_,rK,h1,T.cl,T.ns,rK,_,rK,ps,_,_,.ref a,rK,rK,bC.of h5,wQ,a,CS,I,_,_,rK,e1,TS.cl,TS.nr,rK,q pr e3⟩
def Yt {C CS CB CG f:Addr}{fd:FuncData}(F:d7 K "bag_now" "Game.bag_now" ju f fd)(T:qy K CG)(TS:rW K CS):bW P w K mg base cW 1 f fd ["self"] (nU C CS CB CG Ys):=by calc F.dh Jp (λbH A outer s H vs Q E O h=>?_);let⟨g,ps,pd,G,zs,z,rfl,J,hz,q⟩:=h;obtain⟨⟨dx,k,kd,d,pb,h1,h2,h3,h4⟩,⟨as,h5,j⟩,h7⟩:=J;rw[hz]at j;let⟨bs,a,rfl,D⟩:=j.last;let⟨I,b,pr,pp,e1,e2,e3,e4⟩:=D.ex;calc⟨_,(aF (bf (bR (aY iH (bR aG rK) (vA qX au) (λ_ _=>rfl)) rK))),?_⟩;show⟨_,rK,g,CG,dx,_,_,rK,h1,T.cl,T.ns,rK,_,rK,ps,_,_,.ref a,rK,rK,bC.of h5,wQ,a,CS,I,_,_,rK,e1,TS.cl,TS.ng,rK,q⟩
def OD {C CS CB CG f:Addr}{fd:FuncData}(F:d7 K "points_now" "Game.points_now" gW f fd)(T:qy K CG)(TS:rW K CS):bW P w K mg base cW 1 f fd ["self"] (nU C CS CB CG acC):=by calc F.dh Df (λbH A outer s H vs Q E O h=>?_);let⟨g,ps,pd,G,zs,z,rfl,J,hz,q⟩:=h;obtain⟨⟨dx,k,kd,d,pb,h1,h2,h3,h4⟩,⟨as,h5,j⟩,h7⟩:=J;rw[hz]at j;let⟨bs,a,rfl,D⟩:=j.last;let⟨I,b,pr,pp,e1,e2,e3,e4⟩:=D.ex;calc⟨_,(aF (bf (bR (aY iH (bR aG rK) (vA qX au) (λ_ _=>rfl)) rK))),?_⟩;show⟨_,rK,g,CG,dx,_,_,rK,h1,T.cl,T.ns,rK,_,rK,ps,_,_,.ref a,rK,rK,bC.of h5,wQ,a,CS,I,_,_,rK,e1,TS.cl,TS.np,rK,q pp e4⟩
theorem dN.uD {H:Hp}:∀{ls:AA},(∀l∈ls,∀c∈l,c<128)->dN K H 1 (ls.map Dt.str) (Ts ls)
 | [],_=>.nil
 | l::ls,h=>.cons (.str l (h l b9)) (dN.uD λD j=>h D (bE _ j))
def Ft (C CS CB CG:Addr):Sp:=λvs H Q _=>∃(g ps pd:Addr) (G:Gm) (zs:List Std) (z:Std),vs=[.ref g]/\jY C CS CB CG H g ps pd G/\G.sts=zs++[z]/\k_ z/\Q (.int ((G.done.length%z.racks.length:Nat):Int)) H
def ae0 {C CS CB CG f f1:Addr}{fd dM:FuncData}(F:d7 K "turn" "Game.turn" mj f fd)(j:qy K CG)(I:mg "len"=none)(Y:Meth K CG "racks_now" f1)(gM:bW P w K mg base cW 1 f1 dM ["self"] (nU C CS CB CG Ds))(O:bK K dM ["self"] []):bW P w K mg base cW 2 f fd ["self"] (Ft C CS CB CG):=by
 calc F.dh QJ (λbH A outer s H vs Q E J h=>?_);let⟨g,ps,pd,G,zs,z,rfl,D,hz,Z,q⟩:=h;let⟨dx,k,kd,d,pb,h1,h2,h3,h4⟩:=D.ex;let h7:=D.dn;let n1:=Z.n1;calc⟨_,(aF (bf (aJ bV (aO bY qf I aE (aj (bR aG rK) ao)) (aO bY qf I aE (aj (dR aG j.cl Y gM J.mono O .nil cY) ao))))),?_⟩;refine⟨_,rK,g,CG,dx,_,_,rK,h1,j.cl,j.nd,rK,pd,_,rK,.inl (bC.of h7),_,rK,g,dx,_,rK,h1,rK,g,ps,pd,G,zs,z,rK,D,hz,λp hp=>(JA p _ ⟨rK,.inr (aN.of hp),_,_,rK,rK,?_,?_⟩)⟩
 .show (0:Int)<_;rw[aa];lia
 .rw[aa,aa];have:((G.done.length:Int)%(z.racks.length:Int))=((G.done.length%z.racks.length:Nat):Int):=by lia
  show Q (.int ((G.done.length:Int)%(z.racks.length:Int))) H;rw[this];show q
def Ca (ps pd:Addr)(H H':Hp):Prop:=∀a o,H a=some o->a≠ps->a≠pd->H' a=some o
def n_ {H:Hp}{a p:Addr}{xs:List V}{o:HO}(h:H p=some (.lst xs))(h':H a=some o)(d:∀ys,o≠.lst ys):a≠p:=λe=>by subst e;rw[h]at h';show d xs (be h').symm
def cG.k2 {C:Addr}{H H':Hp}{p ps pd:Addr}{xs ys:List V}{r w:Nat}{aD aL:AA}{i j:Nat}(B:cG C H p r w aD aL i j)(s:Ca ps pd H H')(h1:H ps=some (.lst xs))(h2:H pd=some (.lst ys)):cG C H' p r w aD aL i j:=by obtain⟨⟨dx,pr,pm,pb,a,b,c,d⟩,o⟩:=B;let k:∀a o,H a=some o->(∀ys,o≠HO.lst ys)->H' a=some o:=λa o h n=>s a o h (n_ h1 h n) (n_ h2 h n);show⟨(JI dx pr pm pb ⟨k _ _ a (λ_ z=>nomatch z),k _ _ b (λ_ z=>nomatch z),k _ _ c (λ_ z=>nomatch z),k _ _ d (λ_ z=>nomatch z)⟩),o⟩
def gC.k2 {C CS:Addr}{H H':Hp}{p ps pd:Addr}{xs ys:List V}{z:Std}(A:gC C CS H p z)(s:Ca ps pd H H')(h1:H ps=some (.lst xs))(h2:H pd=some (.lst ys)):gC C CS H' p z:=by let⟨dx,b,pr,pp,a1,a2,a3,a4⟩:=A.ex;let k:∀a o,H a=some o->(∀ys,o≠HO.lst ys)->H' a=some o:=λa o h n=>s a o h (n_ h1 h n) (n_ h2 h n);show⟨dx,b,pr,pp,k _ _ a1 (λ_ z=>nomatch z),a2.k2 s h1 h2,k _ _ a3 (λ_ z=>nomatch z),k _ _ a4 (λ_ z=>nomatch z)⟩
def fD.k2 {C:Addr}{H H':Hp}{p d ps pd:Addr}{xs ys:List V}{ws:AA}(B:fD C H p d ws)(s:Ca ps pd H H')(h1:H ps=some (.lst xs))(h2:H pd=some (.lst ys)):fD C H' p d ws:=by let k:∀a o,H a=some o->(∀ys,o≠HO.lst ys)->H' a=some o:=λa o h n=>s a o h (n_ h1 h n) (n_ h2 h n);show⟨let ⟨dx,e⟩:=B.ob;⟨dx,k _ _ e (λ_ z=>nomatch z)⟩,k _ _ B.dc (λ_ z=>nomatch z),B.nd,B.az⟩
def jY.put {C CS CB CG:Addr}{H H':Hp}{g ps pd:Addr}{G:Gm}{zs:List Std}{dn:AA}{as:List Addr}(A:jY C CS CB CG H g ps pd G)(s:Ca ps pd H H')(h1:H' ps=some (.lst (as.map V.ref)))(hs:yp C CS H' as zs)(h2:H' pd=some (.lst (Ts dn))):jY C CS CB CG H' g ps pd {G with sts:=zs,done:=dn}:=by obtain⟨⟨dx,k,kd,d,pb,a1,a2,a3,a4⟩,⟨bs,a5,_⟩,a7⟩:=A;let j:∀a o,H a=some o->(∀ys,o≠HO.lst ys)->H' a=some o:=λa o h n=>s a o h (n_ a5 h n) (n_ a7 h n);show⟨(JJ dx k kd d pb ⟨j _ _ a1 (λ_ z=>nomatch z),a2.k2 s a5 a7,j _ _ a3 (λ_ z=>nomatch z),j _ _ a4 (λ_ z=>nomatch z)⟩),⟨as,h1,hs⟩,h2⟩
def ae1 {as:List Addr}{ls:AA}(h:ls≠[]):as.map V.ref≠Ts ls:=λe=>by
 cases ls with
 | nil=>show h rfl
 | cons l ls=>
  cases as with
  | nil=>cases e
  | cons a as=>cases e
def yq (G:Gm)(z:Std):Nat:=(((G.done.length:Int)-1)%(z.racks.length:Int)).toNat
noncomputable def lH (G:Gm)(z:Std):Bool:=decide (G.done.drop (G.done.length-2*z.racks.length)=List.replicate (2*z.racks.length) fJ)||(decide (G.done.drop (G.done.length-1)=[jd])&&(decide (z.bag=[])&&decide (z.racks.getD (yq G z) []=[])))
def RZ {xs:List V}{k:Nat}(j:1<=k):gQ xs (some (-(k:Int))) none=xs.drop (xs.length-k):=by
 let e:HT.cV xs.length 0 (some (-(k:Int)))=xs.length-k:=by show (if -(k:Int)<0 then (-(k:Int)+(xs.length:Int)).toNat else _)=_;rw[if_pos p_];lia
 unfold gQ;rw[e,HT.tu,ce (by rw[ba];lia)]
def Wb (ls:AA)(n:Nat):(Ts ls).drop n=Ts (ls.drop n):=by simp only[Ts,oq]
def str_inj {as bs:AA}:Dt.lst (as.map Dt.str)=Dt.lst (bs.map Dt.str)↔as=bs:=by
 constructor
 .intro h;injection h with h;show(List.map_inj_right (λa b e=>by injection e)).mp h
 .rintro rfl;rfl
def Fv {p q:Prop} [Decidable p] [Decidable q] (h:p↔q):decide p=decide q:=by
 by_cases hp:p;.rw[ai hp,ai (h.mp hp)]
 .rw[ag hp,ag λz=>hp (h.mpr z)]
def R0 (C CS CB CG:Addr):Sp:=λvs H Q _=>∃(g ps pd:Addr) (G:Gm) (zs:List Std) (z:Std),vs=[.ref g]/\jY C CS CB CG H g ps pd G/\G.sts=zs++[z]/\k_ z/\(∀l∈G.done,∀c∈l,c<128)/\G.done.length<=500/\∀H',aB H H'->Q (.bl (lH G z)) H'
open Classical in
def Yu {C CS CB CG f f1 f2:Addr}{fd dM fd2:FuncData}(F:d7 K "is_over" "Game.is_over" jw f fd)(J:qy K CG)(bB:mg "len"=none)(gK:Meth K CG "racks_now" f1)(gM:bW P w K mg base cW 1 f1 dM ["self"] (nU C CS CB CG Ds))(gO:bK K dM ["self"] [])(mY:Meth K CG "bag_now" f2)(mZ:bW P w K mg base cW 1 f2 fd2 ["self"] (nU C CS CB CG Ys))(m8:bK K fd2 ["self"] []):bW P w K mg base cW 4 f fd ["self"] (R0 C CS CB CG):=by
 calc F.dh oK (λbH A outer s H vs Q E hr h=>?_);let⟨g,ps,pd,G,zs,z,rfl,A0,hz,Z,I,h5,q⟩:=h;let⟨dx,k,kd,d,pb,h1,h2,h3,h4⟩:=A0.ex;let h7:=A0.dn;let n1:=Z.n1;let n4:=Z.n4;calc⟨_,(aA (aU (i:=1) oK.nd rK (Or.inl rK) (dR aG J.cl gK gM hr.mono gO .nil cY)) (aA (aU (i:=2) oK.nd rK (Or.inl rK) (aJ iM au (aO bY qf bB aE (aj aW ao)))) (aA (cA (bQ (Cy hr.units) (dj vR (bR aG rK) (dI (vA qX bA)) eE) (aJ Zv (jH (aj (bJ [112,97,115,115] qi) ao)) bA) (bG _)) (aF (bf h_)) bI) (aA (aU (i:=3) oK.nd rK (Or.inl rK) (aJ bV (aJ oO (aO bY qf bB aE (aj (bR aG rK) ao)) au) (aO bY qf bB aE (aj aW ao)))) (aF (bf (jG (d_ (Cy hr.units) (dj vR (bR aG rK) (dI (vA qX au)) eE) (jH (aj (bJ [108,97,121] qi) ao)) (bG _)) (jG (d_ jF (dR aG J.cl mY mZ hr.mono m8 .nil cY) (bJ [] qi) (bG _)) (jg (d_ jF (aY bw aW bN (λ_ _=>rfl)) (bJ [] qi) (bG _))))))))))),?_⟩;calc⟨_,rK,g,dx,_,rK,h1,rK,g,ps,pd,G,zs,z,rK,A0,hz,λpr O=>?_⟩;refine⟨_,rK,pr,_,rK,.inr (aN.of O),_,_,rK,rK,?_,?_⟩
 .show W7 _ _;rw[aa];show .inl ⟨qc,qc⟩
 rw[aa];let em:(λi j:Int=>V.int (i*j)) 2 (z.racks.length:Int)=V.int ((2*z.racks.length:Nat):Int):=by show V.int _=V.int _;congr 1
 rw[em];generalize hk:2*z.racks.length=k2;calc⟨_,rK,g,CG,dx,_,_,rK,h1,J.cl,J.nd,rK,_,rK,_,rK,_,rK,pd,_,rK,bC.of h7,λp1 e1=>?_⟩;rw[RZ p_,Wb,aa];let sx1:aB H (upd H p1 (.lst (Ts (G.done.drop (G.done.length-k2))))):=aB.upd e1;let VF:upd H p1 (.lst (Ts (G.done.drop (G.done.length-k2)))) p1=some (.lst (Ts (G.done.drop (G.done.length-k2)))):=aq;generalize upd H p1 (.lst (Ts (G.done.drop (G.done.length-k2))))=H1 at sx1 VF ⊢;calc⟨zsz 1,λp2 e2=>?_⟩;let Y:aB H1 (upd H1 p2 (HO.lst [V.str (S [112,97,115,115])])):=aB.upd e2;let ex2:upd H1 p2 (HO.lst [V.str (S [112,97,115,115])]) p2=some (.lst (Ts [fJ])):=aq;generalize upd H1 p2 (HO.lst [V.str (S [112,97,115,115])])=H2 at Y ex2 ⊢;refine⟨_,rK,p2,(k2:Int),Ts [fJ],rK,rK,ex2,p_,p_,?_,λp3 e3=>?_⟩
 .show 1*_<=sizeLine;show ap (aK (by simp;lia))
 let er:(List.replicate (k2:Int).toNat (Ts [fJ])).flatten=Ts (List.replicate k2 fJ):=by rw[dv];simp[Ts]
 let ajF:=Y _ _ VF;let d9:=sx1.trans Y;rw[er];let sx3:aB H2 (upd H2 p3 (.lst (Ts (List.replicate k2 fJ)))):=aB.upd e3;let ex3:upd H2 p3 (.lst (Ts (List.replicate k2 fJ))) p3=some (.lst (Ts (List.replicate k2 fJ))):=aq;let adS:=sx3 _ _ ajF;let fj:=d9.trans sx3;generalize upd H2 p3 (.lst (Ts (List.replicate k2 fJ)))=H3 at sx3 ex3 adS fj ⊢;calc JE 2 (.lst ((G.done.drop (G.done.length-k2)).map Dt.str)) (.lst ((List.replicate k2 fJ).map Dt.str)) ⟨qc,.lst (bC.of adS) (dN.uD λl hl=>I l (ed hl)),.lst (bC.of ex3) (dN.uD λl hl=>?_),_,rK,?_⟩;.rw[List.eq_of_mem_replicate hl];decide
 rw[Fv str_inj];by_cases hp:G.done.drop (G.done.length-k2)=List.replicate k2 fJ
 .rw[ai hp];calc cu ?_;have:=q H3 fj;unfold lH at this;rw[hk,ai hp,Bool.true_or]at this;show this
 .rw[ag hp];calc bL ?_;let h13:=fj _ _ h1;let h73:=fj _ _ h7;let R3:=fj _ _ O;refine⟨_,rK,g,CG,dx,_,_,rK,h13,J.cl,J.nd,rK,pd,_,rK,.inl (bC.of h73),_,_,rK,rK,_,rK,pr,_,rK,.inr (aN.of R3),_,_,rK,rK,?_,?_⟩
  .show (0:Int)<_;rw[aa];lia
  rw[aa,aa];let el:(λi j:Int=>V.int (i%j)) ((G.done.length:Int)-1) (z.racks.length:Int)=V.int ((yq G z:Nat):Int):=by show V.int _=V.int _;congr 1;unfold yq;have:=df ((G.done.length:Int)-1) (b:=(z.racks.length:Int)) p_;lia
  let ll:yq G z<z.racks.length:=by unfold yq;have:=df ((G.done.length:Int)-1) (b:=(z.racks.length:Int)) p_;have:=di ((G.done.length:Int)-1) (b:=(z.racks.length:Int)) p_;lia
  rw[el];calc⟨_,rK,g,CG,dx,_,_,rK,h13,J.cl,J.nd,rK,_,rK,_,rK,pd,_,rK,bC.of h73,λp4 e4=>?_⟩;rw[show (-1:Int)=-((1:Nat):Int) from rK,RZ (al 1),Wb,aa];let sx4:aB H3 (upd H3 p4 (.lst (Ts (G.done.drop (G.done.length-1))))):=aB.upd e4;let ex4:upd H3 p4 (.lst (Ts (G.done.drop (G.done.length-1)))) p4=some (.lst (Ts (G.done.drop (G.done.length-1)))):=aq;generalize upd H3 p4 (.lst (Ts (G.done.drop (G.done.length-1))))=H4 at sx4 ex4 ⊢;calc⟨zsz 1,λp5 e5=>?_⟩;let sx5:aB H4 (upd H4 p5 (HO.lst [V.str (S [108,97,121])])):=aB.upd e5;let ex5:upd H4 p5 (HO.lst [V.str (S [108,97,121])]) p5=some (.lst (Ts [jd])):=aq;generalize upd H4 p5 (HO.lst [V.str (S [108,97,121])])=H5 at sx5 ex5 ⊢;let zJ:=(fj.trans sx4).trans sx5;calc JE 2 (.lst ((G.done.drop (G.done.length-1)).map Dt.str)) (.lst ([jd].map Dt.str)) ⟨qc,.lst (bC.of (sx5 _ _ ex4)) (dN.uD λl hl=>I l (ed hl)),.lst (bC.of ex5) (dN.uD qc),_,rK,?_⟩;rw[Fv str_inj];let D:=q H5 zJ;unfold lH at D;rw[hk,ag hp,Bool.false_or]at D;by_cases hy:G.done.drop (G.done.length-1)=[jd]
  .rw[ai hy]at D ⊢;rw[mn]at D;calc cu ⟨_,rK,g,dx,_,rK,zJ _ _ h1,rK,g,ps,pd,G,zs,z,rK,A0.mv zJ,hz,z.bag,[],rK,rK,_,rK,?_⟩;by_cases hb:z.bag=[]
   .rw[ai hb]at D ⊢;rw[mn]at D;calc cu ⟨_,rK,_,rK,pr,_,_,.str (S z.racks[yq G z]),rK,rK,aN.of (zJ _ _ O),aQ (nQ (af ll)),_,[],rK,rK,?_⟩;rw[aw,af ll]at D;show D
   .rw[ag hb]at D ⊢;show bL D
  .rw[ag hy]at D ⊢;show bL D
def jC (G:Gm)(z:Std):Nat:=G.done.length%z.racks.length
structure ahr (G:Gm):Prop where
 low:∀l∈G.done,∀c∈l,c<128
 len:G.done.length<=400
 sl:G.sts.length<=500
 wd:WD G.kvs
 wb:WB 1000000 G.kvs
 sz:G.size<=7
inductive Does (G:Gm) (z:Std):dz->Int->Std->Prop
 | lay {ts:List bO} {l:List Nat} (wR:∀t∈ts,inB z.r z.w t) (h0:0<ts.length) (h7:ts.length<=7) (ri:jU (ts.map nR)=true) (vd:sV z.aD z.r z.w z.bi z.bj G.ws (z.racks.getD (jC G z) []) ts .ok) (lf:pO (z.racks.getD (jC G z) []) (ts.map (·.2.2))=some l) :
   Does G z (.lay ts) (Yn z.aD z.aL G.kvs ts G.bn G.bm) (Lj z (jC G z) G.size ts l (Yn z.aD z.aL G.kvs ts G.bn G.bm))
 | swap {l m:List Nat} (ne:l≠[]) (h7:l.length<=7) (tl:∀c∈l,oM c) (lf:pO (z.racks.getD (jC G z) []) l=some m) (hb:l.length<=z.bag.length):Does G z (.swap l) 0 (Pj z (jC G z) l m)
 | pass:Does G z .pass 0 z
def aiR {aD:AA}{r w bi bj:Nat}{ws:AA}{bM:List Nat}{ts:List bO}{v:Vd}(h:sV aD r w bi bj ws bM ts .ok)(g:sV aD r w bi bj ws bM ts v):v=.ok:=by
 cases h with
 | ok h1 h2 h3 h4 h5 h=>
  cases g with
  | BP e=>rw[h1]at e;cases e
  | BW _ e=>rw[h2]at e;cases e
  | gap _ _ e=>show absurd e.fr (h3 _ _ e.i1 e.i2 e.j1 e.j2)
  | BX _ _ _ e=>rw[h4]at e;cases e
  | BZ _ _ _ _ e=>let⟨l,hl⟩:=h5;rw[hl]at e;cases e
  | nw _ _ _ _ _ e=>rw[h]at e;cases e
  | ok=>rfl
def Wc {aD:AA}{r w bi bj:Nat}{ws:AA}{bM:List Nat}{ts:List bO}(h:sV aD r w bi bj ws bM ts .ok):(tQ ts||tR ts)=true:=by
 cases h with| ok h1 h2 h3 h4 h5 h=>show h2
def acD (d:dz):∀c∈d.name,c<128:=by
 cases d;.show ∀c∈jd,c<128;decide
 .show ∀c∈ig,c<128;decide
 .show ∀c∈fJ,c<128;decide
def ahs (C CS CB CG:Addr):Sp:=λvs H Q _=>∃(g p ps pd:Addr) (G:Gm) (zs:List Std) (z z':Std) (d:dz) (pt:Int),vs=[.ref g,.ref p]/\jY C CS CB CG H g ps pd G/\G.sts=zs++[z]/\k_ z/\ahr G/\uP H p d/\lH G z=false/\Does G z d pt z'/\
 ∀H',Ca ps pd H H'->jY C CS CB CG H' g ps pd {G with sts:=G.sts++[z'],done:=G.done++[d.name]}->Q (.int pt) H'
def Wd {H:Hp}{p:Addr}{d:dz}(h:uP H p d):∃xs,H p=some (.tup (.str (S d.name)::xs)):=by
 cases d with
 | lay ts=>let⟨t,as,h1,_⟩:=h;show⟨_,h1⟩
 | swap l=>show⟨_,h⟩
 | pass=>show⟨_,h⟩
def yp.snoc {C CS:Addr}{H:Hp}{as:List Addr}{zs:List Std}{a:Addr}{z:Std}(h:yp C CS H as zs)(g:gC C CS H a z):yp C CS H (as++[a]) (zs++[z]):=by
 calc⟨by rw[ay,ay,h.len];rfl,λi b y e1 e2=>?_⟩;by_cases hi:i<as.length
 .rw[dS hi]at e1;rw[dS (by rw[<-h.len];show hi)]at e2;show h.at_ i b y e1 e2
 .rw[dA p_]at e1;rw[dA (by rw[<-h.len];lia),<-h.len]at e2;let h0:i-as.length=0:=by have:=(ah.mp e1).1;simp at this;lia
  rw[h0]at e1 e2;cases e1;cases e2;show g
def yp.k2 {C CS:Addr}{H H':Hp}{ps pd:Addr}{xs ys:List V}{as:List Addr}{zs:List Std}(h:yp C CS H as zs)(s:Ca ps pd H H')(h1:H ps=some (.lst xs))(h2:H pd=some (.lst ys)):yp C CS H' as zs:=⟨h.len,λi a z e1 e2=>(h.at_ i a z e1 e2).k2 s h1 h2⟩
open Classical in
def aiS {C CS CB CG f f1 f2:Addr}{fd dM fd2:FuncData}{c:Rt}(F:d7 K "do" "Game.do" oV f fd)(cH:qy K CG)(TS:rW K CS)(pI:Meth K CG "is_over" f1)(pJ:bW P w K mg base cW 4 f1 dM ["self"] (R0 C CS CB CG))(pK:bK K dM ["self"] [])(oE:Meth K CG "turn" f2)(oF:bW P w K mg base cW 2 f2 fd2 ["self"] (Ft C CS CB CG))(oG:bK K fd2 ["self"] [])(aaN:bU P w K mg base "is_deed" 2 ["thing"] aaK)(tV:DefX P w K mg base "check_laying" 14 ["board","book","rack","laying"] (Lb K C CB c))(yM:bU P w K mg base "points_of" 11 ["board","worths","bonus","laying"] (Yo C))(JX:bU P w K mg base "behind_laying" 10 ["stand","turn","size","laying","points"] (aaL C CS))(OJ:bU P w K mg base "behind_swap" 10 ["stand","turn","tiles"] (Wa C CS)):bW P w K mg base cW 16 f fd ["self","deed"] (ahs C CS CB CG):=by
 calc F.dh nO (λbH A outer s H vs Q E hr h=>?_);let⟨g,p,ps,pd,G,zs,z,z',d,pt,rfl,A0,hz,Z,GK,hd,hov,hdo,q⟩:=h;let⟨dx,k,kd,dd,pb,h1,h2,h3,h4⟩:=A0.ex;let⟨as0,h5,h6⟩:=A0.st;let h7:=A0.dn;let n1:=Z.n1;let h6':=h6;rw[hz]at h6';let⟨bs,a,rfl,SA⟩:=h6'.last;let⟨dy,b,pr,pp,e1,e2,e3,e4⟩:=SA.ex;let htn:jC G z<z.racks.length:=Nat.mod_lt _ n1;let hg:z.racks.getD (jC G z) []=z.racks[jC G z]:=by rw[aw,af htn];rfl
 let⟨k7,kt⟩:=Z.r7 _ (a9 htn);calc⟨_,(aA (cA (dG (cQ (bD aaN hr.mono rK (aj aW ao)))) qJ bI) (aA (cA (cQ (dR aG cH.cl pI pJ hr.mono pK .nil cY)) qJ bI) (aA (aU (i:=2) nO.nd rK (Or.inl rK) (aY iH (bR aG rK) (vA qX au) (λ_ _=>rfl))) (aA (aU (i:=3) nO.nd rK (Or.inl rK) (dR aG cH.cl oE oF hr.mono oG .nil cY)) (aA (aU (i:=4) nO.nd rK (Or.inl rK) au) (aA (fU (cA (bQ jF (aY bw aW au (λ_ _=>rfl)) (bJ [108,97,121] qi) (bG _)) (aA (dD (ou tV hr.mono rK (Yq (S:=λ_=>True)) (aj (bR bA rK) (aj (bR aG rK) (aj (aY bw (bR bA rK) bN (λ_ _=>rfl)) (aj (aY bw aW au (λ_ _=>rfl)) ao)))))) (aA (aU (i:=4) nO.nd rK (Or.inl rK) (bD yM hr.mono rK (aj (bR bA rK) (aj (bR aG rK) (aj (bR aG rK) (aj (aY bw aW au (λ_ _=>rfl)) ao)))))) (aF (aU (i:=2) nO.nd rK (Or.inl rK) (bD JX hr.mono rK (aj bA (aj bN (aj (bR aG rK) (aj (aY bw aW au (λ_ _=>rfl)) (aj cJ ao)))))))))) (aF (fU (cA (bQ jF (aY bw aW au (λ_ _=>rfl)) (bJ [115,119,97,112] qi) (bG _)) (aF (aU (i:=2) nO.nd rK (Or.inl rK) (bD OJ hr.mono rK (aj bA (aj bN (aj (aY bw aW au (λ_ _=>rfl)) ao)))))) bI))))) (aA (dD (f9 cn dr du jD (bR aG rK) (aj bA ao))) (aA (dD (f9 cn dr du jD (bR aG rK) (aj (aY bw aW au (λ_ _=>rfl)) ao))) (aF (bf cJ)))))))))),?_⟩;refine⟨_,rK,p,d,rK,hd,(λl e=>?_),λH1 s1=>⟨true,rK,bL ?_⟩⟩
 .subst e;cases hdo with| swap ne h7 tl lf hb=>show⟨ne,p_,tl⟩
 calc⟨_,rK,g,dx,_,rK,s1 _ _ h1,rK,g,ps,pd,G,zs,z,rK,A0.mv s1,hz,Z,GK.low,(by have:=GK.len;lia),λH2 s2=>⟨_,rK,?_⟩⟩;rw[hov];let I:=s1.trans s2;calc bL ⟨_,rK,g,CG,dx,_,_,rK,I _ _ h1,cH.cl,cH.ns,rK,_,rK,ps,_,_,.ref a,rK,rK,bC.of (I _ _ h5),wQ,?_⟩;calc⟨_,rK,g,dx,_,rK,I _ _ h1,rK,g,ps,pd,G,zs,z,rK,A0.mv I,hz,Z,?_⟩;refine⟨λσ O=>∃D,σ=[some (.ref g),some (.ref p),some (.ref D),some (.int (jC G z:Nat)),some (.int pt)]/\aB H O/\gC C CS O D z',?_,?_⟩
 .let e12:=I _ _ e1;let h12:=I _ _ h1;cases hdo with
  | @lay ts l wR h0 h7' ri vd lf=>
   let⟨t,as,hp,ht,hL⟩:=hd;let J:=I _ _ hp;let hl1:=La e2.ok.w9 wR h0 ri (Wc vd);rw[hg]at vd;calc⟨_,rK,p,_,_,.str (S jd),rK,rK,aN.of J,aQ (j:=0) rK,jd,jd,rK,rK,_,rK,?_⟩;rw[ai rfl];refine cu ⟨True.intro,_,rK,a,CS,dy,_,_,rK,e12,TS.cl,TS.nb,rK,_,rK,g,CG,dx,_,_,rK,h12,cH.cl,cH.nk,rK,_,rK,a,CS,dy,_,_,rK,e12,TS.cl,TS.nr,rK,_,rK,pr,_,_,.str (S z.racks[jC G z]),rK,rK,aN.of (I _ _ e3),aQ (nQ (af htn)),_,rK,p,_,_,.ref t,rK,rK,aN.of J,aQ (j:=1) rK,
    b,k,kd,G.ws,z.racks[jC G z],.ref t,z.r,z.w,z.aD,z.aL,z.bi,z.bj,rK,e2.mv I,h2.mv I,p_,.inr (JE t as ts ⟨rK,I _ _ ht,hL.mv I,wR,h0,h7',ri,(λv cls dd H' hv hx _=>?_),λ_ O s3=>?_⟩)⟩
   .have:=aiR vd hv;subst this;show hx
   let Y:=I.trans s3;refine⟨_,rK,a,CS,dy,_,_,rK,Y _ _ e1,TS.cl,TS.nb,rK,_,rK,g,CG,dx,_,_,rK,Y _ _ h1,cH.cl,cH.nw,rK,_,rK,g,CG,dx,_,_,rK,Y _ _ h1,cH.cl,cH.nn,rK,_,rK,p,_,_,.ref t,rK,rK,aN.of (Y _ _ hp),aQ (j:=1) rK,
    b,dd,pb,t,G.kvs,G.bn,G.bm,as,ts,z.r,z.w,z.aD,z.aL,z.bi,z.bj,rK,e2.mv Y,Rd.of (Y _ _ h3),GK.wd,GK.wb,Y _ _ h4,Y _ _ ht,hL.mv Y,wR,h0,h7',hl1,λH4 s4=>?_⟩
   let gJ:=Y.trans s4;refine⟨_,rK,_,rK,_,rK,g,CG,dx,_,_,rK,gJ _ _ h1,cH.cl,cH.nz,rK,_,rK,p,_,_,.ref t,rK,rK,aN.of (gJ _ _ hp),aQ (j:=1) rK,_,rK,
    a,t,z,jC G z,G.size,_,as,ts,l,rK,SA.mv gJ,Z,htn,GK.sz,gJ _ _ ht,hL.mv gJ,wR,h7',(λu hu=>aaF (wR u hu).2.2),lf,λD H5 s5 A5=>⟨D,rK,gJ.trans s5,A5⟩⟩
  | @swap l m ne h7' tl lf hb=>have hp:H p=some (.tup [.str (S ig),.str (S l)]):=hd;let J:=I _ _ hp;calc⟨_,rK,p,_,_,.str (S ig),rK,rK,aN.of J,aQ (j:=0) rK,ig,jd,rK,rK,_,rK,?_⟩;rw[ag (show ¬ig=jd by decide)];calc bL ⟨λσ O=>∃D,σ=[some (.ref g),some (.ref p),some (.ref D),some (.int (jC G z:Nat)),some (.int 0)]/\aB H O/\gC C CS O D (Pj z (jC G z) l m),?_,λσ O h=>h⟩;calc⟨_,rK,p,_,_,.str (S ig),rK,rK,aN.of J,aQ (j:=0) rK,ig,ig,rK,rK,_,rK,?_⟩;rw[ai rfl];show cu ⟨_,rK,_,rK,_,rK,p,_,_,.str (S l),rK,rK,aN.of J,aQ (j:=1) rK,a,z,jC G z,l,m,rK,SA.mv I,Z,htn,h7',tl,lf,hb,λD H5 s5 A5=>⟨D,rK,I.trans s5,A5⟩⟩
  | pass=>have hp:H p=some (.tup [.str (S fJ)]):=hd;let J:=I _ _ hp;calc⟨_,rK,p,_,_,.str (S fJ),rK,rK,aN.of J,aQ (j:=0) rK,fJ,jd,rK,rK,_,rK,?_⟩;rw[ag (show ¬fJ=jd by decide)];calc bL ⟨λσ O=>∃D,σ=[some (.ref g),some (.ref p),some (.ref D),some (.int (jC G z:Nat)),some (.int 0)]/\aB H O/\gC C CS O D z,?_,λσ O h=>h⟩;calc⟨_,rK,p,_,_,.str (S fJ),rK,rK,aN.of J,aQ (j:=0) rK,fJ,ig,rK,rK,_,rK,?_⟩;rw[ag (show ¬fJ=ig by decide)];show bL ⟨a,rK,I,SA.mv I⟩
 .intro σ O z;let⟨D,rfl,Y,A3⟩:=z;let⟨xs,hn⟩:=Wd hd;let h53:=Y _ _ h5;let h73:=Y _ _ h7;let hlz:(bs++[a]).length<=500:=by rw[h6.len];show GK.sl
  calc⟨_,rK,g,CG,dx,_,_,rK,Y _ _ h1,cH.cl,cH.ns,rK,.inl ⟨rK,_,bC.of h53⟩,_,rK,ps,_,.ref D,rK,rK,h53,aK (by rw[aa];lia),?_⟩;let hgp:g≠ps:=n_ h5 h1 (λ_ z=>nomatch z);let yL:p≠ps:=n_ h5 hn (λ_ z=>nomatch z);let hpd:pd≠ps:=λe=>by
   subst e;rw[h5]at h7;injection h7 with h7;injection h7 with h7;cases hG:G.done with| nil=>rw[hG]at h7;simp[Ts]at h7| cons l ls=>show ae1 (by rw[hG];simp) h7
  let g1:=Y _ _ h1;rw[<-aV (H:=O) (o:=.lst ((bs++[a]).map V.ref++[.ref D])) hgp]at g1;let g7:=h73;rw[<-aV (H:=O) (o:=.lst ((bs++[a]).map V.ref++[.ref D])) hpd]at g7;let gn:=Y _ _ hn;rw[<-aV (H:=O) (o:=.lst ((bs++[a]).map V.ref++[.ref D])) yL]at gn;calc⟨_,rK,g,CG,dx,_,_,rK,g1,cH.cl,cH.nd,rK,.inl ⟨rK,_,bC.of g7⟩,_,rK,p,_,_,.str (S d.name),rK,rK,aN.of gn,aQ (j:=0) rK,pd,_,.str (S d.name),rK,rK,g7,aK (by rw[aa];have:=GK.len;lia),_,rK,?_⟩;let kk:Ca ps pd H (upd (upd O ps (.lst ((bs++[a]).map V.ref++[.ref D]))) pd (.lst (Ts G.done++[.str (S d.name)]))):=λx o e m1 m2=>by rw[aV m2,aV m1];show Y _ _ e
  let k3:Ca ps pd O (upd (upd O ps (.lst ((bs++[a]).map V.ref++[.ref D]))) pd (.lst (Ts G.done++[.str (S d.name)]))):=λx o e m1 m2=>by rw[aV m2,aV m1];show e
  calc q _ kk (A0.put kk (as:=bs++[a]++[D]) ?_ ((h6.k2 kk h5 h7).snoc (A3.k2 k3 h53 h73)) ?_);.rw[aV hpd.symm,aq];simp
  .rw[aq];simp[Ts]
def aaO (C:Addr):Sp:=λvs H Q _=>∃(p d:Addr) (ws:AA),vs=[.ref p]/\fD C H p d ws/\ws.length<64/\
 ∀(x j:Addr) (D:AA) (H':Hp),aB H H'->H x=none->H j=none->fD C H' x j D->(∀y,y∈D↔y∈ws)->Q (.ref x) H'
def ae2 {f C f0 f1:Addr}{fd d8 dM:FuncData}(F:d7 K "twin" "Book.twin" mz f fd)(uN:pG K C)(Fw:mg "Book"=some (.ref C))(JZ:Mk K C f0)(J0:bW P w K mg base cW 3 f0 d8 ["self","words"] (Ro K C))(J1:bK K d8 ["self","words"] [])(wU:Meth K C "words" f1)(wV:bW P w K mg base cW 1 f1 dM ["self"] (K8 C))(wW:bK K dM ["self"] []):bW P w K mg base cW 5 f fd ["self"] (aaO C):=by
 calc F.dh QK (λbH A outer s H vs Q E O h=>?_);let⟨p,d,ws,rfl,B,G,q⟩:=h;let⟨dx,hp⟩:=B.ob;calc⟨_,(aF (bf (o9 JZ J0 O.mono rK Fw J1 .nil cY (aj (dR aG uN.cl wU wV O.mono wW .nil cY) ao)))),?_⟩;calc⟨_,rK,p,dx,_,rK,hp,rK,p,d,ws,rK,B,G,λt us H1 s1 ht I pm rs=>?_⟩;intro x j nx J wC;let s2:aB H1 (upd (upd H1 j (HO.own x)) x (HO.ins C j [])):=λb o e=>by rw[aV (aX e nx),aV (aX e J)];show e
 calc JI x j t us ⟨rK,aq,.inr (aN.of (s2 _ _ I)),λl hl=>B.az l (pm.mem_iff.mp hl),by rw[pm.length_eq];lia,λZ uQ Y D BA hm cU kp=>⟨rK,?_⟩⟩;let s3:aB H1 Y:=λb o e=>kp b o (s2 b o e) (aX e nx);calc q x Z uQ Y (s1.trans s3) (s1.free nx) (s1.free ?_) BA (λy=>(hm y).trans pm.mem_iff);cases e:H1 Z with| none=>rfl| some o=>rw[s2 _ _ e]at D;cases D
structure yr (C CS CB CG:Addr)(H:Hp)(g ps pd k kd d:Addr)(G:Gm):Prop where
 ex:∃dx pb,H g=some (.ins CG dx [("book",.ref k),("worths",.ref d),("bonus",.ref pb),("size",.int G.size),("stands",.ref ps),("done",.ref pd)])/\fD CB H k kd G.ws/\H d=some (.dK G.kvs)/\H pb=some (.tup [.int G.bn,.int G.bm])
 st:∃as,H ps=some (.lst (as.map V.ref))/\yp C CS H as G.sts
 dn:H pd=some (.lst (Ts G.done))
def yr.at {C CS CB CG:Addr}{H:Hp}{g ps pd k kd d:Addr}{G:Gm}(A:yr C CS CB CG H g ps pd k kd d G):jY C CS CB CG H g ps pd G:=by let⟨dx,pb,h⟩:=A.ex;show⟨(JJ dx k kd d pb h),A.st,A.dn⟩
def Wf (C CS CB CG:Addr):Sp:=λvs H Q _=>∃(g dx b k kd d pb pr:Addr) (ws:AA) (kvs:List (Key×V)) (n m:Int) (size r w:Nat) (aD aL:AA) (bi bj:Nat) (racks:AA) (bag:List Nat),vs=[.ref g,.ref b,.ref k,.ref d,.ref pb,.int size,.ref pr,.str (S bag)]/\H g=some (.ins CG dx [])/\cG C H b r w aD aL bi bj/\fD CB H k kd ws/\ws.length<64/\H d=some (.dK kvs)/\H pb=some (.tup [.int n,.int m])/\H pr=some (.tup (Ts racks))/\1<=racks.length/\racks.length<=4/\(∀l∈racks,l.length<64)/\
 ∀(ps pd k2 j D:Addr) (F:AA) (H':Hp),(∀a o,H a=some o->a≠g->H' a=some o)->(∀y,y∈F↔y∈ws)->H ps=none->H pd=none->H k2=none->H j=none->H D=none->yr C CS CB CG H' g ps pd k2 j D ⟨[⟨r,w,aD,aL,bi,bj,racks.map dJ,bag,List.replicate racks.length 0⟩],[],F,kvs,n,m,size⟩->Q .non H'
def R4 {C CS CB CG f f0 f1:Addr}{fd d8 dM:FuncData}(F:d7 K "__init__" "Game.__init__" lZ f fd)(T:qy K CG)(uN:pG K CB)(uR:mg "dict"=none)(cD:mg "tuple"=none)(bB:mg "len"=none)(UG:Meth K CB "twin" f1)(UJ:bW P w K mg base cW 5 f1 dM ["self"] (aaO CB))(UL:bK K dM ["self"] [])(wO:mg "Stand"=some (.ref CS))(zM:Mk K CS f0)(zN:bW P w K mg base cW 1 f0 d8 ["self","board","racks","bag","points"] (Fq CS))(zO:bK K d8 ["self","board","racks","bag","points"] [])(pH:bU P w K mg base "in_order" 1 ["tiles"] Ph):bW P w K mg base cW 7 f fd ["self","board","book","worths","bonus","size","racks","bag"] (Wf C CS CB CG):=by
 calc F.dh Dd (λbH A outer s H vs Q E hr h=>?_);let⟨g,dx,b,k,kd,d,pb,pr,ws,kvs,n,m,size,r,w,aD,aL,bi,bj,racks,bag,rfl,hg,hB,hK,h64,hd,hpb,hpr,n1,n4,h7,q⟩:=h;let⟨kx,hk⟩:=hK.ob;calc⟨_,(aA (lB aG (dR bA uN.cl UG UJ hr.mono UL .nil cY) rK) (aA (lB aG (eO Jl qf uR PyProof.Rows.boot_dict (aj bN ao)) rK) (aA (lB aG cJ rK) (aA (lB aG dF rK) (aA (lB aG (jH (aj (o9 zM zN hr.mono rK wO zO .nil cY (aj aW (aj (eO i_ qf cD ck (aj (jO rK (jf.of Dd.nd qh) (gG fG) (λ_ _ _ _ _=>dX) (λ_ _ _ _ _=>(bD pH hr.mono rK (aj aG ao)))) ao)) (aj iJ (aj (aJ Vv (cR (aj au ao)) (aO bY qf bB aE (aj fG ao))) ao))))) ao)) rK) (aF (lB aG (jH ao) rK))))))),?_⟩;calc⟨_,rK,k,kx,_,rK,hk,rK,k,kd,ws,rK,hK,h64,λk2 kd2 uQ H1 s1 f1 f2 BK hm=>?_⟩;let g1:=s1 _ _ hg;calc⟨_,rK,g,CG,dx,_,rK,g1,T.cl,T.nk,by show 0<1000;decide,?_⟩;generalize hX:upd H1 g (HO.ins CG dx (iw "book" (V.ref k2) []))=H2;let K2:∀a o,H1 a=some o->a≠g->H2 a=some o:=λa o e ne=>by rw[<-hX,aV ne];show e
 let g2:H2 g=some (.ins CG dx [("book",.ref k2)]):=by rw[<-hX];show aq
 let Wg:∀{a:Addr} {o:HO},H a=some o->(∀C' d' fs,o≠.ins C' d' fs)->a≠g:=λe ne z=>by subst z;rw[hg]at e;show ne _ _ _ (be e).symm
 let dg:d≠g:=Wg hd (λ_ _ _ z=>nomatch z);calc⟨_,rK,d,kvs,rK,K2 _ _ (s1 _ _ hd) dg,λj e2=>?_⟩;let Y:j≠g:=λz=>by subst z;rw[g2]at e2;cases e2
 let g3:upd H2 j (HO.dK kvs) g=some (.ins CG dx [("book",.ref k2)]):=by rw[aV Y.symm];show g2
 let K3:∀a o,H1 a=some o->a≠g->upd H2 j (HO.dK kvs) a=some o:=λa o e ne=>by rw[aV (aX (K2 a o e ne) e2)];show K2 a o e ne
 let d3:upd H2 j (HO.dK kvs) j=some (.dK kvs):=aq;let e2H:H j=none:=by
  cases e:H j with| none=>rfl| some o=>rw[K2 _ _ (s1 _ _ e) Y]at e2;cases e2
 generalize upd H2 j (HO.dK kvs)=H3 at g3 K3 d3 ⊢;calc⟨_,rK,g,CG,dx,_,rK,g3,T.cl,T.nw,by show 1<1000;decide,?_⟩;calc⟨_,rK,_,rK,g,CG,dx,_,rK,aq,T.cl,T.nn,by show 2<1000;decide,?_⟩;calc⟨_,rK,_,rK,g,CG,dx,_,rK,aq,T.cl,T.nz,by show 3<1000;decide,?_⟩;rw[U3,U3];generalize hY:upd H3 g (HO.ins CG dx (iw "size" (V.int size) (iw "bonus" (V.ref pb) (iw "worths" (V.ref j) [("book",V.ref k2)]))))=H6;let g6:H6 g=some (.ins CG dx [("book",.ref k2),("worths",.ref j),("bonus",.ref pb),("size",.int size)]):=by rw[<-hY];show aq
 let J:∀a o,H1 a=some o->a≠g->H6 a=some o:=λa o e ne=>by rw[<-hY,aV ne];show K3 a o e ne
 let d6:H6 j=some (.dK kvs):=by rw[<-hY,aV Y];show d3
 let prg:pr≠g:=Wg hpr (λ_ _ _ z=>nomatch z);let Z:=J _ _ (s1 _ _ hpr) prg;refine⟨_,rK,_,rK,pr,rK,⟨_,aN.of Z⟩,λL hL=>qC (xs:=Ts racks) (λi ys O=>ys=Ts ((racks.take i).map dJ)/\O L=some (.lst ys)/\aB H6 O) ⟨rK,aq,aB.upd hL⟩ (λi ys O _ h=>aN.of (h.2.2 _ _ Z)) ?_ ?_⟩
 .intro i x ys O hi z;let⟨rfl,J2,sm⟩:=z;let⟨l,hl,rfl⟩:=rJ hi;let hil:i<(Ts racks).length:=(ah.mp hi).1;let hir:i<racks.length:=by rw[aa]at hil;show hil
  calc⟨_,rK,l,rK,h7 l (bp hl),λH8 s8=>⟨s8 _ _ J2,?_,g_.mk hil ⟨?_,aq,(sm.trans s8).dH hL⟩⟩⟩;.rw[aa,aa,av];show aK p_
  .rw[take_snoc hl];simp only[Ts,bz];rfl
 .intro ys O z;let⟨rfl,J2,sm⟩:=z;rw[aa,cv]at J2;calc JA L _ ⟨rK,.inl ⟨bC.of J2,λtp ht=>?_⟩⟩;let s8:aB O (upd O tp (.tup (Ts (racks.map dJ)))):=aB.upd ht;let Wh:upd O tp (.tup (Ts (racks.map dJ))) tp=some (.tup (Ts (racks.map dJ))):=aq;generalize upd O tp (HO.tup (Ts (racks.map dJ)))=H8 at s8 Wh ⊢;let R5:=sm.trans s8;calc⟨_,rK,zsz 1,λp0 e0=>?_⟩;let s9:aB H8 (upd H8 p0 (HO.tup [V.int 0])):=aB.upd e0;let ep0:upd H8 p0 (HO.tup [V.int 0]) p0=some (.tup [V.int 0]):=aq;generalize upd H8 p0 (HO.tup [V.int 0])=H9 at s9 ep0 ⊢;let s69:=R5.trans s9;calc⟨_,rK,pr,_,rK,.inr (aN.of (s69 _ _ Z)),p0,_,racks.length,rK,by rw[aa],ep0,qa,n1,p_,by show 1<=100;decide,λpp HA sA hpp=>?_⟩;let yL:HA pp=some (.tup ((List.replicate racks.length (0:Int)).map V.int)):=by rw[hpp];simp
  let s6A:=s69.trans sA;let bg:b≠g:=by let⟨bx,_,_,_,hbx,_⟩:=hB.ex;intro z;subst z;rw[hg]at hbx;cases hbx
  let HB6:cG C H6 b r w aD aL bi bj:=by obtain⟨⟨bx,b1,b2,b3,c0,c1,c2,c3⟩,ok⟩:=hB;show⟨(JI bx b1 b2 b3 ⟨J _ _ (s1 _ _ c0) bg,J _ _ (s1 _ _ c1) (Wg c1 (λ_ _ _ z=>nomatch z)),J _ _ (s1 _ _ c2) (Wg c2 (λ_ _ _ z=>nomatch z)),J _ _ (s1 _ _ c3) (Wg c3 (λ_ _ _ z=>nomatch z))⟩),ok⟩
  intro x ex nx1 nx2 nx3;calc JO x ex b tp pp bag ⟨rK,aq,λHC kC eC=>⟨rK,?_⟩⟩;let⟨sC,AC⟩:=Dq (z:=⟨r,w,aD,aL,bi,bj,racks.map dJ,bag,List.replicate racks.length 0⟩) nx1 nx2 kC eC (HB6.mv s6A) (sA _ _ (s9 _ _ Wh)) yL;let s6C:=s6A.trans sC;calc⟨zsz 1,λps G=>?_⟩;let sD:aB HC (upd HC ps (HO.lst [V.ref x])):=aB.upd G;let pD:upd HC ps (HO.lst [V.ref x]) ps=some (.lst ([x].map V.ref)):=aq;generalize upd HC ps (HO.lst [V.ref x])=HD at sD pD ⊢;let R6:=s6C.trans sD;calc⟨_,rK,g,CG,dx,_,rK,R6 _ _ g6,T.cl,T.ns,by show 4<1000;decide,?_⟩;let psg:ps≠g:=λz=>by subst z;rw[s6C _ _ g6]at G;cases G
  generalize hE:upd HD g (HO.ins CG dx (iw "stands" (V.ref ps) [("book",V.ref k2),("worths",V.ref j),("bonus",V.ref pb),("size",V.int size)]))=HE;let KE:∀a o,HD a=some o->a≠g->HE a=some o:=λa o e ne=>by rw[<-hE,aV ne];show e
  let gE:HE g=some (.ins CG dx [("book",.ref k2),("worths",.ref j),("bonus",.ref pb),("size",.int size),("stands",.ref ps)]):=by rw[<-hE];show aq
  calc⟨zsz 0,λpd I=>?_⟩;let sF:aB HE (upd HE pd (HO.lst [])):=aB.upd I;let pF:upd HE pd (HO.lst []) pd=some (.lst (Ts [])):=aq;let pdg:pd≠g:=λz=>by subst z;rw[gE]at I;cases I
  generalize upd HE pd (HO.lst [])=HF at sF pF ⊢;calc⟨_,rK,g,CG,dx,_,rK,sF _ _ gE,T.cl,T.nd,by show 5<1000;decide,?_⟩;let D:∀a o,HD a=some o->a≠g->upd HF g (HO.ins CG dx (iw "done" (V.ref pd) [("book",V.ref k2),("worths",V.ref j),("bonus",V.ref pb),("size",V.int size),("stands",V.ref ps)])) a=some o:=λa o e ne=>by rw[aV ne];show sF _ _ (KE a o e ne)
  let old:∀a o,H a=some o->a≠g->upd HF g (HO.ins CG dx (iw "done" (V.ref pd) [("book",V.ref k2),("worths",V.ref j),("bonus",V.ref pb),("size",V.int size),("stands",V.ref ps)])) a=some o:=λa o e ne=>D a o (R6 _ _ (J a o (s1 _ _ e) ne)) ne;let k2g:k2≠g:=λz=>by subst z;rw[hg]at f1;cases f1
  let aht:kd2≠g:=λz=>by subst z;rw[hg]at f2;cases f2
  refine q ps pd k2 kd2 j uQ _ old hm ?_ ?_ f1 f2 e2H ⟨(JA dx pb ⟨aq,?_,?_,?_⟩),⟨[x],D _ _ pD psg,⟨rK,λi a z h1 h2=>?_⟩⟩,?_⟩
  .cases e:H ps with| none=>rfl| some o=>rw[s6C _ _ (J _ _ (s1 _ _ e) psg)]at G;cases G
  .cases e:H pd with| none=>rfl| some o=>rw[KE _ _ (R6 _ _ (J _ _ (s1 _ _ e) pdg)) pdg]at I;cases I
  .let⟨ky,hky⟩:=BK.ob;show⟨⟨ky,D _ _ (R6 _ _ (J _ _ hky k2g)) k2g⟩,D _ _ (R6 _ _ (J _ _ BK.dc aht)) aht,BK.nd,BK.az⟩
  .show D _ _ (R6 _ _ d6) Y
  .show old _ _ hpb (Wg hpb (λ_ _ _ z=>nomatch z))
  .cases i with
   | zero=>
    cases h1;cases h2;obtain⟨dy,b',Dr,JW,c1,⟨⟨bx,q1,q2,q3,u0,u1,u2,u3⟩,ok⟩,c3,c4⟩:=(AC.mv sD).ex;let gD:=R6 _ _ g6;let xg:x≠g:=(aX (s6A _ _ g6) nx1).symm;let bg':b'≠g:=xr u0 gD λz=>by injection z with _ _ z;injection z with z _;injection z with z _;show absurd z qc
    let tg:∀{a:Addr} {xs:List V},HD a=some (.tup xs)->a≠g:=λe=>xr e gD λz=>nomatch z;show⟨dy,b',Dr,JW,D _ _ c1 xg,⟨⟨bx,q1,q2,q3,D _ _ u0 bg',D _ _ u1 (tg u1),D _ _ u2 (tg u2),D _ _ u3 (tg u3)⟩,ok⟩,D _ _ c3 (tg c3),D _ _ c4 (tg c4)⟩
   | succ i=>simp at h1
  .rw[aV pdg];show pF
noncomputable def wX:List Nat->List Nat->Option (List Nat)
 | l,[]=>some l
 | l,c::cs=>if c∈l then wX (l.erase c) cs else none
theorem Pk:∀{cs l:List Nat},wX l (cs.map gR)=pO l cs
 | [],_=>rfl
 | c::cs,l=>by rw[cf];unfold wX pO;rw[Pk]
theorem R7:∀{cs l m:List Nat},wX l cs=some m->m.length+cs.length=l.length
 | [],l,m,h=>by cases h;rfl
 | c::cs,l,m,h=>by
  unfold wX at h;split at h
  .rename_i hm;have:=R7 h;rw[List.length_erase_of_mem hm]at this;have:=List.length_pos_of_mem hm;simp only[dq];lia
  .cases h
def Wi {l:List Nat}(h:∀c∈l,oM c):l.map gR=l:=by
 rw[fA (g:=id) λc j=>?_,kM];unfold gR;rw[if_neg];.rfl
 .rcases h c j with e|e;.have:=e.1;lia
  .lia
def Wj:Sp:=λvs H Q _=>∃bM l m:List Nat,vs=[.str (S bM),.str (S l)]/\bM.length<=63/\l.length<=63/\wX bM l=some m/\∀p H',aB H H'->H p=none->H' p=some (.lst (Ts (m.map λc=>[c])))->Q (.ref p) H'
def acF (D:aM K mg "_law_taken" zy ["_law_rack","_law_tiles_here"])(iy:mg "list"=none):bU P w K mg base "_law_taken" 1 ["_law_rack","_law_tiles_here"] Wj:=by
 calc D.dh tK (λf bH A outer s H vs Q E hr h=>?_);let⟨bM,l,m,rfl,h63,l63,Y,q⟩:=h;calc⟨_,(aA (aU (i:=2) tK.nd rK (Or.inl rK) (eO (nF rK) qf iy fq (aj aG ao))) (aA (fP cz rK (rm aW) (bF (i:=3) tK.nd rK (Or.inl rK)) (aF (dD (f9 cn iO iP xJ bA (aj bN ao))))) (aF (bf bA)))),?_⟩;calc⟨_,rK,bM,rK,p_,λL Z=>?_⟩;calc⟨_,rK,l,rK,?_⟩;refine Fd (λi σ I=>∃(J:Option V) (us:List Nat),σ=[some (.str (S bM)),some (.str (S l)),some (.ref L),J]/\aB H I/\I L=some (.lst (Ts (us.map λc=>[c])))/\us.length<=63/\wX us (l.drop i)=some m)
  (JA none bM ⟨rK,aB.upd Z,aq,h63,by rw[km];show Y⟩) ?_ ?_
 .intro i c σ I hc z;let⟨J,us,rfl,O,F,JL,j⟩:=z;let hi:i<l.length:=(ah.mp hc).1;let G:l.drop i=c::l.drop (i+1):=by
   rw[gr hi];rw[af hi]at hc;rw[be hc]
  rw[G]at j;unfold wX at j;split at j
  .rename_i hm;calc⟨_,rK,.inl ⟨rK,_,bC.of F⟩,_,rK,L,_,[c],rK,rK,F,bc.mpr ⟨c,hm,rK⟩,by rw[aa];lia,?_⟩;calc JA _ (us.erase c) ⟨rK,O.dH Z,by rw[tU];show aq,?_,j⟩;have:=(lj (a:=c) (l:=us)).length_le;lia
  .cases j
 .intro σ I z;let⟨J,us,rfl,O,F,JL,j⟩:=z;rw[mB]at j;cases j;show⟨_,rK,q L I O Z F⟩
def R8:Sp:=λvs H Q _=>∃(bM l m:List Nat) (a:Addr),vs=[.str (S bM),.ref a]/\H a=some (.lst (Ts (l.map λc=>[c])))/\bM.length<=63/\l.length<=63/\wX bM l=some m/\∀p H',aB H H'->H p=none->H' p=some (.lst (Ts (m.map λc=>[c])))->Q (.ref p) H'
def aaP (D:aM K mg "_law_taken" zy ["_law_rack","_law_tiles_here"])(iy:mg "list"=none):bU P w K mg base "_law_taken" 1 ["_law_rack","_law_tiles_here"] R8:=by
 calc D.dh tK (λf bH A outer s H vs Q E hr h=>?_);let⟨bM,l,m,a,rfl,ha,h63,l63,Z,q⟩:=h;calc⟨_,(aA (aU (i:=2) tK.nd rK (Or.inl rK) (eO (nF rK) qf iy fq (aj aG ao))) (aA (fP cz rK (oh aW) (bF (i:=3) tK.nd rK (Or.inl rK)) (aF (dD (f9 cn iO iP xJ bA (aj bN ao))))) (aF (bf bA)))),?_⟩;calc⟨_,rK,bM,rK,p_,λL O=>?_⟩;refine⟨_,rK,a,rK,⟨_,bC.of (aB.upd O _ _ ha)⟩,nC (K:=K) (a:=a) (xs:=Ts (l.map λc=>[c])) (λi σ I=>∃(Y:Option V) (us:List Nat),σ=[some (.str (S bM)),some (.ref a),some (.ref L),Y]/\aB H I/\I L=some (.lst (Ts (us.map λc=>[c])))/\us.length<=63/\wX us (l.drop i)=some m)
  (JA none bM ⟨rK,aB.upd O,aq,h63,by rw[km];show Z⟩) (λi σ I _ h=>by let⟨_,_,_,J,_⟩:=h;show bC.of (J _ _ ha)) ?_ ?_⟩
 .intro i x σ I hx z;let⟨Y,us,rfl,J,F,JL,j⟩:=z;let⟨y,hy,rfl⟩:=rJ hx;rw[bS]at hy;let⟨c,hc,rfl⟩:=c9.mp hy;let hi:i<l.length:=(ah.mp hc).1;let G:l.drop i=c::l.drop (i+1):=by
   rw[gr hi];rw[af hi]at hc;rw[be hc]
  rw[G]at j;unfold wX at j;split at j
  .rename_i hm;calc⟨_,rK,.inl ⟨rK,_,bC.of F⟩,_,rK,L,_,[c],rK,rK,F,bc.mpr ⟨c,hm,rK⟩,by rw[aa];lia,?_⟩;calc JA _ (us.erase c) ⟨rK,J.dH O,by rw[tU];show aq,?_,j⟩;have:=(lj (a:=c) (l:=us)).length_le;lia
  .cases j
 .intro σ I z;let⟨Y,us,rfl,J,F,JL,j⟩:=z;rw[aa,aa,mB]at j;cases j;show⟨_,rK,q L I J O F⟩
structure Pn (K:W.Frag)(CR:Addr)(c:Rt):Prop where
 BP:W.exmOne K (.ref c.BP) (.ref CR)=some true
 BW:W.exmOne K (.ref c.BW) (.ref CR)=some true
 gap:W.exmOne K (.ref c.gap) (.ref CR)=some true
 BX:W.exmOne K (.ref c.BX) (.ref CR)=some true
 BZ:W.exmOne K (.ref c.BZ) (.ref CR)=some true
 nw:W.exmOne K (.ref c.nw) (.ref CR)=some true
def Pn.of {CR:Addr}{c:Rt}(R:Pn K CR c){H:Hp}{cls:Value}{dd:Option Addr}{v:Vd}(h:VdX c H cls dd v):W.exmOne K cls (.ref CR)=some true:=by
 cases v with
 | ok=>show h.elim
 | BP i j=>let⟨rfl,_⟩:=h;show R.BP
 | BW=>let⟨rfl,_⟩:=h;show R.BW
 | gap i j=>let⟨rfl,_⟩:=h;show R.gap
 | BX=>let⟨rfl,_⟩:=h;show R.BX
 | BZ t=>let⟨rfl,_⟩:=h;show R.BZ
 | nw l=>let⟨rfl,_⟩:=h;show R.nw
def aaQ (C CB:Addr):Sp:=λvs H Q _=>∃(b k kd t:Addr) (ws:AA) (bM:List Nat) (as:List Addr) (ts:List bO) (r w:Nat) (aD aL:AA) (bi bj:Nat),vs=[.ref b,.ref k,.str (S bM),.ref t]/\cG C H b r w aD aL bi bj/\fD CB H k kd ws/\bM.length<=63/\H t=some (.tup (as.map V.ref))/\eV H as ts/\(∀t∈ts,inB r w t)/\0<ts.length/\ts.length<=7/\jU (ts.map nR)=true/\
 ∀(o:Bool) H',aB H H'->(o=true->sV aD r w bi bj ws bM ts .ok)->Q (.bl o) H'
def ae3 {C CB CR:Addr}{c:Rt}(D:aM K mg "_law_lets" Js ["_law_board","_law_book","_law_rack","_law_laying_here"])(J:mg "RackError"=some (.ref CR))(R:Pn K CR c)(Y:DefX P w K mg base "check_laying" 14 ["board","book","rack","laying"] (Lb K C CB c)):bU P w K mg base "_law_lets" 16 ["_law_board","_law_book","_law_rack","_law_laying_here"] (aaQ C CB):=by
 calc D.dh aeK (λf bH A outer s H vs Q E I h=>?_);let⟨b,k,kd,t,ws,bM,as,ts,r,w,aD,aL,bi,bj,rfl,hB,Z,F,ht,hL,dY,h0,h7,Gj,q⟩:=h;calc⟨_,(aA (aeI rK rK qf J (λpn xe E0 σ0 hp hx=>(aF (dD (ou Y I.mono rK hx (aj aG (aj aW (aj bA (aj bN ao)))))))) (λ_=>(aF (bf h_)))) (aF (bf h_))),?_⟩;refine⟨λcls dd H'=>∃v,VdX c H' cls dd v/\aB H H',?_,λa cls dd H' O na=>?_⟩
 .calc⟨rK,_,rK,_,rK,_,rK,_,rK,b,k,kd,ws,bM,.ref t,r,w,aD,aL,bi,bj,rK,hB,Z,F,.inr (JE t as ts ⟨rK,ht,hL,dY,h0,h7,Gj,λv cls dd H' G hx j=>⟨v,hx,j⟩,λG H1 s1=>?_⟩)⟩;show q true H1 s1 λ_=>G
 .let⟨v,hx,j⟩:=O;show⟨R.of hx,q false _ (j.trans (aB.upd na)) λz=>by cases z⟩
def tW:Sp:=λvs H Q _=>∃(c:Int) (m:Nat),vs=[.int c,.int m]/\m<=100/\∀(p:Addr) (ds:List Int) (H':Hp),aB H H'->H p=none->H' p=some (.lst (ds.map V.int))->ds.length=m->Q (.ref p) H'
def aaR (D:aM K mg "_law_stream" Ac ["_law_cell","_law_many"])(J:mg "range"=none):bU P w K mg base "_law_stream" 1 ["_law_cell","_law_many"] tW:=by
 calc D.dh m_ (λf bH A outer s H vs Q E Z h=>?_);let⟨c,m,rfl,hm,q⟩:=h;calc⟨_,(aA (aU (i:=2) m_.nd rK (Or.inl rK) (jH ao)) (aA (aU (i:=3) m_.nd rK (Or.inl rK) (aJ cI aG au)) (aA (cA (bQ iQ (aJ bV aG au) au (bG _)) (aA (fP cz rK (uJ qf J (aj aW ao)) (bF (i:=4) m_.nd rK (Or.inl rK)) (aA (dD (f9 cn dr du jD bA (aj (aJ bV bN (aJ PX au au)) ao))) (aF (aU (i:=3) m_.nd rK (Or.inl rK) (aJ GP bN (aJ PX au au)))))) (aF (bf bA))) bI) (aA (aU (i:=3) m_.nd rK (Or.inl rK) (aJ bV bN au)) (aA (fP cz rK (uJ qf J (aj (aJ cL aW au) ao)) (bF (i:=4) m_.nd rK (Or.inl rK)) (aA (aU (i:=3) m_.nd rK (Or.inl rK) (aJ bV (aJ cL (aJ cL (aJ cL (aJ iM bN bN) (aJ iM au bN)) (aJ iM au cJ)) au) au)) (aF (dD (f9 cn dr du jD bA (aj (aJ cL (aJ iM (aJ bV (aJ iM bN au) au) au) (aJ bV bN au)) ao)))))) (aF (bf (dj vR bA (dI au) eE)))))))),?_⟩;calc⟨zsz 0,λp hp=>?_⟩;calc⟨_,rK,_,_,rK,rK,⟨qc,qc⟩,?_⟩;calc⟨_,rK,_,_,rK,rK,(by show (0:Int)<2;decide),rK,_,rK,?_⟩;refine jE (λ_=>?_) (λ_=>?_)
 .calc⟨_,rK,_,rK,p_,p_,?_⟩;rw[dv];refine oN (n:=m) (lo:=0) (λi σ F=>∃(n:Int) (I:Option V) (ds:List Int),σ=[some (.int c),some (.int m),some (.ref p),some (.int n),I]/\aB H F/\F p=some (.lst (ds.map V.int))/\ds.length=i)
   (JE _ none [] ⟨rK,aB.upd hp,aq,rK⟩) ?_ ?_
  .intro i σ F hi z;let⟨n,I,ds,rfl,G,j,hl⟩:=z;calc⟨_,rK,.inl ⟨rK,_,bC.of j⟩,_,rK,_,_,rK,rK,⟨qc,qc,qc⟩,_,_,rK,rK,(by show (0:Int)<10^20;decide),?_⟩;calc JE p _ _ ⟨rK,rK,j,by rw[aa,hl];show aK p_,?_⟩;calc⟨_,rK,_,_,rK,rK,⟨qc,qc,qc⟩,_,_,rK,rK,⟨by show (0:Int)<10^20;decide,qi⟩,?_⟩;show JE _ _ (ds++[n%(10:Int)^(20:Int).toNat]) ⟨rK,G.dH hp,by rw[aq];simp,by simp[hl]⟩
  .intro σ F z;let⟨n,I,ds,rfl,G,j,hl⟩:=z;show⟨_,rK,q p ds F G hp j hl⟩
 .calc⟨_,rK,_,_,rK,rK,(by show (0:Int)<2305843009213693951;decide),?_⟩;calc⟨_,rK,_,_,rK,rK,_,rK,p_,p_,?_⟩;let O:((m:Int)+1).toNat=m+1:=p_;rw[O];refine oN (n:=m+1) (lo:=0) (λi σ F=>∃(n:Int) (I:Option V) (ds:List Int),σ=[some (.int c),some (.int m),some (.ref p),some (.int n),I]/\aB H F/\F p=some (.lst (ds.map V.int))/\ds.length=i/\0<=n/\n<2305843009213693951)
   (JE _ none [] ⟨rK,aB.upd hp,aq,rK,df _ qc,di _ qc⟩) ?_ ?_
  .intro i σ F hi z;let⟨n,I,ds,rfl,G,j,hl,Y,n1⟩:=z;calc⟨_,rK,_,rK,_,_,rK,rK,.inl ⟨p_,p_⟩,_,rK,_,_,rK,rK,.inl ⟨qc,qc⟩,_,_,rK,rK,_,rK,_,_,rK,rK,.inl ⟨qc,qc⟩,_,_,rK,rK,_,_,rK,rK,_,_,rK,rK,(by show (0:Int)<2305843009213693951;decide),?_⟩;calc⟨_,rK,.inl ⟨rK,_,bC.of j⟩,?_⟩;calc⟨_,rK,_,_,rK,rK,.inr ⟨qc,qc⟩,_,_,rK,rK,(by show (0:Int)<2147483629;decide),_,_,rK,rK,.inr ⟨qc,qc⟩,_,rK,_,_,rK,rK,(by show (0:Int)<2147483587;decide),_,_,rK,rK,?_⟩;calc JE p _ _ ⟨rK,rK,j,by rw[aa,hl];show aK p_,?_⟩;show JE _ _ (ds++[_]) ⟨rK,G.dH hp,by rw[aq];simp;rfl,by simp[hl],df _ qc,di _ qc⟩
  .intro σ F z;let⟨n,I,ds,rfl,G,j,hl,Y,n1⟩:=z;calc⟨_,rK,_,rK,p,_,rK,bC.of j,λt ht=>?_⟩;let e:gQ (ds.map V.int) (some 1) none=(ds.drop 1).map V.int:=by
    unfold gQ;let e1:HT.cV (ds.map V.int).length 0 (some 1)=min 1 (ds.map V.int).length:=HT.lg _ _ 1;rw[e1,aa,hl];show List.take (m+1-min 1 (m+1)) (List.drop (min 1 (m+1)) (ds.map V.int))=_;rw[show min 1 (m+1)=1 by lia,ce (by rw[ba,aa];lia),oq]
   rw[e];show q t (ds.drop 1) _ (G.dH (G.free ht)) (G.free ht) aq (by rw[ba];lia)
def aaS:Sp:=λvs H Q _=>∃c:Int,vs=[.int c]/\∀ls:List Nat,XH ls->ls.length<=4->Q (.str (S ls)) H
def Yv (D:aM K mg "_law_letters" xW ["_law_cell"])(G:mg "range"=none):bU P w K mg base "_law_letters" 1 ["_law_cell"] aaS:=by
 calc D.dh rG (λf bH A outer s H vs Q E J h=>?_);let⟨c,rfl,q⟩:=h;calc⟨_,(aA (aU (i:=1) rG.nd rK (Or.inl rK) (bJ AL qi)) (aA (aU (i:=2) rG.nd rK (Or.inl rK) (bJ [] qi)) (aA (fP cz rK (uJ qf G (aj (aJ cL au (aJ bV (aJ cI aG au) au)) ao)) (bF (i:=3) rG.nd rK (Or.inl rK)) (aF (aU (i:=2) rG.nd rK (Or.inl rK) (aJ mO bA (aY zZ aW (aJ bV (aJ cL (aJ cI aG au) (aJ iM bN (aJ cL au (aJ bV (aJ cI aG au) au)))) au) (λ_ _=>rfl)))))) (aF (bf bA))))),?_⟩;let I:=df (c/8) (show (3:Int)≠0 by decide);let O:=di (c/8) (show (0:Int)<3 by decide);calc⟨_,rK,_,_,rK,rK,⟨qc,qc⟩,_,_,rK,rK,(by show (0:Int)<3;decide),_,_,rK,rK,_,rK,p_,p_,?_⟩;refine oN (lo:=0) (λi σ F=>F=H/\∃(j:Option V) (ls:List Nat),σ=[some (.int c),some (.str (S AL)),some (.str (S ls)),j]/\ls.length=i/\∀c∈ls,isLet c) ⟨rK,none,[],rK,rK,λc h=>by simp at h⟩ ?_ ?_
 .intro i σ F hi z;let⟨rfl,j,ls,rfl,hl,ha⟩:=z;let⟨x,hx,hm⟩:=vU (xs:=AL) (n:=26) qc qc (c/24+(0+(i:Int))*(1+c/624%8));calc⟨_,rK,_,rK,_,rK,_,_,rK,rK,⟨qc,qc⟩,_,rK,_,rK,_,_,rK,rK,⟨qc,qc⟩,_,_,rK,rK,(by show (0:Int)<8;decide),_,_,rK,rK,_,_,rK,rK,.inl ⟨p_,p_⟩,_,_,rK,rK,_,_,rK,rK,(by show (0:Int)<26;decide),?_⟩;calc JE AL _ x ⟨rK,rK,qc,hx,ls,[x],rK,rK,?_,?_⟩;.show ap (aK (by show ls.length+1<=1000;lia))
  .calc⟨rK,_,ls++[x],rK,by simp[hl],λy hy=>?_⟩;rcases bu.mp hy with z|z;.show ha y z
   .rw[a_.mp z];show aiL x hm
 .intro σ F z;let⟨rfl,j,ls,rfl,hl,ha⟩:=z;show⟨_,rK,q ls ⟨p_,p_,ha⟩ p_⟩
def R9:Sp:=λvs H Q _=>∃(c:Int) (ls:List Nat),vs=[.int c,.str (S ls)]/\XH ls/\∀(p:Addr) (ws:AA) (H':Hp),aB H H'->H p=none->H' p=some (.lst (Ts ws))->4<=ws.length->ws.length<=12->(∀l∈ws,yJ l)->Q (.ref p) H'
def Lp (D:aM K mg "_law_words" Fg ["_law_cell","_law_letters_here"])(fQ:mg "range"=none)(bB:mg "len"=none)(nW:bU P w K mg base "_law_stream" 1 ["_law_cell","_law_many"] tW):bU P w K mg base "_law_words" 2 ["_law_cell","_law_letters_here"] R9:=by
 calc D.dh mC (λf bH A outer s H vs Q E hr h=>?_);let⟨c,ls,rfl,hA,q⟩:=h;let a1:=hA.lo;let a2:=hA.hi;let d0:=df c (show (9:Int)≠0 by decide);let d1:=di c (show (0:Int)<9 by decide);calc⟨_,(aA (aU (i:=2) mC.nd rK (Or.inl rK) (jH ao)) (aA (fP cz rK (oh (bD nW hr.mono rK (aj aG (aj (aJ cL au (aJ bV aG au)) ao)))) (bF (i:=3) mC.nd rK (Or.inl rK)) (aA (aU (i:=4) mC.nd rK (Or.inl rK) (aJ cL au (aJ bV bN au))) (aA (fU (cA (bQ iQ (aJ bV (aJ cI bN au) au) au (bG _)) (aF (aU (i:=4) mC.nd rK (Or.inl rK) (aJ cL au (aJ bV (aJ cI bN au) au)))) bI)) (aA (aU (i:=5) mC.nd rK (Or.inl rK) (bJ [] qi)) (aA (aU (i:=6) mC.nd rK (Or.inl rK) (aJ cI bN au)) (aA (fP cz rK (uJ qf fQ (aj cJ ao)) (bF (i:=7) mC.nd rK (Or.inl rK)) (aA (aU (i:=5) mC.nd rK (Or.inl rK) (aJ mO dF (aY zZ aW (aJ bV fG (aO cZ qf bB aE (aj aW ao))) (λ_ _=>rfl)))) (aF (aU (i:=6) mC.nd rK (Or.inl rK) (aJ cI fG (aO cZ qf bB aE (aj aW ao))))))) (aF (dD (f9 cn dr du jD bA (aj dF ao)))))))))) (aF (bf bA)))),?_⟩;calc⟨zsz 0,λL hL=>?_⟩;let sL:aB H (upd H L (HO.lst [])):=aB.upd hL;let eL:upd H L (HO.lst []) L=some (.lst (Ts [])):=aq;generalize upd H L (HO.lst [])=H0 at sL eL ⊢;calc⟨_,rK,_,rK,_,_,rK,rK,(by show (0:Int)<9;decide),_,_,rK,rK,c,(4+c%9).toNat,(by rw[cp p_];rfl),p_,λp ds H1 s1 O hp hdl=>?_⟩;refine⟨p,rK,⟨_,bC.of hp⟩,nC (K:=K) (a:=p) (xs:=ds.map V.int) (λi σ G=>∃(v3 v4 Y Z J:Option V) (ws:AA),σ=[some (.int c),some (.str (S ls)),some (.ref L),v3,v4,Y,Z,J]/\(∀b o,H1 b=some o->b≠L->G b=some o)/\G L=some (.lst (Ts ws))/\ws.length=i/\∀l∈ws,yJ l)
  (JO none none none none none [] ⟨rK,λ_ _ e _=>e,s1 _ _ eL,rK,λl h=>by cases h⟩) (λi σ G _ h=>?_) ?_ ?_⟩
 .let⟨_,_,_,_,_,_,_,kp,_⟩:=h;show bC.of (kp _ _ hp λz=>by subst z;rw[eL]at O;cases O)
 .intro i x σ G hx z;let⟨v3,v4,Y,Z,J,ws,rfl,kp,F,I,hw⟩:=z;rw[bS]at hx;let⟨n,hn,rfl⟩:=c9.mp hx;let hi:i<ds.length:=(ah.mp hn).1;let e0:=df n (show (3:Int)≠0 by decide);let e1:=di n (show (0:Int)<3 by decide);let f0:=df (n/24) (show (8:Int)≠0 by decide);let f1:=di (n/24) (show (0:Int)<8 by decide);calc⟨_,rK,_,_,rK,rK,(by show (0:Int)<3;decide),_,_,rK,rK,?_⟩;refine⟨λσ H'=>H'=G/\∃m:Nat,σ=[some (.int c),some (.str (S ls)),some (.ref L),some (.int n),some (.int m),Y,Z,J]/\2<=m/\m<=9,?_,?_⟩
  .calc⟨_,rK,_,_,rK,rK,⟨qc,qc⟩,_,_,rK,rK,(by show (0:Int)<8;decide),rK,_,rK,?_⟩;calc jE (λ_=>?_) (λ_=>?_);.show⟨_,rK,_,_,rK,rK,⟨qc,qc⟩,_,_,rK,rK,(by show (0:Int)<8;decide),_,_,rK,rK,rK,(2+n/24%8).toNat,by rw[cp p_];rfl,p_,p_⟩
   .show⟨rK,(2+n%3).toNat,by rw[cp p_];rfl,p_,p_⟩
  .intro σ H' z;let⟨rfl,m,rfl,m2,m9⟩:=z;calc⟨_,rK,_,_,rK,rK,⟨qc,qc⟩,?_⟩;calc⟨_,rK,_,rK,p_,p_,?_⟩;refine oN (lo:=0) (λj σ H3=>H3=H'/\∃(kv:Option V) (l:List Nat) (r:Int),σ=[some (.int c),some (.str (S ls)),some (.ref L),some (.int n),some (.int m),some (.str (S l)),some (.int r),kv]/\l.length=j/\∀c∈l,isLet c) ⟨rK,J,[],_,rK,rK,λc h=>by cases h⟩ ?_ ?_
   .intro j σ H3 hj z;let⟨rfl,kv,l,r,rfl,hl,ha⟩:=z;let hz:ls.length<=sizeLine:=ap (aK p_);let⟨x,hx,hm⟩:=vU (xs:=ls) (n:=ls.length) rK p_ r;calc⟨_,rK,_,rK,_,rK,_,rK,ls,rK,hz,_,_,rK,rK,(by show (0:Int)<_;lia),ls,_,x,rK,rK,hz,hx,l,[x],rK,rK,?_,?_⟩;.show ap (aK (by show l.length+1<=1000;lia))
    .calc⟨_,rK,_,rK,ls,rK,hz,_,_,rK,rK,⟨by show (0:Int)<_;lia,by show (ls.length:Int)<_;lia⟩,rK,_,l++[x],_,rK,by simp[hl],λy hy=>?_⟩;rcases bu.mp hy with z|z;.show ha y z
     .rw[a_.mp z];show hA.az x hm
   .intro σ H3 z;let⟨rfl,kv,l,r,rfl,hl,ha⟩:=z;calc⟨_,rK,.inl ⟨rK,_,bC.of F⟩,_,rK,L,_,.str (S l),rK,rK,F,aK (by rw[aa];lia),?_⟩;calc JO _ _ _ _ _ (ws++[l]) ⟨rK,λb o e ne=>by rw[aV ne];show kp b o e ne,by rw[aq];simp[Ts],by simp[I],λy hy=>?_⟩;rcases bu.mp hy with z|z;.show hw y z
    .rw[a_.mp z];show⟨p_,p_,ha⟩
 .intro σ G z;let⟨v3,v4,Y,Z,J,ws,rfl,kp,F,I,hw⟩:=z;rw[aa,hdl]at I;show⟨_,rK,q L ws G (λb o e=>kp _ _ (s1 _ _ (sL _ _ e)) (aX e hL)) hL F p_ p_ hw⟩
def R_:Sp:=λvs H Q _=>∃(c bl:Int) (ls:List Nat) (m:Nat),vs=[.int c,.str (S ls),.int m,.int bl]/\XH ls/\m<=100/\∀(l:List Nat) (H':Hp),aB H H'->l.length=m->(∀c∈l,oM c)->Q (.str (S l)) H'
def acG (D:aM K mg "_law_tiles" Fi ["_law_cell","_law_letters_here","_law_many","_law_blanks"])(bB:mg "len"=none)(nW:bU P w K mg base "_law_stream" 1 ["_law_cell","_law_many"] tW):bU P w K mg base "_law_tiles" 2 ["_law_cell","_law_letters_here","_law_many","_law_blanks"] R_:=by
 calc D.dh wH (λf bH A outer s H vs Q E hr h=>?_);let⟨c,bl,ls,m,rfl,Y,hm,q⟩:=h;let a1:=Y.lo;let a2:=Y.hi;let hz:ls.length<=sizeLine:=ap (aK p_);calc⟨_,(aA (aU (i:=4) wH.nd rK (Or.inl rK) (bJ [] qi)) (aA (fP cz rK (oh (bD nW hr.mono rK (aj aG (aj bA ao)))) (bF (i:=5) wH.nd rK (Or.inl rK)) (aF (cA (QW.qt (zm (bQ iQ (aJ bV dF au) au (bG _)) (Fb (bQ vo (f9 bo PySem.F.slot_str_count PySem.F.type_str_count Z5 cJ (aj (bJ [63] qi) ao)) bN (bG _))))) (aF (aU (i:=4) wH.nd rK (Or.inl rK) (aJ mO cJ (bJ [63] qi)))) (aF (aU (i:=4) wH.nd rK (Or.inl rK) (aJ mO cJ (aY zZ aW (aJ bV (aJ cI dF au) (aO cZ qf bB aE (aj aW ao))) (λ_ _=>rfl)))))))) (aF (bf cJ)))),?_⟩;calc⟨_,rK,_,rK,c,m,rK,hm,λp ds H1 s1 hp0 hp O=>?_⟩;refine⟨p,rK,⟨_,bC.of hp⟩,nC (K:=K) (a:=p) (xs:=ds.map V.int) (λi σ G=>G=H1/\∃(J:Option V) (l:List Nat),σ=[some (.int c),some (.str (S ls)),some (.int m),some (.int bl),some (.str (S l)),J]/\l.length=i/\∀c∈l,oM c)
  ⟨rK,none,[],rK,rK,λc h=>by cases h⟩ (λi σ G _ h=>by let⟨rfl,_⟩:=h;show bC.of hp) ?_ ?_⟩
 .intro i x σ G hx z;let⟨rfl,J,l,rfl,hl,ht⟩:=z;rw[bS]at hx;let⟨n,hn,rfl⟩:=c9.mp hx;let hi:i<ds.length:=(ah.mp hn).1;let j:l.length+1<=sizeLine:=ap (aK p_);let I:∀x,oM x->(G=G/\∃(J:Option V) (l':List Nat),[some (V.int c),some (.str (S ls)),some (.int m),some (.int bl),some (.str (S (l++[x]))),some (.int n)]=[some (.int c),some (.str (S ls)),some (.int m),some (.int bl),some (.str (S l')),J]/\l'.length=i+1/\∀c∈l',oM c):=λx hx=>⟨rK,_,l++[x],rK,by simp[hl],λy hy=>by
   rcases bu.mp hy with z|z;.show ht y z
   .rw[a_.mp z];show hx⟩
  let⟨y,hy,Z⟩:=vU (xs:=ls) (n:=ls.length) rK p_ (n/9);let F:=(show oM y from .inl (Y.az y Z))
  calc⟨_,rK,_,_,rK,rK,(by show (0:Int)<9;decide),rK,_,rK,?_⟩;refine jE (λ_=>?_) (λ_=>?_)
  .calc⟨_,rK,rK,l,[63],rK,rK,λk=>⟨_,rK,_,_,rK,rK,_,rK,?_⟩⟩;calc jE (λ_=>?_) (λ_=>?_);.show⟨_,rK,l,[63],rK,rK,j,I 63 (.inr rK)⟩
   .show⟨_,rK,_,rK,_,rK,_,_,rK,rK,⟨qc,qc⟩,_,rK,ls,rK,hz,_,_,rK,rK,(by show (0:Int)<_;lia),ls,_,y,rK,rK,hz,hy,l,[y],rK,rK,j,I y F⟩
  .show⟨_,rK,_,rK,_,rK,_,_,rK,rK,⟨qc,qc⟩,_,rK,ls,rK,hz,_,_,rK,rK,(by show (0:Int)<_;lia),ls,_,y,rK,rK,hz,hy,l,[y],rK,rK,j,I y F⟩
 .intro σ G z;let⟨rfl,J,l,rfl,hl,ht⟩:=z;rw[aa,O]at hl;show⟨_,rK,q l G s1 hl ht⟩
def chunk (r k:Nat)(cs:List Nat):List (List Nat):=(List.range r).map λi=>(cs.drop (i*k)).take k
def Nz {r k:Nat}{cs:List Nat}(h:cs.length=r*k):Blk r k (chunk r k cs):=by
 calc⟨by simp[chunk],λl hl=>?_⟩;let⟨i,hi,rfl⟩:=bc.mp hl;let j:=gS.mp hi;let D:i*k+k<=r*k:=by have:(i+1)*k<=r*k:=nI k j;rw[o0]at this;show this
 rw[av,ba];lia
def NK {r k:Nat}{cs:List Nat}{j:Nat->Prop}(h:∀c∈cs,j c):∀l∈chunk r k cs,∀c∈l,j c:=by intro l hl c D;let⟨i,hi,rfl⟩:=bc.mp hl;show h c (ed (cy D))
def Wk:Sp:=λvs H Q _=>∃(c:Int) (ls:List Nat),vs=[.int c,.str (S ls)]/\XH ls/\
 ∀(t pr pm pb:Addr) (r w:Nat) (aD aL:AA) (i j:Nat) (H':Hp),aB H H'->H' t=some (.tup [.ref pr,.ref pm,.ref pb])->H' pr=some (.tup (Ts aD))->H' pm=some (.tup (Ts aL))->H' pb=some (.tup [.int i,.int j])->QV r w aD aL i j->Q (.ref t) H'
def acH:List Nat:=MK++(List.replicate 8 [46]).flatten
def ae4:∀c∈acH,Jv c:=by unfold Jv;decide
def acI (cs:List Nat)(j x:Nat):(Ts (ones cs)).set j (.str (S [x]))=Ts (ones (cs.set j x)):=by simp only[Ts,ones,nE]
def mem_set {cs:List Nat}{j x:Nat}{p:Nat->Prop}(h:∀c∈cs,p c)(hx:p x):∀c∈cs.set j x,p c:=λc D=>by
 rcases fN D with e|e;.show h c e
 .rw[e];show hx
def adT {y:Nat}(h:isLet y):PyProof.Rows.up1 y=y-32:=by let h1:=h.1;let h2:=h.2;unfold PyProof.Rows.up1;rw[if_pos p_]
def ae5 (D:aM K mg "_law_rows" Jr ["_law_cell","_law_letters_here"])(fQ:mg "range"=none)(bB:mg "len"=none)(cD:mg "tuple"=none)(nW:bU P w K mg base "_law_stream" 1 ["_law_cell","_law_many"] tW):bU P w K mg base "_law_rows" 2 ["_law_cell","_law_letters_here"] Wk:=by
 calc D.dh jR (λf bH A outer s H vs Q E hr h=>?_);let⟨c,ls,rfl,hA,q⟩:=h;let a1:=hA.lo;let a2:=hA.hi;let hz:ls.length<=sizeLine:=ap (aK p_);calc⟨_,(aA (aU (i:=2) jR.nd rK (Or.inl rK) (aJ cL au (aJ bV aG au))) (aA (aU (i:=3) jR.nd rK (Or.inr rK) (aJ cL au (aJ bV (aJ cI aG au) au))) (aA (fU (cA (bQ iQ (aJ bV (aJ cI aG au) au) au (bG _)) (aA (aU (i:=2) jR.nd rK (Or.inl rK) (aJ cL au (aJ bV (aJ cI aG au) au))) (aF (aU (i:=3) jR.nd rK (Or.inr rK) (aJ cL au (aJ bV (aJ cI aG au) au))))) bI)) (aA (aU (i:=4) jR.nd rK (Or.inl rK) (aJ Zv (jH (aj (bJ [46] qi) ao)) (aJ iM bA bN))) (aA (aU (i:=5) jR.nd rK (Or.inl rK) (jH ao)) (aA (fP cz rK (oh (bD nW hr.mono rK (aj (aJ cL aG au) (aj (aJ iM bA bN) ao)))) (bF (i:=6) jR.nd rK (Or.inl rK)) (aA (dD (f9 cn dr du jD dF (aj (aY zZ (aJ mO (bJ [46,50,51,52,98,99,100] qi) (aJ ael (bJ [46] qi) au)) (aJ bV (aJ cI fG au) au) (λ_ _=>rfl)) ao))) (aF (fU (cA (QW.qt (zm (bQ iQ (aJ bV (aJ cI aG au) au) au (bG _)) (Fb (bQ iQ (aJ bV fG au) au (bG _))))) (aA (aU (i:=7) jR.nd rK (Or.inl rK) (aY zZ aW (aJ bV (aJ cI fG au) (aO cZ qf bB aE (aj aW ao))) (λ_ _=>rfl))) (aA (fU (cA (bQ iQ (aJ bV (aJ cI fG au) au) au (bG _)) (aF (aU (i:=7) jR.nd rK (Or.inl rK) (zp bo PySem.F.slot_str_upper PySem.F.type_str_upper ZS iJ))) bI)) (aF (qZ iJ (Qn cJ (aJ bV (aJ cI fG au) (aO bY qf bB aE (aj cJ ao))) set_list))))) bI))))) (aA (aU (i:=8) jR.nd rK (Or.inl rK) (cR (aj (aJ bV (aJ cI aG au) bA) (aj (aJ bV (aJ cI aG au) bN) ao)))) (aA (aU (i:=9) jR.nd rK (Or.inl rK) (jH ao)) (aA (fP cz rK (oh (jH (aj cJ (aj dF ao)))) (bF (i:=10) jR.nd rK (Or.inr rK)) (aF (dD (f9 cn dr du jD jN (aj (eO i_ qf cD ck (aj (jO rK (jf.of jR.nd qh) (ZV qf fQ (aj au (aj (aO bY qf bB aE (aj jh ao)) (aj bN ao)))) (λ_ _ _ _ _=>dX) (λ_ _ _ _ _=>(Qs K bo c_ de (GR K) (bJ [] qi) (aj (dj (abX K) lC (dI aG) (dI (aJ cL aG cJ))) ao)))) ao)) ao))))) (aF (bf (cR (aj (aY iH jN au (λ_ _=>rfl)) (aj (aY iH jN au (λ_ _=>rfl)) (aj jZ ao))))))))))))))),?_⟩;calc⟨_,rK,_,_,rK,rK,(by show (0:Int)<5;decide),_,_,rK,rK,?_⟩;calc⟨_,rK,_,_,rK,rK,⟨qc,qc⟩,_,_,rK,rK,(by show (0:Int)<5;decide),_,_,rK,rK,?_⟩;refine⟨λσ H'=>H'=H/\∃r w:Nat,σ=[some (.int c),some (.str (S ls)),some (.int r),some (.int w),none,none,none,none,none,none,none]/\1<=r/\r<=9/\1<=w/\w<=9,?_,?_⟩
 .calc⟨_,rK,_,_,rK,rK,⟨qc,qc⟩,_,_,rK,rK,(by show (0:Int)<8;decide),rK,_,rK,?_⟩;refine jE (λ_=>?_) (λ_=>?_)
  .calc⟨_,rK,_,_,rK,rK,⟨qc,qc⟩,_,_,rK,rK,(by show (0:Int)<8;decide),_,_,rK,rK,?_⟩;calc⟨_,rK,_,_,rK,rK,⟨qc,qc⟩,_,_,rK,rK,(by show (0:Int)<8;decide),_,_,rK,rK,rK,(2+c/200%8).toNat,(2+c/1600%8).toNat,?_,p_,p_,p_,p_⟩;rw[cp p_,cp p_];rfl
  .calc⟨rK,(2+c%5).toNat,(2+c/5%5).toNat,?_,p_,p_,p_,p_⟩;rw[cp p_,cp p_];rfl
 intro σ H' z;let⟨rfl,r,w,rfl,r1,r9,w1,w9⟩:=z;let hrw:r*w<=81:=gp r9 w9;let aj2:1<=r*w:=gp r1 w1;let erw:(r:Int)*(w:Int)=((r*w:Nat):Int):=by push_cast;rfl
 calc⟨zsz 1,λL0 h0=>?_⟩;calc⟨_,rK,_,rK,_,_,rK,rK,.inl ⟨p_,p_⟩,L0,_,_,rK,rK,aq,by rw[erw];lia,by rw[erw];lia,?_,λL hL=>?_⟩;.rw[erw,dv];show ap (aK (by simp only[dq,pk];lia))
 rw[erw,dv];let sL:aB H' (upd (upd H' L0 (HO.lst [.str (S [46])])) L (HO.lst (List.replicate (r*w) [V.str (S [46])]).flatten)):=(aB.upd h0).trans (aB.upd hL);let eL:upd (upd H' L0 (HO.lst [.str (S [46])])) L (HO.lst (List.replicate (r*w) [V.str (S [46])]).flatten) L=some (.lst (Ts (ones (List.replicate (r*w) 46)))):=by rw[aq];congr 2;simp[Ts,ones]
 let fL:H' L=none:=by
  cases e:H' L with| none=>rfl| some o=>rw[aB.upd h0 _ _ e]at hL;cases hL
 generalize upd (upd H' L0 (HO.lst [.str (S [46])])) L (HO.lst (List.replicate (r*w) [V.str (S [46])]).flatten)=H1 at sL eL ⊢;calc⟨zsz 0,λM hM=>?_⟩;let sM:aB H1 (upd H1 M (HO.lst [])):=aB.upd hM;let eM:upd H1 M (HO.lst []) M=some (.lst (Ts (ones []))):=aq;let LM:L≠M:=aX eL hM;generalize upd H1 M (HO.lst [])=H2 at sM eM ⊢;calc⟨_,rK,_,_,rK,rK,_,rK,_,rK,_,_,rK,rK,.inl ⟨p_,p_⟩,c+3,r*w,(by show [V.int (c+3),V.int ((r:Int)*(w:Int))]=_;rw[erw]),p_,λp ds H3 s3 hp0 hp hdl=>?_⟩;let pL:p≠L:=λz=>by subst z;rw[sM _ _ eL]at hp0;cases hp0
 let pM:p≠M:=λz=>by subst z;rw[eM]at hp0;cases hp0
 refine⟨p,rK,⟨_,bC.of hp⟩,nC (K:=K) (a:=p) (xs:=ds.map V.int) (λi σ G=>∃(v6 v7:Option V) (cs F:List Nat),σ=[some (.int c),some (.str (S ls)),some (.int r),some (.int w),some (.ref L),some (.ref M),v6,v7,none,none,none]/\(∀b o,H3 b=some o->b≠L->b≠M->G b=some o)/\G L=some (.lst (Ts (ones cs)))/\cs.length=r*w/\(∀c∈cs,BJ c)/\G M=some (.lst (Ts (ones F)))/\F.length=i/\(∀c∈F,Jv c))
  (JI none none (List.replicate (r*w) 46) [] ⟨rK,λ_ _ e _ _=>e,s3 _ _ (sM _ _ eL),cq,(λc hc=>.inl (List.eq_of_mem_replicate hc)),s3 _ _ eM,rK,λc h=>by cases h⟩) (λi σ G _ h=>?_) ?_ ?_⟩
 .let⟨_,_,_,_,_,kp,_⟩:=h;show bC.of (kp _ _ hp pL pM)
 .intro i x σ G hx z;let⟨v6,v7,cs,F,rfl,kp,zE,O,Wm,Gk,J,hmk⟩:=z;rw[bS]at hx;let⟨n,hn,rfl⟩:=c9.mp hx;let hi:i<ds.length:=(ah.mp hn).1;let⟨x,hx,hxm⟩:=vU (xs:=acH) (n:=15) qc qc (n/11);calc⟨_,rK,.inl ⟨rK,_,bC.of Gk⟩,[46],8,rK,rK,qc,qc,qc,MK,_,rK,rK,qc,_,rK,_,_,rK,rK,⟨qc,qc⟩,_,_,rK,rK,(by show (0:Int)<15;decide),acH,_,x,rK,rK,qc,hx,M,_,_,rK,rK,Gk,aK (by rw[aa,aa];lia),?_⟩;let hM5:upd G M (HO.lst (Ts (ones F)++[.str (S [x])])) M=some (.lst (Ts (ones (F++[x])))):=by rw[aq];simp[Ts,ones]
  let hL5:upd G M (HO.lst (Ts (ones F)++[.str (S [x])])) L=some (.lst (Ts (ones cs))):=by rw[aV LM];show zE
  let kp5:∀b o,H3 b=some o->b≠L->b≠M->upd G M (HO.lst (Ts (ones F)++[.str (S [x])])) b=some o:=λb o e n1 n2=>by rw[aV n2];show kp b o e n1 n2
  generalize upd G M (HO.lst (Ts (ones F)++[.str (S [x])]))=H5 at hM5 hL5 kp5 ⊢;let ahu:∀c∈F++[x],Jv c:=λy hy=>by
   rcases bu.mp hy with z|z;.show hmk y z
   .rw[a_.mp z];show ae4 x hxm
  let stay:∀v7',∃(v6 v7:Option V) (cs F:List Nat),[some (V.int c),some (.str (S ls)),some (.int r),some (.int w),some (.ref L),some (.ref M),some (.int n),v7',none,none,none]=[some (.int c),some (.str (S ls)),some (.int r),some (.int w),some (.ref L),some (.ref M),v6,v7,none,none,none]/\(∀b o,H3 b=some o->b≠L->b≠M->H5 b=some o)/\H5 L=some (.lst (Ts (ones cs)))/\cs.length=r*w/\(∀c∈cs,BJ c)/\H5 M=some (.lst (Ts (ones F)))/\F.length=i+1/\(∀c∈F,Jv c):=λv7'=>(JI _ _ cs (F++[x]) ⟨rK,kp5,hL5,O,Wm,hM5,by simp[J],ahu⟩)
  calc⟨λσ Y=>∃(v6 v7:Option V) (cs F:List Nat),σ=[some (.int c),some (.str (S ls)),some (.int r),some (.int w),some (.ref L),some (.ref M),v6,v7,none,none,none]/\(∀b o,H3 b=some o->b≠L->b≠M->Y b=some o)/\Y L=some (.lst (Ts (ones cs)))/\cs.length=r*w/\(∀c∈cs,BJ c)/\Y M=some (.lst (Ts (ones F)))/\F.length=i+1/\(∀c∈F,Jv c),?_,λσ Y h=>h⟩;calc⟨_,rK,_,_,rK,rK,⟨qc,qc⟩,_,_,rK,rK,(by show (0:Int)<3;decide),rK,_,rK,?_⟩;refine jE (λ_=>?_) (λ_=>?_)
  .calc⟨_,rK,_,_,rK,rK,(by show (0:Int)<9;decide),rK,_,rK,?_⟩;refine jE (λ_=>?_) (λ_=>?_)
   .let⟨y,hy,hym⟩:=vU (xs:=ls) (n:=ls.length) rK p_ (n/9);let yz:=hA.az y hym;calc⟨_,rK,_,rK,_,_,rK,rK,⟨qc,qc⟩,_,rK,ls,rK,hz,_,_,rK,rK,(by show (0:Int)<_;lia),ls,_,y,rK,rK,hz,hy,?_⟩;refine⟨λσ Y=>Y=H5/\∃u:Nat,σ=[some (V.int c),some (.str (S ls)),some (.int r),some (.int w),some (.ref L),some (.ref M),some (.int n),some (.str (S [u])),none,none,none]/\qN u,?_,?_⟩
    .calc⟨_,rK,_,_,rK,rK,⟨qc,qc⟩,_,_,rK,rK,(by show (0:Int)<5;decide),rK,_,rK,?_⟩;calc jE (λ_=>?_) (λ_=>⟨rK,y,rK,aak yz⟩);calc⟨_,rK,rK,[y],rK,rK,(by show 1<=1000;decide),(λc hc=>by rw[a_.mp hc];have:=yz.2;lia),rK,PyProof.Rows.up1 y,rK,?_⟩;have:PyProof.Rows.up1 y=y-32:=adT yz;rw[this];show aal yz
    .intro σ Y z;let⟨rfl,u,rfl,hu⟩:=z;let hpos:(0:Int)<((r*w:Nat):Int):=p_;let b0:=df (n/100) (show ((r*w:Nat):Int)≠0 by lia);let b1:=di (n/100) hpos;let pZ:(Ts (ones cs)).length=r*w:=by rw[aa,aa,O]
     refine⟨_,rK,_,rK,_,rK,_,_,rK,rK,⟨qc,qc⟩,_,rK,L,_,rK,.inl (bC.of hL5),_,_,rK,rK,(by show (0:Int)<_;rw[pZ];show hpos),L,_,_,(n/100%((r*w:Nat):Int)).toNat,rK,rK,hL5,?_,?_⟩
     .unfold Bw;rw[pZ,if_pos p_,if_pos p_]
     .rw[acI];calc JI _ _ (cs.set (n/100%((r*w:Nat):Int)).toNat u) (F++[x]) ⟨rK,λb o e n1 n2=>by rw[aV n1];show kp5 b o e n1 n2,aq,by rw[eW];show O,mem_set Wm (.inr hu),?_,by simp[J],ahu⟩;rw[aV LM.symm];show hM5
   .show stay _
  .show stay _
 .intro σ G z;let⟨v6,v7,cs,F,rfl,kp,zE,O,Wm,Gk,J,hmk⟩:=z;rw[aa,hdl]at J;let sm:aB H' G:=λb o e=>kp _ _ (s3 _ _ (sM _ _ (sL _ _ e))) (aX e fL) (λz=>by subst z;rw[sL _ _ e]at hM;cases hM);calc⟨_,rK,_,_,rK,rK,⟨qc,qc⟩,_,rK,_,_,rK,rK,(by show (0:Int)<_;lia),_,rK,_,_,rK,rK,⟨qc,qc⟩,_,rK,_,_,rK,rK,(by show (0:Int)<_;lia),zsz 2,λpb hpb=>?_⟩;let d0:=df (c/38400) (show (r:Int)≠0 by lia);let d1:=di (c/38400) (show (0:Int)<r by lia);let f0:=df (c/345600) (show (w:Int)≠0 by lia);let f1:=di (c/345600) (show (0:Int)<w by lia);let sB:aB G (upd G pb (HO.tup [V.int (c/38400%r),V.int (c/345600%w)])):=aB.upd hpb;let eB:upd G pb (HO.tup [V.int (c/38400%r),V.int (c/345600%w)]) pb=some (.tup [.int ((c/38400%r).toNat:Nat),.int ((c/345600%w).toNat:Nat)]):=by
   rw[aq,cp d0,cp f0]
  generalize upd G pb (HO.tup [V.int (c/38400%r),V.int (c/345600%w)])=H5 at sB eB ⊢;calc⟨zsz 0,λT hT=>?_⟩;let sT:aB H5 (upd H5 T (HO.lst [])):=aB.upd hT;let eT:upd H5 T (HO.lst []) T=some (.lst (([]:List Addr).map V.ref)):=aq;let fT:H' T=none:=by
   cases e:H' T with| none=>rfl| some o=>rw[sB _ _ (sm _ _ e)]at hT;cases hT
  generalize upd H5 T (HO.lst [])=Y at sT eT ⊢;calc⟨_,rK,_,rK,zsz 2,λZ hZ=>?_⟩;let sZ:aB Y (upd Y Z (HO.lst [V.ref L,V.ref M])):=aB.upd hZ;let eZ:upd Y Z (HO.lst [V.ref L,V.ref M]) Z=some (.lst ([L,M].map V.ref)):=aq;let ZT:Z≠T:=(aX eT hZ).symm;generalize upd Y Z (HO.lst [V.ref L,V.ref M])=H7 at sZ eZ ⊢;let s47:aB G H7:=(sB.trans sT).trans sZ;let get:∀{i:Nat} {x:V},([L,M].map V.ref)[i]?=some x->∃a ds,x=.ref a/\[cs,F][i]?=some ds/\H7 a=some (.lst (Ts (ones ds)))/\ds.length=r*w:=λ{i x} h=>by
   match i,h with
   | 0,h=>cases h;show JA L cs ⟨rK,rK,s47 _ _ zE,O⟩
   | 1,h=>cases h;show JA M F ⟨rK,rK,s47 _ _ Gk,J⟩
   | i+2,h=>simp at h
  refine⟨Z,rK,⟨_,bC.of eZ⟩,nC (K:=K) (a:=Z) (xs:=[L,M].map V.ref) (λi σ H8=>∃(v:Option V) (as:List Addr),σ=[some (.int c),some (.str (S ls)),some (.int r),some (.int w),some (.ref L),some (.ref M),v6,v7,some (.ref pb),some (.ref T),v]/\(∀b o,H7 b=some o->b≠T->H8 b=some o)/\H8 T=some (.lst (as.map V.ref))/\as.length=i/\∀k a ds,as[k]?=some a->[cs,F][k]?=some ds->H8 a=some (.tup (Ts (chunk r w ds))))
   (JA none [] ⟨rK,λ_ _ e _=>e,sZ _ _ eT,rK,λk a ds (h:([]:List Addr)[k]?=some a) _=>by rw[List.getElem?_nil]at h;cases h⟩) (λi σ H8 _ h=>?_) ?_ ?_⟩
  .let⟨_,_,_,kp,_⟩:=h;show bC.of (kp _ _ eZ ZT)
  .intro i x σ H8 hx z;let⟨v,as,rfl,kp8,I,hal,hch⟩:=z;let⟨a,es,rfl,hes,ha7,hel⟩:=get hx;let aT:a≠T:=xr ha7 (sZ _ _ eT) λz=>by
    injection z with z;cases es with| nil=>simp at hel;lia| cons e es=>cases z
   let ha8:=kp8 _ _ ha7 aT;let pZ:(Ts (ones es)).length=r*w:=by rw[aa,aa,hel]
   let hi2:i<2:=(ah.mp hx).1;calc⟨_,rK,.inl ⟨rK,_,bC.of I⟩,_,rK,a,_,rK,.inl (bC.of ha8),_,rK,r,w,by rw[pZ],r1,r9,w1,w9,λN hN=>?_⟩;refine T4 (λi ys H9=>ys=Ts ((List.range i).map λi=>(es.drop (i*w)).take w)/\H9 N=some (.lst ys)/\aB H8 H9) ⟨rK,aq,aB.upd hN⟩ ?_ ?_
   .intro k ys H9 hk z;let⟨rfl,hN9,Sd⟩:=z;let e1:(0:Int)+(k:Int)*(w:Int)=((k*w:Nat):Int):=by push_cast;lia
    let e2:(0:Int)+(k:Int)*(w:Int)+(w:Int)=((k*w+w:Nat):Int):=by push_cast;lia
    let hik:k*w+w<=r*w:=by have:(k+1)*w<=r*w:=nI w hk;rw[o0]at this;show this
    calc⟨rK,_,rK,_,rK,_,rK,_,rK,_,rK,_,_,rK,rK,_,rK,a,_,rK,bC.of (Sd _ _ ha8),λt ht=>?_⟩;let ec:gQ (Ts (ones es)) (some ((0:Int)+(k:Int)*(w:Int))) (some ((0:Int)+(k:Int)*(w:Int)+(w:Int)))=Ts (ones ((es.drop (k*w)).take w)):=by rw[e2,e1,aeL p_ (by rw[pZ];show hik),lL];simp only[Ts,ones,List.map_take,oq]
    let aiT:((es.drop (k*w)).take w).length=w:=by rw[av,ba];lia
    let s3:=Sd.dH (o:=HO.lst (gQ (Ts (ones es)) (some ((0:Int)+(k:Int)*(w:Int))) (some ((0:Int)+(k:Int)*(w:Int)+(w:Int))))) (Sd.free ht);let nLt:N≠t:=aX hN9 ht;calc JA t (ones ((es.drop (k*w)).take w)) ⟨rK,rK,bC.of (by rw[aq,ec]),by rw[mF,aiT];lia,?_⟩;rw[mF];calc⟨by rw[aV nLt];show hN9,by rw[aa,aa,List.length_range];show aK p_,g_.mk hk ⟨?_,aq,s3.dH hN⟩⟩;rw[List.range_succ,bz];simp[Ts]
   .intro ys H9 z;let⟨rfl,hN9,Sd⟩:=z;calc JA N _ ⟨rK,.inl ⟨bC.of hN9,λt ht=>?_⟩⟩;let st:aB H8 (upd H9 t (HO.tup (Ts (chunk r w es)))):=Sd.dH (Sd.free ht);let et:upd H9 t (HO.tup (Ts (chunk r w es))) t=some (.tup (Ts (chunk r w es))):=aq;let hT9:=st _ _ I;let tT:t≠T:=(aX (Sd _ _ I) ht).symm;calc JE T _ (.ref t) ⟨rK,rK,hT9,aK (by rw[aa,hal];lia),?_⟩;calc JA _ (as++[t]) ⟨rK,λb o e n=>by rw[aV n];show st _ _ (kp8 _ _ e n),by rw[aq];simp,by simp[hal],λk b ds' h1 h2=>?_⟩;by_cases hk:k<as.length
    .rw[dS hk]at h1;have:=hch k b ds' h1 h2;rw[aV (xr this I λz=>nomatch z)];show st _ _ this
    .let hk2:=(ah.mp h1).1;rw[ay]at hk2;let hk0:k=as.length:=by simp at hk2;lia
     subst hk0;rw[dA (al _),Nat.sub_self]at h1;cases h1;rw[hal,hes]at h2;cases h2;rw[aV tT];show et
  .intro σ H8 z;let⟨v,as,rfl,kp8,I,hal,hch⟩:=z
   match as,hal with| [pr,pm],_=>have h1:=hch 0 pr cs rK rfl;let h2:=hch 1 pm F rK rfl;calc⟨_,rK,T,_,_,.ref pr,rK,rK,bC.of I,aQ (j:=0) rK,_,rK,T,_,_,.ref pm,rK,rK,bC.of I,aQ (j:=1) rK,_,rK,zsz 3,λt ht=>?_⟩;let sE:aB H8 (upd H8 t (HO.tup [V.ref pr,V.ref pm,V.ref pb])):=aB.upd ht;let pbT:pb≠T:=aX eB hT;refine q t pr pm pb r w (chunk r w cs) (chunk r w F) (c/38400%r).toNat (c/345600%w).toNat _ (λb o e=>sE _ _ (kp8 _ _ (s47 _ _ (sm _ _ e)) (aX e fT))) aq (sE _ _ h1) (sE _ _ h2) (sE _ _ (kp8 _ _ (sZ _ _ (sT _ _ eB)) pbT)) ⟨r1,r9,w1,w9,Nz O,Nz J,NK Wm,NK hmk,p_,p_⟩
structure Gs where
 r:Nat
 w:Nat
 aD:List (List Nat)
 aL:List (List Nat)
 bi:Nat
 bj:Nat
 ws:List (List Nat)
 kvs:List (Key×V)
 bn:Int
 bm:Int
 size:Nat
 racks:List (List Nat)
 bag:List Nat
structure yt (C:Addr)(H:Hp)(p pw:Addr)(Z:Gs):Prop where
 ex:∃b d pb pr,H p=some (.tup [.ref b,.ref pw,.ref d,.ref pb,.int Z.size,.ref pr,.str (S Z.bag)])/\cG C H b Z.r Z.w Z.aD Z.aL Z.bi Z.bj/\H d=some (.dK Z.kvs)/\H pb=some (.tup [.int Z.bn,.int Z.bm])/\H pr=some (.tup (Ts Z.racks))
 wl:H pw=some (.lst (Ts Z.ws))
structure Yw (Z:Gs):Prop where
 w1:4<=Z.ws.length
 w2:Z.ws.length<=12
 wz:∀l∈Z.ws,yJ l
 wd:WD Z.kvs
 wb:WB 1000000 Z.kvs
 s1:1<=Z.size
 s7:Z.size<=7
 n1:1<=Z.racks.length
 n4:Z.racks.length<=4
 r7:∀l∈Z.racks,l.length<=Z.size/\∀c∈l,oM c
 b6:Z.bag.length<=60
 bt:∀c∈Z.bag,oM c
def Sg {l:List Nat}{lo hi:Option Int}{c:Nat}(h:c∈gU l lo hi):c∈l:=ed (cy h)
def acJ {l:List Nat}{a:Nat}{b:Int}{n:Nat}(h0:0<=b)(h:b<=a+n):(gU l (some (a:Int)) (some b)).length<=n:=by let⟨b,rfl⟩:=i9 h0;unfold gU;rw[av,ba,HT.lg,HT.lg];lia
def Sh (K:W.Frag)(C:Addr):Sp:=λvs H Q _=>∃(a:Addr) (ns:List Int),vs=[.ref a]/\bC K H a (ns.map V.int)/\∀(p pw:Addr) (Z:Gs) (H':Hp),aB H H'->H pw=none->yt C H' p pw Z->Yw Z->Q (.ref p) H'
def acK {C f0:Addr}{d8:FuncData}(D:aM K mg "_law_parts" Fj ["_law_script"])(fQ:mg "range"=none)(bB:mg "len"=none)(cD:mg "tuple"=none)(rY:mg "min"=none)(wK:mg "Board"=some (.ref C))(KQ:Mk K C f0)(KR:bW P w K mg base cW 5 f0 d8 ["self","rows","marks","begin"] (KJ C))(KY:bK K d8 ["self","rows","marks","begin"] [])(qQ:bU P w K mg base "_law_cell_at" 1 ["_law_script","_law_k"] (aaj K))(aaT:bU P w K mg base "_law_letters" 1 ["_law_cell"] aaS)(ae6:bU P w K mg base "_law_words" 2 ["_law_cell","_law_letters_here"] R9)(ahv:bU P w K mg base "_law_rows" 2 ["_law_cell","_law_letters_here"] Wk)(ae7:bU P w K mg base "_law_tiles" 2 ["_law_cell","_law_letters_here","_law_many","_law_blanks"] R_):bU P w K mg base "_law_parts" 7 ["_law_script"] (Sh K C):=by
 calc D.dh fB (λf bH A outer s H vs Q E J h=>?_);let⟨a,ns,rfl,hS,q⟩:=h;let hu:=I_ J;calc⟨_,(aA (aU (i:=1) fB.nd rK (Or.inl rK) (bD aaT J.mono rK (aj (bD qQ J.mono rK (aj aG (aj au ao))) ao))) (aA (aU (i:=2) fB.nd rK (Or.inl rK) (bD qQ J.mono rK (aj aG (aj au ao)))) (aA (aU (i:=3) fB.nd rK (Or.inl rK) (aJ cL au (aJ bV bA au))) (aA (aU (i:=4) fB.nd rK (Or.inl rK) (aJ cL au (aJ bV (aJ cI bA au) au))) (aA (aU (i:=5) fB.nd rK (Or.inl rK) (aJ iM au bN)) (aA (fU (cA (bQ iQ (aJ bV (aJ cI bA au) au) au (bG _)) (aF (aU (i:=5) fB.nd rK (Or.inl rK) (aJ bV (aJ cI bA au) au))) bI)) (aA (fU (cA (bQ iQ (aJ bV (aJ cI bA au) au) au (bG _)) (aF (aU (i:=5) fB.nd rK (Or.inl rK) (aJ bV (aJ cI bA au) au))) bI)) (aA (aU (i:=6) fB.nd rK (Or.inl rK) (bD ae7 J.mono rK (aj (bD qQ J.mono rK (aj aG (aj au ao))) (aj aW (aj (aJ cL (aJ iM cJ bN) dF) (aj au ao)))))) (aA (aU (i:=7) fB.nd rK (Or.inl rK) (jH ao)) (aA (fP cz rK (uJ qf fQ (aj cJ ao)) (bF (i:=8) fB.nd rK (Or.inl rK)) (aA (aU (i:=9) fB.nd rK (Or.inl rK) (aJ cI (aJ bV (aJ GP (bD qQ J.mono rK (aj aG (aj au ao))) (aJ cL jZ au)) au) au)) (aF (dD (f9 cn dr du jD iJ (aj (dj pQ fG (dI (aJ iM jZ bN)) (dI (aJ oO (aJ iM (aJ cL jZ au) bN) (aO (Mp rK) qf rY mI (aj jN (aj (aJ oO bN au) ao)))))) ao)))))) (aA (fU (cA (bQ iQ (aJ bV (aJ cI bA au) au) au (bG _)) (aF (qZ (bJ [] qi) (Qn iJ (aJ bV (aJ cI bA au) cJ) set_list))) bI)) (aA (aU (i:=10) fB.nd rK (Or.inl rK) Qi) (aA (fP cz rK (rm (dj pQ aW eE (dI (aJ cL au (aJ bV (aJ cI bA au) au))))) (bF (i:=11) fB.nd rK (Or.inl rK)) (aF (Vl hu jh lC (aJ cL (aJ bV (aJ GP bA (aJ cL (aO ZJ qf bB aE (aj jh ao)) au)) au) (aJ bV (aJ cI bA au) (aJ PX au au))) rK))) (aA (aU (i:=12) fB.nd rK (Or.inl rK) (cR (aj (aJ cL au (aJ bV (aJ cI bA au) au)) (aj (aJ bV (aJ cI bA au) au) ao)))) (aA (qZ (bD ahv J.mono rK (aj (bD qQ J.mono rK (aj aG (aj au ao))) (aj aW ao))) (nY rK (bT (bF (i:=13) fB.nd rK (Or.inl rK)) (bT (bF (i:=14) fB.nd rK (Or.inl rK)) (bT (bF (i:=15) fB.nd rK (Or.inl rK)) lq))))) (aA (aU (i:=16) fB.nd rK (Or.inl rK) (o9 KQ KR J.mono rK wK KY .nil cY (aj (qv 13) (aj (qv 14) (aj (qv 15) ao))))) (aA (aU (i:=17) fB.nd rK (Or.inl rK) (bD ae6 J.mono rK (aj (aJ cI (bD qQ J.mono rK (aj aG (aj au ao))) au) (aj aW ao)))) (aF (bf (cR (aj (qv 16) (aj (qv 17) (aj jh (aj pX (aj bN (aj (eO i_ qf cD ck (aj iJ ao)) (aj (dj pQ fG (dI (aJ iM cJ bN)) eE) ao))))))))))))))))))))))))))),?_⟩;calc⟨_,rK,a,ns,0,rK,hS,λv0=>⟨v0,rK,λls hA h4=>?_⟩⟩;let a1:=hA.lo;let hz:ls.length<=sizeLine:=ap (aK p_);calc⟨_,rK,a,ns,1,rK,hS,λc=>?_⟩;calc⟨_,rK,_,_,rK,rK,(by show (0:Int)<7;decide),_,_,rK,rK,?_⟩;calc⟨_,rK,_,_,rK,rK,⟨qc,qc⟩,_,_,rK,rK,(by show (0:Int)<4;decide),_,_,rK,rK,?_⟩;calc⟨_,rK,_,_,rK,rK,.inl ⟨qc,qc⟩,?_⟩;refine⟨λσ H'=>H'=H/\∃size j few:Nat,σ=[some (.ref a),some (.str (S ls)),some (.int c),some (.int size),some (.int j),some (.int few),none,none,none,none,none,none,none,none,none,none,none,none]/\1<=size/\size<=7/\1<=j/\j<=4/\few<=60,?_,?_⟩
 .calc⟨_,rK,_,_,rK,rK,⟨qc,qc⟩,_,_,rK,rK,(by show (0:Int)<4;decide),rK,_,rK,?_⟩;refine jE (λ_=>?_) (λ_=>?_)
  .calc⟨_,rK,_,_,rK,rK,⟨qc,qc⟩,_,_,rK,rK,(by show (0:Int)<4;decide),rK,(1+c%7).toNat,(1+c/7%4).toNat,(c/112%4).toNat,?_,p_,p_,p_,p_,p_⟩;rw[cp p_,cp p_,cp p_];rfl
  .calc⟨rK,(1+c%7).toNat,(1+c/7%4).toNat,(2*(1+c%7)).toNat,?_,p_,p_,p_,p_,p_⟩;rw[cp p_,cp p_,cp p_];rfl
 intro σ H' z;let⟨rfl,size,j,ajG,rfl,z1,z7,m1,m4,f60⟩:=z;refine⟨λσ H2=>H2=H'/\∃few:Nat,σ=[some (.ref a),some (.str (S ls)),some (.int c),some (.int size),some (.int j),some (.int few),none,none,none,none,none,none,none,none,none,none,none,none]/\few<=60,?_,?_⟩
 .calc⟨_,rK,_,_,rK,rK,⟨qc,qc⟩,_,_,rK,rK,(by show (0:Int)<8;decide),rK,_,rK,?_⟩;refine jE (λ_=>?_) (λ_=>?_)
  .calc⟨_,rK,_,_,rK,rK,⟨qc,qc⟩,_,_,rK,rK,(by show (0:Int)<60;decide),rK,(c/224%60).toNat,?_,p_⟩;rw[cp p_];rfl
  .show⟨rK,ajG,rK,f60⟩
 intro σ H2 z;let⟨rfl,few,rfl,aj3⟩:=z;let hms:j*size<=28:=gp m4 z7;let ems:(j:Int)*(size:Int)=((j*size:Nat):Int):=by push_cast;rfl
 calc⟨_,rK,a,ns,2,rK,hS,λv2=>?_⟩;calc⟨_,rK,_,rK,_,rK,_,_,rK,rK,.inl ⟨p_,p_⟩,_,rK,_,_,rK,rK,v2,2,ls,j*size+few,(by show [V.int v2,V.str (S ls),V.int ((j:Int)*(size:Int)+(few:Int)),V.int 2]=_;rw[ems];rfl),hA,p_,λtl H1 s1 htl htt=>?_⟩;let hzt:tl.length<=sizeLine:=ap (aK p_);calc⟨zsz 0,λL hL=>?_⟩;let sL:aB H1 (upd H1 L (HO.lst [])):=aB.upd hL;let eL:upd H1 L (HO.lst []) L=some (.lst (Ts [])):=aq;calc⟨_,rK,_,rK,p_,p_,?_⟩;rw[dv];refine oN (n:=j) (lo:=0) (λi σ H3=>∃(v8 v9:Option V) (F:AA),σ=[some (.ref a),some (.str (S ls)),some (.int c),some (.int size),some (.int j),some (.int few),some (.str (S tl)),some (.ref L),v8,v9,none,none,none,none,none,none,none,none]/\aB H1 H3/\H3 L=some (.lst (Ts F))/\F.length=i/\∀l∈F,l.length<=size/\∀c∈l,oM c)
  (JE none none [] ⟨rK,sL,eL,rK,λl h=>by cases h⟩) ?_ ?_
 .intro i σ H3 hi z;let⟨v8,v9,F,rfl,sm,vh,I,G⟩:=z;calc⟨_,rK,a,ns,2,rK,sm.seq (s1.seq hS),λv3=>?_⟩;refine⟨_,rK,_,_,rK,rK,_,_,rK,rK,⟨by show (0:Int)<_;lia,?_⟩,_,_,rK,rK,(by show (0:Int)<5;decide),_,_,rK,rK,⟨qc,qc⟩,?_⟩
  .calc jv (Nat.log2_le_self _) ?_;show ((0:Int)+(i:Int)+2).natAbs<9000;lia
  let his:(i+1)*size<=j*size:=nI size hi;let e1:((0:Int)+(i:Int))*(size:Int)=((i*size:Nat):Int):=by push_cast;rw[Int.zero_add]
  let e2:((0:Int)+(i:Int)+1)*(size:Int)=((i*size+size:Nat):Int):=by push_cast;rw[Int.zero_add,Int.add_mul];lia
  let t0:0<=v3/((0:Int)+(i:Int)+2)%5/4:=p_;let t1:v3/((0:Int)+(i:Int)+2)%5/4<=1:=p_;calc⟨_,rK,.inl ⟨rK,_,bC.of vh⟩,_,rK,_,rK,_,rK,_,_,rK,rK,.inl ⟨p_,p_⟩,_,rK,_,rK,_,_,rK,rK,_,rK,_,_,rK,rK,.inl ⟨p_,p_⟩,_,rK,_,rK,_,_,rK,rK,_,_,rK,_,_,rK,rK,_,rK,tl,rK,hzt,?_⟩;rw[e1,e2];generalize v3/((0:Int)+(i:Int)+2)%5/4=dl at t0 t1 ⊢;let hmn:0<=(if (size:Int)-1<dl then (size:Int)-1 else dl)/\(if (size:Int)-1<dl then (size:Int)-1 else dl)<=(size:Int)-1:=by split <;> lia
  generalize (if (size:Int)-1<dl then (size:Int)-1 else dl)=dm at hmn ⊢;calc JE L _ _ ⟨rK,rK,vh,aK (by rw[aa];lia),?_⟩;calc JE _ _ (F++[gU tl (some ((i*size:Nat):Int)) (some (((i*size+size:Nat):Int)-dm))]) ⟨rK,sm.dH hL,by rw[aq,KC],by simp[I],λl hl=>?_⟩;rcases bu.mp hl with z|z;.show G l z
  .rw[a_.mp z];show⟨acJ p_ p_,λc hc=>htt c (Sg hc)⟩
 intro σ H3 z;let⟨v8,v9,F,rfl,sm,vh,I,G⟩:=z;refine⟨λσ H4=>∃(F:AA),σ=[some (.ref a),some (.str (S ls)),some (.int c),some (.int size),some (.int j),some (.int few),some (.str (S tl)),some (.ref L),v8,v9,none,none,none,none,none,none,none,none]/\aB H1 H4/\H4 L=some (.lst (Ts F))/\F.length=j/\∀l∈F,l.length<=size/\∀c∈l,oM c,?_,?_⟩
 .calc⟨_,rK,_,_,rK,rK,⟨qc,qc⟩,_,_,rK,rK,(by show (0:Int)<8;decide),rK,_,rK,?_⟩;calc jE (λ_=>?_) (λ_=>⟨F,rK,sm,vh,I,G⟩);let b0:=df (c/8072) (show (j:Int)≠0 by lia);let b1:=di (c/8072) (show (0:Int)<j by lia);let pZ:(Ts F).length=j:=by rw[aa,I]
  refine⟨_,rK,_,rK,_,_,rK,rK,⟨qc,qc⟩,_,rK,_,_,rK,rK,(by show (0:Int)<_;lia),L,_,_,(c/8072%(j:Int)).toNat,rK,rK,vh,?_,?_⟩
  .unfold Bw;rw[pZ,if_pos p_,if_pos p_]
  .rw[JV];calc⟨F.set (c/8072%(j:Int)).toNat [],rK,sm.dH hL,aq,by rw[eW];show I,λl hl=>?_⟩;rcases fN hl with e|e;.show G l e
   .rw[e];show⟨ej _,λc h=>by cases h⟩
 intro σ H4 z;let⟨F,rfl,Jy,zE,I,G⟩:=z;calc λd hd=>?_;let sD:aB H4 (upd H4 d (HO.dK [])):=aB.upd hd;calc⟨_,rK,_,rK,_,_,rK,rK,⟨qc,qc⟩,_,_,rK,rK,(by show (0:Int)<4;decide),_,_,rK,rK,_,rK,ls,rK,hz,gU ls none (some (1+c/5%4)),rK,?_⟩;let hcl:(gU ls none (some (1+c/5%4))).length<=4:=by unfold gU;rw[av,ba];lia
 refine Fd (λi σ H5=>∃(v11:Option V) (kvs:List (Key×V)),σ=[some (.ref a),some (.str (S ls)),some (.int c),some (.int size),some (.int j),some (.int few),some (.str (S tl)),some (.ref L),v8,v9,some (.ref d),v11,none,none,none,none,none,none]/\aB H4 H5/\H5 d=some (.dK kvs)/\WD kvs/\WB 1000000 kvs/\kvs.length<=i)
  (JA none [] ⟨rK,sD,aq,(λkv m=>nomatch m),(λc=>⟨by show (0:Int)<=0;decide,by show (0:Int)<=1000000;decide⟩),al _⟩) ?_ ?_
 .intro i x σ H5 hx z;let⟨v11,kvs,rfl,pN,hd5,hW,hB,hkl⟩:=z;let hi:=(ah.mp hx).1;let⟨c1,c2⟩:=hA.az _ (Sg (bp hx));refine⟨_,rK,_,rK,d,kvs,rK,hd5,_,_,rK,rK,_,_,rK,rK,⟨by show (0:Int)<_;lia,?_⟩,_,_,rK,rK,(by show (0:Int)<12;decide),_,rK,_,_,rK,rK,⟨qc,qc⟩,_,_,rK,rK,⟨qc,qc,qc⟩,_,_,rK,rK,(by show (0:Int)<10^5;decide),_,_,rK,rK,_,rK,_,rK,d,_,rK,GJ.k (k:=cF [x]) hd5 (aK p_),?_⟩
  .calc jv (Nat.log2_le_self _) ?_;show ((kvs.length:Int)+3).natAbs<9000;lia
  let b0:=df (c/((kvs.length:Int)+3)) (show (12:Int)≠0 by decide);let b1:=di (c/((kvs.length:Int)+3)) (show (0:Int)<12 by decide);let b2:=df (c/1000003) (show (10:Int)^(5:Int).toNat≠0 by decide);let b3:=di (c/1000003) (show (0:Int)<(10:Int)^(5:Int).toNat by decide);let b4:(10:Int)^(5:Int).toNat=100000:=by decide
  rw[b4]at b2 b3;refine JA _ _ ⟨rK,pN.dH hd,aq,hW.put _ c1 c2,hB.put ?_ ?_,bP (yG _ _ _) p_⟩
  .show (0:Int)<=c/((kvs.length:Int)+3)%12+c/1000003%(10:Int)^(5:Int).toNat;rw[b4];lia
  .show c/((kvs.length:Int)+3)%12+c/1000003%(10:Int)^(5:Int).toNat<=1000000;rw[b4];lia
 intro σ H5 z;let⟨v11,kvs,rfl,pN,hd5,hW,hB,hkl⟩:=z;calc⟨_,rK,_,_,rK,rK,⟨qc,qc⟩,_,_,rK,rK,(by show (0:Int)<7;decide),_,_,rK,rK,_,rK,_,_,rK,rK,⟨qc,qc⟩,_,_,rK,rK,(by show (0:Int)<60;decide),zsz 2,λpb hpb=>?_⟩;let sB:aB H5 (upd H5 pb (HO.tup [V.int (1+c/11%7),V.int (c/13%60)])):=aB.upd hpb;let eB:upd H5 pb (HO.tup [V.int (1+c/11%7),V.int (c/13%60)]) pb=some (.tup [V.int (1+c/11%7),V.int (c/13%60)]):=aq;generalize upd H5 pb (HO.tup [V.int (1+c/11%7),V.int (c/13%60)])=H6 at sB eB ⊢;let s16:aB H1 H6:=(Jy.trans pN).trans sB;let B_:aB H2 H6:=s1.trans s16;calc⟨_,rK,a,ns,3,rK,B_.seq hS,λv4=>?_⟩;calc⟨_,rK,v4,ls,rK,hA,λt pr pm pbg r w aD aL bi bj H7 s7 ht Y hpm Yx hBr=>?_⟩;calc JA t _ ⟨rK,aN.of ht,rK,_,_,rK,_,_,rK,_,_,rK,rK,?_⟩;calc⟨_,rK,_,rK,_,rK,λb dxb O Z nb3=>?_⟩;calc JS b dxb pr pm pbg r w aD ⟨aL,bi,bj,rK,aq,?_,?_,?_,hBr,λH8 k8 e8=>⟨rK,?_⟩⟩;.rw[aV (aX Y O),aV (aX Y Z)];show Y
 .rw[aV (aX hpm O),aV (aX hpm Z)];show hpm
 .rw[aV (aX Yx O),aV (aX Yx Z)];show Yx
 let s8:aB H7 H8:=λx o h=>k8 x o (by rw[aV (aX h O),aV (aX h Z)];show h) (aX h O);let BA:cG C H8 b r w aD aL bi bj:=⟨(JI dxb pr pm pbg ⟨e8,s8 _ _ Y,s8 _ _ hpm,s8 _ _ Yx⟩),hBr⟩
 let Wn:aB H2 H8:=(B_.trans s7).trans s8;calc⟨_,rK,a,ns,0,rK,Wn.seq hS,λv5=>?_⟩;calc JA _ _ ⟨rK,rK,⟨qc,qc⟩,_,rK,_,ls,rK,hA,λpw ws H9 s9 fpw Wo hw4 ajH hwz=>?_⟩;let s69:aB H6 H9:=(s7.trans s8).trans s9;let hL9:=s69 _ _ (sB _ _ (pN _ _ zE));calc⟨_,rK,_,rK,_,rK,_,rK,_,rK,_,rK,L,_,rK,.inl ⟨bC.of hL9,λNP acL=>?_⟩⟩;let sR:aB H9 (upd H9 NP (HO.tup (Ts F))):=aB.upd acL;let eR:upd H9 NP (HO.tup (Ts F)) NP=some (.tup (Ts F)):=aq;generalize upd H9 NP (HO.tup (Ts F))=HA at sR eR ⊢;calc⟨_,rK,_,rK,_,rK,_,_,rK,rK,.inl ⟨p_,p_⟩,_,rK,tl,rK,hzt,zsz 7,λp hp=>?_⟩;let eP:upd HA p (HO.tup [V.ref b,V.ref pw,V.ref d,V.ref pb,V.int size,V.ref NP,V.str (S (gU tl (some ((j:Int)*(size:Int))) none))]) p=some (.tup [.ref b,.ref pw,.ref d,.ref pb,.int size,.ref NP,.str (S (tl.drop (j*size)))]):=by rw[aq,ems,j6]
 let sP:=aB.upd hp (o:=HO.tup [V.ref b,V.ref pw,V.ref d,V.ref pb,V.int size,V.ref NP,V.str (S (gU tl (some ((j:Int)*(size:Int))) none))]);let s9P:=sR.trans sP;let s6P:=s69.trans s9P;calc q p pw ⟨r,w,aD,aL,bi,bj,ws,kvs,1+c/11%7,c/13%60,size,F,tl.drop (j*size)⟩ _ (B_.trans s6P) ?_ ⟨(JI b d pb NP ⟨eP,(BA.mv s9).mv s9P,s6P _ _ (sB _ _ hd5),s6P _ _ eB,sP _ _ eR⟩),s9P _ _ Wo⟩ ⟨hw4,ajH,hwz,hW,hB,z1,z7,by show 1<=F.length;lia,by show F.length<=4;lia,G,by show (tl.drop _).length<=60;rw[ba];lia,λc hc=>htt c (ed hc)⟩;cases e:H2 pw with| none=>rfl| some o=>rw[Wn _ _ e]at fpw;cases fpw
structure lJ (C:Addr)(H:Hp)(p:Addr)(z:Std)(dn ps:Nat)(ov:Bool):Prop where
 ex:∃b pr pp,H p=some (.tup [.ref b,.ref pr,.str (S z.bag),.ref pp,.int dn,.int ps,.bl ov])/\cG C H b z.r z.w z.aD z.aL z.bi z.bj/\H pr=some (.tup (Ts z.racks))/\H pp=some (.tup (z.jc.map V.int))
def beg (Z:Gs):Std:=⟨Z.r,Z.w,Z.aD,Z.aL,Z.bi,Z.bj,Z.racks.map dJ,Z.bag,List.replicate Z.racks.length 0⟩
def Wq (C:Addr):Sp:=λvs H Q _=>∃(p pw:Addr) (Z:Gs),vs=[.ref p]/\yt C H p pw Z/\Yw Z/\∀j H',aB H H'->lJ C H' j (beg Z) 0 0 false->Q (.ref j) H'
def acM {C:Addr}(D:aM K mg "_law_begun" Fl ["_law_parts_here"])(cD:mg "tuple"=none)(gY:mg "sorted"=none)(bB:mg "len"=none):bU P w K mg base "_law_begun" 1 ["_law_parts_here"] (Wq C):=by
 calc D.dh G4 (λf bH A outer s H vs Q E hr h=>?_);let⟨p,pw,Z,rfl,A0,O,q⟩:=h;let⟨b,d,pb,pr,hp,hB,hd,hpb,I⟩:=A0.ex;let n1:=O.n1;let n4:=O.n4;let z7:=O.s7;calc⟨_,(aA (aU (i:=1) G4.nd rK (Or.inl rK) (eO i_ qf cD ck (aj (jO rK (jf.of G4.nd qh) (gG (aY bw aG au (λ_ _=>rfl))) (λ_ _ _ _ _=>dX) (λ_ _ _ _ _=>(Qs K bo c_ de (GR K) (bJ [] qi) (aj (aO (uW rK) qf gY f8 (aj aG ao)) ao)))) ao))) (aF (bf (cR (aj (aY bw aG au (λ_ _=>rfl)) (aj aW (aj (aY bw aG au (λ_ _=>rfl)) (aj (aJ Vv (cR (aj au ao)) (aO bY qf bB aE (aj aW ao))) (aj au (aj au (aj h_ ao))))))))))),?_⟩;refine⟨_,rK,p,_,_,.ref pr,rK,rK,aN.of hp,aQ (j:=5) rK,pr,rK,⟨_,aN.of I⟩,λL hL=>qC (xs:=Ts Z.racks) (λi ys F=>ys=Ts ((Z.racks.take i).map dJ)/\F L=some (.lst ys)/\aB H F) ⟨rK,aq,aB.upd hL⟩ (λi ys F _ h=>aN.of (h.2.2 _ _ I)) ?_ ?_⟩
 .intro i x ys F hi z;let⟨rfl,J2,sm⟩:=z;let⟨l,hl,rfl⟩:=rJ hi;let G:i<(Ts Z.racks).length:=(ah.mp hi).1;let hir:i<Z.racks.length:=by rw[aa]at G;show G
  let hl7:=(O.r7 l (bp hl)).1;calc⟨rK,_,rK,l,rK,p_,λp2 us hp2 pm pw=>?_⟩;calc JA p2 (us.map λc=>[c]) ⟨rK,rK,bC.of aq,?_,?_⟩;.rw[mF,pm.length_eq];lia
  .rw[wN (pm.map λc=>[c]) pw];let s8:=aB.upd hp2 (o:=HO.lst (Ts (us.map λc=>[c])));calc⟨s8 _ _ J2,?_,g_.mk G ⟨?_,aq,(sm.trans s8).dH hL⟩⟩;.rw[aa,aa,av];show aK p_
   .rw[take_snoc hl];simp only[Ts,bz];rfl
 .intro ys F z;let⟨rfl,J2,sm⟩:=z;rw[aa,cv]at J2;calc JA L _ ⟨rK,.inl ⟨bC.of J2,λtp ht=>?_⟩⟩;let s8:aB F (upd F tp (.tup (Ts (Z.racks.map dJ)))):=aB.upd ht;let Wh:upd F tp (.tup (Ts (Z.racks.map dJ))) tp=some (.tup (Ts (Z.racks.map dJ))):=aq;generalize upd F tp (HO.tup (Ts (Z.racks.map dJ)))=H8 at s8 Wh ⊢;let Wn:=sm.trans s8;calc⟨_,rK,p,_,_,.ref b,rK,rK,aN.of (Wn _ _ hp),aQ (j:=0) rK,_,rK,_,rK,p,_,_,.str (S Z.bag),rK,rK,aN.of (Wn _ _ hp),aQ (j:=6) rK,zsz 1,λJ e0=>?_⟩;let s9:aB H8 (upd H8 J (HO.tup [V.int 0])):=aB.upd e0;let ep0:upd H8 J (HO.tup [V.int 0]) J=some (.tup [V.int 0]):=aq;generalize upd H8 J (HO.tup [V.int 0])=H9 at s9 ep0 ⊢;calc⟨_,rK,tp,_,rK,.inr (aN.of (s9 _ _ Wh)),J,_,Z.racks.length,rK,by rw[aa,aa],ep0,qa,n1,p_,by show 1<=100;decide,λpp HA sA hpp=>?_⟩;let yL:HA pp=some (.tup ((List.replicate Z.racks.length (0:Int)).map V.int)):=by rw[hpp];simp
  let Y:=(Wn.trans s9).trans sA;calc⟨zsz 7,λp' hp'=>?_⟩;let sP:=aB.upd hp' (o:=HO.tup [V.ref b,V.ref tp,V.str (S Z.bag),V.ref pp,V.int 0,V.int 0,V.bl false]);show q p' _ (Y.trans sP) ⟨b,tp,pp,aq,(hB.mv Y).mv sP,sP _ _ (sA _ _ (s9 _ _ Wh)),sP _ _ yL⟩
def Lq (a b:Nat×Nat)(l:List (Nat×Nat)):jU (a::b::l)=(ltQ (a,b)&&jU (b::l)):=rfl
theorem NQ {c:Nat×Nat}:∀{cs:List (Nat×Nat)},jU cs=true->(∀d∈cs,ltQ (d,c)=true)->jU (cs++[c])=true
 | [],_,_=>rfl
 | [a],_,h=>by show jU (a::c::[])=true;rw[Lq,h a b9];rfl
 | a::b::l,h1,h2=>by rw[Lq,bX]at h1;show jU (a::b::(l++[c]))=true;rw[Lq,h1.1,mn];show NQ (cs:=b::l) h1.2 λd hd=>h2 d (bE _ hd)
def Ss {r w:Nat}{aD:AA}(hb:Blk r w aD)(r1:1<=r){i:Int}(h0:-1<=i)(h1:i<r):∃l,sS (Ts aD) i=some (.str (S l))/\l.length=w:=by
 by_cases hn:0<=i
 .let⟨k,rfl⟩:=i9 hn;let D:k<aD.length:=by rw[hb.len];lia
  show⟨aD[k],aQ (nQ (af D)),hb.rH _ (a9 D)⟩
 .let e:i=-1:=p_;subst e;let j:aD≠[]:=λe=>by subst e;have:=hb.len;simp at this;lia
  calc⟨aD.getLast j,?_,hb.rH _ (List.getLast_mem j)⟩;let e:=kr j;let e2:Ts aD=Ts aD.dropLast++[.str (S (aD.getLast j))]:=by
   conv=>lhs;rw[<-e]
   simp only[Ts,bz,cf,ph]
  rw[e2];show Gz _ _
def aaU:Sp:=λvs H Q _=>∃(pr pl:Addr) (bM word:List Nat) (i0 j wy:Int) (r w:Nat) (aD:AA),vs=[.ref pr,.str (S word),.ref pl,.str (S bM)]/\H pr=some (.tup (Ts aD))/\Blk r w aD/\1<=r/\r<=9/\w<=9/\yJ word/\H pl=some (.tup [.int i0,.int j,.int wy])/\-1<=i0/\0<=j/\(wy=0\/wy=1)/\bM.length<=63/\
 ∀(t:Addr) (as:List Addr) (H':Hp),aB H H'->H' t=some (.tup (as.map V.ref))->as.length<=9->(0<=i0->∃ts,eV H' as ts/\(∀t∈ts,inB r w t)/\jU (ts.map nR)=true)->Q (.ref t) H'
def Sv (D:aM K mg "_law_candidate" ux ["_law_rows_here","_law_word","_law_place","_law_rack"])(bB:mg "len"=none)(iy:mg "list"=none)(cD:mg "tuple"=none)(jB:mg "int"=none):bU P w K mg base "_law_candidate" 1 ["_law_rows_here","_law_word","_law_place","_law_rack"] aaU:=by
 calc D.dh gH (λf bH A outer s H vs Q E hr h=>?_);let⟨pr,pl,bM,word,i0,j0,wy,r,w,aD,rfl,hpr,hb,r1,r9,w9,hW,hpl,i1,j1,Q6,h63,q⟩:=h;let⟨wo1,wo2,wo3⟩:=hW;let hrl:(Ts aD).length=r:=by rw[aa,hb.len]
 let G:∀H2,aB H H2->∀t,H2 t=none->Q (.ref t) (upd H2 t (.tup [])):=λH2 s2 t ht=>q t [] _ (s2.trans (aB.upd ht)) aq (ej _) λ_=>⟨[],⟨λa h=>(by cases h),rK⟩,λt h=>(by cases h),rK⟩
 calc⟨_,(aA (qZ bA (nY rK (bT (bF (i:=4) gH.nd rK (Or.inl rK)) (bT (bF (i:=5) gH.nd rK (Or.inl rK)) (bT (bF (i:=6) gH.nd rK (Or.inl rK)) lq))))) (aA (aU (i:=7) gH.nd rK (Or.inl rK) (eO (nF rK) qf iy fq (aj bN ao))) (aA (aU (i:=8) gH.nd rK (Or.inl rK) (jH ao)) (aA (fP cz rK (rm aW) (bF (i:=9) gH.nd rK (Or.inl rK)) (aA (cA (QW.qt (je (bQ Ew cJ (aO bY qf bB aE (aj aG ao)) (bG _)) (iR (bQ Ew dF (aO cZ qf bB aE (aj (aY bw aG au (λ_ _=>rfl)) ao)) (bG _))))) (aF (bf (cR ao))) bI) (aA (fU (cA (bQ jF (aY zZ (aY bw aG cJ (λ_ _=>rfl)) dF (λ_ _=>rfl)) (bJ [46] qi) (bG _)) (aA (aU (i:=10) gH.nd rK (Or.inl rK) jN) (aA (fU (cA (bQ wk jh iJ rK) (aF (aU (i:=10) gH.nd rK (Or.inl rK) (bJ [63] qi))) bI)) (aA (cA (bQ wk jh iJ rK) (aF (bf (cR ao))) bI) (aA (dD (f9 cn iO iP xJ iJ (aj jh ao))) (aF (dD (f9 cn dr du jD jZ (aj (cR (aj cJ (aj dF (aj (aY iH (jH (aj jN (aj (zp bo PySem.F.slot_str_upper PySem.F.type_str_upper ZS jN) ao))) (eO Mq qf jB fR (aj (d_ jF jh (bJ [63] qi) (bG _)) ao)) (λ_ _=>rfl)) ao)))) ao)))))))) bI)) (aA (aU (i:=4) gH.nd rK (Or.inl rK) (aJ cL cJ fG)) (aF (aU (i:=5) gH.nd rK (Or.inl rK) (aJ oO (aJ cL dF au) fG))))))) (aF (bf (eO i_ qf cD ck (aj jZ ao)))))))),?_⟩;calc⟨_,rK,pl,_,rK,aN.of hpl,rK,_,_,rK,_,_,rK,_,_,rK,rK,?_⟩;calc⟨_,rK,bM,rK,p_,λL hL=>?_⟩;let sL:aB H (upd H L (HO.lst (Ts (bM.map λc=>[c])))):=aB.upd hL;let eL:upd H L (HO.lst (Ts (bM.map λc=>[c]))) L=some (.lst (Ts (bM.map λc=>[c]))):=aq;generalize upd H L (HO.lst (Ts (bM.map λc=>[c])))=H1 at sL eL ⊢;calc⟨zsz 0,λM hM=>?_⟩;let sM:aB H1 (upd H1 M (HO.lst [])):=aB.upd hM;let eM:upd H1 M (HO.lst []) M=some (.lst (([]:List Addr).map V.ref)):=aq;let LM:L≠M:=aX eL hM;let fM:H M=none:=by
  cases e:H M with| none=>rfl| some o=>rw[sL _ _ e]at hM;cases hM
 generalize upd H1 M (HO.lst [])=H2 at sM eM ⊢;let d9:=sL.trans sM;let eL2:=sM _ _ eL;calc⟨_,rK,word,rK,?_⟩;refine Fd (λn σ O=>∃(v9 I:Option V) (j cc:Int) (us:List Nat) (as:List Addr),σ=[some (.ref pr),some (.str (S word)),some (.ref pl),some (.str (S bM)),some (.int j),some (.int cc),some (.int wy),some (.ref L),some (.ref M),v9,I]/\aB H O/\O L=some (.lst (Ts (us.map λc=>[c])))/\us.length<=63/\O M=some (.lst (as.map V.ref))/\as.length<=n/\-1<=j/\0<=cc/\(0<=i0->0<=j/\∃ts,eV O as ts/\(∀t∈ts,inB r w t)/\jU (ts.map nR)=true/\∀t∈ts,((t.1:Int)<j\/((t.1:Int)=j/\(t.2.1:Int)<cc))))
  (JO none none i0 j0 bM [] ⟨rK,d9,eL2,h63,eM,ej _,i1,j1,λh=>⟨h,[],⟨λa h=>(by cases h),rK⟩,λt h=>(by cases h),rK,λt h=>(by cases h)⟩⟩) ?_ ?_
 .intro n c σ O hc z;let⟨v9,I,j,cc,us,as,rfl,sm,vh,JL,Gi,hal,rr1,cc1,Y⟩:=z;let hn:n<word.length:=(ah.mp hc).1;let Yy:isLet c:=wo3 c (bp hc);let R3:=sm _ _ hpr;calc⟨_,rK,_,rK,pr,_,rK,.inr (aN.of R3),_,_,rK,rK,_,rK,?_⟩;calc jE (λ_=>⟨zsz 0,λt ht=>G O sm t ht⟩) (λhnr=>?_);let hnr:=j3 (oC.mpr hnr);rw[hrl]at hnr;let⟨l0,e0,w0⟩:=Ss hb r1 (i:=0) p_ p_;let hz0:l0.length<=sizeLine:=ap (aK p_);calc⟨_,rK,_,rK,pr,_,_,.str (S l0),rK,rK,aN.of R3,e0,l0,rK,hz0,_,_,rK,rK,_,rK,?_⟩;calc jE (λ_=>⟨zsz 0,λt ht=>G O sm t ht⟩) (λhnc=>?_);let hnc:=j3 (oC.mpr hnc);rw[w0]at hnc;let⟨l,el,wl⟩:=Ss hb r1 (i:=j) rr1 p_;let Gn:l.length<=sizeLine:=ap (aK p_);let⟨k,rfl⟩:=i9 cc1;let hk:k<l.length:=p_;refine⟨λσ F=>∃(v9 I:Option V) (us:List Nat) (as:List Addr),σ=[some (.ref pr),some (.str (S word)),some (.ref pl),some (.str (S bM)),some (.int j),some (.int k),some (.int wy),some (.ref L),some (.ref M),v9,I]/\aB H F/\F L=some (.lst (Ts (us.map λc=>[c])))/\us.length<=63/\F M=some (.lst (as.map V.ref))/\as.length<=n+1/\(0<=i0->0<=j/\∃ts,eV F as ts/\(∀t∈ts,inB r w t)/\jU (ts.map nR)=true/\∀t∈ts,((t.1:Int)<j\/((t.1:Int)=j/\(t.2.1:Int)<=k))),?_,?_⟩
  .calc⟨_,rK,_,rK,pr,_,_,.str (S l),rK,rK,aN.of R3,el,_,rK,l,_,l[k],rK,rK,Gn,aQ (af hk),[l[k]],[46],rK,rK,_,rK,?_⟩;refine jE (λ_=>?_) (λ_=>(JI _ _ us as ⟨rK,sm,vh,JL,Gi,p_,λh=>?_⟩))
   .calc⟨_,rK,?_⟩;refine⟨λσ F=>F=O/\∃x:Nat,σ=[some (.ref pr),some (.str (S word)),some (.ref pl),some (.str (S bM)),some (.int j),some (.int k),some (.int wy),some (.ref L),some (.ref M),some (.str (S [c])),some (.str (S [x]))]/\(x=c\/x=63),?_,?_⟩
    .calc⟨_,rK,_,rK,L,_,rK,.inl (bC.of vh),rK,K9 _,_,rK,?_⟩;show jE (λ_=>⟨rK,63,rK,.inr rK⟩) (λ_=>⟨rK,c,rK,.inl rK⟩)
    intro σ F z;let⟨rfl,x,rfl,hxc⟩:=z;calc⟨_,rK,_,rK,L,_,rK,.inl (bC.of vh),rK,K9 _,_,rK,?_⟩;calc jE (λ_=>⟨zsz 0,λt ht=>G F sm t ht⟩) (λdY=>?_);let dY:x∈us:=by rw[show (if true then !inV (V.str (S [x])) (Ts (us.map λc=>[c])) else inV (V.str (S [x])) (Ts (us.map λc=>[c])))=!inV (V.str (S [x])) (Ts (us.map λc=>[c])) from rK,aaA]at dY;simpa using dY
    calc⟨_,rK,.inl ⟨rK,_,bC.of vh⟩,_,rK,L,_,[x],rK,rK,vh,bc.mpr ⟨x,dY,rK⟩,by rw[aa];lia,?_⟩;rw[tU];let s5:aB H (upd F L (HO.lst (Ts ((us.erase x).map λc=>[c])))):=sm.dH hL;let eL5:upd F L (HO.lst (Ts ((us.erase x).map λc=>[c]))) L=some (.lst (Ts ((us.erase x).map λc=>[c]))):=aq;let eM5:upd F L (HO.lst (Ts ((us.erase x).map λc=>[c]))) M=some (.lst (as.map V.ref)):=by rw[aV LM.symm];show Gi
    let T5:∀a xs,F a=some (.tup xs)->upd F L (HO.lst (Ts ((us.erase x).map λc=>[c]))) a=some (.tup xs):=λa xs e=>by rw[aV (xr e vh λz=>nomatch z)];show e
    generalize upd F L (HO.lst (Ts ((us.erase x).map λc=>[c])))=H5 at s5 eL5 eM5 T5 ⊢;calc⟨_,rK,.inl ⟨rK,_,bC.of eM5⟩,_,rK,_,rK,_,rK,_,rK,rK,[c],rK,rK,(by show 1<=1000;decide),(λd hd=>by rw[a_.mp hd];have:=Yy.2;lia),zsz 2,λN hN=>?_⟩;let s6:aB H5 (upd H5 N (HO.lst [V.str (S [c]),V.str (S ([c].map PyProof.Rows.up1))])):=aB.upd hN;let eN:upd H5 N (HO.lst [V.str (S [c]),V.str (S ([c].map PyProof.Rows.up1))]) N=some (.lst [V.str (S [c]),V.str (S [PyProof.Rows.up1 c])]):=aq;generalize upd H5 N (HO.lst [V.str (S [c]),V.str (S ([c].map PyProof.Rows.up1))])=H6 at s6 eN ⊢;obtain⟨y,hy,ysg⟩:∃y,sS [V.str (S [c]),V.str (S [PyProof.Rows.up1 c])] (if decide ([x]=[63])=true then 1 else 0)=some (.str (S [y]))/\qN y:=by
     by_cases e:x=63
     .calc⟨PyProof.Rows.up1 c,?_,?_⟩;.rw[ai (by rw[e]),if_pos rfl];rfl
      .have:PyProof.Rows.up1 c=c-32:=adT Yy;rw[this];show aal Yy
     .calc⟨c,?_,aak Yy⟩;rw[ag (by simpa using e),if_neg qc];rfl
    calc⟨_,rK,[x],[63],rK,rK,.inr ⟨_,rK,N,_,_,.str (S [y]),rK,rK,bC.of eN,hy,zsz 3,λT hT=>?_⟩⟩;let s7:aB H6 (upd H6 T (HO.tup [V.int j,V.int k,V.str (S [y])])):=aB.upd hT;let eT:upd H6 T (HO.tup [V.int j,V.int k,V.str (S [y])]) T=some (.tup [V.int j,V.int k,V.str (S [y])]):=aq;generalize upd H6 T (HO.tup [V.int j,V.int k,V.str (S [y])])=H7 at s7 eT ⊢;let J:=s6.trans s7;let eM7:=J _ _ eM5;calc JE M _ (.ref T) ⟨rK,rK,eM7,aK (by rw[aa];lia),?_⟩;calc JI _ _ (us.erase x) (as++[T]) ⟨rK,(s5.trans J).dH fM,?_,?_,?_,?_,λh=>?_⟩;.rw[aV LM];show J _ _ eL5
    .have:=(lj (a:=x) (l:=us)).length_le;lia
    .rw[aq];simp
    .rw[ay];show gV hal
    .let⟨h0,ts,t1,Z,t3,t4⟩:=Y h;let⟨i,rfl⟩:=i9 h0;let kT:∀a xs,H7 a=some (.tup xs)->upd H7 M (HO.lst (as.map V.ref++[V.ref T])) a=some (.tup xs):=λa xs e=>by rw[aV (xr e eM7 λz=>nomatch z)];show e
     refine⟨h0,ts++[(i,k,y)],((t1.Ni λa xs e=>kT a xs (J _ _ (T5 a xs e)))).snoc (kT _ _ eT),λt ht=>?_,?_,λt ht=>?_⟩
     .rcases bu.mp ht with z|z;.show Z t z
      .rw[a_.mp z];show⟨by show i<r;lia,by show k<w;lia,ysg⟩
     .rw[bz];calc NQ t3 λd hd=>?_;let⟨t,ht,rfl⟩:=bc.mp hd;let b1:=(Z t ht).1;let b2:=(Z t ht).2.1;let b3:=t4 t ht;show decide (t.1*1000+t.2.1<i*1000+k)=true;show ai p_
     .rcases bu.mp ht with z|z;.have:=t4 t z;lia
      .rw[a_.mp z];show .inr ⟨rK,pS _⟩
   .let⟨h0,ts,t1,Z,t3,t4⟩:=Y h;show⟨h0,ts,t1,Z,t3,λt ht=>by have:=t4 t ht;lia⟩
  .intro σ F z;let⟨v9,I,us,as,rfl,Jy,zE,ajI,Gk,ajJ,ajK⟩:=z;calc⟨_,rK,_,rK,_,_,rK,rK,?_⟩;calc⟨_,rK,_,_,rK,rK,_,rK,_,_,rK,rK,?_⟩;calc JO _ _ (j+wy) ((k:Int)+1-wy) us as ⟨rK,Jy,zE,ajI,Gk,ajJ,p_,p_,λh=>?_⟩;let⟨h0,ts,t1,Z,t3,t4⟩:=ajK h;show⟨p_,ts,t1,Z,t3,λt ht=>by have:=t4 t ht;lia⟩
 .intro σ O z;let⟨v9,I,j,cc,us,as,rfl,sm,vh,JL,Gi,hal,rr1,cc1,Y⟩:=z;calc⟨_,rK,M,_,rK,.inl ⟨bC.of Gi,λt ht=>?_⟩⟩;let st:=aB.upd ht (o:=HO.tup (as.map V.ref));calc q t as _ (sm.trans st) aq p_ λh=>?_;let⟨h0,ts,t1,Z,t3,t4⟩:=Y h;show⟨ts,t1.mv st,Z,t3⟩
def dT (t:bO):Dt:=.tup [.int t.1,.int t.2.1,.str [t.2.2]]
theorem dN.J3 {H:Hp}:∀{as:List Addr},(∀a∈as,wJ H a (tO H a))->(∀a∈as,(tO H a).2.2<128)->dN K H 2 ((as.map (tO H)).map dT) (as.map V.ref)
 | [],_,_=>.nil
 | a::as,h1,h2=>.cons (.tup (aN.of (h1 a b9)) (.cons (.int _) (.cons (.int _) (.cons (.str _ λc j=>by rw[a_.mp j];show h2 a b9) .nil)))) (dN.J3 (λb hb=>h1 b (bE _ hb)) λb hb=>h2 b (bE _ hb))
def jl.J3 {H:Hp}{t:Addr}{as:List Addr}{ts:List bO}(h:H t=some (.tup (as.map V.ref)))(j:eV H as ts)(hs:∀t∈ts,qN t.2.2):jl K H 3 (.tup (ts.map dT)) (.ref t):=by let e:=j.eq;subst e;show .tup (aN.of h) (dN.J3 j.at_ λa ha=>(hs _ (bc.mpr ⟨a,ha,rK⟩)).lt)
theorem aaV:∀{cs l:List Nat} {left:AA},zH (l.map λc=>[c]) cs=.inr left->∃j,pO l cs=some j
 | [],l,left,_=>⟨l,rK⟩
 | c::cs,l,left,h=>by
  unfold zH at h;unfold pO;by_cases hm:gR c∈l
  .rw[if_pos (bc.mpr ⟨_,hm,rK⟩),tU]at h;rw[if_pos hm];show aaV h
  .rw[if_neg (λz=>by let⟨d,hd,e⟩:=bc.mp z;cases e;show hm hd)]at h;cases h
def aiU {aD:AA}{r w bi bj:Nat}{ws:AA}{bM:List Nat}{ts:List bO}(h:sV aD r w bi bj ws bM ts .ok):∃l,pO bM (ts.map (·.2.2))=some l:=by
 cases h with| ok h1 h2 h3 h4 h5 h=>let⟨l,hl⟩:=h5;show aaV hl
def acN {aD:AA}{ts:List bO}{bs ws:AA}(h:∀x,x∈bs↔x∈ws):Gp aD bs ts=Gp aD ws ts:=by
 let e:Hj bs=Hj ws:=funext λq=>by unfold Hj;rw[decide_eq_decide.mpr (h (Rp q))]
 unfold Gp;rw[e]
def acO {aD:AA}{r w bi bj:Nat}{bs ws:AA}{bM:List Nat}{ts:List bO}(e:∀x,x∈bs↔x∈ws)(h:sV aD r w bi bj bs bM ts .ok):sV aD r w bi bj ws bM ts .ok:=by
 cases h with| ok h1 h2 h3 h4 h5 h=>show .ok h1 h2 h3 h4 h5 (by rw[<-acN e];show h)
structure Yz (aD:AA)(r w bi bj:Nat)(ws:AA)(bM:List Nat)(ts:List bO):Prop where
 wR:∀t∈ts,inB r w t
 h0:0<ts.length
 h7:ts.length<=7
 ri:jU (ts.map nR)=true
 vd:sV aD r w bi bj ws bM ts .ok
def aaW (C CB:Addr):Sp:=λvs H Q _=>∃(b k kd pw:Addr) (bs ws:AA) (bM:List Nat) (c:Int) (r w:Nat) (aD aL:AA) (bi bj:Nat),vs=[.ref b,.ref k,.ref pw,.str (S bM),.int c]/\cG C H b r w aD aL bi bj/\fD CB H k kd bs/\H pw=some (.lst (Ts ws))/\1<=ws.length/\(∀l∈ws,yJ l)/\bM.length<=63/\
 ∀(t:Addr) (as:List Addr) (ts:List bO) (H':Hp),aB H H'->H' t=some (.tup (as.map V.ref))->eV H' as ts->(ts=[]\/Yz aD r w bi bj bs bM ts)->Q (.ref t) H'
open Classical in
def aaX {C CB f1:Addr}{dM:FuncData}(D:aM K mg "_law_laying" Ad ["_law_board","_law_book","_law_words_here","_law_rack","_law_cell"])(bB:mg "len"=none)(rY:mg "min"=none)(F:fY K C)(rQ:Meth K C "is_free" f1)(rR:bW P w K mg base cW 1 f1 dM ["self"] (QZ C))(rT:bK K dM ["self"] [])(nW:bU P w K mg base "_law_stream" 1 ["_law_cell","_law_many"] tW)(UW:bU P w K mg base "_law_candidate" 1 ["_law_rows_here","_law_word","_law_place","_law_rack"] aaU)(ahw:bU P w K mg base "_law_lets" 16 ["_law_board","_law_book","_law_rack","_law_laying_here"] (aaQ C CB)):bU P w K mg base "_law_laying" 17 ["_law_board","_law_book","_law_words_here","_law_rack","_law_cell"] (aaW C CB):=by
 calc D.dh uM (λf bH A outer s H vs Q E hr h=>?_);let⟨b,k,kd,pw,bs,ws,bM,c,r,w,aD,aL,bi,bj,rfl,BA,BK,Wo,w1,hwz,h63,q⟩:=h;obtain⟨⟨Y,pr,pm,pb,hb,I,hpm,hpb⟩,B⟩:=BA;let BA:cG C H b r w aD aL bi bj:=⟨(JI Y pr pm pb ⟨hb,I,hpm,hpb⟩),B⟩
 let r1:=B.r1;let r9:=B.r9;let ww1:=B.w1;let w9:=B.w9;let hrl:(Ts aD).length=r:=by rw[aa,B.br.len]
 let⟨l0,e0,w0⟩:=Ss B.br r1 (i:=0) p_ p_;let hz0:l0.length<=sizeLine:=ap (aK p_);calc⟨_,(aA (fP cz rK (oh (bD nW hr.mono rK (aj cJ (aj au ao)))) (bF (i:=5) uM.nd rK (Or.inl rK)) (aA (aU (i:=6) uM.nd rK (Or.inl rK) (cR (aj (aJ bV (aJ cI dF au) (aO bY qf bB aE (aj (bR aG rK) ao))) (aj (aJ bV (aJ cI dF au) (aO cZ qf bB aE (aj (aY bw (bR aG rK) au (λ_ _=>rfl)) ao))) (aj (aJ bV (aJ cI dF au) au) ao))))) (aA (fU (cA (cQ (dR aG F.cl rQ rR hr.mono rT .nil cY)) (aF (aU (i:=6) uM.nd rK (Or.inl rK) (cR (aj (aJ oO (aY bw (bR aG rK) au (λ_ _=>rfl)) (aJ iM (aJ bV (aJ cI dF au) au) (aJ bV dF au))) (aj (aY bw (bR aG rK) au (λ_ _=>rfl)) (aj (aJ bV (aJ cI dF au) au) ao)))))) bI)) (aA (aU (i:=7) uM.nd rK (Or.inl rK) (bD UW hr.mono rK (aj (bR aG rK) (aj (aY iH bA (aJ bV (aJ cI dF au) (aO bY qf bB aE (aj bA ao))) (λ_ _=>rfl)) (aj fG (aj bN ao)))))) (aF (cA (QW.qt (zm (bQ Ew (aO (aai rK) qf rY mI (aj fG ao)) au (bG _)) (zm (bQ (Cz hr.units) iJ (cR ao) (bG _)) (zm (bQ vo (aO bY qf bB aE (aj iJ ao)) au (bG _)) (Fb (cQ (bD ahw hr.mono rK (aj aG (aj aW (aj bN (aj iJ ao))))))))))) (aF (bf iJ)) bI)))))) (aF (bf (cR ao)))),?_⟩;calc⟨_,rK,c,24,rK,qc,λp ds H1 s1 hp0 hp hdl=>?_⟩;refine⟨p,rK,⟨_,bC.of hp⟩,nC (K:=K) (a:=p) (xs:=ds.map V.int) (λi σ O=>∃(v5 v6 v7:Option V),σ=[some (.ref b),some (.ref k),some (.ref pw),some (.str (S bM)),some (.int c),v5,v6,v7]/\aB H1 O)
  (JE none none none ⟨rK,aB.refl _⟩) (λi σ O _ h=>?_) ?_ ?_⟩
 .let⟨_,_,_,_,sm⟩:=h;show bC.of (sm _ _ hp)
 .intro i x σ O hx z;let⟨v5,v6,v7,rfl,sm⟩:=z;rw[bS]at hx;let⟨n,hn,rfl⟩:=c9.mp hx;let s2:=s1.trans sm;let d0:=df (n/64) (show (r:Int)≠0 by lia);let d1:=df (n/640) (show (w:Int)≠0 by lia);let d2:n/6400%2=0\/n/6400%2=1:=p_;refine⟨_,rK,_,_,rK,rK,⟨qc,qc⟩,_,rK,b,C,Y,_,_,rK,s2 _ _ hb,F.cl,F.nr,rK,pr,_,rK,.inr (aN.of (s2 _ _ I)),_,_,rK,rK,(by show (0:Int)<_;rw[hrl];lia),
   _,rK,_,_,rK,rK,⟨qc,qc⟩,_,rK,b,C,Y,_,_,rK,s2 _ _ hb,F.cl,F.nr,rK,pr,_,_,.str (S l0),rK,rK,aN.of (s2 _ _ I),e0,l0,rK,hz0,_,_,rK,rK,(by show (0:Int)<_;rw[w0];lia),
   _,rK,_,_,rK,rK,⟨qc,qc⟩,_,_,rK,rK,(by show (0:Int)<2;decide),zsz 3,λpl hpl=>?_⟩
  rw[hrl,w0];let sP:aB O (upd O pl (HO.tup [V.int (n/64%r),V.int (n/640%w),V.int (n/6400%2)])):=aB.upd hpl;let eP:upd O pl (HO.tup [V.int (n/64%r),V.int (n/640%w),V.int (n/6400%2)]) pl=some (.tup [V.int (n/64%r),V.int (n/640%w),V.int (n/6400%2)]):=aq;generalize upd O pl (HO.tup [V.int (n/64%r),V.int (n/640%w),V.int (n/6400%2)])=H3 at sP eP ⊢;let s3:=s2.trans sP;refine⟨λσ H4=>∃(pl:Addr) (i0 j0 wy:Int),σ=[some (.ref b),some (.ref k),some (.ref pw),some (.str (S bM)),some (.int c),some (.int n),some (.ref pl),v7]/\aB H3 H4/\H4 pl=some (.tup [.int i0,.int j0,.int wy])/\-1<=i0/\0<=j0/\(wy=0\/wy=1),?_,?_⟩
  .calc⟨_,rK,b,Y,_,rK,s3 _ _ hb,rK,b,r,w,aD,aL,bi,bj,rK,BA.mv s3,λH4 s4=>⟨_,rK,?_⟩⟩;let J:=s3.trans s4;calc jE (λ_=>?_) (λ_=>(JI pl _ _ _ ⟨rK,s4,s4 _ _ eP,p_,d1,d2⟩));let d3:n%2=0\/n%2=1:=p_;refine⟨_,rK,b,C,Y,_,_,rK,J _ _ hb,F.cl,F.nb,rK,pb,_,_,.int bi,rK,rK,aN.of (J _ _ hpb),aQ (j:=0) rK,_,rK,_,_,rK,rK,⟨qc,qc⟩,_,_,rK,rK,(by show (0:Int)<2;decide),_,rK,_,_,rK,rK,(by show (0:Int)<2;decide),_,_,rK,rK,.inl ⟨p_,p_⟩,_,_,rK,rK,
    _,rK,b,C,Y,_,_,rK,J _ _ hb,F.cl,F.nb,rK,pb,_,_,.int bj,rK,rK,aN.of (J _ _ hpb),aQ (j:=1) rK,_,rK,_,_,rK,rK,⟨qc,qc⟩,_,_,rK,rK,(by show (0:Int)<2;decide),zsz 3,λpl2 ajL=>?_⟩
   calc JI pl2 _ _ _ ⟨rK,s4.trans (aB.upd ajL),aq,?_,p_,d2⟩;show -1<=(bi:Int)-n/6400%2*(n%2)
   rcases d2 with e|e <;> rw[e] <;> lia
  intro σ H4 z;let⟨pl,i0,j0,wy,rfl,s4,ahx,i1,j1,Q6⟩:=z;let J:=s3.trans s4;let⟨wv,hwv,hwm⟩:=vU (xs:=Ts ws) (n:=ws.length) (by rw[aa]) w1 (n/12800);let⟨wd,hwd,rfl⟩:=bc.mp hwm;let hwl:(Ts ws).length=ws.length:=aa _;refine⟨_,rK,b,C,Y,_,_,rK,J _ _ hb,F.cl,F.nr,rK,_,rK,_,rK,_,_,rK,rK,⟨qc,qc⟩,_,rK,pw,_,rK,.inl (bC.of (J _ _ Wo)),_,_,rK,rK,(by show (0:Int)<_;rw[hwl];lia),pw,_,_,.str (S wd),rK,rK,bC.of (J _ _ Wo),(by rw[hwl];show hwv),_,rK,_,rK,
   pr,pl,bM,wd,i0,j0,wy,r,w,aD,rK,J _ _ I,B.br,r1,r9,w9,hwz wd hwd,ahx,i1,j1,Q6,h63,λt as H5 s5 ht hal hts=>?_⟩
  let zJ:=J.trans s5;let s15:aB H1 H5:=((sm.trans sP).trans s4).trans s5;calc⟨_,rK,pl,[i0,j0,wy],rK,aN.of (s5 _ _ ahx),by show 0<3;decide,λm hm hle=>(JA _ _ ⟨rK,rK,_,rK,?_⟩)⟩;calc jE (λhge=>?_) (λ_=>(JE _ _ _ ⟨rK,s15⟩));let hi0:0<=i0:=by let h1:=hle i0 b9;let h2:=dP hge;show Int.le_trans h2 h1
  let⟨ts,hL,dY,Gj⟩:=hts hi0;let cU:as.length=ts.length:=by rw[<-hL.eq,aa]
  calc⟨_,rK,zsz 0,λe he=>?_⟩;let G:aB H5 (upd H5 e (HO.tup [])):=aB.upd he;let e6:upd H5 e (HO.tup []) e=some (.tup []):=aq;generalize upd H5 e (HO.tup [])=H6 at G e6 ⊢;let B_:=zJ.trans G;let Z:=s15.trans G;calc JE 3 (.tup (ts.map dT)) (.tup []) ⟨qc,jl.J3 (G _ _ ht) (hL.mv G) (λt h=>(dY t h).2.2),.tup (aN.of e6) .nil,_,rK,?_⟩;calc jE (λhne=>?_) (λ_=>(JE _ _ _ ⟨rK,Z⟩));let h0:0<ts.length:=by
   rcases lh ts.length with z|z
   .have:ts=[]:=gN.mp z;subst this;simp at hne
   .show z
  calc⟨_,rK,t,_,rK,.inr (aN.of (G _ _ ht)),_,_,rK,rK,_,rK,?_⟩;calc jE (λh8=>?_) (λ_=>(JE _ _ _ ⟨rK,Z⟩));let h7:ts.length<=7:=by have:=dP h8;rw[aa]at this;lia
  calc⟨_,rK,_,rK,_,rK,_,rK,b,k,kd,t,bs,bM,as,ts,r,w,aD,aL,bi,bj,rK,BA.mv B_,BK.mv B_,h63,G _ _ ht,hL.mv G,dY,h0,h7,Gj,λo H7 s7 ho=>⟨_,rK,?_⟩⟩;calc jE (λhb=>?_) (λ_=>(JE _ _ _ ⟨rK,Z.trans s7⟩));show⟨_,rK,q t as ts H7 (B_.trans s7) (s7 _ _ (G _ _ ht)) ((hL.mv G).mv s7) (.inr ⟨dY,h0,h7,Gj,ho hb⟩)⟩
 .intro σ O z;let⟨v5,v6,v7,rfl,sm⟩:=z;calc⟨zsz 0,λt ht=>?_⟩;show q t [] [] _ ((s1.trans sm).trans (aB.upd ht)) aq ⟨λa h=>(by cases h),rK⟩ (.inl rK)
theorem Ws:∀{l m bM:List Nat},bM.Perm (l++m)->∃j,wX bM l=some j
 | [],m,bM,_=>⟨bM,rK⟩
 | c::l,m,bM,h=>by let D:c∈bM:=h.mem_iff.mpr qa;unfold wX;rw[if_pos D];let h2:=h.erase c;rw[o6,List.erase_cons_head]at h2;show Ws h2
def cO (z:Std)(dn:Nat):List Nat:=z.racks.getD (dn%z.racks.length) []
def aaY (z:Std)(dn:Nat)(bs:AA):dz->Prop
 | .lay ts=>Yz z.aD z.r z.w z.bi z.bj bs (cO z dn) ts
 | .swap l=>l≠[]/\l.length<=7/\(∀c∈l,oM c)/\(∃m,pO (cO z dn) l=some m)/\l.length<=z.bag.length
 | .pass=>True
def Sw {z:Std}{dn:Nat}(h:dn%z.racks.length<z.racks.length):cO z dn=z.racks[dn%z.racks.length]:=by unfold cO;rw[aw,af h];rfl
def Wt (C CB:Addr):Sp:=λvs H Q _=>∃(pn k kd pw:Addr) (bs ws:AA) (c:Int) (z:Std) (dn ps:Nat) (ov:Bool),vs=[.ref pn,.ref k,.ref pw,.int c]/\lJ C H pn z dn ps ov/\k_ z/\fD CB H k kd bs/\H pw=some (.lst (Ts ws))/\1<=ws.length/\(∀l∈ws,yJ l)/\
 ∀(p:Addr) (d:dz) (H':Hp),aB H H'->uP H' p d->aaY z dn bs d->Q (.ref p) H'
open Classical in
def ae8 {C CB:Addr}(D:aM K mg "_law_deed" Jt ["_law_now","_law_book","_law_words_here","_law_cell"])(bB:mg "len"=none)(rY:mg "min"=none)(nW:bU P w K mg base "_law_stream" 1 ["_law_cell","_law_many"] tW)(acP:bU P w K mg base "_law_laying" 17 ["_law_board","_law_book","_law_words_here","_law_rack","_law_cell"] (aaW C CB)):bU P w K mg base "_law_deed" 18 ["_law_now","_law_book","_law_words_here","_law_cell"] (Wt C CB):=by
 calc D.dh jT (λf bH A outer s H vs Q E hr h=>?_);let⟨pn,k,kd,pw,bs,ws,c,z,dn,ps,ov,rfl,NA,Z,BK,Wo,w1,hwz,q⟩:=h;let⟨b,pr,pp,hn,hB,hpr,hpp⟩:=NA.ex;let n1:=Z.n1;let hrl:(Ts z.racks).length=z.racks.length:=aa _;let htn:dn%z.racks.length<z.racks.length:=Nat.mod_lt _ n1;let erk:=Sw htn;let⟨k7,kt⟩:=Z.r7 _ (a9 htn);rw[<-erk]at k7 kt;let hz:(cO z dn).length<=sizeLine:=ap (aK p_);let b6:=Z.b6;let Wu:z.bag.length<=sizeLine:=ap (aK p_);calc⟨_,(aA (fU (qZ aG (nY rK (bT (bF (i:=4) jT.nd rK (Or.inl rK)) (bT (bF (i:=5) jT.nd rK (Or.inl rK)) (bT (bF (i:=6) jT.nd rK (Or.inl rK)) (bT (bF (i:=7) jT.nd rK (Or.inl rK)) (bT (bF (i:=8) jT.nd rK (Or.inl rK)) (bT (bF (i:=9) jT.nd rK (Or.inl rK)) (bT (bF (i:=10) jT.nd rK (Or.inl rK)) lq)))))))))) (aA (aU (i:=11) jT.nd rK (Or.inl rK) (bD nW hr.mono rK (aj bN (aj au ao)))) (aA (fU (aU (i:=12) jT.nd rK (Or.inl rK) (aY bw dF (aJ bV jZ (aO bY qf bB aE (aj dF ao))) (λ_ _=>rfl)))) (aA (aU (i:=13) jT.nd rK (Or.inl rK) (cR ao)) (aA (fU (cA (bQ ail (aJ bV (aY iH lC au (λ_ _=>rfl)) au) au (bG _)) (aF (aU (i:=13) jT.nd rK (Or.inl rK) (bD acP hr.mono rK (aj cJ (aj aW (aj bA (aj pX (aj (aY iH lC au (λ_ _=>rfl)) ao)))))))) bI)) (aA (cA (bQ (Cz hr.units) (qv 13) (cR ao) (bG _)) (aF (bf (cR (aj (bJ [108,97,121] qi) (aj (qv 13) ao))))) bI) (aA (aU (i:=14) jT.nd rK (Or.inl rK) (aJ cL au (aJ bV (aY iH lC au (λ_ _=>rfl)) au))) (aA (cA (QW.qt (je (bQ iQ (aJ bV (aY iH lC au (λ_ _=>rfl)) au) au (bG _)) (iR (bQ vo (aO (Mp rK) qf rY mI (aj (aO cZ qf bB aE (aj pX ao)) (aj (aO cZ qf bB aE (aj fG ao)) ao))) (qv 14) (bG _))))) (aF (bf (cR (aj (bJ [112,97,115,115] qi) ao)))) bI) (aA (aU (i:=15) jT.nd rK (Or.inl rK) (aJ bV (aJ cI (aY iH lC au (λ_ _=>rfl)) au) (aO cZ qf bB aE (aj pX ao)))) (aF (bf (cR (aj (bJ [115,119,97,112] qi) (aj (dj pQ (aJ mO (dj pQ pX (dI (qv 15)) eE) (dj pQ pX eE (dI (qv 15)))) eE (dI (qv 14))) ao)))))))))))))),?_⟩;calc⟨λσ H1=>H=H1/\σ=[some (.ref pn),some (.ref k),some (.ref pw),some (.int c),some (.ref b),some (.ref pr),some (.str (S z.bag)),some (.ref pp),some (.int dn),some (.int ps),some (.bl ov),none,none,none,none,none],⟨_,rK,pn,_,rK,aN.of hn,rK,_,_,rK,_,_,rK,_,_,rK,_,_,rK,_,_,rK,_,_,rK,_,_,rK,rK,rK,rK⟩,?_⟩;rintro σ H1 ⟨eH,rfl⟩;subst eH;refine⟨_,rK,c,3,rK,qc,λI ds H1 s1 hp0 hp hdl=>?_⟩
 match ds,hdl with
 | [x,y,u],_=>
  let emod:(dn:Int)%((Ts z.racks).length:Int)=((dn%z.racks.length:Nat):Int):=by rw[hrl];lia
  calc⟨λσ H2=>H1=H2/\σ=[some (.ref pn),some (.ref k),some (.ref pw),some (.int c),some (.ref b),some (.ref pr),some (.str (S z.bag)),some (.ref pp),some (.int dn),some (.int ps),some (.bl ov),some (.ref I),some (.str (S (cO z dn))),none,none,none],⟨_,rK,_,rK,_,rK,pr,_,rK,.inr (aN.of (s1 _ _ hpr)),_,_,rK,rK,(by show (0:Int)<_;rw[hrl];lia),pr,_,_,.str (S (cO z dn)),rK,rK,aN.of (s1 _ _ hpr),(by rw[emod,erk];show aQ (nQ (af htn))),rK,rK⟩,?_⟩;rintro σ H2 ⟨eH,rfl⟩;subst eH;calc⟨zsz 0,λe he=>?_⟩;let s2:aB H1 (upd H1 e (HO.tup [])):=aB.upd he;let e2:upd H1 e (HO.tup []) e=some (.tup (([]:List Addr).map V.ref)):=aq;generalize upd H1 e (HO.tup [])=H2 at s2 e2 ⊢;let d9:=s1.trans s2;let Y:=s2 _ _ hp;refine⟨λσ G=>∃(t:Addr) (as:List Addr) (ts:List bO),σ=[some (.ref pn),some (.ref k),some (.ref pw),some (.int c),some (.ref b),some (.ref pr),some (.str (S z.bag)),some (.ref pp),some (.int dn),some (.int ps),some (.bl ov),some (.ref I),some (.str (S (cO z dn))),some (.ref t),none,none]/\aB H2 G/\G t=some (.tup (as.map V.ref))/\eV G as ts/\(ts=[]\/Yz z.aD z.r z.w z.bi z.bj bs (cO z dn) ts),?_,?_⟩
  .calc⟨_,rK,I,_,_,.int x,rK,rK,bC.of Y,aQ (j:=0) rK,_,_,rK,rK,(by show (0:Int)<8;decide),_,_,rK,rK,_,rK,?_⟩;calc jE (λ_=>?_) (λ_=>(JE e [] [] ⟨rK,aB.refl _,e2,⟨λa h=>(by cases h),rK⟩,.inl rK⟩));show⟨_,rK,_,rK,_,rK,_,rK,_,rK,I,_,_,.int y,rK,rK,bC.of Y,aQ (j:=1) rK,b,k,kd,pw,bs,ws,cO z dn,y,z.r,z.w,z.aD,z.aL,z.bi,z.bj,rK,hB.mv d9,BK.mv d9,d9 _ _ Wo,w1,hwz,p_,λt as ts G s3 ht hL ho=>(JE t as ts ⟨rK,s3,ht,hL,ho⟩)⟩
  intro σ G z;let⟨t,as,ts,rfl,s3,ht,hL,ho⟩:=z;let fj:=d9.trans s3;let hp3:=s3 _ _ Y;calc⟨_,rK,zsz 0,λe' he'=>?_⟩;let J:aB G (upd G e' (HO.tup [])):=aB.upd he';let e4:upd G e' (HO.tup []) e'=some (.tup []):=aq;generalize upd G e' (HO.tup [])=H4 at J e4 ⊢;let gJ:=fj.trans J;let O:=J _ _ hp3;let hsg:∀t∈ts,qN t.2.2:=by
   rcases ho with h|h;.subst h;intro t h;cases h
   .show λt ht=>(h.wR t ht).2.2
  calc JE 3 (.tup (ts.map dT)) (.tup []) ⟨qc,jl.J3 (J _ _ ht) (hL.mv J) hsg,.tup (aN.of e4) .nil,_,rK,?_⟩;refine jE (λhne=>?_) (λ_=>?_)
  .rcases ho with h|h;.subst h;simp at hne
   calc⟨_,rK,zsz 2,λp hp=>?_⟩;let sp:=aB.upd hp (o:=HO.tup [V.str (S [108,97,121]),V.ref t]);show q p (.lay ts) _ (gJ.trans sp) (JA t as ⟨aq,sp _ _ (J _ _ ht),(hL.mv J).mv sp⟩) h
  calc⟨_,rK,I,_,_,.int u,rK,rK,bC.of O,aQ (j:=2) rK,_,_,rK,rK,(by show (0:Int)<7;decide),_,_,rK,rK,?_⟩;let pass:1<=sizeLine/\∀p,H4 p=none->Q (.ref p) (upd H4 p (HO.tup [V.str (S [112,97,115,115])])):=⟨zsz 1,λp hp=>q p .pass _ (gJ.trans (aB.upd hp)) aq True.intro⟩
  calc⟨_,rK,I,_,_,.int x,rK,rK,bC.of O,aQ (j:=0) rK,_,_,rK,rK,(by show (0:Int)<8;decide),rK,_,rK,?_⟩;calc jE (λ_=>pass) (λ_=>?_);calc⟨_,rK,cO z dn,rK,hz,_,rK,z.bag,rK,Wu,_,_,rK,_,rK,_,_,rK,rK,_,rK,?_⟩;calc jE (λ_=>pass) (λhm=>?_);let hm:=j3 (oC.mpr hm);obtain⟨F,adU⟩:∃F:Nat,1+u%7=(F:Int):=⟨(1+u%7).toNat,p_⟩
  let m1:1<=F:=p_;let m7:F<=7:=p_;let mr:F<=(cO z dn).length/\F<=z.bag.length:=by let hm:¬((if (z.bag.length:Int)<((cO z dn).length:Int) then (z.bag.length:Int) else ((cO z dn).length:Int))<1+u%7):=hm;rw[adU]at hm;split at hm <;> lia
  let hpos:(0:Int)<((cO z dn).length:Int):=p_;obtain⟨B,hBy⟩:∃B:Nat,u/7%((cO z dn).length:Int)=(B:Int):=⟨(u/7%((cO z dn).length:Int)).toNat,by have:=df (u/7) (show ((cO z dn).length:Int)≠0 by lia);lia⟩
  calc⟨_,rK,I,_,_,.int u,rK,rK,bC.of O,aQ (j:=2) rK,_,_,rK,rK,⟨qc,qc⟩,_,rK,cO z dn,rK,hz,_,_,rK,rK,hpos,?_⟩;calc⟨_,rK,_,rK,_,rK,cO z dn,rK,hz,_,rK,_,rK,_,rK,cO z dn,rK,hz,_,_,rK,rK,?_,_,rK,_,rK,_,rK,?_,zsz 2,λp hp=>?_⟩;.rw[hBy,j6,oA,ba,av];show ap (aK p_)
  .rw[hBy,j6,oA,ay,ba,av];show ap (aK p_)
  let ec:gU (gU (cO z dn) (some (u/7%((cO z dn).length:Int))) none++gU (cO z dn) none (some (u/7%((cO z dn).length:Int)))) none (some (1+u%7))=((cO z dn).drop B++(cO z dn).take B).take F:=by rw[hBy,j6,oA,adU,oA]
  let pe:(cO z dn).Perm (((cO z dn).drop B++(cO z dn).take B).take F++((cO z dn).drop B++(cO z dn).take B).drop F):=by rw[kq];calc List.Perm.trans ?_ List.perm_append_comm;rw[kq]
  let⟨m,hrm⟩:=Ws pe;let cU:(((cO z dn).drop B++(cO z dn).take B).take F).length=F:=by rw[av,ay,ba,av];lia
  let htl:∀c∈((cO z dn).drop B++(cO z dn).take B).take F,oM c:=λc hc=>kt c (by
   rcases bu.mp (cy hc) with z|z;.show ed z
   .show cy z)
  let sp:=aB.upd hp (o:=HO.tup [V.str (S [115,119,97,112]),V.str (S (gU (gU (cO z dn) (some (u/7%((cO z dn).length:Int))) none++gU (cO z dn) none (some (u/7%((cO z dn).length:Int)))) none (some (1+u%7))))]);refine q p (.swap (((cO z dn).drop B++(cO z dn).take B).take F)) _ (gJ.trans sp) ?_ ⟨λz=>?_,p_,htl,⟨m,?_⟩,p_⟩
  .show upd H4 p _ p=_;rw[aq,<-ec];rfl
  .rw[z]at cU;simp at cU;lia
  .rw[<-Pk,Wi htl];show hrm
def Wv (ps:Nat):dz->Nat
 | .pass=>ps+1
 | _=>0
noncomputable def ovN (z z':Std)(ps dn:Nat):dz->Bool
 | .pass=>decide (2*z.racks.length<=ps+1)
 | .swap _=>false
 | .lay _=>decide (cO z' dn=[])&&decide (z'.bag=[])
def NT {d:dz}:d.name=fJ↔d=.pass:=by
 cases d with| lay ts=>show⟨λh=>absurd h (show ¬jd=fJ by decide),λh=>nomatch h⟩| swap l=>show⟨λh=>absurd h (show ¬ig=fJ by decide),λh=>nomatch h⟩| pass=>show⟨λ_=>rfl,λ_=>rfl⟩
def ae9 {c:Nat}(h:qN c):sS [V.str (S [c]),V.str (S [63])] (if (!decide ([PyProof.Rows.lo1 c]=[c]))=true then 1 else 0)=some (.str (S [gR c])):=by
 unfold qN Di Dh Gh at h;simp at h;unfold gR PyProof.Rows.lo1;by_cases j:65<=c/\c<=90
 .rw[if_pos j,if_pos j];have:¬[c+32]=[c]:=λz=>by simp at z
  rw[ag this];rfl
 .rw[if_neg j,if_neg j,ai rfl];rfl
def aiV (n k:Nat):(if (n:Int)-(k:Int) > 0 then (n:Int)-(k:Int) else 0)=((n-k:Nat):Int):=by split <;> lia
def aaZ (C:Addr):Sp:=λvs H Q _=>∃(pn p pw pd:Addr) (z z':Std) (dn ps:Nat) (ov:Bool) (Z:Gs) (G:Gm) (d:dz) (pt:Int),vs=[.ref pn,.ref p,.ref pd]/\lJ C H pn z dn ps ov/\k_ z/\yt C H p pw Z/\Yw Z/\uP H pd d/\G.done.length=dn/\G.kvs=Z.kvs/\G.bn=Z.bn/\G.bm=Z.bm/\G.size=Z.size/\Does G z d pt z'/\
 ∀(t j:Addr) (H':Hp),aB H H'->H' t=some (.tup [.int pt,.ref j])->lJ C H' j z' (dn+1) (Wv ps d) (ovN z z' ps dn d)->Q (.ref t) H'
def J4 {c:Nat}(h:oM c):c<128:=by
 rcases h with e|e;.have:=e.2;lia
 .lia
open Classical in
def ae_ {C f1:Addr}{dM:FuncData}(D:aM K mg "_law_next" Ju ["_law_now","_law_parts_here","_law_deed_here"])(bB:mg "len"=none)(iy:mg "list"=none)(gY:mg "sorted"=none)(jB:mg "int"=none)(yj:mg "max"=none)(cj:fY K C)(kO:Meth K C "laid" f1)(kY:bW P w K mg base cW 8 f1 dM ["self","laying"] (Dk C))(kZ:bK K dM ["self","laying"] [])(afa:bU P w K mg base "_law_taken" 1 ["_law_rack","_law_tiles_here"] Wj)(acQ:bU P w K mg base "_law_taken" 1 ["_law_rack","_law_tiles_here"] R8)(yM:bU P w K mg base "points_of" 11 ["board","worths","bonus","laying"] (Yo C)):bU P w K mg base "_law_next" 12 ["_law_now","_law_parts_here","_law_deed_here"] (aaZ C):=by
 calc D.dh gA (λf bH A outer s H vs Q E hr h=>?_);let⟨pn,p,pw,pd,z,z',dn,ps,ov,Z,G,d,pt,rfl,NA,Zk,PA,PO,hd,hdn,ek,en,em,ez,hdo,q⟩:=h;let⟨b,pr,pp,hn,hB,I,hpp⟩:=NA.ex;let⟨b0,dk,pb,prr,hp,hB0,hdk,hpb,aj4⟩:=PA.ex;let⟨nxs,hnm⟩:=Wd hd;let n1:=Zk.n1;let n4:=Zk.n4;let hrl:(Ts z.racks).length=z.racks.length:=aa _;let F:dn%z.racks.length<z.racks.length:=Nat.mod_lt _ n1;let erk:=Sw F;let⟨k7,kt⟩:=Zk.r7 _ (a9 F);rw[<-erk]at k7 kt;let b6:=Zk.b6;let Wu:z.bag.length<=sizeLine:=ap (aK p_);let Y:jC G z=dn%z.racks.length:=by unfold jC;rw[hdn]
 let emod:(dn:Int)%((Ts z.racks).length:Int)=((dn%z.racks.length:Nat):Int):=by rw[hrl];lia
 let eat:sS (Ts z.racks) ((dn:Int)%((Ts z.racks).length:Int))=some (.str (S (cO z dn))):=by rw[emod,erk];show aQ (nQ (af F))
 calc⟨_,(aA (fU (qZ aG (nY rK (bT (bF (i:=3) gA.nd rK (Or.inl rK)) (bT (bF (i:=4) gA.nd rK (Or.inl rK)) (bT (bF (i:=5) gA.nd rK (Or.inl rK)) (bT (bF (i:=6) gA.nd rK (Or.inl rK)) (bT (bF (i:=7) gA.nd rK (Or.inl rK)) (bT (bF (i:=8) gA.nd rK (Or.inl rK)) (bT (bF (i:=9) gA.nd rK (Or.inl rK)) lq)))))))))) (aA (fU (aU (i:=10) gA.nd rK (Or.inl rK) (aJ bV iJ (aO bY qf bB aE (aj cJ ao))))) (aA (aU (i:=11) gA.nd rK (Or.inl rK) au) (aA (cA (bQ jF (aY bw bA au (λ_ _=>rfl)) (bJ [112,97,115,115] qi) (bG _)) (aF (bf (cR (aj au (aj (cR (aj bN (aj cJ (aj dF (aj fG (aj (aJ cL iJ au) (aj (aJ cL jZ au) (aj (d_ Ew (aJ cL jZ au) (aJ iM au (aO bY qf bB aE (aj cJ ao))) (bG _)) ao)))))))) ao))))) bI) (aA (fU (cA (bQ jF (aY bw bA au (λ_ _=>rfl)) (bJ [115,119,97,112] qi) (bG _)) (aA (aU (i:=12) gA.nd rK (Or.inl rK) (aJ Zu (bD afa hr.mono rK (aj (aY bw cJ jh (λ_ _=>rfl)) (aj (aY bw bA au (λ_ _=>rfl)) ao))) (eO (nF rK) qf iy fq (aj (dj pQ dF eE (dI (aO cZ qf bB aE (aj (aY bw bA au (λ_ _=>rfl)) ao)))) ao)))) (aF (aU (i:=5) gA.nd rK (Or.inl rK) (aJ mO (dj pQ dF (dI (aO cZ qf bB aE (aj (aY bw bA au (λ_ _=>rfl)) ao))) eE) (f9 bo c_ de qI (bJ [] qi) (aj (aO (uW rK) qf gY f8 (aj (aY bw bA au (λ_ _=>rfl)) ao)) ao)))))) (aA (aU (i:=11) gA.nd rK (Or.inl rK) (bD yM hr.mono rK (aj bN (aj (aY bw aW au (λ_ _=>rfl)) (aj (aY bw aW au (λ_ _=>rfl)) (aj (aY bw bA au (λ_ _=>rfl)) ao)))))) (aA (aU (i:=12) gA.nd rK (Or.inl rK) (bD acQ hr.mono rK (aj (aY bw cJ jh (λ_ _=>rfl)) (aj (lX (ns:=["_law_row","_law_column","_law_sign"]) rK (jM.of ["_law_now","_law_parts_here","_law_deed_here","_law_board","_law_racks","_law_bag","_law_sums","_law_done","_law_passed","_law_over","_law_here","_law_points","_law_left","_law_drawn"] [] qh) (gG (aY bw bA au (λ_ _=>rfl))) (λ_ _ _ _ _=>(o_ K rK (show (["_law_row","_law_column","_law_sign","_law_now","_law_parts_here","_law_deed_here","_law_board","_law_racks","_law_bag","_law_sums","_law_done","_law_passed","_law_over","_law_here","_law_points","_law_left","_law_drawn"]:List Str).Nodup by decide +kernel) rK rK rK qf qf qf)) (λ_ _ _ _ _=>dX) (λ_ _ _ _ _=>(aY (abW K) (jH (aj bA (aj (bJ [63] qi) ao))) (eO Mq qf jB fR (aj (d_ Jb (aeE K bo mh mi Qk bA) bA (bG _)) ao)) (λ_ _=>rfl)))) ao)))) (aA (fU (aU (i:=13) gA.nd rK (Or.inl rK) (dj pQ dF eE (dI (aO (Ml rK) qf yj PyProof.Rows.boot_max (aj au (aj (aJ oO (aY bw aW au (λ_ _=>rfl)) (aO bY qf bB aE (aj pX ao))) ao))))))) (aA (aU (i:=12) gA.nd rK (Or.inl rK) (aJ Zu pX (eO (nF rK) qf iy fq (aj (qv 13) ao)))) (aA (aU (i:=5) gA.nd rK (Or.inl rK) (dj pQ dF (dI (aO cZ qf bB aE (aj (qv 13) ao))) eE)) (aF (aU (i:=3) gA.nd rK (Or.inl rK) (mQ bN cj.cl kO kY hr.mono kZ .nil cY (aj (aY bw bA au (λ_ _=>rfl)) ao))))))))))) (aA (aU (i:=4) gA.nd rK (Or.inl rK) (aJ vW (aJ vW (dj vX cJ eE (dI jh)) (cR (aj (f9 bo c_ de qI (bJ [] qi) (aj (aO CJ qf gY f8 (aj pX ao)) ao)) ao))) (dj vX cJ (dI (aJ cL jh au)) eE))) (aA (aU (i:=6) gA.nd rK (Or.inl rK) (aJ vW (aJ vW (dj vX fG eE (dI jh)) (cR (aj (aJ cL (aY bw fG jh (λ_ _=>rfl)) lC) ao))) (dj vX fG (dI (aJ cL jh au)) eE))) (aF (bf (cR (aj lC (aj (cR (aj bN (aj cJ (aj dF (aj fG (aj (aJ cL iJ au) (aj au (aj (jG (d_ jF (aY bw bA au (λ_ _=>rfl)) (bJ [108,97,121] qi) (bG _)) (jG (d_ (Cy hr.units) pX (jH ao) (bG _)) (jg (d_ jF dF (bJ [] qi) (bG _))))) ao)))))))) ao)))))))))))),?_⟩;calc⟨λσ H1=>H=H1/\σ=[some (.ref pn),some (.ref p),some (.ref pd),some (.ref b),some (.ref pr),some (.str (S z.bag)),some (.ref pp),some (.int dn),some (.int ps),some (.bl ov),none,none,none,none],⟨_,rK,pn,_,rK,aN.of hn,rK,_,_,rK,_,_,rK,_,_,rK,_,_,rK,_,_,rK,_,_,rK,_,_,rK,rK,rK,rK⟩,?_⟩;rintro σ H1 ⟨eH,rfl⟩;subst eH;calc⟨λσ H2=>H=H2/\σ=[some (.ref pn),some (.ref p),some (.ref pd),some (.ref b),some (.ref pr),some (.str (S z.bag)),some (.ref pp),some (.int dn),some (.int ps),some (.bl ov),some (.int ((dn:Int)%((Ts z.racks).length:Int))),none,none,none],⟨_,rK,_,rK,pr,_,rK,.inr (aN.of I),_,_,rK,rK,(by show (0:Int)<_;rw[hrl];lia),rK,rK⟩,?_⟩;rintro σ H2 ⟨eH,rfl⟩;subst eH;calc⟨_,rK,pd,_,_,.str (S d.name),rK,rK,aN.of hnm,aQ (j:=0) rK,d.name,fJ,rK,rK,_,rK,?_⟩;by_cases J:d=.pass
 .subst J;rw[ai (show dz.name .pass=fJ from rK)];cases hdo;let eo:decide ((ps:Int)+1>=2*((Ts z.racks).length:Int))=decide (2*z.racks.length<=ps+1):=Fv (by rw[hrl];lia);calc cu ⟨_,rK,_,rK,_,rK,_,rK,_,rK,_,_,rK,rK,_,rK,_,_,rK,rK,_,rK,_,_,rK,rK,_,rK,pr,_,rK,.inr (aN.of I),_,_,rK,rK,.inl ⟨qc,qc⟩,_,_,rK,rK,zsz 7,λp' hp'=>⟨zsz 2,λt ht=>?_⟩⟩;let s1:=aB.upd hp' (o:=HO.tup [V.ref b,V.ref pr,V.str (S z.bag),V.ref pp,V.int ((dn:Int)+1),V.int ((ps:Int)+1),V.bl (decide ((ps:Int)+1>=2*((Ts z.racks).length:Int)))]);let s2:=aB.upd ht (o:=HO.tup [V.int 0,V.ref p']);calc q t p' _ (s1.trans s2) aq ⟨b,pr,pp,s2 _ _ ?_,(hB.mv s1).mv s2,s2 _ _ (s1 _ _ I),s2 _ _ (s1 _ _ hpp)⟩;calc aq.trans ?_;show some (HO.tup [V.ref b,V.ref pr,V.str (S z.bag),V.ref pp,V.int ((dn:Int)+1),V.int ((ps:Int)+1),V.bl (decide ((ps:Int)+1>=2*((Ts z.racks).length:Int)))])=_;rw[eo];rfl
 rw[ag λe=>J (NT.mp e)];refine bL ⟨λσ H5=>∃(b' N:Addr) (us:List Nat) (v13:Option V),σ=[some (.ref pn),some (.ref p),some (.ref pd),some (.ref b'),some (.ref pr),some (.str (S z'.bag)),some (.ref pp),some (.int dn),some (.int ps),some (.bl ov),some (.int ((dn:Int)%((Ts z.racks).length:Int))),some (.int pt),some (.ref N),v13]/\aB H H5/\cG C H5 b' z'.r z'.w z'.aD z'.aL z'.bi z'.bj/\H5 N=some (.lst (Ts (us.map λc=>[c])))/\us.length<=60/\(∀c∈us,c<128)/\z'.racks=z.racks.set (dn%z.racks.length) (dJ us)/\z'.jc=z.jc.set (dn%z.racks.length) (z.jc.getD (dn%z.racks.length) 0+pt),?_,?_⟩
 .calc⟨_,rK,pd,_,_,.str (S d.name),rK,rK,aN.of hnm,aQ (j:=0) rK,d.name,ig,rK,rK,_,rK,?_⟩;cases hdo with
  | @swap l m ne h7 tl lf hb=>
   rw[ai (show dz.name (.swap l)=ig from rK)];let hd:H pd=some (.tup [.str (S ig),.str (S l)]):=hd;let Gn:l.length<=sizeLine:=ap (aK p_);rw[Y]at lf;let O:wX (cO z dn) l=some m:=by rw[<-Wi tl,Pk];show lf
   let hml:=R7 O;calc cu ⟨_,rK,_,rK,pr,_,_,.str (S (cO z dn)),rK,rK,aN.of I,eat,_,rK,pd,_,_,.str (S l),rK,rK,aN.of hd,aQ (j:=1) rK,cO z dn,l,m,rK,p_,p_,O,λLf H1 s1 fLf hLf=>?_⟩;calc⟨_,rK,_,rK,pd,_,_,.str (S l),rK,rK,aN.of (s1 _ _ hd),aQ (j:=1) rK,l,rK,Gn,_,rK,z.bag,rK,Wu,z.bag.take l.length,by rw[oA],by rw[av];lia,λM hM=>?_⟩;let s2:=aB.upd hM (o:=HO.lst (Ts ((z.bag.take l.length).map λc=>[c])));let e2:upd H1 M (HO.lst (Ts ((z.bag.take l.length).map λc=>[c]))) M=some (.lst (Ts ((z.bag.take l.length).map λc=>[c]))):=aq;generalize upd H1 M (HO.lst (Ts ((z.bag.take l.length).map λc=>[c])))=H2 at s2 e2 ⊢;calc JI Lf M _ _ ⟨rK,rK,s2 _ _ hLf,e2,?_,λN hN=>?_⟩;.rw[aa,aa,aa,aa,av];show ap (aK p_)
   let s3:=aB.upd hN (o:=HO.lst (Ts (m.map λc=>[c])++Ts ((z.bag.take l.length).map λc=>[c])));let e3:upd H2 N (HO.lst (Ts (m.map λc=>[c])++Ts ((z.bag.take l.length).map λc=>[c]))) N=some (.lst (Ts ((m++z.bag.take l.length).map λc=>[c]))):=by rw[aq];simp[Ts]
   generalize upd H2 N (HO.lst (Ts (m.map λc=>[c])++Ts ((z.bag.take l.length).map λc=>[c])))=H3 at s3 e3 ⊢;let fj:=(s1.trans s2).trans s3;calc⟨_,rK,_,rK,pd,_,_,.str (S l),rK,rK,aN.of (fj _ _ hd),aQ (j:=1) rK,l,rK,Gn,_,rK,z.bag,rK,Wu,rK,_,rK,pd,_,_,.str (S l),rK,rK,aN.of (fj _ _ hd),aQ (j:=1) rK,l,rK,p_,λp2 us hp2 pm pw2=>?_⟩;let s4:=aB.upd hp2 (o:=HO.lst (Ts (us.map λc=>[c])));calc JA p2 (us.map λc=>[c]) ⟨rK,rK,bC.of aq,?_,?_⟩;.rw[mF,pm.length_eq];lia
   rw[wN (pm.map λc=>[c]) pw2];calc JA _ (dJ l) ⟨rK,rK,?_,?_⟩;.rw[j6,ba,jy];show ap (aK p_)
   calc JI b N (m++z.bag.take l.length) none ⟨?_,fj.trans s4,(hB.mv fj).mv s4,s4 _ _ e3,?_,λc hc=>?_,?_,?_⟩;.rw[j6];rfl
   .rw[ay,av];lia
   .rcases bu.mp hc with y|y;.show J4 (kt c (zL lf c y))
    .show J4 (Zk.bt c (cy y))
   .show z.racks.set _ _=_;rw[Y,aaJ (List.Perm.append (jX m) (List.Perm.refl _))]
   .show z.jc=_;rw[Int.add_zero];let hip:dn%z.racks.length<z.jc.length:=by rw[Zk.pl];show F
    rw[aw,af hip,Option.getD_some,List.set_getElem_self]
  | @lay ts l wR h0 h7 ri vd lf=>
   rw[ag (show ¬dz.name (.lay ts)=ig from (show ¬jd=ig by decide))];let⟨t,as,hd,ht,hL⟩:=hd;let hl1:=La hB.ok.w9 wR h0 ri (Wc vd);let hal:=hL.len;rw[Y]at lf;refine bL ⟨_,rK,_,rK,p,_,_,.ref dk,rK,rK,aN.of hp,aQ (j:=2) rK,_,rK,p,_,_,.ref pb,rK,rK,aN.of hp,aQ (j:=3) rK,_,rK,pd,_,_,.ref t,rK,rK,aN.of hd,aQ (j:=1) rK,
    b,dk,pb,t,Z.kvs,Z.bn,Z.bm,as,ts,z.r,z.w,z.aD,z.aL,z.bi,z.bj,rK,hB,Rd.of hdk,PO.wd,PO.wb,hpb,ht,hL,wR,h0,h7,hl1,λH1 s1=>?_⟩
   refine⟨_,rK,_,rK,pr,_,_,.str (S (cO z dn)),rK,rK,aN.of (s1 _ _ I),eat,_,rK,pd,_,_,.ref t,rK,rK,aN.of (s1 _ _ hd),aQ (j:=1) rK,t,rK,⟨_,aN.of (s1 _ _ ht)⟩,λN hN=>j4 (K:=K) (KT:=K) (a:=t) (f:=jP [] 0) (tt:=lV) (xs:=as.map V.ref) (λn ys H6=>ys=Ts (ones ((ts.take n).map λt=>gR t.2.2))/\H6 N=some (.lst ys)/\aB H1 H6)
    ⟨rK,aq,aB.upd hN⟩ (λn ys H6 _ h=>aN.of (h.2.2 _ _ (s1 _ _ ht))) ?_ ?_⟩
   .intro n x ys H6 hx z;let⟨rfl,sU,qP⟩:=z;let hn':n<as.length:=by have:=(ah.mp hx).1;simpa using this
    let hnt:n<ts.length:=p_;rw[bS,af hn']at hx;let hx:V.ref as[n]=x:=be hx;let⟨_,ent⟩:=jL (hL.mv (s1.trans qP)) hnt;let hsg:=(wR _ (a9 hnt)).2.2;calc vB hx.symm (aN.of ent) ?_;calc⟨_,rK,zsz 2,λM hM=>?_⟩;let s7:=aB.upd hM (o:=HO.lst [V.str (S [ts[n].2.2]),V.str (S [63])]);calc⟨_,rK,rK,[ts[n].2.2],rK,rK,(by show 1<=1000;decide),(λc hc=>by rw[a_.mp hc];show hsg.lt),_,rK,[PyProof.Rows.lo1 ts[n].2.2],[ts[n].2.2],rK,rK,.inr ⟨_,rK,M,_,_,.str (S [gR ts[n].2.2]),rK,rK,bC.of aq,ae9 hsg,s7 _ _ sU,?_,g_.mk (by rw[aa];show hn') ⟨?_,aq,(qP.trans s7).dH hN⟩⟩⟩;.rw[aa,aa,aa,av];show aK p_
    .rw[show ts.take (n+1)=ts.take n++[ts[n]] by rw[cw,af hnt];rfl];simp only[Ts,ones,bz];rfl
   intro ys H6 z;let⟨rfl,sU,qP⟩:=z;rw[aa,hal,cv]at sU;let O:wX (cO z dn) (ts.map λt=>gR t.2.2)=some l:=by rw[show (ts.map λt=>gR t.2.2)=(ts.map (·.2.2)).map gR by rw[gc];rfl,Pk];show lf
   let hll:=R7 O;let B_:=s1.trans qP;calc JI (cO z dn) (ts.map (λt=>gR t.2.2)) l N ⟨rK,sU,p_,by rw[aa];lia,O,λLf H7 s7 fLf hLf=>?_⟩;let JQ:=B_.trans s7;let hLl:(Ts (l.map λc=>[c])).length=l.length:=by rw[aa,aa]
   let ajM:gU z.bag none (some (if (Z.size:Int)-((Ts (l.map λc=>[c])).length:Int) > 0 then (Z.size:Int)-((Ts (l.map λc=>[c])).length:Int) else 0))=z.bag.take (Z.size-l.length):=by rw[hLl,aiV,oA]
   calc⟨λσ H8=>H7=H8/\σ=[some (.ref pn),some (.ref p),some (.ref pd),some (.ref b),some (.ref pr),some (.str (S z.bag)),some (.ref pp),some (.int dn),some (.int ps),some (.bl ov),some (.int ((dn:Int)%((Ts z.racks).length:Int))),some (.int (Yn z.aD z.aL Z.kvs ts Z.bn Z.bm)),some (.ref Lf),some (.str (S (z.bag.take (Z.size-l.length))))],⟨_,rK,_,rK,p,_,_,.int Z.size,rK,rK,aN.of (JQ _ _ hp),aQ (j:=4) rK,_,rK,Lf,_,rK,.inl (bC.of hLf),_,_,rK,rK,_,_,rK,_,rK,z.bag,rK,Wu,rK,by rw[<-ajM];rfl⟩,?_⟩;rintro σ H7' ⟨eH,rfl⟩;subst eH;let htk:(z.bag.take (Z.size-l.length)).length<=7:=by rw[av];have:=PO.s7;lia
   calc⟨_,rK,_,rK,z.bag.take (Z.size-l.length),rK,p_,λM hM=>?_⟩;let s8:=aB.upd hM (o:=HO.lst (Ts ((z.bag.take (Z.size-l.length)).map λc=>[c])));let e8:upd H7 M (HO.lst (Ts ((z.bag.take (Z.size-l.length)).map λc=>[c]))) M=some (.lst (Ts ((z.bag.take (Z.size-l.length)).map λc=>[c]))):=aq;generalize upd H7 M (HO.lst (Ts ((z.bag.take (Z.size-l.length)).map λc=>[c])))=H8 at s8 e8 ⊢;calc JI Lf M _ _ ⟨rK,rK,s8 _ _ hLf,e8,?_,λN2 hN2=>?_⟩;.rw[aa,aa,aa,aa];show ap (aK p_)
   let s9:=aB.upd hN2 (o:=HO.lst (Ts (l.map λc=>[c])++Ts ((z.bag.take (Z.size-l.length)).map λc=>[c])));let e9:upd H8 N2 (HO.lst (Ts (l.map λc=>[c])++Ts ((z.bag.take (Z.size-l.length)).map λc=>[c]))) N2=some (.lst (Ts ((l++z.bag.take (Z.size-l.length)).map λc=>[c]))):=by rw[aq];simp[Ts]
   generalize upd H8 N2 (HO.lst (Ts (l.map λc=>[c])++Ts ((z.bag.take (Z.size-l.length)).map λc=>[c])))=H9 at s9 e9 ⊢;let Ww:=(JQ.trans s8).trans s9;let⟨bx,_,_,_,hbx,_⟩:=(hB.mv Ww).ex;calc⟨_,rK,_,rK,z.bag.take (Z.size-l.length),rK,ap (aK p_),_,rK,z.bag,rK,Wu,?_⟩;calc⟨_,rK,b,bx,_,rK,hbx,rK,_,rK,pd,_,_,.ref t,rK,rK,aN.of (Ww _ _ hd),aQ (j:=1) rK,b,t,as,ts,z.r,z.w,z.aD,z.aL,z.bi,z.bj,rK,hB.mv Ww,Ww _ _ ht,hL.mv Ww,wR,λb' HA sA hb'=>?_⟩;let ajN:gU z.bag (some ((z.bag.take (Z.size-l.length)).length:Int)) none=z.bag.drop (Z.size-l.length):=by
    rw[j6,av];by_cases hh:Z.size-l.length<=z.bag.length;.rw[fF hh]
    .rw[ku p_,gX (al _),gX p_]
   refine JI b' N2 (l++z.bag.take (Z.size-l.length)) (some (.str (S (z.bag.take (Z.size-l.length))))) ⟨?_,Ww.trans sA,hb',sA _ _ e9,?_,λc hc=>?_,?_,?_⟩
   .rw[ajN,ek,en,em];show _=[_,_,_,_,_,some (V.str (S (z.bag.drop (G.size-(dJ l).length)))),_,_,_,_,_,_,_,_]
    rw[jy,ez];rfl
   .rw[ay];lia
   .rcases bu.mp hc with y|y;.show J4 (kt c (zL lf c y))
    .show J4 (Zk.bt c (cy y))
   .show z.racks.set _ (dJ (dJ l++z.bag.take (G.size-(dJ l).length)))=_;rw[Y,jy,ez,aaJ (List.Perm.append (jX l) (List.Perm.refl _))]
   .show z.jc.set _ _=_;rw[Y]
  | pass=>show absurd rK J
 .intro σ H5 z;let⟨b',N,us,v13,rfl,s5,hb5,xY,JL,aiW,ahy,ajO⟩:=z;rw[emod];let ahz:=s5 _ _ I;calc⟨_,rK,_,rK,_,rK,pr,_,rK,ahz,λp1 H6 s6 h6=>?_⟩;let hi:dn%z.racks.length<(Ts z.racks).length:=by rw[hrl];show F
  rw[show gQ (Ts z.racks) none (some ((dn%z.racks.length:Nat):Int))=(Ts z.racks).take (dn%z.racks.length) from Lg p_]at h6;calc⟨rK,_,rK,N,us.map λc=>[c],rK,bC.of (s6 _ _ xY),by rw[aa];lia,λq2 uQ hq2 pm pw2=>?_⟩;let s7:=aB.upd hq2 (o:=HO.lst (Ts uQ));calc JA q2 uQ ⟨rK,rK,bC.of aq,?_,?_⟩;.rw[wN pm pw2,jy];lia
  rw[wN pm pw2];generalize upd H6 q2 (HO.lst (Ts uQ))=H7 at s7 ⊢;calc⟨zsz 1,λp2 n2=>?_⟩;let e8:upd H7 p2 (HO.tup [V.str (S (dJ us))]) p2=some (.tup [V.str (S (dJ us))]):=aq;let s8:aB H7 (upd H7 p2 (HO.tup [V.str (S (dJ us))])):=aB.upd n2;generalize upd H7 p2 (HO.tup [V.str (S (dJ us))])=H8 at e8 s8 ⊢;let R5:=s7.trans s8;calc JI p1 p2 _ _ ⟨rK,rK,aN.of (R5 _ _ h6),aN.of e8,?_,λ_=>e8,λy=>absurd y qa,λp3 H9 s9 h9=>?_⟩;.rw[av];show ap (aK (by simp;lia))
  let s59:=(s6.trans R5).trans s9;calc⟨_,rK,_,rK,_,_,rK,rK,_,rK,pr,_,rK,s59 _ _ ahz,λp4 HA sA hA=>?_⟩;rw[show gQ (Ts z.racks) (some (((dn%z.racks.length:Nat):Int)+1)) none=(Ts z.racks).drop (dn%z.racks.length+1) from Dp (a:=dn%z.racks.length+1) p_]at hA;calc JI p3 p4 _ _ ⟨rK,rK,aN.of (sA _ _ h9),aN.of hA,?_,λy=>by simp at y,λ_ _=>sA _ _ h9,λDr HB sB Hr=>?_⟩;.rw[ay,av,ba,hrl];show ap (aK (by simp;lia))
  let acL:HB Dr=some (.tup (Ts z'.racks)):=by rw[Hr,ahy,<-JV,iF,if_pos hi];simp
  let s5B:=(s59.trans sA).trans sB;let acR:=s5B _ _ (s5 _ _ hpp);let hpl:(z.jc.map V.int).length=z.racks.length:=by rw[aa,Zk.pl]
  let hip:dn%z.racks.length<(z.jc.map V.int).length:=by rw[hpl];show F
  let ahA:dn%z.racks.length<z.jc.length:=by rw[Zk.pl];show F
  calc⟨_,rK,_,rK,_,rK,pp,_,rK,acR,λr1 HC sC hC=>?_⟩;rw[show gQ (z.jc.map V.int) none (some ((dn%z.racks.length:Nat):Int))=(z.jc.map V.int).take (dn%z.racks.length) from Lg p_]at hC;calc⟨_,rK,_,rK,pp,_,_,.int z.jc[dn%z.racks.length],rK,rK,aN.of (sC _ _ acR),aQ (by rw[bS,af ahA];rfl),_,rK,_,_,rK,rK,zsz 1,λr2 nr2=>?_⟩;let eD:upd HC r2 (HO.tup [V.int (z.jc[dn%z.racks.length]+pt)]) r2=some (.tup [V.int (z.jc[dn%z.racks.length]+pt)]):=aq;let sD:aB HC (upd HC r2 (HO.tup [V.int (z.jc[dn%z.racks.length]+pt)])):=aB.upd nr2;generalize upd HC r2 (HO.tup [V.int (z.jc[dn%z.racks.length]+pt)])=HD at eD sD ⊢;calc JI r1 r2 _ _ ⟨rK,rK,aN.of (sD _ _ hC),aN.of eD,?_,λ_=>eD,λy=>absurd y qa,λr3 HE sE hE=>?_⟩;.rw[av];show ap (aK (by simp;lia))
  let sBE:=(sC.trans sD).trans sE;calc⟨_,rK,_,rK,_,_,rK,rK,_,rK,pp,_,rK,sBE _ _ acR,λr4 HF sF hF=>?_⟩;rw[show gQ (z.jc.map V.int) (some (((dn%z.racks.length:Nat):Int)+1)) none=(z.jc.map V.int).drop (dn%z.racks.length+1) from Dp (a:=dn%z.racks.length+1) p_]at hF;calc JI r3 r4 _ _ ⟨rK,rK,aN.of (sF _ _ hE),aN.of hF,?_,λy=>by simp at y,λ_ _=>sF _ _ hE,λJW HG sG yL=>?_⟩;.rw[ay,av,ba,hpl];show ap (aK (by simp;lia))
  let hgp:z.jc.getD (dn%z.racks.length) 0=z.jc[dn%z.racks.length]:=by rw[aw,af ahA];rfl
  let YB:HG JW=some (.tup (z'.jc.map V.int)):=by rw[yL,ajO,hgp,<-RQ,iF,if_pos hip];simp
  let sBG:=(sBE.trans sF).trans sG;let s5G:=s5B.trans sBG;let s0G:=s5.trans s5G;let fin:∀(HI:Hp) (o:Bool),aB HG HI->o=ovN z z' ps dn d->7<=sizeLine/\∀p',HI p'=none->2<=sizeLine/\∀t,upd HI p' (HO.tup [V.ref b',V.ref Dr,V.str (S z'.bag),V.ref JW,V.int ((dn:Int)+1),V.int 0,V.bl o]) t=none->Q (.ref t) (upd (upd HI p' (HO.tup [V.ref b',V.ref Dr,V.str (S z'.bag),V.ref JW,V.int ((dn:Int)+1),V.int 0,V.bl o])) t (HO.tup [V.int pt,V.ref p'])):=by
   rintro HI o sI rfl;calc⟨zsz 7,λp' hp'=>⟨zsz 2,λt ht=>?_⟩⟩;let t1:=aB.upd hp' (o:=HO.tup [V.ref b',V.ref Dr,V.str (S z'.bag),V.ref JW,V.int ((dn:Int)+1),V.int 0,V.bl (ovN z z' ps dn d)]);let t2:=aB.upd ht (o:=HO.tup [V.int pt,V.ref p']);let e0:Wv ps d=0:=by
    cases d with| lay _=>rfl| swap _=>rfl| pass=>show absurd rK J
   calc q t p' _ (((s0G.trans sI).trans t1).trans t2) aq ⟨b',Dr,JW,?_,((((hb5.mv s5G).mv sI).mv t1).mv t2),t2 _ _ (t1 _ _ (sI _ _ (sBG _ _ acL))),t2 _ _ (t1 _ _ (sI _ _ YB))⟩;rw[e0];show t2 _ _ aq
  calc⟨_,rK,_,rK,_,rK,_,rK,_,rK,_,rK,_,_,rK,rK,_,rK,pd,_,_,.str (S d.name),rK,rK,aN.of (s0G _ _ hnm),aQ (j:=0) rK,d.name,jd,rK,rK,_,rK,?_⟩;let ahB:cO z' dn=dJ us:=by unfold cO;rw[ahy,eW,aw,ka F];rfl
  cases d with
  | pass=>show absurd rK J
  | swap l=>rw[ag (show ¬dz.name (.swap l)=jd from (show ¬ig=jd by decide))];show bL (fin HG false (aB.refl _) rK)
  | lay ts=>
   rw[ai (show dz.name (.lay ts)=jd from rK)];calc cu ⟨_,rK,zsz 0,λEe hEe=>?_⟩;let sH:=aB.upd hEe (o:=HO.lst []);let eH:upd HG Ee (HO.lst []) Ee=some (.lst []):=aq;generalize upd HG Ee (HO.lst [])=HH at sH eH ⊢;refine JE 2 (.lst ((us.map λc=>[c]).map Dt.str)) (.lst []) ⟨qc,.lst (bC.of (sH _ _ (s5G _ _ xY))) (dN.uD λl hl=>?_),.lst (bC.of eH) .nil,_,rK,?_⟩
   .let⟨c,hc,rfl⟩:=bc.mp hl;show λc' h'=>by rw[a_.mp h'];show aiW c hc
   by_cases hue:us=[]
   .subst hue;rw[ai (show Dt.lst (List.map Dt.str (List.map (λc=>[c]) []))=Dt.lst [] from rK)];calc cu ⟨_,rK,z'.bag,[],rK,rK,?_⟩;calc fin HH _ sH ?_;show _=(decide (cO z' dn=[])&&decide (z'.bag=[]))
    rw[ahB,ai (show dJ []=[] from gN.mp (jy [])),mn]
   .rw[ag (λy=>hue (by injection y with y;simpa using y))];calc bL (fin HH false sH ?_);show _=(decide (cO z' dn=[])&&decide (z'.bag=[]))
    rw[ahB,ag (λy=>hue (by have:=jy us;rw[y]at this;show gN.mp this.symm)),nL]
def aiX {c:Nat}(h:BJ c):c<128:=by
 rcases h with e|e;.lia
 .show e.lt
def aiY {c:Nat}(h:Jv c):c<128:=(show ∀c∈MK,c<128 by decide) c h
def brD (aD aL:AA)(i j:Nat):Dt:=.tup [.tup (aD.map Dt.str),.tup (aL.map Dt.str),.tup [.int i,.int j]]
def jl.brd {H:Hp}{t pr pm pb:Addr}{r w:Nat}{aD aL:AA}{i j:Nat}(ht:H t=some (.tup [.ref pr,.ref pm,.ref pb]))(h1:H pr=some (.tup (Ts aD)))(h2:H pm=some (.tup (Ts aL)))(h3:H pb=some (.tup [.int i,.int j]))(B:QV r w aD aL i j):jl K H 3 (brD aD aL i j) (.ref t):=.tup (aN.of ht) (.cons (.tup (aN.of h1) (dN.uD λl hl c D=>aiX (B.cr l hl c D))) (.cons (.tup (aN.of h2) (dN.uD λl hl c D=>aiY (B.cm l hl c D))) (.cons (.tup (aN.of h3) (.cons (.int _) (.cons (.int _) .nil))) .nil)))
theorem dN.ints {H:Hp}:∀{is:List Int},dN K H 1 (is.map Dt.int) (is.map V.int)
 | []=>.nil
 | _::_=>.cons (.int _) dN.ints
def Sx (C CS CB CG:Addr):Sp:=λvs H Q _=>∃(g pn ps pd:Addr) (G:Gm) (zs:List Std) (z:Std) (k:Nat),vs=[.ref g,.ref pn]/\jY C CS CB CG H g ps pd G/\G.sts=zs++[z]/\k_ z/\(∀l∈G.done,∀c∈l,c<128)/\G.done.length<=500/\lJ C H pn z G.done.length k (lH G z)/\∀H',aB H H'->Q (.bl true) H'
open Classical in
def aa0 {C CS CB CG f1 f2 f3 f4 f5 f6:Addr}{dM fd2 lK lM J5 Cd:FuncData}(D:aM K mg "_law_stands" Ae ["_law_game","_law_now"])(bB:mg "len"=none)(bh:mg "isinstance"=none)(ji:mg "bool"=none)(j:fY K C)(cH:qy K CG)(qD:Meth K CG "board_now" f1)(qF:bW P w K mg base cW 1 f1 dM ["self"] (nU C CS CB CG (RT C)))(qG:bK K dM ["self"] [])(gK:Meth K CG "racks_now" f2)(gM:bW P w K mg base cW 1 f2 fd2 ["self"] (nU C CS CB CG Ds))(gO:bK K fd2 ["self"] [])(mY:Meth K CG "bag_now" f3)(mZ:bW P w K mg base cW 1 f3 lK ["self"] (nU C CS CB CG Ys))(m8:bK K lK ["self"] [])(mH:Meth K CG "points_now" f4)(mJ:bW P w K mg base cW 1 f4 lM ["self"] (nU C CS CB CG acC))(mK:bK K lM ["self"] [])(pI:Meth K CG "is_over" f5)(pJ:bW P w K mg base cW 4 f5 J5 ["self"] (R0 C CS CB CG))(pK:bK K J5 ["self"] [])(oE:Meth K CG "turn" f6)(oF:bW P w K mg base cW 2 f6 Cd ["self"] (Ft C CS CB CG))(oG:bK K Cd ["self"] []):bU P w K mg base "_law_stands" 5 ["_law_game","_law_now"] (Sx C CS CB CG):=by
 calc D.dh lF (λf bH A outer s H vs Q E I h=>?_);let⟨g,pn,ps,pd,G,zs,z,k,rfl,A0,hz,Z,O,h5,NA,q⟩:=h;let⟨dx,_,_,_,_,hg,_⟩:=A0.ex;obtain⟨b,pr,pp,hn,⟨⟨bx,br,bm,bb,hb,hbr,hbm,hbb⟩,B⟩,hpr,hpp⟩:=NA.ex;let n1:=Z.n1;let hrl:(Ts z.racks).length=z.racks.length:=aa _;calc⟨_,(aA (fU (qZ aW (nY rK (bT (bF (i:=2) lF.nd rK (Or.inl rK)) (bT (bF (i:=3) lF.nd rK (Or.inl rK)) (bT (bF (i:=4) lF.nd rK (Or.inl rK)) (bT (bF (i:=5) lF.nd rK (Or.inl rK)) (bT (bF (i:=6) lF.nd rK (Or.inl rK)) (bT (bF (i:=7) lF.nd rK (Or.inl rK)) (bT (bF (i:=8) lF.nd rK (Or.inl rK)) lq)))))))))) (aA (aU (i:=9) lF.nd rK (Or.inl rK) (dR aG cH.cl qD qF I.mono qG .nil cY)) (aA (cA (bQ (Cz I.units) (cR (aj (bR jN rK) (aj (bR jN rK) (aj (bR jN rK) ao)))) (cR (aj (bR bA rK) (aj (bR bA rK) (aj (bR bA rK) ao)))) (bG _)) (aF (bf h_)) bI) (aA (cA (QW.qt (je (bQ (Cz I.units) (dR aG cH.cl gK gM I.mono gO .nil cY) bN (bG _)) (je (bQ Jb (dR aG cH.cl mY mZ I.mono m8 .nil cY) cJ (bG _)) (iR (bQ (Cz I.units) (dR aG cH.cl mH mJ I.mono mK .nil cY) dF (bG _)))))) (aF (bf h_)) bI) (aA (cA (QW.qt (je (dG (cQ (aO cP qf bh aS (aj (dR aG cH.cl pI pJ I.mono pK .nil cY) (aj (fu (v:=.ty "bool") qf ji gd rK) ao))))) (iR (bQ zU (dR aG cH.cl pI pJ I.mono pK .nil cY) jZ (bG _))))) (aF (bf h_)) bI) (aF (bf (d_ iQ (dR aG cH.cl oE oF I.mono oG .nil cY) (aJ bV fG (aO bY qf bB aE (aj bN ao))) (bG _))))))))),?_⟩;calc⟨λσ H1=>H=H1/\σ=[some (.ref g),some (.ref pn),some (.ref b),some (.ref pr),some (.str (S z.bag)),some (.ref pp),some (.int G.done.length),some (.int k),some (.bl (lH G z)),none],⟨_,rK,pn,_,rK,aN.of hn,rK,_,_,rK,_,_,rK,_,_,rK,_,_,rK,_,_,rK,_,_,rK,_,_,rK,rK,rK,rK⟩,?_⟩;rintro σ H1 ⟨eH,rfl⟩;subst eH;calc⟨_,rK,g,dx,_,rK,hg,rK,g,ps,pd,G,zs,z,rK,A0,hz,λb2 hb2=>?_⟩;obtain⟨⟨cx,cr,cm,cb,hc,Wm,hcm,hcb⟩,B2⟩:=hb2;calc⟨_,rK,b2,C,cx,_,_,rK,hc,j.cl,j.nr,rK,_,rK,b2,C,cx,_,_,rK,hc,j.cl,j.nm,rK,_,rK,b2,C,cx,_,_,rK,hc,j.cl,j.nb,rK,zsz 3,λt1 ht1=>?_⟩;let s1:=aB.upd ht1 (o:=HO.tup [V.ref cr,V.ref cm,V.ref cb]);let e1:upd H t1 (HO.tup [V.ref cr,V.ref cm,V.ref cb]) t1=some (.tup [V.ref cr,V.ref cm,V.ref cb]):=aq;generalize upd H t1 (HO.tup [V.ref cr,V.ref cm,V.ref cb])=H1 at s1 e1 ⊢;let Y:=s1 _ _ hb;calc⟨_,rK,b,C,bx,_,_,rK,Y,j.cl,j.nr,rK,_,rK,b,C,bx,_,_,rK,Y,j.cl,j.nm,rK,_,rK,b,C,bx,_,_,rK,Y,j.cl,j.nb,rK,zsz 3,λt2 Nj=>?_⟩;let s2:=aB.upd Nj (o:=HO.tup [V.ref br,V.ref bm,V.ref bb]);let e2:upd H1 t2 (HO.tup [V.ref br,V.ref bm,V.ref bb]) t2=some (.tup [V.ref br,V.ref bm,V.ref bb]):=aq;generalize upd H1 t2 (HO.tup [V.ref br,V.ref bm,V.ref bb])=H2 at s2 e2 ⊢;let F:=s1.trans s2;calc JE 3 (brD z.aD z.aL z.bi z.bj) (brD z.aD z.aL z.bi z.bj) ⟨qc,jl.brd (s2 _ _ e1) (F _ _ Wm) (F _ _ hcm) (F _ _ hcb) B2,jl.brd e2 (F _ _ hbr) (F _ _ hbm) (F _ _ hbb) B,_,rK,?_⟩;rw[ai rfl];let A2:=A0.mv F;let J:=F _ _ hg;calc bL ⟨_,rK,g,dx,_,rK,J,rK,g,ps,pd,G,zs,z,rK,A2,hz,λq1 hq1=>?_⟩;let ahC:∀l∈z.racks,∀c∈l,c<128:=λl hl c hc=>J4 ((Z.r7 l hl).2 c hc);calc⟨_,rK,2,.tup (z.racks.map Dt.str),.tup (z.racks.map Dt.str),qc,.tup (aN.of hq1) (dN.uD ahC),.tup (aN.of (F _ _ hpr)) (dN.uD ahC),_,rK,?_⟩;rw[ai rfl];calc bL ⟨_,rK,g,dx,_,rK,J,rK,g,ps,pd,G,zs,z,rK,A2,hz,_,rK,z.bag,z.bag,rK,rK,_,rK,?_⟩;rw[ai rfl];calc bL ⟨_,rK,g,dx,_,rK,J,rK,g,ps,pd,G,zs,z,rK,A2,hz,λq2 hq2=>?_⟩;calc⟨_,rK,2,.tup (z.jc.map Dt.int),.tup (z.jc.map Dt.int),qc,.tup (aN.of hq2) dN.ints,.tup (aN.of (F _ _ hpp)) dN.ints,_,rK,?_⟩;rw[ai rfl];calc bL ⟨_,rK,g,dx,_,rK,J,rK,g,ps,pd,G,zs,z,rK,A2,hz,Z,O,h5,λH3 s3=>?_⟩;let fj:=F.trans s3;calc JI _ _ _ true ⟨rK,.bl _,qh,true,rK,bL ⟨_,rK,g,dx,_,rK,fj _ _ hg,rK,g,ps,pd,G,zs,z,rK,A0.mv fj,hz,Z,O,h5,λH4 s4=>?_⟩⟩;let gJ:=fj.trans s4;calc⟨_,rK,rK,_,rK,?_⟩;rw[ai rfl];calc bL ⟨_,rK,g,dx,_,rK,gJ _ _ hg,rK,g,ps,pd,G,zs,z,rK,A0.mv gJ,hz,Z,_,rK,_,rK,pr,_,rK,.inr (aN.of (gJ _ _ hpr)),_,_,rK,rK,(by show (0:Int)<_;rw[hrl];lia),rK,?_⟩;let e:((G.done.length%z.racks.length:Nat):Int)=(G.done.length:Int)%((Ts z.racks).length:Int):=by rw[hrl];lia
 let fin:=q H4 gJ;rw[<-ai (congrArg V.int e)]at fin;show fin
def eY (G:Gm)(zs:List Std)(ds:List dz):Gm:={G with sts:=zs,done:=ds.map dz.name}
inductive Path (G:Gm) (z0:Std):List dz->List Std->Prop
 | nil:Path G z0 [] [z0]
 | snoc {ds:List dz} {zs:List Std} {z z':Std} {d:dz} {pt:Int} (h:Path G z0 ds (zs++[z])) (ov:lH (eY G [] ds) z=false) (dd:Does (eY G [] ds) z d pt z'):Path G z0 (ds++[d]) (zs++[z]++[z'])
def Does.sts {G:Gm}{a b:List Std}{ds:List dz}{z z':Std}{d:dz}{pt:Int}(h:Does (eY G a ds) z d pt z'):Does (eY G b ds) z d pt z':=by
 cases h with| lay h1 h2 h3 h4 h5 h6=>show Does.lay (G:=eY G b ds) h1 h2 h3 h4 h5 h6| swap h1 h2 h3 h4 h5=>show Does.swap (G:=eY G b ds) h1 h2 h3 h4 h5| pass=>show .pass
def Path.len {G:Gm}{z0:Std}{ds:List dz}{zs:List Std}(h:Path G z0 ds zs):zs.length=ds.length+1:=by
 induction h with| nil=>rfl| snoc h ov dd ih=>rw[ay,ih,ay];rfl
def Does.racks {G:Gm}{z z':Std}{d:dz}{pt:Int}(h:Does G z d pt z'):z'.racks.length=z.racks.length:=by
 cases h with| lay=>show eW| swap=>show eW| pass=>rfl
def Wx {z:Std}{l m:List Nat}{i:Nat}(Z:k_ z)(hl:l.length<=7)(hm:∀c∈l,oM c):∀k∈z.racks.set i l,k.length<=7/\∀c∈k,oM c:=λk j=>by
 rcases fN j with e|e;.show Z.r7 k e
 .rw[e];show⟨hl,hm⟩
def Wy {z:Std}(Z:k_ z){i:Nat}:(z.racks.getD i []).length<=7/\∀c∈z.racks.getD i [],oM c:=by
 rw[aw];cases e:z.racks[i]? with| none=>show⟨ej _,λc h=>by cases h⟩| some l=>show Z.r7 l (bp e)
def Does.ok {G:Gm}{z z':Std}{d:dz}{pt:Int}(h:Does G z d pt z')(Z:k_ z)(hs:G.size<=7):k_ z':=by
 let F:=h.racks;cases h with
 | @lay ts l wR h0 h7 ri vd lf=>
  let⟨k7,J⟩:=Wy Z (i:=jC G z);let I:=zK lf;let j:=zL lf;calc⟨by rw[F];show Z.n1,by rw[F];show Z.n4,Wx (m:=[]) Z ?_ λc D=>?_,?_,λc D=>Z.bt c (ed D),?_⟩;.rw[jy,ay,jy,av];lia
  .rcases bu.mp ((jX _).mem_iff.mp D) with y|y;.show J c (j c ((jX _).mem_iff.mp y))
   .show Z.bt c (cy y)
  .show (z.bag.drop _).length<=60;have:=Z.b6;rw[ba];lia
  .show (z.jc.set _ _).length=(z.racks.set _ _).length;rw[eW,eW];show Z.pl
 | @swap l m ne h7 tl lf hb=>
  let⟨k7,J⟩:=Wy Z (i:=jC G z);let I:=zK lf;let j:=zL lf;calc⟨by rw[F];show Z.n1,by rw[F];show Z.n4,Wx (m:=[]) Z ?_ λc D=>?_,?_,λc D=>?_,?_⟩;.rw[jy,ay,jy,av];lia
  .rcases bu.mp ((jX _).mem_iff.mp D) with y|y;.show J c (j c ((jX _).mem_iff.mp y))
   .show Z.bt c (cy y)
  .show (z.bag.drop _++dJ _).length<=60;have:=Z.b6;rw[ay,ba,jy];lia
  .rcases bu.mp D with y|y;.show Z.bt c (ed y)
   .show tl c ((jX _).mem_iff.mp y)
  .show z.jc.length=(z.racks.set _ _).length;rw[eW];show Z.pl
 | pass=>show Z
def Path.ok {G:Gm}{z0:Std}{ds:List dz}{zs:List Std}(h:Path G z0 ds zs)(Z:k_ z0)(hs:G.size<=7):∀z∈zs,k_ z:=by
 induction h with
 | nil=>intro z h;rw[a_.mp h];show Z
 | snoc h ov dd ih=>
  intro y hy;rcases bu.mp hy with e|e;.show ih y e
  .rw[a_.mp e];show dd.ok (ih _ qa) hs
def tp (ds:List dz):Nat:=ds.foldl Wv 0
def Lr (ds:List dz)(d:dz):tp (ds++[d])=Wv (tp ds) d:=by unfold tp;rw[List.foldl_append];rfl
def acS {α:Type}{ns:List α}{m:Nat}{x:α}:ns.drop (ns.length-m)=List.replicate m x↔List.replicate m x <:+ ns:=by
 constructor
 .intro h;rw[<-h];show List.drop_suffix _ _
 .intro h;have:=List.suffix_iff_eq_drop.mp h;rw[cq]at this;show this.symm
theorem aa1:∀(n:Nat) (ds:List dz) (m:Nat),ds.length=n->(List.replicate m fJ <:+ ds.map dz.name↔m<=tp ds)
 | 0,ds,m,hn=>by
  have:ds=[]:=gN.mp hn;subst this;show _ <:+ []↔m<=0;rw[List.suffix_nil];constructor;.intro h;have:=congrArg List.length h;simp at this;lia
  .intro h;rw[Nat.le_zero.mp h];rfl
 | n+1,ds,m,hn=>by
  let j:ds≠[]:=λe=>by subst e;simp at hn
  let e:=kr j;let hl:ds.dropLast.length=n:=by rw[List.length_dropLast,hn];rfl
  generalize ds.dropLast=es at e hl;generalize ds.getLast j=d at e;subst e;rw[bz,Lr];show _ <:+ es.map dz.name++[d.name]↔_;rw[List.suffix_concat_iff];cases m with
  | zero=>show⟨λ_=>ej _,λ_=>.inl rK⟩
  | succ m=>
   let D:=aa1 n es m hl;constructor
   .rintro(h|⟨t,h1,h2⟩);.simp at h
    .rw[kH]at h1;let⟨h3,h4⟩:=List.append_inj' h1 rfl;injection h4 with h4;let hd:=NT.mp h4.symm;subst hd;rw[<-h3]at h2;show m+1<=tp es+1;show gV (D.mp h2)
   .intro h;cases d with| pass=>show .inr ⟨_,kH,D.mpr (Nat.le_of_succ_le_succ h)⟩| lay ts=>show absurd h (Nat.not_succ_le_zero _)| swap l=>show absurd h (Nat.not_succ_le_zero _)
def aa2 {α:Type}(l:List α)(x:α):(l++[x]).drop ((l++[x]).length-1)=[x]:=by rw[ay,mE,Nat.add_sub_cancel,List.drop_left]
def acT {G:Gm}{z:Std}(h:1<=z.racks.length):lH (eY G [] []) z=false:=by
 unfold lH;rw[ag,ag];.rfl
 .intro e;show absurd e (by show ¬([]:AA)=_;simp)
 .intro e;have:=congrArg List.length e;rw[cq]at this;let j:(eY G [] []).done=[]:=rfl;rw[j]at this;simp at this;lia
def aa3 {G:Gm}{z z':Std}{ds:List dz}{d:dz}{pt:Int}(h:Does (eY G [] ds) z d pt z')(h1:1<=z.racks.length):lH (eY G [] (ds++[d])) z'=ovN z z' (tp ds) ds.length d:=by
 let D:=h.racks;let j:(eY G [] (ds++[d])).done=ds.map dz.name++[d.name]:=bz;let I:decide ((ds.map dz.name++[d.name]).drop ((ds.map dz.name++[d.name]).length-2*z'.racks.length)=List.replicate (2*z'.racks.length) fJ)=decide (2*z.racks.length<=Wv (tp ds) d):=by calc Fv (acS.trans ?_);rw[D,<-Lr,<-aa1 _ (ds++[d]) _ rK,bz];rfl
 unfold lH;rw[j,I,aa2];cases d with
 | pass=>rw[ag (show ¬[dz.name .pass]=[jd] by decide),nL,Bool.or_false];cases h;rfl
 | swap l=>rw[ag (show ¬[dz.name (.swap l)]=[jd] from (show ¬[ig]=[jd] by decide)),nL,Bool.or_false];show ag (by show ¬_<=0;lia)
 | lay ts=>
  rw[ai (show [dz.name (.lay ts)]=[jd] from rK),mn,ag (show ¬2*z.racks.length<=Wv (tp ds) (.lay ts) by show ¬_<=0;lia),Bool.false_or];show _=(decide (cO z' ds.length=[])&&decide (z'.bag=[]))
  let F:yq (eY G [] (ds++[.lay ts])) z'=ds.length%z'.racks.length:=by unfold yq;rw[j,ay,aa,mE,show ((ds.length+1:Nat):Int)-1=(ds.length:Int) by lia];lia
  rw[F,Bool.and_comm];rfl
def aa4 {G:Gm}{z:Std}{bs:AA}{ds:List dz}{d:dz}(h:aaY z ds.length bs d)(hb:∀x,x∈bs↔x∈G.ws):∃pt z',Does (eY G [] ds) z d pt z':=by
 let j:jC (eY G [] ds) z=ds.length%z.racks.length:=by show (ds.map dz.name).length%_=_;rw[aa]
 cases d with
 | lay ts=>let⟨l,hl⟩:=aiU h.vd;show JA _ _ (.lay (G:=eY G [] ds) h.wR h.h0 h.h7 h.ri (by rw[j];show acO hb h.vd) (l:=l) (by rw[j];show hl))
 | swap l=>obtain⟨h1,h2,h3,⟨m,hm⟩,h5⟩:=h;show JA _ _ (.swap (G:=eY G [] ds) h1 h2 h3 (m:=m) (by rw[j];show hm) h5)
 | pass=>show JA _ _ .pass
def tk1 {α:Type}{l:List α}{i:Nat}{x:α}(h:l[i]?=some x):l.take (i+1)=l.take i++[x]:=by rw[cw,h];rfl
def Kl (H H':Hp):Prop:=∀a o,H a=some o->(∀xs,o≠HO.lst xs)->H' a=some o
def Kl.of {H H':Hp}(s:aB H H'):Kl H H':=λa o h _=>s a o h
def Ca.kl {ps pd:Addr}{H H':Hp}{xs ys:List V}(s:Ca ps pd H H')(h1:H ps=some (.lst xs))(h2:H pd=some (.lst ys)):Kl H H':=λa o h n=>s a o h (n_ h1 h n) (n_ h2 h n)
def cG.kl {C:Addr}{H H':Hp}{p:Addr}{r w:Nat}{aD aL:AA}{i j:Nat}(B:cG C H p r w aD aL i j)(k:Kl H H'):cG C H' p r w aD aL i j:=by obtain⟨⟨dx,pr,pm,pb,a,b,c,d⟩,o⟩:=B;show⟨(JI dx pr pm pb ⟨k _ _ a (λ_ z=>nomatch z),k _ _ b (λ_ z=>nomatch z),k _ _ c (λ_ z=>nomatch z),k _ _ d (λ_ z=>nomatch z)⟩),o⟩
def fD.kl {C:Addr}{H H':Hp}{p d:Addr}{ws:AA}(B:fD C H p d ws)(k:Kl H H'):fD C H' p d ws:=⟨let ⟨dx,e⟩:=B.ob;⟨dx,k _ _ e (λ_ z=>nomatch z)⟩,k _ _ B.dc (λ_ z=>nomatch z),B.nd,B.az⟩
def lJ.kl {C:Addr}{H H':Hp}{p:Addr}{z:Std}{dn ps:Nat}{ov:Bool}(A:lJ C H p z dn ps ov)(k:Kl H H'):lJ C H' p z dn ps ov:=by let⟨b,pr,pp,h1,h2,h3,h4⟩:=A.ex;show⟨b,pr,pp,k _ _ h1 (λ_ z=>nomatch z),h2.kl k,k _ _ h3 (λ_ z=>nomatch z),k _ _ h4 (λ_ z=>nomatch z)⟩
def yt.kl {C:Addr}{H H':Hp}{p pw:Addr}{Z:Gs}(A:yt C H p pw Z)(k:Kl H H')(h:H' pw=some (.lst (Ts Z.ws))):yt C H' p pw Z:=by let⟨b,d,pb,pr,h1,h2,h3,h4,h5⟩:=A.ex;show⟨(JI b d pb pr ⟨k _ _ h1 (λ_ z=>nomatch z),h2.kl k,k _ _ h3 (λ_ z=>nomatch z),k _ _ h4 (λ_ z=>nomatch z),k _ _ h5 (λ_ z=>nomatch z)⟩),h⟩
def afb {G:Gm}{zs:List Std}{ds:List dz}{z:Std}{d:dz}:{eY G zs ds with sts:=(eY G zs ds).sts++[z],done:=(eY G zs ds).done++[d.name]}=eY G (zs++[z]) (ds++[d]):=by unfold eY;simp
structure Pq (G:Gm):Prop where
 wd:WD G.kvs
 wb:WB 1000000 G.kvs
 sz:G.size<=7
def J6 {ds:List dz}:∀l∈ds.map dz.name,∀c∈l,c<128:=λl hl c j=>by let⟨d,_,rfl⟩:=bc.mp hl;show acD d c j
def Pq.ok {G:Gm}(F:Pq G){zs:List Std}{ds:List dz}(h1:ds.length<=100)(h2:zs.length<=101):ahr (eY G zs ds):=⟨J6,by show (ds.map dz.name).length<=400;rw[aa];lia,by show zs.length<=500;lia,F.wd,F.wb,F.sz⟩
def Wz (C CS CB CG:Addr):Sp:=λvs H Q _=>∃(g ps pd:Addr) (G:Gm) (zs:List Std) (z:Std),vs=[.ref g]/\jY C CS CB CG H g ps pd G/\G.sts=zs++[z]/\k_ z/\∀H',aB H H'->Q (.bl true) H'
def acU {C CS CB CG f1 f2 f3 f4 f6:Addr}{dM fd2 lK lM Cd:FuncData}(D:aM K mg "_law_kinds" Fo ["_law_game"])(I:mg "isinstance"=none)(pC:mg "str"=none)(cD:mg "tuple"=none)(jB:mg "int"=none)(ji:mg "bool"=none)(yg:mg "zip"=none)(wK:mg "Board"=some (.ref C))(cj:fY K C)(IB:Z4 K C)(Y:qy K CG)(qD:Meth K CG "board_now" f1)(qF:bW P w K mg base cW 1 f1 dM ["self"] (nU C CS CB CG (RT C)))(qG:bK K dM ["self"] [])(gK:Meth K CG "racks_now" f2)(gM:bW P w K mg base cW 1 f2 fd2 ["self"] (nU C CS CB CG Ds))(gO:bK K fd2 ["self"] [])(mY:Meth K CG "bag_now" f3)(mZ:bW P w K mg base cW 1 f3 lK ["self"] (nU C CS CB CG Ys))(m8:bK K lK ["self"] [])(mH:Meth K CG "points_now" f4)(mJ:bW P w K mg base cW 1 f4 lM ["self"] (nU C CS CB CG acC))(mK:bK K lM ["self"] [])(oE:Meth K CG "turn" f6)(oF:bW P w K mg base cW 2 f6 Cd ["self"] (Ft C CS CB CG))(oG:bK K Cd ["self"] []):bU P w K mg base "_law_kinds" 5 ["_law_game"] (Wz C CS CB CG):=by
 calc D.dh G5 (λf bH A outer s H vs Q E O h=>?_);let⟨g,ps,pd,G,zs,z,rfl,F,hz,Z,q⟩:=h;let⟨dx,_,_,_,_,J,_⟩:=F.ex;calc⟨_,(aA (cA (QW.qt (je (dG (cQ (aO Qu qf I aS (aj (dR aG Y.cl qD qF O.mono qG .nil cY) (aj (zq (v:=.ref _) qf wK rK) ao))))) (iR (dG (cQ (aO cP qf I aS (aj (dR aG Y.cl mY mZ O.mono m8 .nil cY) (aj (fu (v:=.ty "str") qf pC ij rK) ao)))))))) (aF (bf h_)) bI) (aA (cA (QW.qt (je (dG (cQ (aO cP qf I aS (aj (dR aG Y.cl gK gM O.mono gO .nil cY) (aj (fu (v:=.ty "tuple") qf cD ck rK) ao))))) (iR (dG (cQ (aO cP qf I aS (aj (dR aG Y.cl mH mJ O.mono mK .nil cY) (aj (fu (v:=.ty "tuple") qf cD ck rK) ao)))))))) (aF (bf h_)) bI) (aA (fP cz rK (agW qf yg (aj (dR aG Y.cl gK gM O.mono gO .nil cY) (aj (dR aG Y.cl mH mJ O.mono mK .nil cY) ao))) (nY rK (bT (bF (i:=1) G5.nd rK (Or.inl rK)) (bT (bF (i:=2) G5.nd rK (Or.inl rK)) lq))) (aF (cA (QW.qt (je (dG (cQ (aO cP qf I aS (aj aW (aj (fu (v:=.ty "str") qf pC ij rK) ao))))) (je (dG (cQ (aO cP qf I aS (aj bA (aj (fu (v:=.ty "int") qf jB fR rK) ao))))) (iR (cQ (aO cP qf I aS (aj bA (aj (fu (v:=.ty "bool") qf ji gd rK) ao)))))))) (aF (bf h_)) bI))) (aF (bf (jG (aO cP qf I aS (aj (dR aG Y.cl oE oF O.mono oG .nil cY) (aj (fu (v:=.ty "int") qf jB fR rK) ao))) (jg (Qh (aO cP qf I aS (aj (dR aG Y.cl oE oF O.mono oG .nil cY) (aj (fu (v:=.ty "bool") qf ji gd rK) ao))))))))))),?_⟩;calc⟨_,rK,g,dx,_,rK,J,rK,g,ps,pd,G,zs,z,rK,F,hz,λb hb=>?_⟩;obtain⟨⟨bx,_,_,_,hbx,_⟩,_⟩:=hb;calc JI (.ref b) C (.ref C) true ⟨rK,.ins hbx cj.cl IB.ha IB.hn IB.ht IB.hm,IB.ki,true,rK,bL ⟨_,rK,g,dx,_,rK,J,rK,g,ps,pd,G,zs,z,rK,F,hz,_,_,_,true,rK,.str _,qh,true,rK,bL ?_⟩⟩;calc⟨_,rK,g,dx,_,rK,J,rK,g,ps,pd,G,zs,z,rK,F,hz,λq1 hq1=>(JI _ _ _ true ⟨rK,.tup hq1,qh,true,rK,bL ⟨_,rK,g,dx,_,rK,J,rK,g,ps,pd,G,zs,z,rK,F,hz,λq2 hq2=>(JI _ _ _ true ⟨rK,.tup hq2,qh,true,rK,bL ?_⟩)⟩⟩)⟩;refine⟨_,rK,g,dx,_,rK,J,rK,g,ps,pd,G,zs,z,rK,F,hz,λq3 hq3=>⟨_,rK,g,dx,_,rK,J,rK,g,ps,pd,G,zs,z,rK,F,hz,λq4 hq4=>(JA q3 q4 ⟨rK,⟨_,aN.of hq3⟩,⟨_,aN.of hq4⟩,aeJ (K:=K) (a:=q3) (b:=q4) (xs:=Ts z.racks) (ys:=z.jc.map V.int) (by rw[aa,aa,Z.pl]) (λi σ H2=>∃v1 v2:Option V,σ=[some (.ref g),v1,v2]/\aB H H2) (JA none none ⟨rK,aB.refl _⟩) (λi σ H2 _ h=>?_) ?_ ?_⟩)⟩⟩
 .let⟨_,_,_,j⟩:=h;show⟨aN.of (j _ _ hq3),aN.of (j _ _ hq4)⟩
 .intro i x y σ H2 T hx hy z hT;let⟨v1,v2,rfl,j⟩:=z;let⟨l,_,rfl⟩:=rJ hx;rw[bS]at hy;let⟨n,_,rfl⟩:=c9.mp hy;calc JA T _ ⟨rK,aN.of aq,rK,_,_,rK,_,_,rK,rK,?_⟩;show⟨_,rK,_,_,_,true,rK,.str _,qh,true,rK,bL ⟨_,rK,_,_,_,true,rK,.int _,qh,true,rK,bL ⟨_,rK,_,_,_,false,rK,.int _,qh,false,rK,bL (JA _ _ ⟨rK,j.dH (j.free hT)⟩)⟩⟩⟩
 .intro σ H2 z;let⟨v1,v2,rfl,j⟩:=z;show⟨_,rK,g,dx,_,rK,j _ _ J,rK,g,ps,pd,G,zs,z,rK,F.mv j,hz,Z,_,_,_,true,rK,.int _,qh,true,rK,cu ⟨_,rK,g,dx,_,rK,j _ _ J,rK,g,ps,pd,G,zs,z,rK,F.mv j,hz,Z,_,_,_,false,rK,.int _,qh,false,rK,q H2 j⟩⟩
def WK (ws:AA)(l:List Nat):dZ (lG ws) (cF l)=if l∈ws then some (.bl true) else none:=by
 induction ws with
 | nil=>simp[lG,dZ]
 | cons a r ih=>
  by_cases e:a=l
  .subst e;have:dZ (lG (a::r)) (cF a)=some (.bl true):=jj (p:=(cF a,V.bl true)) rfl;rw[this];simp
  .have:dZ (lG (a::r)) (cF l)=dZ (lG r) (cF l):=jk (p:=(cF a,V.bl true)) λz=>e (Hi z)
   rw[this,ih];let j:¬l=a:=λz=>e z.symm;simp[j]
def acV (ws:AA)(l:List Nat):zW (lG ws) (cF l)=lG (ws.filter λx=>decide (x≠l)):=by
 unfold zW lG;rw[List.filter_map];congr 1;calc List.filter_congr λx _=>?_;show decide (cF x≠cF l)=decide (x≠l);by_cases h:x=l
 .subst h;simp
 .rw[ai (show x≠l from h),ai (show cF x≠cF l from λz=>h (Hi z))]
def aa5 (C:Addr):Sp:=λvs H Q _=>∃(p d:Addr) (ws:AA) (l:List Nat),vs=[.ref p,.str (S l)]/\fD C H p d ws/\l∈ws/\
 ∀H',fD C H' p d (ws.filter λx=>decide (x≠l))->(∀b o,H b=some o->b≠d->H' b=some o)->Q .non H'
def U0 {f C:Addr}{fd:FuncData}(F:d7 K "take_out" "Book.take_out" iV f fd)(T:pG K C)(G:bU P w K mg base "check_word" 2 ["text"] K5):bW P w K mg base cW 3 f fd ["self","word"] (aa5 C):=by
 calc F.dh G3 (λbH A outer s H vs Q E j h=>?_);let⟨p,d,ws,l,rfl,B,hl,q⟩:=h;let D:=I_ j;obtain⟨⟨dx,hp⟩,hd,nd,az⟩:=id B;calc⟨_,(aA (dD (bD G j.mono rK (aj aW ao))) (aA (cA (agJ (ZQ D aW (bR aG rK))) qJ bI) (aF (dD (abS (bR aG rK) aW ⟨rK,rK,rK,rK⟩))))),?_⟩;calc⟨_,rK,l,rK,az l hl,λH1 s1=>?_⟩;calc⟨_,rK,_,rK,p,C,dx,_,_,rK,s1 _ _ hp,T.cl,T.nh,rK,d,_,rK,tE.k (k:=cF l) (s1 _ _ hd),_,rK,?_⟩;rw[WK,if_pos hl];calc bL ⟨_,rK,p,C,dx,_,_,rK,s1 _ _ hp,T.cl,T.nh,rK,d,rK,.inl ⟨_,.inl (s1 _ _ hd)⟩,_,rK,_,cF l,.bl true,s1 _ _ hd,rK,by rw[WK,if_pos hl],?_⟩;let I:p≠d:=λz=>by rw[z,hd]at hp;cases hp
 refine q _ ⟨⟨dx,by rw[aV I];show s1 _ _ hp⟩,by rw[aq,acV],nd.filter _,λx hx=>az x (hJ.mp hx).1⟩ λb o e hb=>by rw[aV hb];show s1 _ _ e
def Kn (H H':Hp):Prop:=∀a o,H a=some o->(∀kvs,o≠HO.dK kvs)->H' a=some o
def Kn.of {d:Addr}{H H':Hp}{kvs:List (Key×V)}(k:∀a o,H a=some o->a≠d->H' a=some o)(h:H d=some (.dK kvs)):Kn H H':=λa o e n=>k a o e λz=>by subst z;rw[h]at e;show n _ (be e).symm
def cG.kn {C:Addr}{H H':Hp}{p:Addr}{r w:Nat}{aD aL:AA}{i j:Nat}(B:cG C H p r w aD aL i j)(k:Kn H H'):cG C H' p r w aD aL i j:=by obtain⟨⟨dx,pr,pm,pb,a,b,c,d⟩,o⟩:=B;show⟨(JI dx pr pm pb ⟨k _ _ a (λ_ z=>nomatch z),k _ _ b (λ_ z=>nomatch z),k _ _ c (λ_ z=>nomatch z),k _ _ d (λ_ z=>nomatch z)⟩),o⟩
def lJ.kn {C:Addr}{H H':Hp}{p:Addr}{z:Std}{dn ps:Nat}{ov:Bool}(A:lJ C H p z dn ps ov)(k:Kn H H'):lJ C H' p z dn ps ov:=by let⟨b,pr,pp,h1,h2,h3,h4⟩:=A.ex;show⟨b,pr,pp,k _ _ h1 (λ_ z=>nomatch z),h2.kn k,k _ _ h3 (λ_ z=>nomatch z),k _ _ h4 (λ_ z=>nomatch z)⟩
def gC.kn {C CS:Addr}{H H':Hp}{p:Addr}{z:Std}(A:gC C CS H p z)(k:Kn H H'):gC C CS H' p z:=by let⟨dx,b,pr,pp,h1,h2,h3,h4⟩:=A.ex;show⟨dx,b,pr,pp,k _ _ h1 (λ_ z=>nomatch z),h2.kn k,k _ _ h3 (λ_ z=>nomatch z),k _ _ h4 (λ_ z=>nomatch z)⟩
structure Hs (C:Addr)(H:Hp)(p pw d:Addr)(Z:Gs):Prop where
 ex:∃b pb pr,H p=some (.tup [.ref b,.ref pw,.ref d,.ref pb,.int Z.size,.ref pr,.str (S Z.bag)])/\cG C H b Z.r Z.w Z.aD Z.aL Z.bi Z.bj/\H pb=some (.tup [.int Z.bn,.int Z.bm])/\H pr=some (.tup (Ts Z.racks))
 wl:H pw=some (.lst (Ts Z.ws))
 dk:H d=some (.dK Z.kvs)
def Hs.at {C:Addr}{H:Hp}{p pw d:Addr}{Z:Gs}(A:Hs C H p pw d Z):yt C H p pw Z:=by let⟨b,pb,pr,h1,h2,h3,h4⟩:=A.ex;show⟨(JI b d pb pr ⟨h1,h2,A.dk,h3,h4⟩),A.wl⟩
def Hs.kn {C:Addr}{H H':Hp}{p pw d:Addr}{Z:Gs}(A:Hs C H p pw d Z)(k:Kn H H')(h:H' d=some (.dK Z.kvs)):Hs C H' p pw d Z:=by let⟨b,pb,pr,h1,h2,h3,h4⟩:=A.ex;show⟨(JE b pb pr ⟨k _ _ h1 (λ_ z=>nomatch z),h2.kn k,k _ _ h3 (λ_ z=>nomatch z),k _ _ h4 (λ_ z=>nomatch z)⟩),k _ _ A.wl (λ_ z=>nomatch z),h⟩
theorem yr.kn {C CS CB CG:Addr}{H H':Hp}{g ps pd k kd d:Addr}{G:Gm}(A:yr C CS CB CG H g ps pd k kd d G)(kn:Kn H H')(h1:H' kd=H kd)(h2:H' d=H d):yr C CS CB CG H' g ps pd k kd d G:=by obtain⟨⟨dx,pb,a1,a2,a3,a4⟩,⟨as,a5,a6⟩,a7⟩:=A;let⟨D,j⟩:=a2.ob;show⟨(JA dx pb ⟨kn _ _ a1 (λ_ z=>nomatch z),⟨⟨D,kn _ _ j (λ_ z=>nomatch z)⟩,h1.trans a2.dc,a2.nd,a2.az⟩,h2.trans a3,kn _ _ a4 (λ_ z=>nomatch z)⟩),⟨as,kn _ _ a5 (λ_ z=>nomatch z),a6.len,λi a z e1 e2=>(a6.at_ i a z e1 e2).kn kn⟩,kn _ _ a7 (λ_ z=>nomatch z)⟩
def ahD {H H':Hp}{a:Addr}{xs:List V}(h:bC K H a xs)(k:Kn H H'):bC K H' a xs:=by
 rcases h with(h|⟨o,h⟩)|h;.show .inl (.inl (k _ _ h (λ_ z=>nomatch z)))
 .show .inl (.inr ⟨o,k _ _ h (λ_ z=>nomatch z)⟩)
 .show .inr h
def ahE {C CS CB CG f f0 f1 f2 f3 f4:Addr}{fd d8 dM fd2 lK lM:FuncData}(F:d7 K "law" "law" Pa f fd)(uR:mg "dict"=none)(bh:mg "isinstance"=none)(jB:mg "int"=none)(ji:mg "bool"=none)(cH:qy K CG)(uN:pG K CB)(Fw:mg "Book"=some (.ref CB))(JZ:Mk K CB f0)(J0:bW P w K mg base cW 3 f0 d8 ["self","words"] (Ro K CB))(J1:bK K d8 ["self","words"] [])(wU:Meth K CB "words" f2)(wV:bW P w K mg base cW 1 f2 fd2 ["self"] (K8 CB))(wW:bK K fd2 ["self"] [])(J7:Meth K CB "take_out" f4)(J8:bW P w K mg base cW 3 f4 lM ["self","word"] (aa5 CB))(J9:bK K lM ["self","word"] [])(afc:mg "Game"=some (.ref CG))(ahF:Mk K CG f1)(ahG:bW P w K mg base cW 7 f1 dM ["self","board","book","worths","bonus","size","racks","bag"] (Wf C CS CB CG))(ahH:bK K dM ["self","board","book","worths","bonus","size","racks","bag"] [])(aa6:Meth K CG "do" f3)(aa7:bW P w K mg base cW 16 f3 lK ["self","deed"] (ahs C CS CB CG))(aa8:bK K lK ["self","deed"] [])(afd:bU P w K mg base "_law_parts" 7 ["_law_script"] (Sh K C))(afe:bU P w K mg base "_law_begun" 1 ["_law_parts_here"] (Wq C))(ahI:bU P w K mg base "_law_deed" 18 ["_law_now","_law_book","_law_words_here","_law_cell"] (Wt C CB))(ahJ:bU P w K mg base "_law_next" 12 ["_law_now","_law_parts_here","_law_deed_here"] (aaZ C))(Ht:bU P w K mg base "_law_stands" 5 ["_law_game","_law_now"] (Sx C CS CB CG))(WL:bU P w K mg base "_law_kinds" 5 ["_law_game"] (Wz C CS CB CG)):bW P w K mg base cW 20 f fd ["_law_script"] (O7 K):=by
 calc F.dh mX (λbH A outer s H vs Q E I h=>?_);let⟨a,cells,rfl,hS,h63,q⟩:=h;calc⟨_,(aA (aU (i:=1) mX.nd rK (Or.inl rK) (bD afd I.mono rK (aj aG ao))) (aA (aU (i:=2) mX.nd rK (Or.inl rK) (o9 JZ J0 I.mono rK Fw J1 .nil cY (aj (aY bw aW au (λ_ _=>rfl)) ao))) (aA (aU (i:=3) mX.nd rK (Or.inl rK) (eO Jl qf uR PyProof.Rows.boot_dict (aj (aY bw aW au (λ_ _=>rfl)) ao))) (aA (aU (i:=4) mX.nd rK (Or.inl rK) (o9 ahF ahG I.mono rK afc ahH .nil cY (aj (aY bw aW au (λ_ _=>rfl)) (aj bA (aj bN (aj (aY bw aW au (λ_ _=>rfl)) (aj (aY bw aW au (λ_ _=>rfl)) (aj (aY bw aW au (λ_ _=>rfl)) (aj (aY bw aW au (λ_ _=>rfl)) ao))))))))) (aA (dD (zp i8 PySem.F.slot_dict_clear PySem.F.type_dict_clear aag bN)) (aA (aU (i:=5) mX.nd rK (Or.inl rK) (bD afe I.mono rK (aj aW ao))) (aA (aU (i:=6) mX.nd rK (Or.inl rK) (o9 JZ J0 I.mono rK Fw J1 .nil cY (aj (aY bw aW au (λ_ _=>rfl)) ao))) (aA (fP cz rK (gG (dR bA uN.cl wU wV I.mono wW .nil cY)) (bF (i:=7) mX.nd rK (Or.inl rK)) (aF (dD (mQ bA uN.cl J7 J8 I.mono J9 .nil cY (aj iJ ao))))) (aA (cA (QW.qt (je (dG (cQ (bD Ht I.mono rK (aj cJ (aj dF ao))))) (iR (dG (cQ (bD WL I.mono rK (aj cJ ao))))))) (aF (bf h_)) bI) (aA (fP cz rK (oh (dj vR aG (dI au) (dI au))) (bF (i:=8) mX.nd rK (Or.inl rK)) (aF (fU (cA (dG (cQ (aY bw dF au (λ_ _=>rfl)))) (aA (aU (i:=9) mX.nd rK (Or.inl rK) (bD ahI I.mono rK (aj dF (aj fG (aj (aY bw aW au (λ_ _=>rfl)) (aj jZ ao)))))) (aA (fU (qZ (bD ahJ I.mono rK (aj dF (aj aW (aj jN ao)))) (nY rK (bT (bF (i:=10) mX.nd rK (Or.inl rK)) (bT (bF (i:=5) mX.nd rK (Or.inl rK)) lq))))) (aA (aU (i:=11) mX.nd rK (Or.inl rK) (mQ cJ cH.cl aa6 aa7 I.mono aa8 .nil cY (aj jN ao))) (aA (cA (QW.qt (je (dG (cQ (aO cP qf bh aS (aj lC (aj (fu (v:=.ty "int") qf jB fR rK) ao))))) (je (cQ (aO cP qf bh aS (aj lC (aj (fu (v:=.ty "bool") qf ji gd rK) ao)))) (iR (bQ zU lC jh (bG _)))))) (aF (bf h_)) bI) (aF (cA (QW.qt (je (dG (cQ (bD Ht I.mono rK (aj cJ (aj dF ao))))) (iR (dG (cQ (bD WL I.mono rK (aj cJ ao))))))) (aF (bf h_)) bI)))))) bI)))) (aF (bf (bD Ht I.mono rK (aj cJ (aj dF ao))))))))))))))),?_⟩;calc⟨_,rK,a,cells,rK,hS,λpp pw Z H1 s1 fpw PA PO=>?_⟩;let⟨b0,dk,pbn,prk,hpp,hB0,hdk,ahK,ahL⟩:=PA.ex;let w2:=PO.w2;calc⟨_,rK,pp,_,_,.ref pw,rK,rK,aN.of hpp,aQ (j:=1) rK,λk kx nk1 nk2 nk3=>?_⟩;let sK:aB H1 (upd (upd H1 kx (HO.own k)) k (HO.ins CB kx [])):=λx o h=>by rw[aV (aX h nk1),aV (aX h nk2)];show h
 calc JI k kx pw Z.ws ⟨rK,aq,.inl (bC.of (sK _ _ PA.wl)),PO.wz,p_,λkd bs H2 fkd BK hbs Q7 kp2=>⟨rK,?_⟩⟩;let s2:aB H1 H2:=λx o h=>kp2 x o (sK x o h) (aX h nk1);let YB:=s2 _ _ hpp;calc⟨_,rK,pp,_,_,.ref dk,rK,rK,aN.of YB,aQ (j:=2) rK,dk,Z.kvs,rK,s2 _ _ hdk,λD hdw=>?_⟩;let s3:=aB.upd hdw (o:=HO.dK Z.kvs);let e3:upd H2 D (HO.dK Z.kvs) D=some (.dK Z.kvs):=aq;generalize upd H2 D (HO.dK Z.kvs)=H3 at s3 e3 ⊢;let SJ:=s3 _ _ YB;calc⟨_,rK,pp,_,_,.ref b0,rK,rK,aN.of SJ,aQ (j:=0) rK,_,rK,_,rK,_,rK,pp,_,_,.ref pbn,rK,rK,aN.of SJ,aQ (j:=3) rK,_,rK,pp,_,_,.int Z.size,rK,rK,aN.of SJ,aQ (j:=4) rK,_,rK,pp,_,_,.ref prk,rK,rK,aN.of SJ,aQ (j:=5) rK,_,rK,pp,_,_,.str (S Z.bag),rK,rK,aN.of SJ,aQ (j:=6) rK,λg gx ng1 ng2 ng3=>?_⟩;let sG:aB H3 (upd (upd H3 gx (HO.own g)) g (HO.ins CG gx [])):=λx o h=>by rw[aV (aX h ng1),aV (aX h ng2)];show h
 let Nx:=s2.trans s3;let s1G:=Nx.trans sG;let BK3:=BK.mv s3;calc JS g gx b0 k kd D pbn prk ⟨bs,Z.kvs,Z.bn,Z.bm,Z.size,Z.r,Z.w,Z.aD,Z.aL,Z.bi,Z.bj,Z.racks,Z.bag,rK,aq,hB0.mv s1G,BK3.mv sG,p_,sG _ _ e3,s1G _ _ ahK,s1G _ _ ahL,PO.n1,PO.n4,(λl hl=>by have:=(PO.r7 l hl).1;have:=PO.s7;lia),λps pd k2 kd2 d2 uQ H4 kp4 hm fps fpd fk2 ahM ahN X4=>⟨rK,?_⟩⟩;let s4:aB H3 H4:=λx o h=>kp4 x o (sG x o h) (aX h ng1);let X4:yr C CS CB CG H4 g ps pd k2 kd2 d2 (eY ⟨[],[],uQ,Z.kvs,Z.bn,Z.bm,Z.size⟩ [beg Z] []):=X4;let GF:Pq ⟨[],[],uQ,Z.kvs,Z.bn,Z.bm,Z.size⟩:=⟨PO.wd,PO.wb,PO.s7⟩
 obtain⟨G,ek,en,em,ez,ew,X4,GF⟩:∃G:Gm,G.kvs=Z.kvs/\G.bn=Z.bn/\G.bm=Z.bm/\G.size=Z.size/\G.ws=uQ/\yr C CS CB CG H4 g ps pd k2 kd2 d2 (eY G [beg Z] [])/\Pq G:=⟨_,rK,rK,rK,rK,rK,X4,GF⟩
 let Z0:k_ (beg Z):=by let z7:=PO.s7;calc⟨by show 1<=(Z.racks.map dJ).length;rw[aa];show PO.n1,by show (Z.racks.map dJ).length<=4;rw[aa];show PO.n4,λl hl=>?_,PO.b6,PO.bt,by show (List.replicate _ _).length=(Z.racks.map dJ).length;rw[aa,cq]⟩;let⟨m,hm,rfl⟩:=bc.mp hl;let⟨h1,h2⟩:=PO.r7 m hm;show⟨by rw[jy];lia,λc hc=>h2 c ((jX m).mem_iff.mp hc)⟩
 let SM:=Nx.trans s4;let P4:Hs C H4 pp pw dk Z:=⟨(JE b0 pbn prk ⟨SM _ _ hpp,hB0.mv SM,SM _ _ ahK,SM _ _ ahL⟩),SM _ _ PA.wl,SM _ _ hdk⟩
 let n1:kd2≠D:=(aX (sG _ _ e3) ahM).symm;let n2:d2≠D:=(aX (sG _ _ e3) ahN).symm;let n3:dk≠D:=aX (s2 _ _ hdk) hdw;let n4:kd≠D:=aX BK.dc hdw;let n5:kd2≠kd:=(aX (sG _ _ BK3.dc) ahM).symm;let n6:d2≠kd:=(aX (sG _ _ BK3.dc) ahN).symm;let n7:dk≠kd:=aX (sK _ _ hdk) fkd;let e4:=s4 _ _ e3;calc⟨_,rK,.inr (.inr (.inl ⟨rK,.inl ⟨_,e4⟩⟩)),D,Z.kvs,rK,rK,e4,?_⟩;let k5:∀a o,H4 a=some o->a≠D->upd H4 D (HO.dK []) a=some o:=λa o h n=>by rw[aV n];show h
 let Y:=Kn.of k5 e4;let P5:=P4.kn Y (k5 _ _ P4.dk n3);let X5:=X4.kn Y (aV n1) (aV n2);let BK5:fD CB (upd H4 D (HO.dK [])) k kd bs:=by let BK4:=BK3.mv s4;let⟨ky,hky⟩:=BK4.ob;show⟨⟨ky,Y _ _ hky (λ_ z=>nomatch z)⟩,k5 _ _ BK4.dc n4,BK4.nd,BK4.az⟩
 generalize upd H4 D (HO.dK [])=H5 at k5 Y P5 X5 BK5 ⊢;let hS5:bC K H5 a (cells.map V.int)->True:=λ_=>True.intro;clear hS5;calc⟨_,rK,pp,pw,Z,rK,P5.at,PO,λbn H6 s6 NA6=>?_⟩;let P6:Hs C H6 pp pw dk Z:=P5.kn (λa o h _=>s6 a o h) (s6 _ _ P5.dk);let⟨_,_,_,ajP,_⟩:=P6.ex;let BK6:=BK5.mv s6;let X6:=X5.kn (λa o h _=>s6 a o h) ((s6 _ _ (X5.ex.choose_spec.choose_spec.2.1.dc)).trans (X5.ex.choose_spec.choose_spec.2.1.dc).symm) ((s6 _ _ (X5.ex.choose_spec.choose_spec.2.2.1)).trans (X5.ex.choose_spec.choose_spec.2.2.1).symm);calc⟨_,rK,pp,_,_,.ref pw,rK,rK,aN.of ajP,aQ (j:=1) rK,λk3 kx3 mk1 mk2 mk3=>?_⟩;let sK3:aB H6 (upd (upd H6 kx3 (HO.own k3)) k3 (HO.ins CB kx3 [])):=λx o h=>by rw[aV (aX h mk1),aV (aX h mk2)];show h
 calc JI k3 kx3 pw Z.ws ⟨rK,aq,.inl (bC.of (sK3 _ _ P6.wl)),PO.wz,p_,λkd3 rs H7 ajQ BR hrs hrl kp7=>⟨rK,?_⟩⟩;let s7:aB H6 H7:=λx o h=>kp7 x o (sK3 x o h) (aX h mk1);let n8:kd3≠kd:=(aX (sK3 _ _ BK6.dc) ajQ).symm;let WM:=BK6.mv s7;let⟨ky7,ajR⟩:=WM.ob;calc⟨_,rK,k,ky7,_,rK,ajR,rK,k,kd,bs,rK,WM,p_,λt us H8 s8 ft ht pm ri=>?_⟩;let nd:us.Nodup:=pm.nodup_iff.mpr WM.nd;let R5:=s7.trans s8;refine⟨t,rK,⟨_,aN.of ht⟩,za (K:=K) (a:=t) (xs:=Ts us) (λi σ H9=>∃(v7:Option V) (ws:AA),σ=[some (.ref a),some (.ref pp),some (.ref k),some (.ref D),some (.ref g),some (.ref bn),some (.ref k3),v7,none,none,none,none]/\(∀a o,H8 a=some o->a≠kd->H9 a=some o)/\fD CB H9 k kd ws/\∀x,x∈ws↔x∈us/\x∉us.take i)
  (JA none bs ⟨rK,λ_ _ h _=>h,WM.mv s8,λx=>by rw[List.take_zero,pm.mem_iff];simp⟩) (λi σ H9 _ h=>?_) ?_ ?_⟩
 .let⟨_,_,_,kp,_⟩:=h;show aN.of (kp _ _ ht (xr ht (s8 _ _ WM.dc) λz=>nomatch z))
 .intro i x σ H9 hx z;let⟨v7,ws,rfl,kp,B9,hws⟩:=z;let⟨l,hl,rfl⟩:=rJ hx;let hi:=(ah.mp hl).1;let hnm:l∉us.take i:=λz=>by
   let e1:=tk1 hl;let n:=nd.sublist (List.take_sublist (i+1) us);rw[e1]at n;show(List.nodup_append.mp n).2.2 l z l (a_.mpr rK) rfl
  let⟨ky9,ajS⟩:=B9.ob;calc⟨_,rK,k,ky9,_,rK,ajS,rK,_,rK,k,kd,ws,l,rK,B9,(hws l).mpr ⟨bp hl,hnm⟩,λHA BA kA=>?_⟩;calc JA _ _ ⟨rK,λa o h n=>kA _ _ (kp a o h n) n,BA,λx=>?_⟩;rw[hJ,hws x,tk1 hl];simp only[bu,a_,decide_eq_true_eq,ne_eq];constructor
  .rintro⟨⟨h1,h2⟩,h3⟩;show⟨h1,λz=>z.elim h2 h3⟩
  .rintro⟨h1,h2⟩;show⟨⟨h1,λz=>h2 (.inl z)⟩,λz=>h2 (.inr z)⟩
 intro σ H9 z;let⟨v7,ws,rfl,kp9,B9,_⟩:=z;let kn9:=Kn.of kp9 (s8 _ _ WM.dc);let YC:Kn H6 H9:=λa o h n=>kn9 a o (R5 a o h) n;let keep:∀{x o},H6 x=some o->x≠kd->H9 x=some o:=λh n=>kp9 _ _ (R5 _ _ h) n;let⟨_,_,_,bk6,d6,_⟩:=X6.ex;let X9:=X6.kn YC ((keep bk6.dc n5).trans bk6.dc.symm) ((keep d6 n6).trans d6.symm);let P9:=P6.kn YC (keep P6.dk n7);let BR9:fD CB H9 k3 kd3 rs:=by let⟨kz,hkz⟩:=BR.ob;show⟨⟨kz,kn9 _ _ (s8 _ _ hkz) (λ_ z=>nomatch z)⟩,kp9 _ _ (s8 _ _ BR.dc) n8,BR.nd,BR.az⟩
 let NA9:lJ C H9 bn (beg Z) 0 0 false:=NA6.kn YC;let A9:=X9.at;let hrw:∀x,x∈rs↔x∈G.ws:=λx=>by rw[ew,hrs x,hm x,hbs x]
 let ajT:∀l∈(eY G [beg Z] []).done,∀c∈l,c<128:=J6 (ds:=[]);let ov0:=acT (G:=G) Z0.n1;calc⟨_,rK,_,rK,g,bn,ps,pd,eY G [beg Z] [],[],beg Z,0,rK,A9,rK,Z0,ajT,by show 0<=500;decide,by show lJ C H9 bn (beg Z) 0 0 (lH (eY G [] []) (beg Z));rw[ov0];show NA9,λHA sA=>⟨_,rK,bL ⟨_,rK,g,ps,pd,eY G [beg Z] [],[],beg Z,rK,A9.mv sA,rK,Z0,λHB sB=>⟨_,rK,bL ?_⟩⟩⟩⟩;let WQ:=sA.trans sB;let AB:=A9.mv WQ;let PB:yt C HB pp pw Z:=P9.at.kl (Kl.of WQ) (WQ _ _ P9.wl);let BRB:=BR9.mv WQ;let NAB:lJ C HB bn (beg Z) 0 0 false:=NA9.kl (Kl.of WQ);let hSB:bC K HB a (cells.map V.int):=WQ.seq (ahD (s6.seq (ahD ((s1.trans SM).seq hS) Y)) YC);calc⟨_,rK,_,rK,_,rK,a,_,rK,hSB,λZc hZc=>?_⟩;let WR:=aB.upd hZc (o:=HO.lst (gQ (cells.map V.int) (some 4) (some 16)));let e7:upd HB Zc (HO.lst (gQ (cells.map V.int) (some 4) (some 16))) Zc=some (.lst (gQ (cells.map V.int) (some 4) (some 16))):=aq;let zn1:Zc≠ps:=by let⟨_,h,_⟩:=AB.st;show(aX h hZc).symm
 let zn2:Zc≠pd:=(aX AB.dn hZc).symm;generalize upd HB Zc (HO.lst (gQ (cells.map V.int) (some 4) (some 16)))=HC at WR e7 ⊢;let AC:=AB.mv WR;let PC:=PB.kl (Kl.of WR) (WR _ _ PB.wl);let BRC:=BRB.mv WR;let⟨_,ajU,_⟩:=AC.st;let wl2:=s3 _ _ (s2 _ _ PA.wl);let wn1:pw≠ps:=aX (sG _ _ wl2) fps;let wn2:pw≠pd:=aX (sG _ _ wl2) fpd;let hcl:(gQ (cells.map V.int) (some 4) (some 16)).length<=63:=by unfold gQ;rw[av,ba,aa];lia
 refine⟨Zc,rK,⟨_,bC.of e7⟩,nC (K:=K) (a:=Zc) (xs:=gQ (cells.map V.int) (some 4) (some 16)) (λi σ HD=>∃(v8 v9 O J:Option V) (n:Addr) (ds:List dz) (zs:List Std) (z:Std),σ=[some (.ref a),some (.ref pp),some (.ref k),some (.ref D),some (.ref g),some (.ref n),some (.ref k3),v7,v8,v9,O,J]/\Ca ps pd HC HD/\jY C CS CB CG HD g ps pd (eY G (zs++[z]) ds)/\Path G (beg Z) ds (zs++[z])/\lJ C HD n z ds.length (tp ds) (lH (eY G [] ds) z)/\ds.length<=i)
  (JS none none none none bn [] [] (beg Z) ⟨rK,λ_ _ h _ _=>h,AC,.nil,by rw[ov0];show NAB.kl (Kl.of WR),al _⟩) (λi σ HD _ h=>?_) ?_ ?_⟩
 .let⟨_,_,_,_,_,_,_,_,_,kp,_⟩:=h;show bC.of (kp _ _ e7 zn1 zn2)
 .intro i x σ HD hx z;let⟨v8,v9,O,J,n,ds,zs,z,rfl,kp,AD,PH,NA,hdi⟩:=z;let hic:=(ah.mp hx).1;let⟨c,_,rfl⟩:=bc.mp (ed (cy (bp hx)));let Gn:=PH.len;rw[ay]at Gn;let Gn:zs.length=ds.length:=Nat.succ.inj Gn;let sok:=PH.ok Z0 GF.sz;let WT:k_ z:=sok z qa;let⟨_,_,_,hnD,_⟩:=NA.ex;let klD:=kp.kl ajU AC.dn;let acW:=kp _ _ PC.wl wn1 wn2;let PD:=PC.kl klD acW;let⟨_,_,_,_,ajV,_⟩:=PD.ex;calc⟨λσ HE=>∃(v8 v9 O J:Option V) (n:Addr) (ds:List dz) (zs:List Std) (z:Std),σ=[some (.ref a),some (.ref pp),some (.ref k),some (.ref D),some (.ref g),some (.ref n),some (.ref k3),v7,v8,v9,O,J]/\Ca ps pd HC HE/\jY C CS CB CG HE g ps pd (eY G (zs++[z]) ds)/\Path G (beg Z) ds (zs++[z])/\lJ C HE n z ds.length (tp ds) (lH (eY G [] ds) z)/\ds.length<=i+1,?_,λσ HE h=>h⟩;calc⟨_,rK,n,_,_,.bl (lH (eY G [] ds) z),rK,rK,aN.of hnD,aQ (j:=6) rK,_,rK,?_⟩;cases hov:lH (eY G [] ds) z with
  | true=>show bL (JS _ _ _ _ n ds zs z ⟨rK,kp,AD,PH,NA,p_⟩)
  | false=>
   calc cu ⟨_,rK,_,rK,_,rK,pp,_,_,.ref pw,rK,rK,aN.of ajV,aQ (j:=1) rK,_,rK,n,k3,kd3,pw,rs,Z.ws,c,z,ds.length,tp ds,_,rK,NA,WT,BRC.kl klD,acW,by have:=PO.w1;lia,PO.wz,λe d HE sE hd hok=>?_⟩;let⟨pt,z',dd⟩:=aa4 (G:=G) hok hrw;let hgl:(eY G [] ds).done.length=ds.length:=aa _;refine⟨λσ HF=>∃n',σ=[some (.ref a),some (.ref pp),some (.ref k),some (.ref D),some (.ref g),some (.ref n'),some (.ref k3),v7,some (.int c),some (.ref e),some (.int pt),J]/\aB HE HF/\lJ C HF n' z' (ds.length+1) (tp (ds++[d])) (lH (eY G [] (ds++[d])) z'),?_,?_⟩
   .calc⟨_,rK,_,rK,_,rK,n,pp,pw,e,z,z',ds.length,tp ds,_,Z,eY G [] ds,d,pt,rK,NA.kl (Kl.of sE),WT,PD.kl (Kl.of sE) (sE _ _ acW),PO,hd,hgl,ek,en,em,ez,dd,λt n' HF sF ht NA'=>?_⟩;calc JA t _ ⟨rK,aN.of ht,rK,_,_,rK,_,_,rK,rK,n',rK,sF,?_⟩;rw[Lr,aa3 dd WT.n1];show NA'
   intro σ HF z;let⟨n',rfl,sF,NF⟩:=z;let AF:=(AD.mv sE).mv sF;let⟨gz,_,_,_,_,hgF,_⟩:=AF.ex;let⟨_,ajW,_⟩:=AF.st;calc⟨_,rK,g,gz,_,rK,hgF,rK,_,rK,g,e,ps,pd,eY G (zs++[z]) ds,zs,z,z',d,pt,rK,AF,rK,WT,GF.ok p_ (by rw[ay];show zs.length+1<=101;lia),hd.mv sF,hov,dd.sts,λHG kG AG=>?_⟩;rw[afb]at AG;let klG:=kG.kl ajW AF.dn;let PH':Path G (beg Z) (ds++[d]) (zs++[z]++[z']):=.snoc PH hov dd;let ahO:=PH'.ok Z0 GF.sz z' qa;let ahP:(eY G (zs++[z]++[z']) (ds++[d])).done.length=ds.length+1:=by show ((ds++[d]).map dz.name).length=_;rw[aa,ay];rfl
   let NG:=NF.kl klG;calc⟨_,rK,_,_,_,true,rK,.int _,qh,true,rK,bL ⟨_,rK,_,_,_,false,rK,.int _,qh,false,rK,bL ⟨_,rK,_,rK,rK,_,rK,?_⟩⟩⟩;rw[ai rfl];calc bL ⟨_,rK,_,rK,g,n',ps,pd,eY G (zs++[z]++[z']) (ds++[d]),zs++[z],z',tp (ds++[d]),rK,AG,rK,ahO,J6,by rw[ahP];lia,by rw[ahP];show NG,λHI sI=>⟨_,rK,bL ⟨_,rK,g,ps,pd,eY G (zs++[z]++[z']) (ds++[d]),zs++[z],z',rK,AG.mv sI,rK,ahO,λHJ sJ=>⟨_,rK,bL ?_⟩⟩⟩⟩;let sIJ:=sI.trans sJ;calc JS _ _ _ _ n' (ds++[d]) (zs++[z]) z' ⟨rK,λa o h m1 m2=>sIJ _ _ (kG _ _ (sF _ _ (sE _ _ (kp a o h m1 m2))) m1 m2),AG.mv sIJ,PH',?_,?_⟩;.rw[ay];show NG.kl (Kl.of sIJ)
   .rw[ay];show gV hdi
 .intro σ HD z;let⟨v8,v9,O,J,n,ds,zs,z,rfl,kp,AD,PH,NA,hdi⟩:=z;let WT:k_ z:=PH.ok Z0 GF.sz z qa;let hgl:(eY G (zs++[z]) ds).done.length=ds.length:=aa _;show⟨_,rK,_,rK,g,n,ps,pd,eY G (zs++[z]) ds,zs,z,tp ds,rK,AD,rK,WT,J6,by rw[hgl];lia,by rw[hgl];show NA,λHE _=>q HE⟩
end
end My
end
namespace My
open PySem L2
section
variable {P:Program}{w:World}{K:W.Frag}{mg:Str->Option Value}{base:Heap}
def acX (K:W.Frag)(C:Addr):W.kitOne K (.ref C) (.ref C)=some true:=by unfold W.kitOne;show if_pos (show (Value.ref C==Value.ref C)=true by simp)
abbrev afg (K:W.Frag)(C:Addr):=qy K C
abbrev acY (K:W.Frag)(C:Addr):=rW K C
def aiZ {h:Heap}{x:Str}{l:List Nat}{t:Tok}(X:K.In h)(G:h.Ns mainGlobals mg)(b:W.nsIn K mainGlobals x=some (some (.str (S l) t)))(n:t≠0):∃t,t≠0/\mg x=some (.str (S l) t):=⟨t,n,c8 X G b⟩
def aa9 {h:Heap}(X:K.In h)(G:h.Ns mainGlobals mg){x:Str}{a:Addr}{c1 c2 c3:Nat}{i1 i2 i3:Int}{Y O Z D I F:Tok}{ep:Nat}(b:W.nsIn K mainGlobals x=some (some (.ref a)))(l:K.lookup a=some ⟨.type "dict",none,.dict #[⟨hashStr w (S [c1]),.str (S [c1]) Y,.int i1 D⟩,⟨hashStr w (S [c2]),.str (S [c2]) O,.int i2 I⟩,⟨hashStr w (S [c3]),.str (S [c3]) Z,.int i3 F⟩] ep,#[]⟩)(z:(a==sysModules)=false)(n:([c1,c2,c3]:List Nat).Nodup):∃a,mg x=some (.ref a)/\∀P:Program,KDict P w K a [(cF [c1],.int i1),(cF [c2],.int i2),(cF [c3],.int i3)]:=by
 calc⟨a,c8 X G b,λP=>⟨z,_,[(cF [c1],.int i1 D),(cF [c2],.int i2 I),(cF [c3],.int i3 F)],l,?_,?_⟩⟩;.show .cons ⟨rK,⟨_,rK⟩⟩ (.cons ⟨rK,⟨_,rK⟩⟩ (.cons ⟨rK,⟨_,rK⟩⟩ .nil))
 .refine JA _ _ ⟨⟨rK,rK,rK⟩,rK,?_,?_,?_⟩
  .intro e j;let j:e∈[(⟨hashStr w (S [c1]),.str (S [c1]) Y,.int i1 D⟩:DictEntry),⟨hashStr w (S [c2]),.str (S [c2]) O,.int i2 I⟩,⟨hashStr w (S [c3]),.str (S [c3]) Z,.int i3 F⟩]:=by simpa using j
   rcases bq.mp j with rfl|j;.show⟨cF [c1],lO _ _ _ _,rK⟩
   rcases bq.mp j with rfl|j;.show⟨cF [c2],lO _ _ _ _,rK⟩
   rcases bq.mp j with rfl|j;.show⟨cF [c3],lO _ _ _ _,rK⟩
   .cases j
  .show .cons (lO _ _ _ _) rK (.cons (lO _ _ _ _) rK (.cons (lO _ _ _ _) rK .nil))
  .let e:([(cF [c1],Value.int i1 D),(cF [c2],Value.int i2 I),(cF [c3],Value.int i3 F)]:List (Key×Value)).map (·.1)=([c1,c2,c3]:List Nat).map (λc=>cF [c]):=rfl;rw[e];calc List.Pairwise.map _ (λa b J q=>J ?_) n;have:=xG (l_ q);simpa using this
structure Aj (K:W.Frag)(mg:Str->Option Value)(C f0 f1 f2 f3 f4:Addr)(d8 dM fd2 lK lM:FuncData):Prop where
 T:fY K C
 uL:mg "Board"=some (.ref C)
 M:Mk K C f0
 F0:d7 K "__init__" "Board.__init__" kh f0 d8
 b0:bK K d8 ["self","rows","marks","begin"] []
 F1:d7 K "at" "Board.at" nH f1 dM
 b1:bK K dM ["self","row","column"] []
 m1:Meth K C "at" f1
 F2:d7 K "is_free" "Board.is_free" iU f2 fd2
 b2:bK K fd2 ["self"] []
 m2:Meth K C "is_free" f2
 F3:d7 K "run" "Board.run" lY f3 lK
 b3:bK K lK ["self","row","column","way"] []
 m3:Meth K C "run" f3
 F4:d7 K "laid" "Board.laid" kj f4 lM
 b4:bK K lM ["self","laying"] []
 m4:Meth K C "laid" f4
 I:Z4 K C
def acZ {h:Heap}{C f0 f1 f2 f3 f4:Addr}(X:K.In h)(G:h.Ns mainGlobals mg){SN SQ od1 j od2 an2 od3 an3 od4 an4:Option Addr}{Ng sl1 Z Jg sl4:Array (Option Value)}{SX S5 S6 S7 Du S8 oc1 kV1 dc1 pm1 NZ ct1 O F dc2 pm2 N5 ct2 oc3 kV3 dc3 Y N6 ct3 oc4 D I pm4 N7 J:Value}(aC:W.nsIn K mainGlobals "Board"=some (some (.ref C)))(a0:W.findIn K (.ref C) "__init__"=some (some (.ref f0)))(i0:W.isFn K (.ref f0)=true)(l0:K.lookup f0=some ⟨SX,SN,.func (W.fnOf "__init__" "Board.__init__" (cX kh) (cM kh) (aH kh) .none S5 S6 S7 SQ Du S8),Ng⟩)(c0:W.codeIn K Du "Board.__init__"=true)(k0:W.keepIn K (.ref f0)=true)(a1:W.findIn K (.ref C) "at"=some (some (.ref f1)))(i1:W.isFn K (.ref f1)=true)(l1:K.lookup f1=some ⟨oc1,od1,.func (W.fnOf "at" "Board.at" (cX nH) (cM nH) (aH nH) .none kV1 dc1 pm1 j NZ ct1),sl1⟩)(c1:W.codeIn K NZ "Board.at"=true)(k1:W.keepIn K (.ref f1)=true)(a2:W.findIn K (.ref C) "is_free"=some (some (.ref f2)))(i2:W.isFn K (.ref f2)=true)(l2:K.lookup f2=some ⟨O,od2,.func (W.fnOf "is_free" "Board.is_free" (cX iU) (cM iU) (aH iU) .none F dc2 pm2 an2 N5 ct2),Z⟩)(c2:W.codeIn K N5 "Board.is_free"=true)(k2:W.keepIn K (.ref f2)=true)(a3:W.findIn K (.ref C) "run"=some (some (.ref f3)))(i3:W.isFn K (.ref f3)=true)(l3:K.lookup f3=some ⟨oc3,od3,.func (W.fnOf "run" "Board.run" (cX lY) (cM lY) (aH lY) .none kV3 dc3 Y an3 N6 ct3),Jg⟩)(c3:W.codeIn K N6 "Board.run"=true)(k3:W.keepIn K (.ref f3)=true)(a4:W.findIn K (.ref C) "laid"=some (some (.ref f4)))(i4:W.isFn K (.ref f4)=true)(l4:K.lookup f4=some ⟨oc4,od4,.func (W.fnOf "laid" "Board.laid" (cX kj) (cM kj) (aH kj) .none D I pm4 an4 N7 J),sl4⟩)(c4:W.codeIn K N7 "Board.laid"=true)(k4:W.keepIn K (.ref f4)=true)(pg:W.plainGet K C Str.empty=true)(hd:W.hasDictIn K C=true)(po:W.plainOver K C=true)(sa:W.findIn K (.ref C) "__setattr__"=some (some (.builtin "object.__setattr__")))(mk:W.makesIn K C=true)(kc:W.keepIn K (.ref C)=true)(ja:W.findIn K (.ref C) "__class__"=some (some (.builtin "object.__class__")))(jn:W.specialIn K (.builtin "object.__class__") "__get__"=some (some (.builtin "getset_descriptor.__get__")))(jt:W.takesIn K (.builtin "object.__class__")=some true)(jm:W.mroIn K C (.type "object")=some true)(wY:W.findIn K (.ref C) "rows"=some none)(Dv:W.findIn K (.ref C) "marks"=some none)(Dw:W.findIn K (.ref C) "begin"=some none):∃C f0 f1 f2 f3 f4 d8 dM fd2 lK lM,Aj K mg C f0 f1 f2 f3 f4 d8 dM fd2 lK lM:=by let F0:=fO (st:=kh) l0 c0 k0;let F1:=fO (st:=nH) l1 c1 k1;let F2:=fO (st:=iU) l2 c2 k2;let F3:=fO (st:=lY) l3 c3 k3;let F4:=fO (st:=kj) l4 c4 k4;show JS C f0 f1 f2 f3 f4 _ _ ⟨_,_,_,⟨⟨pg,hd,po,sa⟩,wY,Dv,Dw⟩,c8 X G aC,⟨mk,a0,i0,kc⟩,F0,F0.binds (ps:=["self","rows","marks","begin"]) (λ_ _ _ _ _ _ us hl=>L2.e4 (λ_ _ _ _=>rfl) us hl),F1,F1.binds (ps:=["self","row","column"]) (λ_ _ _ _ _ _ us hl=>L2.e3 (λ_ _ _=>rfl) us hl),⟨a1,i1,k1⟩,F2,F2.binds (ps:=["self"]) (λ_ _ _ _ _ _ us hl=>L2.e1 (λ_=>rfl) us hl),⟨a2,i2,k2⟩,F3,F3.binds (ps:=["self","row","column","way"]) (λ_ _ _ _ _ _ us hl=>L2.e4 (λ_ _ _ _=>rfl) us hl),⟨a3,i3,k3⟩,F4,F4.binds (ps:=["self","laying"]) (λ_ _ _ _ _ _ us hl=>L2.e2 (λ_ _=>rfl) us hl),⟨a4,i4,k4⟩,⟨ja,jn,jt,jm,acX K C⟩⟩
structure Dy (K:W.Frag)(mg:Str->Option Value)(C f0 f1 f2 f3 f4:Addr)(d8 dM fd2 lK lM:FuncData):Prop where
 T:pG K C
 uL:mg "Book"=some (.ref C)
 M:Mk K C f0
 F0:d7 K "__init__" "Book.__init__" mq f0 d8
 b0:bK K d8 ["self","words"] []
 F1:d7 K "has" "Book.has" nP f1 dM
 b1:bK K dM ["self","text"] []
 m1:Meth K C "has" f1
 F2:d7 K "words" "Book.words" kI f2 fd2
 b2:bK K fd2 ["self"] []
 m2:Meth K C "words" f2
 F3:d7 K "twin" "Book.twin" mz f3 lK
 b3:bK K lK ["self"] []
 m3:Meth K C "twin" f3
 F4:d7 K "take_out" "Book.take_out" iV f4 lM
 b4:bK K lM ["self","word"] []
 m4:Meth K C "take_out" f4
def afh {h:Heap}{C f0 f1 f2 f3 f4:Addr}(X:K.In h)(G:h.Ns mainGlobals mg){SN SQ od1 j od2 an2 od3 an3 od4 an4:Option Addr}{Ng sl1 Z Jg sl4:Array (Option Value)}{SX S5 S6 S7 Du S8 oc1 kV1 dc1 pm1 NZ ct1 O F dc2 pm2 N5 ct2 oc3 kV3 dc3 Y N6 ct3 oc4 D I pm4 N7 J:Value}(aC:W.nsIn K mainGlobals "Book"=some (some (.ref C)))(a0:W.findIn K (.ref C) "__init__"=some (some (.ref f0)))(i0:W.isFn K (.ref f0)=true)(l0:K.lookup f0=some ⟨SX,SN,.func (W.fnOf "__init__" "Book.__init__" (cX mq) (cM mq) (aH mq) .none S5 S6 S7 SQ Du S8),Ng⟩)(c0:W.codeIn K Du "Book.__init__"=true)(k0:W.keepIn K (.ref f0)=true)(a1:W.findIn K (.ref C) "has"=some (some (.ref f1)))(i1:W.isFn K (.ref f1)=true)(l1:K.lookup f1=some ⟨oc1,od1,.func (W.fnOf "has" "Book.has" (cX nP) (cM nP) (aH nP) .none kV1 dc1 pm1 j NZ ct1),sl1⟩)(c1:W.codeIn K NZ "Book.has"=true)(k1:W.keepIn K (.ref f1)=true)(a2:W.findIn K (.ref C) "words"=some (some (.ref f2)))(i2:W.isFn K (.ref f2)=true)(l2:K.lookup f2=some ⟨O,od2,.func (W.fnOf "words" "Book.words" (cX kI) (cM kI) (aH kI) .none F dc2 pm2 an2 N5 ct2),Z⟩)(c2:W.codeIn K N5 "Book.words"=true)(k2:W.keepIn K (.ref f2)=true)(a3:W.findIn K (.ref C) "twin"=some (some (.ref f3)))(i3:W.isFn K (.ref f3)=true)(l3:K.lookup f3=some ⟨oc3,od3,.func (W.fnOf "twin" "Book.twin" (cX mz) (cM mz) (aH mz) .none kV3 dc3 Y an3 N6 ct3),Jg⟩)(c3:W.codeIn K N6 "Book.twin"=true)(k3:W.keepIn K (.ref f3)=true)(a4:W.findIn K (.ref C) "take_out"=some (some (.ref f4)))(i4:W.isFn K (.ref f4)=true)(l4:K.lookup f4=some ⟨oc4,od4,.func (W.fnOf "take_out" "Book.take_out" (cX iV) (cM iV) (aH iV) .none D I pm4 an4 N7 J),sl4⟩)(c4:W.codeIn K N7 "Book.take_out"=true)(k4:W.keepIn K (.ref f4)=true)(pg:W.plainGet K C Str.empty=true)(hd:W.hasDictIn K C=true)(po:W.plainOver K C=true)(sa:W.findIn K (.ref C) "__setattr__"=some (some (.builtin "object.__setattr__")))(mk:W.makesIn K C=true)(kc:W.keepIn K (.ref C)=true)(wY:W.findIn K (.ref C) "held"=some none):∃C f0 f1 f2 f3 f4 d8 dM fd2 lK lM,Dy K mg C f0 f1 f2 f3 f4 d8 dM fd2 lK lM:=by let F0:=fO (st:=mq) l0 c0 k0;let F1:=fO (st:=nP) l1 c1 k1;let F2:=fO (st:=kI) l2 c2 k2;let F3:=fO (st:=mz) l3 c3 k3;let F4:=fO (st:=iV) l4 c4 k4;show JS C f0 f1 f2 f3 f4 _ _ ⟨_,_,_,⟨⟨pg,hd,po,sa⟩,wY⟩,c8 X G aC,⟨mk,a0,i0,kc⟩,F0,F0.binds (ps:=["self","words"]) (λ_ _ _ _ _ _ us hl=>L2.e2 (λ_ _=>rfl) us hl),F1,F1.binds (ps:=["self","text"]) (λ_ _ _ _ _ _ us hl=>L2.e2 (λ_ _=>rfl) us hl),⟨a1,i1,k1⟩,F2,F2.binds (ps:=["self"]) (λ_ _ _ _ _ _ us hl=>L2.e1 (λ_=>rfl) us hl),⟨a2,i2,k2⟩,F3,F3.binds (ps:=["self"]) (λ_ _ _ _ _ _ us hl=>L2.e1 (λ_=>rfl) us hl),⟨a3,i3,k3⟩,F4,F4.binds (ps:=["self","word"]) (λ_ _ _ _ _ _ us hl=>L2.e2 (λ_ _=>rfl) us hl),⟨a4,i4,k4⟩⟩
structure Ak (K:W.Frag)(mg:Str->Option Value)(C f0:Addr)(d8:FuncData):Prop where
 T:acY K C
 uL:mg "Stand"=some (.ref C)
 M:Mk K C f0
 F0:d7 K "__init__" "Stand.__init__" kE f0 d8
 b0:bK K d8 ["self","board","racks","bag","points"] []
def ac0 {h:Heap}{C f0:Addr}(X:K.In h)(G:h.Ns mainGlobals mg){Z I:Option Addr}{Y:Array (Option Value)}{O S5 j F D J:Value}(aC:W.nsIn K mainGlobals "Stand"=some (some (.ref C)))(a0:W.findIn K (.ref C) "__init__"=some (some (.ref f0)))(i0:W.isFn K (.ref f0)=true)(l0:K.lookup f0=some ⟨O,Z,.func (W.fnOf "__init__" "Stand.__init__" (cX kE) (cM kE) (aH kE) .none S5 j F I D J),Y⟩)(c0:W.codeIn K D "Stand.__init__"=true)(k0:W.keepIn K (.ref f0)=true)(pg:W.plainGet K C Str.empty=true)(hd:W.hasDictIn K C=true)(po:W.plainOver K C=true)(sa:W.findIn K (.ref C) "__setattr__"=some (some (.builtin "object.__setattr__")))(mk:W.makesIn K C=true)(kc:W.keepIn K (.ref C)=true)(wY:W.findIn K (.ref C) "board"=some none)(Dv:W.findIn K (.ref C) "racks"=some none)(Dw:W.findIn K (.ref C) "bag"=some none)(S9:W.findIn K (.ref C) "points"=some none):∃C f0 d8,Ak K mg C f0 d8:=by let F0:=fO (st:=kE) l0 c0 k0;show JE C f0 _ ⟨⟨⟨pg,hd,po,sa⟩,wY,Dv,Dw,S9⟩,c8 X G aC,⟨mk,a0,i0,kc⟩,F0,F0.binds (ps:=["self","board","racks","bag","points"]) (λ_ _ _ _ _ _ us hl=>L2.e5 (λ_ _ _ _ _=>rfl) us hl)⟩
structure Dz (K:W.Frag)(mg:Str->Option Value)(C f0 f1 f2 f3 f4 f5 f6 f7:Addr)(d8 dM fd2 lK lM J5 Cd WW:FuncData):Prop where
 T:afg K C
 uL:mg "Game"=some (.ref C)
 M:Mk K C f0
 F0:d7 K "__init__" "Game.__init__" lZ f0 d8
 b0:bK K d8 ["self","board","book","worths","bonus","size","racks","bag"] []
 F1:d7 K "do" "Game.do" oV f1 dM
 b1:bK K dM ["self","deed"] []
 m1:Meth K C "do" f1
 F2:d7 K "board_now" "Game.board_now" iB f2 fd2
 b2:bK K fd2 ["self"] []
 m2:Meth K C "board_now" f2
 F3:d7 K "racks_now" "Game.racks_now" iC f3 lK
 b3:bK K lK ["self"] []
 m3:Meth K C "racks_now" f3
 F4:d7 K "bag_now" "Game.bag_now" ju f4 lM
 b4:bK K lM ["self"] []
 m4:Meth K C "bag_now" f4
 F5:d7 K "points_now" "Game.points_now" gW f5 J5
 b5:bK K J5 ["self"] []
 m5:Meth K C "points_now" f5
 F6:d7 K "turn" "Game.turn" mj f6 Cd
 b6:bK K Cd ["self"] []
 m6:Meth K C "turn" f6
 F7:d7 K "is_over" "Game.is_over" jw f7 WW
 b7:bK K WW ["self"] []
 m7:Meth K C "is_over" f7
def afi {h:Heap}{C f0 f1 f2 f3 f4 f5 f6 f7:Addr}(X:K.In h)(G:h.Ns mainGlobals mg){SN SQ od1 I od2 an2 od3 an3 od4 an4 od5 an5 od6 an6 od7 an7:Option Addr}{Ng sl1 sl2 Jg sl4 sl5 sl6 sl7:Array (Option Value)}{SX S5 S6 S7 Du S8 oc1 kV1 dc1 pm1 NZ ct1 oc2 O dc2 pm2 N5 ct2 oc3 kV3 dc3 pm3 N6 ct3 oc4 J Y pm4 N7 Z oc5 kV5 dc5 pm5 j ct5 oc6 kV6 dc6 pm6 D ct6 oc7 kV7 dc7 pm7 F ct7:Value}(aC:W.nsIn K mainGlobals "Game"=some (some (.ref C)))(a0:W.findIn K (.ref C) "__init__"=some (some (.ref f0)))(i0:W.isFn K (.ref f0)=true)(l0:K.lookup f0=some ⟨SX,SN,.func (W.fnOf "__init__" "Game.__init__" (cX lZ) (cM lZ) (aH lZ) .none S5 S6 S7 SQ Du S8),Ng⟩)(c0:W.codeIn K Du "Game.__init__"=true)(k0:W.keepIn K (.ref f0)=true)(a1:W.findIn K (.ref C) "do"=some (some (.ref f1)))(i1:W.isFn K (.ref f1)=true)(l1:K.lookup f1=some ⟨oc1,od1,.func (W.fnOf "do" "Game.do" (cX oV) (cM oV) (aH oV) .none kV1 dc1 pm1 I NZ ct1),sl1⟩)(c1:W.codeIn K NZ "Game.do"=true)(k1:W.keepIn K (.ref f1)=true)(a2:W.findIn K (.ref C) "board_now"=some (some (.ref f2)))(i2:W.isFn K (.ref f2)=true)(l2:K.lookup f2=some ⟨oc2,od2,.func (W.fnOf "board_now" "Game.board_now" (cX iB) (cM iB) (aH iB) .none O dc2 pm2 an2 N5 ct2),sl2⟩)(c2:W.codeIn K N5 "Game.board_now"=true)(k2:W.keepIn K (.ref f2)=true)(a3:W.findIn K (.ref C) "racks_now"=some (some (.ref f3)))(i3:W.isFn K (.ref f3)=true)(l3:K.lookup f3=some ⟨oc3,od3,.func (W.fnOf "racks_now" "Game.racks_now" (cX iC) (cM iC) (aH iC) .none kV3 dc3 pm3 an3 N6 ct3),Jg⟩)(c3:W.codeIn K N6 "Game.racks_now"=true)(k3:W.keepIn K (.ref f3)=true)(a4:W.findIn K (.ref C) "bag_now"=some (some (.ref f4)))(i4:W.isFn K (.ref f4)=true)(l4:K.lookup f4=some ⟨oc4,od4,.func (W.fnOf "bag_now" "Game.bag_now" (cX ju) (cM ju) (aH ju) .none J Y pm4 an4 N7 Z),sl4⟩)(c4:W.codeIn K N7 "Game.bag_now"=true)(k4:W.keepIn K (.ref f4)=true)(a5:W.findIn K (.ref C) "points_now"=some (some (.ref f5)))(i5:W.isFn K (.ref f5)=true)(l5:K.lookup f5=some ⟨oc5,od5,.func (W.fnOf "points_now" "Game.points_now" (cX gW) (cM gW) (aH gW) .none kV5 dc5 pm5 an5 j ct5),sl5⟩)(c5:W.codeIn K j "Game.points_now"=true)(k5:W.keepIn K (.ref f5)=true)(a6:W.findIn K (.ref C) "turn"=some (some (.ref f6)))(i6:W.isFn K (.ref f6)=true)(l6:K.lookup f6=some ⟨oc6,od6,.func (W.fnOf "turn" "Game.turn" (cX mj) (cM mj) (aH mj) .none kV6 dc6 pm6 an6 D ct6),sl6⟩)(c6:W.codeIn K D "Game.turn"=true)(k6:W.keepIn K (.ref f6)=true)(a7:W.findIn K (.ref C) "is_over"=some (some (.ref f7)))(i7:W.isFn K (.ref f7)=true)(l7:K.lookup f7=some ⟨oc7,od7,.func (W.fnOf "is_over" "Game.is_over" (cX jw) (cM jw) (aH jw) .none kV7 dc7 pm7 an7 F ct7),sl7⟩)(c7:W.codeIn K F "Game.is_over"=true)(k7:W.keepIn K (.ref f7)=true)(pg:W.plainGet K C Str.empty=true)(hd:W.hasDictIn K C=true)(po:W.plainOver K C=true)(sa:W.findIn K (.ref C) "__setattr__"=some (some (.builtin "object.__setattr__")))(mk:W.makesIn K C=true)(kc:W.keepIn K (.ref C)=true)(wY:W.findIn K (.ref C) "book"=some none)(Dv:W.findIn K (.ref C) "worths"=some none)(Dw:W.findIn K (.ref C) "bonus"=some none)(S9:W.findIn K (.ref C) "size"=some none)(nf4:W.findIn K (.ref C) "stands"=some none)(nf5:W.findIn K (.ref C) "done"=some none):∃C f0 f1 f2 f3 f4 f5 f6 f7 d8 dM fd2 lK lM J5 Cd WW,Dz K mg C f0 f1 f2 f3 f4 f5 f6 f7 d8 dM fd2 lK lM J5 Cd WW:=by let F0:=fO (st:=lZ) l0 c0 k0;let F1:=fO (st:=oV) l1 c1 k1;let F2:=fO (st:=iB) l2 c2 k2;let F3:=fO (st:=iC) l3 c3 k3;let F4:=fO (st:=ju) l4 c4 k4;let F5:=fO (st:=gW) l5 c5 k5;let F6:=fO (st:=mj) l6 c6 k6;let F7:=fO (st:=jw) l7 c7 k7;show JS C f0 f1 f2 f3 f4 f5 f6 ⟨f7,_,_,_,_,_,_,_,_,⟨⟨pg,hd,po,sa⟩,wY,Dv,Dw,S9,nf4,nf5⟩,c8 X G aC,⟨mk,a0,i0,kc⟩,F0,F0.binds (ps:=["self","board","book","worths","bonus","size","racks","bag"]) (λ_ _ _ _ _ _ us hl=>L2.e8 (λ_ _ _ _ _ _ _ _=>rfl) us hl),F1,F1.binds (ps:=["self","deed"]) (λ_ _ _ _ _ _ us hl=>L2.e2 (λ_ _=>rfl) us hl),⟨a1,i1,k1⟩,F2,F2.binds (ps:=["self"]) (λ_ _ _ _ _ _ us hl=>L2.e1 (λ_=>rfl) us hl),⟨a2,i2,k2⟩,F3,F3.binds (ps:=["self"]) (λ_ _ _ _ _ _ us hl=>L2.e1 (λ_=>rfl) us hl),⟨a3,i3,k3⟩,F4,F4.binds (ps:=["self"]) (λ_ _ _ _ _ _ us hl=>L2.e1 (λ_=>rfl) us hl),⟨a4,i4,k4⟩,F5,F5.binds (ps:=["self"]) (λ_ _ _ _ _ _ us hl=>L2.e1 (λ_=>rfl) us hl),⟨a5,i5,k5⟩,F6,F6.binds (ps:=["self"]) (λ_ _ _ _ _ _ us hl=>L2.e1 (λ_=>rfl) us hl),⟨a6,i6,k6⟩,F7,F7.binds (ps:=["self"]) (λ_ _ _ _ _ _ us hl=>L2.e1 (λ_=>rfl) us hl),⟨a7,i7,k7⟩⟩
structure ac1 (K:W.Frag)(mg:Str->Option Value)(gk dO gP gq jz cT dB CR iY mL fX gZ:Addr)(oZ uT lN nq:FuncData):Prop where
 YD:mg "NoLaying"=some (.ref gk)
 ajY:mg "Taken"=some (.ref dO)
 aa_:mg "Crooked"=some (.ref gP)
 ajZ:mg "Gap"=some (.ref gq)
 afj:mg "Apart"=some (.ref jz)
 ai0:mg "Lacking"=some (.ref cT)
 ajX:mg "NoWord"=some (.ref dB)
 mR:mg "RackError"=some (.ref CR)
 I:InitOf K CR
 rZ:W.excIn K gk j5 "ValueError.__new__"=true
 uU:W.excIn K gP j5 "ValueError.__new__"=true
 zP:W.excIn K jz j5 "ValueError.__new__"=true
 Fx:pR K mg "Taken" dO iY ["row","column"]
 Fy:d7 K "__init__" "Taken.__init__" j_ iY oZ
 K4:bK K oZ ["self","row","column"] []
 Pr:pR K mg "Gap" gq mL ["row","column"]
 Pu:d7 K "__init__" "Gap.__init__" nG mL uT
 X_:bK K uT ["self","row","column"] []
 yu:pR K mg "Lacking" cT fX ["tile"]
 yw:d7 K "__init__" "Lacking.__init__" jo fX lN
 Dm:bK K lN ["self","tile"] []
 Al:pR K mg "NoWord" dB gZ ["word"]
 Am:d7 K "__init__" "NoWord.__init__" jW gZ nq
 Ai:bK K nq ["self","word"] []
 M:Pn K CR ⟨gk,dO,gP,gq,jz,cT,dB⟩
def afk {h:Heap}{gk dO gP gq jz cT dB CR iY mL fX gZ:Addr}(X:K.In h)(G:h.Ns mainGlobals mg){Z ac3 J ahR YF YG abb abd:Option Addr}{ac4 ahS YH abe:Array (Option Value)}{F O ac7 I S_ ac9 Y ahU ahV ahW D ahX YJ YK YL YM J_ YQ abg abh abj abk N8 abl:Value}(Ao:W.nsIn K mainGlobals "NoLaying"=some (some (.ref gk)))(Fz:W.nsIn K mainGlobals "Taken"=some (some (.ref dO)))(DG:W.nsIn K mainGlobals "Crooked"=some (some (.ref gP)))(Px:W.nsIn K mainGlobals "Gap"=some (some (.ref gq)))(Ls:W.nsIn K mainGlobals "Apart"=some (some (.ref jz)))(yx:W.nsIn K mainGlobals "Lacking"=some (some (.ref cT)))(Aq:W.nsIn K mainGlobals "NoWord"=some (some (.ref dB)))(aR:W.nsIn K mainGlobals "RackError"=some (some (.ref CR)))(rZ:W.excIn K gk j5 "ValueError.__new__"=true)(uU:W.excIn K gP j5 "ValueError.__new__"=true)(zP:W.excIn K jz j5 "ValueError.__new__"=true)(Lw:W.exmOne K (.ref dO) (.ref CR)=some true)(DK:W.exmOne K (.ref gP) (.ref CR)=some true)(YS:W.exmOne K (.ref gq) (.ref CR)=some true)(Lx:W.exmOne K (.ref jz) (.ref CR)=some true)(DN:W.exmOne K (.ref cT) (.ref CR)=some true)(Hu:W.exmOne K (.ref dB) (.ref CR)=some true)(Tc:W.findIn K (.ref dO) "__init__"=some (some (.ref iY)))(Hv:W.isFn K (.ref iY)=true)(Hw:K.lookup iY=some ⟨F,Z,.func (W.fnOf "__init__" "Taken.__init__" (cX j_) (cM j_) (aH j_) .none O ac7 I ac3 S_ ac9),ac4⟩)(Hx:W.codeIn K S_ "Taken.__init__"=true)(Hy:W.keepIn K (.ref iY)=true)(DP:xK K dO iY=true)(Hz:W.keepIn K (.ref dO)=true)(HN:((W.clsIn K dO).any λcd=>cd.hasDict&&tH cd.mro)=true)(HS:W.findIn K (.ref dO) "__setattr__"=some (some (.builtin "object.__setattr__")))(HW:W.hasDictIn K dO=true)(yN:W.findIn K (.ref dO) "row"=some none)(tX:W.findIn K (.ref dO) "column"=some none)(abm:W.findIn K (.ref gq) "__init__"=some (some (.ref mL)))(Td:W.isFn K (.ref mL)=true)(Tf:K.lookup mL=some ⟨Y,J,.func (W.fnOf "__init__" "Gap.__init__" (cX nG) (cM nG) (aH nG) .none ahU ahV ahW ahR D ahX),ahS⟩)(Tg:W.codeIn K D "Gap.__init__"=true)(Ti:W.keepIn K (.ref mL)=true)(Ly:xK K gq mL=true)(Tj:W.keepIn K (.ref gq)=true)(Tn:((W.clsIn K gq).any λcd=>cd.hasDict&&tH cd.mro)=true)(Tp:W.findIn K (.ref gq) "__setattr__"=some (some (.builtin "object.__setattr__")))(Tq:W.hasDictIn K gq=true)(DQ:W.findIn K (.ref gq) "row"=some none)(wZ:W.findIn K (.ref gq) "column"=some none)(Ka:W.findIn K (.ref cT) "__init__"=some (some (.ref fX)))(Av:W.isFn K (.ref fX)=true)(Aw:K.lookup fX=some ⟨YJ,YF,.func (W.fnOf "__init__" "Lacking.__init__" (cX jo) (cM jo) (aH jo) .none YK YL YM YG J_ YQ),YH⟩)(Ax:W.codeIn K J_ "Lacking.__init__"=true)(Ay:W.keepIn K (.ref fX)=true)(yO:xK K cT fX=true)(Az:W.keepIn K (.ref cT)=true)(A_:((W.clsIn K cT).any λcd=>cd.hasDict&&tH cd.mro)=true)(Ba:W.findIn K (.ref cT) "__setattr__"=some (some (.builtin "object.__setattr__")))(Bb:W.hasDictIn K cT=true)(tY:W.findIn K (.ref cT) "tile"=some none)(N_:W.findIn K (.ref dB) "__init__"=some (some (.ref gZ)))(DR:W.isFn K (.ref gZ)=true)(DW:K.lookup gZ=some ⟨abg,abb,.func (W.fnOf "__init__" "NoWord.__init__" (cX jW) (cM jW) (aH jW) .none abh abj abk abd N8 abl),abe⟩)(DX:W.codeIn K N8 "NoWord.__init__"=true)(DY:W.keepIn K (.ref gZ)=true)(Bc:xK K dB gZ=true)(D_:W.keepIn K (.ref dB)=true)(Ea:((W.clsIn K dB).any λcd=>cd.hasDict&&tH cd.mro)=true)(Eb:W.findIn K (.ref dB) "__setattr__"=some (some (.builtin "object.__setattr__")))(Ec:W.hasDictIn K dB=true)(uX:W.findIn K (.ref dB) "word"=some none)(hn:W.specialIn K (.builtin "object.__class__") "__get__"=some (some (.builtin "getset_descriptor.__get__")))(ht:W.takesIn K (.builtin "object.__class__")=some true)(HX:(W.clsIn K dO).isSome=true)(HY:W.findIn K (.ref dO) "__getattribute__"=some (some (.builtin "BaseException.__getattribute__")))(H_:W.findIn K (.ref dO) "__getattr__"=some none)(Ia:W.findIn K (.ref dO) "__class__"=some (some (.builtin "object.__class__")))(Bf:W.mroIn K dO (.type "object")=some true)(Ib:W.mroIn K dO (.type "BaseException")=some true)(Tr:(W.clsIn K gq).isSome=true)(Tt:W.findIn K (.ref gq) "__getattribute__"=some (some (.builtin "BaseException.__getattribute__")))(Tv:W.findIn K (.ref gq) "__getattr__"=some none)(Tw:W.findIn K (.ref gq) "__class__"=some (some (.builtin "object.__class__")))(Kc:W.mroIn K gq (.type "object")=some true)(Tz:W.mroIn K gq (.type "BaseException")=some true)(Bg:(W.clsIn K cT).isSome=true)(Bh:W.findIn K (.ref cT) "__getattribute__"=some (some (.builtin "BaseException.__getattribute__")))(Bj:W.findIn K (.ref cT) "__getattr__"=some none)(Bk:W.findIn K (.ref cT) "__class__"=some (some (.builtin "object.__class__")))(vP:W.mroIn K cT (.type "object")=some true)(Bl:W.mroIn K cT (.type "BaseException")=some true)(Ed:(W.clsIn K dB).isSome=true)(Ef:W.findIn K (.ref dB) "__getattribute__"=some (some (.builtin "BaseException.__getattribute__")))(Eh:W.findIn K (.ref dB) "__getattr__"=some none)(Ei:W.findIn K (.ref dB) "__class__"=some (some (.builtin "object.__class__")))(yC:W.mroIn K dB (.type "object")=some true)(Ej:W.mroIn K dB (.type "BaseException")=some true)(g2:W.specialIn K (.ref CR) "__getattribute__"=some (some (.builtin "type.__getattribute__")))(rd:W.readsIn K CR (.type "type")=true)(fc:W.findCls K (.ref CR) (.type "type") "__init__"=some (.val (.builtin "ValueError.__init__")))
  : ∃gk dO gP gq jz cT dB CR iY mL fX gZ oZ uT lN nq,ac1 K mg gk dO gP gq jz cT dB CR iY mL fX gZ oZ uT lN nq:=by
 let Fy:=fO (st:=j_) Hw Hx Hy;let Pu:=fO (st:=nG) Tf Tg Ti;let yw:=fO (st:=jo) Aw Ax Ay;let Am:=fO (st:=jW) DW DX DY;let Fx:pR K mg "Taken" dO iY ["row","column"]:=⟨c8 X G Fz,⟨DP,Hv,Hz⟩,⟨HN,Bf,HS⟩,⟨HX,HY,H_,Ia,hn,ht,Bf,Ib⟩,HW,λg j=>by
  rcases bq.mp j with z|z;.rw[z];show yN
  .rw[a_.mp z];show tX⟩
 let Pr:pR K mg "Gap" gq mL ["row","column"]:=⟨c8 X G Px,⟨Ly,Td,Tj⟩,⟨Tn,Kc,Tp⟩,⟨Tr,Tt,Tv,Tw,hn,ht,Kc,Tz⟩,Tq,λg j=>by
  rcases bq.mp j with z|z;.rw[z];show DQ
  .rw[a_.mp z];show wZ⟩
 let yu:pR K mg "Lacking" cT fX ["tile"]:=⟨c8 X G yx,⟨yO,Av,Az⟩,⟨A_,vP,Ba⟩,⟨Bg,Bh,Bj,Bk,hn,ht,vP,Bl⟩,Bb,λg j=>by rw[a_.mp j];show tY⟩
 let Al:pR K mg "NoWord" dB gZ ["word"]:=⟨c8 X G Aq,⟨Bc,DR,D_⟩,⟨Ea,yC,Eb⟩,⟨Ed,Ef,Eh,Ei,hn,ht,yC,Ej⟩,Ec,λg j=>by rw[a_.mp j];show uX⟩
 show JS gk dO gP gq jz cT dB CR ⟨iY,mL,fX,gZ,_,_,_,_,⟨c8 X G Ao,c8 X G Fz,c8 X G DG,c8 X G Px,c8 X G Ls,c8 X G yx,c8 X G Aq,c8 X G aR,⟨g2,rd,fc⟩,rZ,uU,zP,Fx,Fy,Fy.binds (ps:=["self","row","column"]) (λ_ _ _ _ _ _ us hl=>L2.e3 (λ_ _ _=>rfl) us hl),Pr,Pu,Pu.binds (ps:=["self","row","column"]) (λ_ _ _ _ _ _ us hl=>L2.e3 (λ_ _ _=>rfl) us hl),yu,yw,yw.binds (ps:=["self","tile"]) (λ_ _ _ _ _ _ us hl=>L2.e2 (λ_ _=>rfl) us hl),Al,Am,Am.binds (ps:=["self","word"]) (λ_ _ _ _ _ _ us hl=>L2.e2 (λ_ _=>rfl) us hl),⟨Lw,DK,YS,Lx,DN,Hu⟩⟩⟩
def afl (G:mg "len"=none)(fQ:mg "range"=none)(J:mg "tuple"=none)(iy:mg "list"=none)(uR:mg "dict"=none)(gY:mg "sorted"=none)(O:mg "isinstance"=none)(ji:mg "bool"=none)(jB:mg "int"=none)(pC:mg "str"=none)(Y:mg "all"=none)(yh:mg "any"=none)(yg:mg "zip"=none)(rY:mg "min"=none)(yj:mg "max"=none)(JR:mg "sum"=none)(qb:mg "enumerate"=none)(gb:∃t,mg "FREE"=some (.str (S [46]) t))(zF:∃t,mg "MARKS"=some (.str (S MK) t))(zB:∃t,mg "MOST"=some (.int 9 t))(oX:∃t,mg "MOST_TILES"=some (.int 7 t))(vQ:aM K mg "is_whole" rB ["thing"])(Ek:aM K mg "is_sign" xM ["thing"])(yP:aM K mg "letter_of" ud ["sign"])(El:aM K mg "tile_of" xO ["sign"])(Em:aM K mg "left_of" xP ["rack","signs"])(Bm:aM K mg "is_block" vH ["thing"])(Bo:aM K mg "are_rows" vI ["thing"])(yQ:aM K mg "are_marks" ug ["thing"])(su:aM K mg "is_cell_of" oU ["rows","row","column"])(uY:aM K mg "is_begin_of" qg ["rows","thing"])(Bp:aM K mg "is_board" vJ ["rows","marks","begin"])(uZ:aM K mg "column_text" qj ["rows","column"])(yR:aM K mg "is_triple" uh ["board","thing"])(yS:aM K mg "is_laying" um ["board","thing"])(Bq:aM K mg "cells_of" vK ["laying"])(uE:aM K mg "is_across" pY ["laying"])(En:aM K mg "is_down" xQ ["laying"])(o7:aM K mg "is_next_to_taken" lD ["board","row","column"])(Ie:aM K mg "formed" Ab ["board","laying"])(w5:aM K mg "check_free" rC ["board","laying"])(qH:aM K mg "check_straight" nJ ["laying"])(w6:aM K mg "check_gaps" rD ["board","laying"])(tZ:aM K mg "check_joined" pA ["board","laying"])(u9:aM K mg "check_words" qp ["board","book","laying"])(t_:aM K mg "check_laying" pB ["board","book","rack","laying"])(Br:aM K mg "worth_of" vL ["worths","sign"])(Eo:aM K mg "cell_in" xR ["word","place"])(u_:aM K mg "word_points" qu ["board","worths","laying","word"])(Bs:aM K mg "bonus_of" vM ["bonus","laying"])(yU:aM K mg "points_of" uo ["board","worths","bonus","laying"])(vf:aM K mg "left_behind" qw ["rack","laying"])(yV:aM K mg "are_tiles" uq ["thing"])(Ep:aM K mg "is_deed" xT ["thing"])(Bt:aM K mg "in_order" vN ["tiles"])(yW:aM K mg "exchanged" uw ["things","place","thing"])(sO:aM K mg "behind_laying" oJ ["stand","turn","size","laying","points"])(vg:aM K mg "behind_swap" qx ["stand","turn","tiles"])(Er:aM K mg "is_word" xU ["text"])(xq:aM K mg "check_word" rF ["text"])(Es:aM K mg "_law_cell_at" xV ["_law_script","_law_k"])(Ig:aM K mg "_law_stream" Ac ["_law_cell","_law_many"])(Et:aM K mg "_law_letters" xW ["_law_cell"])(Lz:aM K mg "_law_words" Fg ["_law_cell","_law_letters_here"])(TF:aM K mg "_law_rows" Jr ["_law_cell","_law_letters_here"])(LC:aM K mg "_law_tiles" Fi ["_law_cell","_law_letters_here","_law_many","_law_blanks"])(LK:aM K mg "_law_parts" Fj ["_law_script"])(LQ:aM K mg "_law_begun" Fl ["_law_parts_here"])(yX:aM K mg "_law_candidate" ux ["_law_rows_here","_law_word","_law_place","_law_rack"])(TJ:aM K mg "_law_lets" Js ["_law_board","_law_book","_law_rack","_law_laying_here"])(Ih:aM K mg "_law_laying" Ad ["_law_board","_law_book","_law_words_here","_law_rack","_law_cell"])(TQ:aM K mg "_law_deed" Jt ["_law_now","_law_book","_law_words_here","_law_cell"])(FJ:aM K mg "_law_taken" zy ["_law_rack","_law_tiles_here"])(TV:aM K mg "_law_next" Ju ["_law_now","_law_parts_here","_law_deed_here"])(Ii:aM K mg "_law_stands" Ae ["_law_game","_law_now"])(LR:aM K mg "_law_kinds" Fo ["_law_game"]){qR afm afn afo afp afq:Addr}{ac_ ada adb ade adf:FuncData}(Z:Aj K mg qR afm afn afo afp afq ac_ ada adb ade adf){Eu ahY ahZ ah0 ah1 ah2:Addr}{afr afs aft afu afv:FuncData}(D:Dy K mg Eu ahY ahZ ah0 ah1 ah2 afr afs aft afu afv){afw afx:Addr}{adg:FuncData}(I:Ak K mg afw afx adg){ah3 ah4 ah5 ah6 ah7 ah8 ah9 ah_ aia:Addr}{afy afz afA afB afC afD afE afF:FuncData}(j:Dz K mg ah3 ah4 ah5 ah6 ah7 ah8 ah9 ah_ aia afy afz afA afB afC afD afE afF){gl gw:Addr}{tb:Tok}(kl:mg "LETTER_MARKS"=some (.ref gl)/\∀P:Program,KDict P w K gl V5)(kw:mg "WORD_MARKS"=some (.ref gw)/\∀P:Program,KDict P w K gw V6)(zb:tb≠0/\mg "BLANK"=some (.str (S [63]) tb)){gk dO gP gq jz cT dB CR iY mL fX gZ:Addr}{oZ uT lN nq:FuncData}(R:ac1 K mg gk dO gP gq jz cT dB CR iY mL fX gZ oZ uT lN nq){f:Addr}{fd:FuncData}(F:d7 K "law" "law" Pa f fd):bW P w K mg base cW 20 f fd ["_law_script"] (O7 K):=by let p1:=XF (P:=P) (w:=w) (base:=base) Ek G pC O;let p2:=Ug (P:=P) (w:=w) (base:=base) vQ jB ji O;let p3:=Uh (P:=P) (w:=w) (base:=base) Bm G J pC Y O zB;let p4:=Ui Bo Y gb p3 p1;let p5:=QX yQ Y zF p3;let p6:=Oh su G p2;let p7:=KH uY G J O p6;let p8:=Uj Bp G p4 p5 p7;let p9:=KN (P:=P) (w:=w) (base:=base) uZ;let g0:=Oj Z.F0 Z.T p8;let g1:=aiM Z.F1 Z.T gb p6;let g2:=XS (P:=P) (w:=w) (base:=base) Z.F2 Z.T Y gb;let g3:=ahc Z.F3 Z.T G gb p9;let g4:=aeN Z.F4 Z.T iy J Z.uL Z.M g0 Z.b0;let w1:=Yb (P:=P) (w:=w) (base:=base) Er G Y;let w2:=Ou xq w1;let k0:=aeV D.F0 D.T w2;let k1:=ahh (P:=P) (w:=w) (mg:=mg) (base:=base) D.F1 D.T;let k2:=acy (P:=P) (w:=w) (base:=base) D.F2 D.T gY J;let k3:=ae2 D.F3 D.T D.uL D.M k0 D.b0 D.m2 k2 D.b2;let x4:=Q5 (P:=P) (w:=w) (base:=base) uE Y;let x5:=aau Ie G J Z.T Z.m4 g4 Z.b4 Z.m3 g3 Z.b3 x4;let y1:=Q8 (P:=P) (w:=w) (base:=base) vQ jB ji O;let y2:=KZ su G y1;let y3:=Q9 yR G J O Z.T y2 p1;let y4:=Uq (P:=P) (w:=w) (base:=base) Bq;let y5:=Ra yS G J O Y yg oX y3 y4;let e1:=aeP (P:=P) (w:=w) (base:=base) R.Fy R.mR R.I R.Fx;let e2:=ahe (P:=P) (w:=w) (base:=base) R.Pu R.mR R.I R.Pr;let e3:=Yd (P:=P) (w:=w) (base:=base) R.yw R.mR R.I R.yu;let e4:=aaE (P:=P) (w:=w) (base:=base) R.Am R.mR R.I R.Al;let z1:=Om (P:=P) (w:=w) (base:=base) uE Y;let z2:=X7 (P:=P) (w:=w) (base:=base) En Y;let z3:=Oo o7 yh gb Z.T Z.m1 g1 Z.b1;let z4:=Rc (P:=P) (w:=w) (base:=base) yP;let z5:=Yc (P:=P) (w:=w) (base:=base) El;let q1:=Oq w5 gb Z.T Z.m1 g1 Z.b1 R.Fx e1 R.K4;let q2:=FZ qH R.aa_ R.uU z1 z2;let q3:=Ot w6 fQ gb Z.T Z.m1 g1 Z.b1 Z.m4 g4 Z.b4 R.Pr e2 R.X_;let q4:=JH tZ yh Z.T Z.m2 g2 Z.b2 R.afj R.zP y4 z3;let q5:=Ye Em iy gY R.yu e3 R.Dm z5;let q6:=K_ u9 D.T D.m1 k1 D.b1 R.Al e4 R.Ai x5 z4;let q7:=JN (c:=⟨gk,dO,gP,gq,jz,cT,dB⟩) t_ R.YD R.rZ y5 q1 q2 q3 q4 q5 q6;let t1:=Yl (P:=P) (w:=w) (base:=base) Eo;let t2:=Uw (P:=P) (w:=w) (base:=base) Br;let t3:=aaH u_ qb Z.T kl.1 kw.1 (kl.2 P) (kw.2 P) y4 t1 t2;let t4:=Ux (P:=P) (w:=w) (base:=base) Bs G;let t5:=RD yU JR x5 t3 t4;let u1:=Uy (P:=P) (w:=w) (base:=base) Bt gY;let u2:=RL (P:=P) (w:=w) (base:=base) yW;let u3:=Lh vf q5;let u4:=RP (P:=P) (w:=w) (base:=base) yV O pC Y ⟨tb,zb.2⟩;let u5:=Yr Ep O J G u4;let s0:=Ox (P:=P) (w:=w) (mg:=mg) (base:=base) I.F0 I.T;let u6:=Hq sO yj G Z.T I.T I.uL I.M s0 I.b0 Z.m4 g4 Z.b4 u3 u1 u2;let u7:=Lk (C:=qR) vg G ⟨tb,zb⟩ I.T I.uL I.M s0 I.b0 q5 u1 u2;let a3:=RW (P:=P) (w:=w) (mg:=mg) (base:=base) (C:=qR) (CB:=Eu) j.F2 j.T I.T;let a4:=RX (P:=P) (w:=w) (mg:=mg) (base:=base) (C:=qR) (CB:=Eu) j.F3 j.T I.T;let a5:=Yt (P:=P) (w:=w) (mg:=mg) (base:=base) (C:=qR) (CB:=Eu) j.F4 j.T I.T;let a6:=OD (P:=P) (w:=w) (mg:=mg) (base:=base) (C:=qR) (CB:=Eu) j.F5 j.T I.T;let a7:=ae0 j.F6 j.T G j.m3 a4 j.b3;let a8:=Yu j.F7 j.T G j.m3 a4 j.b3 j.m4 a5 j.b4;let a1:=aiS j.F1 j.T I.T j.m7 a8 j.b7 j.m6 a7 j.b6 u5 q7 t5 u6 u7;let a0:=R4 (C:=qR) j.F0 j.T D.T uR J G D.m3 k3 D.b3 I.uL I.M s0 I.b0 u1;let k4:=U0 D.F4 D.T w2;let l1:=acF (P:=P) (w:=w) (base:=base) FJ iy;let l2:=aaP (P:=P) (w:=w) (base:=base) FJ iy;let l3:=ae3 TJ R.mR R.M q7;let l4:=aaR (P:=P) (w:=w) (base:=base) Ig fQ;let l5:=Yv (P:=P) (w:=w) (base:=base) Et fQ;let l6:=Lp Lz fQ G l4;let l7:=acG LC G l4;let l8:=ae5 TF fQ G J l4;let c1:=XJ (P:=P) (w:=w) (base:=base) Es G;let l9:=acK LK fQ G J rY Z.uL Z.M g0 Z.b0 c1 l5 l6 l8 l7;let la:=acM (P:=P) (w:=w) (base:=base) (C:=qR) LQ J gY G;let lb:=Sv (P:=P) (w:=w) (base:=base) yX G iy J jB;let lc:=aaX Ih G rY Z.T Z.m2 g2 Z.b2 l4 lb l3;let ld:=ae8 TQ G rY l4 lc;let le:=ae_ TV G iy gY jB yj Z.T Z.m4 g4 Z.b4 l1 l2 t5;let lf:=aa0 Ii G O ji Z.T j.T j.m2 a3 j.b2 j.m3 a4 j.b3 j.m4 a5 j.b4 j.m5 a6 j.b5 j.m7 a8 j.b7 j.m6 a7 j.b6;let lk:=acU LR O pC J jB ji yg Z.uL Z.T Z.I j.T j.m2 a3 j.b2 j.m3 a4 j.b3 j.m4 a5 j.b4 j.m5 a6 j.b5 j.m6 a7 j.b6;show ahE F uR O jB ji j.T D.T D.uL D.M k0 D.b0 D.m2 k2 D.b2 D.m4 k4 D.b4 j.uL j.M a0 j.b0 j.m1 a1 j.b1 l9 la ld le lf lk
end
end My
namespace PySem.W.Fast
abbrev U:=True
def tw14862088095069010528:=U
def tw3227719708268130019:=U
def tw2205822036988347676:=U
def tw796448891983873239:=U
def tw16513907597421069662:=U
def tw12504050666309274830:=U
def tw12969019250292809257:=U
def tw3398694670325535134:=U
def tw17172643867634787345:=U
def tw8329000232053589053:=U
def tw5501216786416613701:=U
def tw12336643323876716602:=U
def tw13325101197260655278:=U
def tw8968918644744649448:=U
def tw18406284702900887205:=U
def tw6154688548533246150:=U
def tw16854235235389424025:=U
def tw17959597273844540204:=U
def tw11483251244679646146:=U
def tw10430102866673141730:=U
def tw3454507336300292724:=U
def tw10405170537792238225:=U
def tw382188745408354517:=U
def tw1252593815236792956:=U
def tw9081386411376307987:=U
def tw6979451833517291702:=U
def tw9927038651552600242:=U
def tw6043109960400688239:=U
def tw2427186361478446361:=U
def tw2022557596824622845:=U
def tw16047605617352965002:=U
def tw223142076315964583:=U
def tw13911241390731893141:=U
def tw14286791395429609099:=U
def tw7790321934507623400:=U
def tw13307853305536637794:=U
def tw5226697822206878947:=U
def tw7467284861992040165:=U
def tw1603255910837472334:=U
def tw12882041259847825590:=U
def tw7145577329145950450:=U
def tw9618231770890421414:=U
def tw2310764403964798467:=U
def tw13509560705834834639:=U
def tw10860744093979065443:=U
def tw11929949197080214226:=U
def tw13271671408706242657:=U
def tw16884963204527827831:=U
def tw12241792969255460654:=U
def tw4888642859796322993:=U
def tw18047651619365582422:=U
def tw4780586551116696958:=U
def tw9774919574323364548:=U
def tw16844918683117588600:=U
def tw4011175752176821312:=U
def tw14876375967807188112:=U
def tw10292646827245942606:=U
def tw17798774425657997032:=U
def tw5578173320658562192:=U
def tw6114543652873100002:=U
def tw18004276687040415145:=U
def tw13042720939303408594:=U
def tw10066945383728590840:=U
def tw14144498142116032831:=U
def tw4092161481133431678:=U
def tw8194095623266277473:=U
def tw9100576607272843420:=U
def tw14232790932924609534:=U
def tw2856993817145773821:=U
def tw14694435506368868154:=U
def tw3743507780452345685:=U
def tw3672459200450392610:=U
def tw9233458227077037263:=U
def tw16744842469623106626:=U
def tw5374584365185443566:=U
def tw16162001083683816629:=U
def tw5416328107264582320:=U
def tw13089831045278942508:=U
def tw4767270821579246270:=U
def tw12818411033678485339:=U
def tw2458016521915315228:=U
def tw15187042914723568294:=U
def tw15798354661233137232:=U
def tw2052528242425416677:=U
def tw17865351389684358865:=U
def tw16074159908841601415:=U
def tw6207500290123942279:=U
def tw12752991124301177775:=U
def tw250880551580622793:=U
def tw5701897524704574569:=U
def tw14164949033859689243:=U
def tw8168489515190671109:=U
def tw4042483191653764333:=U
def tw2167433142908751874:=U
def tw13497884998219629084:=U
def tw11830939974720063361:=U
def tw10232323107364074450:=U
def tw8407795833781558882:=U
def tw11586717820871095916:=U
def tw16652237400634942088:=U
def tw14276785996437707963:=U
def tw4896468078439975827:=U
def tw9388195771456596445:=U
def tw9885573665997409441:=U
def tw13380317070819695247:=U
def tw17518700119638750031:=U
def tw3056620475118644697:=U
def tw7922327515370764000:=U
def tw10497121030283500577:=U
def tw8075704917272024744:=U
def tw2241199892973764410:=U
def tw17701256253260181315:=U
def tw13639233773119962852:=U
def tw9785999239252717995:=U
def tw155706803747437858:=U
def tw13365859664911680987:=U
def tw12334391550962841876:=U
def tw14656361768554413617:=U
def tw13062417544627463492:=U
def tw13546002007036547761:=U
def tw9454234635560453151:=U
def tw1120791613339015220:=U
def tw1767377569798728160:=U
def tw9037492607341685568:=U
def tw15802131219281174192:=U
def tw14028280779796145239:=U
def tw44255073978330448:=U
def tw8696620816783611048:=U
def tw6982098269862827554:=U
def tw268896016798304095:=U
def tw5268845901863346080:=U
def tw4253230651914477319:=U
def tw2059258539531123250:=U
def tw9306494459157247854:=U
def tw157697024331493331:=U
def tw7748504198992282499:=U
def tw6054870295235515931:=U
def tw2807079899438060031:=U
def tw4388936454873486088:=U
def tw7277197845794669360:=U
def tw2531886210222380326:=U
def tw11676445176013519183:=U
def tw16896988243227617884:=U
def tw7461058607666947240:=U
def tw3394241280702744179:=U
def tw17410567087301655368:=U
def tw14521659025618762054:=U
def tw17360852335737553614:=U
def tw12842122645620856737:=U
def tw597784149774331863:=U
def tw5125359098674706536:=U
def tw1726596877488113116:=U
def tw16357906109214207566:=U
def tw2396581313658694130:=U
def tw13181504559729923781:=U
def tw11031676659261644672:=U
def tw1833640958249359097:=U
def tw4275839982003711847:=U
def tw12955765284951785050:=U
def tw2093208195558477567:=U
def tw12098252359123144501:=U
def tw4052722163869638079:=U
def tw10191443998667937194:=U
def tw11838857539870584734:=U
def tw7937516040144214721:=U
def tw12126728940895418401:=U
def tw5458947736548978989:=U
def tw17035910354517221904:=U
def tw10726286929454495581:=U
def tw8843322809876809228:=U
def tw5025604878909248097:=U
def tw5869163372783733807:=U
def tw14199549050510739652:=U
def tw5922741073719691578:=U
def tw5414124863287057372:=U
def tw11499310907501113308:=U
def tw9770871720093101018:=U
def tw505336968247384766:=U
def tw8395933217829702565:=U
def tw1113269468925137057:=U
def tw5743472050935865292:=U
def tw2397461331026335530:=U
def tw17876777316671399083:=U
def tw1590807729828373774:=U
def tw7870633185090828562:=U
def tw6292532208158990617:=U
def tw12360078621631965105:=U
def tw4058862980894310174:=U
def tw9163590504767308008:=U
def tw15134783356158648940:=U
def tw8961196316955092872:=U
def tw678302132256040234:=U
def tw85969249839154272:=U
def tw13196194299208519664:=U
def tw14306158104915087355:=U
def tw3008382572990189111:=U
def tw1022078686196201578:=U
def tw2812565141548092830:=U
def tw11482283894388625183:=U
def tw12706665752842352109:=U
def tw11309330641257348439:=U
def tw5675638039290309969:=U
def tw11509938836634969020:=U
def tw18239872345388012075:=U
def tw8116646565989467485:=U
def tw1788647277124061621:=U
def tw9307853776051797099:=U
def tw12408411438325893051:=U
def tw7226988790705980273:=U
def tw6241467106282718899:=U
def tw1251772491520912856:=U
def tw16119114175636671943:=U
def tw2192604344834332265:=U
def tw7305167191486085240:=U
def tw1911371425797961158:=U
def tw10739972855196410240:=U
def tw10966169842176630083:=U
def tw213501382253329472:=U
def tw13538448998692889141:=U
def tw4729573641965947353:=U
def tw6136314673963436447:=U
def tw5427056358990674573:=U
def tw7314065903621656410:=U
def tw2878769211247734859:=U
def tw13145893864582565690:=U
def tw17819200708637134726:=U
def tw11840260734271257092:=U
def tw14376381242840173348:=U
def tw8546702302948894692:=U
def tw6230101562237555930:=U
def tw15617086952378813048:=U
def tw8619429530538652151:=U
def tw5145121985573955954:=U
def tw6295992149847576924:=U
def tw13783140397088211676:=U
def tw7924162057790653041:=U
def tw13523529881845980724:=U
def tw13884038665168629014:=U
def tw18196052075292070066:=U
def tw1711471974218969762:=U
def tw5308186410082711085:=U
def tw4831567913718463091:=U
def tw9436162234085695482:=U
def tw14049346531208766657:=U
def tw12670100488692200791:=U
def tw14029484073925783299:=U
def tw2521551076141897603:=U
def tw5786057545180148341:=U
def tw8825681133989144667:=U
def tw877232078842608638:=U
def tw2221814523676182849:=U
def tw2248358805959282859:=U
def tw8122827609096127504:=U
def tw238881517248168542:=U
def tw8513043888790611246:=U
def tw2329214521742182570:=U
def tw942367692396535439:=U
def tw7430770116283704134:=U
def tw2700461502608268216:=U
def tw13229089018377389491:=U
def tw10065733912240903345:=U
def tw6894517327915927595:=U
def tw14687046781108361818:=U
def tw14847063943211817737:=U
def tw4603046040151468967:=U
def tw261841988535012792:=U
def tw14602866660895236447:=U
def tw18390773244207699021:=U
def tw462104142781702151:=U
def tw16809110617701209957:=U
def tw5449708779721288227:=U
def tw7571900701490524075:=U
def tw12655194358919262640:=U
def tw5288735256470615205:=U
def tw2161569927617242518:=U
def tw17869076172129217654:=U
def tw14206763728590341488:=U
def tw1284782598811165912:=U
def tw11694568432957572695:=U
def tw10585678650620807207:=U
def tw7940662850262281552:=U
def tw17944980310398148203:=U
def tw1774677975183146931:=U
def tw14934273548966046064:=U
def tw12564885167466553686:=U
def tw8359068578802540379:=U
def tw16731835732474405927:=U
def tw18145045997922302350:=U
def tw6257951712466865459:=U
def tw9994936411646706245:=U
def tw11836652924079119009:=U
def tw8452530892505752247:=U
def tw3498352682994557709:=U
def tw17531317678178509815:=U
def tw2172406204056467573:=U
def tw13295039867662981871:=U
def tw8741497011640837486:=U
def tw453355140247187352:=U
def tw438609580061631232:=U
def tw11738681471867220887:=U
def tw1810795387198103231:=U
def tw15100035648844998818:=U
def tw8996481424750919596:=U
def tw6031246729353047139:=U
def tw9434085820176545923:=U
def tw12124930812802452821:=U
def tw7537918080455712593:=U
def tw5198700699350040177:=U
def tw16930037470350162790:=U
def tw17014097961319985069:=U
def tw4125907076587574767:=U
def tw2375890420288481979:=U
def tw11768158186361830802:=U
def tw15772804648122324085:=U
def tw3177406333823331281:=U
def tw2558765361628832077:=U
def tw7908867097700869756:=U
def tw7972372757283371668:=U
def tw14667053954856597825:=U
def tw11311525533150646343:=U
def tw14003727416621408649:=U
def tw6404365119659184125:=U
def tw5393459615537774017:=U
def tw11735371680545690496:=U
def tw17510053699938647735:=U
def tw13319548443513210155:=U
def tw6197100449361698635:=U
def tw16409395075249952477:=U
def tw6080861733396382052:=U
def tw1414671494341644144:=U
def tw1019557956566145102:=U
def tw15982680356522820829:=U
def tw15313864478862763958:=U
def tw10983810641974241036:=U
def tw14041917919316263232:=U
def tw17174349462929324240:=U
def tw9645972784079306163:=U
def tw11639623008841478580:=U
def tw10343952854605600236:=U
def tw2333142284475073938:=U
def tw10129704461741741951:=U
def tw12469413688708332068:=U
def tw5574595492133940617:=U
def tw7709652105163161217:=U
def tw12976316018114091780:=U
def tw2010596178531796411:=U
def tw2307599253094291541:=U
def tw10849995150370676012:=U
def tw5228952718072162254:=U
def tw17568983285172651416:=U
def tw16176535737561558613:=U
def tw558815206878414499:=U
def tw2139005222404917801:=U
def tw967354773035644062:=U
def tw9341779449930644088:=U
def tw8453819865760198675:=U
def tw7447164819780462906:=U
def tw13133410497017725711:=U
def tw1158675560062929823:=U
def tw12076182859053619657:=U
def tw11776610324240068910:=U
def tw18221209164178936157:=U
def tw5200361347645873327:=U
def tw4802570549135245943:=U
def tw17221987579957919462:=U
def tw14138329282421978474:=U
def tw17022309615492490623:=U
def tw8319080811587351172:=U
def tw5542648717315399160:=U
def tw4471211276498274041:=U
def tw7933856111108781016:=U
def tw18167437695914441704:=U
def tw14445928826860477097:=U
def tw12652247488352278141:=U
def tw9220304616203949671:=U
def tw15173922458474132120:=U
def tw12446576864504831683:=U
def tw10541851412174579601:=U
def tw5422391203211820588:=U
def tw17478636219215631039:=U
def tw4686877020154915391:=U
def tw9821546962552202197:=U
def tw8639778790497505554:=U
def tw517004369900084840:=U
def tw318740475002527478:=U
def tw13466378449741015553:=U
def tw8832429314380509696:=U
def tw5213342695927212861:=U
def tw3580605994895495072:=U
def tw15869861552027277681:=U
def tw13973922951375474658:=U
def tw13625171787520126874:=U
def tw12291096079769767733:=U
def tw5603475834978430635:=U
def tw11798770666237198215:=U
def tw16100004491509170326:=U
def tw12661760509706487457:=U
def tw10382458800903909078:=U
def tw8624750053088710597:=U
def tw11963969619170608449:=U
def tw11752449694045654275:=U
def tw13107765158305937530:=U
def tw45245928330897769:=U
def tw16229423446949825948:=U
def tw7128485391491403839:=U
def tw14733941151139113769:=U
def tw10839670877587959378:=U
def tw3054023649323202972:=U
def tw18034055122978446764:=U
def tw15497304149535407580:=U
def tw7309097733232728512:=U
def tw2643105707950950518:=U
def tw1936674526597293116:=U
def tw16778268806691766426:=U
def tw17681712366611149756:=U
def tw9901629924688279019:=U
def tw6713008386845325867:=U
def tw2253930672700317177:=U
def tw4356892495696933895:=U
def tw1380603133071624702:=U
def tw16476006400462032965:=U
def tw7275000720707728806:=U
def tw8813146241692148042:=U
def tw14745273503419018826:=U
def tw4380283047055866586:=U
def tw12187580641921204605:=U
def tw229852250610297076:=U
def tw9847013760578662564:=U
def tw367773178076646476:=U
def tw11819547184366716227:=U
def tw17160285422451731915:=U
def tw15419403298622665021:=U
def tw9775232670841792698:=U
def tw7502898875802869286:=U
def tw4795763718676224826:=U
def tw14152463166581866089:=U
def tw12056323728432728878:=U
def tw12507918526615145917:=U
def tw14958789921951361263:=U
def tw13244007884813833589:=U
def tw10981819499011773460:=U
def tw4562638261827509627:=U
def tw9419221128475441141:=U
def tw8118146522260340528:=U
def tw7048160327228805714:=U
def tw13431389570243965652:=U
def tw1759182018155202422:=U
def tw14905024556548879420:=U
def tw8562646577960343219:=U
def tw5129456079716699748:=U
def tw4433063195340142002:=U
def tw1498182953500207811:=U
def tw13495062535772961988:=U
def tw2252504315883636664:=U
def tw13300094770799708445:=U
def tw12154789441911171017:=U
def tw11742583687913798920:=U
def tw5892709592888763411:=U
def tw5253837763946261463:=U
def tw14068685132132294082:=U
def tw12037791147154373090:=U
def tw8025753514682050892:=U
def tw791359745075973886:=U
def tw7632246076164720462:=U
def tw6922221198596293271:=U
def tw584448346901986413:=U
def tw2448383402152678595:=U
def tw17639625839910446171:=U
def tw17527136952753487241:=U
def tw14220328282323300087:=U
def tw13813347925920026573:=U
def tw13581256524237505152:=U
def tw12858683019167566400:=U
def tw11632818710755190394:=U
def tw10507877834318429331:=U
def tw11917706837813524732:=U
def tw4687009891162064869:=U
def tw16624620014855747109:=U
def tw4543522778681897860:=U
def tw4248118054500729711:=U
def tw16066202492263175118:=U
def tw5094719449075011558:=U
def tw3742341246101017843:=U
def tw1812198115825867623:=U
def tw13585849112105415565:=U
def tw12530256510837113924:=U
def tw5220427050110986223:=U
def tw16620704262851051238:=U
def tw9710150889498240227:=U
def tw10937120604130766105:=U
def tw10586875788262707927:=U
def tw9235844263594014268:=U
def tw8056931924055276758:=U
def tw6985938076744056595:=U
def tw12439570288890850447:=U
def tw9933777002096104195:=U
def tw8685614808445088036:=U
def tw7821837779143604814:=U
def tw5674239215446138274:=U
def tw4034922722114868501:=U
def tw3368901812579679473:=U
def tw2959473157307235665:=U
def tw1870859922123225384:=U
def tw17118849996310977523:=U
def tw16193226128568911012:=U
def tw15712472654949803952:=U
def tw15030779804135113409:=U
def tw10510436663417336019:=U
def tw10322240982798403767:=U
def tw1024382113547539951:=U
def tw13940862622758641299:=U
def tw13225170929371191567:=U
def tw9931796696497859128:=U
def tw9701095899778836534:=U
def tw9669056280169615552:=U
def tw8554928606209337527:=U
def tw7960825807470121535:=U
def tw4999477366864837259:=U
def tw4569818881082876393:=U
def tw3880291189331602642:=U
def tw2572623820505548729:=U
def tw2052663458773290105:=U
def tw18073454523534097506:=U
def tw16228049331829005545:=U
def tw14418186083503080090:=U
def tw13548649739494119118:=U
def tw13186031853765082661:=U
def tw12593182711623350198:=U
def tw12257841716202288294:=U
def tw17869563859938251693:=U
def tw964337350887699604:=U
def tw8322991637661581060:=U
def tw8186183233410935017:=U
def tw7713404845179319973:=U
def tw5758838970399398826:=U
def tw4041914966011459150:=U
def tw2219415598675927734:=U
def tw17560850680867071591:=U
def tw17503164361797681296:=U
def tw1628519770849418759:=U
def tw15998901006171240198:=U
def tw15643902756843586947:=U
def tw15468969747260512618:=U
def tw133938396823962736:=U
def tw13382196431114667156:=U
def tw12375093141161424646:=U
def tw1043286859815579865:=U
def tw4527780023617535331:=U
def tw8396788683782435754:=U
def tw7413451094380547541:=U
def tw3408669298613116232:=U
def tw18249665885975834813:=U
def tw17463379464866811781:=U
def tw15486930261916245382:=U
def tw15347213691174425536:=U
def tw14426000475923012956:=U
def tw13546655208433765376:=U
def tw13113393745986685274:=U
def tw11667080942583307153:=U
def tw11275799253001714644:=U
def tw9798895674565021422:=U
def tw9592162281585484619:=U
def tw8721744779021616174:=U
def tw8715493014531085331:=U
def tw7538920640988759153:=U
def tw7232380916884322574:=U
def tw6351120162352903668:=U
def tw5762498953877142429:=U
def tw5517093380396641064:=U
def tw5462681890927266908:=U
def tw5314320254746336191:=U
def tw4041924953317238525:=U
def tw3277872113313381393:=U
def tw17212220167499391470:=U
def tw12761521180919264726:=U
def tw11036278453463191701:=U
def tw10299984952089867050:=U
def tw9584497152031319001:=U
def tw9549670033507613518:=U
def tw9331608930283990043:=U
def tw9225166750707145385:=U
def tw9193494447256840511:=U
def tw9020159386824490576:=U
def tw8838501517654779947:=U
def tw8706853144430402036:=U
def tw8542248426317726879:=U
def tw8461914985963361654:=U
def tw8457574131969003985:=U
def tw8366005456546111244:=U
def tw8177307362216220334:=U
def tw8060939570102089084:=U
def tw8002976895559052410:=U
def tw7915123812511239267:=U
def tw7873866046712498867:=U
def tw787239052385167634:=U
def tw7857623701887936580:=U
def tw780941046558805852:=U
def tw7733603549835858592:=U
def tw7709638711351407968:=U
def tw7554895451542283422:=U
def tw747447268259585277:=U
def tw733619186966372910:=U
def tw7237095162043266706:=U
def tw720184199080280558:=U
def tw7174332214750724358:=U
def tw7161330487568619433:=U
def tw7131747648050993980:=U
def tw7028163837680704821:=U
def tw6975245943942766667:=U
def tw6918949197771053839:=U
def tw6861746499464843789:=U
def tw6845690696397179588:=U
def tw6832916214391355459:=U
def tw671820160365220184:=U
def tw670397417210063359:=U
def tw6546785170587259179:=U
def tw649575228711505046:=U
def tw6417551409978812591:=U
def tw6321345075941794874:=U
def tw6264231809857939000:=U
def tw6105094255978842562:=U
def tw5981498539726309064:=U
def tw5884007034364935703:=U
def tw5845653237082539650:=U
def tw5756279419566685340:=U
def tw5742514467055019834:=U
def tw5454687021015453086:=U
def tw5344433403874880700:=U
def tw5235977175401229602:=U
def tw5220306754551860378:=U
def tw5113223531540747253:=U
def tw5088429593251767373:=U
def tw5023114559651810258:=U
def tw4870345705969716933:=U
def tw472835917232186554:=U
def tw4715788542876216626:=U
def tw4646372605451766476:=U
def tw458533111983695294:=U
def tw4565427921864991384:=U
def tw4500159003230604087:=U
def tw4462550815886719177:=U
def tw4415008431615283792:=U
def tw4344508947450082611:=U
def tw4196840586751680969:=U
def tw4192129130219627112:=U
def tw4096499601209481952:=U
def tw3955994481012159109:=U
def tw388586256034725828:=U
def tw3859020503960752975:=U
def tw3817619783841155480:=U
def tw3789506003008211004:=U
def tw3756655646670874552:=U
def tw3749564387363992808:=U
def tw3728035514485830501:=U
def tw3430255313058842832:=U
def tw3249546367883620406:=U
def tw31563282984931130:=U
def tw2882982844196870817:=U
def tw2829061390719727665:=U
def tw2786437334142276451:=U
def tw2766991811667392549:=U
def tw2709120750097337473:=U
def tw2664689553234441449:=U
def tw2640069564706151496:=U
def tw2399385474617733924:=U
def tw2354776728950463027:=U
def tw2014128406667058256:=U
def tw1835167696393441723:=U
def tw18303949562997463381:=U
def tw18238302989734996908:=U
def tw18067675473951457027:=U
def tw18025030602675301753:=U
def tw18022373852336054955:=U
def tw18015643038178081981:=U
def tw1800489092108159790:=U
def tw17995181319890527872:=U
def tw17923632497470586440:=U
def tw17875878173602262446:=U
def tw17847292583582202301:=U
def tw17833988177440656595:=U
def tw17788799601377824995:=U
def tw1774836113328017089:=U
def tw17715007601563316176:=U
def tw17685065489204105163:=U
def tw17434966075560074678:=U
def tw17311793986206720270:=U
def tw17237260565315376596:=U
def tw17198950703645344287:=U
def tw17131070690648816521:=U
def tw16972862792098316679:=U
def tw16937250648065099743:=U
def tw16888184780950184000:=U
def tw16871175371356335165:=U
def tw16828266900133461261:=U
def tw16777235878268014727:=U
def tw16755474175648234642:=U
def tw16677289959024539119:=U
def tw16482682233384817327:=U
def tw16472516674203756881:=U
def tw16181633130788791035:=U
def tw16167148473465842876:=U
def tw16135438177806470230:=U
def tw15687444892871675762:=U
def tw15660571516369371811:=U
def tw1561596271294653301:=U
def tw15524021917983190593:=U
def tw15214168720293921356:=U
def tw15112259848244750942:=U
def tw14997955181842779432:=U
def tw14691181057559453277:=U
def tw14562894638517736292:=U
def tw14554558378484005359:=U
def tw14502543193937351822:=U
def tw14356785031833173681:=U
def tw14157394492536349634:=U
def tw1409315684034098231:=U
def tw1408631151255120662:=U
def tw1402455193240841320:=U
def tw13410413247492650672:=U
def tw13313620401704898900:=U
def tw13293780374110819622:=U
def tw13259815087170467442:=U
def tw13236230325937014030:=U
def tw13034698974468913272:=U
def tw12993637135429621587:=U
def tw12835515962506779396:=U
def tw12710169966623286799:=U
def tw12694160219620751153:=U
def tw12672110807419423077:=U
def tw12600946988595338838:=U
def tw12547653694598898117:=U
def tw12491663425775450739:=U
def tw12234042127527757983:=U
def tw12163221252702580697:=U
def tw12060204224943895205:=U
def tw11960504052549253306:=U
def tw11917931131956024605:=U
def tw11801583528758999597:=U
def tw116805960185599996:=U
def tw11318846261576270174:=U
def tw1128625084379459923:=U
def tw11266274529907256099:=U
def tw11101772193133037031:=U
def tw11076127922229704625:=U
def tw10776890262448385996:=U
def tw10767283714206553607:=U
def tw10623495734638655728:=U
def tw10549753474409266647:=U
def tw10340789214615522829:=U
def tw10325972429862299407:=U
def tw1027397831052836033:=U
def tw1022486182279085193:=U
def tw10083690195495812767:=U
def tw10065331175726620601:=U
def tw10045089060824149584:=U
def tw10001098362928605910:=U
end PySem.W.Fast
open PySem PySem.W PyProof.Rows
def L2.dK {K:W.Frag}{h:Heap}{mg:Str->Option Value}{name:Str}{st:Stmt}{ps:List Str}{f:Addr}{oc:Value}{od an:Option Addr}{osl:Array (Option Value)}{kV doc pm bH ct:Value}(X:K.In h)(G:h.Ns mainGlobals mg)(a:W.nsIn K mainGlobals name=some (some (.ref f)):=by k_is)(l:K.lookup f=some ⟨oc,od,.func (W.fnOf name name (L2.cX st) (L2.cM st) (L2.aH st) .none kV doc pm an bH ct),osl⟩:=by k_is)(c:W.codeIn K bH name=true:=by k_is)(k:W.keepIn K (.ref f)=true:=by k_is)(hb:∀(kV doc pm:Value) (an:Option Addr) (bH ct:Value) (us:List Value),us.length=ps.length->bindArgs (W.fnOf name name (L2.cX st) (L2.cM st) (L2.aH st) .none kV doc pm an bH ct) ⟨us,[]⟩=pure (ps.zip us):=by intro _ _ _ _ _ _ us hl;first|show(L2.e1 (λ_=>rfl) us hl)|show(L2.e2 (λ_ _=>rfl) us hl)|show(L2.e3 (λ_ _ _=>rfl) us hl)|show(L2.e4 (λ_ _ _ _=>rfl) us hl)|show(L2.e5 (λ_ _ _ _ _=>rfl) us hl)):L2.aM (L2.KOf X) mg name st ps:=L2.abR X G a l c k hb
set_option maxRecDepth 100000 in
set_option maxHeartbeats 0 in
theorem PySem.Challenge.cw_letterrack_k60_deeds_done_holds : PySem.Challenge.rw_letterrack_k60_deeds_done.Holds := by
 w_on;o_law;k_head;(case hw=>w_witness2)
 k_fill
 refine L2.aem (x:="_law_script") (l:=PySem.Challenge.rw_letterrack_k60_deeds_done) rfl rfl (λw h Y=>W.kIn_of Y) ?F
 case F=>
  intro w mg fa h KX G hmg;have bB:mg "len"=none:=by
   refine' cK KX G ?z
   (case z=>k_is)
  have fQ:mg "range"=none:=by
   refine' cK KX G ?z
   (case z=>k_is)
  have cD:mg "tuple"=none:=by
   refine' cK KX G ?z
   (case z=>k_is)
  have iy:mg "list"=none:=by
   refine' cK KX G ?z
   (case z=>k_is)
  have uR:mg "dict"=none:=by
   refine' cK KX G ?z
   (case z=>k_is)
  have gY:mg "sorted"=none:=by
   refine' cK KX G ?z
   (case z=>k_is)
  have bh:mg "isinstance"=none:=by
   refine' cK KX G ?z
   (case z=>k_is)
  have ji:mg "bool"=none:=by
   refine' cK KX G ?z
   (case z=>k_is)
  have jB:mg "int"=none:=by
   refine' cK KX G ?z
   (case z=>k_is)
  have pC:mg "str"=none:=by
   refine' cK KX G ?z
   (case z=>k_is)
  have fH:mg "all"=none:=by
   refine' cK KX G ?z
   (case z=>k_is)
  have yh:mg "any"=none:=by
   refine' cK KX G ?z
   (case z=>k_is)
  have yg:mg "zip"=none:=by
   refine' cK KX G ?z
   (case z=>k_is)
  have rY:mg "min"=none:=by
   refine' cK KX G ?z
   (case z=>k_is)
  have yj:mg "max"=none:=by
   refine' cK KX G ?z
   (case z=>k_is)
  have JR:mg "sum"=none:=by
   refine' cK KX G ?z
   (case z=>k_is)
  have qb:mg "enumerate"=none:=by
   refine' cK KX G ?z
   (case z=>k_is)
  have gb:∃t,mg "FREE"=some (.str (L2.S [46]) t):=by
   refine' L2.Qo KX G ?z
   (case z=>k_is)
  have zF:∃t,mg "MARKS"=some (.str (L2.S My.MK) t):=by
   refine' L2.Qo KX G ?z
   (case z=>k_is)
  have zB:∃t,mg "MOST"=some (.int 9 t):=by
   refine' L2.Qp KX G ?z
   (case z=>k_is)
  have oX:∃t,mg "MOST_TILES"=some (.int 7 t):=by
   refine' L2.Qp KX G ?z
   (case z=>k_is)
  have vQ:L2.aM (L2.KOf KX) mg "is_whole" My.rB ["thing"]:=L2.dK KX G;have Ek:L2.aM (L2.KOf KX) mg "is_sign" My.xM ["thing"]:=L2.dK KX G;have yP:L2.aM (L2.KOf KX) mg "letter_of" My.ud ["sign"]:=L2.dK KX G;have El:L2.aM (L2.KOf KX) mg "tile_of" My.xO ["sign"]:=L2.dK KX G;have Em:L2.aM (L2.KOf KX) mg "left_of" My.xP ["rack","signs"]:=L2.dK KX G;have Bm:L2.aM (L2.KOf KX) mg "is_block" My.vH ["thing"]:=L2.dK KX G;have Bo:L2.aM (L2.KOf KX) mg "are_rows" My.vI ["thing"]:=L2.dK KX G;have yQ:L2.aM (L2.KOf KX) mg "are_marks" My.ug ["thing"]:=L2.dK KX G;have su:L2.aM (L2.KOf KX) mg "is_cell_of" My.oU ["rows","row","column"]:=L2.dK KX G;have uY:L2.aM (L2.KOf KX) mg "is_begin_of" My.qg ["rows","thing"]:=L2.dK KX G;have Bp:L2.aM (L2.KOf KX) mg "is_board" My.vJ ["rows","marks","begin"]:=L2.dK KX G;have uZ:L2.aM (L2.KOf KX) mg "column_text" My.qj ["rows","column"]:=L2.dK KX G;have yR:L2.aM (L2.KOf KX) mg "is_triple" My.uh ["board","thing"]:=L2.dK KX G;have yS:L2.aM (L2.KOf KX) mg "is_laying" My.um ["board","thing"]:=L2.dK KX G;have Bq:L2.aM (L2.KOf KX) mg "cells_of" My.vK ["laying"]:=L2.dK KX G;have uE:L2.aM (L2.KOf KX) mg "is_across" My.pY ["laying"]:=L2.dK KX G;have En:L2.aM (L2.KOf KX) mg "is_down" My.xQ ["laying"]:=L2.dK KX G;have o7:L2.aM (L2.KOf KX) mg "is_next_to_taken" My.lD ["board","row","column"]:=L2.dK KX G;have Ie:L2.aM (L2.KOf KX) mg "formed" My.Ab ["board","laying"]:=L2.dK KX G;have w5:L2.aM (L2.KOf KX) mg "check_free" My.rC ["board","laying"]:=L2.dK KX G;have qH:L2.aM (L2.KOf KX) mg "check_straight" My.nJ ["laying"]:=L2.dK KX G;have w6:L2.aM (L2.KOf KX) mg "check_gaps" My.rD ["board","laying"]:=L2.dK KX G;have tZ:L2.aM (L2.KOf KX) mg "check_joined" My.pA ["board","laying"]:=L2.dK KX G;have u9:L2.aM (L2.KOf KX) mg "check_words" My.qp ["board","book","laying"]:=L2.dK KX G;have t_:L2.aM (L2.KOf KX) mg "check_laying" My.pB ["board","book","rack","laying"]:=L2.dK KX G;have Br:L2.aM (L2.KOf KX) mg "worth_of" My.vL ["worths","sign"]:=L2.dK KX G;have Eo:L2.aM (L2.KOf KX) mg "cell_in" My.xR ["word","place"]:=L2.dK KX G;have u_:L2.aM (L2.KOf KX) mg "word_points" My.qu ["board","worths","laying","word"]:=L2.dK KX G;have Bs:L2.aM (L2.KOf KX) mg "bonus_of" My.vM ["bonus","laying"]:=L2.dK KX G;have yU:L2.aM (L2.KOf KX) mg "points_of" My.uo ["board","worths","bonus","laying"]:=L2.dK KX G;have vf:L2.aM (L2.KOf KX) mg "left_behind" My.qw ["rack","laying"]:=L2.dK KX G;have yV:L2.aM (L2.KOf KX) mg "are_tiles" My.uq ["thing"]:=L2.dK KX G;have Ep:L2.aM (L2.KOf KX) mg "is_deed" My.xT ["thing"]:=L2.dK KX G;have Bt:L2.aM (L2.KOf KX) mg "in_order" My.vN ["tiles"]:=L2.dK KX G;have yW:L2.aM (L2.KOf KX) mg "exchanged" My.uw ["things","place","thing"]:=L2.dK KX G;have sO:L2.aM (L2.KOf KX) mg "behind_laying" My.oJ ["stand","turn","size","laying","points"]:=L2.dK KX G;have vg:L2.aM (L2.KOf KX) mg "behind_swap" My.qx ["stand","turn","tiles"]:=L2.dK KX G;have Er:L2.aM (L2.KOf KX) mg "is_word" My.xU ["text"]:=L2.dK KX G;have xq:L2.aM (L2.KOf KX) mg "check_word" My.rF ["text"]:=L2.dK KX G;have Es:L2.aM (L2.KOf KX) mg "_law_cell_at" My.xV ["_law_script","_law_k"]:=L2.dK KX G;have Ig:L2.aM (L2.KOf KX) mg "_law_stream" My.Ac ["_law_cell","_law_many"]:=L2.dK KX G;have Et:L2.aM (L2.KOf KX) mg "_law_letters" My.xW ["_law_cell"]:=L2.dK KX G;have Lz:L2.aM (L2.KOf KX) mg "_law_words" My.Fg ["_law_cell","_law_letters_here"]:=L2.dK KX G;have TF:L2.aM (L2.KOf KX) mg "_law_rows" My.Jr ["_law_cell","_law_letters_here"]:=L2.dK KX G;have LC:L2.aM (L2.KOf KX) mg "_law_tiles" My.Fi ["_law_cell","_law_letters_here","_law_many","_law_blanks"]:=L2.dK KX G;have LK:L2.aM (L2.KOf KX) mg "_law_parts" My.Fj ["_law_script"]:=L2.dK KX G;have LQ:L2.aM (L2.KOf KX) mg "_law_begun" My.Fl ["_law_parts_here"]:=L2.dK KX G;have yX:L2.aM (L2.KOf KX) mg "_law_candidate" My.ux ["_law_rows_here","_law_word","_law_place","_law_rack"]:=L2.dK KX G;have TJ:L2.aM (L2.KOf KX) mg "_law_lets" My.Js ["_law_board","_law_book","_law_rack","_law_laying_here"]:=L2.dK KX G;have Ih:L2.aM (L2.KOf KX) mg "_law_laying" My.Ad ["_law_board","_law_book","_law_words_here","_law_rack","_law_cell"]:=L2.dK KX G;have TQ:L2.aM (L2.KOf KX) mg "_law_deed" My.Jt ["_law_now","_law_book","_law_words_here","_law_cell"]:=L2.dK KX G;have FJ:L2.aM (L2.KOf KX) mg "_law_taken" My.zy ["_law_rack","_law_tiles_here"]:=L2.dK KX G;have TV:L2.aM (L2.KOf KX) mg "_law_next" My.Ju ["_law_now","_law_parts_here","_law_deed_here"]:=L2.dK KX G;have Ii:L2.aM (L2.KOf KX) mg "_law_stands" My.Ae ["_law_game","_law_now"]:=L2.dK KX G;have LR:L2.aM (L2.KOf KX) mg "_law_kinds" My.Fo ["_law_game"]:=L2.dK KX G;have abn:∃C f0 f1 f2 f3 f4 d8 dM fd2 lK lM,My.Aj (L2.KOf KX) mg C f0 f1 f2 f3 f4 d8 dM fd2 lK lM:=by
   dsimp only[L2.KOf];refine' My.acZ KX G ?aC ?a0 ?i0 ?l0 ?c0 ?k0 ?a1 ?i1 ?l1 ?c1 ?k1 ?a2 ?i2 ?l2 ?c2 ?k2 ?a3 ?i3 ?l3 ?c3 ?k3 ?a4 ?i4 ?l4 ?c4 ?k4 ?pg ?hd ?po ?sa ?mk ?kc ?ja ?jn ?jt ?jm ?wY ?Dv ?Dw
   (case aC=>k_is)
   (case a0=>k_is)
   (case i0=>k_is)
   (case l0=>k_is)
   (case c0=>k_is)
   (case k0=>k_is)
   (case a1=>k_is)
   (case i1=>k_is)
   (case l1=>k_is)
   (case c1=>k_is)
   (case k1=>k_is)
   (case a2=>k_is)
   (case i2=>k_is)
   (case l2=>k_is)
   (case c2=>k_is)
   (case k2=>k_is)
   (case a3=>k_is)
   (case i3=>k_is)
   (case l3=>k_is)
   (case c3=>k_is)
   (case k3=>k_is)
   (case a4=>k_is)
   (case i4=>k_is)
   (case l4=>k_is)
   (case c4=>k_is)
   (case k4=>k_is)
   (case pg=>k_is)
   (case hd=>k_is)
   (case po=>k_is)
   (case sa=>k_is)
   (case mk=>k_is)
   (case kc=>k_is)
   (case ja=>k_is)
   (case jn=>k_is)
   (case jt=>k_is)
   (case jm=>k_is)
   (case wY=>k_is)
   (case Dv=>k_is)
   (case Dw=>k_is)
  obtain⟨_,_,_,_,_,_,_,_,_,_,_,adh⟩:=abn;have adi:∃C f0 f1 f2 f3 f4 d8 dM fd2 lK lM,My.Dy (L2.KOf KX) mg C f0 f1 f2 f3 f4 d8 dM fd2 lK lM:=by
   dsimp only[L2.KOf];refine' My.afh KX G ?aC ?a0 ?i0 ?l0 ?c0 ?k0 ?a1 ?i1 ?l1 ?c1 ?k1 ?a2 ?i2 ?l2 ?c2 ?k2 ?a3 ?i3 ?l3 ?c3 ?k3 ?a4 ?i4 ?l4 ?c4 ?k4 ?pg ?hd ?po ?sa ?mk ?kc ?wY
   (case aC=>k_is)
   (case a0=>k_is)
   (case i0=>k_is)
   (case l0=>k_is)
   (case c0=>k_is)
   (case k0=>k_is)
   (case a1=>k_is)
   (case i1=>k_is)
   (case l1=>k_is)
   (case c1=>k_is)
   (case k1=>k_is)
   (case a2=>k_is)
   (case i2=>k_is)
   (case l2=>k_is)
   (case c2=>k_is)
   (case k2=>k_is)
   (case a3=>k_is)
   (case i3=>k_is)
   (case l3=>k_is)
   (case c3=>k_is)
   (case k3=>k_is)
   (case a4=>k_is)
   (case i4=>k_is)
   (case l4=>k_is)
   (case c4=>k_is)
   (case k4=>k_is)
   (case pg=>k_is)
   (case hd=>k_is)
   (case po=>k_is)
   (case sa=>k_is)
   (case mk=>k_is)
   (case kc=>k_is)
   (case wY=>k_is)
  obtain⟨_,_,_,_,_,_,_,_,_,_,_,afG⟩:=adi;have abo:∃C f0 d8,My.Ak (L2.KOf KX) mg C f0 d8:=by
   dsimp only[L2.KOf];refine' My.ac0 KX G ?aC ?a0 ?i0 ?l0 ?c0 ?k0 ?pg ?hd ?po ?sa ?mk ?kc ?wY ?Dv ?Dw ?S9
   (case aC=>k_is)
   (case a0=>k_is)
   (case i0=>k_is)
   (case l0=>k_is)
   (case c0=>k_is)
   (case k0=>k_is)
   (case pg=>k_is)
   (case hd=>k_is)
   (case po=>k_is)
   (case sa=>k_is)
   (case mk=>k_is)
   (case kc=>k_is)
   (case wY=>k_is)
   (case Dv=>k_is)
   (case Dw=>k_is)
   (case S9=>k_is)
  obtain⟨_,_,_,adk⟩:=abo;have adl:∃C f0 f1 f2 f3 f4 f5 f6 f7 d8 dM fd2 lK lM J5 Cd WW,My.Dz (L2.KOf KX) mg C f0 f1 f2 f3 f4 f5 f6 f7 d8 dM fd2 lK lM J5 Cd WW:=by
   dsimp only[L2.KOf];refine' My.afi KX G ?aC ?a0 ?i0 ?l0 ?c0 ?k0 ?a1 ?i1 ?l1 ?c1 ?k1 ?a2 ?i2 ?l2 ?c2 ?k2 ?a3 ?i3 ?l3 ?c3 ?k3 ?a4 ?i4 ?l4 ?c4 ?k4 ?a5 ?i5 ?l5 ?c5 ?k5 ?a6 ?i6 ?l6 ?c6 ?k6 ?a7 ?i7 ?l7 ?c7 ?k7 ?pg ?hd ?po ?sa ?mk ?kc ?wY ?Dv ?Dw ?S9 ?nf4 ?nf5
   (case aC=>k_is)
   (case a0=>k_is)
   (case i0=>k_is)
   (case l0=>k_is)
   (case c0=>k_is)
   (case k0=>k_is)
   (case a1=>k_is)
   (case i1=>k_is)
   (case l1=>k_is)
   (case c1=>k_is)
   (case k1=>k_is)
   (case a2=>k_is)
   (case i2=>k_is)
   (case l2=>k_is)
   (case c2=>k_is)
   (case k2=>k_is)
   (case a3=>k_is)
   (case i3=>k_is)
   (case l3=>k_is)
   (case c3=>k_is)
   (case k3=>k_is)
   (case a4=>k_is)
   (case i4=>k_is)
   (case l4=>k_is)
   (case c4=>k_is)
   (case k4=>k_is)
   (case a5=>k_is)
   (case i5=>k_is)
   (case l5=>k_is)
   (case c5=>k_is)
   (case k5=>k_is)
   (case a6=>k_is)
   (case i6=>k_is)
   (case l6=>k_is)
   (case c6=>k_is)
   (case k6=>k_is)
   (case a7=>k_is)
   (case i7=>k_is)
   (case l7=>k_is)
   (case c7=>k_is)
   (case k7=>k_is)
   (case pg=>k_is)
   (case hd=>k_is)
   (case po=>k_is)
   (case sa=>k_is)
   (case mk=>k_is)
   (case kc=>k_is)
   (case wY=>k_is)
   (case Dv=>k_is)
   (case Dw=>k_is)
   (case S9=>k_is)
   (case nf4=>k_is)
   (case nf5=>k_is)
  obtain⟨_,_,_,_,_,_,_,_,_,_,_,_,_,_,_,_,_,afH⟩:=adl;have xkl:∃a,mg "LETTER_MARKS"=some (.ref a)/\∀P:Program,L2.KDict P w (L2.KOf KX) a My.V5:=by
   try dsimp only[L2.KOf]
   refine' My.aa9 KX G ?b ?l ?z ?n
   (case b=>k_is)
   (case l=>k_is)
   (case z=>rfl)
   (case n=>decide)
  obtain⟨_,kl⟩:=xkl;have xkw:∃a,mg "WORD_MARKS"=some (.ref a)/\∀P:Program,L2.KDict P w (L2.KOf KX) a My.V6:=by
   try dsimp only[L2.KOf]
   refine' My.aa9 KX G ?b ?l ?z ?n
   (case b=>k_is)
   (case l=>k_is)
   (case z=>rfl)
   (case n=>decide)
  obtain⟨_,kw⟩:=xkw;have xzb:∃t:Tok,t≠0/\mg "BLANK"=some (.str (L2.S [63]) t):=by
   try dsimp only[L2.KOf]
   refine' My.aiZ KX G ?b ?n
   (case b=>k_is)
   (case n=>decide)
  obtain⟨_,zb⟩:=xzb;have xer:∃gk dO gP gq jz cT dB CR iY mL fX gZ oZ uT lN nq,My.ac1 (L2.KOf KX) mg gk dO gP gq jz cT dB CR iY mL fX gZ oZ uT lN nq:=by
   try dsimp only[L2.KOf]
   refine' My.afk KX G ?Ao ?Fz ?DG ?Px ?Ls ?yx ?Aq ?aR ?rZ ?uU ?zP ?Lw ?DK ?YS ?Lx ?DN ?Hu ?Tc ?Hv ?Hw ?Hx ?Hy ?DP ?Hz ?HN ?HS ?HW ?yN ?tX ?abm ?Td ?Tf ?Tg ?Ti ?Ly ?Tj ?Tn ?Tp ?Tq ?DQ ?wZ ?Ka ?Av ?Aw ?Ax ?Ay ?yO ?Az ?A_ ?Ba ?Bb ?tY ?N_ ?DR ?DW ?DX ?DY ?Bc ?D_ ?Ea ?Eb ?Ec ?uX ?hn ?ht ?HX ?HY ?H_ ?Ia ?Bf ?Ib ?Tr ?Tt ?Tv ?Tw ?Kc ?Tz ?Bg ?Bh ?Bj ?Bk ?vP ?Bl ?Ed ?Ef ?Eh ?Ei ?yC ?Ej ?g2 ?rd ?fc
   (case Ao=>k_is)
   (case Fz=>k_is)
   (case DG=>k_is)
   (case Px=>k_is)
   (case Ls=>k_is)
   (case yx=>k_is)
   (case Aq=>k_is)
   (case aR=>k_is)
   (case rZ=>k_exc)
   (case uU=>k_exc)
   (case zP=>k_exc)
   (case Lw=>kernel_rfl)
   (case DK=>kernel_rfl)
   (case YS=>kernel_rfl)
   (case Lx=>kernel_rfl)
   (case DN=>kernel_rfl)
   (case Hu=>kernel_rfl)
   (case Tc=>k_is)
   (case Hv=>k_is)
   (case Hw=>k_is)
   (case Hx=>k_is)
   (case Hy=>k_is)
   (case DP=>kernel_rfl)
   (case Hz=>k_is)
   (case HN=>kernel_rfl)
   (case HS=>k_is)
   (case HW=>k_is)
   (case yN=>k_is)
   (case tX=>k_is)
   (case abm=>k_is)
   (case Td=>k_is)
   (case Tf=>k_is)
   (case Tg=>k_is)
   (case Ti=>k_is)
   (case Ly=>kernel_rfl)
   (case Tj=>k_is)
   (case Tn=>kernel_rfl)
   (case Tp=>k_is)
   (case Tq=>k_is)
   (case DQ=>k_is)
   (case wZ=>k_is)
   (case Ka=>k_is)
   (case Av=>k_is)
   (case Aw=>k_is)
   (case Ax=>k_is)
   (case Ay=>k_is)
   (case yO=>kernel_rfl)
   (case Az=>k_is)
   (case A_=>kernel_rfl)
   (case Ba=>k_is)
   (case Bb=>k_is)
   (case tY=>k_is)
   (case N_=>k_is)
   (case DR=>k_is)
   (case DW=>k_is)
   (case DX=>k_is)
   (case DY=>k_is)
   (case Bc=>kernel_rfl)
   (case D_=>k_is)
   (case Ea=>kernel_rfl)
   (case Eb=>k_is)
   (case Ec=>k_is)
   (case uX=>k_is)
   (case hn=>k_is)
   (case ht=>k_is)
   (case HX=>kernel_rfl)
   (case HY=>k_is)
   (case H_=>k_is)
   (case Ia=>k_is)
   (case Bf=>k_is)
   (case Ib=>k_is)
   (case Tr=>kernel_rfl)
   (case Tt=>k_is)
   (case Tv=>k_is)
   (case Tw=>k_is)
   (case Kc=>k_is)
   (case Tz=>k_is)
   (case Bg=>kernel_rfl)
   (case Bh=>k_is)
   (case Bj=>k_is)
   (case Bk=>k_is)
   (case vP=>k_is)
   (case Bl=>k_is)
   (case Ed=>kernel_rfl)
   (case Ef=>k_is)
   (case Eh=>k_is)
   (case Ei=>k_is)
   (case yC=>k_is)
   (case Ej=>k_is)
   (case g2=>k_is)
   (case rd=>k_is)
   (case fc=>k_is)
  obtain⟨_,_,_,_,_,_,_,_,_,_,_,_,_,_,_,_,er⟩:=xer;have lw:∃fd:FuncData,L2.d7 (L2.KOf KX) "law" "law" My.Pa fa fd/\∀(s:Shared) (v:Value),BindsTo s fd ⟨[v],[]⟩ [("_law_script",v)]:=by
   dsimp only[L2.KOf];refine' L2.agG KX G hmg ?a ?l ?c ?k ?b
   case a|l|c|k=>k_is
   (case b=>exact λ_ _ _ _ _ _ _=>rfl)
  obtain⟨fd,F,hb⟩:=lw;exact⟨fd,hb,λbase _ _=>My.afl bB fQ cD iy uR gY bh ji jB pC fH yh yg rY yj JR qb gb zF zB oX vQ Ek yP El Em Bm Bo yQ su uY Bp uZ yR yS Bq uE En o7 Ie w5 qH w6 tZ u9 t_ Br Eo u_ Bs yU vf yV Ep Bt yW sO vg Er xq Es Ig Et Lz TF LC LK LQ yX TJ Ih TQ FJ TV Ii LR adh afG adk afH kl kw zb er F⟩

import PyProof.Rows.All
import Wide.All
import OpenK.AllK
import Wide.FinOn
import Lean
import PyProof.EqAt
import PyProof.EqKinds
import PyProof.TupleCall
import KE.KRevIter
import PyProof.JoinWalk
import PyProof.CollectIter
import KE.KDictSum
import KE.KSortTup
import OpenK.KRaise
import PyProof.StationsW
import OpenK.KOwn
import KE.KTryMore
import KE.KIsNot
import PyProof.NsDelKeeps
import KE.KIsAll
import PyProof.ExcArgs
import PyProof.ListMulRoad
import PyProof.Rows.SeqMore
import PyProof.FactsAll.tuple_2
import PyProof.ExcInit
import OpenK.KCls
import PyProof.WalkInts
import PyProof.SeqI3
import KE.KIntText
import KE.KEqDict
import KE.KDictOf
import PyProof.Rows.SetFrom
import PyProof.FitsReplace
import PySem.Challenge.RW_letterrack_k64_twins
set_option Elab.async false
set_option linter.all false
set_option maxRecDepth 100000
set_option maxHeartbeats 4000000

set_option bootstrap.genMatcherCode false
theorem ZzN {G:Prop}(h:¬¬G):G:=Classical.byContradiction h
theorem rL {α:Sort _}{a:α}:a=a:=rfl
theorem Zzx2{q:A->B->Prop}{G:Prop}(h:∃a b,q a b)(f:∀a b,q a b->G):G:=Exists.elim h λa h=>Exists.elim h (f a)
theorem Zzx3{q:A->B->C->Prop}{G:Prop}(h:∃a b c,q a b c)(f:∀a b c,q a b c->G):G:=Exists.elim h λa h=>Zzx2 h (f a)
theorem Zzx4{q:A->B->C->D->Prop}{G:Prop}(h:∃a b c d,q a b c d)(f:∀a b c d,q a b c d->G):G:=Exists.elim h λa h=>Zzx3 h (f a)
theorem Zzx5{q:A->B->C->D->E->Prop}{G:Prop}(h:∃a b c d e,q a b c d e)(f:∀a b c d e,q a b c d e->G):G:=Exists.elim h λa h=>Zzx4 h (f a)
theorem Zzx7{q:A->B->C->D->E->I->J->Prop}{G:Prop}(h:∃a b c d e i j,q a b c d e i j)(f:∀a b c d e i j,q a b c d e i j->G):G:=Exists.elim h λa h=>Exists.elim h λb h=>Zzx5 h (f a b)
theorem Zzx10{q:A->B->C->D->E->I->J->K->L->M->Prop}{G:Prop}(h:∃a b c d e i j k l m,q a b c d e i j k l m)(f:∀a b c d e i j k l m,q a b c d e i j k l m->G):G:=Exists.elim h λa h=>Exists.elim h λb h=>Exists.elim h λc h=>Zzx7 h (f a b c)
theorem Zzx14{q:A->B->C->D->E->I->J->K->L->M->N->O->P->R->Prop}{G:Prop}(h:∃a b c d e i j k l m n o p r,q a b c d e i j k l m n o p r)(f:∀a b c d e i j k l m n o p r,q a b c d e i j k l m n o p r->G):G:=Exists.elim h λa h=>Exists.elim h λb h=>Exists.elim h λc h=>Exists.elim h λd h=>Zzx10 h (f a b c d)
local macro_rules|`(tactic|show $e)=>`(tactic|first|exact $e|change $e)
local macro_rules|`(tactic|calc $e:term)=>`(tactic|refine $e)
local macro_rules|`(tactic|let $x:ident := $e)=>`(tactic|have $x:ident := $e)|`(tactic|let $x:ident : $t := $e)=>`(tactic|have $x:ident : $t := $e)
open Lean in
local macro_rules|`(tactic|let ⟨$ts,*⟩ := $h)=>do
 let a:=ts.getElems
 let ps<-a.mapM λt=>if t.raw.isIdent then `(Parser.Tactic.rcasesPatLo|$(⟨t⟩):ident) else `(Parser.Tactic.rcasesPatLo|_)
 let n:=(a.pop.toList.takeWhile λt=>t.raw.getId != `rfl).length
 let mut t<-`(tactic|rcases $h:term with ⟨$ps,*⟩)
 for k in [2, 3, 4, 5, 7, 10, 14] do
  if k<=n then
   let m<-if k+1==a.size&&a.back!.raw.getId != `rfl then `(tactic|intro $a*) else `(tactic|(intro $(a[:k].toArray)* z;rcases z with ⟨$(ps[k:].toArray),*⟩))
   t<-`(tactic|first|(refine $(mkIdent (.mkSimple s!"Zzx{k}")) $h ?_;(try clear $(⟨h⟩));$m:tactic)|$t:tactic)
 `(tactic|(refine ZzN λn=>?_;$t:tactic<;>refine n ?_<;>clear n))
section
variable{p:Prop}
def qi(h:p:=by lia):p:=h
def qk(h:p:=by simp):p:=h
def qo(h:p:=by decide):p:=h
def qr(h:p:=by rfl):p:=h
def qA(h:p:=by kernel_rfl):p:=h
def qB(h:p:=by decide +kernel):p:=h
def qS(h:p:=by first | lia | ((try dsimp only);lia)):p:=h
def qV(h:p:=by size_fits):p:=h
end
def zsz (n:Nat)(h:n<=1000:=by decide):n<=PySem.sizeLine:=Nat.le_trans h qo
abbrev aa:=@List.length_map
abbrev ac:=@List.getElem?_eq_getElem
abbrev ae:=@PySem.wpAny_bind
abbrev af:=@PySem.Heap.get?_push_of_some
abbrev ag:=@decide_eq_false
abbrev ah:=@List.getElem?_eq_some_iff
abbrev ai:=@Nat.le_refl
abbrev al:=@decide_eq_true
abbrev am:=@List.length_take
abbrev av:=@Nat.le_of_lt
abbrev aw:=@PySem.wpAny_pure
abbrev ax:=@List.getD_eq_getElem?_getD
abbrev ay:=@PySem.boot_len
abbrev aE:=@List.length_append
abbrev aI:=@PySem.Heap.lt_size
abbrev aS:=@List.getElem_mem
abbrev a_:=@List.size_toArray
abbrev ba:=@List.length_drop
abbrev bc:=@List.mem_singleton
abbrev bd:=@PySem.Heap.get?_push_size
abbrev be:=@List.mem_map
abbrev bo:=@Option.some.inj
abbrev bp:=@PySem.F.plainAttrs_str
abbrev bq:=@List.map_append
abbrev bu:=@List.mem_of_getElem?
abbrev bv:=@List.mem_append
abbrev bz:=@List.mem_cons_of_mem
abbrev bE:=@PySem.F.plainAttrs_list
abbrev bP:=@Nat.le_trans
abbrev bS:=@Bool.false_ne_true
abbrev bX:=@List.mem_cons
abbrev ce:=@List.take_of_length_le
abbrev cf:=@PyProof.Rows.boot_isinstance
abbrev ck:=@List.getElem?_map
abbrev cn:=@Bool.and_eq_true
abbrev cp:=@List.take_length
abbrev cq:=@Nat.ne_of_lt
abbrev cv:=@List.mem_cons_self
abbrev cw:=@List.map_cons
abbrev cy:=@Int.toNat_of_nonneg
abbrev cz:=@List.getElem?_append_right
abbrev cE:=@List.length_replicate
abbrev cK:=@PySem.PassesOwn.never
abbrev cS:=@List.getElem?_append_left
abbrev c_:=@List.take_add_one
abbrev de:=@List.mem_of_mem_take
abbrev df:=@Nat.lt_of_lt_of_le
abbrev di:=@PySem.W.mg_none_of
abbrev dq:=@PyProof.Rows.boot_tuple
abbrev dr:=@PySem.F.slot_list_append
abbrev du:=@PySem.F.type_list_append
abbrev dv:=@PySem.W.mg_of
abbrev dA:=@PySem.F.slot_str_join
abbrev dC:=@PySem.F.type_str_join
abbrev dE:=@Int.emod_nonneg
abbrev dL:=@Option.map_eq_some_iff
abbrev dP:=@Int.emod_lt_of_pos
abbrev dS:=@PyProof.Rows.boot_list
abbrev eh:=@List.length_cons
abbrev ej:=@List.replicate_succ
abbrev eI:=@Int.toNat_natCast
abbrev eJ:=@List.mem_append_right
abbrev eK:=@of_decide_eq_true
abbrev eQ:=@List.mem_of_mem_drop
abbrev eW:=@PyProof.Rows.callWith_type1
abbrev e_:=@PySem.wpAny_mono
abbrev fb:=@List.length_set
abbrev fe:=@Nat.zero_le
abbrev fg:=@PySem.wpAny_truthy_bool
abbrev fh:=@List.flatten_cons
abbrev fi:=@PySem.Heap.size_push
abbrev fk:=@PySem.W.kia_one
abbrev fm:=@PySem.wpAny_field
abbrev fo:=@PySem.Calls.spliced_cons
abbrev fq:=@List.all_eq_true
abbrev ft:=@Nat.lt_irrefl
abbrev fw:=@PyProof.Rows.slot_tuple_getitem
abbrev fz:=@PySem.Heap.get?_update_other
abbrev fA:=@Array.length_toList
abbrev fE:=@List.map_congr_left
abbrev fF:=@Nat.min_eq_left
abbrev fN:=@List.mem_or_eq_of_mem_set
abbrev fR:=@Bool.false_eq_true
abbrev fS:=@PyProof.Rows.boot_sorted
abbrev f_:=@List.map_map
abbrev gc:=@Array.getElem?_eq_some_iff
abbrev gd:=@PySem.F.excBase_ValueError
abbrev gg:=@List.lookup_cons
abbrev gh:=@Nat.mul_le_mul
abbrev gm:=@List.drop_eq_getElem_cons
abbrev gr:=@List.find?_cons
abbrev gt:=@List.forIn_cons
abbrev gu:=@Ne.symm
abbrev gv:=@PySem.wpAny_newObj_type
abbrev gI:=@List.length_eq_zero_iff
abbrev gL:=@List.mem_range
abbrev gN:=@Nat.lt_succ_self
abbrev gS:=@Nat.succ_le_succ
abbrev gT:=@PySem.wpAny_call_entry
abbrev gV:=@List.dropLast_concat_getLast
abbrev gX:=@Nat.le_succ
abbrev g9:=@PySem.Calls.callWith_builtin
abbrev hJ:=@List.drop_of_length_le
abbrev hV:=@PySem.wpAny_Call_Name_kw
abbrev ia:=@Bool.eq_iff_iff
abbrev ib:=@List.append_nil
abbrev ic:=@List.nodup_cons
abbrev ie:=@PySem.Heap.get?_update_self
abbrev ii:=@PySem.F.slot_dict_get
abbrev ij:=@List.cons_lt_cons_iff
abbrev ik:=@PySem.wpAny_holding
abbrev im:=@PySem.wpAny_pyIter_list
abbrev io:=@PySem.Calls.spliced_nil
abbrev ip:=@PySem.StrLaws.subAt_one
abbrev iq:=@PySem.wpAny_loadPart_at
abbrev ir:=@PySem.Calls.evalArgs_plain
abbrev iA:=@List.mem_iff_getElem
abbrev iE:=@List.pairwise_iff_getElem
abbrev iF:=@List.set_eq_take_append_cons_drop
abbrev iL:=@Nat.le_of_eq
abbrev iN:=@PySem.F.slot_list_remove
abbrev iO:=@PySem.F.type_list_remove
abbrev iP:=@PySem.mem_of_lookup
abbrev iS:=@Array.getElem?_setIfInBounds_ne
abbrev iX:=@PySem.wpAny_callSpecial?_slot
abbrev jb:=@List.eraseIdx_cons_succ
abbrev jp:=@Int.eq_ofNat_of_zero_le
abbrev js:=@PySem.W.callWith_K
abbrev jv:=@PySem.SeqAt.EqAt.int_int
abbrev jI:=@Nat.lt_of_le_of_lt
abbrev jS:=@PySem.wpAny_loadPart'
abbrev j3:=@PySem.wpAny_setField_rec
abbrev ka:=@of_decide_eq_false
abbrev ke:=@List.getElem?_set_self
abbrev kf:=@PySem.F.slot_tuple_mul
abbrev km:=@PySem.PassesOwn.leaving
abbrev kn:=@Nat.ne_of_gt
abbrev ko:=@List.drop_zero
abbrev kq:=@PySem.Obj.isFreed_of_fields
abbrev kr:=@PySem.F.slot_int_rmul
abbrev ku:=@PySem.wpAny_seqItems
abbrev kz:=@PyProof.Rows.boot_int
abbrev kD:=@List.take_append_drop
abbrev kG:=@Nat.min_eq_right
abbrev kL:=@List.not_mem_nil
abbrev kM:=@List.replicate_succ'
abbrev kN:=@List.any_cons
abbrev kP:=@List.map_id
abbrev kQ:=@List.filterMap_cons
abbrev kR:=@List.mem_filter
abbrev kU:=@PySem.wpAny_passesOwn
abbrev kX:=@PySem.wpAny_binaryOp_repeat_ref
abbrev lh:=@Option.map_some
abbrev lj:=@PySem.codeAny_mono
abbrev lm:=@PySem.F.args_tuple_add_2
abbrev lp:=@PySem.wpAny_tupleItemsOf
abbrev lv:=@Nat.eq_zero_or_pos
abbrev lx:=@List.erase_sublist
abbrev ly:=@PySem.wpAny_call
abbrev lI:=@Int.mul_le_mul
abbrev lL:=@PySem.Heap.IsList.at
abbrev lP:=@PySem.F.entry_tuple_add
abbrev lS:=@PySem.F.args_dict_get_3
abbrev lT:=@Nat.add_sub_cancel_left
abbrev l_:=@Nat.lt_succ_of_lt
abbrev ma:=@Sum.inr.inj
abbrev md:=@PyProof.noPylong_small
abbrev me:=@PySem.F.slot_tuple_add
abbrev mf:=@PySem.F.entry_dict_get
abbrev mh:=@PySem.wpAny_nextOf_list_item
abbrev mi:=@PyProof.Rows.boot_bool
abbrev ml:=@PySem.F.slot_str_lower
abbrev mm:=@PySem.F.type_str_lower
abbrev mn:=@PySem.wpAny_standAt
abbrev mo:=@Bool.not_true
abbrev mw:=@Bool.true_and
abbrev mx:=@List.drop_length
abbrev my:=@List.length_singleton
abbrev mB:=@PyProof.Rows.boot_str
abbrev mE:=@PyProof.Rows.boot_min
abbrev mI:=@List.mem_append_left
abbrev mM:=@List.getElem?_set_ne
abbrev mP:=@PySem.wpAny_Name
abbrev mS:=@PyProof.Rows.callWith_builtin1
abbrev mT:=@Int.ofNat_lt
abbrev nc:=@List.foldl_cons
abbrev nv:=@List.length_dropLast
abbrev ny:=@PySem.F.slot_tuple_lt
abbrev nB:=@PySem.wpAny_updateSeq_pair
abbrev nE:=@PySem.F.slot_zip_next
abbrev nI:=@Nat.sub_self
abbrev nK:=@List.map_set
abbrev nL:=@Nat.mul_le_mul_right
abbrev nS:=@PySem.W.plainGet_of
abbrev nV:=@Bool.false_and
abbrev nX:=@PySem.wpAny_setField
abbrev n5:=@PySem.wpAny_pyIter_range
abbrev n9:=@List.mem_filterMap
abbrev og:=@PySem.Obj.data_mapFields
abbrev om:=@List.getElem?_drop
abbrev on:=@Int.fdiv_eq_ediv_of_nonneg
abbrev oq:=@List.sum_cons
abbrev ot:=@List.takeWhile_cons_of_pos
abbrev ow:=@PySem.wpAny_onRaise
abbrev oy:=@Int.ofNat.inj
abbrev oz:=@List.map_drop
abbrev oB:=@PySem.Within.cons
abbrev oC:=@Function.comp_def
abbrev oP:=@Bool.eq_false_iff
abbrev oQ:=@PySem.wpAny_rule
abbrev oS:=@Array.getElem?_eq_getElem
abbrev o0:=@List.getLast?_eq_getElem?
abbrev o6:=@List.getElem?_zip_eq_some
abbrev pi:=@Nat.succ_mul
abbrev pj:=@List.cons_append
abbrev pk:=@List.map_nil
abbrev pE:=@Array.toList_inj
abbrev pS:=@Int.zero_add
abbrev pV:=@List.of_mem_zip
abbrev p_:=@List.length_nil
abbrev qa:=@Bool.or_eq_true
abbrev qc:=@Int.le_refl
abbrev qf:=@List.forIn_nil
abbrev qh:=@List.nodup_nil
abbrev AB:=List (List Nat)
abbrev AD:=PySem.Value->PySem.Shared->Prop
abbrev AE:=List (PySem.Addr×PySem.Obj)
noncomputable section
namespace L2
open PySem
def Dc (h:Runs M Γ p t fs s e s'):s.toks<=s'.toks:=by
 induction h with| done|raise|yield=>show ai _| fresh _ ih=>show bP (gX _) ih| again _ _ ih|rule _ ih|«at» _ ih|load _ _ ih|update _ _ ih|loadIfAlive _ ih|point _ ih|alloc _ ih|ask _ ih|choose _ _ ih|os _ ih|handled _ ih|genState _ _ ih|stack _ ih|thread _ ih|newGen _ ih=>show ih| call _ _ ih1 ih2=>show bP ih1 ih2| callSusp _ ih=>show ih| resumeFresh _ _ _ _ ih1 ih2=>show bP ih1 ih2| resumeSuspended _ _ _ _ ih1 ih2=>show bP ih1 ih2| resumeJustStarted _ _ _ ih=>show ih| resumeThrowFresh _ _ ih=>show ih| resumeRunning _ _ ih=>show ih| resumeFinished _ _ ih=>show ih| segRet _ _ ih1 ih2=>show bP ih1 ih2| segGen _ _ ih1 ih2=>show bP ih1 ih2| segSuspOut _ _ ih=>show ih| segSuspGen _ _ _ _ ih1 ih2=>show bP ih1 ih2
def YB (h:Wakes M Γ p g r s res s'):s.toks<=s'.toks:=by
 unfold Wakes at h;split at h;.show h.elim
 .split at h
  .let⟨e,s1,j,_,_,rfl⟩:=h;let z:=Dc j;show z
  .let⟨_,rfl⟩:=h;show ai _
  .let⟨_,rfl⟩:=h;show ai _
 .let⟨e,s1,j,_,_,rfl⟩:=h;let z:=Dc j;show z
 .let⟨_,rfl⟩:=h;show ai _
 .let⟨_,rfl⟩:=h;show ai _
def ai9 {α:Type}{M:Model}{Γ:Ctx}(t:Sem α)(n:Nat){Q:α->Pos->Shared->Prop}{E:Value->Pos->Shared->Prop}(p:Pos)(s:Shared)(hn:n<=s.toks)(h:Sem.wp M Γ t (λa p s=>n<=s.toks->Q a p s) (λe p s=>n<=s.toks->E e p s) p s):Sem.wp M Γ t Q E p s:=by
 revert h
 induction t generalizing p s with| pure x=>show λh=>h hn| raise v=>show λh=>h hn| unsupported|finish|yield|fork|await|register=>show id| fresh k ih=>show ih _ _ _ (bP hn (gX _))| rule _ k ih|«at» _ k ih|alloc _ k ih|loadIfAlive _ k ih|point _ k ih|ask k ih|os _ _ k ih|handled _ k ih|newGen _ k ih|stack k ih|thread k ih=>show ih _ _ _ hn| load a _ k ih|genState a k ih=>show λ⟨o,F,h⟩=>⟨o,F,ih _ _ _ hn h⟩| update a _ f k ih|choose _ _ k ih=>show λ⟨ha,h⟩=>⟨ha,ih _ _ _ hn h⟩| call c h g l k ih=>show λ⟨r,s',j,D⟩=>⟨r,s',j,ih _ _ _ (bP hn (Dc j)) D⟩| resume g r l k ih=>show λ⟨res,s',hw,h⟩=>⟨res,s',hw,ih _ _ _ (bP hn (YB hw)) h⟩
def Rf {α:Type}{t:Sem α}{Q:α->Shared->Prop}{s:Shared}(h:wpAny M A t (λa s'=>s.toks<=s'.toks->Q a s') (λe s'=>s.toks<=s'.toks->E e s') s):wpAny M A t Q E s:=λΓ p hΓ=>ai9 t s.toks p s (ai _) (h Γ p hΓ)
end L2
namespace L2
open PySem PySem.Spec PyProof.Rows
abbrev Key:=Sum Int Str
def Al:Key->Value->Bool
 | .inl k,v=>Value.isInt k v
 | .inr x,v=>Value.isStrOf x v
def ajV (w:World):Key->Int
 | .inl k=>hashInt k
 | .inr x=>hashStr w x
theorem ji:∀{k:Key} {v:Value},Al k v=true->(∃i t,k=Sum.inl i/\v=Value.int i t)\/(∃x t,k=Sum.inr x/\v=Value.str x t)
 | .inl i,v,h=>by let⟨t,e⟩:=Value.isInt_shape (k:=i) (v:=v) h;show .inl ⟨i,t,rL,e⟩
 | .inr x,v,h=>by let⟨t,e⟩:=Value.isStrOf_shape (x:=x) (v:=v) h;show .inr ⟨x,t,rL,e⟩
def aax (i)(t:Tok):Al (.inl i) (.int i t)=true:=by simp[Al,Value.isInt]
def aay (x)(t:Tok):Al (.inr x) (.str x t)=true:=by simp[Al,Value.isStrOf]
def agD (a b):decide ((Sum.inl a:Key)=Sum.inl b)=(a==b):=by
 by_cases e:a=b;.subst e;simp
 .let h:¬(Sum.inl a:Key)=Sum.inl b:=λq=>e (Sum.inl.inj q)
  rw[ag h];show(beq_eq_false_iff_ne.mpr e).symm
def agE (a b):decide ((Sum.inr a:Key)=Sum.inr b)=decide (a=b):=by
 by_cases e:a=b;.subst e;simp
 .let h:¬(Sum.inr a:Key)=Sum.inr b:=λq=>e (ma q)
  rw[ag h,ag e]
def agF (a)(b):decide ((Sum.inl a:Key)=Sum.inr b)=false:=ag (λq=>nomatch q)
def agG (a)(b):decide ((Sum.inr a:Key)=Sum.inl b)=false:=ag (λq=>nomatch q)
noncomputable def iC (prog:Program)(w:World):PySem.KeyKind prog w Key where
 is:=Al
 hash:=ajV w
 inj:=λv a b ha hb=>by
  rcases ji ha with⟨i,t,rfl,rfl⟩|⟨x,t,rfl,rfl⟩
  .rcases ji hb with⟨j,u,rfl,e⟩|⟨y,u,rfl,e⟩
   .injection e with e1 _;rw[e1]
   .show nomatch e
  .rcases ji hb with⟨j,u,rfl,e⟩|⟨y,u,rfl,e⟩;.show nomatch e
   .injection e with e1 _;rw[e1]
 byValue:=λk v h=>by rcases ji h with⟨i,t,rfl,rfl⟩|⟨x,t,rfl,rfl⟩ <;> rfl
 pyHash:=λD h=>by
  rcases ji D with⟨i,t,rfl,rfl⟩|⟨x,t,rfl,rfl⟩;.show wpAny_pyHash_int h
  .show wpAny_pyHash_str h
 eqBool:=λF D h=>by
  rcases ji F with⟨i,t,rfl,rfl⟩|⟨x,t,rfl,rfl⟩
  .rcases ji D with⟨j,u,rfl,rfl⟩|⟨y,u,rfl,rfl⟩;.rw[agD]at h;show wpAny_eqBool_int h
   .rw[agF]at h;show SeqAt.EqAt.int_str i t y u _ _ _ _ h
  .rcases ji D with⟨j,u,rfl,rfl⟩|⟨y,u,rfl,rfl⟩;.rw[agG]at h;show SeqAt.EqAt.str_int x t j u _ _ _ _ h
   .rw[agE]at h;show wpAny_eqBool_str h
 «strs»:=λk x t v h=>by
  rcases ji h with⟨i,u,rfl,e⟩|⟨y,u,rfl,e⟩;.show nomatch e
  .injection e with e1 _;subst e1;cases v <;> rfl
def Vx (prog)(w)(i)(t:Tok):(iC prog w).is (.inl i) (.int i t)=true:=aax i t
def mH (prog)(w)(x)(t:Tok):(iC prog w).is (.inr x) (.str x t)=true:=aay x t
inductive V where
 | non|bl (b:Bool)|int (i:Int)|str (x:Str)|Cv (b:Array UInt8)|flt (b:UInt64)|ref (a:Addr)|ty (n:String)
 deriving DecidableEq
def cL:V->Value->Prop
 | .non,u=>u=Value.none
 | .bl b,u=>u=Value.bool b
 | .int i,u=>∃t,u=Value.int i t
 | .str x,u=>∃t,u=Value.str x t
 | .Cv b,u=>∃t,u=Value.bytes b t
 | .flt b,u=>∃t,u=Value.float b t
 | .ref a,u=>u=Value.ref a
 | .ty n,u=>u=Value.type n
abbrev Vals:List V->List Value->Prop:=Paired cL
def Vals.length (r:Vals xs us):xs.length=us.length:=Paired.length r
theorem Vals.get:∀{xs:List V} {us:List Value} {i:Nat} {x:V},Vals xs us->xs[i]?=some x->∃u,us[i]?=some u/\cL x u
 | _,_,_,_,.nil,e=>by simp at e
 | _,_,0,_,.cons r _,e=>by simp at e;subst e;show⟨_,rL,r⟩
 | _,_,i+1,x,.cons _ t,e=>by let⟨u,h1,h2⟩:=Vals.get (i:=i) (x:=x) t (by simpa using e);show⟨u,by simpa using h1,h2⟩
theorem Vals.set (r:cL x u):∀{xs:List V} {us:List Value} (i:Nat),Vals xs us->Vals (xs.set i x) (us.set i u)
 | _,_,_,.nil=>.nil
 | _,_,0,.cons _ t=>.cons r t
 | _,_,i+1,.cons q t=>.cons q (Vals.set r i t)
theorem Vals.append:∀{xs ys:List V} {us ws:List Value},Vals xs us->Vals ys ws->Vals (xs++ys) (us++ws)
 | _,_,_,_,.nil,s=>s
 | _,_,_,_,.cons r t,s=>.cons r (Vals.append t s)
theorem Vals.take:∀{xs:List V} {us:List Value} (n:Nat),Vals xs us->Vals (xs.take n) (us.take n)
 | _,_,0,_=>.nil
 | _,_,_+1,.nil=>.nil
 | _,_,n+1,.cons r t=>.cons r (Vals.take n t)
theorem Vals.drop:∀{xs:List V} {us:List Value} (n:Nat),Vals xs us->Vals (xs.drop n) (us.drop n)
 | _,_,0,r=>r
 | _,_,_+1,.nil=>.nil
 | _,_,n+1,.cons _ t=>Vals.drop n t
def nF:Option V->Option Value->Prop
 | some v,some u=>cL v u
 | none,none=>True
 | _,_=>False
def KV {κ:Type}:List (κ×V)->List (κ×Value)->Prop:=Paired λ(p:κ×V) (q:κ×Value)=>p.1=q.1/\cL p.2 q.2
def kV:Key->V
 | .inl i=>.int i
 | .inr x=>.str x
inductive HO where
 | lst (xs:List V)
 | tup (xs:List V)
 | dK (kvs:List (Key×V))|dT (kvs:List (List Key×V))
 | set (S:Int->Bool) (n:Nat)
 | ins (C dx:Addr) (fs:List (Str×V))
 | own (x:Addr)
 | xd (fs:List (Str×V))
 | met (f x:Addr)
 | rng (lo hi:Int)
 | qx (o:Obj) (u:HO)
 | NQ (ps:Array Value)
 | ext (φ:Heap->Prop)
abbrev Hp:=Addr->Option HO
def upd (H:Hp)(a:Addr)(o:HO):Hp:=λb=>if b=a then some o else H b
def aA:upd H a o a=some o:=by unfold upd;rw[if_pos rfl]
def aZ (h:b≠a):upd H a o b=H b:=by unfold upd;rw[if_neg h]
def Wt:upd (upd H a o) a u=upd H a u:=by funext b;unfold upd;split <;> rfl
def oX {H:Hp}{a b:Addr}{o u:HO}(h:H a=some o)(h':H b=some u)(d:o≠u):a≠b:=by intro e;subst e;rw[h]at h';show d (bo h')
def aN {H:Hp}{a b:Addr}{o:HO}(h:H a=some o)(h':H b=none):a≠b:=by intro e;subst e;rw[h]at h';cases h'
section
variable (P:Program)(w:World)
def gA (H:Hp)(h:Heap)(a:Addr):HO->Prop
 | .lst xs=>xs.length<=sizeLine/\∃(its:List Value) (n:Nat),Vals xs its/\h.get? a=some {cls:=.type "list",data:=.seq its.toArray n}
 | .tup xs=>xs.length<=sizeLine/\∃its:List Value,Vals xs its/\IsTup h a its.toArray
 | .dK kvs=>kvs.length<=sizeLine/\(a==sysModules)=false/\∃vs,KV kvs vs/\h.DictOf (iC P w) a vs
 | .dT kvs=>kvs.length<=sizeLine/\(a==sysModules)=false/\∃xs:List (List Key×Addr×Value),
   Paired (λ(p:List Key×V) (q:List Key×Addr×Value)=>p.1=q.1/\H q.2.1=some (.tup (p.1.map kV))/\cL p.2 q.2.2) kvs xs/\
   ∃o es ep,h.get? a=some o/\o.ExactDict/\o.data=.dict es ep/\es.toList=xs.map (entryOfKey (tupleKind (iC P w)))/\(xs.map (·.1)).Nodup
 | .set S n=>h.SetOf (intKind P w) a S n
 | .ins C dx fs=>H dx=some (.own a)/\fs.length<=1000/\dx≠a/\h.get? a=some (W.instObj C dx)/\
   ∃mA,h.Ns1 dx mA/\(∀f,nF (fs.lookup f) (mA f))/\PySem.Within mA (fs.map (·.1))
 | .own _=>∃o,h.get? a=some o
 | .xd fs=>∃mA,h.Ns1 a mA/\∀f,nF (fs.lookup f) (mA f)
 | .rng lo hi=>∃t u v,h.get? a=some {cls:=.type "range",data:=.fields #[.int lo t,.int hi u,.int 1 v]}
 | .qx o u=>h.get? a=some o/\gA H h a u
 | .NQ ps=>h.get? a=some {cls:=.none,data:=.fields ps}
 | .met f x=>h.get? a=some (W.methodObj (.ref f) (.ref x))
 | .ext φ=>φ h/\(∃o,h.get? a=some o)/\∀h1 h2:Heap,φ h1->(∀o,h1.get? a=some o->h2.get? a=some o)->φ h2
def lE (H:Hp)(h:Heap):Prop:=∀a o,H a=some o->gA P w H h a o
end
section
variable {P:Program}{w:World}{H H':Hp}{h h':Heap}{a:Addr}{o:HO}
def gA.lt (x:gA P w H h a o):a<h.objs.size:=by
 cases o with
 | lst xs=>let⟨_,_,_,_,e⟩:=x;show aI e
 | tup xs=>let⟨_,_,_,p⟩:=x;show p.lt
 | dK kvs=>let⟨_,_,_,_,o,_,_,e,_⟩:=x;show aI e
 | dT kvs=>let⟨_,_,_,_,o,_,_,e,_⟩:=x;show aI e
 | set S n=>let⟨o,_,_,_,e,_⟩:=x;show aI e
 | ins C dx fs=>let⟨_,_,_,e,_⟩:=x;show aI e
 | own y=>let⟨_,e⟩:=x;show aI e
 | xd fs=>obtain⟨_,⟨_,_,_,e,_⟩,_⟩:=x;show aI e
 | rng lo hi=>let⟨_,_,_,e⟩:=x;show aI e
 | qx ob u=>let⟨e,_⟩:=x;show aI e
 | NQ ps=>show aI (show h.get? a=some _ from x)
 | met f y=>show aI (show h.get? a=some _ from x)
 | ext φ=>obtain⟨_,⟨_,e⟩,_⟩:=x;show aI e
theorem Paired.acz {α β:Type}{F G:α->β->Prop}:∀{D:List α} {j:List β},Paired F D j->(∀a b,F a b->G a b)->Paired G D j
 | _,_,.nil,_=>.nil
 | _,_,.cons r t,f=>.cons (f _ _ r) (Paired.acz t f)
def gA.stay (x:gA P w H h a o)(k:∀b u,(b=a\/H b=some (.own a))->h.get? b=some u->h'.get? b=some u)(j:∀b,H b=some (.own a)->H' b=some (.own a))(ht:∀b xs,H b=some (.tup xs)->H' b=some (.tup xs)):gA P w H' h' a o:=by
 induction o with
 | lst xs=>let⟨z,its,n,r,e⟩:=x;show⟨z,its,n,r,k _ _ (.inl rL) e⟩
 | tup xs=>let⟨z,its,r,ob,e,c⟩:=x;show⟨z,its,r,ob,k _ _ (.inl rL) e,c⟩
 | dK kvs=>let⟨z,y,vs,r,ob,es,ep,e,c⟩:=x;show⟨z,y,vs,r,ob,es,ep,k _ _ (.inl rL) e,c⟩
 | dT kvs=>let⟨z,y,xs,r,ob,es,ep,e,c⟩:=x;show⟨z,y,xs,Paired.acz r λp q z=>⟨z.1,ht _ _ z.2.1,z.2.2⟩,ob,es,ep,k _ _ (.inl rL) e,c⟩
 | set S n=>let⟨ob,es,ep,t,e,c⟩:=x;show⟨ob,es,ep,t,k _ _ (.inl rL) e,c⟩
 | ins C dx fs=>obtain⟨d,z,ne,e,mA,⟨od,es,ep,e2,c⟩,r⟩:=x;show⟨j _ d,z,ne,k _ _ (.inl rL) e,mA,⟨od,es,ep,k _ _ (.inr d) e2,c⟩,r⟩
 | own y=>let⟨ob,e⟩:=x;show⟨ob,k _ _ (.inl rL) e⟩
 | xd fs=>obtain⟨mA,⟨od,es,ep,e,c⟩,r⟩:=x;show⟨mA,⟨od,es,ep,k _ _ (.inl rL) e,c⟩,r⟩
 | rng lo hi=>let⟨t,u,v,e⟩:=x;show⟨t,u,v,k _ _ (.inl rL) e⟩
 | qx ob u ih=>let⟨e,q⟩:=x;show⟨k _ _ (.inl rL) e,ih q⟩
 | NQ ps=>have e:h.get? a=some {cls:=.none,data:=.fields ps}:=x;show h'.get? a=some {cls:=.none,data:=.fields ps};show k a _ (.inl rL) e
 | met f y=>have e:h.get? a=some (W.methodObj (.ref f) (.ref y)):=x;show h'.get? a=some (W.methodObj (.ref f) (.ref y));show k a _ (.inl rL) e
 | ext φ=>obtain⟨p,⟨o,e⟩,st⟩:=x;show⟨st _ _ p λo q=>k _ _ (.inl rL) q,⟨o,k _ _ (.inl rL) e⟩,st⟩
def lE.lt (x:lE P w H h)(e:H a=some o):a<h.objs.size:=(x a o e).lt
def lE.fresh (x:lE P w H h)(e:h.objs.size<=a):H a=none:=by
 cases q:H a with| none=>rfl| some u=>show absurd (df (x.lt q) e) (ft _)
def lE.kept (x:lE P w H h)(k:∀b u,h.get? b=some u->h'.get? b=some u):lE P w H h':=λa o e=>(x a o e).stay (λb u _ q=>k b u q) (λ_ q=>q) λ_ _ q=>q
def lE.laid (x:lE P w H h)(k:∀b u,h.get? b=some u->h'.get? b=some u)(hp:h.objs.size<=a)(new:gA P w (upd H a o) h' a o):lE P w (upd H a o) h':=λb u e=>by
 let hn:=x.fresh hp;by_cases hb:b=a;.subst hb;rw[aA]at e;cases e;show new
 .rw[aZ hb]at e;show(x b u e).stay (λc v _ q=>k c v q) (λc q=>by rw[aZ (aN q hn)];show q) λc xs q=>by rw[aZ (aN q hn)];show q
end
def Rd (H:Hp)(a:Addr)(u:HO):Prop:=H a=some u\/∃o,H a=some (.qx o u)
def Rd.of (h:H a=some u):Rd H a u:=.inl h
def Rd.ok (r:Rd H a u)(x:lE P w H h):gA P w H h a u:=by
 rcases r with r|⟨o,r⟩;.show x a u r
 .let⟨_,q⟩:=x a _ r;show q
def Mut:Option HO->Prop
 | some (.lst _)=>True
 | some (.dK _)=>True
 | some (.dT _)=>True
 | some (.set _ _)=>True
 | some (.ins _ _ _)=>True
 | some (.ext _)=>True
 | _=>False
section
variable {P:Program}{w:World}{H:Hp}{h h':Heap}{x e:Addr}{o':HO}
def lE.write (ok:lE P w H h)(G:Mut (H x))(Y:e=x\/H e=some (.own x))(k:∀b u,b≠e->h.get? b=some u->h'.get? b=some u)(I:∃u,h'.get? e=some u)(new:gA P w (upd H x o') h' x o'):lE P w (upd H x o') h':=λb u q=>by
 let D:∀c y,H c=some (.own y)->c≠x:=λc y r z=>by subst z;rw[r]at G;show G
 let J:∀c xs,H c=some (.tup xs)->c≠x:=λc xs r z=>by subst z;rw[r]at G;show G
 by_cases hb:b=x;.subst hb;rw[aA]at q;cases q;show new
 .rw[aZ hb]at q;by_cases j:b=e
  .let O:H b=some (.own x):=by
    rcases Y with z|z;.show absurd (j.trans z) hb
    .rw[j];show z
   rw[q]at O;cases O;let⟨v,Z⟩:=I;show⟨v,by rw[j];show Z⟩
  .refine(ok b u q).stay (λc v F r=>k c v ?_ r) (λc r=>by rw[aZ (D c b r)];show r) λc xs r=>by rw[aZ (J c xs r)];show r
   rcases F with rfl|F;.show j
   .rintro rfl;rcases Y with z|z;.show D c b F z
    .rw[F]at z;cases z;show hb rfl
end
structure Un (fs ex:List Addr)(H H':Hp)(h h':Heap):Prop where
 keep:∀b o,h.get? b=some o->H b=none->b∉fs->b∉ex->h'.get? b=some o
 slot:∀b o,h.get? b=some o->H b=none->b∈fs->b∉ex->∃sl,h'.get? b=some {o with slots:=sl}
 free:∀b o,h.get? b=some o->H b=none->b∉ex->H' b=none
 there:∀b o,h.get? b=some o->b∉ex->∃o',h'.get? b=some o'
 tups:∀b xs,H b=some (.tup xs)->H' b=some (.tup xs)
 qW:∀b o u,H b=some (.qx o u)->H' b=some (.qx o u)
 rH:∀b ps,H b=some (.NQ ps)->∃more,H' b=some (.NQ (ps++more))
section
variable {fs ex:List Addr}{H H1:Hp}{h h1 h':Heap}{a x e:Addr}{o:HO}
def Un.any (u:Un fs ex H H1 h h1)(q:h.get? b=some ob)(n:H b=none)(hx:b∉ex):∃sl,h1.get? b=some {ob with slots:=sl}:=by
 by_cases hb:b∈fs;.show u.slot b ob q n hb hx
 .show⟨ob.slots,u.keep b ob q n hb hx⟩
def Un.kept (k:∀b u,h.get? b=some u->h'.get? b=some u):Un fs ex H H h h':=⟨λb ob q _ _ _=>k b ob q,λb ob q _ _ _=>⟨ob.slots,k b ob q⟩,λ_ _ _ n _=>n,λb ob q _=>⟨ob,k b ob q⟩,λ_ _ q=>q,λ_ _ _ q=>q,λ_ ps q=>⟨#[],by rw[q];simp⟩⟩
def Un.refl:Un fs ex H H h h:=Un.kept λ_ _ q=>q
def Un.laid (k:∀b u,h.get? b=some u->h'.get? b=some u)(hp:h.objs.size<=a)(hn:H a=none):Un fs ex H (upd H a o) h h' where
 keep:=λb u q _ _ _=>k b u q
 slot:=λb u q _ _ _=>⟨u.slots,k b u q⟩
 free:=λb u q n _=>by rw[aZ (cq (df (aI q) hp))];show n
 there:=λb u q _=>⟨u,k b u q⟩
 tups:=λb xs q=>by rw[aZ (aN q hn)];show q
 qW:=λb u xs q=>by rw[aZ (aN q hn)];show q
 rH:=λb ps q=>⟨#[],by rw[aZ (aN q hn),q];simp⟩
def Un.write (D:Mut (H x))(G:e=x\/H e=some (.own x))(k:∀b u,b≠e->h.get? b=some u->h'.get? b=some u)(F:∃u,h'.get? e=some u):Un fs ex H (upd H x o) h h':=by
 let hx:∀b,H b=none->b≠x:=λb n z=>by subst z;rw[n]at D;show D
 let hb:∀b,H b=none->b≠e:=λb n z=>by
  subst z;rcases G with r|r;.show hx b n r
  .rw[n]at r;cases r
 let hm:∀b u,H b=some u->¬Mut (some u)->b≠x:=λb u q nm z=>by subst z;rw[q]at D;show nm D
 refine⟨λb u q n _ _=>k b u (hb b n) q,λb u q n _ _=>⟨u.slots,k b u (hb b n) q⟩,λb u q n _=>by rw[aZ (hx b n)];show n,λb u q _=>?_,
  λb xs q=>by rw[aZ (hm b _ q λz=>z)];show q,λb u xs q=>by rw[aZ (hm b _ q λz=>z)];show q,λb ps q=>⟨#[],by rw[aZ (hm b _ q λz=>z),q];simp⟩⟩
 by_cases j:b=e;.subst j;show F
 .show⟨u,k b u j q⟩
end
def NT (h:Heap)(H:Hp):List Addr:=(List.range h.objs.size).filter λa=>(H a).isSome
def Am (h:Heap)(H:Hp):Heap:=W.hideAll h (NT h H)
def aaz (h)(H):(Am h H).objs.size=h.objs.size:=W.hideAll_size _ _
def acA {h:Heap}(e:h.get? b=some o)(n:H b=none):(Am h H).get? b=some o:=
 W.hideAll_get _ e λhm=>by let q:(H b).isSome=true:=(kR.mp hm).2;rw[n]at q;simp at q
def aeW (e:(Am h H).get? b=some o):h.get? b=some o/\H b=none:=by
 let j:h.get? b=some o:=W.of_hideAll (NT h H) e;calc⟨j,?_⟩;cases q:H b with| none=>rfl| some x=>have hm:b∈NT h H:=kR.mpr ⟨gL.mpr (aI j),by simp[q]⟩;let z:(Am h H).get? b=none:=W.hideAll_none (NT h H) hm;rw[z]at e;cases e
structure Mod (K:W.Frag)(mg:Str->Option Value)(base:Heap):Prop where
 Js:K.In base
 glob:base.Ns mainGlobals mg
 blt:∃mb,base.Ns builtinsNs mb/\∀x:Str,x≠"__name__"->mb x=bootBuiltins x
 nolimit:base.NoLimit
structure Cx where
 prog:Program
 w:World
 K:W.Frag
 mg:Str->Option Value
 base:Heap
 A:Around
 N:List Str
 s₀:Shared
 H₀:Hp
 env:Env
 outer:List Env
 stack:List Env
 ex:List Addr
 fn:Str->Bool
 calm:Bool
 pn:List (Addr×Obj)
 xe:Value->Shared->Prop
def frs (l:List Env):List Addr:=l.filterMap (·.frame)
abbrev Cx.fs (X:Cx):List Addr:=frs X.outer
def Wu (sc:Scope)(x:Str):Prop:=sc.names.lookup x=some .local\/sc.names.lookup x=some .cell\/sc.names.lookup x=some .free
def Loc (sc:Scope)(x:Str):Prop:=sc.names.lookup x=some .local\/sc.names.lookup x=some .cell
def Look (env:Env)(h:Heap)(m:Str->Option Value)(x:Str)(u:Value):Prop:=(env.kindOf x=some .local/\m x=some u)\/((env.kindOf x=some .cell\/env.kindOf x=some .free)/\∃c,env.cells.lookup x=some c/\h.IsCell c (some u))
structure Cx.Ok (X:Cx):Prop where
 mod:Mod X.K X.mg X.base
 kind:X.env.scope.kind=.function
 glob:X.env.globals=mainGlobals
 blt:X.env.builtins=builtinsNs
 above:X.s₀.heap.objs.size<=X.env.locals
 inj:∀x y c,X.env.cells.lookup x=some c->X.env.cells.lookup y=some c->x=y
 has:∀x,(X.env.kindOf x=some .cell\/X.env.kindOf x=some .free)->∃c,X.env.cells.lookup x=some c
 cab:∀x c,X.fn x=true->X.env.cells.lookup x=some c->X.s₀.heap.objs.size<=c
 hd:X.calm=true->X.A.handled=none
 frames:X.A.frames=some X.stack
 stk:X.stack=X.outer\/(X.stack=X.env::X.outer/\X.env.frame=some X.env.locals)
 exf:∀b∈X.ex,b≠X.env.locals/\∀x c,X.env.cells.lookup x=some c->c≠b
 bs:∀b o,X.base.get? b=some o->X.s₀.heap.get? b=some o/\X.H₀ b=none
 Cw:X.base.objs.size<=X.s₀.heap.objs.size
 Dd:∀b o,X.base.get? b=some o->b∉X.ex
 Ht:∀b∈X.ex,b∉X.fs
 qp:X.s₀.heap.FunFrames X.base X.outer
 Df:∀b∈X.fs,X.H₀ b=none
structure aW (X:Cx)(ao:AE)(σ:List (Option V))(H:Hp)(s:Shared):Prop where
 ok:X.Ok
 os:s.os=X.s₀.os
 bare:AllBare s.gens
 base:Un X.fs X.ex X.H₀ H X.s₀.heap s.heap
 loc:∃m,s.heap.Ns X.env.locals m/\∀(i:Nat) (x:Str) (v:V),X.N[i]?=some x->σ[i]?=some (some v)->Wu X.env.scope x->∃u,cL v u/\Look X.env s.heap m x u
 cell:∀x c,X.env.cells.lookup x=some c->∃v,s.heap.IsCell c v
 free:H X.env.locals=none
 n6:∀x c,X.env.cells.lookup x=some c->H c=none
 pin:∀p∈X.pn++ao,s.heap.get? p.1=some p.2/\H p.1=none/\p.1≠X.env.locals/\p.1∉X.fs/\∀v,p.2.data≠.cell v
 hok:lE X.prog X.w H s.heap
 len:σ.length=X.N.length
section
variable {X:Cx}{ao:AE}{σ:List (Option V)}{H H':Hp}{s:Shared}{h':Heap}
def Cx.Ok.ajX (ok:X.Ok)(e:X.base.get? b=some o):b∉X.fs:=λhb=>by have:=(ok.qp.mem hb).1;rw[e]at this;cases this
def aW.bs (I:aW X ao σ H s):∀b o,X.base.get? b=some o->s.heap.get? b=some o/\H b=none:=λb o e=>⟨I.base.keep b o (I.ok.bs b o e).1 (I.ok.bs b o e).2 (I.ok.ajX e) (I.ok.Dd b o e),I.base.free b o (I.ok.bs b o e).1 (I.ok.bs b o e).2 (I.ok.Dd b o e)⟩
def aW.bk (I:aW X ao σ H s):∀b o,X.base.get? b=some o->s.heap.get? b=some o:=λb o e=>(I.bs b o e).1
def aW.mod (I:aW X ao σ H s):Mod X.K X.mg X.base:=I.ok.mod
def aW.jw (I:aW X ao σ H s):X.K.In s.heap:=I.ok.mod.Js.keeps I.bk
def aW.lt (I:aW X ao σ H s):X.env.locals<s.heap.objs.size:=let ⟨_,hn,_⟩:=I.loc;hn.lt
def aW.sz (I:aW X ao σ H s):X.s₀.heap.objs.size<=s.heap.objs.size:=bP I.ok.above (av I.lt)
def aW.ajY (I:aW X ao σ H s){a:Addr}(h:s.heap.objs.size<=a):a∉X.fs:=λhb=>by let⟨_,o,j,_⟩:=I.ok.qp.mem hb;show absurd (df (aI j) (bP I.sz h)) (ft _)
def aW.NZ (I:aW X ao σ H s):∀x c,X.env.cells.lookup x=some c->c≠X.env.locals:=λx c e z=>by let⟨v,o,F,hd⟩:=I.cell x c e;obtain⟨m,⟨o',es,ep,D,j,_⟩,_⟩:=I.loc;rw[z,D]at F;cases F;rw[j]at hd;cases hd
def aW.qp (I:aW X ao σ H s):s.heap.FunFrames X.base X.outer:=by
 let all:∀(l:List Env),(∀b∈frs l,b∈X.fs)->X.s₀.heap.FunFrames X.base l->s.heap.FunFrames X.base l:=by
  intro l
  induction l with| nil=>intro _ _;trivial| cons env r ih=>intro hs hl;obtain⟨F,⟨L,o,j,hn,G,hd⟩,J⟩:=hl;let D:L∈X.fs:=hs L (by unfold frs;rw[kQ,j];show cv);let⟨sl,e⟩:=I.base.slot L o G (I.ok.Df L D) D λz=>I.ok.Ht L z D;show⟨F,⟨L,_,j,hn,e,hd⟩,ih (λb hb=>hs b (by unfold frs;rw[kQ,j];show bz _ hb)) J⟩
 show all X.outer (λ_ hb=>hb) I.ok.qp
def aW.stack (I:aW X ao σ H s):s.heap.FunFrames X.base X.stack:=by
 rcases I.ok.stk with e|⟨e,j⟩;.rw[e];show I.qp
 .rw[e];let⟨m,hn,_⟩:=I.loc;calc .cons (by rw[I.ok.kind];decide) j hn ?_ I.qp;show Heap.get?_none_of_le (bP I.ok.Cw I.ok.above)
def aW.Jt (I:aW X ao σ H s):∀b∈frs X.stack,b∈X.env.locals::X.fs:=λb hb=>by
 rcases I.ok.stk with e|⟨e,j⟩;.rw[e]at hb;show bz _ hb
 .rw[e]at hb;unfold frs at hb;rw[kQ,j]at hb;show hb
def aW.zO (I:aW X ao σ H s):∀b∈frs X.stack,H b=none:=λb hb=>by
 rcases bX.mp (I.Jt b hb) with e|hb;.rw[e];show I.free
 .let⟨_,o,j,_⟩:=I.ok.qp.mem hb;show I.base.free b o j (I.ok.Df b hb) λz=>I.ok.Ht b z hb
def aW.step {g':Array GenState}{t':Nat}{d':Drawn}{ch:List Addr}(I:aW X ao σ H s)(F:∀b∈ch,(b∈X.ex\/X.s₀.heap.objs.size<=b)/\b≠X.env.locals/\(∀x c,X.env.cells.lookup x=some c->c≠b)/\∀p∈X.pn++ao,p.1≠b)(keep:∀b o,b≠X.env.locals->b∉X.fs->b∉ch->s.heap.get? b=some o->H b=none->h'.get? b=some o)(slot:∀b o,b≠X.env.locals->b∈X.fs->b∉ch->s.heap.get? b=some o->H b=none->∃sl,h'.get? b=some {o with slots:=sl})(free:∀b o,b∉ch->s.heap.get? b=some o->H b=none->H' b=none)(there:∀b o,b∉ch->s.heap.get? b=some o->∃o',h'.get? b=some o')(tups:∀b xs,H b=some (.tup xs)->H' b=some (.tup xs))(qW:∀b o u,H b=some (.qx o u)->H' b=some (.qx o u))(rH:∀b ps,H b=some (.NQ ps)->∃more,H' b=some (.NQ (ps++more)))(ns:∀m,s.heap.Ns X.env.locals m->h'.Ns X.env.locals m)(hok:lE X.prog X.w H' h')(hg:AllBare g'):aW X ao σ H' {s with heap:=h',gens:=g',drawn:=d',toks:=t' }:=by
 let J:∀b o,X.s₀.heap.get? b=some o->b≠X.env.locals:=λb o e=>cq (df (aI e) I.ok.above);let O:∀b o,X.s₀.heap.get? b=some o->b∉X.ex->b∉ch:=λb o e hx hb=>by
  rcases(F b hb).1 with z|z;.show hx z
  .show absurd (df (aI e) z) (ft _)
 let j:∀x c,X.env.cells.lookup x=some c->∀v,s.heap.IsCell c v->h'.IsCell c v:=λx c e v ⟨o,G,hd⟩=>by
  let D:c∉ch:=λz=>(F c z).2.2.1 x c e rfl;by_cases hc:c∈X.fs
  .let⟨sl,q⟩:=slot c o (I.NZ x c e) hc D G (I.n6 x c e);show⟨_,q,hd⟩
  .show⟨o,keep c o (I.NZ x c e) hc D G (I.n6 x c e),hd⟩
 calc⟨I.ok,I.os,hg,⟨λb o e n hb hx=>?_,λb o e n hb hx=>?_,λb o e n hx=>?_,λb o e hx=>?_,λb xs e=>tups b xs (I.base.tups b xs e),λb o xs e=>qW b o xs (I.base.qW b o xs e),λb ps e=>?_⟩,?_,λx c e=>?_,?_,λx c e=>?_,λp hp=>?_,hok,I.len⟩;.show keep b o (J b o e) hb (O b o e hx) (I.base.keep b o e n hb hx) (I.base.free b o e n hx)
 .let⟨sl,e1⟩:=I.base.slot b o e n hb hx;let⟨Y,e2⟩:=slot b _ (J b o e) hb (O b o e hx) e1 (I.base.free b o e n hx);show⟨Y,e2⟩
 .let⟨o',e1⟩:=I.base.there b o e hx;show free b o' (O b o e hx) e1 (I.base.free b o e n hx)
 .let⟨o',e1⟩:=I.base.there b o e hx;show there b o' (O b o e hx) e1
 .let⟨m1,e1⟩:=I.base.rH b ps e;let⟨m2,e2⟩:=rH b _ e1;show⟨m1++m2,by rw[e2,Array.append_assoc]⟩
 .let⟨m,hn,hl⟩:=I.loc;calc⟨m,ns m hn,λi x v e1 e2 e3=>?_⟩;let⟨u,r,l⟩:=hl i x v e1 e2 e3;calc⟨u,r,?_⟩;rcases l with l|⟨k,c,e,z⟩;.show .inl l
  .show .inr ⟨k,c,e,j x c e _ z⟩
 .let⟨v,z⟩:=I.cell x c e;show⟨v,j x c e v z⟩
 .obtain⟨m,⟨o,_,_,G,_⟩,_⟩:=I.loc;show free _ o (λz=>(F _ z).2.1 rL) G I.free
 .let⟨v,o,G,hd⟩:=I.cell x c e;show free c o (λz=>(F c z).2.2.1 x c e rL) G (I.n6 x c e)
 .let⟨e,n,ne,Z,d⟩:=I.pin p hp;let D:p.1∉ch:=λz=>(F p.1 z).2.2.2 p hp rfl;show⟨keep p.1 p.2 ne Z D e n,free p.1 p.2 D e n,ne,Z,d⟩
def aW.un (I:aW X ao σ H s)(u:Un X.fs [] H H' s.heap h')(hok:lE X.prog X.w H' h'):aW X ao σ H' {s with heap:=h',toks:=t' }:=by
 obtain⟨m,⟨o,es,ep,G,r⟩,_⟩:=id I.loc;let⟨sl,O⟩:=u.any G I.free qk;show I.step (g':=s.gens) (d':=s.drawn) (ch:=[]) (λ_ z=>nomatch z) (λb o _ hb _ e n=>u.keep b o e n hb qk) (λb o _ hb _ e n=>u.slot b o e n hb qk) (λb o _ e n=>u.free b o e n qk) (λb o _ e=>u.there b o e qk) u.tups u.qW u.rH (λY hm=>by let⟨o',D,F,j,J⟩:=hm;rw[G]at j;cases j;show⟨_,D,F,O,J⟩) hok I.bare
def aW.call (I:aW X ao σ H s)(u:Un (frs X.stack) ch H H' s.heap h')(hok:lE X.prog X.w H' h')(hg:AllBare g')(F:∀b∈ch,(b∈X.ex\/X.s₀.heap.objs.size<=b)/\b≠X.env.locals/\(∀x c,X.env.cells.lookup x=some c->c≠b)/\∀p∈X.pn++ao,p.1≠b):aW X ao σ H' {s with heap:=h',gens:=g',drawn:=d',toks:=t' }:=by
 obtain⟨m,⟨o,es,ep,Y,r⟩,_⟩:=id I.loc;let⟨sl,J⟩:=u.any Y I.free λz=>(F _ z).2.1 rfl;show I.step (ch:=ch) F (λb o J hb j e n=>u.keep b o e n (λz=>(bX.mp (I.Jt b z)).elim J hb) j) (λb o _ _ j e n=>u.any e n j) (λb o j e n=>u.free b o e n j) (λb o j e=>u.there b o e j) u.tups u.qW u.rH (λm' hm=>by let⟨o',G,O,D,Z⟩:=hm;rw[Y]at D;cases D;show⟨_,G,O,J,Z⟩) hok hg
def aW.turned (I:aW X ao σ H s)(k:∀b o,b≠it->s.heap.get? b=some o->h'.get? b=some o)(hn:H it=none)(F:it≠X.env.locals)(h1:it∈X.ex\/X.s₀.heap.objs.size<=it)(h2:∀x c,X.env.cells.lookup x=some c->c≠it)(h3:∀p∈X.pn++ao,p.1≠it):aW X ao σ H {s with heap:=h',toks:=t' }:=by
 let D:∀b u,H b=some u->b≠it:=λb u e z=>by rw[z,hn]at e;cases e
 refine I.step (g':=s.gens) (d':=s.drawn) (ch:=[it]) (λb hb=>?_) (λb o _ _ j e _=>k b o (λz=>j (by simp[z])) e) (λb o _ _ j e _=>⟨o.slots,k b o (λz=>j (by simp[z])) e⟩) (λ_ _ _ _ n=>n)
  (λb o j e=>⟨o,k b o (λz=>j (by simp[z])) e⟩) (λ_ _ e=>e) (λ_ _ _ e=>e) (λb ps e=>⟨#[],by rw[e];simp⟩) (λm hm=>?_) (λb u e=>?_) I.bare
 .let e:b=it:=by simpa using hb
  subst e;show⟨h1,F,h2,h3⟩
 .let⟨o,es,ep,G,r⟩:=hm;show⟨o,es,ep,k _ o (gu F) G,r⟩
 .refine(I.hok b u e).stay (λc v j q=>k c v ?_ q) (λ_ q=>q) λ_ _ q=>q
  rcases j with z|z;.rw[z];show D b u e
  .show D c _ z
def aW.tok (I:aW X ao σ H s)(t):aW X ao σ H {s with toks:=t}:=I.un (h':=s.heap) (t':=t) Un.refl I.hok
def aW.kept (I:aW X ao σ H s)(k:∀b u,s.heap.get? b=some u->h'.get? b=some u):aW X ao σ H {s with heap:=h',toks:=t' }:=I.un (Un.kept k) (I.hok.kept k)
def aW.laid {a:Addr}{o:HO}{t':Nat}(I:aW X ao σ H s)(k:∀b u,s.heap.get? b=some u->h'.get? b=some u)(hp:s.heap.objs.size<=a)(new:gA X.prog X.w (upd H a o) h' a o):aW X ao σ (upd H a o) {s with heap:=h',toks:=t' }:=I.un (Un.laid k hp (I.hok.fresh hp)) (I.hok.laid k hp new)
def aW.write (I:aW X ao σ H s)(F:Mut (H x))(D:e=x\/H e=some (.own x))(k:∀b u,b≠e->s.heap.get? b=some u->h'.get? b=some u)(j:∃u,h'.get? e=some u)(new:gA X.prog X.w (upd H x o) h' x o):aW X ao σ (upd H x o) {s with heap:=h',toks:=t' }:=I.un (Un.write F D k j) (I.hok.write F D k j new)
def aW.Wv (I:aW X ao σ H s)(h:∀p∈Ju,s.heap.get? p.1=some p.2/\H p.1=none/\p.1≠X.env.locals/\p.1∉X.fs/\∀v,p.2.data≠.cell v):aW X Ju σ H s:=⟨I.ok,I.os,I.bare,I.base,I.loc,I.cell,I.free,I.n6,λp hp=>(bv.mp hp).elim (λz=>I.pin p (mI _ z)) (h p),I.hok,I.len⟩
def Rg {N:List Str}(D:N.Nodup){i j:Nat}{x:Str}(a:N[i]?=some x)(b:N[j]?=some x):i=j:=by let⟨h1,e1⟩:=ah.mp a;let⟨h2,e2⟩:=ah.mp b;show(List.getElem_inj D).mp (e1.trans e2.symm)
def N6 (I:aW X ao σ H s)(hN:X.N.Nodup)(hi:X.N[i]?=some x)(hx:Loc X.env.scope x)(r:cL v u)(h:∀s',aW X ao (σ.set i (some v)) H s'->(∃a,Heap.SameBut a s.heap s'.heap/\(a=X.env.locals\/X.env.cells.lookup x=some a))->(∃m,s'.heap.Ns X.env.locals m/\Look X.env s'.heap m x u)->Q () s')(hf:X.fn x=true\/X.env.scope.names.lookup x=some .local:=by first|show .inl rfl|show .inr rfl|assumption):wpAny M A (storeName X.env x u) Q E s:=by
 let⟨m,hn,hl⟩:=id I.loc;let hcls:(X.env.scope.kind == .class||(X.env.scope.kind == .module&&X.env.locals != X.env.globals))=false:=by rw[I.ok.kind];rfl
 let hiσ:i<σ.length:=by rw[I.len];show(ah.mp hi).1
 let NZ:=I.NZ;let D:∀{a:Addr} {h':Heap},(∃o,s.heap.get? a=some o/\H a=none)->Heap.SameBut a s.heap h'->lE X.prog X.w H h':=λ{a h'} ha hs b ob e=>by
  let⟨_,_,G⟩:=ha;calc(I.hok b ob e).stay (λc w' F q=>(hs.2 c ?_).trans q) (λ_ q=>q) λ_ _ q=>q;rintro rfl;rcases F with rfl|F
  .rw[G]at e;cases e
  .rw[G]at F;cases F
 rcases hx with hk|hk
 .calc wpAny_storeName_local hk hn (λh' Z hs=>?_) hcls;let⟨oL,_,_,hoL,_⟩:=id hn;calc h _ ⟨I.ok,I.os,I.bare,⟨λb o e n hb hx=>?_,λb o e n hb hx=>?_,I.base.free,λb o e hx=>?_,I.base.tups,I.base.qW,I.base.rH⟩,⟨_,Z,λj y v' e1 e2 e3=>?_⟩,λy c e=>?_,I.free,I.n6,λp hp=>?_,D ⟨oL,hoL,I.free⟩ hs,by simpa using I.len⟩ ⟨_,hs,.inl rL⟩ ⟨_,Z,.inl ⟨hk,qk⟩⟩;.show(hs.2 b (cq (df (aI e) I.ok.above))).trans (I.base.keep b o e n hb hx)
  .let⟨sl,e1⟩:=I.base.slot b o e n hb hx;show⟨sl,(hs.2 b (cq (df (aI e) I.ok.above))).trans e1⟩
  .let⟨o',e1⟩:=I.base.there b o e hx;show⟨o',(hs.2 b (cq (df (aI e) I.ok.above))).trans e1⟩
  .by_cases J:j=i
   .subst J;rw[hi]at e1;cases e1;rw[ke hiσ]at e2;cases e2;show⟨u,r,.inl ⟨hk,qk⟩⟩
   .rw[mM (gu J)]at e2;let⟨u',r',q⟩:=hl j y v' e1 e2 e3;calc⟨u',r',?_⟩;rcases q with⟨k,e⟩|⟨k,c,e,z⟩
    .calc .inl ⟨k,?_⟩;have:y≠x:=λe=>J (Rg hN e1 (e ▸ hi));simp[this,e]
    .show .inr ⟨k,c,e,z.sameBut hs (NZ y c e)⟩
  .let⟨w',z⟩:=I.cell y c e;show⟨w',z.sameBut hs (NZ y c e)⟩
  .let⟨e,n,ne,nf,d⟩:=I.pin p hp;show⟨(hs.2 p.1 ne).trans e,n,ne,nf,d⟩
 .let Y:X.fn x=true:=by
   rcases hf with z|z;.show z
   .rw[z]at hk;cases hk
  let⟨c,F⟩:=I.ok.has x (.inl hk);let⟨w',z⟩:=I.cell x c F;calc wpAny_storeName_cell I.ok.kind hk F z (λh' O hs=>?_);let⟨oc,hoc,ajZ⟩:=id z;calc h {s with heap:=h' } ⟨I.ok,I.os,I.bare,⟨λb o e n hb hx=>?_,λb o e n hb hx=>?_,I.base.free,λb o e hx=>?_,I.base.tups,I.base.qW,I.base.rH⟩,⟨m,hn.sameBut hs (gu (NZ x c F)),λj y v' e1 e2 e3=>?_⟩,λy c' e=>?_,I.free,I.n6,λp hp=>?_,D ⟨oc,hoc,I.n6 x c F⟩ hs,by simpa using I.len⟩ ⟨c,hs,.inr F⟩ ⟨m,hn.sameBut hs (gu (NZ x c F)),.inr ⟨.inl hk,c,F,O⟩⟩;.show(hs.2 b (cq (df (aI e) (I.ok.cab x c Y F)))).trans (I.base.keep b o e n hb hx)
  .let⟨sl,e1⟩:=I.base.slot b o e n hb hx;show⟨sl,(hs.2 b (cq (df (aI e) (I.ok.cab x c Y F)))).trans e1⟩
  .let⟨o',e1⟩:=I.base.there b o e hx;show⟨o',(hs.2 b (cq (df (aI e) (I.ok.cab x c Y F)))).trans e1⟩
  .by_cases J:j=i
   .subst J;rw[hi]at e1;cases e1;rw[ke hiσ]at e2;cases e2;show⟨u,r,.inr ⟨.inl hk,c,F,O⟩⟩
   .rw[mM (gu J)]at e2;let⟨u',r',q⟩:=hl j y v' e1 e2 e3;calc⟨u',r',?_⟩;rcases q with q|⟨k,c',e,z'⟩;.show .inl q
    .calc .inr ⟨k,c',e,z'.sameBut hs ?_⟩;rintro rfl;show J (Rg hN e1 (I.ok.inj _ _ _ e F ▸ hi))
  .by_cases hcc:c'=c;.subst hcc;show⟨_,O⟩
   .let⟨w2,z2⟩:=I.cell y c' e;show⟨w2,z2.sameBut hs hcc⟩
  .let⟨e,n,ne,nf,d⟩:=I.pin p hp;calc⟨(hs.2 p.1 ?_).trans e,n,ne,nf,d⟩;intro q;rw[q,hoc]at e;let q':oc=p.2:=bo e;show d w' (by rw[<-q'];show ajZ)
def Rh (I:aW X ao σ H s)(D:X.N.Nodup)(hi:X.N[i]?=some x)(hx:Loc X.env.scope x)(r:cL v u)(h:∀s',aW X ao (σ.set i (some v)) H s'->Q () s')(j:X.fn x=true\/X.env.scope.names.lookup x=some .local:=by first|show .inl rfl|show .inr rfl|assumption):wpAny M A (storeName X.env x u) Q E s:=N6 I D hi hx r (λs' F _ _=>h s' F) j
def aW.call' {s':Shared}(I:aW X ao σ H s)(D:s'.os=s.os)(u:Un (frs X.stack) ch H H' s.heap s'.heap)(hok:lE X.prog X.w H' s'.heap)(F:AllBare s'.gens)(j:∀b∈ch,(b∈X.ex\/X.s₀.heap.objs.size<=b)/\b≠X.env.locals/\(∀x c,X.env.cells.lookup x=some c->c≠b)/\∀p∈X.pn++ao,p.1≠b):aW X ao σ H' s':=by let⟨h',g',d',t',o'⟩:=s';let e:o'=s.os:=D;subst e;show I.call (g':=g') (t':=t') (d':=d') u hok F j
end
abbrev XK:=Value->Option Addr->Hp->Prop
abbrev St:=List (Option V)
abbrev VK:=V->Hp->Prop
abbrev TE:=St->Hp->VK->Prop
abbrev TT:=St->Hp->(Bool->Hp->Prop)->Prop
abbrev TA:=St->Hp->(List V->Hp->Prop)->Prop
structure Ends where
 nx:St->Hp->Prop
 rt:VK
 bk:St->Hp->Prop:=λ_ _=>False
 ct:St->Hp->Prop:=λ_ _=>False
abbrev TS:=Ends->St->Hp->Prop
def EP (X:Cx)(ao:AE)(σ:St)(Q:VK)(u:Value)(s':Shared):Prop:=∃v H',aW X ao σ H' s'/\cL v u/\Q v H'
def TP (X:Cx)(ao:AE)(σ:St)(Q:Bool->Hp->Prop)(b:Bool)(s':Shared):Prop:=∃H',aW X ao σ H' s'/\Q b H'
def AP (X:Cx)(ao:AE)(σ:St)(Q:List V->Hp->Prop)(us:List Value)(s':Shared):Prop:=∃vs H',aW X ao σ H' s'/\Vals vs us/\Q vs H'
def SP (X:Cx)(ao:AE)(D:Ends)(f:Flow)(s':Shared):Prop:=match f with| .next=>∃σ' H',aW X ao σ' H' s'/\D.nx σ' H'| .brk=>∃σ' H',aW X ao σ' H' s'/\D.bk σ' H'| .cont=>∃σ' H',aW X ao σ' H' s'/\D.ct σ' H'| .ret u=>∃v σ' H',aW X ao σ' H' s'/\cL v u/\D.rt v H'
def PE (X:Cx)(e:Expr)(t:TE):Prop:=∀(ao:AE) (s:Shared) (σ:St) (H:Hp) (Q:VK),aW X ao σ H s->t σ H Q->wpAny (model X.prog X.w) X.A (eval e X.env) (EP X ao σ Q) X.xe s
def PT (X:Cx)(e:Expr)(t:TT):Prop:=∀(ao:AE) (s:Shared) (σ:St) (H:Hp) (Q:Bool->Hp->Prop),aW X ao σ H s->t σ H Q->wpAny (model X.prog X.w) X.A (isTrue e X.env (eval e X.env)) (TP X ao σ Q) X.xe s
def PW (X:Cx)(e:Expr)(t:TT):Prop:=∀(j:Sem Value) (ao:AE) (s:Shared) (σ:St) (H:Hp) (Q:Bool->Hp->Prop),aW X ao σ H s->t σ H Q->wpAny (model X.prog X.w) X.A (isTrue e X.env j) (TP X ao σ Q) X.xe s
def PW.pt (h:PW X e t):PT X e t:=h _
def PA (X:Cx)(es:List Expr)(t:TA):Prop:=∀(pos:Pos) (ao:AE) (s:Shared) (σ:St) (H:Hp) (Q:List V->Hp->Prop),aW X ao σ H s->t σ H Q->wpAny (model X.prog X.w) X.A (spliced (backTo pos (starEach es X.env))) (AP X ao σ Q) X.xe s
def PS (X:Cx)(st:Stmt)(t:TS):Prop:=∀(ao:AE) (s:Shared) (σ:St) (H:Hp) (D:Ends),aW X ao σ H s->t D σ H->wpAny (model X.prog X.w) X.A (exec st X.env) (SP X ao D) X.xe s
def wO (X:Cx)(st:List Stmt)(t:TS):Prop:=∀(ao:AE) (s:Shared) (σ:St) (H:Hp) (D:Ends),aW X ao σ H s->t D σ H->wpAny (model X.prog X.w) X.A (execs st X.env) (SP X ao D) X.xe s
def cH {α:Type}{t:Sem α}{Q j:α->Shared->Prop}(h:wpAny M A t Q E s)(D:∀a s,Q a s->j a s):wpAny M A t j E s:=e_ h D λ_ _ x=>x
section
variable {X:Cx}
def YC (i:Nat):TE:=λσ H Q=>∃v,σ[i]?=some (some v)/\Q v H
def tC (v:V):TE:=λ_ H Q=>Q v H
def agI {i:Nat}{x:Str}{pos:Pos}(O:X.N[i]?=some x)(Y:Wu X.env.scope x)(hd:(x==("__debug__":Str))=false:=by decide)(G:(x==("__classdict__":Str))=false:=by decide):PE X (.Name x pos) (YC i):=by
 intro ao s σ H Q I h;let⟨v,e,h⟩:=h;let⟨m,hn,hl⟩:=I.loc;let⟨u,r,l⟩:=hl i x v O e Y;let F:EP X ao σ Q u s:=⟨v,H,I,r,h⟩
 rcases l with⟨D,hm⟩|⟨D,c,J,j⟩;.show mP (wpAny_loadName_local I.ok.kind D hn hm F) hd
 .rcases D with D|D;.show mP (wpAny_loadName_cell I.ok.kind D J j F) hd
  .show mP (wpAny_loadName_free I.ok.kind D J j F G) hd
def agJ {i j pos}:PE X (.Constant (.int i) j pos) (tC (.int i)):=λ_ _ _ H _ I h=>wpAny_Constant_int ⟨.int i,H,I.tok _,⟨_,rL⟩,h⟩
def ai_ {b j pos}:PE X (.Constant (.bool b) j pos) (tC (.bl b)):=λ_ _ _ H _ I h=>Constant_bool ⟨.bl b,H,I,rL,h⟩
def agK {x j pos}:PE X (.Constant (.str x) j pos) (tC (.str x)):=λ_ _ _ H _ I h=>Calls.Constant_str ⟨.str x,H,I.tok _,⟨_,rL⟩,h⟩
def Gl (X:Cx)(x:Str):Prop:=X.env.kindOf x=some .globalImplicit
def pO {E:AD}{ao:AE}{s:Shared}{σ:St}{H:Hp}{x:Str}{u:Value}{pos:Pos}{Q:AD}(I:aW X ao σ H s)(j:Gl X x)(hm:X.mg x=some u)(h:Q u s)(hd:(x==("__debug__":Str))=false:=by decide):wpAny (model X.prog X.w) X.A (eval (.Name x pos) X.env) Q E s:=Calls.Name_function_global I.ok.kind j (Calls.loadGlobal_global (by rw[I.ok.glob];show I.mod.glob.keeps I.bk) hm h) hd
def rJ {E:AD}{ao:AE}{s:Shared}{σ:St}{H:Hp}{x:Str}{u:Value}{pos:Pos}{Q:AD}(I:aW X ao σ H s)(D:Gl X x)(hm:X.mg x=none)(j:bootBuiltins x=some u)(h:Q u s)(hn:x≠"__name__":=by decide)(hd:(x==("__debug__":Str))=false:=by decide):wpAny (model X.prog X.w) X.A (eval (.Name x pos) X.env) Q E s:=by let⟨mb,h1,h2⟩:=I.mod.blt;show Calls.Name_function_global I.ok.kind D (Calls.loadGlobal_builtin (by rw[I.ok.glob];show I.mod.glob.keeps I.bk) hm (by rw[I.ok.blt];show h1.keeps I.bk) ((h2 x hn).trans j) h) hd
def aeX (j:Gl X x)(hm:X.mg x=some u)(r:cL v u)(hd:(x==("__debug__":Str))=false:=by decide):PE X (.Name x pos) (tC v):=λ_ _ _ H _ I h=>pO I j hm ⟨v,H,I,r,h⟩ hd
def aeY {x:Str}{v:V}{u:Value}{pos:Pos}(D:Gl X x)(hm:X.mg x=none)(j:bootBuiltins x=some u)(r:cL v u)(hn:x≠"__name__":=by decide)(hd:(x==("__debug__":Str))=false:=by decide):PE X (.Name x pos) (tC v):=λ_ _ _ H _ I h=>rJ I D hm j ⟨v,H,I,r,h⟩ hn hd
variable {a b:Expr}{ta tb:TE}{pos:Pos}
def PC (X:Cx)(op:CmpOp)(a b:Expr)(t:TE):Prop:=∀(ao:AE) (s:Shared) (σ:St) (H:Hp) (Q:VK),aW X ao σ H s->t σ H Q->
  wpAny (model X.prog X.w) X.A (eval a X.env) (λv D=>wpAny (model X.prog X.w) X.A (eval b X.env) (λu j=>wpAny (model X.prog X.w) X.A (compareOp op v u) (EP X ao σ Q) X.xe j) X.xe D) X.xe s
def tB (t:TE):TT:=λσ H Q=>t σ H λx H1=>∃c,x=.bl c/\Q c H1
def agL (h:PC X op a b t)(h1:behindInMarks op b=false:=by first|show acB _ qo qo|rfl):PE X (.Compare a [op] [b] pos) t:=λao s σ H Q I hw=>wpAny_Compare1 (h ao s σ H Q I hw) h1
def agM (h:PE X e t)(G:∀j,isTrue e X.env j=(do let v <- j;standAt e.pos;holding [v] (truthy v)):=by intro _;rfl):PT X e (tB t):=by intro ao s σ H Q I hw;calc isTrue_plain (cH (h ao s σ H _ I hw) λv s1 D=>?_) (G _);let⟨x,H1,F,r1,q1⟩:=D;let⟨d,rfl,q⟩:=q1;cases r1;show fg ⟨H1,F,q⟩
variable {tA qy:TT}{rest:List Expr}
def agN (t u:TT):TT:=λσ H Q=>t σ H λc H1=>if c=true then u σ H1 Q else Q false H1
def tOr (t u:TT):TT:=λσ H Q=>t σ H λc H1=>if c=true then Q true H1 else u σ H1 Q
def agO (t:TT):TT:=λσ H Q=>t σ H λc H1=>Q (!c) H1
def aeZ (ha:PT X a tA):PW X (.BoolOp .And [a] pos) tA:=by
 intro j ao s σ H Q I h;calc isTrue_and (cH (ha ao s σ H Q I h) λc s1 e=>?_);cases c with| true=>show isTrue_and_nil e| false=>show e
def agP (ha:PT X a tA):PW X (.BoolOp .Or [a] pos) tA:=by
 intro j ao s σ H Q I h;calc isTrue_or (cH (ha ao s σ H Q I h) λc s1 e=>?_);cases c with| false=>show isTrue_or_nil e| true=>show e
def agQ (ha:PT X a tA)(hb:PW X (.BoolOp .And (b::rest) pos) qy):PW X (.BoolOp .And (a::b::rest) pos) (agN tA qy):=by
 intro D ao s σ H Q I h;calc isTrue_and (cH (ha ao s σ H _ I h) λc s1 F=>?_);let⟨H1,j,q1⟩:=F;cases c with| true=>show hb D ao s1 σ H1 Q j q1| false=>show⟨H1,j,q1⟩
def aja (ha:PT X a tA)(hb:PW X (.BoolOp .Or (b::rest) pos) qy):PW X (.BoolOp .Or (a::b::rest) pos) (tOr tA qy):=by
 intro D ao s σ H Q I h;calc isTrue_or (cH (ha ao s σ H _ I h) λc s1 F=>?_);let⟨H1,j,q1⟩:=F;cases c with| true=>show⟨H1,j,q1⟩| false=>show hb D ao s1 σ H1 Q j q1
def agR (ha:PT X a tA):PT X (.UnaryOp .Not a pos) (agO tA):=by intro ao s σ H Q I h;show isTrue_not (ha ao s σ H (λc H1=>Q (!c) H1) I h)
def aep (ta tb:TE):TE:=λσ H Q=>ta σ H λx H1=>∃c,x=.bl c/\if c=true then tb σ H1 Q else Q (.bl false) H1
def agS (ta tb:TE):TE:=λσ H Q=>ta σ H λx H1=>∃c,x=.bl c/\if c=true then Q (.bl true) H1 else tb σ H1 Q
def aer (ta:TE):TE:=λσ H Q=>ta σ H λx H1=>∃c,x=.bl c/\Q (.bl (!c)) H1
def agT {op}(h:PE X a t):PE X (.BoolOp op [a] pos) t:=λao s σ H Q I hw=>BoolOp_one (h ao s σ H Q I hw)
def agU (ha:PE X a ta)(hb:PE X (.BoolOp .And (b::rest) pos) tb):PE X (.BoolOp .And (a::b::rest) pos) (aep ta tb):=by
 intro ao s σ H Q I h;calc BoolOp_and (cH (ha ao s σ H _ I h) λv s1 D=>?_);let⟨x,H1,j,r1,q1⟩:=D;let⟨c,rfl,q1⟩:=q1;cases r1;calc fg ?_;cases c with| true=>show hb ao s1 σ H1 Q j q1| false=>show⟨.bl false,H1,j,rL,q1⟩
def ajb (ha:PE X a ta)(hb:PE X (.BoolOp .Or (b::rest) pos) tb):PE X (.BoolOp .Or (a::b::rest) pos) (agS ta tb):=by
 intro ao s σ H Q I h;calc BoolOp_or (cH (ha ao s σ H _ I h) λv s1 D=>?_);let⟨x,H1,j,r1,q1⟩:=D;let⟨c,rfl,q1⟩:=q1;cases r1;calc fg ?_;cases c with| false=>show hb ao s1 σ H1 Q j q1| true=>show⟨.bl true,H1,j,rL,q1⟩
def agV (ha:PE X a ta):PE X (.UnaryOp .Not a pos) (aer ta):=by intro ao s σ H Q I h;calc UnaryOp_ (cH (ha ao s σ H _ I h) λv s1 j=>?_);let⟨x,H1,D,r1,q1⟩:=j;let⟨c,rfl,q1⟩:=q1;cases r1;show not_of (fg ⟨.bl (!c),H1,D,rL,q1⟩)
def tIf (t:TT)(ta tb:TE):TE:=λσ H Q=>t σ H λc H1=>if c=true then ta σ H1 Q else tb σ H1 Q
def acC (D:PT X c tA)(ha:PE X a ta)(hb:PE X b tb):PE X (.IfExp c a b pos) (tIf tA ta tb):=by
 intro ao s σ H Q I h;calc wpAny_IfExp (cH (D ao s σ H _ I h) λd s1 F=>?_);let⟨H1,j,q1⟩:=F;cases d with| true=>show ha ao s1 σ H1 Q j q1| false=>show hb ao s1 σ H1 Q j q1
end
def bH (K:W.Frag)(H:Hp)(a:Addr)(xs:List V):Prop:=Rd H a (.lst xs)\/
  ∃(o:Obj) (its:Array Value) (n:Nat),K.lookup a=some o/\o.cls=.type "list"/\o.dict=none/\o.data=.seq its n/\its.size<=sizeLine/\Vals xs its.toList
def aU (K:W.Frag)(H:Hp)(a:Addr)(xs:List V):Prop:=Rd H a (.tup xs)\/
  ∃(o:Obj) (its:Array Value) (n:Nat),K.lookup a=some o/\o.cls=.type "tuple"/\o.data=.seq its n/\its.size<=sizeLine/\Vals xs its.toList
noncomputable def aj0:Value->Option V
 | .none=>some .non
 | .bool b=>some (.bl b)
 | .int i _=>some (.int i)
 | .str x _=>some (.str x)
 | .bytes b _=>some (.Cv b)
 | .float b _=>some (.flt b)
 | .ref a=>some (.ref a)
 | .type n=>some (.ty n)
 | _=>none
def cL.abs (r:cL x u):aj0 u=some x:=by
 cases x with
 | non=>cases r;rfl
 | bl _=>cases r;rfl
 | int _=>let⟨t,rfl⟩:=r;rfl
 | str _=>let⟨t,rfl⟩:=r;rfl
 | Cv _=>let⟨t,rfl⟩:=r;rfl
 | flt _=>let⟨t,rfl⟩:=r;rfl
 | ref _=>cases r;rfl
 | ty _=>cases r;rfl
def cL.inj (r:cL x u)(q:cL y u):x=y:=bo (r.abs.symm.trans q.abs)
theorem Vals.inj:∀{xs ys:List V} {us:List Value},Vals xs us->Vals ys us->xs=ys
 | _,_,_,.nil,.nil=>rfl
 | _,_,_,.cons r t,.cons r' t'=>by rw[r.inj r',Vals.inj t t']
section
variable {X:Cx}{ao:AE}{σ:St}{H:Hp}{s:Shared}{a:Addr}{xs ys:List V}
def bH.of {K:W.Frag}(h:H a=some (.lst xs)):bH K H a xs:=.inl (.inl h)
def aU.of {K:W.Frag}(h:H a=some (.tup xs)):aU K H a xs:=.inl (.inl h)
def aW.list (I:aW X ao σ H s)(h:bH X.K H a xs):∃its:List Value,Vals xs its/\PlainL s.heap a its.toArray/\xs.length<=sizeLine:=by
 rcases h with h|⟨o,its,n,j,D,hd,hs,hz,r⟩
 .let⟨z,its,n,r,e⟩:=h.ok I.hok;show⟨its,r,⟨_,n,e,rL,rL,rL⟩,z⟩
 .calc⟨its.toList,r,⟨o,n,I.jw a o j,D,hd,by simpa using hs⟩,?_⟩;let e:=r.length;simp only[fA]at e;lia
def aW.tuple (I:aW X ao σ H s)(h:aU X.K H a xs):∃its:List Value,Vals xs its/\IsTup s.heap a its.toArray/\xs.length<=sizeLine:=by
 rcases h with h|⟨o,its,n,j,D,hs,hz,r⟩
 .let⟨z,its,r,p⟩:=h.ok I.hok;show⟨its,r,p,z⟩
 .calc⟨its.toList,r,⟨o,I.jw a o j,D,n,by simpa using hs⟩,?_⟩;let e:=r.length;simp only[fA]at e;lia
def aW.Hu (I:aW X ao σ H s)(h:bH X.K H a xs)(h':bH X.K H a ys):xs=ys:=by
 obtain⟨its,r,⟨o,n,e,_,_,d⟩,_⟩:=I.list h;obtain⟨its',D,⟨o',F,j,_,_,d'⟩,_⟩:=I.list h';rw[e]at j;cases j;rw[d]at d';injection d' with d1 _;have:its=its':=by simpa using congrArg Array.toList d1
 subst this;show r.inj D
def aW.aaA (I:aW X ao σ H s)(h:aU X.K H a xs)(h':aU X.K H a ys):xs=ys:=by
 obtain⟨its,r,⟨o,e,_,n,d⟩,_⟩:=I.tuple h;obtain⟨its',D,⟨o',j,_,F,d'⟩,_⟩:=I.tuple h';rw[e]at j;cases j;rw[d]at d';injection d' with d1 _;have:its=its':=by simpa using congrArg Array.toList d1
 subst this;show r.inj D
end
abbrev Cx.wish (X:Cx)(E:AD):Cx:={X with xe:=E}
abbrev Cx.Ri (X:Cx):Cx:=X.wish λ_ _=>False
def Cx.Ok.wish {X:Cx}(ok:X.Ok)(E:AD):(X.wish E).Ok:=⟨ok.mod,ok.kind,ok.glob,ok.blt,ok.above,ok.inj,ok.has,ok.cab,ok.hd,ok.frames,ok.stk,ok.exf,ok.bs,ok.Cw,ok.Dd,ok.Ht,ok.qp,ok.Df⟩
def Cx.Ok.uX {X:Cx}(ok:(X.wish E).Ok):X.Ok:=⟨ok.mod,ok.kind,ok.glob,ok.blt,ok.above,ok.inj,ok.has,ok.cab,ok.hd,ok.frames,ok.stk,ok.exf,ok.bs,ok.Cw,ok.Dd,ok.Ht,ok.qp,ok.Df⟩
section
variable {X:Cx}{ao:AE}{σ:St}{H:Hp}{s:Shared}{E:AD}
def aW.wish (I:aW X ao σ H s)(E:AD):aW (X.wish E) ao σ H s:=⟨I.ok.wish E,I.os,I.bare,I.base,I.loc,I.cell,I.free,I.n6,I.pin,I.hok,I.len⟩
def aW.uX (I:aW (X.wish E) ao σ H s):aW X ao σ H s:=⟨I.ok.uX,I.os,I.bare,I.base,I.loc,I.cell,I.free,I.n6,I.pin,I.hok,I.len⟩
def SP.uX (h:SP (X.wish E) ao D f s'):SP X ao D f s':=by
 cases f with
 | next=>let⟨σ',H',I,q⟩:=h;show⟨σ',H',I.uX,q⟩
 | brk=>let⟨σ',H',I,q⟩:=h;show⟨σ',H',I.uX,q⟩
 | cont=>let⟨σ',H',I,q⟩:=h;show⟨σ',H',I.uX,q⟩
 | ret u=>let⟨v,σ',H',I,r,q⟩:=h;show⟨v,σ',H',I.uX,r,q⟩
def wO.Ri {st:List Stmt}(h:wO X.Ri st t):wO X st t:=λao s σ H D I hw=>e_ (h ao s σ H D (I.wish _) hw) (λ_ _ q=>q.uX) λ_ _ z=>False.elim z
end
section
variable {X:Cx}{st:Stmt}{rest:List Stmt}{t u:TS}{e:Expr}{te:TE}{pos:Pos}
def aes:TS:=λD σ H=>D.nx σ H
def agW (t u:TS):TS:=λD σ H=>t {D with nx:=u D} σ H
def ae0:wO X [] aes:=λ_ _ σ H _ I h=>wpAny_execs_nil ⟨σ,H,I,h⟩
def acD (h1:PS X st t)(h2:wO X rest u):wO X (st::rest) (agW t u):=by
 intro ao s σ H D I h;calc wpAny_execs_cons (cH (h1 ao s σ H {D with nx:=u D} I h) λf s1 q=>?_);cases f with
 | next=>let⟨σ',H',j,q⟩:=q;show h2 ao s1 σ' H' D j q
 | ret v=>show q
 | brk=>show q
 | cont=>show q
def ae1 (h1:PS X st t):wO X [st] t:=by
 intro ao s σ H D I h;calc wpAny_execs_cons (cH (h1 ao s σ H D I h) λf s1 q=>?_);cases f with| next=>show wpAny_execs_nil q| ret v=>show q| brk=>show q| cont=>show q
def aW.quiet {ao:AE}{σ:St}{H:Hp}{s:Shared}(I:aW X ao σ H s):interactive X.env=false:=by simp[interactive,I.ok.kind]
def aeu (te:TE):TS:=λD σ H=>te σ H λ_ H1=>D.nx σ H1
def ae2 (j:PE X e te)(hs:swapsWith e none pos.line X.env=pure false:=by rfl):PS X (.Expr e pos) (aeu te):=by intro ao s σ H D I h;show wpAny_Expr_any (cH (j ao s σ H _ I h) λv s1 ⟨x,H1,F,r1,q1⟩=>⟨σ,H1,F,q1⟩) I.quiet hs
def agX (te:TE):TS:=λD σ H=>te σ H D.rt
def agY (j:PE X e te):PS X (.Return (some e) pos) (agX te):=by intro ao s σ H D I h;show wpAny_Return_some (cH (j ao s σ H _ I h) λv s1 ⟨x,H1,F,r1,q1⟩=>⟨x,σ,H1,F,r1,q1⟩)
def agZ (c:TT)(t u:TS):TS:=λD σ H=>c σ H λb H1=>if b=true then t D σ H1 else u D σ H1
def ajc (F:PT X c tc)(ha:wO X a t)(hb:wO X b u):PS X (.If c a b pos) (agZ tc t u):=by
 intro ao s σ H D I h;calc wpAny_If (cH (F ao s σ H _ I h) λd s1 G=>?_);let⟨H1,j,q1⟩:=G;cases d with| true=>show ha ao s1 σ H1 D j q1| false=>show hb ao s1 σ H1 D j q1
def aaB:TS:=λ_ _ _=>False
def aaC:wO X sts aaB:=λ_ _ _ _ _ _ h=>h.elim
end
abbrev TG:=V->St->Hp->(St->Hp->Prop)->Prop
abbrev N7:=List V->St->Hp->(St->Hp->Prop)->Prop
def PG (X:Cx)(j:Expr)(t:TG):Prop:=∀(ao:AE) (s:Shared) (σ:St) (H:Hp) (v:V) (u:Value) (Q:St->Hp->Prop),aW X ao σ H s->cL v u->t v σ H Q->
  wpAny (model X.prog X.w) X.A (assign j X.env u) (λ_ s'=>∃σ' H',aW X ao σ' H' s'/\Q σ' H') X.xe s
def PGs (X:Cx)(ts:List Expr)(t:N7):Prop:=∀(ao:AE) (s:Shared) (σ:St) (H:Hp) (vs:List V) (us:List Value) (Q:St->Hp->Prop),aW X ao σ H s->Vals vs us->t vs σ H Q->
  wpAny (model X.prog X.w) X.A (assignInOrder ((assignEach ts X.env).map (·.2)) us) (λ_ s'=>∃σ' H',aW X ao σ' H' s'/\Q σ' H') X.xe s
abbrev ag0:=V->V->V->Hp->(Hp->Prop)->Prop
def acE (X:Cx)(t:ag0):Prop:=∀(ao:AE) (s:Shared) (σ:St) (H:Hp) (o i v:V) (ov j u:Value) (Q:Hp->Prop),aW X ao σ H s->cL o ov->cL i j->cL v u->t o i v H Q->
  wpAny (model X.prog X.w) X.A (setItem ov j u) (λ_ s'=>∃H',aW X ao σ H' s'/\Q H') X.xe s
section
variable {X:Cx}{pos:Pos}
def rK (i:Nat):TG:=λv σ H Q=>Q (σ.set i (some v)) H
def tU (D:X.N.Nodup)(hi:X.N[i]?=some x)(hx:Loc X.env.scope x)(j:X.fn x=true\/X.env.scope.names.lookup x=some .local:=by first|show .inl rfl|show .inr rfl|assumption):PG X (.Name x pos) (rK i):=by intro ao s σ H v u Q I r h;show wpAny_assign_Name (Rh I D hi hx r (λs' F=>⟨_,H,F,h⟩) j)
def YD:N7:=λvs σ H Q=>vs=[]/\Q σ H
def Ao (t:TG)(u:N7):N7:=λvs σ H Q=>∃v r,vs=v::r/\t v σ H λσ' H'=>u r σ' H' Q
def Lr:PGs X [] YD:=by intro ao s σ H vs us Q I r h;let⟨e,h⟩:=h;subst e;cases r;show assignInOrder_nil ⟨σ,H,I,h⟩
def tV (h1:PG X e t)(h2:PGs X es u)(hs:(assignEach (e::es) X.env).map (·.2)=assign e X.env::(assignEach es X.env).map (·.2):=by rfl):PGs X (e::es) (Ao t u):=by
 intro ao s σ H vs us Q I r h;let⟨v,F,e1,h⟩:=h;subst e1;cases r with| cons r rr=>rw[hs];calc assignInOrder_cons (cH (h1 ao s σ H _ _ _ I r h) λ_ s1 j=>?_);let⟨σ1,H1,D,q1⟩:=j;show h2 ao s1 σ1 H1 _ _ Q D rr q1
def YF (K:W.Frag)(n:Nat)(t:N7):TG:=λv σ H Q=>∃a xs,v=.ref a/\aU K H a xs/\xs.length=n/\t xs σ H Q
def Rj {es:List Expr}{k:Nat}{t:N7}{n:Nat}(F:X.calm=true)(h:PGs X es t)(hn:(assignEach es X.env).length=n:=by rfl)(j:(assignEach es X.env).findIdx? (·.1)=none:=by rfl):PG X (.Tuple es k pos) (YF X.K n t):=by intro ao s σ H v u Q I r hw;let⟨a,xs,e1,J,hl,hw⟩:=hw;subst e1;cases r;let⟨its,D,ht,hz⟩:=I.tuple J;calc assign_Tuple_tuple (I.ok.hd F) ht (by simp[hn,<-hl,D.length]) j λh' hx=>?_;let G:aW X ao σ H {s with heap:=h' }:=I.kept (t':=s.toks) λb o e=>hx b o (cq (aI e)) e;show h ao _ σ H xs _ Q G (by simpa using D) hw
def ag1 (to ti:TE)(t:ag0):TG:=λv σ H Q=>to σ H λo H1=>ti σ H1 λi j=>t o i v j λD=>Q σ D
def ag2 (O:PE X o to)(hi:PE X i ti)(hs:acE X t)(ha:∀v,assign (.Subscript o i pos) X.env v=(do
   let ov <- holding [v] (eval o X.env)
   let D <- holding [v,ov] (eval i X.env)
   standAt pos
   holding [v,ov,D] (setItem ov D v)
   release [v,ov,D] []):=by intro _;rfl):PG X (.Subscript o i pos) (ag1 to ti t):=by
 intro ao s σ H v u Q I r h;rw[ha];calc ae (ik (cH (O ao s σ H _ I h) λov s1 j=>?_));let⟨x,H1,I1,r1,q1⟩:=j;calc ae (ik (cH (hi ao s1 σ H1 _ I1 q1) λD s2 j=>?_));let⟨y,G,Y,J,q2⟩:=j;calc ae (mn (ae (ik (cH (hs ao s2 σ G x y v ov D u _ Y r1 J r q2) λ_ s3 j=>?_))));let⟨F,Z,q3⟩:=j;show wpAny_release ⟨σ,F,Z,q3⟩
def Lw (te:TE)(g:TG):TS:=λD σ H=>te σ H λx H1=>g x σ H1 D.nx
def ag3 (F:PE X e te)(G:PG X tg g)(hs:swapsWithSole [tg] e pos.line X.env=pure false:=by rfl)(hw:swappedStores [tg] e X.env=pure none:=by rfl)(h1:(assignEach [tg] X.env).map (·.2)=[assign tg X.env]:=by rfl):PS X (.Assign [tg] e pos) (Lw te g):=by intro ao s σ H D I h;calc wpAny_Assign_stores (cH (F ao s σ H _ I h) λv s1 j=>?_) hs hw;let⟨x,H1,J,r1,q1⟩:=j;rw[h1];show cH (G ao s1 σ H1 x v _ J r1 q1) λ_ s2 q=>q
def ag4 (G:X.N.Nodup)(hi:X.N[i]?=some x)(hx:Loc X.env.scope x)(O:PE X e te)(hs:swapsWith e (some (.Name x pos')) pos.line X.env=pure false:=by rfl)(j:X.fn x=true\/X.env.scope.names.lookup x=some .local:=by first|show .inl rfl|show .inr rfl|assumption):PS X (.Assign [.Name x pos'] e pos) (Lw te (rK i)):=by intro ao s σ H D I h;calc wpAny_Assign_Name (cH (O ao s σ H _ I h) λv s1 F=>?_) hs;let⟨y,H1,Y,r1,q1⟩:=F;show Rh Y G hi hx r1 (λs2 J=>⟨_,H1,J,q1⟩) j
end
structure It where
 go:Nat->Hp->Prop
 Jv:Nat->Hp->V->Hp->Prop
 stop:Nat->Hp->Prop
def vA (X:Cx)(ao:AE)(H:Hp)(b:Addr):Prop:=H b=none/\b≠X.env.locals/\b∉X.fs/\(b∈X.ex\/X.s₀.heap.objs.size<=b)/\(∀x c,X.env.cells.lookup x=some c->c≠b)/\∀p∈X.pn++ao,p.1≠b
def aW.yV {X:Cx}{ao:AE}{σ:St}{H H':Hp}{s:Shared}{b:Addr}(I:aW X ao σ H s)(hb:s.heap.objs.size<=b)(hn:H' b=none):vA X ao H' b:=by
 refine⟨hn,kn (df I.lt hb),I.ajY hb,.inr (bP I.sz hb),λx c e z=>?_,λp hp z=>?_⟩
 .let⟨v,q⟩:=I.cell x c e;show absurd (df q.lt (by rw[z];show hb)) (ft _)
 .show absurd (df (aI (I.pin p hp).1) (by rw[z];show hb)) (ft _)
structure Turn (P:Program)(w:World)(K:W.Frag)(tg:Expr)(J:It)(fp:List Addr)(it:Addr)(tn:Nat->Heap->Prop):Prop where
 mem:it∈fp
 obj:∀i h,tn i h->∀b∈fp,∃o,h.get? b=some o/\∀v,o.data≠.cell v
 keep:∀i h h',tn i h->(∀b∈fp,∀o,h.get? b=some o->h'.get? b=some o)->tn i h'
 item:∀(X:Cx),X.prog=P->X.w=w->X.K=K->X.calm=true->∀(i:Nat) (ao:AE) (s:Shared) (σ:St) (H:Hp) (E:AD),aW X ao σ H s->(∀b∈fp,vA X ao H b)->tn i s.heap->J.go i H->
  wpAny (model P w) X.A (pyNext (.ref it)) (λr s1=>∃u,r=some u/\
   wpAny (model P w) X.A (letOwnedTupleGo tg (.ref it) u) (λ_ s2=>∃x H',aW X ao σ H' s2/\cL x u/\J.Jv i H x H'/\tn (i+1) s2.heap/\∀b∈fp,H' b=none) E s1) E s
 done:∀(X:Cx),X.prog=P->X.w=w->X.K=K->X.calm=true->∀(i:Nat) (ao:AE) (s:Shared) (σ:St) (H:Hp) (E:AD),aW X ao σ H s->(∀b∈fp,vA X ao H b)->tn i s.heap->J.stop i H->
  wpAny (model P w) X.A (pyNext (.ref it)) (λr s1=>r=none/\aW X ao σ H s1) E s
 self:∀(A:Around) (i:Nat) (s:Shared) (Q:AD) (E:AD),tn i s.heap->Q (.ref it) s->wpAny (model P w) A (pyIter (.ref it)) Q E s
abbrev TI:=St->Hp->(It->Hp->Prop)->Prop
def PIE (X:Cx)(ao:AE)(σ:St)(tg:Expr)(R:It->Hp->Prop)(j:Value)(s2:Shared):Prop:=∃(it:Addr) (fp:List Addr) (tn:Nat->Heap->Prop) (J:It) (H':Hp),j=.ref it/\aW X ao σ H' s2/\Turn X.prog X.w X.K tg J fp it tn/\tn 0 s2.heap/\(∀b∈fp,vA X ao H' b)/\R J H'
def PI (X:Cx)(tg iter:Expr)(wi:TI):Prop:=∀(ao:AE) (s:Shared) (σ:St) (H:Hp) (R:It->Hp->Prop),aW X ao σ H s->wi σ H R->
  wpAny (model X.prog X.w) X.A (eval iter X.env) (λv s1=>wpAny (model X.prog X.w) X.A (pyIter v) (PIE X ao σ tg R) X.xe s1) X.xe s
def Jw {s : Shared}(D : s.heap.get? it = some o)(F : o.cls = .type n)(hd : o.data = .fields vs)(hn : ["enumerate", "zip", "dict_itemiterator", "dict_reverseitemiterator", "odict_iterator", "itertools.zip_longest", "itertools.pairwise"].contains n = false)(j : Q () s) : wpAny M A (letOwnedTupleGo tg (.ref it) u) Q E s := by
  unfold letOwnedTupleGo;cases tg <;> first
    | show aw j
    | (cases u <;> first
        | show aw j
        | (refine ae (wpAny_load D ?_)
           rw[F, hd];show wpAny M A (if (["enumerate", "zip", "dict_itemiterator", "dict_reverseitemiterator", "odict_iterator", "itertools.zip_longest", "itertools.pairwise"].contains n&&vs[0]? == some (rawInt _)) = true then _ else _) Q E s;rw[if_neg (by intro h; rw[hn, nV]at h; cases h)];show aw j))
abbrev ItS (Sq:Hp->List V->Prop):It:=⟨λi H=>∃xs x,Sq H xs/\xs[i]?=some x,λi H x H'=>H'=H/\∀xs,Sq H xs->xs[i]?=some x,λi H=>∃xs,Sq H xs/\xs.length<=i⟩
def Itl (K:W.Frag)(a:Addr):It:=ItS λH=>bH K H a
def Itt (K:W.Frag)(a:Addr):It:=ItS λH=>aU K H a
def Itr (lo:Int)(n:Nat):It:=⟨λi _=>i<n,λi H x H'=>H'=H/\x=.int (lo+i),λi _=>n<=i⟩
def aaD {P:Program}{w:World}{K:W.Frag}{tg:Expr}(a it:Addr):Turn P w K tg (Itl K a) [it] it (λi h=>h.IsListIter it a i) where
 mem:=by simp
 obj:=λi h st b hb=>by
  let e:b=it:=by simpa using hb
  subst e;let⟨o,e,c,d⟩:=st;show⟨o,e,λv z=>by rw[d]at z;cases z⟩
 keep:=λi h h' st k=>st.at λo e=>k it qk o e
 item:=by intro X J hw O Z i ao s σ H E I D st Y;subst J hw O;let⟨xs,x,F,hx⟩:=Y;let⟨its,G,p,hz⟩:=I.list F;let⟨u,hu,ru⟩:=G.get hx;let⟨f0,f1,f2,f3,f4,f5⟩:=D it qk;calc wpAny_pyNext_list_item st p.isList (x:=u) (by simpa using hu) λh' j sb=>?_;let I1:aW X ao σ H {s with heap:=h' }:=I.turned (t':=s.toks) (λb o hb e=>(sb.2 b hb).trans e) f0 f1 f3 f4 f5;let⟨o,e,c,d⟩:=id j;show⟨u,rL,Jw (s:={s with heap:=h' }) e c d qo ⟨x,H,I1,ru,⟨rL,λys hy=>by rw[I.Hu hy F];show hx⟩,j,λb hb=>(D b hb).1⟩⟩
 done:=by intro X J hw O Z i ao s σ H E I D st Y;subst J hw O;let⟨xs,F,hx⟩:=Y;let⟨its,G,p,hz⟩:=I.list F;let⟨f0,f1,f2,f3,f4,f5⟩:=D it qk;let hl:=G.length;show wpAny_pyNext_list_end (I.ok.hd Z) st p.isList (by simp;simp_all) λh' eb=>⟨rL,I.turned (t':=s.toks) (λb o hb e=>eb b o hb e) f0 f1 f3 f4 f5⟩
 self:=λ_ _ _ _ _ st h=>wpAny_pyIter_listiter st h
def YG {P:Program}{w:World}{K:W.Frag}{tg:Expr}(a it:Addr):Turn P w K tg (Itt K a) [it] it (λi h=>h.IsTupleIter it a i) where
 mem:=by simp
 obj:=λi h st b hb=>by
  let e:b=it:=by simpa using hb
  subst e;let⟨o,e,c,d⟩:=st;show⟨o,e,λv z=>by rw[d]at z;cases z⟩
 keep:=λi h h' st k=>st.at λo e=>k it qk o e
 item:=by intro X J hw O Z i ao s σ H E I D st Y;subst J hw O;let⟨xs,x,F,hx⟩:=Y;let⟨its,G,p,hz⟩:=I.tuple F;let⟨u,hu,ru⟩:=G.get hx;let⟨f0,f1,f2,f3,f4,f5⟩:=D it qk;calc wpAny_pyNext_tuple_item st (show s.heap.IsTuple a its.toArray from p) (x:=u) (by simpa using hu) λh' j sb=>?_;let I1:aW X ao σ H {s with heap:=h' }:=I.turned (t':=s.toks) (λb o hb e=>(sb.2 b hb).trans e) f0 f1 f3 f4 f5;let⟨o,e,c,d⟩:=id j;show⟨u,rL,Jw (s:={s with heap:=h' }) e c d qo ⟨x,H,I1,ru,⟨rL,λys hy=>by rw[I.aaA hy F];show hx⟩,j,λb hb=>(D b hb).1⟩⟩
 done:=by intro X J hw O Z i ao s σ H E I D st Y;subst J hw O;let⟨xs,F,hx⟩:=Y;let⟨its,G,p,hz⟩:=I.tuple F;let⟨f0,f1,f2,f3,f4,f5⟩:=D it qk;let hl:=G.length;show wpAny_pyNext_tuple_end (I.ok.hd Z) st (show s.heap.IsTuple a its.toArray from p) (by simp;lia) λh' eb=>⟨rL,I.turned (t':=s.toks) (λb o hb e=>eb b o hb e) f0 f1 f3 f4 f5⟩
 self:=λ_ _ _ _ _ st h=>wpAny_pyIter_tupleiter st h
def YH {P:Program}{w:World}{K:W.Frag}{tg:Expr}(it:Addr)(lo:Int)(n:Nat):Turn P w K tg (Itr lo n) [it] it (λi h=>IsRangeIter h it (lo+(i:Nat)*1) ((n:Int)-(i:Nat)) 1) where
 mem:=by simp
 obj:=λi h st b hb=>by
  let e:b=it:=by simpa using hb
  subst e;show⟨_,st,λv z=>by let z':Data.fields _=Data.cell v:=z;cases z'⟩
 keep:=λi h h' st k=>k it qk _ st
 item:=by intro X F hw J G i ao s σ H E I D st O;subst F hw J;let⟨f0,f1,f2,f3,f4,f5⟩:=D it qk;let W:=Walks.range (prog:=X.prog) (w:=X.w) (I.ok.hd G) it lo 1 n;calc W.item i s _ _ O st λv h' tk hv j Z=>?_;let⟨t,rfl⟩:=hv;let I1:aW X ao σ H {s with heap:=h',toks:=tk}:=I.turned (λb o hb e=>Z b o (by simpa using hb) e) f0 f1 f3 f4 f5;calc⟨_,rL,Jw (s:={s with heap:=h',toks:=tk}) (n:="range_iterator") j rL rL qo ⟨.int (lo+i),H,I1,⟨t,?_⟩,⟨rL,rL⟩,j,λb hb=>(D b hb).1⟩⟩;rw[Int.mul_one]
 done:=by intro X F hw J G i ao s σ H E I D st O;subst F hw J;let⟨f0,f1,f2,f3,f4,f5⟩:=D it qk;show wpAny_pyNext_range_end (I.ok.hd G) st (by have:n<=i:=O;lia) λh' Y=>⟨rL,I.turned (t':=s.toks) (λb o hb e=>Y b o hb e) f0 f1 f3 f4 f5⟩
 self:=λ_ _ _ _ _ st h=>wpAny_pyIter_rangeiter st h
section
variable {X:Cx}{tg:Expr}
def aev (K:W.Frag)(tl:TE):TI:=λσ H R=>tl σ H λx H1=>∃a,x=.ref a/\(∃xs,bH K H1 a xs)/\R (Itl K a) H1
def ag5 (K:W.Frag)(tl:TE):TI:=λσ H R=>tl σ H λx H1=>∃a,x=.ref a/\(∃xs,aU K H1 a xs)/\R (Itt K a) H1
def ae3 (hl:PE X l tl):PI X tg l (aev X.K tl):=by
 intro ao s σ H R I h;calc cH (hl ao s σ H _ I h) λv s1 D=>?_;let⟨x,H1,j,r1,q1⟩:=D;obtain⟨a,e,⟨xs,F⟩,q⟩:=q1;subst e;cases r1;let⟨its,G,p,hz⟩:=j.list F;calc im p.isList ?_;calc⟨s1.heap.objs.size,[s1.heap.objs.size],_,_,H1,rL,j.kept (t':=s1.toks) λb o e=>af _ e,aaD a _,⟨_,bd _ rL,rL,rL⟩,λb hb=>?_,q⟩;let e:b=s1.heap.objs.size:=by simpa using hb
 subst e;show j.yV (ai _) (j.hok.fresh (ai _))
def ag6 (hl:PE X l tl):PI X tg l (ag5 X.K tl):=by
 intro ao s σ H R I h;calc cH (hl ao s σ H _ I h) λv s1 D=>?_;let⟨x,H1,j,r1,q1⟩:=D;obtain⟨a,e,⟨xs,F⟩,q⟩:=q1;subst e;cases r1;let⟨its,G,p,hz⟩:=j.tuple F;calc wpAny_pyIter_tuple (show s1.heap.IsTuple a its.toArray from p) ?_;calc⟨s1.heap.objs.size,[s1.heap.objs.size],_,_,H1,rL,j.kept (t':=s1.toks) λb o e=>af _ e,YG a _,⟨_,bd _ rL,rL,rL⟩,λb hb=>?_,q⟩;let e:b=s1.heap.objs.size:=by simpa using hb
 subst e;show j.yV (ai _) (j.hok.fresh (ai _))
def Rk {ao:AE}{σ:St}{H:Hp}{s:Shared}{R:It->Hp->Prop}{E:AD}{lo hi:Int}{t u v:Tok}{tk:Nat}(I:aW X ao σ H s)(h1:-(2^62)<=lo)(h2:lo<2^62)(h3:-(2^62)<=hi)(h4:hi<2^62)(q:R (Itr lo (hi-lo).toNat) H):wpAny (model X.prog X.w) X.A (pyIter (.ref s.heap.objs.size)) (PIE X ao σ tg R) E {s with heap:=s.heap.push {cls:=.type "range",data:=.fields #[.int lo t,.int hi u,.int 1 v]},toks:=tk}:=by
 calc n5 (IsRange.new ..) (small_one h1 h2 h3 h4) ?_;let j:aW X ao σ H {s with heap:=s.heap.push {cls:=.type "range",data:=.fields #[.int lo t,.int hi u,.int 1 v]},toks:=tk}:=I.kept λb o e=>af _ e;refine⟨(s.heap.push {cls:=.type "range",data:=.fields #[.int lo t,.int hi u,.int 1 v]}).objs.size,[(s.heap.push {cls:=.type "range",data:=.fields #[.int lo t,.int hi u,.int 1 v]}).objs.size],_,_,H,rL,
  j.kept (t':=tk) λb o e=>af _ e,YH _ lo (hi-lo).toNat,?_,λb hb=>?_,q⟩
 .let e1:lo+((0:Nat):Int)*1=lo:=qk;let e2:(((hi-lo).toNat:Nat):Int)-((0:Nat):Int)=Builtin.Range.rangeSize lo hi 1:=by rw[rangeSize_one];split <;> grind
  show IsRangeIter _ _ (lo+((0:Nat):Int)*1) ((((hi-lo).toNat:Nat):Int)-((0:Nat):Int)) 1;rw[e1,e2];show bd _ rfl
 .let e:b=(s.heap.push {cls:=.type "range",data:=.fields #[.int lo t,.int hi u,.int 1 v]}).objs.size:=by simpa using hb
  subst e;show j.yV (ai _) (j.hok.fresh (ai _))
def aew (ta:TA):TI:=λσ H R=>ta σ H λvs H1=>∃j:Int,vs=[.int j]/\-(2^62)<=j/\j<2^62/\R (Itr 0 j.toNat) H1
def aex (ta:TA):TI:=λσ H R=>ta σ H λvs H1=>∃i j:Int,vs=[.int i,.int j]/\(-(2^62)<=i/\i<2^62/\-(2^62)<=j/\j<2^62)/\R (Itr i (j-i).toNat) H1
def aaE (F:Gl X "range")(hm:X.mg "range"=none)(ha:PA X [a] ta)(hs:starEach [a] X.env=[(false,eval a X.env)]:=by rfl):PI X tg (.Call (.Name "range" p) [a] [] pos) (aew ta):=by
 intro ao s σ H R I h;calc Call_ (rJ I F hm boot_range (eW (cH (ha pos ao s σ H _ I h) λus s1 D=>?_) hs rL));let⟨vs,H1,G,r1,q1⟩:=D;let⟨j,e,q1,q2,q⟩:=q1;subst e;cases r1 with| cons r rr=>cases rr;let⟨t,rfl⟩:=r;show call_range_1 (Rk G qi qi q1 q2 (by simpa using q))
def aaF {a b:Expr}{ta:TA}{p pos:Pos}(G:Gl X "range")(hm:X.mg "range"=none)(ha:PA X [a,b] ta)(hs:starEach [a,b] X.env=[(false,eval a X.env),(false,eval b X.env)]:=by rfl)(D:starEach [b] X.env=[(false,eval b X.env)]:=by rfl):PI X tg (.Call (.Name "range" p) [a,b] [] pos) (aex ta):=by
 intro ao s σ H R I h;calc Call_ (rJ I G hm boot_range (eW (cH (ha pos ao s σ H _ I h) λus s1 F=>?_) (by rw[hs,D]) (by rw[D];rfl)));let⟨vs,H1,J,r1,q1⟩:=F;obtain⟨i,j,e,⟨q1,q2,q3,q4⟩,q⟩:=q1;subst e;cases r1 with
 | cons r rr=>
  cases rr with| cons r' rr=>cases rr;let⟨t,rfl⟩:=r;let⟨t',rfl⟩:=r';show call_range_2 (Rk J q1 q2 q3 q4 q)
abbrev Lx (J:It)(g:TG)(tb:TS)(D:Ends)(σ:St)(H:Hp):Prop:=∃W:Nat->Nat->St->Hp->Prop,(∃m,W 0 m σ H)/\∀i m σ H,W i m σ H->
 (J.stop i H/\D.nx σ H)\/(J.go i H/\∃N:St->Hp->Prop,(∀σ' H',N σ' H'->∃m',m'<m/\W (i+1) m' σ' H')/\∀x H',J.Jv i H x H'->g x σ H' λσ2 H2=>tb {D with nx:=N,ct:=N,bk:=D.nx} σ2 H2)
def ag7 (wi:TI)(g:TG)(tb:TS):TS:=λD σ H=>wi σ H λJ H1=>Lx J g tb D σ H1
def YJ {J:It}{g:TG}{tb:TS}{D:Ends}{σ:St}{H:Hp}(n:Nat)(F:Nat->St->Hp->Prop)(h0:F 0 σ H)(G:∀i σ H,i<n->F i σ H->J.go i H/\∀x H',J.Jv i H x H'->g x σ H' λσ2 I=>tb {D with nx:=F (i+1),ct:=F (i+1),bk:=D.nx} σ2 I)(Y:∀σ H,F n σ H->J.stop n H/\D.nx σ H):Lx J g tb D σ H:=by
 calc⟨λi m σ H=>m=n-i/\i<=n/\F i σ H,⟨n,qk,fe _,h0⟩,?_⟩;intro i m σ H z;let⟨rfl,hi,p⟩:=z;by_cases j:i<n;.show .inr ⟨(G i σ H j p).1,F (i+1),λσ' H' O=>⟨n-(i+1),Nat.sub_lt_sub_left j (gN _),rL,j,O⟩,(G i σ H j p).2⟩
 .let e:i=n:=qi;subst e;show .inl (Y σ H p)
def aey {F:Hp->List V->Prop}{xs:List V}{g:TG}{tb:TS}{D:Ends}{σ:St}{H:Hp}(j:Nat->St->Hp->Prop)(h0:j 0 σ H)(hl:∀i σ H,i<=xs.length->j i σ H->F H xs)(hs:∀i x σ H,xs[i]?=some x->j i σ H->g x σ H λσ2 G=>tb {D with nx:=j (i+1),ct:=j (i+1),bk:=D.nx} σ2 G)(hd:∀σ H,j xs.length σ H->D.nx σ H):Lx (ItS F) g tb D σ H:=YJ xs.length j h0 (λi σ H h p=>⟨⟨xs,xs[i],hl i σ H (av h) p,by simp[h]⟩,λx H' ⟨e,y⟩=>by subst e;show hs i x σ _ (y xs (hl i σ _ (av h) p)) p⟩) λσ H p=>⟨⟨xs,hl _ σ H (ai _) p,ai _⟩,hd σ H p⟩
def Dg (fp:List Addr)(h:Heap):List (Addr×Obj):=fp.filterMap λb=>(h.get? b).map λo=>(b,o)
def vP {h:Heap}(hb:b∈fp)(e:h.get? b=some o):(b,o)∈Dg fp h:=n9.mpr ⟨b,hb,by rw[e];rfl⟩
def aaG (hp:p∈Dg fp h):p.1∈fp/\h.get? p.1=some p.2:=by
 let⟨b,hb,e⟩:=n9.mp hp;cases q:h.get? b with
 | none=>rw[q]at e;cases e
 | some o=>rw[q]at e;let j:(b,o)=p:=bo e;subst j;show⟨hb,q⟩
def aW.pinned {ao:AE}{σ:St}{H:Hp}{s:Shared}{fp:List Addr}(I:aW X ao σ H s)(D:∀b∈fp,vA X ao H b)(F:∀b∈fp,∃o,s.heap.get? b=some o/\∀v,o.data≠.cell v):aW X (ao++Dg fp s.heap) σ H s:=
 I.Wv λp hp=>(bv.mp hp).elim (λz=>I.pin p (eJ _ z)) λz=>by let⟨hb,e⟩:=aaG z;let⟨f0,f1,f2,_⟩:=D p.1 hb;let⟨o,j,d⟩:=F p.1 hb;rw[e]at j;cases j;show⟨e,f0,f1,f2,d⟩
def aW.wQ {ao pl:AE}{σ:St}{H:Hp}{s:Shared}(I:aW X (ao++pl) σ H s):aW X ao σ H s:=I.Wv λp hp=>I.pin p (eJ _ (mI _ hp))
def ag8 (hp:PassesOwn (model X.prog X.w) X.A X.env X.xe)(hc:X.calm=true)(hi:PI X tg iter wi)(hg:PG X tg g)(hb:wO X body tb)(hs:∀x,foldedSetIterable iter X.env x=pure x:=by intro _;rfl):PS X (.For tg iter body [] pos) (ag7 wi g tb):=by
 intro ao s σ H D I h;calc wpAny_For (cH (hi ao s σ H _ I h) λv s1 h1=>cH h1 λitv s2 h2=>?_) hs;obtain⟨it,fp,tn,J,H2,e,I2,T,st2,f2,W,⟨m0,w0⟩,turn⟩:=h2;subst e;let G:∀{H':Hp},(∀b∈fp,H' b=none)->∀b∈fp,vA X ao H' b:=λhn b hb=>⟨hn b hb,(f2 b hb).2⟩
 calc codeAny_forLoop_any (λn s'=>∃i σ' H',aW X ao σ' H' s'/\tn i s'.heap/\(∀b∈fp,H' b=none)/\W i n σ' H') ?_ m0 ⟨0,σ,H2,I2,st2,λb hb=>(f2 b hb).1,w0⟩;intro n s3 z;let⟨i,σ3,H3,I3,st3,fr3,w3⟩:=z;rcases turn i n σ3 H3 w3 with⟨stop,qn⟩|⟨go,N,hN,step⟩
 .calc kU hp (cH (T.done X rL rL rL hc i ao s3 σ3 H3 X.xe I3 (G fr3) st3 stop) λr s4 ⟨hr,I4⟩=>?_);subst hr;show wpAny_execs_nil ⟨σ3,H3,I4,qn⟩
 .calc kU hp (cH (T.item X rL rL rL hc i ao s3 σ3 H3 X.xe I3 (G fr3) st3 go) λr s4 Z=>?_);let⟨u,hr,h4⟩:=Z;subst hr;calc kU hp (cH h4 λ_ s5 Z=>?_);let⟨x,H5,I5,r5,y5,Y,fr5⟩:=Z;let I5':=I5.pinned (G fr5) (T.obj _ _ Y);calc kU hp (cH (hg _ s5 σ3 H5 x u _ I5' r5 (step x H5 y5)) λ_ s6 Z=>?_);let⟨σ6,H6,I6,q6⟩:=Z;calc kU hp (cH (hb _ s6 σ6 H6 _ I6 q6) λf s7 q7=>?_);let O:∀{σ7:St} {F:Hp},aW X (ao++Dg fp s5.heap) σ7 F s7->N σ7 F->∃m,m<n/\∃i σ' H',aW X ao σ' H' s7/\tn i s7.heap/\(∀b∈fp,H' b=none)/\W i m σ' H':=λ{σ7 F} j n7=>by
   let⟨m',hm,w7⟩:=hN σ7 F n7;calc⟨m',hm,i+1,σ7,F,j.wQ,T.keep _ _ _ Y λb hb o e=>(j.pin (b,o) (eJ _ (eJ _ (vP hb e)))).1,λb hb=>?_,w7⟩;let⟨o,e,d⟩:=T.obj _ _ Y b hb;show(j.pin (b,o) (eJ _ (eJ _ (vP hb e)))).2.1
  cases f with
  | next=>let⟨σ7,F,j,n7⟩:=q7;show O j n7
  | cont=>let⟨σ7,F,j,n7⟩:=q7;show O j n7
  | brk=>let⟨σ7,F,j,q7⟩:=q7;show⟨σ7,F,j.wQ,q7⟩
  | ret v=>let⟨x7,σ7,F,j,r7,q7⟩:=q7;show⟨x7,σ7,F,j.wQ,r7,q7⟩
end
def n8 {K:W.Frag}{a:Addr}:=@aey λH=>bH K H a
def FQ {K:W.Frag}{a:Addr}:=@aey λH=>aU K H a
def mj {lo:Int}{n:Nat}{g:TG}{tb:TS}{D:Ends}{σ:St}{H:Hp}(j:Nat->St->Hp->Prop)(h0:j 0 σ H)(hs:∀i σ H,i<n->j i σ H->g (.int (lo+i)) σ H λσ2 F=>tb {D with nx:=j (i+1),ct:=j (i+1),bk:=D.nx} σ2 F)(hd:∀σ H,j n σ H->D.nx σ H):Lx (Itr lo n) g tb D σ H:=YJ n j h0 (λi σ H h p=>⟨h,λx H' y=>by let⟨rfl,rfl⟩:=y;show hs i σ _ h p⟩) λσ H p=>⟨ai _,hd σ H p⟩
abbrev R2:=V->V->Hp->VK->Prop
def gP (X:Cx)(f:Value->Value->Sem Value)(r:R2):Prop:=∀(ao:AE) (s:Shared) (σ:St) (H:Hp) (x y:V) (v u:Value) (Q:VK),aW X ao σ H s->cL x v->cL y u->r x y H Q->
  wpAny (model X.prog X.w) X.A (f v u) (EP X ao σ Q) X.xe s
def UnR (X:Cx)(f:Value->Sem Value)(r:V->Hp->VK->Prop):Prop:=∀(ao:AE) (s:Shared) (σ:St) (H:Hp) (x:V) (v:Value) (Q:VK),aW X ao σ H s->cL x v->r x H Q->
  wpAny (model X.prog X.w) X.A (f v) (EP X ao σ Q) X.xe s
def iY (X:Cx)(f:Value)(r:List V->Hp->VK->Prop):Prop:=∀(ao:AE) (s:Shared) (σ:St) (H:Hp) (xs:List V) (us:List Value) (Q:VK),aW X ao σ H s->Vals xs us->r xs H Q->
  wpAny (model X.prog X.w) X.A (call f us) (EP X ao σ Q) X.xe s
def GR (r:R2)(ta tb:TE):TE:=λσ H Q=>ta σ H λx H1=>tb σ H1 λy j=>r x y j Q
def tUn (r:V->Hp->VK->Prop)(ta:TE):TE:=λσ H Q=>ta σ H λx H1=>r x H1 Q
def rI (C:Int->Int->Prop)(g:Int->Int->V):R2:=λx y H Q=>∃i j,x=.int i/\y=.int j/\C i j/\Q (g i j) H
def N8 (g:Int->Int->V):R2:=λx y H Q=>∃i j,x=.int i/\y=.int j/\Q (g i j) H
def rU (g:Int->V):V->Hp->VK->Prop:=λx H Q=>∃i,x=.int i/\Q (g i) H
section
variable {X:Cx}{a b:Expr}{ta tb:TE}{pos:Pos}
def acF (ha:PE X a ta)(hb:PE X b tb){ao:AE}{s:Shared}{σ:St}{H:Hp}{R:V->V->Hp->Prop}(I:aW X ao σ H s)(h:ta σ H λx H1=>tb σ H1 λy j=>R x y j){Q:AD}{f:Value->Value->Sem Value}(F:∀v u s2 x y j,aW X ao σ j s2->cL x v->cL y u->R x y j->wpAny (model X.prog X.w) X.A (f v u) Q X.xe s2):wpAny (model X.prog X.w) X.A (eval a X.env) (λv G=>wpAny (model X.prog X.w) X.A (eval b X.env) (λu J=>wpAny (model X.prog X.w) X.A (f v u) Q X.xe J) X.xe G) X.xe s:=by calc cH (ha ao s σ H _ I h) λv s1 D=>?_;let⟨x,H1,Z,r1,q1⟩:=D;calc cH (hb ao s1 σ H1 _ Z q1) λu s2 D=>?_;let⟨y,j,Y,O,q2⟩:=D;show F v u s2 x y j Y r1 O q2
def ajd (F:gP X (binaryOp op) r)(ha:PE X a ta)(hb:PE X b tb):PE X (.BinOp a op b pos) (GR r ta tb):=by intro ao s σ H Q I h;show wpAny_BinOp (acF ha hb I h λv u s2 x y j G J D q=>F ao s2 σ j x y v u Q G J D q)
def aje (j:UnR X (unaryOp op) r)(ha:PE X a ta):PE X (.UnaryOp op a pos) (tUn r ta):=by intro ao s σ H Q I h;show UnaryOp_ (cH (ha ao s σ H _ I h) λv s1 ⟨x,H1,D,r1,q1⟩=>j ao s1 σ H1 x v Q D r1 q1)
def opI {f:Value->Value->Sem Value}{C:Int->Int->Prop}{g:Int->Int->Int}(D:∀(i j:Int) (t u:Tok) (s:Shared) (Q:AD) (E:AD),C i j->Q (.int (g i j) s.toks) {s with toks:=s.toks+1}->wpAny (model X.prog X.w) X.A (f (.int i t) (.int j u)) Q E s):gP X f (rI C λi j=>.int (g i j)):=by intro ao s σ H x y v u Q I J F h;let⟨i,j,rfl,rfl,G,q⟩:=h;let⟨t,rfl⟩:=J;let⟨t',rfl⟩:=F;show D i j t t' s _ _ G ⟨.int (g i j),H,I.tok _,⟨_,rL⟩,q⟩
def ag9 {f:Value->Value->Sem Value}{g:Int->Int->Int}(D:∀(i j:Int) (t u:Tok) (s:Shared) (Q:AD) (E:AD),Q (.int (g i j) s.toks) {s with toks:=s.toks+1}->wpAny (model X.prog X.w) X.A (f (.int i t) (.int j u)) Q E s):gP X f (N8 λi j=>.int (g i j)):=by intro ao s σ H x y v u Q I G F h;let⟨i,j,rfl,rfl,q⟩:=h;let⟨t,rfl⟩:=G;let⟨t',rfl⟩:=F;show D i j t t' s _ _ ⟨.int (g i j),H,I.tok _,⟨_,rL⟩,q⟩
def YK {f:Value->Value->Sem Value}{g:Int->Int->Bool}(D:∀(i j:Int) (t u:Tok) (s:Shared) (Q:AD) (E:AD),Q (.bool (g i j)) s->wpAny (model X.prog X.w) X.A (f (.int i t) (.int j u)) Q E s):gP X f (N8 λi j=>.bl (g i j)):=by intro ao s σ H x y v u Q I G F h;let⟨i,j,rfl,rfl,q⟩:=h;let⟨t,rfl⟩:=G;let⟨t',rfl⟩:=F;show D i j t t' s _ _ ⟨.bl (g i j),H,I,rL,q⟩
def aj1 (i j:Int):Prop:=0<j/\j<1073741824
def aj2 (i j:Int):Prop:=0<=j/\j<=1000000/\i.natAbs<2^64
def YL (i j:Int):Prop:=(-(2^64)<i/\i<2^64)\/(-(2^64)<j/\j<2^64)
def YL.ok (h:YL i j):IntMulOk i j:=by
 rcases h with⟨h1,h2⟩|⟨h1,h2⟩;.show .of_left (intBits_le_64 h1 h2)
 .show .of_right (intBits_le_64 h1 h2)
def cM:gP X (binaryOp .Add) (N8 λi j=>.int (i+j)):=ag9 λ_ _ _ _ _ _ _ q=>add_int q
def oM:gP X (binaryOp .Sub) (N8 λi j=>.int (i-j)):=ag9 λ_ _ _ _ _ _ _ q=>sub_int q
def jj:gP X (binaryOp .Mult) (rI YL λi j=>.int (i*j)):=opI λ_ _ _ _ _ _ _ D q=>mul_int q D.ok
def cQ:gP X (binaryOp .FloorDiv) (rI aj1 λi j=>.int (i/j)):=opI λi j _ _ _ _ _ D q=>by let h1:(0:Int)<j:=D.1;let h2:j<1073741824:=D.2;show floordiv_int qi (by rw[on i (Int.le_of_lt h1)];show q) (.inl (md (by grind)))
def cj:gP X (binaryOp .Mod) (rI (λ_ j=>0<j) λi j=>.int (i%j)):=opI λi j _ _ _ _ _ D q=>by let h1:(0:Int)<j:=D;show mod_int' qi (by rw[Int.fmod_eq_emod_of_nonneg i qi];show q)
def Rm:gP X (binaryOp .Pow) (rI aj2 λi j=>.int (i^j.toNat)):=opI λ_ _ _ _ _ _ _ D q=>pow_int_small D.1 D.2.1 D.2.2 q
def unI {f:Value->Sem Value}{g:Int->Int}(j:∀(i:Int) (t:Tok) (s:Shared) (Q:AD) (E:AD),Q (.int (g i) s.toks) {s with toks:=s.toks+1}->wpAny (model X.prog X.w) X.A (f (.int i t)) Q E s):UnR X f (rU λi=>.int (g i)):=by intro ao s σ H x v Q I D h;let⟨i,rfl,q⟩:=h;let⟨t,rfl⟩:=D;show j i t s _ _ ⟨.int (g i),H,I.tok _,⟨_,rL⟩,q⟩
def jk:UnR X (unaryOp .USub) (rU λi=>.int (-i)):=unI λ_ _ _ _ _ q=>neg_int q
end
noncomputable def aha:V->V->Bool
 | .non,.non=>true|.non,.int _=>true|.int _,.non=>true|.non,.bl _=>true|.bl _,.non=>true|.non,.str _=>true|.str _,.non=>true
 | .int _,.int _=>true|.bl _,.bl _=>true|.str _,.str _=>true|.Cv _,.Cv _=>true
 | .int _,.str _=>true|.str _,.int _=>true|.bl _,.str _=>true|.str _,.bl _=>true
 | _,_=>false
def rEq:R2:=λx y H Q=>aha x y=true/\Q (.bl (decide (x=y))) H
def rNe:R2:=λx y H Q=>aha x y=true/\Q (.bl (!decide (x=y))) H
def Ww:decide (V.int i=V.int j)=(i==j):=by rw[ia];simp
def aaH:decide (V.bl i=V.bl j)=(i==j):=by rw[ia];simp
def Wx:decide (V.str i=V.str j)=(i==j):=by rw[ia];simp
def Wy:decide (V.Cv i=V.Cv j)=(i.toList==j.toList):=by rw[ia];cases i;cases j;simp
section
variable {X:Cx}{a b c:Expr}{ta tb tc:TE}{pos:Pos}
def eU {ao:AE}{σ:St}{H:Hp}{s:Shared}{Q:VK}{k j:Bool}(I:aW X ao σ H s)(q:Q (.bl k) H)(e:k=j):EP X ao σ Q (.bool j) s:=by subst e;show⟨.bl k,H,I,rL,q⟩
def jl:gP X (compareOp .Eq) rEq:=by
 intro ao s σ H x y v u Q I F D h;let⟨hs,q⟩:=h;cases x with
 | non=>
  cases F;cases y with
  | non=>cases D;show PySem.EqNone.eq_none_none (eU I q qk)
  | bl j=>cases D;show PySem.EqNone.eq_none_bool (eU I q qk)
  | int j=>let⟨t',rfl⟩:=D;show PySem.EqNone.eq_none_int (eU I q qk)
  | str j=>let⟨t',rfl⟩:=D;show PySem.EqNone.eq_none_str (eU I q qk)
  | _=>show absurd (show false=true from hs) bS
 | bl i=>
  cases F;cases y with
  | non=>cases D;show PySem.EqNone.eq_bool_none (eU I q qk)
  | bl j=>cases D;show eq_bool (eU I q aaH)
  | str j=>let⟨t',rfl⟩:=D;show PySem.EqMixed.eq_bool_str (eU I q qk)
  | _=>show absurd (show false=true from hs) bS
 | int i=>
  let⟨t,rfl⟩:=F;cases y with
  | non=>cases D;show PySem.EqNone.eq_int_none (eU I q qk)
  | int j=>let⟨t',rfl⟩:=D;show eq_int (eU I q Ww)
  | str j=>let⟨t',rfl⟩:=D;show PySem.EqMixed.eq_int_str (eU I q qk)
  | _=>show absurd (show false=true from hs) bS
 | str i=>
  let⟨t,rfl⟩:=F;cases y with
  | non=>cases D;show PySem.EqNone.eq_str_none (eU I q qk)
  | bl j=>cases D;show PySem.EqMixed.eq_str_bool (eU I q qk)
  | int j=>let⟨t',rfl⟩:=D;show PySem.EqMixed.eq_str_int (eU I q qk)
  | str j=>let⟨t',rfl⟩:=D;show eq_str (eU I q Wx)
  | _=>show absurd (show false=true from hs) bS
 | Cv i=>
  let⟨t,rfl⟩:=F;cases y with
  | Cv j=>let⟨t',rfl⟩:=D;show W.eq_bytes (eU I q Wy)
  | _=>show absurd (show false=true from hs) bS
 | _=>cases y <;> show absurd (show false=true from hs) bS
def FT:gP X (compareOp .NotEq) rNe:=by
 intro ao s σ H x y v u Q I F D h;let⟨hs,q⟩:=h;cases x with
 | non=>
  cases F;cases y with
  | non=>cases D;show PySem.EqNone.ne_none_none (eU I q qk)
  | bl j=>cases D;show PySem.EqNone.ne_none_bool (eU I q qk)
  | int j=>let⟨t',rfl⟩:=D;show PySem.EqNone.ne_none_int (eU I q qk)
  | str j=>let⟨t',rfl⟩:=D;show PySem.EqNone.ne_none_str (eU I q qk)
  | _=>show absurd (show false=true from hs) bS
 | bl i=>
  cases F;cases y with
  | non=>cases D;show PySem.EqNone.ne_bool_none (eU I q qk)
  | bl j=>cases D;show ne_bool (eU I q (congrArg not aaH))
  | str j=>let⟨t',rfl⟩:=D;show PySem.EqMixed.ne_bool_str (eU I q qk)
  | _=>show absurd (show false=true from hs) bS
 | int i=>
  let⟨t,rfl⟩:=F;cases y with
  | non=>cases D;show PySem.EqNone.ne_int_none (eU I q qk)
  | int j=>let⟨t',rfl⟩:=D;show ne_int (eU I q (congrArg not Ww))
  | str j=>let⟨t',rfl⟩:=D;show PySem.EqMixed.ne_int_str (eU I q qk)
  | _=>show absurd (show false=true from hs) bS
 | str i=>
  let⟨t,rfl⟩:=F;cases y with
  | non=>cases D;show PySem.EqNone.ne_str_none (eU I q qk)
  | bl j=>cases D;show PySem.EqMixed.ne_str_bool (eU I q qk)
  | int j=>let⟨t',rfl⟩:=D;show PySem.EqMixed.ne_str_int (eU I q qk)
  | str j=>let⟨t',rfl⟩:=D;show ne_str (eU I q (congrArg not Wx))
  | _=>show absurd (show false=true from hs) bS
 | Cv i=>
  let⟨t,rfl⟩:=F;cases y with
  | Cv j=>let⟨t',rfl⟩:=D;show W.ne_bytes (eU I q (congrArg not Wy))
  | _=>show absurd (show false=true from hs) bS
 | _=>cases y <;> show absurd (show false=true from hs) bS
def vQ:gP X (compareOp .Lt) (N8 λi j=>.bl (decide (i<j))):=YK λ_ _ _ _ _ _ _ q=>lt_int q
def qJ:gP X (compareOp .LtE) (N8 λi j=>.bl (decide (i<=j))):=YK λ_ _ _ _ _ _ _ q=>le_int q
def ajf:gP X (compareOp .Gt) (N8 λi j=>.bl (decide (j<i))):=YK λ_ _ _ _ _ _ _ q=>gt_int q
def FW:gP X (compareOp .GtE) (N8 λi j=>.bl (decide (j<=i))):=YK λ_ _ _ _ _ _ _ q=>ge_int q
def aaI:gP X (compareOp .In) (λx y H Q=>∃i j,x=.str i/\y=.str j/\Q (.bl (!(Builtin.Str.occurrences j i 0 j.length 1).isEmpty)) H):=by intro ao s σ H x y v u Q I D F h;let⟨i,j,rfl,rfl,q⟩:=h;let⟨t,rfl⟩:=D;let⟨t',rfl⟩:=F;show in_str (eU I q rL)
def bM (b)(h:op≠.In:=by decide)(h2:op≠.NotIn:=by decide):behindInMarks op b=false:=by
 let e1:(op==CmpOp.In)=false:=by cases op <;> first|rfl|show absurd rL h
 let e2:(op==CmpOp.NotIn)=false:=by cases op <;> first|rfl|show absurd rL h2
 cases b <;> simp[behindInMarks,e1,e2]
def ae4 (F:gP X (compareOp op) r)(ha:PE X a ta)(hb:PE X b tb)(hm:behindInMarks op b=false):PE X (.Compare a [op] [b] pos) (GR r ta tb):=by intro ao s σ H Q I h;show wpAny_Compare1 (acF ha hb I h λv u s2 x y j G J D q=>F ao s2 σ j x y v u Q G J D q) hm
def Qx (t:TE):TT:=λσ H Q=>t σ H λx H'=>∃k,x=.bl k/\Q k H'
def ae5 (J:gP X (compareOp op) r)(ha:PE X a ta)(hb:PE X b tb)(hm:behindInMarks op b=false):PT X (.Compare a [op] [b] pos) (Qx (GR r ta tb)):=by
 intro ao s σ H Q I h;refine wpAny_isTrue_Compare1 (cH (ha ao s σ H _ I h) λv s1 ⟨x,H1,O,r1,q1⟩=>cH (hb ao s1 σ H1 _ O q1) λu s2 ⟨y,D,Y,G,q2⟩=>cH (J ao s2 σ D x y v u _ Y r1 G q2) λc s3 ⟨z,j,Z,F,k,e,q3⟩=>?_) hm
 subst e;cases F;show fg ⟨j,Z,q3⟩
def Dh (r G:R2)(ta tb tc:TE):TE:=λσ H Q=>ta σ H λx H1=>tb σ H1 λy D=>r x y D λz j=>∃k,z=.bl k/\
 (if k=true then tc σ j λI F=>G y I F Q else Q (.bl false) j)
def acG (ho:gP X (compareOp op) r)(j:gP X (compareOp op') r')(ha:PE X a ta)(hb:PE X b tb)(hc:PE X c tc)(hm:lastMarks [op,op'] [b,c]=false:=by with_unfolding_all rfl):PE X (.Compare a [op,op'] [b,c] pos) (Dh r r' ta tb tc):=by
 intro ao s σ H Q I h;refine Compare_chain (cH (ha ao s σ H _ I h) λv s1 ⟨x,H1,I1,r1,q1⟩=>chain_link (cH (hb ao s1 σ H1 _ I1 q1) λu s2 ⟨y,O,I2,F,q2⟩=>cH (ho ao s2 σ O x y v u _ I2 r1 F q2) λd s3 ⟨z,D,G,Y,k,e,q3⟩=>?_)) hm
 subst e;cases Y;calc fg ?_;cases k with| false=>show ite_ff ⟨.bl false,D,G,rL,q3⟩| true=>show ite_tt (chain_last (cH (hc ao s3 σ D _ G q3) λw' s4 ⟨z',H4,Z,J,q4⟩=>j ao s4 σ H4 y z' u w' Q Z F J q4))
def acH (ho:gP X (compareOp op) r)(D:gP X (compareOp op') r')(ha:PE X a ta)(hb:PE X b tb)(hc:PE X c tc)(hm:lastMarks [op,op'] [b,c]=false:=by with_unfolding_all rfl):PT X (.Compare a [op,op'] [b,c] pos) (Qx (Dh r r' ta tb tc)):=by
 intro ao s σ H Q I h;refine isTrue_chain (cH (ha ao s σ H _ I h) λv s1 ⟨x,H1,I1,r1,q1⟩=>test_link (cH (hb ao s1 σ H1 _ I1 q1) λu s2 ⟨y,H2,I2,G,q2⟩=>cH (ho ao s2 σ H2 x y v u _ I2 r1 G q2) λd s3 ⟨z,F,J,r3,k,e,q3⟩=>?_)) hm
 subst e;cases r3;calc fg ?_;cases k with
 | false=>let⟨k',O,Y⟩:=q3;cases O;show ite_ff ⟨F,J,Y⟩
 | true=>calc ite_tt (test_last (cH (hc ao s3 σ F _ J q3) λw' s4 j=>?_));let⟨z',H4,I4,Z,q4⟩:=j;calc cH (D ao s4 σ H4 y z' u w' _ I4 G Z q4) λd' s5 j=>?_;let⟨z2,H5,I5,r5,k2,e2,q5⟩:=j;subst e2;cases r5;show fg ⟨H5,I5,q5⟩
def zP:(sizeLine:Nat)<2^63:=by rw[sizeLine_eq];decide
def YM:gP X (binaryOp .Add) (λx y H Q=>∃i j,x=.str i/\y=.str j/\i.length+j.length<=sizeLine/\Q (.str (i++j)) H):=by intro ao s σ H x y v u Q I F D h;let⟨i,j,rfl,rfl,hz,q⟩:=h;let⟨t,rfl⟩:=F;let⟨t',rfl⟩:=D;show add_str (λt' tk=>⟨.str (i++j),H,I.tok _,⟨_,rL⟩,q⟩) hz
def vals1 (r:Vals [x] us):∃u,us=[u]/\cL x u:=by
 cases r with| cons r1 r2=>cases r2;show⟨_,rL,r1⟩
def vals2 (r:Vals [x,y] us):∃u j,us=[u,j]/\cL x u/\cL y j:=by
 cases r with
 | cons r1 r2=>
  cases r2 with| cons r3 r4=>cases r4;show⟨_,_,rL,r1,r3⟩
def N_ (F:X.calm=true):iY X (.builtin "max") (λxs H Q=>∃i j,xs=[.int i,.int j]/\Q (.int (if j > i then j else i)) H):=by
 intro ao s σ H xs us Q I r h;let⟨i,j,rfl,q⟩:=h;obtain⟨u,G,rfl,⟨t,rfl⟩,⟨t',rfl⟩⟩:=vals2 r;refine max_two_ints (I.ok.hd F) λh' tk k=>⟨_,H,I.kept k,?_,q⟩
 by_cases D:j > i;.rw[if_pos D,if_pos D];show⟨_,rL⟩
 .rw[if_neg D,if_neg D];show⟨_,rL⟩
def Oa (F:X.calm=true):iY X (.builtin "min") (λxs H Q=>∃i j,xs=[.int i,.int j]/\Q (.int (if j<i then j else i)) H):=by
 intro ao s σ H xs us Q I r h;let⟨i,j,rfl,q⟩:=h;obtain⟨u,G,rfl,⟨t,rfl⟩,⟨t',rfl⟩⟩:=vals2 r;refine min_two_ints (I.ok.hd F) λh' tk k=>⟨_,H,I.kept k,?_,q⟩
 by_cases D:j<i;.rw[if_pos D,if_pos D];show⟨_,rL⟩
 .rw[if_neg D,if_neg D];show⟨_,rL⟩
def Ob:iY X (.type "int") (λxs H Q=>(∃i,xs=[.int i]/\Q (.int i) H)\/∃k,xs=[.bl k]/\Q (.int (if k then 1 else 0)) H):=by
 intro ao s σ H xs us Q I r h;rcases h with⟨i,rfl,q⟩|⟨k,rfl,q⟩
 .let⟨u,rfl,t,rfl⟩:=vals1 r;show call_int_int ⟨.int i,H,I,⟨_,rL⟩,q⟩
 .let⟨u,rfl,r1⟩:=vals1 r;cases r1;show call_int_bool ⟨.int (if k then 1 else 0),H,I.tok _,⟨_,rL⟩,q⟩
end
structure Hv (h:Heap)(x dx C:Addr)(mA:Str->Option Value):Prop where
 obj:h.get? x=some (W.instObj C dx)
 ns:h.Ns1 dx mA
 ne:dx≠x
def aaJ {h:Heap}(n:h.Ns1 dx mA):∃od,h.get? dx=some od/\∀name,W.lookIn name od=some (mA name):=by
 let⟨o,es,ep,G,hd,D,_,hm⟩:=n;calc⟨o,G,λname=>?_⟩;let e:=hm name;unfold nsFind findBy at e;rw[<-Array.find?_toList]at e;unfold W.lookIn;rw[hd];dsimp only;split
 .rename_i y q;rw[q]at e;show congrArg some e
 .rename_i q;rw[q]at e;let a:es.toList.any (·.refKey)=false:=by
   rw[List.any_eq_false];intro y hy;let⟨z,t,j⟩:=D y (Array.mem_toList_iff.mp hy);simp[DictEntry.refKey,j]
  let F:¬es.toList.any (·.refKey)=true:=by rw[a];show bS
  rw[if_neg F];show congrArg some e
def Hv.look (I:Hv h x dx C mA):∃od,W.InstAt h x (W.instObj C dx) C (some od)/\∀name,W.lookIn name od=some (mA name):=let ⟨od,ho,hl⟩:=aaJ I.ns
 ⟨od,⟨I.obj,rL,rL,ho⟩,hl⟩
section
variable {prog:Program}{w:World}{A:Around}{E:AD}{s:Shared}{K:W.Frag}{x dx C f:Addr}{mA:Str->Option Value}{name:Str}{v:Value}
def get_map (X:K.In s.heap)(I:Hv s.heap x dx C mA)(G:W.plainGet K C name=true)(F:W.hasDictIn K C=true)(ha:W.findIn K (.ref C) name=some none)(D:mA name=some v)(j:W.handedIn v=true)(h:Q v {s with toks:=s.toks+1}):wpAny (model prog w) A (getAttr (.ref x) name expr) Q E s:=by let⟨od,J,hl⟩:=I.look;show W.get_value X J (nS G).1 (W.findObj_own F ha rL (by rw[hl,D])) j h
def acI (X:K.In s.heap)(I:Hv s.heap x dx C mA)(j:W.plainGet K C name=true)(F:W.findIn K (.ref C) name=some (some (.ref f)))(ht:W.isFn K (.ref f)=true)(D:mA name=none)(h:Q (.ref f,[.ref x]) s):wpAny (model prog w) A (getMethod (.ref x) name pl) Q E s:=by let⟨od,J,hl⟩:=I.look;show W.method_fn X J (nS j).1 (nS j).2 F (beq_iff_eq.mp ht) (by show (W.lookIn name od).map (·.isSome)=some false;rw[hl,D];rfl) h
def ae6 (X:K.In s.heap)(I:Hv s.heap x dx C mA)(hs:W.findIn K (.ref C) "__setattr__"=some (some (.builtin "object.__setattr__")))(hp:W.plainOver K C=true)(ht:W.takerIn K C name=some none)(hh:W.hasDictIn K C=true)(hw:PySem.Within mA ns)(hsz:ns.length<=sizeLine)(h:∀h',Hv h' x dx C (λy=>if y=name then some v else mA y)->Heap.SameBut dx s.heap h'->Q () {s with heap:=h',toks:=s.toks+2}):wpAny (model prog w) A (setAttr (.ref x) name v) Q E s:=by let⟨od,J,hl⟩:=I.look;calc W.set_plain X J hs (W.osa_open (s:={s with toks:=s.toks+1}) (r:=none) X J hp ht λb=>?_);let⟨cd,hc,G⟩:=W.any_some hh;let hx:s.heap.get? x=some ⟨.ref C,some dx,.plain,#[]⟩:=I.obj;calc ae (aw (ae (ae (wpAny_loadPart hx (ae (W.Looks.here (s:={s with toks:=s.toks+1}) (W.looks_clsIn X hc) ?_))))));rw[G];calc aw (a:=some dx) (ae (aw (ae ?_)));calc wpAny_nsSet1 (s:={s with toks:=s.toks+1}) I.ns λh' j D=>?_;let⟨oD,Z,epD,Y,F,O⟩:=j.count (oB name v hw);calc ae (wpAny_lookBehind Y (by rw[F];show pastItsLine_dict (bP O (by rw[eh];show gS hsz))) ?_);show aw (h _ ⟨(D.2 _ (gu I.ne)).trans I.obj,j,I.ne⟩ D)
def acJ (X:K.In s.heap)(hm:W.makesIn K C=true)(hi:W.findIn K (.ref C) "__init__"=some (some (.ref f)))(j:W.typeIn K (.ref f)=some (.type "function"))(h:codeAny (model prog w) (A.under (.builtin "type.__call__" ⟨.ref C::vs,kw⟩)) (.call (.ref f) ⟨.ref (s.heap.objs.size+1)::vs,kw⟩) (W.InitBack (s.heap.objs.size+1) R) {s with heap:=(s.heap.push W.emptyDict).push (W.instObj C s.heap.objs.size)}):codeAny (model prog w) A (.call (.ref C) ⟨vs,kw⟩) R s:=by let⟨D,g,d,t,os⟩:=s;show W.make_core (W.makes_of X hm) (W.looks_findIn X hi) (λself=>W.bind_fn X self j) (.inl rL) h
end
noncomputable def iD (f:Str)(v:V):List (Str×V)->List (Str×V)
 | []=>[(f,v)]
 | (g,x)::r=>if g=f then (g,v)::r else (g,x)::iD f v r
theorem yW (f g)(v):∀fs:List (Str×V),(iD f v fs).lookup g=if g=f then some v else fs.lookup g
 | []=>by
  show List.lookup g [(f,v)]=_;by_cases h:g=f
  .let hb:(g==f)=true:=beq_iff_eq.mpr h;simp only[List.lookup,hb,if_pos h]
  .let hb:(g==f)=false:=beq_eq_false_iff_ne.mpr h;simp only[List.lookup,hb,if_neg h]
 | (k,x)::r=>by
  let D:=yW f g v r;rw[show iD f v ((k,x)::r)=(if k=f then (k,v)::r else (k,x)::iD f v r) from rfl];by_cases j:k=f
  .rw[if_pos j];by_cases h:g=k
   .let hb:(g==k)=true:=beq_iff_eq.mpr h;simp only[List.lookup,hb,if_pos (h.trans j)]
   .let hb:(g==k)=false:=beq_eq_false_iff_ne.mpr h;simp only[List.lookup,hb,if_neg (λe:g=f=>h (e.trans j.symm))]
  .rw[if_neg j];by_cases h:g=k
   .let hb:(g==k)=true:=beq_iff_eq.mpr h;simp only[List.lookup,hb,if_neg (λe:g=f=>j (h.symm.trans e))]
   .let hb:(g==k)=false:=beq_eq_false_iff_ne.mpr h;simp only[List.lookup,hb];show D
theorem uY (f)(v):∀fs:List (Str×V),f∈(iD f v fs).map (·.1)/\∀g,g∈fs.map (·.1)->g∈(iD f v fs).map (·.1)
 | []=>⟨by simp[iD],λg h=>by simp at h⟩
 | (k,x)::r=>by
  let⟨i1,i2⟩:=uY f v r;rw[show iD f v ((k,x)::r)=(if k=f then (k,v)::r else (k,x)::iD f v r) from rfl];by_cases j:k=f
  .rw[if_pos j];subst j;show⟨qk,λg h=>by simpa using h⟩
  .rw[if_neg j];refine⟨?_,λg h=>?_⟩
   .rw[cw];show bz _ i1
   .rw[cw]at h ⊢;rcases bX.mp h with e|e;.show bX.mpr (.inl e)
    .show bz _ (i2 g e)
theorem yX (f)(v):∀fs:List (Str×V),(iD f v fs).length<=fs.length+1
 | []=>by simp[iD]
 | (k,x)::r=>by
  let D:=yX f v r;rw[show iD f v ((k,x)::r)=(if k=f then (k,v)::r else (k,x)::iD f v r) from rfl];by_cases j:k=f;.rw[if_pos j,eh,eh];lia
  .rw[if_neg j,eh,eh];show gS D
def nF.some_of (r:nF (some v) o):∃u,o=some u/\cL v u:=by
 cases o with| none=>show(show False from r).elim| some u=>show⟨u,rL,r⟩
def nF.none_of (r:nF none o):o=none:=by
 cases o with| none=>rfl| some u=>show(show False from r).elim
def Oc (r:cL v u):W.handedIn u=true:=by
 cases v with
 | non=>cases(show u=Value.none from r);rfl
 | bl b=>cases(show u=Value.bool b from r);rfl
 | int i=>let⟨t,e⟩:=(show ∃t,u=Value.int i t from r);cases e;rfl
 | str x=>let⟨t,e⟩:=(show ∃t,u=Value.str x t from r);cases e;rfl
 | Cv b=>let⟨t,e⟩:=(show ∃t,u=Value.bytes b t from r);cases e;rfl
 | flt b=>let⟨t,e⟩:=(show ∃t,u=Value.float b t from r);cases e;rfl
 | ref a=>cases(show u=Value.ref a from r);rfl
 | ty n=>cases(show u=Value.type n from r);rfl
section
variable {P:Program}{w:World}{H:Hp}{h:Heap}{a C dx:Addr}{fs:List (Str×V)}
def zQ (hok:lE P w H h)(e:H a=some (.ins C dx fs)):∃mA,Hv h a dx C mA/\(∀f,nF (fs.lookup f) (mA f))/\PySem.Within mA (fs.map (·.1))/\fs.length<=1000/\H dx=some (.own a):=by
 let⟨d,z,ne,ob,mA,n,r,q⟩:=(show gA P w H h a (.ins C dx fs) from hok a _ e)
 show⟨mA,⟨ob,n,ne⟩,r,q,z,d⟩
end
structure Cls (K:W.Frag)(C:Addr):Prop where
 pg:W.plainGet K C Str.empty=true
 hd:W.hasDictIn K C=true
 po:W.plainOver K C=true
 sa:W.findIn K (.ref C) "__setattr__"=some (some (.builtin "object.__setattr__"))
def Cls.get {K:W.Frag}(c:Cls K C)(f:Str):W.plainGet K C f=true:=c.pg
def jg (K:W.Frag)(C:Addr)(f:Str):Prop:=W.findIn K (.ref C) f=some none
def jg.taker {K:W.Frag}{f:Str}(n:jg K C f):W.takerIn K C f=some none:=by unfold W.takerIn;rw[show W.findIn K (.ref C) f=some none from n];rfl
structure Meth (K:W.Frag)(C:Addr)(m:Str)(f:Addr):Prop where
 at_:W.findIn K (.ref C) m=some (some (.ref f))
 fn:W.isFn K (.ref f)=true
 kp:W.keepIn K (.ref f)=true
section
variable {X:Cx}{ao:AE}{σ:St}{H:Hp}{s:Shared}{a C dx:Addr}{fs:List (Str×V)}{f:Str}{v:V}{A:Around}{E:AD}
def YQ (I:aW X ao σ H s)(e:H a=some (.ins C dx fs))(c:Cls X.K C)(n:jg X.K C f)(l:fs.lookup f=some v)(h:∀u s',aW X ao σ H s'->cL v u->Q u s'):wpAny (model X.prog X.w) A (getAttr (.ref a) f b) Q E s:=by let⟨mA,O,r,_,_,_⟩:=zQ I.hok e;let⟨u,D,j⟩:=nF.some_of (v:=v) (o:=mA f) (by rw[<-l];show r f);show get_map I.jw O (c.get f) c.hd n D (Oc j) (h u _ (I.tok _) j)
def Jx (I:aW X ao σ H s)(e:H a=some (.ins C dx fs))(c:Cls X.K C)(k:Meth X.K C m g)(l:fs.lookup m=none)(h:Q (.ref g,[.ref a]) s):wpAny (model X.prog X.w) A (getMethod (.ref a) m pl) Q E s:=by let⟨mA,O,r,_,_,_⟩:=zQ I.hok e;let hn:mA m=none:=nF.none_of (by rw[<-l];show r m);show acI I.jw O (c.get m) k.at_ k.fn hn h
def YS (I:aW X ao σ H s)(e:H a=some (.ins C dx fs))(c:Cls X.K C)(n:jg X.K C f)(hl:fs.length<1000)(G:cL y u)(h:∀s',aW X ao σ (upd H a (.ins C dx (iD f y fs))) s'->Q () s'):wpAny (model X.prog X.w) A (setAttr (.ref a) f u) Q E s:=by
 let⟨mA,O,r,wi,_,D⟩:=zQ I.hok e;let hz:(fs.map (·.1)).length<=sizeLine:=by rw[aa,sizeLine_eq];lia
 calc ae6 I.jw O c.sa c.po n.taker c.hd wi hz λh' j F=>h _ ?_;let hd:∃o,h'.get? dx=some o:=let ⟨o,_,_,e',_⟩:=j.ns;⟨o,e'⟩
 calc I.write (x:=a) (e:=dx) (by rw[e];show True.intro) (.inr D) (λb q hb z=>(F.2 b hb).trans z) hd ?_;calc⟨by rw[aZ O.ne];show D,?_,O.ne,j.obj,_,j.ns,λg=>?_,λg J=>?_⟩;.have:=yX f y fs;lia
 .show nF ((iD f y fs).lookup g) (if g=f then some u else mA g);rw[yW];by_cases q:g=f;.rw[if_pos q,if_pos q];show G
  .rw[if_neg q,if_neg q];show r g
 .by_cases q:g=f;.rw[q];show(uY f y fs).1
  .calc(uY f y fs).2 g (wi g λz=>J ?_);show (if g=f then some u else mA g)=none;rw[if_neg q];show z
def aW.made (I:aW X ao σ H s):aW X ao σ (upd (upd H s.heap.objs.size (.own (s.heap.objs.size+1))) (s.heap.objs.size+1) (.ins C s.heap.objs.size [])) {s with heap:=(s.heap.push W.emptyDict).push (W.instObj C s.heap.objs.size)}:=by
 let e1:(s.heap.push W.emptyDict).get? s.heap.objs.size=some W.emptyDict:=bd s.heap rfl;let e2:((s.heap.push W.emptyDict).push (W.instObj C s.heap.objs.size)).get? (s.heap.objs.size+1)=some (W.instObj C s.heap.objs.size):=by
  have:=bd (s.heap.push W.emptyDict) (o:=W.instObj C s.heap.objs.size) rfl
  rwa [fi]at this
 let e3:(s.heap.push W.emptyDict).Ns s.heap.objs.size (λ_=>none):=⟨W.emptyDict,#[],_,e1,rL,(λe j=>absurd j qk),λ_=>rfl⟩
 let D:=I.laid (a:=s.heap.objs.size) (o:=.own (s.heap.objs.size+1)) (h':=s.heap.push W.emptyDict) (t':=s.toks) (λb u q=>af _ q) (ai _) ⟨_,e1⟩;calc D.laid (a:=s.heap.objs.size+1) (o:=.ins C s.heap.objs.size []) (t':=s.toks) (λb u q=>af _ q) (iL (fi _ _)) ?_;let ne:s.heap.objs.size≠s.heap.objs.size+1:=cq (gN _);refine⟨by rw[aZ ne,aA],fe _,ne,e2,λ_=>none,(Heap.Ns1.of_empty e3).at λo q=>af _ q,λ_=>True.intro,λy hy=>absurd rL hy⟩
def Wz (hb:attributeBase e f env (eval e env)=eval e env)(h:wpAny (model prog w) A (eval e env) (λo j=>wpAny (model prog w) A (getAttr o f true) Q E j) E s):wpAny (model prog w) A (eval (.Attribute e f pos) env) Q E s:=Attribute_any_ h (by rw[arm_eval_Attribute,hb])
end
def YT (K:W.Frag)(ta:TE)(f:Str):TE:=λσ H Q=>ta σ H λx H1=>∃a C dx fs v,x=.ref a/\H1 a=some (.ins C dx fs)/\Cls K C/\jg K C f/\fs.lookup f=some v/\Q v H1
def ahb (K:W.Frag)(ta tv:TE)(f:Str):TS:=λD σ H=>tv σ H λy H1=>ta σ H1 λx j=>∃a C dx fs,x=.ref a/\j a=some (.ins C dx fs)/\Cls K C/\jg K C f/\fs.length<1000/\
 D.nx σ (upd j a (.ins C dx (iD f y fs)))
section
variable {X:Cx}{o e value:Expr}{f:Str}{pos pos':Pos}{ta tv:TE}
variable {ao:AE}{σ:St}{H:Hp}{s:Shared}{A:Around}{E Q:AD}{c:Value}{b:Bool}
def ahc (Y:PE X e ta)(hb:attributeBase e f X.env (eval e X.env)=eval e X.env):PE X (.Attribute e f pos) (YT X.K ta f):=by intro ao s σ H Q I h;calc Wz hb (cH (Y ao s σ H _ I h) λu s1 j=>?_);let⟨x,H1,F,J,a,C,dx,fs,v,ex,D,c,n,l,q⟩:=j;subst ex;obtain rfl:u=Value.ref a:=J;show YQ F D c n l λZ s2 G O=>⟨v,H1,G,O,q⟩
def ahd (ha:PE X o ta)(J:PE X value tv)(hs:swapsWith value (some (.Attribute o f pos')) pos.line X.env=pure false):PS X (.Assign [.Attribute o f pos'] value pos) (ahb X.K ta tv f):=by intro ao s σ H D I h;calc plainObj_wpAny_Assign_Attribute (cH (J ao s σ H _ I h) λu s1 j=>?_) hs;let⟨y,H1,I1,F,q⟩:=j;calc cH (ha ao s1 σ H1 _ I1 q) λov s2 j=>?_;let⟨x,H2,O,Y,a,C,dx,fs,ex,G,c,n,l,q2⟩:=j;subst ex;obtain rfl:ov=Value.ref a:=Y;show YS O G c n l F λs3 Z=>⟨σ,_,Z,q2⟩
inductive mJ (K:W.Frag) (H:Hp):V->Value->Prop where
 | non:mJ K H .non (.type "NoneType")
 | bl (x:Bool):mJ K H (.bl x) (.type "bool")
 | int (i:Int):mJ K H (.int i) (.type "int")
 | str (x:Str):mJ K H (.str x) (.type "str")
 | flt (x:UInt64):mJ K H (.flt x) (.type "float")
 | lst {a:Addr} {xs:List V} (e:H a=some (.lst xs)):mJ K H (.ref a) (.type "list")
 | qx {a:Addr} {o:Obj} {xs:List V} (e:H a=some (.qx o (.lst xs))):mJ K H (.ref a) (.type "list")
 | tup {a:Addr} {xs:List V} (e:H a=some (.tup xs)):mJ K H (.ref a) (.type "tuple")
 | dK {a:Addr} {kvs:List (Key×V)} (e:H a=some (.dK kvs)):mJ K H (.ref a) (.type "dict")
 | dT {a:Addr} {kvs:List (List Key×V)} (e:H a=some (.dT kvs)):mJ K H (.ref a) (.type "dict")
 | ins {a C dx:Addr} {fs:List (Str×V)} (e:H a=some (.ins C dx fs)) (cl:Cls K C) (ha:W.findIn K (.ref C) "__class__"=some (some (.builtin "object.__class__")))
   (hn:W.specialIn K (.builtin "object.__class__") "__get__"=some (some (.builtin "getset_descriptor.__get__"))) (htk:W.takesIn K (.builtin "object.__class__")=some true)
   (hm:W.mroIn K C (.type "object")=some true):mJ K H (.ref a) (.ref C)
def Od (I:aW X ao σ H s)(j:cL x u)(ty:mJ X.K H x t)(e:W.kitOne X.K t c=some b)(h:∀tk,Q (.bool b) {s with toks:=tk}):wpAny (model X.prog X.w) A (call (.builtin "isinstance") [u,c]) Q E s:=by
 cases ty with
 | non=>cases(show u=Value.none from j);show fk W.kitx_none I.jw True.intro e (λz=>nomatch z) h
 | bl y=>cases(show u=Value.bool y from j);show fk W.kitx_bool I.jw True.intro e (λz=>nomatch z) h
 | int i=>let⟨t,q⟩:=(show ∃t,u=Value.int i t from j);cases q;show fk W.kitx_int I.jw True.intro e (λz=>nomatch z) h
 | str y=>let⟨t,q⟩:=(show ∃t,u=Value.str y t from j);cases q;show fk W.kitx_str I.jw True.intro e (λz=>nomatch z) h
 | flt y=>let⟨t,q⟩:=(show ∃t,u=Value.float y t from j);cases q;show fk W.kitx_float I.jw True.intro e (λz=>nomatch z) h
 | @lst a xs ea=>
  cases(show u=Value.ref a from j);let⟨_,_,n,_,h1⟩:=(show gA X.prog X.w H s.heap a (.lst xs) from I.hok a _ ea)
  show fk W.kitx_list I.jw ⟨_,h1,rL⟩ e (λz=>nomatch z) h
 | @qx a ob xs ea=>
  cases(show u=Value.ref a from j);let⟨_,_,_,n,_,h1⟩:=(show gA X.prog X.w H s.heap a (.qx ob (.lst xs)) from I.hok a _ ea)
  show fk W.kitx_list I.jw ⟨_,h1,rL⟩ e (λz=>nomatch z) h
 | @tup a xs ea=>
  cases(show u=Value.ref a from j);let⟨_,_,_,p⟩:=(show gA X.prog X.w H s.heap a (.tup xs) from I.hok a _ ea)
  let⟨o,h1,h2,_⟩:=p;show fk W.kitx_tuple I.jw ⟨o,h1,h2⟩ e (λz=>nomatch z) h
 | @dK a kvs ea=>
  cases(show u=Value.ref a from j);let⟨_,_,vs,_,p⟩:=(show gA X.prog X.w H s.heap a (.dK kvs) from I.hok a _ ea)
  let⟨o,es,ep,h1,h2,_⟩:=p;show fk W.kitx_dict I.jw ⟨o,h1,h2.1⟩ e (λz=>nomatch z) h
 | @dT a kvs ea=>
  cases(show u=Value.ref a from j);let⟨_,_,xs,_,o,es,ep,h1,h2,_⟩:=(show gA X.prog X.w H s.heap a (.dT kvs) from I.hok a _ ea)
  show fk W.kitx_dict I.jw ⟨o,h1,h2.1⟩ e (λz=>nomatch z) h
 | @ins a C dx fs ea cl ha hn htk hm=>cases(show u=Value.ref a from j);let⟨mA,O,_⟩:=zQ I.hok ea;let⟨od,J,_⟩:=O.look;show fk (W.kitx_own (cl.get _) cl.hd ha hn htk hm) I.jw J e (λz=>nomatch z) h
end
structure gk (k:Nat)(A:Around):Prop where
 hd:A.handled=none
 dp:A.depth+3*k+5<recursionLimit
 un:A.units+16*k+200<cLine
def gk.mono (r:gk k A)(h:j<=k:=by decide):gk j A:=⟨r.hd,by have:=r.dp;lia,by have:=r.un;lia⟩
def gk.deeper (r:gk (k+1) A)(env):gk k (A.deeper env):=⟨r.hd,by have:=r.dp;show A.depth+1+3*k+5<_;lia,by have:=r.un;show A.units+3+16*k+200<_;lia⟩
def YW {A:Around}:(A.under (.builtin "type.__call__" ⟨.ref C::us,kw⟩)).depth=A.depth+1:=by first|rfl|simp[Around.under,Code.weight,Code.isCreation,Code.isGuard,Code.isCaller,Code.frames,Code.isFrame,guardIds]
def YX {A:Around}:(A.under (.builtin "type.__call__" ⟨.ref C::us,kw⟩)).units=A.units+1:=by first|rfl|simp[Around.under,Code.cUnits,Code.frames,Code.isFrame]
def gk.make (r:gk (k+1) A)(C)(us)(kw):gk k (A.under (.builtin "type.__call__" ⟨.ref C::us,kw⟩)):=⟨r.hd,by have:=r.dp;rw[YW];(simp_all;lia),by have:=r.un;rw[YX];(simp_all;lia)⟩
def gk.depth (r:gk k A):A.depth<recursionLimit:=by have:=r.dp;lia
def gk.units (r:gk k A):A.units+64<cLine:=by have:=r.un;lia
def gk.ahe (r:gk k A):A.units<cLine:=by have:=r.un;lia
def Aq:TA:=λ_ H Q=>Q [] H
def vR (ta:TE)(tr:TA):TA:=λσ H Q=>ta σ H λx H1=>tr σ H1 λxs j=>Q (x::xs) j
section
variable {X:Cx}{e:Expr}{es:List Expr}{te:TE}{t:TA}{pos:Pos}
def ahf:PA X [] Aq:=λ_ _ _ _ H Q I h=>io ⟨[],H,I,.nil,h⟩
def ae7 (ha:PE X e te)(O:PA X es t)(hs:starEach (e::es) X.env=(false,eval e X.env)::starEach es X.env:=by rfl):PA X (e::es) (vR te t):=by intro pos ao s σ H Q I h;rw[hs];show wpAny _ _ (spliced ((false,eval e X.env)::backTo pos (starEach es X.env))) _ _ s;calc fo (cH (ha ao s σ H _ I h) λu s1 j=>?_);let⟨x,H1,J,r1,q1⟩:=j;show cH (O pos ao s1 σ H1 _ J q1) λus s2 ⟨xs,D,G,F,q2⟩=>⟨x::xs,D,G,.cons r1 F,q2⟩
def ahg (t:TA):TE:=λσ H Q=>t σ H λxs H1=>xs.length<=sizeLine/\∀p,H1 p=none->Q (.ref p) (upd H1 p (.tup xs))
def ahh (t:TA):TE:=λσ H Q=>t σ H λxs H1=>xs.length<=sizeLine/\∀p,H1 p=none->Q (.ref p) (upd H1 p (.lst xs))
def ahi {x1}(h:PA X es t):PE X (.Tuple es x1 pos) (ahg t):=by intro ao s σ H Q I F;calc wpAny_Tuple_spliced (cH (h pos ao s σ H _ I F) λus s1 ⟨xs,H1,j,r,z,q⟩=>⟨by rw[<-r.length];show z,?_⟩);let D:H1 s1.heap.objs.size=none:=j.hok.fresh (ai _);calc⟨.ref s1.heap.objs.size,upd H1 s1.heap.objs.size (.tup xs),j.laid (t':=s1.toks) (λb u e=>af _ e) (ai _) ?_,rL,q _ D⟩;show⟨z,us,r,⟨_,bd _ rL,rL,_,rL⟩⟩
def ahj (h:PA X es t):PE X (.List es pos) (ahh t):=by intro ao s σ H Q I F;calc wpAny_List_spliced (cH (h pos ao s σ H _ I F) λus s1 ⟨xs,H1,j,r,z,q⟩=>⟨by rw[<-r.length];show z,?_⟩);let D:H1 s1.heap.objs.size=none:=j.hok.fresh (ai _);calc⟨.ref s1.heap.objs.size,upd H1 s1.heap.objs.size (.lst xs),j.laid (t':=s1.toks) (λb u e=>af _ e) (ai _) ?_,rL,q _ D⟩;show⟨z,us,0,r,bd _ rL⟩
end
abbrev Sp:=List V->Hp->VK->XK->Prop
abbrev uZ:=List Env->Hp->Shared->XK->Value->Shared->Prop
structure Hw (P:Program)(w:World)(K:W.Frag)(mg:Str->Option Value)(base:Heap)(A:Around)(outer:List Env)(s:Shared)(H:Hp):Prop where
 frames:A.frames=some outer
 mod:Mod K mg base
 bs:∀b o,base.get? b=some o->s.heap.get? b=some o/\H b=none
 Cw:base.objs.size<=s.heap.objs.size
 qp:s.heap.FunFrames base outer
 Df:∀b∈frs outer,H b=none
 hok:lE P w H s.heap
 bare:AllBare s.gens
def CE (outer:List Env)(P:Program)(w:World)(H:Hp)(s:Shared)(Q:VK)(u:Value)(s':Shared):Prop:=∃v H',s'.os=s.os/\AllBare s'.gens/\Un (frs outer) [] H H' s.heap s'.heap/\lE P w H' s'.heap/\cL v u/\Q v H'
def CR (CX:uZ)(outer:List Env)(P:Program)(w:World)(H:Hp)(s:Shared)(Q:VK)(E:XK)(r:Result)(s':Shared):Prop:=match r with| .ok (.ret u)=>CE outer P w H s Q u s'| .ok _=>False| .error e=>CX outer H s E e s'
structure cA (P:Program)(w:World)(K:W.Frag)(mg:Str->Option Value)(base:Heap)(CX:uZ)(k:Nat)(f:Addr)(fd:FuncData)(ps:List Str)(sp:Sp):Prop where
 len:∀vs H Q E,sp vs H Q E->vs.length=ps.length
 run:∀(A:Around) (outer:List Env) (s:Shared) (H:Hp) (args:Args) (us:List Value) (vs:List V) (Q:VK) (E:XK),gk k A->Hw P w K mg base A outer s H->BindsTo s fd args (ps.zip us)->Vals vs us->sp vs H Q E->
  codeAny (model P w) A (.call (.ref f) args) (CR CX outer P w H s Q E) s
def Hw.make {K:W.Frag}{mg:Str->Option Value}{outer:List Env}(e:Hw P w K mg base A outer s H)(C:Addr)(us:List Value)(j:List (Str×Value)):Hw P w K mg base (A.under (.builtin "type.__call__" ⟨.ref C::us,j⟩)) outer s H:=⟨by first|show e.frames|(simpa [Around.under,Code.envs,Code.isFrame,pushEnvs] using e.frames),e.mod,e.bs,e.Cw,e.qp,e.Df,e.hok,e.bare⟩
section
variable {X:Cx}{ao:AE}{σ:St}{H:Hp}{s s':Shared}
def aW.env0 (I:aW X ao σ H s):Hw X.prog X.w X.K X.mg X.base X.A X.stack s H:=⟨I.ok.frames,I.ok.mod,I.bs,bP I.ok.Cw I.sz,I.stack,I.zO,I.hok,I.bare⟩
def aW.after (I:aW X ao σ H s)(h:CE X.stack X.prog X.w H s Q u s'):EP X ao σ Q u s':=by let⟨v,H',os,bare,un,hok,r,q⟩:=h;let⟨D,g,d,t,j⟩:=s';obtain rfl:j=s.os:=os;show⟨v,H',I.call (h':=D) (g':=g) (d':=d) (t':=t) (ch:=[]) un hok bare (λb z=>absurd z qk),r,q⟩
end
def YZ (sp:Sp)(lF:List V)(E:XK)(t:TA):TE:=λσ H Q=>t σ H λvs H1=>sp (vs++lF) H1 Q E
def Qy (C:Addr)(m:Str)(sp:Sp)(lF:List V)(E:XK)(ta:TE)(t:TA):TE:=λσ H Q=>ta σ H λx H1=>∃a dx fs,x=.ref a/\H1 a=some (.ins C dx fs)/\fs.lookup m=none/\
 t σ H1 λvs j=>sp (x::(vs++lF)) j Q E
def aez (C:Addr)(sp:Sp)(lF:List V)(E:XK)(t:TA):TE:=λσ H Q=>t σ H λvs H1=>∀x dx,H1 x=none->H1 dx=none->dx≠x->
 sp (.ref x::(vs++lF)) (upd (upd H1 dx (.own x)) x (.ins C dx [])) (λv j=>v=.non/\Q (.ref x) j) E
def bR (K:W.Frag)(fd:FuncData)(ps:List Str)(ds:List Value):Prop:=∀(s:Shared) (us:List Value),K.In s.heap->(us++ds).length=ps.length->BindsTo s fd ⟨us,[]⟩ (ps.zip (us++ds))
def bR.all {K:W.Frag}{ps:List Str}(h:∀us:List Value,us.length=ps.length->bindArgs fd ⟨us,[]⟩=pure (ps.zip us)):bR K fd ps []:=λs us _ hl=>by rw[ib]at hl ⊢;show .of_eq (h us hl)
def Passes (CX:uZ)(X:Cx)(E:XK):Prop:=∀(ao:AE) (σ:St) (H:Hp) (s:Shared) (e:Value) (s':Shared),aW X ao σ H s->CX X.stack H s E e s'->X.xe e s'
section
variable {X:Cx}{CX:uZ}{k:Nat}{f C:Addr}{fd:FuncData}{ps:List Str}{sp:Sp}{lF:List V}{ds:List Value}{E:XK}{x m:Str}{p pos apos:Pos}{e o:Expr}{es:List Expr}{ta:TE}{t:TA}
def Rn {ao:AE}{σ:St}{H:Hp}{s:Shared}{Q:VK}{us:List Value}{vs:List V}(F:cA X.prog X.w X.K X.mg X.base CX k f fd ps sp)(G:gk k X.A)(hb:bR X.K fd ps ds)(hd:Vals lF ds)(hx:Passes CX X E)(I:aW X ao σ H s)(r:Vals vs us)(h:sp (vs++lF) H Q E):wpAny (model X.prog X.w) X.A (call (.ref f) us) (EP X ao σ Q) X.xe s:=by
 let D:Vals (vs++lF) (us++ds):=r.append hd;let hl:(us++ds).length=ps.length:=by rw[<-D.length];show F.len _ _ _ _ h
 calc ly (lj (F.run X.A X.stack s H ⟨us,[]⟩ (us++ds) (vs++lF) Q E G I.env0 (hb s us I.jw hl) D h) λr s' j=>?_);cases r with
 | error e=>show hx ao σ H s e s' I j
 | ok fl=>
  cases fl with| ret u=>show I.after j| next=>show False.elim j| brk=>show False.elim j| cont=>show False.elim j
def ae8 (F:cA X.prog X.w X.K X.mg X.base CX k f fd ps sp)(Z:gk k X.A)(Y:Gl X x)(hm:X.mg x=some (.ref f))(J:W.keepIn X.K (.ref f)=true)(hb:bR X.K fd ps ds)(hd:Vals lF ds)(hx:Passes CX X E)(ha:PA X (e::es) t)(D:(x==("__debug__":Str))=false:=by decide)(O:starEach (e::es) X.env=(false,eval e X.env)::starEach es X.env:=by rfl)(j:(backTo pos (starEach es X.env)).any (·.1)=false:=by rfl):PE X (.Call (.Name x p) (e::es) [] pos) (YZ sp lF E t):=by intro ao s σ H Q I h;calc hV (pO I Y hm ?_ D);calc js (h₀:=X.base) I.ok.mod.Js J (cH (ha pos ao s σ H _ I h) λus s1 ⟨vs,H1,G,r,q⟩=>⟨G.jw,?_⟩) O j;show Rn F Z hb hd hx G r q
def ae9 {pl:Sem Bool}(he:PE X o ta)(c:Cls X.K C)(hm:Meth X.K C m f)(F:cA X.prog X.w X.K X.mg X.base CX k f fd ps sp)(Y:gk k X.A)(hb:bR X.K fd ps ds)(hd:Vals lF ds)(hx:Passes CX X E)(ha:PA X (e::es) t)(D:starEach (e::es) X.env=(false,eval e X.env)::starEach es X.env:=by rfl)(j:(backTo pos (starEach es X.env)).any (·.1)=false:=by rfl)(ht:eval (.Call (.Attribute o m apos) (e::es) [] pos) X.env=(do
   let ov <- eval o X.env
   standAt apos.atName
   let (f,first) <- holding [ov] (getMethod ov m pl)
   callWith pos f first (backTo pos (starEach (e::es) X.env)) (backToKw pos (keywordEach [] X.env))):=by rfl) :
  PE X (.Call (.Attribute o m apos) (e::es) [] pos) (Qy C m sp lF E ta t):=by
 intro ao s σ H Q I h;calc W.methodCall_KW (pl:=pl) (cH (he ao s σ H _ I h) λu s1 O=>?_) ht;let⟨x,H1,J,rx,a,dx,fs,ex,Z,l,q⟩:=O;subst ex;obtain rfl:u=Value.ref a:=rx;calc Jx J Z c hm l ?_;calc js (first:=[.ref a]) (h₀:=X.base) I.ok.mod.Js hm.kp (cH (ha pos ao s1 σ H1 _ J q) λus s2 ⟨vs,H2,G,r,q2⟩=>⟨G.jw,?_⟩) D j;show Rn (us:=.ref a::us) (vs:=.ref a::vs) F Y hb hd hx G (.cons rL r) q2
def acK (Y:PE X o ta)(c:Cls X.K C)(hm:Meth X.K C m f)(F:cA X.prog X.w X.K X.mg X.base CX k f fd ps sp)(G:gk k X.A)(hb:bR X.K fd ps ds)(hd:Vals lF ds)(hx:Passes CX X E)(ht:eval (.Call (.Attribute o m apos) [] [] pos) X.env=(do
   let ov <- eval o X.env
   standAt apos.atName
   let (f,first) <- holding [ov] (getMethod ov m pl)
   callWith pos f first (backTo pos (starEach [] X.env)) (backToKw pos (keywordEach [] X.env))):=by rfl) :
  PE X (.Call (.Attribute o m apos) [] [] pos) (Qy C m sp lF E ta Aq):=by
 intro ao s σ H Q I h;calc W.methodCall_KW (pl:=pl) (cH (Y ao s σ H _ I h) λu s1 D=>?_) ht;let⟨x,H1,j,O,a,dx,fs,ex,J,l,q⟩:=D;subst ex;obtain rfl:u=Value.ref a:=O;calc Jx j J c hm l ?_;show W.callWith_K0 (first:=[.ref a]) j.jw hm.kp (Rn (us:=[.ref a]) (vs:=[.ref a]) F G hb hd hx j (.cons rL .nil) q)
structure Mk (K:W.Frag)(C f:Addr):Prop where
 makes:W.makesIn K C=true
 init:W.findIn K (.ref C) "__init__"=some (some (.ref f))
 fn:W.isFn K (.ref f)=true
 kp:W.keepIn K (.ref C)=true
def acL {ao:AE}{σ:St}{H:Hp}{s:Shared}{Q:VK}{us:List Value}{vs:List V}(M:Mk X.K C f)(F:cA X.prog X.w X.K X.mg X.base CX k f fd ps sp)(Z:gk (k+1) X.A)(hb:bR X.K fd ps ds)(hd:Vals lF ds)(hx:Passes CX X E)(I:aW X ao σ H s)(r:Vals vs us)(h:∀x dx,H x=none->H dx=none->dx≠x->sp (.ref x::(vs++lF)) (upd (upd H dx (.own x)) x (.ins C dx [])) (λv Y=>v=.non/\Q (.ref x) Y) E):wpAny (model X.prog X.w) X.A (call (.ref C) us) (EP X ao σ Q) X.xe s:=by
 let J:=h (s.heap.objs.size+1) s.heap.objs.size (I.hok.fresh (gX _)) (I.hok.fresh (ai _)) (cq (gN _));let D:=aW.made (C:=C) I;let G:Vals (V.ref (s.heap.objs.size+1)::(vs++lF)) (Value.ref (s.heap.objs.size+1)::(us++ds)):=.cons rL (r.append hd);let hl:(Value.ref (s.heap.objs.size+1)::us++ds).length=ps.length:=by let e:=G.length;rw[F.len _ _ _ _ J]at e;show e.symm
 refine ly (acJ (f:=f) I.jw M.makes M.init (beq_iff_eq.mp M.fn) (lj (F.run _ X.stack _ _ ⟨Value.ref (s.heap.objs.size+1)::us,[]⟩ (Value.ref (s.heap.objs.size+1)::(us++ds)) _ _ E (Z.make C us [])
  (D.env0.make C us []) (hb _ (Value.ref (s.heap.objs.size+1)::us) D.jw hl) G J) λr s' j=>?_))
 cases r with
 | error e=>show hx ao σ _ _ e s' D j
 | ok fl=>
  cases fl with
  | ret u=>let⟨v,H',I3,O,ev,q3⟩:=D.after j;subst ev;show⟨O,⟨V.ref (s.heap.objs.size+1),H',I3,rL,q3⟩⟩
  | next=>show False.elim j
  | brk=>show False.elim j
  | cont=>show False.elim j
def ae_ (M:Mk X.K C f)(F:cA X.prog X.w X.K X.mg X.base CX k f fd ps sp)(Y:gk (k+1) X.A)(O:Gl X x)(hm:X.mg x=some (.ref C))(hb:bR X.K fd ps ds)(hd:Vals lF ds)(hx:Passes CX X E)(ha:PA X (e::es) t)(D:(x==("__debug__":Str))=false:=by decide)(J:starEach (e::es) X.env=(false,eval e X.env)::starEach es X.env:=by rfl)(j:(backTo pos (starEach es X.env)).any (·.1)=false:=by rfl):PE X (.Call (.Name x p) (e::es) [] pos) (aez C sp lF E t):=by intro ao s σ H Q I h;calc hV (pO I O hm ?_ D);calc js (h₀:=X.base) I.ok.mod.Js M.kp (cH (ha pos ao s σ H _ I h) λus s1 ⟨vs,H1,G,r,q⟩=>⟨G.jw,?_⟩) J j;show acL M F Y hb hd hx G r q
end
structure bB (N P:List Str)(sc:Scope):Prop where
 kind:sc.kind=.function:=by rfl
 co:sc.isCoroutine=false:=by rfl
 gen:sc.isGenerator=false:=by rfl
 nd:N.Nodup:=by decide +kernel
 pre:N.take P.length=P:=by rfl
 par:∀x∈P,sc.names.lookup x=some .local\/sc.names.lookup x=some .cell:=by decide +kernel
 ahk:∀y∈sc.names,y.2≠.free:=by decide +kernel
theorem Oe {kindOf:Str->Option NameKind}{x:Str}:∀{binds:List (Str×Value)} {m:Str->Option Value},(∀v,(x,v)∉binds)->bindL kindOf binds m x=m x
 | [],_,_=>rfl
 | (n,v)::r,m,h=>by
  unfold bindL;rw[Oe λw hw=>h w (bz _ hw)];split
  .have:x≠n:=by rintro rfl;show h v cv
   simp[this]
  .rfl
theorem Og {kindOf:Str->Option NameKind}{x:Str}:∀{binds:List (Str×Value)} {m:Str->Option Value},(∀v,(x,v)∉binds)->bindC kindOf binds m x=m x
 | [],_,_=>rfl
 | (n,v)::r,m,h=>by
  unfold bindC;rw[Og λw hw=>h w (bz _ hw)];split;.rfl
  .have:x≠n:=by rintro rfl;show h v cv
   simp[this]
theorem Oh {kindOf:Str->Option NameKind}{x:Str}:∀{P:List Str} {vs:List Value} {i:Nat} {m:Str->Option Value},P.Nodup->P[i]?=some x->vs[i]?=some v->kindOf x=some .local->
  bindL kindOf (P.zip vs) m x=some v
 | [],_,_,_,_,h,_,_=>by simp at h
 | _::_,[],_,_,_,_,h,_=>by simp at h
 | p::P,w::vs,0,m,nd,h1,h2,hk=>by simp at h1 h2;subst h1;subst h2;show bindL kindOf ((p,w)::P.zip vs) m p=_;unfold bindL;rw[Oe λv j=>(ic.mp nd).1 (pV j).1,if_pos hk];simp
 | p::P,w::vs,i+1,m,nd,h1,h2,hk=>by show bindL kindOf ((p,w)::P.zip vs) m x=_;unfold bindL;show Oh (i:=i) (ic.mp nd).2 (by simpa using h1) (by simpa using h2) hk
theorem Oi {kindOf:Str->Option NameKind}{x:Str}:∀{P:List Str} {vs:List Value} {i:Nat} {m:Str->Option Value},P.Nodup->P[i]?=some x->vs[i]?=some v->kindOf x≠some .local->
  bindC kindOf (P.zip vs) m x=some v
 | [],_,_,_,_,h,_,_=>by simp at h
 | _::_,[],_,_,_,_,h,_=>by simp at h
 | p::P,w::vs,0,m,nd,h1,h2,hk=>by simp at h1 h2;subst h1;subst h2;show bindC kindOf ((p,w)::P.zip vs) m p=_;unfold bindC;rw[Og λv j=>(ic.mp nd).1 (pV j).1,if_neg hk];simp
 | p::P,w::vs,i+1,m,nd,h1,h2,hk=>by show bindC kindOf ((p,w)::P.zip vs) m x=_;unfold bindC;show Oi (i:=i) (ic.mp nd).2 (by simpa using h1) (by simpa using h2) hk
def start (N:List Str)(vs:List V):St:=vs.map some++List.replicate (N.length-vs.length) none
noncomputable def tW (CX:uZ)(P:Program)(w:World)(K:W.Frag)(mg:Str->Option Value)(base:Heap)(N:List Str)(qual:Str)(scope:Scope)(f:Addr)(cd:Value)(A:Around)(outer:List Env)(s:Shared)(H:Hp)(E:XK):Cx where
 prog:=P
 w:=w
 K:=K
 mg:=mg
 base:=base
 A:=A.deeper (envOfC qual scope s.heap.objs.size f cd)
 N:=N
 s₀:=s
 H₀:=H
 env:=envOfC qual scope s.heap.objs.size f cd
 outer:=outer
 stack:=envOfC qual scope s.heap.objs.size f cd::outer
 ex:=[]
 calm:=true
 fn:=λ_=>true
 pn:=[]
 xe:=λe s'=>wpAny (model P w) (A.deeper (envOfC qual scope s.heap.objs.size f cd)) (leaving (envOfC qual scope s.heap.objs.size f cd) e) (λ_ j=>CX outer H s E e j) (λD j=>CX outer H s E D j) s'
def Ro {sc:Scope}(h:sc.names.lookup x=some .cell):∃c,(cellsFrom n sc.names []).lookup x=some c:=by let q:=W.cellsFrom_some sc.names n [] (.inl h);show Option.isSome_iff_exists.mp q
def aaK {CX:uZ}{K:W.Frag}{mg:Str->Option Value}{N ps:List Str}{qual:Str}{scope:Scope}{A:Around}{outer:List Env}{E:XK}{vs:List V}(S:bB N ps scope)(hd:A.handled=none)(j:Hw P w K mg base A outer s H)(hl:vs.length=ps.length)(r:Vals vs us)(x:InCallC s s.heap.objs.size (bindL (envOfC qual scope s.heap.objs.size f cd).kindOf (ps.zip us) λ_=>none) (cellsFrom (s.heap.objs.size+1) scope.names []) (bindC (envOfC qual scope s.heap.objs.size f cd).kindOf (ps.zip us) λ_=>none) s1):aW (tW CX P w K mg base N qual scope f cd A outer s H E) [] (start N vs) H s1:=by
 let J:ps.length<=N.length:=by have:=congrArg List.length S.pre;rw[am]at this;lia
 let⟨h1,tk,rfl,G⟩:=x.done;let D:∀b:Addr,b∉(tW CX P w K mg base N qual scope f cd A outer s H E).ex:=λb z=>absurd (show b∈([]:List Addr) from z) qk;refine⟨⟨j.mod,S.kind,rL,rL,ai _,λy z c h1 h2=>?_,λy hy=>?_,λy c _ h=>?_,λ_=>hd,Around.frames_deeper j.frames,.inr ⟨rL,rL⟩,λb z=>absurd z (D b),j.bs,j.Cw,λb _ _=>D b,λb z=>absurd z (D b),j.qp,j.Df⟩,
  rfl,j.bare,Un.kept G,⟨_,x.toInCall.ns,λi y v h1 h2 h3=>?_⟩,λy c h=>⟨_,x.cell y c h⟩,j.hok.fresh (ai _),λy c h=>?_,λp hp=>absurd (show p∈([]:AE) from hp) qk,j.hok.kept G,?_⟩
 .show name_of_addr x.apart (iP h1) (iP h2)
 .let hy:scope.names.lookup y=some .cell\/scope.names.lookup y=some .free:=hy;rcases hy with hy|hy;.show Ro hy
  .show absurd rL (S.ahk _ (iP hy))
 .show av (x.above y c (iP h))
 .let hi:i<vs.length:=by
   unfold start at h2;by_cases hi:i<vs.length;.show hi
   .rw[cz (by simpa using hi)]at h2;rw[List.getElem?_replicate]at h2;split at h2 <;> cases h2
  let ha:vs[i]?=some v:=by
   unfold start at h2;rw[cS (by simpa using hi),ck]at h2;cases e:vs[i]? with
   | none=>rw[e]at h2;cases h2
   | some a=>rw[e]at h2;cases h2;rfl
  let⟨u,I,O⟩:=r.get ha;let hp:ps[i]?=some y:=by rw[<-S.pre,List.getElem?_take_of_lt (by simp_all)];show h1
  let F:ps.Nodup:=by rw[<-S.pre];show S.nd.sublist (List.take_sublist _ _)
  calc⟨u,O,?_⟩;rcases S.par y (bu hp) with k|k;.show .inl ⟨k,Oh F hp I k⟩
  .let⟨c,e⟩:=Ro (n:=s.heap.objs.size+1) k;calc .inr ⟨.inl k,c,e,?_⟩;let q:=x.cell y c e;rw[Oi F hp I (by show scope.names.lookup y≠_;rw[k];decide)]at q;show q
 .show j.hok.fresh (av (x.above y c (iP h)))
 .unfold start;show _=N.length;rw[aE,aa,cE];simp_all
def aeA {CX:uZ}{P:Program}{w:World}{K:W.Frag}{mg:Str->Option Value}{base:Heap}{k:Nat}{f:Addr}{name qual:Str}{j:Arguments}{body:List Stmt}{scope:Scope}{dV kV doc pm bN ct oc:Value}{an od:Option Addr}{osl:Array (Option Value)}{N ps:List Str}{sp:Sp}(lk:K.lookup f=some ⟨oc,od,.func (W.fnOf name qual j body scope dV kV doc pm an bN ct),osl⟩)(Z:W.codeIn K bN qual=true)(S:bB N ps scope)(len:∀vs H Q E,sp vs H Q E->vs.length=ps.length)(D:∀(A:Around) (outer:List Env) (s:Shared) (H:Hp) (vs:List V) (Q:VK) (E:XK),gk k (A.deeper (envOfC qual scope s.heap.objs.size f bN))->sp vs H Q E->
   ∃t,wO (tW CX P w K mg base N qual scope f bN A outer s H E) body t/\t {nx:=λ_ H'=>Q .non H',rt:=Q} (start N vs) H) :
  cA P w K mg base CX (k+1) f (W.fnOf name qual j body scope dV kV doc pm an bN ct) ps sp:=by
 calc⟨len,λA outer s H args us vs Q E hr G hb r Y=>?_⟩;let hl:=len _ _ _ _ Y;let KX:K.In s.heap:=G.mod.Js.keeps λb o e=>(G.bs b o e).1;let lim:s.heap.NoLimit:=G.mod.nolimit.keeps λb o e=>(G.bs b o e).1;let F:∀y∈ps.zip us,scope.names.lookup y.1=some .local\/(scope.names.lookup y.1=some .cell/\((cellsFrom (s.heap.objs.size+1) scope.names []).lookup y.1).isSome=true):=λ⟨n,v⟩ hy=>by
  rcases S.par n (pV hy).1 with q|q;.show .inl q
  .show .inr ⟨q,W.cellsFrom_some _ _ _ (.inl q)⟩
 calc codeAny_call_function hr.depth (KX _ _ lk) rL S.co S.gen rL (W.codeRec_of KX Z) (hb _ _ _ _ ?_);calc wpAny_newFunctionEnv_cells S.kind F λenv he s1 x=>?_;subst he;calc⟨lim.keeps x.toInCall.keep,codeAny_func ?_⟩;let⟨t,ht,hq⟩:=D A outer s H vs Q E (hr.deeper _) Y;let I:aW (tW CX P w K mg base N qual scope f bN A outer s H E) [] (start N vs) H s1:=aaK S hr.hd G hl r x;calc e_ (ht [] s1 (start N vs) H _ I hq) (λfl s' hs=>?_) λe s' hs=>hs;let O:∀{σ':St} {H':Hp} {v:V} {u:Value},aW (tW CX P w K mg base N qual scope f bN A outer s H E) [] σ' H' s'->cL v u->Q v H'->CE outer P w H s Q u s':=λ{σ' H' v u} J rv q=>⟨v,H',J.os,J.bare,J.base,J.hok,rv,q⟩
 cases fl with
 | ret u=>let⟨v,σ',H',J,rv,q⟩:=hs;show O J rv q
 | next=>let⟨σ',H',J,q⟩:=hs;show O (v:=V.non) (u:=Value.none) J rL q
 | brk=>let⟨_,_,_,q⟩:=hs;show False.elim q
 | cont=>let⟨_,_,_,q⟩:=hs;show False.elim q
section
variable {X:Cx}{x:Str}{p pos:Pos}{e:Expr}{es:List Expr}{t:TA}{id T:String}{r:List V->Hp->VK->Prop}
def tCB (r:List V->Hp->VK->Prop)(t:TA):TE:=λσ H Q=>t σ H λvs H1=>r vs H1 Q
def acM (G:iY X (.builtin id) r)(O:Gl X x)(hm:X.mg x=none)(F:bootBuiltins x=some (.builtin id))(ha:PA X (e::es) t)(hn:x≠"__name__":=by decide)(D:(x==("__debug__":Str))=false:=by decide)(J:starEach (e::es) X.env=(false,eval e X.env)::starEach es X.env:=by rfl)(j:(backTo pos (starEach es X.env)).any (·.1)=false:=by rfl):PE X (.Call (.Name x p) (e::es) [] pos) (tCB r t):=by intro ao s σ H Q I h;calc hV (rJ I O hm F ?_ hn D);show mS (cH (ha pos ao s σ H _ I h) λus s1 ⟨vs,H1,Y,r1,q1⟩=>G ao s1 σ H1 vs us Q Y r1 q1) J j
def aaL (G:iY X (.type T) r)(O:Gl X x)(hm:X.mg x=none)(F:bootBuiltins x=some (.type T))(ha:PA X (e::es) t)(hn:x≠"__name__":=by decide)(D:(x==("__debug__":Str))=false:=by decide)(J:starEach (e::es) X.env=(false,eval e X.env)::starEach es X.env:=by rfl)(j:(backTo pos (starEach es X.env)).any (·.1)=false:=by rfl):PE X (.Call (.Name x p) (e::es) [] pos) (tCB r t):=by intro ao s σ H Q I h;calc hV (rJ I O hm F ?_ hn D);show eW (cH (ha pos ao s σ H _ I h) λus s1 ⟨vs,H1,Y,r1,q1⟩=>G ao s1 σ H1 vs us Q Y r1 q1) J j
end
end L2
namespace HT
open PySem PyProof.Rows
section
variable {prog:Program}{w:World}{A:Around}{E:AD}{s:Shared}
def afa {vs ws:List Value}(ht:IsTup s.heap t vs.toArray)(hb:IsTup s.heap b ws.toArray)(Z:vs≠[])(h1:ws=[]->Q (.ref t) s)(h2:ws≠[]->Q (.ref s.heap.objs.size) {s with heap:=s.heap.push {cls:=.type "tuple",data:=.seq (vs++ws).toArray} })(hsz:vs.length+ws.length<=sizeLine):wpAny (model prog w) A (binaryOp .Add (.ref t) (.ref b)) Q E s:=by
 obtain⟨⟨cls,dd,data,sl⟩,J,hc,n,hd⟩:=id ht;obtain⟨⟨cls2,D,O,F⟩,j,G,Y,I⟩:=id hb;simp only at hc hd G I;subst hc hd G I;let e:vs.toArray++ws.toArray=(vs++ws).toArray:=qk;by_cases hw:ws=[]
 .show concat_meets ⟨_,J,rL⟩ ⟨_,j,rL⟩ noFill_tuple_add seq_tuple_add me lP (lm _ _)
   (tuple_addW1 t b vs.toArray ws.toArray n Y dd D sl F (by simpa using Z) (by simp[hw])) ⟨J,j,h1 hw⟩
 .refine concat_meets ⟨_,J,rL⟩ ⟨_,j,rL⟩ noFill_tuple_add seq_tuple_add me lP (lm _ _)
   (tuple_addW2 t b vs.toArray ws.toArray n Y dd D sl F (by simpa using Z) (by simpa using hw) (by rw[a_,a_];show hsz)) ⟨J,j,?_⟩
  rw[e];show h2 hw
def dw (n d:Nat):Option Int->Nat
 | none=>d
 | some v=>if v<0 then (v+(n:Int)).toNat else min v.toNat n
def tX (n d):dw n d none=d:=rfl
def jX (n d k:Nat):dw n d (some (k:Int))=min k n:=by show (if (k:Int)<0 then ((k:Int)+(n:Int)).toNat else min (k:Int).toNat n)=min k n;rw[if_neg qi,eI]
def aaM (n d)(hd:d<=n)(o):dw n d o<=n:=by
 cases o with
 | none=>show hd
 | some v=>
  show (if v<0 then (v+(n:Int)).toNat else min v.toNat n)<=n;by_cases j:v<0;.rw[if_pos j];lia
  .rw[if_neg j];show Nat.min_le_right _ _
def Ly (v:Int)(n d:Nat):(if v<0 then max (v+(n:Int)) 0 else min v (n:Int))=((dw n d (some v):Nat):Int):=by
 show (if v<0 then max (v+(n:Int)) 0 else min v (n:Int))=(((if v<0 then (v+(n:Int)).toNat else min v.toNat n):Nat):Int)
 by_cases j:v<0;.simp only[if_pos j];lia
 .simp only[if_neg j];grind
def Y4 (lo hi:Option Int)(n:Nat):Builtin.Slice.sliceAdjust lo hi 1 (n:Int)=(((dw n 0 lo:Nat):Int),((dw n n hi:Nat):Int)):=by
 let h1:¬((1:Int)<0):=qi;unfold Builtin.Slice.sliceAdjust;simp only[h1,if_false];refine Prod.ext ?_ ?_
 .cases lo with| none=>rfl| some v=>show Ly v n 0
 .cases hi with| none=>rfl| some v=>show Ly v n n
def Y5 (i j:Nat):Builtin.Slice.slicePlaces (i:Int) (j:Int) 1=j-i:=by unfold Builtin.Slice.slicePlaces;let h1:(1:Int) > 0:=qi;simp only[h1,if_true,Int.ediv_one];split <;> simp_all
def Jy (p:IsPart v o)(h:Q o s):wpAny (model prog w) A (Builtin.Slice.slicePartIndex v) Q E s:=by
 cases p with| none=>show slicePart_none h| int i t=>show slicePart_int h
def wR {sl:Addr}{G F:Value}{lo hi:Option Int}{n:Nat}{Q:Int×Int×Nat->Shared->Prop}(hs:s.heap.IsSliceOf sl G F .none)(pl:IsPart G lo)(I:IsPart F hi)(h:Q (((dw n 0 lo:Nat):Int),1,dw n n hi-dw n 0 lo) s):wpAny (model prog w) A (Builtin.Slice.sliceApplied (.ref sl) (pure (n:Int))) Q E s:=by let⟨os,j,J,D⟩:=id hs;unfold Builtin.Slice.sliceApplied Builtin.Slice.sliceFields;calc ae (ae (fm j D (x:=G) rL (ae (fm j D (x:=F) rL (ae (fm j D (x:=.none) rL (aw ?_)))))));calc ae (slicePart_none ?_);show wpAny _ _ (if ((1:Int)==0)=true then _ else _) _ _ s;rw[if_neg qo];calc ae (Jy pl (ae (Jy I (ae (aw ?_)))));show wpAny _ _ (match Builtin.Slice.sliceAdjust lo hi 1 (n:Int) with|(lo,hi)=>pure (lo,(1:Int),Builtin.Slice.slicePlaces lo hi 1)) _ _ s;rw[Y4 lo hi n];show wpAny _ _ (pure (((dw n 0 lo:Nat):Int),(1:Int),Builtin.Slice.slicePlaces ((dw n 0 lo:Nat):Int) ((dw n n hi:Nat):Int) 1)) _ _ s;rw[Y5];show aw h
def acN (xs:Array Value)(i k:Nat):((List.range k).filterMap λ(m:Nat)=>xs[((i:Int)+(m:Int)*1).toNat]?).toArray=((xs.toList.drop i).take k).toArray:=by
 let e:(λ(m:Nat)=>xs[((i:Int)+(m:Int)*1).toNat]?)=λm=>xs[i+m]?:=by
  funext m;have:((i:Int)+(m:Int)*1).toNat=i+m:=by lia
  rw[this]
 rw[e];have:=pick_run xs i k;rw[List.filterMap_map]at this;let e2:((λx=>xs[x]?) ∘ λx=>i+x)=λm=>xs[i+m]?:=rfl;rw[e2]at this;rw[this]
def Gw {lo hi:Option Int}(ht:IsTup s.heap t items)(hs:s.heap.IsSliceOf sl vl vu .none)(pl:IsPart vl lo)(O:IsPart vu hi)(hw:¬(dw items.size 0 lo=0/\dw items.size items.size hi=items.size))(h:Q (.ref s.heap.objs.size) {s with heap:=s.heap.push {cls:=.type "tuple",data:=.seq ((items.toList.drop (dw items.size 0 lo)).take (dw items.size items.size hi-dw items.size 0 lo)).toArray} })(hsz:items.size<=sizeLine):wpAny (model prog w) A (getItem (.ref t) (.ref sl)) Q E s:=by
 let j:sizeOk (.seq ((items.toList.drop (dw items.size 0 lo)).take (dw items.size items.size hi-dw items.size 0 lo)).toArray):=by show ((items.toList.drop (dw items.size 0 lo)).take (dw items.size items.size hi-dw items.size 0 lo)).toArray.size<=sizeLine;rw[a_,am,ba,fA];lia
 let Y:dw items.size items.size hi<=items.size:=aaM _ _ (ai _) hi;let⟨os,D,G,J⟩:=id hs;let I:s.TypeIs (.ref sl) "slice":=⟨os,D,G⟩
 unfold getItem
 try with_reducible refine ik ?_
 first|refine ae (aw ?_)|skip
 calc ae (wpAny_sequenceKey ht.typeIs qo ?_);refine ae (iX (name:=Str.ofString "__getitem__") ht.typeIs fw
  (gT fw ht.typeIs entry_tuple_getitem ?_ (args_tuple_getitem _ _)))
 show wpAny _ _ (Builtin.Tuple.tupleItemsOf (.ref t) >>= _) _ _ s;calc ae (tupleItemsOf_ ht ?_);calc ae (wpAny_typeOf I ?_);rw[if_pos qo];calc ae (wR hs pl O ?_);let F:¬((((dw items.size 0 lo:Nat):Int)==0&&(1:Int)==1&&(dw items.size items.size hi-dw items.size 0 lo)==items.size)=true):=by intro q;rw[cn,cn]at q;let q1:((dw items.size 0 lo:Nat):Int)=0:=eq_of_beq q.1.1;let q2:dw items.size items.size hi-dw items.size 0 lo=items.size:=eq_of_beq q.2;show hw ⟨Iff.mp Int.ofNat_inj q1,by simp_all⟩
 show wpAny _ _ (if (((dw items.size 0 lo:Nat):Int)==0&&(1:Int)==1&&(dw items.size items.size hi-dw items.size 0 lo)==items.size)=true then _ else _) _ _ s;rw[if_neg F,acN]
 first| show ae (m:=Builtin.Tuple.tupleExact _) (gv (aw ⟨_,rL,aw h⟩) j)| show ae (m:=Builtin.Tuple.tupleExact _) (gv (ae (aw (aw ⟨_,rL,aw h⟩))) j)| show ae (ae (m:=Builtin.Tuple.tupleExact _) (gv (aw (aw ⟨_,rL,aw h⟩)) j))| show ae (ae (m:=Builtin.Tuple.tupleExact _) (gv (aw ⟨_,rL,aw h⟩) j))
end
end HT
namespace L2
open PySem PySem.Spec PyProof.Rows
abbrev TO:=St->Hp->(Option Int->Hp->Prop)->Prop
def PO (X:Cx)(e:Option Expr)(t:TO):Prop:=∀(ao:AE) (s:Shared) (σ:St) (H:Hp) (Q:Option Int->Hp->Prop),aW X ao σ H s->t σ H Q->
  wpAny (model X.prog X.w) X.A (evalPart e X.env) (λu s'=>∃o H',aW X ao σ H' s'/\IsPart u o/\Q o H') X.xe s
def WK:TO:=λ_ H Q=>Q none H
def aeB (t:TE):TO:=λσ H Q=>t σ H λx H1=>∃i,x=.int i/\Q (some i) H1
section
variable {X:Cx}{e:Expr}{te:TE}{lo hi:Option Expr}{tl th:TO}{pos p2:Pos}
def afb:PO X none WK:=by intro ao s σ H Q I h;rw[evalPart_none];show aw ⟨none,H,I,.none,h⟩
def afc (h:PE X e te):PO X (some e) (aeB te):=by intro ao s σ H Q I hw;rw[evalPart_some];calc cH (h ao s σ H _ I hw) λu s1 j=>?_;let⟨x,H1,D,r1,q1⟩:=j;let⟨i,rfl,q⟩:=q1;let⟨t,rfl⟩:=r1;show⟨some i,H1,D,.int i t,q⟩
def WL (X:Cx)(r:V->Option Int->Option Int->Hp->VK->Prop):Prop:=∀(ao:AE) (s:Shared) (σ:St) (H:Hp) (x:V) (v D j:Value) (lo hi:Option Int) (sl:Addr) (Q:VK),aW X ao σ H s->cL x v->s.heap.IsSliceOf sl D j .none->IsPart D lo->IsPart j hi->r x lo hi H Q->
  ∃T id,typeLookup (.type T) "__getitem__"=pure (some (.builtin id))/\s.TypeIs v T/\wpAny (model X.prog X.w) X.A (getItem v (.ref sl)) (EP X ao σ Q) X.xe s
def tSl (r:V->Option Int->Option Int->Hp->VK->Prop)(te:TE)(tl th:TO):TE:=λσ H Q=>te σ H λx H1=>tl σ H1 λl j=>th σ j λu D=>r x l u D Q
def acO (hr:WL X r)(he:PE X e te)(hl:PO X lo tl)(hu:PO X hi th):PE X (.Subscript e (.Slice lo hi none p2) pos) (tSl r te tl th):=by intro ao s σ H Q I h;calc Subscript_ (cH (he ao s σ H _ I h) λv s1 D=>?_);let⟨x,H1,I1,r1,q1⟩:=D;calc wpAny_Slice (cH (hl ao s1 σ H1 _ I1 q1) λG s2 D=>?_);let⟨l,Y,I2,pl,q2⟩:=D;calc cH (hu ao s2 σ Y _ I2 q2) λF j D=>?_;let⟨u,J,I3,pu,q3⟩:=D;rw[evalPart_none];calc aw ?_;let Z:aW X ao σ J {j with heap:=j.heap.push {cls:=.type "slice",data:=.fields #[G,F,.none]} }:=I3.kept (t':=j.toks) λb ob q=>af _ q;let⟨T,id,O,ht,hg⟩:=hr ao {j with heap:=j.heap.push {cls:=.type "slice",data:=.fields #[G,F,.none]} } σ J x v G F l u j.heap.objs.size Q Z r1 (Heap.IsSliceOf.new ..) pl pu q3;show wpAny (model X.prog X.w) X.A (subscriptTail e (.Slice lo hi none p2) v (.ref j.heap.objs.size)) (EP X ao σ Q) X.xe {j with heap:=j.heap.push {cls:=.type "slice",data:=.fields #[G,F,.none]} };show tail_any (ops:=[.ref j.heap.objs.size,v]) ht O hg (by with_unfolding_all rfl)
noncomputable def fV (xs:List V)(lo hi:Option Int):List V:=(xs.drop (HT.dw xs.length 0 lo)).take (HT.dw xs.length xs.length hi-HT.dw xs.length 0 lo)
def GX (xs)(lo hi):(fV xs lo hi).length<=xs.length:=by unfold fV;rw[am,ba];lia
def Vals.zR (r:Vals xs us):us=[]↔xs=[]:=by
 cases r with| nil=>simp| cons _ _=>simp
end
noncomputable def Cy (n:Nat)(i:Int):Option Nat:=if 0<=i then (if i<n then some i.toNat else none) else if -(n:Int)<=i then some (i+n).toNat else none
def qz {α:Type}(xs:List α)(i:Int):Option α:=(Cy xs.length i).bind λj=>xs[j]?
def WM (h:Cy n i=some j):seqIndex? i n=some j/\j<n/\-(n:Int)<=i/\i<n:=by
 unfold Cy at h;by_cases h0:0<=i
 .rw[if_pos h0]at h;by_cases h1:i<n
  .rw[if_pos h1]at h;let e:i.toNat=j:=bo h;show⟨by rw[seqIndex_of h0 h1,e],qi,qi,h1⟩
  .rw[if_neg h1]at h;cases h
 .rw[if_neg h0]at h;by_cases h1:-(n:Int)<=i
  .rw[if_pos h1]at h;let e:(i+n).toNat=j:=bo h;show⟨by rw[seqIndex_neg qi h1,e],qi,h1,qi⟩
  .rw[if_neg h1]at h;cases h
def Lz {α:Type}{xs:List α}{v:α}(h:qz xs i=some v):∃j,seqIndex? i xs.length=some j/\xs[j]?=some v/\j<xs.length/\-(xs.length:Int)<=i/\i<xs.length:=by
 unfold qz at h;cases e:Cy xs.length i with
 | none=>rw[e]at h;cases h
 | some j=>rw[e]at h;let⟨h1,h2,h3,h4⟩:=WM e;show⟨j,h1,h,h2,h3,h4⟩
def aQ {α:Type}{xs:List α}{j:Nat}{v:α}(h:xs[j]?=some v):qz xs (j:Int)=some v:=by
 let D:j<xs.length:=(ah.mp h).1;let e:Cy xs.length (j:Int)=some j:=by unfold Cy;rw[if_pos qi,if_pos (Iff.mpr mT D)];simp
 unfold qz;rw[e];show h
def Hx {α:Type}(xs:List α)(v:α):qz (xs++[v]) (-1)=some v:=by
 let hl:(xs++[v]).length=xs.length+1:=qk;let e:Cy (xs++[v]).length (-1)=some xs.length:=by unfold Cy;rw[hl,if_neg qo,if_pos qi];congr 1;simp +arith
 unfold qz;rw[e];show (xs++[v])[xs.length]?=some v;simp
def FZ (b:Expr):Prop:=∀o i,subscripted b false o i=operate [o,i] (getItem o i)
def GZ (X:Cx)(r:R2):Prop:=∀(value j:Expr) (ao:AE) (s:Shared) (σ:St) (H:Hp) (x y:V) (v u:Value) (Q:VK),aW X ao σ H s->cL x v->cL y u->r x y H Q->
  subscripted j false v u=operate [v,u] (getItem v u)->wpAny (model X.prog X.w) X.A (subscriptTail value j v u) (EP X ao σ Q) X.xe s
def yd (X:Cx)(id:String)(r:V->List V->Hp->VK->Prop):Prop:=∀(ao:AE) (s:Shared) (σ:St) (H:Hp) (x:V) (xs:List V) (v:Value) (us:List Value) (Q:VK),aW X ao σ H s->cL x v->Vals xs us->r x xs H Q->
  wpAny (model X.prog X.w) X.A (call (.builtin id) (v::us)) (EP X ao σ Q) X.xe s
section
variable {X:Cx}{a b:Expr}{ta tb:TE}{pos:Pos}
def ajg (J:GZ X r)(ha:PE X a ta)(hb:PE X b tb)(hs:FZ b):PE X (.Subscript a b pos) (GR r ta tb):=by intro ao s σ H Q I h;show Subscript_ (acF ha hb I h λv u s2 x y j F G D q=>J a b ao s2 σ j x y v u Q F G D q (hs _ _))
def ahl (K:W.Frag):R2:=λx y H Q=>∃p xs i v,x=.ref p/\y=.int i/\bH K H p xs/\qz xs i=some v/\Q v H
def ahm (K:W.Frag):R2:=λx y H Q=>∃p xs i v,x=.ref p/\y=.int i/\aU K H p xs/\qz xs i=some v/\Q v H
def aj3:R2:=λx y H Q=>∃z i c,x=.str z/\y=.int i/\z.length<=sizeLine/\qz z.cps.toList i=some c/\Q (.str ⟨#[c]⟩) H
def cW:GZ X (ahl X.K):=by
 intro value G ao s σ H x y v u Q I Z Y h hs;let⟨p,xs,i,z,rfl,rfl,hq,he,q⟩:=h;cases Z;let⟨t,rfl⟩:=Y;let⟨its,r,pl,hz⟩:=I.list hq;let⟨j,h1,h2,h3,h4,h5⟩:=Lz he;let⟨w,O,J⟩:=r.get h2;let hl:=r.length;let hn:=zP;let D:EP X ao σ Q w s:=⟨z,H,I,J,q⟩
 by_cases h0:0<=i
 .let F:i.toNat=j:=by
   rw[seqIndex_of h0 h5]at h1;show bo h1
  show item_listR pl.isList h0 qi (by rw[F];simpa using O) D hs
 .let F:(i+(its.toArray.size:Int)).toNat=j:=by
   rw[seqIndex_neg qi h4]at h1;rw[a_,<-hl];show bo h1
  show subscriptTail_builtinR (x:=w) pl.isList.typeIs slot_list_getitem.lookup
   (wpAny_getItem_list_neg (Q:=λr s'=>r=w/\EP X ao σ Q r s') pl.isList qi (by rw[a_] <;> lia) qi (by rw[F];simpa using O) ⟨rL,D⟩) hs
def bD:GZ X (ahm X.K):=by
 intro value D ao s σ H x y v u Q I O J h hs;let⟨p,xs,i,z,rfl,rfl,Y,he,q⟩:=h;cases O;let⟨t,rfl⟩:=J;let⟨its,r,pl,hz⟩:=I.tuple Y;let⟨j,h1,h2,h3,h4,h5⟩:=Lz he;let⟨w,Z,F⟩:=r.get h2;let hl:=r.length;let hn:=zP;let G:EP X ao σ Q w s:=⟨z,H,I,F,q⟩
 show subscriptTail_builtinR (x:=w) pl.typeIs slot_tuple_getitem.lookup
  (getItem_tuple (j:=j) (Q:=λr s'=>r=w/\EP X ao σ Q r s') pl qi qi (by rw[a_,<-hl];show h1) (by simpa using Z) ⟨rL,G⟩) hs
def ahn:GZ X aj3:=by
 intro value D ao s σ H x y v u Q I G F h hs;let⟨z,i,c,rfl,rfl,hz,J,q⟩:=h;let⟨t,rfl⟩:=G;let⟨t',rfl⟩:=F;let⟨j,h1,h2,h3,h4,h5⟩:=Lz J;let hl:z.cps.toList.length=z.length:=by simp[Str.length]
 rw[hl]at h1 h4 h5;let hn:=zP;show tail_any (typeIs_str s z t) slot_str_getitem.lookup (getItem_str (c:=c) (by
  let e1:decide (i < -(2^63:Int))=false:=ag qi;let e2:decide (i>=2^63)=false:=ag qi;rw[e1,e2,Bool.or_false]) (by rw[h1];simpa using h2) ⟨.str ⟨#[c]⟩,H,I.tok _,⟨_,rL⟩,q⟩) hs
def Y6 (its:List Value)(n j)(u):Obj.mapSeq (·.setIfInBounds j u) {cls:=.type "list",data:=.seq its.toArray n}={cls:=.type "list",data:=.seq (its.set j u).toArray n}:=by simp[Obj.mapSeq]
def aW.lst {ao:AE}{σ:St}{H:Hp}{s:Shared}{p:Addr}{xs:List V}(I:aW X ao σ H s)(h:H p=some (.lst xs)):∃(its:List Value) (n:Nat),Vals xs its/\s.heap.get? p=some {cls:=.type "list",data:=.seq its.toArray n}/\xs.length<=sizeLine:=by let⟨z,its,n,r,e⟩:=I.hok p _ h;show⟨its,n,r,e,z⟩
def aW.aho {ao:AE}{σ:St}{H:Hp}{s:Shared}{p:Addr}{xs ys:List V}{its its':List Value}{n j:Nat}{f:Obj->Obj}(I:aW X ao σ H s)(h:H p=some (.lst xs))(F:s.heap.get? p=some {cls:=.type "list",data:=.seq its.toArray n})(D:f {cls:=.type "list",data:=.seq its.toArray n}={cls:=.type "list",data:=.seq its'.toArray j })(r:Vals ys its')(hz:ys.length<=sizeLine)(t:Nat):aW X ao σ (upd H p (.lst ys)) {s with heap:=s.heap.update p f,toks:=t}:=by
 let e:(s.heap.update p f).get? p=some {cls:=.type "list",data:=.seq its'.toArray j }:=by rw[ie f F (by rw[D] <;> rfl),D]
 calc I.write (x:=p) (e:=p) (by rw[h];trivial) (.inl rL) (λb u hb q=>(fz _ _ (gu hb)).trans q) ⟨_,e⟩ ?_;show⟨hz,its',j,r,e⟩
def ajh:V->V->V->Hp->(Hp->Prop)->Prop:=λo i v H Q=>∃p xs k j,o=.ref p/\i=.int k/\H p=some (.lst xs)/\Cy xs.length k=some j/\Q (upd H p (.lst (xs.set j v)))
def set_list:acE X ajh:=by
 intro ao s σ H o i v ov Z u Q I Y ri O h;let⟨p,xs,k,j,rfl,rfl,hp,J,q⟩:=h;cases Y;let⟨t,rfl⟩:=ri;let⟨its,n,r,F,hz⟩:=I.lst hp;let⟨h1,h2,h3,h4⟩:=WM J;let hl:=r.length;let hn:=zP;let G:aW X ao σ (upd H p (.lst (xs.set j v))) {s with heap:=s.heap.update p (Obj.mapSeq (·.setIfInBounds j u))}:=I.aho hp F (Y6 its n j u) (r.set O j) (by rw[fb];show hz) s.toks
 by_cases h0:0<=k
 .let D:k.toNat=j:=by
   rw[seqIndex_of h0 h4]at h1;show bo h1
  show W.ki_setAt F h0 qi (by rw[a_,<-hl];show h4) (by rw[D];show⟨_,G,q⟩)
 .let D:(k+(its.toArray.size:Int)).toNat=j:=by
   rw[seqIndex_neg qi h3]at h1;rw[a_,<-hl];show bo h1
  show W.ki_setBack F qi (by rw[a_,<-hl];show h3) qi (by rw[D];show⟨_,G,q⟩)
def Rp (lo hi)(n):(sliceBounds lo hi none n).1=((HT.dw n 0 lo:Nat):Int)/\(sliceBounds lo hi none n).2.1=((HT.dw n n hi:Nat):Int)/\(sliceBounds lo hi none n).2.2=1:=by
 refine⟨?_,?_,rL⟩
 .cases lo with
  | none=>simp[sliceBounds,HT.dw]
  | some i=>
   simp only[sliceBounds,HT.dw,Option.getD_none,show (1:Int) > 0 by decide,if_true];by_cases h:i<0
   .simp only[h,if_true] <;> grind
   .simp only[h,if_false] <;> grind
 .cases hi with
  | none=>simp[sliceBounds,HT.dw]
  | some i=>
   simp only[sliceBounds,HT.dw,Option.getD_none,show (1:Int) > 0 by decide,if_true];by_cases h:i<0
   .simp only[h,if_true] <;> lia
   .simp only[h,if_false] <;> lia
def Qa (its:List Value)(lo hi):slicePick its.toArray lo hi none=((its.drop (HT.dw its.length 0 lo)).take (HT.dw its.length its.length hi-HT.dw its.length 0 lo)).toArray:=by let⟨h1,h2,h3⟩:=Rp lo hi its.toArray.size;unfold slicePick;rw[h1,h2,h3];simp only[sliceRange_one,pick_run,a_] <;> rfl
def ahp (K:W.Frag):V->Option Int->Option Int->Hp->VK->Prop:=λx lo hi H Q=>∃a xs,x=.ref a/\bH K H a xs/\∀p,H p=none->Q (.ref p) (upd H p (.lst (fV xs lo hi)))
def tY:WL X (ahp X.K):=by intro ao s σ H x v J G lo hi sl Q I D hs pl F h;let⟨a,xs,rfl,hx,q⟩:=h;cases D;let⟨its,r,ht,hz⟩:=I.list hx;let j:=r.length;calc⟨"list",_,slot_list_getitem.lookup,ht.isList.typeIs,?_⟩;calc wpAny_getItem_list_slice ht.isList hs pl F .none qk ?_ (by rw[a_] <;> simp_all);rw[Qa,<-j];calc⟨.ref s.heap.objs.size,_,I.laid (t':=s.toks) (o:=.lst (fV xs lo hi)) (λb ob q=>af _ q) (ai _) ?_,rL,q _ (I.hok.fresh (ai _))⟩;show⟨bP (GX xs lo hi) hz,_,0,(r.drop (HT.dw xs.length 0 lo)).take (HT.dw xs.length xs.length hi-HT.dw xs.length 0 lo),bd _ rL⟩
def vU:V->Bool
 | .non=>true
 | .bl _=>true
 | .int _=>true
 | .str _=>true
 | _=>false
noncomputable def G3:V->V->Bool
 | .non,.non=>true
 | .bl a,.bl b=>a==b
 | .bl a,.int b=>(if a then 1 else 0)==b
 | .int a,.bl b=>a==(if b then 1 else 0)
 | .int a,.int b=>a==b
 | .str a,.str b=>a==b
 | _,_=>false
def ahq (F:cL y u)(j:cL x v)(G:vU y=true)(D:vU x=true):SeqAt.EqAt A s u v (G3 y x):=by
 cases y with
 | non=>
  cases F;cases x with
  | non=>cases j;show SeqAt.EqAt.same _
  | bl b=>cases j;show SeqAt.EqAt.none_bool b
  | int b=>let⟨t,rfl⟩:=j;show SeqAt.EqAt.none_int b t
  | str b=>let⟨t,rfl⟩:=j;show SeqAt.EqAt.none_str b t
  | _=>show absurd (show false=true from D) bS
 | bl a=>
  cases F;cases x with
  | non=>cases j;show SeqAt.EqAt.bool_none a
  | bl b=>cases j;show SeqAt.EqAt.bool_bool a b
  | int b=>let⟨t,rfl⟩:=j;show SeqAt.EqAt.bool_int a b t
  | str b=>let⟨t,rfl⟩:=j;show SeqAt.EqAt.bool_str a b t
  | _=>show absurd (show false=true from D) bS
 | int a=>
  let⟨t',rfl⟩:=F;cases x with
  | non=>cases j;show SeqAt.EqAt.int_none a t'
  | bl b=>cases j;show SeqAt.EqAt.int_bool a t' b
  | int b=>let⟨t,rfl⟩:=j;show jv a t' b t
  | str b=>let⟨t,rfl⟩:=j;show SeqAt.EqAt.int_str a t' b t
  | _=>show absurd (show false=true from D) bS
 | str a=>
  let⟨t',rfl⟩:=F;cases x with
  | non=>cases j;show SeqAt.EqAt.str_none a t'
  | bl b=>cases j;show SeqAt.EqAt.str_bool a t' b
  | int b=>let⟨t,rfl⟩:=j;show SeqAt.EqAt.str_int a t' b t
  | str b=>let⟨t,rfl⟩:=j;show SeqAt.EqAt.str_str a t' b t
  | _=>show absurd (show false=true from D) bS
 | _=>show absurd (show false=true from G) bS
noncomputable def Jz (x:V)(u:Value):Bool:=match u with| .none=>G3 .non x| .bool b=>G3 (.bl b) x| .int i _=>G3 (.int i) x| .str z _=>G3 (.str z) x| _=>false
def aaN (r:cL y u)(f:vU y=true):Jz x u=G3 y x:=by
 cases y with
 | non=>cases r;rfl
 | bl b=>cases r;rfl
 | int i=>let⟨t,rfl⟩:=r;rfl
 | str z=>let⟨t,rfl⟩:=r;rfl
 | _=>show absurd (show false=true from f) bS
theorem LC:∀{xs:List V} {us:List Value},Vals xs us->xs.all vU=true->us.any (Jz x)=xs.any λy=>G3 y x
 | _,_,.nil,_=>rfl
 | y::xs,u::us,.cons r t,f=>by rw[List.all_cons,cn]at f;rw[kN,kN,aaN r f.1,LC t f.2]
theorem Hy (F:cL x v)(D:vU x=true):∀{xs:List V} {us:List Value},Vals xs us->xs.all vU=true->∀u∈us,SeqAt.EqAt A s u v (Jz x u)
 | _,_,.nil,_=>λu j=>by cases j
 | y::xs,u::us,.cons r t,f=>λG j=>by
  rw[List.all_cons,cn]at f;rcases bX.mp j with rfl|j;.rw[aaN r f.1];show ahq r F f.1 D
  .show Hy F D t f.2 G j
def inV (x:V)(xs:List V):Bool:=xs.any λy=>G3 y x
def rIn (K:W.Frag)(j:Bool):R2:=λx y H Q=>∃p xs,y=.ref p/\(bH K H p xs\/aU K H p xs)/\vU x=true/\xs.all vU=true/\Q (.bl (if j then !inV x xs else inV x xs)) H
def wU:gP X (compareOp .NotIn) (rIn X.K true):=by
 intro ao s σ H x y v u Q I F G h;let⟨p,xs,rfl,j,D,fs,q⟩:=h;cases G;rcases j with j|j
 .let⟨its,r,pl,hz⟩:=I.list j;calc SeqAt.notIn_listAt (Jz x) pl.isList (λw hw=>Hy F D r fs w (by simpa using hw)) ⟨.bl _,H,I,rL,?_⟩;rw[show its.toArray.any (Jz x)=its.any (Jz x) by simp,LC r fs];show q
 .let⟨its,r,pl,hz⟩:=I.tuple j;calc SeqAt.notIn_tupleAt (Jz x) pl (λw hw=>Hy F D r fs w (by simpa using hw)) ⟨.bl _,H,I,rL,?_⟩;rw[show its.toArray.any (Jz x)=its.any (Jz x) by simp,LC r fs];show q
def bY:iY X (.builtin "len") (λxs H Q=>∃p ys,xs=[.ref p]/\(bH X.K H p ys\/aU X.K H p ys)/\Q (.int ys.length) H):=by
 intro ao s σ H xs us Q I r h;let⟨p,ys,rfl,j,q⟩:=h;let⟨u,rfl,G⟩:=vals1 r;cases G;let hn:=zP;rcases j with j|j
 .let⟨its,F,pl,hz⟩:=I.list j;let D:=F.length;show Calls.call_len_list pl.isList (by simp only[a_] <;> lia) ⟨.int ys.length,H,I.tok _,⟨s.toks+1,by rw[a_,D]⟩,q⟩
 .let⟨its,F,pl,hz⟩:=I.tuple j;let D:=F.length;show len_tuple pl (by simp only[a_] <;> lia) ⟨.int ys.length,H,I.tok _,⟨s.toks+1,by rw[a_,D]⟩,q⟩
def Rq:iY X (.builtin "len") (λxs H Q=>∃z,xs=[.str z]/\z.length<=sizeLine/\Q (.int z.length) H):=by intro ao s σ H xs us Q I r h;let⟨z,rfl,hz,q⟩:=h;let⟨u,rfl,t,rfl⟩:=vals1 r;let hn:=zP;show len_str qi ⟨.int z.length,H,I.tok _,⟨_,rL⟩,q⟩
def rM:iY X (.type "list") (λxs H Q=>∃p ys,xs=[.ref p]/\(bH X.K H p ys\/aU X.K H p ys)/\∀l,H l=none->Q (.ref l) (upd H l (.lst ys))):=by
 intro ao s σ H xs us Q I r h;let⟨p,ys,rfl,G,q⟩:=h;let⟨u,rfl,Z⟩:=vals1 r;cases Z;let F:∀(its:List Value),Vals ys its->ys.length<=sizeLine->∀(h':Heap) (D:Nat),(∀b o',s.heap.get? b=some o'->h'.get? b=some o')->
   h'.get? s.heap.objs.size=some {cls:=.type "list",dict:=none,data:=.seq its.toArray D,slots:=#[]}->EP X ao σ Q (.ref s.heap.objs.size) {s with heap:=h' }:=λits j hz h' D kp e=>
  ⟨.ref s.heap.objs.size,_,I.laid (t':=s.toks) kp (ai _) (show gA X.prog X.w _ h' _ (.lst ys) from ⟨hz,its,D,j,e⟩),rL,q _ (I.hok.fresh (ai _))⟩
 rcases G with G|G
 .let⟨its,j,pl,hz⟩:=I.list G;let Y:=j.length;let⟨o,J,O,n,hd⟩:=pl.isList;show call_list_seq p (.inl rL) J O hd (λh' D kp e=>F its j hz h' D kp e) (by simp only[a_] <;> lia)
 .let⟨its,j,pl,hz⟩:=I.tuple G;let Y:=j.length;let⟨o,J,O,n,hd⟩:=pl;show call_list_seq p (.inr rL) J O hd (λh' D kp e=>F its j hz h' D kp e) (by simp only[a_] <;> lia)
def jx:iY X (.type "tuple") (λxs H Q=>∃p ys,xs=[.ref p]/\((bH X.K H p ys/\∀l,H l=none->Q (.ref l) (upd H l (.tup ys)))\/(aU X.K H p ys/\Q (.ref p) H))):=by
 intro ao s σ H xs us Q I r h;let⟨p,ys,rfl,h⟩:=h;let⟨u,rfl,J⟩:=vals1 r;cases J;rcases h with⟨D,q⟩|⟨D,q⟩
 .let⟨its,j,pl,hz⟩:=I.list D;let O:=j.length;calc call_tuple_list pl.isList (λh' kp=>?_) (by simp only[a_] <;> lia);let F:aW X ao σ H {s with heap:=h' }:=I.kept (t':=s.toks) kp;let G:aW X ao σ (upd H h'.objs.size (.tup ys)) {s with heap:=h'.push {cls:=.type "tuple",data:=.seq its.toArray} }:=
   F.laid (t':=s.toks) (λb o e=>af _ e) (ai _) (show gA X.prog X.w _ _ _ (.tup ys) from ⟨hz,its,j,IsTup.new _ _⟩)
  show⟨.ref h'.objs.size,_,G,rL,q _ (F.hok.fresh (ai _))⟩
 .let⟨its,j,pl,hz⟩:=I.tuple D;show call_tuple_same pl ⟨.ref p,H,I,rL,q⟩
def tyV (K:W.Frag)(T:String)(x:V)(H:Hp):Prop:=match x with
 | .str _=>T="str"
 | .int _=>T="int"
 | .ref p=>(T="list"/\∃xs,bH K H p xs)\/(T="tuple"/\∃o,K.lookup p=some o/\o.cls=.type "tuple"/\o.dict=none)\/
   (T="dict"/\((∃kvs,H p=some (.dK kvs))\/∃kvs,H p=some (.dT kvs)))\/(T="set"/\∃S n,H p=some (.set S n))
 | _=>False
def aaO {ao:AE}{σ:St}{H:Hp}{s:Shared}{T:String}{x:V}{v:Value}(I:aW X ao σ H s)(r:cL x v)(ty:tyV X.K T x H):s.TypeIs v T/\∀a,v=.ref a->∃ob,s.heap.get? a=some ob/\ob.dict=none:=by
 cases x with
 | str z=>let⟨t,rfl⟩:=r;cases(show T="str" from ty);show⟨typeIs_str s z t,λ_ e=>nomatch e⟩
 | int i=>let⟨t,rfl⟩:=r;cases(show T="int" from ty);show⟨typeIs_int s i t,λ_ e=>nomatch e⟩
 | ref p=>
  cases r;rcases ty with⟨rfl,xs,F⟩|⟨rfl,o,j,D,hd⟩|⟨rfl,j⟩|⟨rfl,S,n,j⟩
  .let⟨its,_,pl,_⟩:=I.list F;calc⟨pl.isList.typeIs,λa e=>?_⟩;cases e;let⟨o,n,e,c,hd,_⟩:=pl;show⟨o,e,hd⟩
  .calc⟨⟨o,I.jw p o j,D⟩,λa e=>?_⟩;cases e;show⟨o,I.jw _ o j,hd⟩
  .let z:∃o,s.heap.get? p=some o/\o.ExactDict:=by
    rcases j with⟨kvs,j⟩|⟨kvs,j⟩
    .let⟨_,_,_,_,o,_,_,e,ex,_⟩:=I.hok p _ j;show⟨o,e,ex⟩
    .let⟨_,_,_,_,o,_,_,e,ex,_⟩:=I.hok p _ j;show⟨o,e,ex⟩
   let⟨o,e,ex⟩:=z;calc⟨⟨o,e,ex.1⟩,λa e2=>?_⟩;cases e2;show⟨o,e,ex.2.1⟩
  .let⟨o,_,_,_,e,ex,_⟩:=I.hok p _ j;calc⟨⟨o,e,ex.1⟩,λa e2=>?_⟩;cases e2;show⟨o,e,ex.2.1⟩
 | _=>show False.elim ty
def acP (K:W.Frag)(T:String)(r:V->List V->Hp->VK->Prop)(to:TE):TE:=λσ H Q=>to σ H λx H1=>tyV K T x H1/\r x [] H1 Q
def tBM (K:W.Frag)(T:String)(r:V->List V->Hp->VK->Prop)(to:TE)(t:TA):TE:=λσ H Q=>to σ H λx H1=>tyV K T x H1/\t σ H1 λxs j=>r x xs j Q
variable {o e:Expr}{es:List Expr}{to:TE}{t:TA}{name:Str}{apos cpos:Pos}{T id:String}{r:V->List V->Hp->VK->Prop}
def ahr (J:PlainAttrs T)(slot:Slot T name id)(F:typeOf (.builtin id)=pure (.type "method_descriptor"))(hm:yd X id r)(Y:PE X o to)(j:attributeBase o name X.env (eval o X.env)=eval o X.env:=by rfl)(D:(apos.endLine==cpos.line)=true:=by rfl):PE X (.Call (.Attribute o name apos) [] [] cpos) (acP X.K T r to):=by intro ao s σ H Q I h;calc wpAny_Call_method0_late j D (cH (Y ao s σ H _ I h) λv s1 O=>?_);let⟨x,H1,G,r1,ty,q1⟩:=O;let⟨h1,h2⟩:=aaO G r1 ty;show⟨T,id,J,slot,F,h1,h2,g9 rL (PySem.evalArgs_none (hm ao s1 σ H1 x [] v [] Q G r1 .nil q1))⟩
def aji (Z:PlainAttrs T)(slot:Slot T name id)(J:typeOf (.builtin id)=pure (.type "method_descriptor"))(hm:yd X id r)(ho:PE X o to)(ha:PA X (e::es) t)(D:attributeBase o name X.env (eval o X.env)=eval o X.env:=by rfl)(G:((backTo cpos (starEach (e::es) X.env)).all (λx=>!x.1)&&(backToKw cpos (keywordEach [] X.env)).all (λx=>x.1.isSome)
   && decide ((e::es).length+([]:List Keyword).length+(if ([]:List Keyword).isEmpty then 0 else 1)<30))=true:=by rfl)
  (F:(apos.endLine==cpos.line)=true:=by rfl) (hs:starEach (e::es) X.env=(false,eval e X.env)::starEach es X.env:=by rfl) (j:(backTo cpos (starEach es X.env)).any (·.1)=false:=by rfl) :
  PE X (.Call (.Attribute o name apos) (e::es) [] cpos) (tBM X.K T r to t):=by
 intro ao s σ H Q I h;calc wpAny_Call_method_late D G F rL (cH (ho ao s σ H _ I h) λv s1 zz=>?_);let⟨x,H1,Y,r1,ty,q1⟩:=zz;let⟨h1,h2⟩:=aaO Y r1 ty;calc⟨T,id,Z,slot,J,h1,h2,?_⟩;let O:=ha cpos ao s1 σ H1 _ Y q1;rw[hs]at O ⊢;calc g9 (by show (false||(backTo cpos (starEach es X.env)).any (·.1))=false;rw[j] <;> rfl) (ir ?_);show cH O λus s2 ⟨vs,H2,I2,r2,q2⟩=>hm ao s2 σ H2 x vs v us Q I2 r1 r2 q2
end
def MtM (X:Cx)(id:String)(r:V->List V->Hp->VK->Prop):Prop:=∀(ao:AE) (s:Shared) (σ:St) (H:Hp) (x:V) (xs:List V) (v:Value) (us:List Value) (Q:VK),aW X ao σ H s->cL x v->Vals xs us->r x xs H Q->
  wpAny (model X.prog X.w) X.A (call (.builtin id) (v::us)) (EP X ao σ Q) X.xe s
theorem Vals.one:∀{x:V} {us:List Value},Vals [x] us->∃u,us=[u]/\cL x u
 | _,_,.cons r .nil=>⟨_,rL,r⟩
theorem Vals.zero:∀{us:List Value},Vals [] us->us=[]
 | _,.nil=>rfl
def Vals.dropLast (h:Vals xs us):Vals xs.dropLast us.dropLast:=by
 induction h with
 | nil=>show .nil
 | cons r t ih=>
  cases t with| nil=>show .nil| cons q t'=>show .cons r ih
theorem Vals.eraseIdx:∀{xs:List V} {us:List Value} (i:Nat),Vals xs us->Vals (xs.eraseIdx i) (us.eraseIdx i)
 | _,_,_,.nil=>.nil
 | _,_,0,.cons _ t=>t
 | _,_,i+1,.cons r t=>.cons r (Vals.eraseIdx i t)
theorem Vals.rep (h:Vals xs us):∀k:Nat,Vals (List.replicate k xs).flatten (List.replicate k us).flatten
 | 0=>.nil
 | k+1=>by rw[ej,ej,fh,fh];show Vals.append h (Vals.rep h k)
def Y7 {α:Type}(l:List α):l.eraseIdx (l.length-1)=l.dropLast:=by
 induction l with
 | nil=>rfl
 | cons a r ih=>
  cases r with
  | nil=>rfl
  | cons b r=>
   let e:(a::b::r).length-1=((b::r).length-1)+1:=by let h1:(a::b::r).length=r.length+2:=rfl;let h2:(b::r).length=r.length+1:=rfl;show h2
   rw[e,jb,ih]
   all_goals rfl
theorem foldl_rep (its:List Value):∀(k:Nat) (j:List Value),
  List.foldl (λx1 D=>x1++D) j.toArray (List.replicate k its.toArray)=(j++(List.replicate k its).flatten).toArray
 | 0,j=>by simp
 | k+1,j=>by
  let e:j.toArray++its.toArray=(j++its).toArray:=qk;let e2:(j++its)++(List.replicate k its).flatten=j++(List.replicate (k+1) its).flatten:=by rw[ej,fh,List.append_assoc]
  rw[<-e2,<-foldl_rep its k (j++its),<-e,ej,nc]
section
variable {X:Cx}{ao:AE}{σ:St}{H:Hp}{s:Shared}{l:Addr}{xs ys:List V}
def aW.Y8 {its its':List Value}(I:aW X ao σ H s)(G:H l=some (.lst xs))(e:s.heap.get? l=some {cls:=.type "list",data:=.seq its.toArray n})(F:f its.toArray=its'.toArray)(j:Vals ys its')(hz:ys.length<=sizeLine):aW X ao σ (upd H l (.lst ys)) {s with heap:=s.heap.update l (Obj.mapSeq f),toks:=t' }:=by let q:=PySem.IsL.update e f;rw[F]at q;calc I.write (x:=l) (e:=l) (by rw[G];show trivial) (.inl rL) (λJ u hb D=>(fz s.heap (Obj.mapSeq f) (gu hb)).trans D) ⟨_,q⟩ ?_;show⟨hz,its',_,j,q⟩
def aW.acQ (I:aW X ao σ H s)(j:Vals ys its)(hz:ys.length<=sizeLine):aW X ao σ (upd H s.heap.objs.size (.lst ys)) {s with heap:=s.heap.push {cls:=.type "list",data:=.seq its.toArray},toks:=t' }:=I.laid (λ_ _ q=>af _ q) (ai _) ⟨hz,its,0,j,bd _ rL⟩
def aW.fresh (I:aW X ao σ H s):H s.heap.objs.size=none:=I.hok.fresh (ai _)
def aW.Di (I:aW X ao σ H s)(j:H l=some (.lst xs)):xs.length<=sizeLine/\∃(its:List Value) (n:Nat),Vals xs its/\xs.length=its.length/\s.heap.get? l=some {cls:=.type "list",data:=.seq its.toArray n}:=by let⟨z,its,n,r,e⟩:=I.hok l _ j;show⟨z,its,n,r,r.length,e⟩
def Rr (h:n<=sizeLine):Builtin.List.listTooLong n=false:=by unfold Builtin.List.listTooLong;show ag qi
end
section
variable {X:Cx}
def afd:V->List V->Hp->VK->Prop:=λx vs H Q=>∃l xs y,x=.ref l/\vs=[y]/\H l=some (.lst xs)/\xs.length<sizeLine/\Q .non (upd H l (.lst (xs++[y])))
def jh:MtM X "list.append" afd:=by intro ao s σ H x vs v us Q I G D h;let⟨l,xs,y,rfl,rfl,j,hz,q⟩:=h;cases G;let⟨u,rfl,J⟩:=D.one;let⟨z,its,n,r,hl,e⟩:=I.Di j;calc call_meets F.slot_list_append ⟨_,e,rL⟩ F.entry_list_append (F.args_list_append_2 _ _) (PySem.list_append l its.toArray n u (by rw[a_];simp_all)) ⟨e,?_⟩;calc⟨.non,_,I.Y8 (its':=its++[u]) j e qk (r.append (.cons J .nil)) ?_,rL,q⟩;rw[aE,my];show hz
def afe:V->List V->Hp->VK->Prop:=λx vs H Q=>∃l b xs zs,x=.ref l/\vs=[.ref b]/\H l=some (.lst xs)/\H b=some (.lst zs)/\xs.length+zs.length<=sizeLine/\Q .non (upd H l (.lst (xs++zs)))
def aaP:MtM X "list.extend" afe:=by
 intro ao s σ H x vs v us Q I rx J h;let⟨l,b,xs,zs,rfl,rfl,D,hB,hz,q⟩:=h;cases rx;let⟨u,rfl,ru⟩:=J.one;cases ru;let⟨z,its,n,r,hl,e⟩:=I.Di D;let⟨z2,j,G,Y,Z,e2⟩:=I.Di hB;let hsz:its.toArray.size+j.toArray.size<=sizeLine:=by rw[a_,a_];simp_all
 let O:¬(!its.toArray.isEmpty&&Builtin.List.listTooLong (its.toArray.size+j.toArray.size))=true:=by rw[Rr hsz,Bool.and_false];show bS
 refine call_meets F.slot_list_extend ⟨_,e,rL⟩ F.entry_list_extend (F.args_list_extend_2 _ _)
  (AutoSeq1.list_extend_list_list_0 l its.toArray n b j.toArray G O (by rw[a_];simp_all) (Nat.le_succ_of_le hsz)) ⟨e,e2,?_⟩
 calc⟨.non,_,I.Y8 (its':=its++j) D e qk (r.append Y) ?_,rL,q⟩;rw[aE];show hz
def aj4:V->List V->Hp->VK->Prop:=λx vs H Q=>∃l xs y,x=.ref l/\vs=[]/\H l=some (.lst xs)/\xs[xs.length-1]?=some y/\Q y (upd H l (.lst xs.dropLast))
def aaQ:MtM X "list.pop" aj4:=by
 intro ao s σ H x vs v us Q I O J h;let⟨l,xs,y,rfl,rfl,G,hy,q⟩:=h;cases O;let j:=J.zero;subst j;let⟨z,its,n,r,hl,e⟩:=I.Di G;let⟨u,Z,Y⟩:=r.get hy;let D:its.toArray[its.toArray.size-1]?=some u:=by show its.toArray[its.length-1]?=some u;rw[<-Array.getElem?_toList,<-hl];show Z
 calc call_meets F.slot_list_pop ⟨_,e,rL⟩ F.entry_list_pop (F.args_list_pop_1 _) (MeetsSeq.list_pop_last l its.toArray n u D (by rw[a_];simp_all)) ⟨e,?_⟩;refine⟨y,_,I.Y8 (its':=its.dropLast) G e ?_ r.dropLast ?_,Y,q⟩
 .show its.toArray.eraseIdxIfInBounds (its.toArray.size-1)=its.dropLast.toArray;rw[a_,List.eraseIdxIfInBounds_toArray,Y7]
 .rw[nv];show bP (Nat.sub_le _ _) z
def aj5:R2:=λx y H Q=>∃l b xs zs,x=.ref l/\y=.ref b/\H l=some (.lst xs)/\H b=some (.lst zs)/\xs.length+zs.length<=sizeLine/\∀p,H p=none->Q (.ref p) (upd H p (.lst (xs++zs)))
def aaR:gP X (binaryOp .Add) aj5:=by intro ao s σ H x y v u Q I Z J h;let⟨l,b,xs,zs,rfl,rfl,G,Y,hz,q⟩:=h;cases Z;cases J;let⟨z,its,n,r,hl,e⟩:=I.Di G;let⟨z2,j,n2,D,F,e2⟩:=I.Di Y;calc PySem.P.add_list e e2 ?_ (by rw[a_,a_];lia);let O:its.toArray++j.toArray=(its++j).toArray:=qk;rw[O];show⟨.ref _,_,I.acQ (t':=s.toks) (r.append D) (by rw[aE];lia),rL,q _ I.fresh⟩
def aj6:R2:=λx y H Q=>∃l k xs,x=.ref l/\y=.int k/\H l=some (.lst xs)/\-(2^63)<=k/\k<2^63/\xs.length*k.toNat<=sizeLine/\
 ∀p,H p=none->Q (.ref p) (upd H p (.lst (List.replicate k.toNat xs).flatten))
def len_rep {α:Type}(xs:List α)(k):(List.replicate k xs).flatten.length=k*xs.length:=by
 induction k with| zero=>simp| succ k ih=>rw[ej,fh,aE,ih,pi,Nat.add_comm]
def aaS:gP X (binaryOp .Mult) aj6:=by
 intro ao s σ H x y v u Q I rx ry h;let⟨l,k,xs,rfl,rfl,Z,h1,h2,hz,q⟩:=h;cases rx;let⟨t,rfl⟩:=ry;let⟨z,its,n,r,hl,e⟩:=I.Di Z;let O:its.toArray.size*k.toNat<=sizeLine:=by rw[a_,<-hl];show hz
 let D:¬its.toArray.size*k.toNat > (2^63-1)/8:=by
  have:(sizeLine:Nat)<=(2^63-1)/8:=by decide
  lia
 let G:¬(!Builtin.List.listFitsIndex k)=true:=by rw[fitsIndex_both h1 h2];show bS
 let Y:¬Builtin.List.listTooLong (its.toArray.size*k.toNat)=true:=by rw[Rr O];show bS
 let j:List.foldl (λx1 J=>x1++J) #[] (List.replicate (if its.toArray.isEmpty=true then 0 else k.toNat) its.toArray)=(List.replicate k.toNat its).flatten.toArray:=by
  let f0:∀m:Nat,List.foldl (λx1 J=>x1++J) #[] (List.replicate m its.toArray)=(List.replicate m its).flatten.toArray:=λm=>by have:=foldl_rep its m [];rw[List.nil_append]at this;show this
  rw[f0];cases its with| nil=>simp| cons a r'=>rw[if_neg qk]
 refine kX (T:="list") (U:="int") qo ⟨_,e,rL⟩ (λs'=>typeIs_int s' k t) noFill_list_mul F.fills_int_mul F.slot_int_rmul repeat_list F.slot_int_index.lookup
  (call_meets F.slot_int_rmul (typeIs_int s k t) F.entry_int_rmul (F.args_int_rmul_2 _ _) (int___rmul___int_list k t l its.toArray n)
   ⟨e,rL,⟨_,e,rL⟩,call_meets F.slot_list_mul ⟨_,e,rL⟩ F.entry_list_mul (F.args_list_mul_2 _ _) (AutoListH.list___mul___list_int_3 l its.toArray n k t G D Y) ⟨e,?_⟩⟩)
 rw[j];show⟨.ref _,_,I.acQ (t':=s.toks) (r.rep k.toNat) (by rw[len_rep,Nat.mul_comm];show hz),rL,q _ I.fresh⟩
end
section
variable {κ:Type}[DecidableEq κ]
def gJ (kvs:List (κ×V))(k:κ):Option V:=(kvs.find? λj=>decide (j.1=k)).map (·.2)
noncomputable def putK (kvs:List (κ×V))(k:κ)(v:V):List (κ×V):=if (kvs.any λj=>decide (j.1=k))=true then kvs.map (λj=>if j.1=k then (j.1,v) else j) else kvs++[(k,v)]
def kj {p:κ×V}(e:p.1=k):gJ (p::r) k=some p.2:=by simp[gJ,gr,e]
def kE {p:κ×V}(e:¬p.1=k):gJ (p::r) k=gJ r k:=by simp[gJ,gr,e]
theorem tZ (k:κ):∀kvs:List (κ×V),(kvs.any λj=>decide (j.1=k))=(gJ kvs k).isSome
 | []=>rfl
 | p::r=>by
  rw[kN];by_cases e:p.1=k;.simp only[kj e,al e,Bool.true_or,Option.isSome_some]
  .rw[kE e,ag e,Bool.false_or];show tZ k r
theorem Rt (k j:κ)(y):∀kvs:List (κ×V),gJ (kvs.map λD=>if D.1=k then (D.1,y) else D) j=(gJ kvs j).map λx=>if j=k then y else x
 | []=>rfl
 | p::r=>by
  let F:=Rt k j y r;rw[cw];by_cases h:p.1=k
  .rw[if_pos h];by_cases e:p.1=j;.rw[kj (p:=(p.1,y)) e,kj e,lh,if_pos (e.symm.trans h)]
   .rw[kE (p:=(p.1,y)) e,kE e,F]
  .rw[if_neg h];by_cases e:p.1=j;.rw[kj (p:=p) e,kj e,lh,if_neg (λz=>h (e.trans z))]
   .rw[kE (p:=p) e,kE e,F]
theorem Oj (k j:κ)(y):∀kvs:List (κ×V),gJ kvs k=none->gJ (kvs++[(k,y)]) j=if j=k then some y else gJ kvs j
 | [],_=>by
  by_cases e:k=j;.rw[if_pos e.symm];show kj (p:=(k,y)) e
  .rw[if_neg (λz=>e z.symm)];show kE (p:=(k,y)) e
 | p::r,hn=>by
  rw[pj];let D:¬p.1=k:=λz=>by rw[kj z]at hn;cases hn
  rw[kE D]at hn;let F:=Oj k j y r hn;by_cases e:p.1=j;.rw[kj e,kj e,if_neg (λz=>D (e.trans z))]
  .rw[kE e,kE e,F]
def acR (kvs:List (κ×V))(k j:κ)(y):gJ (putK kvs k y) j=if j=k then some y else gJ kvs j:=by
 unfold putK;by_cases a:(kvs.any λD=>decide (D.1=k))=true
 .rw[if_pos a,Rt];rw[tZ]at a;by_cases e:j=k
  .let⟨x,hx⟩:=Option.isSome_iff_exists.mp a;rw[if_pos e,e,hx,lh,if_pos rfl]
  .rw[if_neg e];cases gJ kvs j with| none=>rfl| some x=>rw[lh,if_neg e]
 .rw[if_neg a];calc Oj k j y kvs ?_;rw[tZ]at a;cases q:gJ kvs k with| none=>rfl| some x=>rw[q]at a;show(a rL).elim
def yZ (kvs:List (κ×V))(k:κ)(v):(putK kvs k v).length<=kvs.length+1:=by
 unfold putK;split;.rw[aa];lia
 .rw[aE,eh,p_];lia
def acS {kvs:List (κ×V)}{k:κ}(v:V)(h:gJ kvs k=none):putK kvs k v=kvs++[(k,v)]:=by unfold putK;rw[tZ,h];show if_neg qo
def nF.Dj (r:nF o u):o.isSome=u.isSome:=by
 cases o with
 | none=>cases u with| none=>rfl| some _=>show(show False from r).elim
 | some _=>cases u with| none=>show(show False from r).elim| some _=>rfl
def nF.getD (r:nF o u)(rd:cL d d'):cL (o.getD d) (u.getD d'):=by
 cases o with
 | none=>cases u with| none=>show rd| some _=>show(show False from r).elim
 | some _=>cases u with| none=>show(show False from r).elim| some _=>show r
def KV.val (r:KV kvs vs)(k:κ):nF (gJ kvs k) (valueAt vs k):=by
 unfold KV at r
 induction r with
 | nil=>show True.intro
 | @cons p q ps qs h t ih=>
  let⟨h1,h2⟩:=h;by_cases e:p.1=k
  .let j:q.1=k:=h1.symm.trans e;let b:valueAt (q::qs) k=some q.2:=by simp[valueAt,gr,j]
   rw[kj e,b];show h2
  .let j:¬q.1=k:=λz=>e (h1.trans z)
   let b:valueAt (q::qs) k=valueAt qs k:=by simp[valueAt,gr,j]
   rw[kE e,b];show ih
def KV.any (r:KV kvs vs)(k:κ):(kvs.any λj=>decide (j.1=k))=vs.any λj=>decide (j.1=k):=by
 unfold KV at r
 induction r with| nil=>rfl| cons h t ih=>rw[kN,kN,ih,h.1]
def KV.repl (r:KV kvs vs)(k:κ)(D:cL y u):KV (kvs.map λj=>if j.1=k then (j.1,y) else j) (vs.map λj=>if j.1=k then (j.1,u) else j):=by
 unfold KV at r ⊢
 induction r with
 | nil=>show .nil
 | @cons p q ps qs h t ih=>
  rw[cw,cw];calc .cons ?_ ih;let⟨h1,h2⟩:=h;by_cases e:p.1=k;.rw[if_pos e,if_pos (h1.symm.trans e)];show⟨h1,D⟩
  .rw[if_neg e,if_neg (λz=>e (h1.trans z))];show⟨h1,h2⟩
def KV.put (r:KV kvs vs)(k:κ)(j:cL y u):KV (putK kvs k y) (stored vs k u):=by
 unfold putK stored;rw[r.any k];by_cases e:(vs.any λD=>decide (D.1=k))=true;.rw[if_pos e,if_pos e];show r.repl k j
 .rw[if_neg e,if_neg e];show Paired.snoc r ⟨rL,j⟩
def KV.keys {kvs:List (κ×V)}{vs:List (κ×Value)}(r:KV kvs vs):kvs.map (·.1)=vs.map (·.1):=by
 unfold KV at r
 induction r with| nil=>rfl| cons h t ih=>rw[cw,cw,ih,h.1]
def KV.length {kvs:List (κ×V)}{vs:List (κ×Value)}(r:KV kvs vs):kvs.length=vs.length:=Paired.length r
end
def JC (r:cL (kV k) u):(iC P w).is k u=true:=by
 cases k with
 | inl i=>let⟨t,e⟩:=(show ∃t,u=Value.int i t from r);subst e;show Vx P w i t
 | inr x=>let⟨t,e⟩:=(show ∃t,u=Value.str x t from r);subst e;show mH P w x t
theorem Ol:∀{j:List Key} {us:List Value},Vals (j.map kV) us->ItemsAre (iC P w) j us
 | [],_,r=>by rw[pk]at r;cases r;show .nil
 | k::j,_,r=>by
  rw[cw]at r;cases r with| cons h t=>show .cons (JC h) (Ol t)
abbrev KT (H:Hp):List (List Key×V)->List (List Key×Addr×Value)->Prop:=Paired λp q=>p.1=q.1/\H q.2.1=some (.tup (p.1.map kV))/\cL p.2 q.2.2
def KT.val (r:KT H kvs xs)(k:List Key):nF (gJ kvs k) ((atKey xs k).map (·.2)):=by
 induction r with
 | nil=>show True.intro
 | @cons p q ps qs h t ih=>
  let⟨h1,_,h2⟩:=h;by_cases e:p.1=k
  .let j:q.1=k:=h1.symm.trans e;let b:atKey (q::qs) k=some q.2:=by simp[atKey,gr,j]
   rw[kj e,b];show h2
  .let j:¬q.1=k:=λz=>e (h1.trans z)
   let b:atKey (q::qs) k=atKey qs k:=by simp[atKey,gr,j]
   rw[kE e,b];show ih
def KT.repl (r:KT H kvs xs)(k:List Key)(D:cL y u):KT H (kvs.map λj=>if j.1=k then (j.1,y) else j) (xs.map (putAt k u)):=by
 induction r with
 | nil=>show .nil
 | @cons p q ps qs h t ih=>
  rw[cw,cw];calc .cons ?_ ih;let⟨h1,h2,h3⟩:=h;unfold putAt;by_cases e:p.1=k;.rw[if_pos e,if_pos (h1.symm.trans e)];show⟨h1,h2,D⟩
  .rw[if_neg e,if_neg (λz=>e (h1.trans z))];show⟨h1,h2,h3⟩
def KT.put (r:KT H kvs xs)(k:List Key)(hb:H b=some (.tup (k.map kV)))(j:cL y u):KT H (putK kvs k y) (storedH xs k b u):=by
 let e:(kvs.any λD=>decide (D.1=k))=(atKey xs k).isSome:=by rw[tZ,(r.val k).Dj,Option.isSome_map]
 unfold putK storedH;rw[e];by_cases q:(atKey xs k).isSome=true;.rw[if_pos q,if_pos q];show r.repl k j
 .rw[if_neg q,if_neg q];show Paired.snoc r ⟨rL,hb,j⟩
def KT.keeps (r:KT H kvs xs)(ht:∀b ys,H b=some (.tup ys)->H' b=some (.tup ys)):KT H' kvs xs:=Paired.acz r λ_ _ z=>⟨z.1,ht _ _ z.2.1,z.2.2⟩
section
variable {P:Program}{w:World}{H:Hp}{h:Heap}{a:Addr}
def aeC (ok:lE P w H h)(e:Rd H a u):gA P w H h a u:=e.ok ok
def JD (ok:lE P w H h)(e:Rd H a (.dK kvs)):kvs.length<=sizeLine/\(a==sysModules)=false/\∃vs,KV kvs vs/\h.DictOf (iC P w) a vs:=show gA P w H h a (.dK kvs) from aeC ok e
def Y9 (ok:lE P w H h)(e:H a=some (.dK kvs)):kvs.length<=sizeLine/\(a==sysModules)=false/\∃vs,KV kvs vs/\h.DictOf (iC P w) a vs:=JD ok (.inl e)
def JF {j:List Key}(ok:lE P w H h)(e:H a=some (.tup (j.map kV))):(tupleKind (iC P w)).is h j a:=by
 let⟨_,its,r,o,h1,h2,n,h3⟩:=(show gA P w H h a (.tup (j.map kV)) from ok a _ e)
 show⟨o,its.toArray,n,h1,h2,h3,by simpa using Ol r⟩
def QB (ok:lE P w H h)(e:Rd H a (.dT kvs)):kvs.length<=sizeLine/\(a==sysModules)=false/\
  ∃xs,KT H kvs xs/\h.DictOfH (tupleKind (iC P w)) a xs:=by
 let⟨z,y,xs,r,o,es,ep,h1,h2,h3,h4,h5⟩:=(show gA P w H h a (.dT kvs) from aeC ok e)
 calc⟨z,y,xs,r,o,es,ep,h1,h2,h3,h4,λx hx=>?_,h5⟩;let all:∀{l:List (List Key×V)} {m:List (List Key×Addr×Value)},KT H l m->∀x∈m,(tupleKind (iC P w)).is h x.1 x.2.1:=by
  intro l m q
  induction q with
  | nil=>intro x hx;show nomatch hx
  | @cons p q ps qs hq t ih=>
   intro x hx;rcases bX.mp hx with e|hx
   .subst e;show JF ok (by rw[<-hq.1];show hq.2.1)
   .show ih x hx
 show all r x hx
def ajj (ok:lE P w H h)(e:H a=some (.dT kvs)):kvs.length<=sizeLine/\(a==sysModules)=false/\
  ∃xs,KT H kvs xs/\h.DictOfH (tupleKind (iC P w)) a xs:=QB ok (.inl e)
end
def za (H:Hp)(a:Addr)(y:V)(r:Option V):Prop:=(∃kvs k,Rd H a (.dK kvs)/\y=kV k/\r=gJ kvs k)\/∃kvs k b,Rd H a (.dT kvs)/\y=.ref b/\H b=some (.tup (k.map kV))/\r=gJ kvs k
def Hz (H:Hp)(a:Addr)(y v:V)(H':Hp):Prop:=(∃kvs k,H a=some (.dK kvs)/\y=kV k/\kvs.length<sizeLine/\H'=upd H a (.dK (putK kvs k v)))\/
 ∃kvs k b,H a=some (.dT kvs)/\y=.ref b/\H b=some (.tup (k.map kV))/\kvs.length<sizeLine/\H'=upd H a (.dT (putK kvs k v))
theorem za.k {kvs:List (Key×V)}{k:Key}(e:H a=some (.dK kvs)):za H a (kV k) (gJ kvs k):=.inl ⟨kvs,k,.inl e,rL,rL⟩
theorem Hz.k {kvs:List (Key×V)}{k:Key}{v:V}(e:H a=some (.dK kvs))(hl:kvs.length<sizeLine):Hz H a (kV k) v (upd H a (.dK (putK kvs k v))):=.inl ⟨kvs,k,e,rL,hl,rL⟩
section
variable {X:Cx}{ao:AE}{σ:St}{H:Hp}{s:Shared}{a:Addr}{y v:V}{u r:Value}{o:Option V}{A:Around}{E:AD}
variable {kvs:List (Key×V)}
def aW.big (I:aW X ao σ H s):sysModules<s.heap.objs.size:=by let h:mainGlobals<s.heap.objs.size:=(I.mod.glob.keeps I.bk).lt;show Nat.lt_trans qo h
def aj7 (J:A.units+1<cLine)(I:aW X ao σ H s)(g:za H a y o)(F:cL y u)(h:∀s',aW X ao σ H s'->Q (.bool o.isSome) s'):wpAny (model X.prog X.w) A (compareOp .In u (.ref a)) Q E s:=by
 rcases g with⟨kvs,k,e,D,l⟩|⟨kvs,k,b,e,D,G,l⟩
 .subst D;let⟨z,hd,vs,j,dd⟩:=JD I.hok e;calc wpAny_in_of (JC F) hd dd.mapOf ?_;rw[<-(j.val k).Dj,<-l];show h _ (I.tok _)
 .subst D;cases(show u=Value.ref b from F);let⟨z,hd,xs,j,dd⟩:=QB I.hok e;calc wpAny_in_heap (tupleKind_room_in1 J) (JF I.hok G) hd dd ?_;let q:=(j.val k).Dj;rw[Option.isSome_map]at q;rw[<-q,<-l];show h _ (I.tok _)
def WQ (I:aW X ao σ H s)(D:Mut (H a))(hs:Heap.SameBut a s.heap h')(j:∃q,h'.get? a=some q)(new:gA X.prog X.w (upd H a ob) h' a ob):aW X ao σ (upd H a ob) {s with heap:=h',toks:=t' }:=I.write (x:=a) (e:=a) D (.inl rL) (λb q hb z=>(hs.2 b hb).trans z) j new
def ahs {h':Heap}{kvs:List (Key×V)}(z:kvs.length<=sizeLine)(hd:(a==sysModules)=false)(j:KV kvs vs)(dd:h'.DictOf (iC P w) a vs):gA P w H' h' a (.dK kvs):=⟨z,hd,vs,j,dd⟩
def aaT (hu:A.units+1<cLine)(I:aW X ao σ H s)(g:Hz H a y v H')(ry:cL y u)(O:cL v r)(h:∀s',aW X ao σ H' s'->Q () s'):wpAny (model X.prog X.w) A (setItem (.ref a) u r) Q E s:=by
 rcases g with⟨kvs,k,e,J,l,G⟩|⟨kvs,k,b,e,J,Y,l,G⟩
 .subst J G;let⟨z,hd,vs,j,dd⟩:=Y9 I.hok e;let hz:vs.length<=sizeLine:=by rw[<-j.length];show z
  let hl:(putK kvs k v).length<=sizeLine:=by have:=yZ kvs k v;lia
  calc wpAny_setItem_pairs (hsz:=hz) (JC ry) dd λh' D hs=>h _ ?_;let he:∃q,h'.get? a=some q:=let ⟨q,_,_,F,_⟩:=D;⟨q,F⟩
  show WQ I (by rw[e];show True.intro) hs he (ahs hl hd (j.put k O) D)
 .subst J G;cases(show u=Value.ref b from ry);let⟨z,hd,xs,j,dd⟩:=ajj I.hok e;let hz:xs.length<=sizeLine:=by rw[<-Paired.length j];show z
  let hl:(putK kvs k v).length<=sizeLine:=by have:=yZ kvs k v;lia
  calc wpAny_setItem_heap (hsz:=hz) (tupleKind_room_in1 hu) (JF I.hok Y) dd λh' D hs=>h _ ?_;let⟨q,es,ep,F,h2,h3,h4,_,h5⟩:=D;calc WQ I (by rw[e];show True.intro) hs ⟨q,F⟩ ⟨hl,hd,_,(j.put k Y O).keeps λc ys Z=>?_,q,es,ep,F,h2,h3,h4,h5⟩;rw[aZ (oX Z e (λz=>nomatch z))];show Z
def ajk (I:aW X ao σ H s)(e:Rd H a (.dK kvs))(h:∀t s',aW X ao σ H s'->Q (.int kvs.length t) s'):wpAny (model X.prog X.w) A (call (.builtin "len") [.ref a]) Q E s:=by let⟨z,hd,vs,j,dd⟩:=JD I.hok e;calc call_len_dict hd dd (by rw[<-j.length];rw[sizeLine_eq]at z;lia) ?_;rw[<-j.length];show h _ _ (I.tok _)
end
def aht (ty td:TE):TE:=λσ H Q=>ty σ H λy H1=>td σ H1 λx j=>∃a o,x=.ref a/\za j a y o/\Q (.bl o.isSome) j
def aeD (td ty tv:TE):TS:=λD σ H=>tv σ H λv H1=>td σ H1 λx F=>ty σ F λy G=>∃a j,x=.ref a/\Hz G a y v j/\D.nx σ j
section
variable {X:Cx}{o i value:Expr}{pos pos':Pos}{td ty tv:TE}
def ahu (Z:X.A.units+1<cLine)(hi:PE X i ty)(G:PE X o td):PC X .In i o (aht ty td):=by intro ao s σ H Q I h;calc cH (hi ao s σ H _ I h) λiv s1 j=>?_;let⟨y,H1,I1,F,q1⟩:=j;calc cH (G ao s1 σ H1 _ I1 q1) λu s2 j=>?_;let⟨x,D,J,O,a,ov,ex,g,q2⟩:=j;subst ex;obtain rfl:u=Value.ref a:=O;show aj7 Z J g F λs3 Y=>⟨.bl ov.isSome,D,Y,rL,q2⟩
def afg (hu:X.A.units+1<cLine)(Y:PE X o td)(hi:PE X i ty)(Z:PE X value tv)(hs:swapsWith value (some (.Subscript o i pos')) pos.line X.env=pure false):PS X (.Assign [.Subscript o i pos'] value pos) (aeD td ty tv):=by intro ao s σ H D I h;calc wpAny_Assign_Subscript (cH (Z ao s σ H _ I h) λr s1 j=>?_) hs;let⟨v,H1,I1,F,q1⟩:=j;calc cH (Y ao s1 σ H1 _ I1 q1) λu s2 j=>?_;let⟨x,G,I2,rx,q2⟩:=j;calc cH (hi ao s2 σ G _ I2 q2) λiv s3 j=>?_;let⟨y,H3,I3,J,a,H4,ex,g,q3⟩:=j;subst ex;obtain rfl:u=Value.ref a:=rx;show aaT hu I3 g J F λs4 O=>⟨σ,H4,O,q3⟩
end
def acT (h:Heap)(hb:sysModules<h.objs.size):gA P w H (h.push {cls:=.type "dict",data:=.dict #[]}) h.objs.size (.dK []):=⟨fe _,beq_eq_false_iff_ne.mpr (gu (cq hb)),[],.nil,Heap.DictOf.new h⟩
def aaU:TE:=λ_ H Q=>∀p,H p=none->Q (.ref p) (upd H p (.dK []))
section
variable {X:Cx}{pos:Pos}
def acU:PE X (.Dict [] [] pos) aaU:=λao s σ H Q I h=>wpAny_Dict_empty ⟨.ref s.heap.objs.size,_,I.laid (a:=s.heap.objs.size) (o:=.dK []) (t':=s.toks) (λ_ _ q=>af _ q) (ai _) (acT s.heap I.big),rL,h _ (I.hok.fresh (ai _))⟩
end
structure M2 (X:Cx)(o:Expr)(m:Str)(apos:Pos)(e f:Expr)(cpos:Pos):Prop where
 base:attributeBase o m X.env (eval o X.env)=eval o X.env
 few:((backTo cpos (starEach [e,f] X.env)).all (λx=>!x.1)&&(backToKw cpos (keywordEach [] X.env)).all (λx=>x.1.isSome)
  && decide (([e,f]:List Expr).length+([]:List Keyword).length+(if ([]:List Keyword).isEmpty then 0 else 1)<30))=true
 line:(apos.endLine==cpos.line)=true
 trees:backTo cpos (starEach [e,f] X.env)=[(false,eval e X.env),(false,eval f X.env)]
def IsD (H:Hp)(a:Addr):Prop:=(∃kvs,Rd H a (.dK kvs))\/∃kvs,Rd H a (.dT kvs)
def ahv {X:Cx}{ao:AE}{σ:St}{H:Hp}{s:Shared}{a:Addr}(I:aW X ao σ H s)(d:IsD H a):s.TypeIs (.ref a) "dict"/\(∀b,Value.ref a=.ref b->∃ob,s.heap.get? b=some ob/\ob.dict=none)/\(a==sysModules)=false:=by
 rcases d with⟨kvs,e⟩|⟨kvs,e⟩
 .let⟨_,hd,vs,_,dd⟩:=JD I.hok e;calc⟨dd.typeIs,λb q=>?_,hd⟩;cases q;let⟨ob,_,_,h1,h2,_⟩:=dd;show⟨ob,h1,h2.2.1⟩
 .let⟨_,hd,xs,_,dd⟩:=QB I.hok e;calc⟨dd.typeIs,λb q=>?_,hd⟩;cases q;let⟨ob,_,_,h1,h2,_⟩:=dd;show⟨ob,h1,h2.2.1⟩
section
variable {X:Cx}{ao:AE}{σ:St}{H:Hp}{s:Shared}{a:Addr}{y d:V}{u r:Value}{o:Option V}{A:Around}{E:AD}
def ahw (O:A.units+1<cLine)(I:aW X ao σ H s)(g:za H a y o)(F:cL y u)(rd:cL d r)(h:∀G s',aW X ao σ H s'->cL (o.getD d) G->Q G s'):wpAny (model X.prog X.w) A (call (.builtin "dict.get") [.ref a,u,r]) Q E s:=by
 rcases g with⟨kvs,k,e,D,l⟩|⟨kvs,k,b,e,D,J,l⟩
 .subst D;let⟨z,hd,vs,j,dd⟩:=JD I.hok e;calc call_meetsIn ii dd.typeIs mf (lS _ _ _) (meets_dict_get_default (iC X.prog X.w) a (JC F) hd r) ⟨_,dd.mapOf,h _ _ (I.tok _) ?_⟩;rw[l];show(j.val k).getD rd
 .subst D;cases(show u=Value.ref b from F);let⟨z,hd,xs,j,dd⟩:=QB I.hok e;calc call_meetsIn ii dd.typeIs mf (lS _ _ _) (meetsH_dict_get_default (tupleKind (iC X.prog X.w)) a b hd r) ⟨tupleKind_room_in1 O,k,xs,JF I.hok J,dd,h _ _ (I.tok _) ?_⟩;rw[l];show(j.val k).getD rd
end
def aaV (td ty tx:TE):TE:=λσ H Q=>td σ H λx H1=>∃a,x=.ref a/\IsD H1 a/\ty σ H1 λy D=>tx σ D λz j=>∃o,za j a y o/\Q (o.getD z) j
section
variable {X:Cx}{o e f:Expr}{apos cpos:Pos}{td ty tx:TE}
def acV (hu:X.A.units+1<cLine)(ho:PE X o td)(he:PE X e ty)(G:PE X f tx)(m:M2 X o "get" apos e f cpos):PE X (.Call (.Attribute o "get" apos) [e,f] [] cpos) (aaV td ty tx):=by
 intro ao s σ H Q I h;calc wpAny_Call_method m.base m.few m.line PySem.F.plainAttrs_dict ii PySem.F.type_dict_get (cH (ho ao s σ H _ I h) λu s1 ⟨x,H1,D,rx,a,ex,d,q1⟩=>?_);subst ex;obtain rfl:u=Value.ref a:=rx;let⟨Z,Y,_⟩:=ahv D d;calc⟨Z,Y,?_⟩;rw[m.trees];refine g9 rL (ir (fo (cH (he ao s1 σ H1 _ D q1) λiv s2 ⟨y,O,I2,ry,q2⟩=>fo (cH (G ao s2 σ O _ I2 q2) λfv s3 ⟨z,F,I3,J,ov,g,q3⟩=>io ?_))))
 show ahw hu I3 g ry J λw' s4 I4 j=>⟨_,F,I4,j,q3⟩
end
end L2
namespace Att
open PySem PySem.W PySem.Calls PyProof.Rows
def JG:∀(ns:List Int) (vs:List Value),WellAll P h vs (ns.map WData.int)->IntsAre vs ns:=by
 intro ns
 induction ns with
 | nil=>intro vs w;rw[pk]at w;cases w;show .nil
 | cons n ns ih=>
  intro vs w;rw[cw]at w;cases w with| cons a b=>cases a;show .cons _ _ (ih _ b)
def aaW {l:OpenLaw}(hn:l.most=some n)(j:l.row.toRowW.claim.pre args=true)(D:WellAll P h vals args):∃a vs ns,vals=[Value.ref a]/\args=[WData.list (ns.map WData.int)]/\h.get? a=some {cls:=.type "list",data:=.seq vs.toArray}/\IntsAre vs ns/\ns.length<=n:=by
 let F:WShape.hasAll [] args [.list .int]=true:=(pre_splitW j).1;let G:l.pre.holds [] {args:=args}=true:=(pre_splitW j).2;let⟨d,r,rfl,h1,h2⟩:=hasAllW_cons F;obtain rfl:=hasAllW_nil h2;let⟨xs,rfl,h3⟩:=hasW_list h1;let⟨ns,rfl⟩:=items_int h3;let I:ns.length<=n:=by
  unfold OpenLaw.pre at G;let h4:(WTm.not (.lt (.lit (.int (n:Int))) (.len (.arg 0)))).holds [] {args:=[.list (ns.map .int)]}=true:=by let h4:=(holds_andW G).1;rw[hn]at h4;show h4
  let h5:=condW_of h4 (w_not (w_lt w_lit (w_len_list (w_arg rL))));rw[aa]at h5;calc Nat.le_of_not_lt λq=>?_;let J:(n:Int)<((ns.length:Nat):Int):=Iff.mpr mT q
  first| (rw[al J]at h5;show absurd h5 qo)| (simp at h5;lia)
 cases D with
 | cons w1 w2=>
  cases w2;cases w1 with| list ho hall=>show⟨_,_,ns,rL,rL,ho,JG ns _ hall,I⟩
def aaX (l:OpenLaw)(args:List WData):l.row.toRowW.claim.post args (.bool true) args=true:=postW_of (r:=l.row.toRowW) (X:=(true==true))
  (show WShape.has [] (.bool true) .bool=true by first|rfl|decide|simp[WShape.has,WShape.arms,WShape.armsAll])
  (show (WTm.eq .res (.lit (.bool true))).value [] {args:=args,res:=some (.bool true),after:=args}=some (.bool (true==true)) from w_eq_bool (w_res rL) w_lit) rfl
def Vy {l:OpenLaw}{d:DefRec}(hn:l.most=some n)(hdf:d.params.defaults=[])(call:∀(w:World) (s₀ j:Shared) (mg mb:Str->Option Value) (F:Addr) (o:Obj) (pm cd doc:Value) (a:Addr) (vs:List Value) (ns:List Int),
   Ground q loose [] XP w s₀ mg mb j.heap->YP w j.heap->
   j.heap.get? F=some o->o.data=.func (docDef d.name d.params d.body d.scope pm cd doc)->j.heap.CodeRec cd d.name->mg d.name=some (.ref F)->
   j.heap.get? a=some {cls:=.type "list",data:=.seq vs.toArray}->IntsAre vs ns->ns.length<=n->j.gens=#[]->
   codeAny (model l.prog w) callerA (.call (.ref F) ⟨[.ref a],[]⟩) (λr s'=>r=.ok (.ret (.bool true))/\OldK j.heap s'.heap/\s'.os=j.os/\AllBare s'.gens) j) :
  WalkO q loose XP YP l.row.toRowW d [] (λf vs=>PySem.call f vs):=by
 intro w s₀ j mg mb G Y F o pm cd doc dV kV ho hd O hD hmg hg args vals as J hlay hrd Z hlo;obtain rfl:dV=.none:=Dflts.none hD hdf;obtain rfl:kV=.none:=Dflts.noKw hD;let⟨a,vs,ns,rfl,rfl,I,D,dB⟩:=aaW hn J Z;calc enter_call (lj (call w s₀ j mg mb F o pm cd doc a vs ns G Y ho (fd_plain hd) O hmg I D dB hg) λr s' hq=>?_);let⟨rfl,h2,h3,h4⟩:=hq;show⟨.inl ⟨.bool true,.bool true,[],rL,λ_=>rfl,.bool true,aaX l _,λ_=>⟨List.Pairwise.nil,λ_ hm=>(nomatch hm)⟩⟩,h2,h3,h4⟩
end Att
namespace L2
open PySem PySem.Spec PyProof.Rows
theorem Om:∀{vs:List Value} {ns:List Int},IntsAre vs ns->Vals (ns.map V.int) vs
 | _,_,.nil=>.nil
 | _,_,.cons n t h=>.cons ⟨t,rL⟩ (Om h)
def Only (H:Hp):Prop:=∀b,H b=none\/∃o xs,H b=some (.qx o (.lst xs))
def acW {K:W.Frag}{j:Shared}{vs:List Value}(KX:K.In j.heap)(Y:j.heap.Ns mainGlobals mg)(hb:j.heap.Ns builtinsNs mb)(hbb:∀x:Str,x≠"__name__"->mb x=bootBuiltins x)(J:j.heap.NoLimit)(hg:j.gens=#[])(ha:j.heap.get? a=some {cls:=.type "list",data:=.seq vs.toArray})(hi:IntsAre vs ns)(hl:ns.length<=sizeLine)(hr:gk k callerA)(F:∀base:Heap,K.In base->base.Ns mainGlobals mg->cA P w K mg base CX k fa fd [x] sp)(I:∀(s:Shared) (u:Value),BindsTo s fd ⟨[u],[]⟩ [(x,u)])(hsp:∀H:Hp,Only H->bH K H a (ns.map V.int)->sp [.ref a] H (λv _=>v=.bl true) λ_ _ _=>False)(hCX:∀H e s',CX [] H j (λ_ _ _=>False) e s'->False):codeAny (model P w) callerA (.call (.ref fa) ⟨[.ref a],[]⟩) (λr s'=>r=.ok (.ret (.bool true))/\OldK j.heap s'.heap/\s'.os=j.os/\AllBare s'.gens) j:=by
 let rv:=Om hi;let O:=hi.length;let G:∀H:Hp,Only H->bH K H a (ns.map V.int)->lE P w H j.heap->(∀b,H b≠none->b=a)->(H a≠none->K.lookup a=none)->
   codeAny (model P w) callerA (.call (.ref fa) ⟨[.ref a],[]⟩) (λr s'=>r=.ok (.ret (.bool true))/\OldK j.heap s'.heap/\s'.os=j.os/\AllBare s'.gens) j:=by
  intro H hO hS hok hA hK;let WR:∀{b:Addr} {o:Obj},j.heap.get? b=some o->H b=none->(Am j.heap H).get? b=some o:=λe n=>acA e n;let noA:∀{b:Addr} {o:Obj} {es:Array DictEntry} {ep:Nat},j.heap.get? b=some o->o.data=.dict es ep->H b=none:=λ{b o es ep} e d=>by
   cases q:H b with| none=>rfl| some u=>have e':b=a:=hA b (by rw[q];simp);subst e';rw[ha]at e;cases e;let d':Data.seq vs.toArray _=Data.dict es ep:=d;cases d'
  let D:∀{b:Addr} {m:Str->Option Value},j.heap.Ns b m->(Am j.heap H).Ns b m:=λ{b m} ⟨o,es,ep,e,d,r⟩=>⟨o,es,ep,WR e (noA e d),d,r⟩
  let Z:K.In (Am j.heap H):=λb o e=>WR (KX b o e) (by
   cases q:H b with
   | none=>rfl
   | some u=>have e':b=a:=hA b (by rw[q];simp);subst e';rw[hK (by rw[q];simp)]at e;cases e)
  let hM:Mod K mg (Am j.heap H):=⟨Z,D Y,⟨mb,D hb,hbb⟩,let ⟨mc,h1,h2⟩:=J;⟨mc,D h1,h2⟩⟩
  let e0:Hw P w K mg (Am j.heap H) callerA [] j H:=⟨rL,hM,λb o e=>aeW e,iL (aaz _ _),trivial,λb hb=>absurd (show b∈([]:List Addr) from hb) qk,hok,.of_eq hg⟩
  calc lj ((F _ Z (D Y)).run callerA [] j H ⟨[.ref a],[]⟩ [.ref a] [.ref a] _ _ hr e0 (I j (.ref a)) (.cons rL .nil) (hsp H hO hS)) λr s' h=>?_;cases r with
  | error e=>show(hCX H e s' h).elim
  | ok fl=>
   cases fl with
   | next=>show False.elim h
   | brk=>show False.elim h
   | cont=>show False.elim h
   | ret u=>
    let⟨v,H',os,bare,un,hok',r',q⟩:=h;let q':v=.bl true:=q;subst q';obtain rfl:u=Value.bool true:=r';calc⟨rL,OldK.of_keep λb o e=>?_,os,bare⟩;cases q:H b with
    | none=>show un.keep b o e q (by intro z;show absurd (show b∈([]:List Addr) from z) qk) qk
    | some u=>
     rcases hO b with z|⟨ob,xs,z⟩;.rw[q]at z;cases z
     .let z2:=un.qW b ob _ z;let⟨e1,_⟩:=hok b _ z;let⟨e2,_⟩:=hok' b _ z2;rw[e]at e1;cases e1;show e2
 cases hk:K.lookup a with
 | some o=>have e:=KX a o hk;rw[ha]at e;cases e;refine G (λ_=>none) (λ_=>.inl rL) (.inr ⟨_,vs.toArray,_,hk,rL,rL,rL,by rw[a_,O];show hl,by simpa using rv⟩) (λb u z=>by let z':(none:Option HO)=some u:=z;cases z') (λb z=>absurd rL z) λz=>absurd rL z
 | none=>
  refine G (λb=>if b=a then some (.qx {cls:=.type "list",data:=.seq vs.toArray} (.lst (ns.map V.int))) else none) (λb=>?_) (.inl (.inr ⟨{cls:=.type "list",data:=.seq vs.toArray},if_pos rL⟩)) (λb u z=>?_) (λb z=>?_) λ_=>hk
  .by_cases hb:b=a;.show .inr ⟨_,_,if_pos hb⟩
   .show .inl (if_neg hb)
  .by_cases hb:b=a
   .let z':=(if_pos hb).symm.trans z;cases z';subst hb;show⟨ha,by rw[aa];show hl,vs,_,rv,ha⟩
   .let z':=(if_neg hb).symm.trans z;cases z'
  .by_cases hb:b=a;.show hb
   .show absurd (if_neg hb) z
abbrev KOf {K:W.Frag}{h:Heap}(_:K.In h):W.Frag:=K
def afh {l:W.OpenLaw}{n k:Nat}{j:List Str}{XP:(Str->Option Value)->Heap->Prop}{YP:World->Heap->Prop}{d:DefRec}{K:Params->W.Frag}{CX:World->uZ}{sp:World->Sp}{x:Str}(hn:l.most=some n)(hn2:n<=sizeLine)(Z:d.params.defaults=[])(hr:gk k callerA)(hY:∀(w:World) (h:Heap),YP w h->(K w.params).In h)(F:∀(w:World) (mg:Str->Option Value) (J:Addr) (h:Heap),(K w.params).In h->h.Ns mainGlobals mg->mg d.name=some (.ref J)->
   ∃fd:FuncData,(∀(s:Shared) (u:Value),BindsTo s fd ⟨[u],[]⟩ [(x,u)])/\
    ∀base:Heap,(K w.params).In base->base.Ns mainGlobals mg->cA l.prog w (K w.params) mg base (CX w) k J fd [x] (sp w))
  (hsp:∀(w:World) (H:Hp) (a:Addr) (ns:List Int),ns.length<=n->Only H->bH (K w.params) H a (ns.map V.int)->sp w [.ref a] H (λv _=>v=.bl true) λ_ _ _=>False)
  (hCX:∀(w:World) (H:Hp) (s:Shared) (e:Value) (s':Shared),CX w [] H s (λ_ _ _=>False) e s'->False) :
  W.WalkO q j XP YP l.row.toRowW d [] (λf vs=>PySem.call f vs):=by
 calc Att.Vy hn Z λw s₀ s₁ mg mb J o pm cd doc a vs ns G Y ho hd hcd O I D dB hg=>?_;let KX:=hY w _ Y;let⟨fd,hb,hF⟩:=F w mg J _ KX G.T.g O;show acW KX G.T.g G.T.b G.T.builtins G.T.nolimit hg I D (bP dB hn2) hr hF hb (λH hO hS=>hsp w H a ns dB hO hS) λH e s'=>hCX w H s₁ e s'
def inClass (s:Stmt)(j:Nat):Stmt:=match s with| .ClassDef _ _ _ body _ _ _ _ _ _ _=>body.getD j (.Pass ⟨0,0,0,0⟩)| _=>.Pass ⟨0,0,0,0⟩
noncomputable def dF (s:Stmt):Arguments:=match s with| .FunctionDef _ a _ _ _ _ _ _ _ _=>a| _=>{posonlyargs:=[],args:=[],vararg:=none,kwonlyargs:=[],kw_defaults:=[],kwarg:=none,defaults:=[]}
def cR (s:Stmt):List Stmt:=match s with| .FunctionDef _ _ b _ _ _ _ _ _ _=>b| _=>[]
noncomputable def aK (s:Stmt):Scope:=match s with| .FunctionDef _ _ _ _ _ _ sc _ _ _=>sc| _=>{kind:=.function,names:=[],isGenerator:=false,isCoroutine:=false}
abbrev dJ:uZ:=λ_ _ _ _ _ _=>False
abbrev E0:XK:=λ_ _ _=>False
def eG:Passes dJ X E0:=λ_ _ _ _ _ _ _ h=>h.elim
structure fj (K:W.Frag)(x qual:Str)(st:Stmt)(f:Addr)(fd:FuncData):Prop where
 ex:∃(oc:Value) (od:Option Addr) (kV doc pm:Value) (an:Option Addr) (bN ct:Value) (osl:Array (Option Value)),
  fd=W.fnOf x qual (dF st) (cR st) (aK st) .none kV doc pm an bN ct/\K.lookup f=some ⟨oc,od,.func fd,osl⟩/\W.codeIn K bN qual=true
 kp:W.keepIn K (.ref f)=true
section
variable {P:Program}{w:World}{K:W.Frag}{mg:Str->Option Value}{base:Heap}
def fj.ok {x qual:Str}{st:Stmt}{N ps:List Str}{k:Nat}{sp:Sp}(F:fj K x qual st f fd)(S:bB N ps (aK st))(len:∀vs H Q E,sp vs H Q E->vs.length=ps.length)(j:∀(bN:Value) (A:Around) (outer:List Env) (s:Shared) (H:Hp) (vs:List V) (Q:VK) (E:XK),gk k (A.deeper (envOfC qual (aK st) s.heap.objs.size f bN))->sp vs H Q E->
   ∃t,wO (tW dJ P w K mg base N qual (aK st) f bN A outer s H E).Ri (cR st) t/\t {nx:=λ_ H'=>Q .non H',rt:=Q} (start N vs) H):cA P w K mg base dJ (k+1) f fd ps sp:=by
 let⟨oc,od,kV,doc,pm,an,bN,ct,osl,rfl,I,D⟩:=F.ex;calc aeA I D S len λA outer s H vs Q E J G=>?_;let⟨t,h,q⟩:=j bN A outer s H vs Q E J G;show⟨t,h.Ri,q⟩
def fj.binds {x qual:Str}{st:Stmt}{ps:List Str}(F:fj K x qual st f fd)(h:∀(kV doc pm:Value) (an:Option Addr) (bN ct:Value) (us:List Value),us.length=ps.length->bindArgs (W.fnOf x qual (dF st) (cR st) (aK st) .none kV doc pm an bN ct) ⟨us,[]⟩=pure (ps.zip us)):bR K fd ps []:=by let⟨oc,od,kV,doc,pm,an,bN,ct,osl,rfl,D,j⟩:=F.ex;show .all (h kV doc pm an bN ct)
def fW {x qual:Str}{st:Stmt}{f:Addr}{oc:Value}{od an:Option Addr}{osl:Array (Option Value)}{kV doc pm bN ct:Value}(l:K.lookup f=some ⟨oc,od,.func (W.fnOf x qual (dF st) (cR st) (aK st) .none kV doc pm an bN ct),osl⟩)(c:W.codeIn K bN qual=true)(k:W.keepIn K (.ref f)=true):fj K x qual st f (W.fnOf x qual (dF st) (cR st) (aK st) .none kV doc pm an bN ct):=⟨⟨oc,od,kV,doc,pm,an,bN,ct,osl,rL,l,c⟩,k⟩
end
def QD (j:gk k A):A.units+1<cLine:=jI (Nat.add_le_add_left (by decide:1<=64) _) j.units
def aM (h:n<=1000):n<sizeLine:=jI h qo
section
variable {X:Cx}
def pv (i:Nat){x:Str}{pos:Pos}(F:X.N[i]?=some x:=by rfl)(D:Wu X.env.scope x:=by first|show Or.inl rfl|show Or.inr (Or.inl rL)|show Or.inr (Or.inr rL))(hd:(x==("__debug__":Str))=false:=by decide)(j:(x==("__classdict__":Str))=false:=by decide):PE X (.Name x pos) (YC i):=agI F D hd j
end
def bW {A B:Prop}(h:B):if false=true then A else B:=by rw[if_neg bS];show h
def cG {A B:Prop}(h:A):if true=true then A else B:=by rw[if_pos rfl];show h
def jP {c A B:Prop} [Decidable c] (h1:c->A)(h2:¬c->B):if c then A else B:=by
 by_cases h:c
 .rw[if_pos h];show h1 h
 .rw[if_neg h];show h2 h
def QF {c A B:Prop} [Decidable c] (j:c)(h:B):if (!decide c)=true then A else B:=by rw[al j];show bW h
def aD (H H':Hp):Prop:=∀b o,H b=some o->H' b=some o
def aD.refl (H):aD H H:=λ_ _ h=>h
def aD.trans (a:aD H H1)(b:aD H1 H2):aD H H2:=λc o h=>b c o (a c o h)
def aD.free (e:aD H H')(h:H' l=Option.none):H l=Option.none:=by
 cases q:H l with| none=>rfl| some o=>rw[e l o q]at h;cases h
def aD.seq {K:W.Frag}{xs:List V}(e:aD H H')(h:bH K H a xs):bH K H' a xs:=by
 rcases h with(h|⟨o,h⟩)|h;.show .inl (.inl (e _ _ h))
 .show .inl (.inr ⟨o,e _ _ h⟩)
 .show .inr h
section
variable {X:Cx}
def aaY:iY X (.builtin "len") (λxs H Q=>∃a kvs,xs=[V.ref a]/\H a=some (.dK kvs)/\Q (.int kvs.length) H):=by intro ao s σ H xs us Q I r h;let⟨a,kvs,rfl,ha,q⟩:=h;let⟨u,rfl,D⟩:=vals1 r;cases D;show ajk I (.inl ha) λt s' j=>⟨.int kvs.length,H,j,⟨t,rL⟩,q⟩
end
section
variable {κ:Type}[DecidableEq κ]
theorem WT:∀{l:List κ} {k:κ},l.Nodup->¬k∈l->(l++[k]).Nodup
 | [],k,_,_=>by simp
 | a::r,k,h,hk=>by
  let⟨h1,h2⟩:=ic.mp h;show (a::(r++[k])).Nodup;calc ic.mpr ⟨λm=>?_,WT h2 λm=>hk (bX.mpr (Or.inr m))⟩;rcases bv.mp m with q|q;.show h1 q
  .show hk (bX.mpr (Or.inl (bc.mp q).symm))
end
noncomputable def blk (X:Cx)(scope:Scope)(cl:List (Str×Addr))(C:Addr)(x:Str)(s₀:Shared)(H₀:Hp)(fp:List Addr):Cx:={X with N:=x::X.N,s₀:=s₀,H₀:=H₀,env:=compEnvC scope cl C X.env,outer:=X.stack,ex:=fp,fn:=λ_=>false,pn:=[],xe:=λ_ _=>False}
structure jz (X:Cx)(scope:Scope)(x:Str):Prop where
 kind:scope.kind=.function
 JH:∀y∈scope.names,y.2≠.cell
 names:∀y∈scope.names,y.2=.local->scope.names.lookup y.1=some .local
 hx:scope.names.lookup x=some .local
 free:∀y∈scope.names,y.2=.free->X.env.kindOf y.1=some .cell\/X.env.kindOf y.1=some .free
 out:∀y∈X.N,scope.names.lookup y≠some .local
 nd:X.N.Nodup
noncomputable def WW (sc:Scope)(N:List Str)(scope:Scope)(x:Str):Bool:=scope.kind == .function&&scope.names.all (λy=>y.2 != .cell)&&scope.names.all (λy=>y.2 != .local||scope.names.lookup y.1==some .local)&&scope.names.lookup x==some .local &&
 scope.names.all (λy=>y.2 != .free||sc.names.lookup y.1==some .cell||sc.names.lookup y.1==some .free)&&N.all (λy=>scope.names.lookup y != some .local)
def jz.of {X:Cx}(D:X.N.Nodup)(h:WW X.env.scope X.N scope x=true):jz X scope x:=by
 unfold WW at h;simp only[cn,fq,qa,bne_iff_ne,beq_iff_eq,ne_eq]at h;obtain⟨⟨⟨⟨⟨h1,h2⟩,h3⟩,h4⟩,h5⟩,j⟩:=h;calc⟨h1,λy hy=>h2 y hy,λy hy e=>(h3 y hy).resolve_left λz=>z e,h4,λy hy e=>?_,λy hy=>j y hy,D⟩;rcases h5 y hy with(z|z)|z;.show absurd e z
 .show .inl z
 .show .inr z
theorem mK {α:Type}:∀{l:List (Str×α)} {x:Str} {a:α},l.lookup x=some a->(x,a)∈l
 | [],_,_,h=>by simp at h
 | (y,b)::r,x,a,h=>by
  rw[gg]at h;split at h
  .rename_i e;let j:x=y:=by simpa using e
   cases h;subst j;show cv
  .show bz _ (mK h)
theorem Av {env:Env}:∀(names:List (Str×NameKind)),(∀y∈names,y.2=.free->∃c,env.cells.lookup y.1=some c)->∀j:List (Str×Addr),(∀n c,j.lookup n=some c->env.cells.lookup n=some c)->
  ∃cl,(forIn names j (λ(p:Str×NameKind) (cs:List (Str×Addr))=>if (p.2==NameKind.free)=true then (do let a <- cellOf env p.1;pure (ForInStep.yield ((p.1,a)::cs))) else (pure (ForInStep.yield cs):Sem _)):Sem (List (Str×Addr)))=pure cl/\
   (∀n c,cl.lookup n=some c->env.cells.lookup n=some c)/\(∀n,(∃c,j.lookup n=some c)->∃c,cl.lookup n=some c)/\∀n,(n,NameKind.free)∈names->∃c,cl.lookup n=some c
 | [],_,j,ha=>⟨j,qk,ha,λ_ h=>h,λ_ h=>by simp at h⟩
 | (n,k)::r,hf,j,ha=>by
  let O:∀y∈r,y.2=.free->∃c,env.cells.lookup y.1=some c:=λy hy=>hf y (bz _ hy);by_cases F:k=.free
  .subst F;let⟨c,J⟩:=hf (n,.free) cv rfl;let⟨cl,e,h1,h2,h3⟩:=Av r O ((n,c)::j) (λD I h=>by
    rw[gg]at h;split at h
    .rename_i q;let Y:D=n:=by simpa using q
     cases h;subst Y;show J
    .show ha D I h)
   refine⟨cl,?_,h1,λD h=>h2 D ?_,λD h=>?_⟩
   .rw[gt];simp only[beq_self_eq_true,if_true];let e2:cellOf env n=pure c:=by unfold cellOf;rw[J]
    rw[e2];simp only[pure_bind];show e
   .let⟨I,G⟩:=h;rw[gg];split;.show⟨c,rL⟩
    .show⟨I,G⟩
   .rcases bX.mp h with q|q
    .calc h2 D ⟨c,?_⟩;cases q;rw[gg,beq_self_eq_true]
    .show h3 D q
  .let hb:(k==NameKind.free)=false:=by simpa using F
   let⟨cl,e,h1,h2,h3⟩:=Av r O j ha;refine⟨cl,?_,h1,h2,λD h=>?_⟩
   .rw[gt];simp only[hb,fR,if_false,pure_bind];show e
   .rcases bX.mp h with q|q;.cases q;show absurd rL F
    .show h3 D q
theorem lC {env:Env}:∀{names:List (Str×NameKind)} {x:Str} {k:NameKind},
  (names.map λ(n,k)=>if (k==NameKind.free&&env.scope.kind == .function&&env.kindOf n==some .cell) then (n,NameKind.cell) else (n,k)).lookup x=some k->names.lookup x=some k\/(k=.cell/\names.lookup x=some .free)
 | [],_,_,h=>by simp at h
 | (n,j)::r,x,k,h=>by
  let F:=@lC env r x k;let h':List.lookup x ((if (j==NameKind.free&&env.scope.kind == .function&&env.kindOf n==some .cell)=true then (n,NameKind.cell) else (n,j))::_)=some k:=h;by_cases D:(j==NameKind.free&&env.scope.kind == .function&&env.kindOf n==some .cell)=true
  .rw[if_pos D]at h';cases hx:x==n with
   | true=>
    simp only[gg,hx]at h' ⊢;cases h';have:j=.free:=by simp at D;show D.1.1
    show .inr ⟨rL,by rw[this]⟩
   | false=>simp only[gg,hx]at h' ⊢;show F h'
  .rw[if_neg D]at h';cases hx:x==n with| true=>simp only[gg,hx]at h' ⊢;show .inl h'| false=>simp only[gg,hx]at h' ⊢;show F h'
def Y_ (I:Nat->Shared->Prop)(turn:∀n s,I n s->wpAny (model prog w) A (pyNext it) (λr D=>match r with
   | none=>R (.ok .next) D
   | some v=>wpAny (model prog w) A (letOwnedTupleGo target it v) (λ_ s₀=>wpAny (model prog w) A (assign target env v) (λ_ O=>
     wpAny (model prog w) A (forIn ifs true λc r=>if r=true then do let ok <- isTrue c env (eval c env);pure (ForInStep.yield ok) else pure (ForInStep.yield r)) (λok j=>
      if ok=true then wpAny (model prog w) A (eval elt env) (λx J=>wpAny (model prog w) A (call (.builtin "list.append") [acc,x]) (λ_ Y=>∃m,m<n/\I m Y) (λ_ _=>False) J) (λ_ _=>False) j
      else ∃m,m<n/\I m j) (λ_ _=>False) O) (λ_ _=>False) s₀) (λ_ _=>False) D) (λ_ _=>False) s)
  (n) (h:I n s) :
  codeAny (model prog w) A (.compLoop (.ListComp elt [⟨target,iter,ifs,0⟩] scope pos) 0 it acc env) R s:=by
 calc codeAny_loop rL I (λn s Z=>?_) n h;show wpAny _ A ((compTurn (.ListComp elt [⟨target,iter,ifs,0⟩] scope pos) 0 it acc env).onRaise (λx=>do noteFrame x env;theTreesLotGoes x)) _ _ s;calc wpAny_noted ?_;rw[compTurn_list];calc ae (mn (ae (e_ (turn n s Z) (λr D G=>?_) λ_ _ h'=>h'.elim)));cases r with
 | none=>show aw G
 | some v=>
  calc ae (e_ G (λ_ s₀ h₀=>?_) λ_ _ h'=>h'.elim);calc ae (e_ h₀ (λ_ O h₂=>ae (e_ h₂ (λok j F=>?_) λ_ _ h'=>h'.elim)) λ_ _ h'=>h'.elim);cases ok with| false=>show aw ⟨rL,F⟩| true=>show ae (ae (e_ F (λx J h₄=>ae (e_ h₄ (λ_ Y h₅=>aw (aw ⟨rL,h₅⟩)) λ_ _ h'=>h'.elim)) λ_ _ h'=>h'.elim))
def WX (X:Cx)(ifs:List Expr)(t:TT):Prop:=∀(ao:AE) (s:Shared) (σ:St) (H:Hp) (Q:Bool->Hp->Prop),aW X ao σ H s->t σ H Q->
  wpAny (model X.prog X.w) X.A (forIn ifs true λc r=>if r=true then do let ok <- isTrue c X.env (eval c X.env);pure (ForInStep.yield ok) else pure (ForInStep.yield r)) (TP X ao σ Q) X.xe s
def mL:TT:=λ_ H Q=>Q true H
def afi:WX X [] mL:=λ_ _ _ H _ I h=>wpAny_tests_nil ⟨H,I,h⟩
def iU (n i:Nat)(P:Prop):Prop:=∃j,j<n-i/\j=n-(i+1)/\i+1<=n/\P
abbrev LK (n i:Nat)(D:Addr)(ys:List V)(P:List V->Hp->Prop)(y:V)(H3:Hp):Prop:=H3 D=some (.lst ys)/\ys.length<sizeLine/\iU n i (P (ys++[y]) (upd H3 D (.lst (ys++[y]))))
abbrev Dk (J:It)(D:Addr)(H:Hp)(R:Hp->Prop)(B:V->Hp->VK->(Hp->Prop)->Prop):Prop:=∃W:Nat->Nat->List V->Hp->Prop,(∃m,W 0 m [] (upd H D (.lst [])))/\
 ∀i m ys H,W i m ys H->(J.stop i H/\R H)\/(J.go i H/\∀x H',J.Jv i H x H'->B x H' (λy H3=>H3 D=some (.lst ys)/\ys.length<sizeLine/\∃m',m'<m/\W (i+1) m' (ys++[y]) (upd H3 D (.lst (ys++[y])))) λH2=>∃m',m'<m/\W (i+1) m' ys H2)
def acX {J:It}{D:Addr}{H:Hp}{R:Hp->Prop}{B:V->Hp->VK->(Hp->Prop)->Prop}(n:Nat)(j:Nat->List V->Hp->Prop)(h0:j 0 [] (upd H D (.lst [])))(O:∀i ys H,i<n->j i ys H->J.go i H/\∀x H',J.Jv i H x H'->B x H' (LK n i D ys (j (i+1))) λG=>iU n i (j (i+1) ys G))(I:∀ys H,j n ys H->J.stop n H/\R H):Dk J D H R B:=by
 calc⟨λi m ys H=>m=n-i/\i<=n/\j i ys H,⟨n,qk,fe _,h0⟩,?_⟩;intro i m ys H z;let⟨rfl,hi,p⟩:=z;by_cases F:i<n;.show .inr (O i ys H F p)
 .let e:i=n:=qi;subst e;show .inl (I ys H p)
def QH {F:Hp->List V->Prop}{B:V->Hp->VK->(Hp->Prop)->Prop}{xs:List V}{D:Addr}{H:Hp}{R:Hp->Prop}(j:Nat->List V->Hp->Prop)(h0:j 0 [] (upd H D (.lst [])))(hl:∀i ys H,i<=xs.length->j i ys H->F H xs)(hs:∀i x ys H,xs[i]?=some x->j i ys H->B x H (LK xs.length i D ys (j (i+1))) λG=>iU xs.length i (j (i+1) ys G))(hd:∀ys H,j xs.length ys H->R H):Dk (ItS F) D H R B:=acX xs.length j h0 (λi ys H h p=>⟨⟨xs,xs[i],hl i ys H (av h) p,by simp[h]⟩,λx H' ⟨e,y⟩=>by subst e;show hs i x ys _ (y xs (hl i ys _ (av h) p)) p⟩) λys H p=>⟨⟨xs,hl _ ys H (ai _) p,ai _⟩,hd ys H p⟩
abbrev Za (σ:St)(tt:TT)(te:TE)(x:V)(H:Hp)(k:VK)(l:Hp->Prop):Prop:=tt (some x::σ) H λb H2=>if b=true then te (some x::σ) H2 k else l H2
def aeE (wi:TI)(tt:TT)(te:TE):TE:=λσ H Q=>wi σ H λJ H1=>∀D,H1 D=none->Dk J D H1 (Q (.ref D)) (Za σ tt te)
noncomputable def ig (X:Cx)(scope:Scope)(cl:List (Str×Addr))(C:Addr)(N:List Str)(s₀:Shared)(H₀:Hp)(fp:List Addr):Cx:={X with N:=N,s₀:=s₀,H₀:=H₀,env:=compEnvC scope cl C X.env,outer:=X.stack,ex:=fp,fn:=λ_=>false,pn:=[],xe:=λ_ _=>False}
structure jY (X:Cx)(scope:Scope)(ns N2:List Str)(f:St->St):Prop where
 kind:scope.kind=.function
 JH:∀y∈scope.names,y.2≠.cell
 names:∀y∈scope.names,y.2=.local->scope.names.lookup y.1=some .local
 free:∀y∈scope.names,y.2=.free->X.env.kindOf y.1=some .cell\/X.env.kindOf y.1=some .free
 aj8:∀σ:St,(f σ).length=σ.length
 aj9:N2.length=X.N.length
 out:∀(σ:St) (i:Nat) (y:Str) (v:V),N2[i]?=some y->(f σ)[i]?=some (some v)->X.N[i]?=some y/\σ[i]?=some (some v)/\scope.names.lookup y≠some .local
def Oo (X:Cx)(tg:Expr)(k:Nat)(TP:V->Hp->(St->Prop)->Prop):Prop:=∀(ao:AE) (s:Shared) (pre rest:St) (H:Hp) (v:V) (u:Value) (Q:St->Prop),pre.length=k->aW X ao (pre++rest) H s->cL v u->TP v H Q->
  wpAny (model X.prog X.w) X.A (assign tg X.env u) (λ_ s'=>∃j,j.length=k/\aW X ao (j++rest) H s'/\Q j) (λ_ _=>False) s
def TgB (TP:V->Hp->(St->Prop)->Prop)(f:St->St)(σ:St)(tt:TT)(te:TE)(x:V)(H:Hp)(k:VK)(l:Hp->Prop):Prop:=TP x H λpre=>tt (pre++f σ) H λb j=>if b=true then te (pre++f σ) j k else l j
def Dl (f:St->St)(k:Nat)(wi:TI)(TP:V->Hp->(St->Prop)->Prop)(tt:TT)(te:TE):TE:=λσ H Q=>wi σ H λJ H1=>∀D,H1 D=none->Dk J D H1 (Q (.ref D)) (TgB TP f σ tt te)
def Dm {X:Cx}{elt iter tg:Expr}{ns N2:List Str}{f:St->St}{TP:V->Hp->(St->Prop)->Prop}{ifs:List Expr}{scope:Scope}{pos:Pos}{wi:TI}{tt:TT}{te:TE}(hc:X.calm=true)(ok:jY X scope ns N2 f)(hi:PI X tg iter wi)(hg:∀cl C s₀ H₀ fp,Oo (ig X scope cl C (ns++N2) s₀ H₀ fp) tg ns.length TP)(ht:∀cl C s₀ H₀ fp,WX (ig X scope cl C (ns++N2) s₀ H₀ fp) ifs tt)(he:∀cl C s₀ H₀ fp,PE (ig X scope cl C (ns++N2) s₀ H₀ fp) elt te)(hs:∀x,foldedSetIterable iter X.env x=pure x:=by intro _;rfl){use:Option (Value->Sem Unit)}{RR:AD}{p1:Pos}{ao:AE}{s:Shared}{σ:St}{H:Hp}{Q:V->Hp->Prop}(I:aW X ao σ H s)(h:Dl f ns.length wi TP tt te σ H Q)(fin:∀(D C:Addr) (H4:Hp) (s5:Shared) (m:Str->Option Value),s5.heap.Ns C m->(∀h',Heap.SameBut C s5.heap h'->aW X ao σ H4 {s5 with heap:=h' })->vA X ao H4 C->Q (.ref D) H4->compPost (model X.prog X.w) X.A X.xe use RR (.ref D) C (.ok .next) s5):wpAny (model X.prog X.w) X.A (comprehension (.ListComp elt [⟨tg,iter,ifs,0⟩] scope pos) scope X.env p1 (newList []) false (eval iter X.env) use) RR X.xe s:=by
 let⟨cl,hcl,j,_,hall⟩:=Av (env:=X.env) scope.names (λy hy e=>I.ok.has y.1 (ok.free y hy e)) [] (λ_ _ z=>by simp at z);let hclos:closureFor scope X.env=pure cl:=by unfold closureFor;simp only[bind_pure];show hcl
 calc wpAny_comprehension_free (use:=use) (E:=X.xe) (cl:=cl) rL hs hclos ok.kind ok.names (cH (hi ao s σ H _ I h) λv s1 h1=>cH h1 λitv s2 h2=>?_);let⟨it,fp,tn,J,H2,e,I2,T,st2,f2,R⟩:=h2;subst e;obtain⟨W,⟨m0,w0⟩,turn⟩:=R s2.heap.objs.size I2.fresh;calc gv (wpAny_newFunctionEnv ok.JH (by intro y hy;simp at hy) (λh₁ hns₁ hsb₁=>?_) ok.kind);dsimp only at hns₁ hsb₁ ⊢;let F:aW X ao σ (upd H2 s2.heap.objs.size (.lst [])) {s2 with heap:=s2.heap.push {cls:=.type "list",data:=.seq ([]:List Value).toArray} }:=I2.acQ (t':=s2.toks) (ys:=[]) (its:=[]) .nil (fe _);generalize hH3:upd H2 s2.heap.objs.size (HO.lst [])=H3 at *
 generalize hs3:s2.heap.push {cls:=.type "list",data:=.seq ([]:List Value).toArray}=hp3 at *
 generalize hD:s2.heap.objs.size=D at *
 generalize hC:hp3.objs.size=C at *
 let hDC:D<C:=by rw[<-hC,<-hs3,fi,hD];show gN _
 let Z:∀b o,hp3.get? b=some o->h₁.get? b=some o:=λb o e=>(hsb₁.2 b (by rw[<-hC];show cq (aI e))).trans (af _ e);let fpl:∀b∈fp,b<C:=λb hb=>by let⟨o,e,_⟩:=T.obj _ _ st2 b hb;rw[<-hC,<-hs3,fi];show l_ (aI e)
 let f3:∀b∈fp,vA X ao H3 b:=λb hb=>by let⟨o,e,_⟩:=T.obj _ _ st2 b hb;calc⟨?_,(f2 b hb).2⟩;rw[<-hH3,aZ (by rw[<-hD];show cq (aI e))];show(f2 b hb).1
 let ahx:∀b∈fp,b∉frs X.stack:=λb hb z=>by
  let⟨_,g1,g2,_⟩:=f3 b hb;rcases bX.mp (F.Jt b z) with q|q;.show g1 q
  .show g2 q
 let YOk:(ig X scope cl C (ns++N2) {s2 with heap:=hp3} H3 fp).Ok:=by
  calc⟨I.ok.mod,?_,I.ok.glob,I.ok.blt,iL hC,?_,?_,?_,I.ok.hd,I.ok.frames,.inl rL,?_,?_,?_,?_,?_,?_,?_⟩;.show ok.kind
  .show λa b c h1 h2=>I.ok.inj a b c (j a c h1) (j b c h2)
  .intro a ha;calc hall a ?_;rcases ha with z|z
   .rcases lC (env:=X.env) z with q|⟨_,q⟩;.show absurd rL (ok.JH _ (mK q))
    .show mK q
   .rcases lC (env:=X.env) z with q|⟨q,_⟩;.show mK q
    .cases q
  .intro a c hf;cases hf
  .intro b hb;refine⟨cq (fpl b hb),λa c h1=>(f3 b hb).2.2.2.2.1 a c (j a c h1)⟩
  .show F.bs
  .show bP I.ok.Cw F.sz
  .intro b o e hb;rcases(f3 b hb).2.2.2.1 with z|z;.show I.ok.Dd b o e z
   .show absurd (df (aI e) (bP I.ok.Cw z)) (ft _)
  .show ahx
  .show F.stack
  .show F.zO
 let Y0:aW (ig X scope cl C (ns++N2) {s2 with heap:=hp3} H3 fp) [] (List.replicate ns.length none++f σ) H3 {s2 with heap:=h₁,toks:=s2.toks+([]:List (Str×Value)).length}:=by
  refine⟨YOk,rL,F.bare,Un.kept Z,⟨_,hns₁,?_⟩,?_,?_,?_,λp hp=>by simp[ig]at hp,F.hok.kept Z,?_⟩
  .intro i y v e1 e2 e3;by_cases fB:i<ns.length
   .rw[cS (by rw[cE];show fB),List.getElem?_replicate,if_pos fB]at e2;simp at e2
   .obtain⟨i,rfl⟩:∃k,i=ns.length+k:=⟨i-ns.length,by simp_all⟩
    let e1a:(ns++N2)[ns.length+i]?=some y:=e1;rw[cz qi,lT]at e1a;rw[cz (by rw[cE];lia),cE,lT]at e2;let⟨e1',e2',hout⟩:=ok.out σ i y v e1a e2;let G:(y,NameKind.free)∈scope.names:=by
     let key:∀k,(relabel scope X.env).names.lookup y=some k->k≠.local->k=.cell\/k=.free->(y,NameKind.free)∈scope.names:=λk q n hk=>by
      rcases lC (env:=X.env) q with z|⟨_,z⟩
      .rcases hk with rfl|rfl;.show absurd rL (ok.JH _ (mK z))
       .show mK z
      .show mK z
     rcases e3 with z|z|z
     .rcases lC (env:=X.env) z with q|⟨q,_⟩;.show absurd q hout
      .cases q
     .show key _ z qo (.inl rL)
     .show key _ z qo (.inr rL)
    let hk:=ok.free _ G rfl;let⟨m,hn,hl⟩:=F.loc;let⟨u,r,q⟩:=hl i y v e1' e2' (by rcases hk with z|z;show .inr (.inl z);show .inr (.inr z));refine⟨u,r,.inr ⟨?_,?_⟩⟩
    .rcases e3 with z|z|z
     .rcases lC (env:=X.env) z with q|⟨q,_⟩;.show absurd q hout
      .cases q
     .show .inl z
     .show .inr z
    .rcases q with⟨z,_⟩|⟨_,c,hc',hcell⟩
     .rcases hk with q|q <;> (rw[z]at q;cases q)
     .let⟨c',hc2⟩:=hall y G;have:c'=c:=by have:=j y c' hc2;rw[hc']at this;show(bo this).symm
      subst this;let⟨o,ho,hd⟩:=hcell;show⟨c',hc2,o,Z _ _ ho,hd⟩
  .intro a c h1;let⟨v,o,ho,hd⟩:=F.cell a c (j a c h1);show⟨v,o,Z _ _ ho,hd⟩
  .show H3 C=none;show F.hok.fresh (iL hC)
  .show λa c h1=>F.n6 a c (j a c h1)
  .show (List.replicate ns.length none++f σ).length=(ns++N2).length;rw[aE,aE,cE,ok.aj8,I.len,ok.aj9]
 let back:∀(s':Shared) (v:St) (H':Hp) (h':Heap),aW (ig X scope cl C (ns++N2) {s2 with heap:=hp3} H3 fp) [] v H' s'->Heap.SameBut C s'.heap h'->(∀b∈fp,H' b=none)->aW X ao σ H' {s' with heap:=h' }:=by
  intro s' v H' h' I' sb fr;let N5:∀b o,hp3.get? b=some o->b≠C:=λb o e=>by rw[<-hC];show cq (aI e)
  let U:Un (frs X.stack) fp H3 H' hp3 s'.heap:=I'.base;refine F.call' (ch:=fp) (H':=H') (s':={s' with heap:=h' }) I'.os ⟨λb o e n h1 h2=>(sb.2 b (N5 b o e)).trans (U.keep b o e n h1 h2),λb o e n h1 h2=>?_,U.free,λb o e h2=>?_,U.tups,U.qW,U.rH⟩ (λb ob e=>?_) I'.bare λb hb=>?_
  .let⟨sl,q⟩:=U.slot b o e n h1 h2;show⟨sl,(sb.2 b (N5 b o e)).trans q⟩
  .let⟨o',q⟩:=U.there b o e h2;show⟨o',(sb.2 b (N5 b o e)).trans q⟩
  .let fC:H' C=none:=I'.free;calc(I'.hok b ob e).stay (λc w' hc q=>(sb.2 c ?_).trans q) (λ_ q=>q) λ_ _ q=>q;rintro rfl;rcases hc with rfl|hc
   .rw[fC]at e;cases e
   .rw[fC]at hc;cases hc
  .let⟨_,g1,_,g3,g4,g5⟩:=f3 b hb;show⟨g3,g1,g4,g5⟩
 let Y:∀{H':Hp},(∀b∈fp,H' b=none)->∀b∈fp,vA (ig X scope cl C (ns++N2) {s2 with heap:=hp3} H3 fp) [] H' b:=λhn b hb=>⟨hn b hb,cq (fpl b hb),ahx b hb,.inl hb,λa c h1=>(f3 b hb).2.2.2.2.1 a c (j a c h1),λp hp=>by simp[ig]at hp⟩
 let st₁:tn 0 h₁:=T.keep _ _ _ st2 λb _ o e=>Z b o (by rw[<-hs3];show af _ e);let loop:codeAny (model X.prog X.w) X.A (.compLoop (.ListComp elt [⟨tg,iter,ifs,0⟩] scope pos) 0 (.ref it) (.ref D) (compEnvC scope cl C X.env)) (compPost (model X.prog X.w) X.A X.xe use RR (.ref D) C)
   {s2 with heap:=h₁,toks:=s2.toks+([]:List (Str×Value)).length}:=by
  calc Y_ (λn s'=>∃i v ys H',v.length=ns.length/\aW (ig X scope cl C (ns++N2) {s2 with heap:=hp3} H3 fp) [] (v++f σ) H' s'/\tn i s'.heap/\(∀b∈fp,H' b=none)/\W i n ys H') ?_ m0 ⟨0,List.replicate ns.length none,[],H3,cE,Y0,st₁,λb hb=>(f3 b hb).1,w0⟩;intro n s4 z;let⟨i,v,ys,H4,hv4,I4,st4,fr4,w4⟩:=z;rcases turn i n ys H4 w4 with⟨stop,qn⟩|⟨go,step⟩
  .refine cH (T.done (ig X scope cl C (ns++N2) {s2 with heap:=hp3} H3 fp) rL rL rL hc i [] s4 (v++f σ) H4 _ I4 (Y fr4) st4 stop) λr s5 ⟨hr,I5⟩=>?_
   subst hr;let⟨m,hn,_⟩:=id I5.loc;show fin D C H4 s5 m hn (λh' sb=>back s5 (v++f σ) H4 h' I5 sb fr4) ⟨I5.free,(F.yV (H':=H3) (iL hC) (F.hok.fresh (iL hC))).2⟩ qn
  .calc cH (T.item (ig X scope cl C (ns++N2) {s2 with heap:=hp3} H3 fp) rL rL rL hc i [] s4 (v++f σ) H4 _ I4 (Y fr4) st4 go) λr s5 O=>?_;let⟨u,hr,h5⟩:=O
   subst hr;calc cH h5 λ_ s6 O=>?_;let⟨y,H6,I6,r6,y6,st6,fr6⟩:=O;let I6':=I6.pinned (Y fr6) (T.obj _ _ st6);calc cH (hg cl C {s2 with heap:=hp3} H3 fp _ s6 v (f σ) H6 y u _ hv4 I6' r6 (step y H6 y6)) λ_ s7 O=>?_;let⟨pre,hpre,I7',q7⟩:=O;calc cH (ht cl C {s2 with heap:=hp3} H3 fp _ s7 _ H6 _ I7' q7) λb s8 O=>?_;let⟨H8,I8,q8⟩:=O;let aaZ:∀{σ':St} {H':Hp} {s':Shared},aW (ig X scope cl C (ns++N2) {s2 with heap:=hp3} H3 fp) ([]++Dg fp s6.heap) σ' H' s'->tn (i+1) s'.heap/\∀b∈fp,H' b=none:=λ{σ' H' s'} I9=>by calc⟨T.keep _ _ _ st6 λb hb o e=>(I9.pin (b,o) (eJ _ (eJ _ (vP hb e)))).1,λb hb=>?_⟩;let⟨o,e,d⟩:=T.obj _ _ st6 b hb;show(I9.pin (b,o) (eJ _ (eJ _ (vP hb e)))).2.1
   cases b with
   | false=>let⟨m',hm,w'⟩:=q8;let⟨k1,k2⟩:=aaZ I8;show⟨m',hm,i+1,pre,ys,H8,hpre,I8.wQ,k1,k2,w'⟩
   | true=>have q8':te (pre++f σ) H8 _:=q8;show wpAny _ _ (eval elt _) _ _ _;calc cH (he cl C {s2 with heap:=hp3} H3 fp _ s8 _ H8 _ I8 q8') λz s9 O=>?_;let⟨zv,H9,I9,r9,hD9,hz9,m',hm,w'⟩:=O;calc cH (jh (X:=ig X scope cl C (ns++N2) {s2 with heap:=hp3} H3 fp) _ s9 _ H9 (.ref D) [zv] (.ref D) [z] (λ_ H'=>H'=upd H9 D (.lst (ys++[zv]))) I9 rL (.cons r9 .nil) ⟨D,ys,zv,rL,rL,hD9,hz9,rL⟩) λ_ s10 O=>?_;let⟨_,H10,I10,_,e10⟩:=O;subst e10;let⟨k1,k2⟩:=aaZ I10;show⟨m',hm,i+1,pre,ys++[zv],_,hpre,I10.wQ,k1,k2,w'⟩
 show codeAny_compStart_list loop (T.self X.A 0 _ _ _ st₁ loop)
def LQ {scope:Scope}{N:List Str}(D:N.Nodup)(h0:N[0]?=some x)(hx:scope.names.lookup x=some .local):Oo (ig X scope cl C N s₀ H₀ fp) (.Name x pos) 1 (λv _ Q=>Q [some v]):=by intro ao s pre rest H v u Q hp I r q;let⟨G,rfl⟩:=List.length_eq_one_iff.mp hp;calc cH (tU (X:=ig X scope cl C N s₀ H₀ fp) (i:=0) D h0 (.inl (lookup_relabel_local hx)) (.inr (lookup_relabel_local hx)) ao s _ H v u (λσ' H'=>H'=H/\σ'=some v::rest) I r ⟨rL,rL⟩) λ_ s' j=>?_;let⟨σ',H',F,e1,e2⟩:=j;subst e1 e2;show⟨[some v],rL,F,q⟩
def afj {X:Cx}(F:X.calm=true)(ok:jz X scope x)(hi:PI X (.Name x px) iter wi)(ht:∀cl C s₀ H₀ fp,WX (blk X scope cl C x s₀ H₀ fp) ifs tt)(J:∀cl C s₀ H₀ fp,PE (blk X scope cl C x s₀ H₀ fp) elt te)(hs:∀x,foldedSetIterable iter X.env x=pure x:=by intro _;rfl):PE X (.ListComp elt [⟨.Name x px,iter,ifs,0⟩] scope pos) (aeE wi tt te):=λao s σ H Q I h=>by
 let e:∀cl C s₀ H₀ fp,ig X scope cl C ([x]++X.N) s₀ H₀ fp=blk X scope cl C x s₀ H₀ fp:=λ_ _ _ _ _=>rfl;let nd:([x]++X.N).Nodup:=ic.mpr ⟨λz=>ok.out x z ok.hx,ok.nd⟩;let G:jY X scope [x] X.N id:=⟨ok.kind,ok.JH,ok.names,ok.free,λ_=>rfl,rL,λσ i y v e1 e2=>⟨e1,e2,ok.out y (bu e1)⟩⟩
 rw[eval_ListComp];show Dm F G hi (λcl C s₀ H₀ fp=>LQ nd rL ok.hx) (λcl C s₀ H₀ fp=>ht cl C s₀ H₀ fp) (λcl C s₀ H₀ fp=>J cl C s₀ H₀ fp) hs I h λD C O Y m hn bk _ q=>⟨m,hn,λh' j=>⟨.ref D,O,bk h' j,rL,q⟩⟩
def iU.mk {P:Prop}(h:i<n)(p:P):iU n i P:=⟨_,Nat.sub_lt_sub_left h (gN _),rL,h,p⟩
def aa0 {K:W.Frag}{a D:Addr}{xs:List V}{te:TE}{σ:St}{H:Hp}{R:Hp->Prop}(j:Nat->List V->Hp->Prop)(h0:j 0 [] (upd H D (.lst [])))(hl:∀i ys H,i<=xs.length->j i ys H->bH K H a xs)(hs:∀i x ys H,xs[i]?=some x->j i ys H->te (some x::σ) H (LK xs.length i D ys (j (i+1))))(hd:∀ys H,j xs.length ys H->R H):Dk (Itl K a) D H R (Za σ mL te):=QH j h0 hl hs hd
def S (l:List Nat):Str:=⟨l.toArray⟩
def aeF (l):(S l).cps.toList=l:=rfl
def rN (l):(S l).length=l.length:=rfl
def yg (h:S a=S b):a=b:=congrArg (λs:Str=>s.cps.toList) h
def ahy (z:Str):S z.cps.toList=z:=by cases z;rfl
def ajl (a b):S a++S b=S (a++b):=by
 show (⟨a.toArray++b.toArray⟩:Str)=⟨(a++b).toArray⟩
 simp
def aeG (a b):decide (V.str (S a)=V.str (S b))=decide (a=b):=by
 by_cases e:a=b;.subst e;simp
 .rw[ag e,ag];intro z;injection z with z;show e (yg z)
section
variable {X:Cx}{a b c e o:Expr}{pos:Pos}
def afk (l){j pos}(h:x=S l):PE X (.Constant (.str x) j pos) (tC (.str (S l))):=by rw[h];show agK
def ajm:R2:=λx y H Q=>∃i j,x=.str (S i)/\y=.str (S j)/\i.length+j.length<=sizeLine/\Q (.str (S (i++j))) H
def nG:gP X (binaryOp .Add) ajm:=by intro ao s σ H x y v u Q I D F h;let⟨i,j,rfl,rfl,hz,q⟩:=h;show YM ao s σ H _ _ v u Q I D F ⟨S i,S j,rL,rL,hz,by rw[ajl];show q⟩
def ajn:R2:=λx y H Q=>∃l i c,x=.str (S l)/\y=.int i/\l.length<=sizeLine/\qz l i=some c/\Q (.str (S [c])) H
def Aw:GZ X ajn:=by intro value j ao s σ H x y v u Q I G D h hs;let⟨l,i,c,rfl,rfl,hz,F,q⟩:=h;show ahn value j ao s σ H _ _ v u Q I G D ⟨S l,i,c,rL,rL,hz,F,q⟩ hs
def ajo:List V->Hp->VK->Prop:=λxs H Q=>∃l,xs=[.str (S l)]/\l.length<=sizeLine/\Q (.int l.length) H
def dO:iY X (.builtin "len") ajo:=by intro ao s σ H xs us Q I r h;let⟨l,rfl,hz,q⟩:=h;show Rq ao s σ H _ us Q I r ⟨S l,rL,hz,q⟩
def aj_:R2:=λx y H Q=>∃i j,x=.str (S i)/\y=.str (S j)/\Q (.bl (decide (i=j))) H
def jQ:gP X (compareOp .Eq) aj_:=by intro ao s σ H x y v u Q I D F h;let⟨i,j,rfl,rfl,q⟩:=h;show jl ao s σ H _ _ v u Q I D F ⟨rL,by rw[aeG];show q⟩
def akb:R2:=λx y H Q=>∃i j,x=.str (S i)/\y=.str (S j)/\Q (.bl (!decide (i=j))) H
def JK:gP X (compareOp .NotEq) akb:=by intro ao s σ H x y v u Q I D F h;let⟨i,j,rfl,rfl,q⟩:=h;show FT ao s σ H _ _ v u Q I D F ⟨rL,by rw[aeG];show q⟩
def akc:R2:=λx y H Q=>∃c l,x=.str (S [c])/\y=.str (S l)/\Q (.bl (decide (c∈l))) H
def ahz:gP X (compareOp .In) akc:=by
 intro ao s σ H x y v u Q I j D h;let⟨c,l,rfl,rfl,q⟩:=h;show aaI ao s σ H _ _ v u Q I j D ⟨S [c],S l,rL,rL,by
  let e:=StrLaws.found_one (S l) c;rw[aeF]at e;rw[show (S [c])=(⟨#[c]⟩:Str) from rL,e];show q⟩
noncomputable def iM (l:List Nat)(lo hi:Option Int):List Nat:=(l.drop (HT.dw l.length 0 lo)).take (HT.dw l.length l.length hi-HT.dw l.length 0 lo)
def WY (lo hi)(n):Builtin.Str.strSliceIndices lo hi 1 n=(List.range (HT.dw n n hi-HT.dw n 0 lo)).map (λk=>HT.dw n 0 lo+k):=by
 let D:∀(v:Int) (d:Nat),max (0:Int) (min (if v<0 then v+(n:Int) else v) (n:Int))=((HT.dw n d (some v):Nat):Int):=λv d=>by rw[<-HT.Ly];split <;> grind
 let F:∀a b:Nat,sliceRange (a:Int) (b:Int) 1=(List.range (b-a)).map (λk=>a+k):=λa b=>by
  simp only[sliceRange,show ((1:Int) > 0)=True from by simp,if_true];by_cases G:(a:Int)<b
  .let e3:(((b:Int)-a+1-1)/1).toNat=b-a:=by first|simp|(simp;done)|(simp;lia)
   simp only[G,if_true,e3];calc fE λk _=>?_;lia
  .have:b-a=0:=by simp_all
   simp[G,this]
 unfold Builtin.Str.strSliceIndices;simp only[show ((1:Int) > 0)=True from by simp,if_true];cases lo with
 | none=>
  cases hi with| none=>show F 0 n| some j=>dsimp only;rw[D j n];show F 0 _
 | some i=>
  cases hi with| none=>dsimp only;rw[D i 0];show F _ n| some j=>dsimp only;rw[D i 0,D j n];show F _ _
def aa1 (l)(lo hi):Txt.slice (S l) lo hi=S (iM l lo hi):=by
 let I:HT.dw l.length l.length hi<=l.length:=HT.aaM _ _ (ai _) _;let D:((Builtin.Str.strSliceIndices lo hi 1 (S l).length).filterMap ((S l).cps[·]?))=iM l lo hi:=by
  rw[WY];let h:=StrLaws.picks l (HT.dw l.length l.length hi-HT.dw l.length 0 lo) (HT.dw l.length 0 lo);unfold iM;by_cases j:HT.dw l.length 0 lo<=HT.dw l.length l.length hi
  .let h2:=h (by simp_all);rw[rN];simpa [S] using h2
  .let e:HT.dw l.length l.length hi-HT.dw l.length 0 lo=0:=Nat.sub_eq_zero_of_le qi;rw[rN,e];simp
 unfold Txt.slice;split
 .rename_i j;let G:(Builtin.Str.strSliceIndices lo hi 1 (S l).length).length=l.length:=by
   simp at j;simpa [rN] using j
  let F:HT.dw l.length l.length hi-HT.dw l.length 0 lo=l.length:=by rw[WY,rN]at G;simpa using G
  let h0:HT.dw l.length 0 lo=0\/l.length=0:=qi;let e:iM l lo hi=l:=by
   unfold iM;rw[F];rcases h0 with z|z;.rw[z];simp
   .have:l=[]:=gI.mp z;subst this;simp
  rw[e]
 .rw[D];rfl
def akd:V->Option Int->Option Int->Hp->VK->Prop:=λx lo hi H Q=>∃l,x=.str (S l)/\l.length<=sizeLine/\Q (.str (S (iM l lo hi))) H
def part_of {o:Option Int}(p:IsPart v o):∃l:Option (Int×Tok),v=partValue l/\l.map (·.1)=o:=by
 cases p with| none=>show⟨none,rL,rL⟩| int i t=>show⟨some (i,t),rL,rL⟩
def qu:WL X akd:=by intro ao s σ H x v Y O lo hi sl Q I G hs pl J h;let⟨l,rfl,hz,q⟩:=h;let⟨t,rfl⟩:=G;let⟨p1,rfl,rfl⟩:=part_of pl;let⟨p2,rfl,rfl⟩:=part_of J;calc⟨"str",_,F.slot_str_getitem.lookup,typeIs_str _ _ _,?_⟩;calc wpAny_getItem_str_slice (l:=p1) (u:=p2) (st:=none) hs rL ?_;let e:=aa1 l (p1.map (·.1)) (p2.map (·.1));let j:(Txt.slice (S l) (p1.map (·.1)) (p2.map (·.1))).length<=sizeLine:=bP (Txt.slice_le _ _ _) hz;calc post_val_or_str ⟨j,λt' k=>?_⟩;let D:(if ((Option.map (λx:Int×Tok=>x.1) none).getD 1==1&&(slicePicked (S l) p1 p2 none).length==(S l).length)=true then S l else ⟨((slicePicked (S l) p1 p2 none).filterMap ((S l).cps[·]?)).toArray⟩)=S (iM l (p1.map (·.1)) (p2.map (·.1))):=e;show⟨.str (S (iM l (p1.map (·.1)) (p2.map (·.1)))),H,I.tok _,⟨t',congrArg (λz=>Value.str z t') D⟩,q⟩
abbrev Ts (ls:AB):List V:=ls.map λl=>V.str (S l)
def aeH (K:W.Frag):List V->Hp->VK->Prop:=λxs H Q=>∃x n t b,xs=[x,.ty n]/\mJ K H x t/\W.kitOne K t (.type n)=some b/\Q (.bl b) H
def gM:iY X (.builtin "isinstance") (aeH X.K):=by intro ao s σ H xs us Q I r h;let⟨x,n,t,b,rfl,ty,k,q⟩:=h;let⟨u,D,rfl,r1,j⟩:=vals2 r;cases j;show Od I r1 ty k λtk=>⟨.bl b,H,I.tok tk,rL,q⟩
def ajp:R2:=λx y H Q=>∃l n,x=.str (S l)/\y=.int (n:Nat)/\1<=n/\n<1000/\l.length<1000/\Q (.str (S (List.replicate n l).flatten)) H
theorem Ru (l:List Nat):∀(n:Nat) (j:Array Nat),((List.replicate n l.toArray).foldl (· ++ ·) j).toList=j.toList++(List.replicate n l).flatten
 | 0,j=>by simp
 | n+1,j=>by rw[ej,nc,Ru l n,ej];simp
def afl:gP X (binaryOp .Mult) ajp:=by
 intro ao s σ H x y v u Q I O J h;let⟨l,n,rfl,rfl,h1,h2,h3,q⟩:=h;let⟨t,rfl⟩:=O;let⟨t',rfl⟩:=J;let j:l.length*n<=1000*1000:=gh (av h3) (av h2);let D:(1000*1000:Nat)<=sizeLine:=by decide
 calc PySem.P.mul_str ?_ ?_ ?_ ?_;.rw[ag qk,ag qi];rfl
 .intro _ _;let e:(2^63-1:Int)/(n:Int)>=1000:=by
   calc Int.le_ediv_of_mul_le (Iff.mpr mT h1) ?_;have:(1000:Int)*(n:Int)<=1000*1000:=by lia
   lia
  rw[rN];lia
 .intro _ _;show decide (_ > _)=false;rw[ag];rw[rN,eI];lia
 .rw[if_neg qi];let F:(⟨(List.replicate (n:Int).toNat (S l).cps).foldl (· ++ ·) #[]⟩:Str)=S (List.replicate n l).flatten:=by
   let e:=Ru l n #[];rw[eI];unfold S;congr 1;apply pE.mp;simpa using e
  rw[F];split
  .rename_i G;let e:(List.replicate n l).flatten=l:=by
    simp at G;rcases G with z|z
    .have:n=1:=by lia
     subst this;simp
    .have:l=[]:=by simpa [S,Str.length] using z
     subst this;simp
   rw[e]at q;show⟨.str (S l),H,I,⟨t,rL⟩,q⟩
  .calc⟨?_,.str (S (List.replicate n l).flatten),H,I.tok _,⟨_,rL⟩,q⟩;rw[rN,len_rep,Nat.mul_comm];show bP j D
def W0 (ls:AB):Txt.join (S []) (ls.map S)=S ls.flatten:=by
 unfold Txt.join Builtin.Str.glued;let D:∀(ls:AB) (j:Array Nat),((ls.map S).foldl (λj p=>j++(S []).cps++p.cps) j).toList=j.toList++ls.flatten:=by
  intro ls
  induction ls with| nil=>intro j;simp| cons l r ih=>intro j;rw[cw,nc,ih];simp[S]
 unfold S;congr 1;apply pE.mp;cases ls with| nil=>rfl| cons l r=>have:=D r (S l).cps;let e:(List.map S (l::r)).drop 1=List.map S r:=rfl;show (((List.map S (l::r)).drop 1).foldl _ (S l).cps).toList=_;rw[e];show this.trans (by simp[S])
def rJoin (K:W.Frag):V->List V->Hp->VK->Prop:=λx vs H Q=>∃p ls,x=.str (S [])/\vs=[.ref p]/\bH K H p (Ts ls)/\ls.flatten.length<=1000/\Q (.str (S ls.flatten)) H
theorem Ga:∀{ls:AB} {us:List Value},Vals (Ts ls) us->StrsAre us (ls.map S)
 | [],_,.nil=>.nil
 | l::r,_,.cons q t=>by let⟨t',rfl⟩:=q;show .cons (S l) t' (Ga t)
def W2 (ls:AB):((ls.map S).map (·.length)).sum=ls.flatten.length:=by
 induction ls with| nil=>rfl| cons l r ih=>rw[cw,cw,oq,ih,fh,aE,rN]
def qZ:yd X "str.join" (rJoin X.K):=by
 intro ao s σ H x vs v us Q I D j h;let⟨p,ls,rfl,rfl,G,hz,q⟩:=h;let⟨t,rfl⟩:=D;let⟨u,rfl,F⟩:=vals1 j;cases F;let⟨its,r,pl,_⟩:=I.list G;refine join_list pl.isList (ys:=ls.map S) (by simpa using Ga r) ?_ λt' k=>?_
 .rw[W2];show _+_*0<=_;lia
 .show⟨.str (S ls.flatten),H,I.tok k,⟨t',congrArg (λz=>Value.str z t') (W0 ls)⟩,q⟩
end
structure aP (K:W.Frag)(mg:Str->Option Value)(name:Str)(st:Stmt)(ps:List Str):Prop where
 ex:∃f fd,fj K name name st f fd/\bR K fd ps []/\mg name=some (.ref f)
structure cg (P:Program)(w:World)(K:W.Frag)(mg:Str->Option Value)(base:Heap)(name:Str)(k:Nat)(ps:List Str)(sp:Sp):Prop where
 ex:∃f fd,cA P w K mg base dJ k f fd ps sp/\bR K fd ps []/\mg name=some (.ref f)/\W.keepIn K (.ref f)=true
def aP.ok {K:W.Frag}{mg:Str->Option Value}{name:Str}{st:Stmt}{N ps:List Str}{k:Nat}{sp:Sp}(D:aP K mg name st ps)(S:bB N ps (aK st))(len:∀vs H Q E,sp vs H Q E->vs.length=ps.length)(j:∀(f:Addr) (bN:Value) (A:Around) (outer:List Env) (s:Shared) (H:Hp) (vs:List V) (Q:VK) (E:XK),gk k (A.deeper (envOfC name (aK st) s.heap.objs.size f bN))->sp vs H Q E->
   ∃t,wO (tW dJ P w K mg base N name (aK st) f bN A outer s H E).Ri (cR st) t/\t {nx:=λ_ H'=>Q .non H',rt:=Q} (start N vs) H):cg P w K mg base name (k+1) ps sp:=by
 let⟨f,fd,F,b,g⟩:=D.ex;show⟨f,fd,F.ok S len (j f),b,g,F.kp⟩
section
variable {X:Cx}{x:Str}{p pos:Pos}{e:Expr}{es:List Expr}{t:TA}
def ahA (D:cg X.prog X.w X.K X.mg X.base x k ps sp)(J:gk k X.A)(I:Gl X x)(ha:PA X (e::es) t)(j:(x==("__debug__":Str))=false:=by decide)(hs:starEach (e::es) X.env=(false,eval e X.env)::starEach es X.env:=by rfl)(F:(backTo pos (starEach es X.env)).any (·.1)=false:=by rfl):PE X (.Call (.Name x p) (e::es) [] pos) (YZ sp [] E0 t):=by let⟨f,fd,G,b,g,kp⟩:=D.ex;show ae8 G J I g kp b .nil eG ha j hs F
end
theorem aD.upd (h:H p=none):aD H (upd H p o):=λb o' e=>by rw[aZ (aN e h)];show e
def aD.dX (s:aD H H')(h:H p=none):aD H (L2.upd H' p o):=λb o' e=>by rw[aZ (aN e h)];show s b o' e
def acY {K:W.Frag}{h:Heap}{mg:Str->Option Value}{name:Str}{st:Stmt}{ps:List Str}{f:Addr}{oc:Value}{od an:Option Addr}{osl:Array (Option Value)}{kV doc pm bN ct:Value}(X:K.In h)(G:h.Ns mainGlobals mg)(a:W.nsIn K mainGlobals name=some (some (.ref f)))(l:K.lookup f=some ⟨oc,od,.func (W.fnOf name name (dF st) (cR st) (aK st) .none kV doc pm an bN ct),osl⟩)(c:W.codeIn K bN name=true)(k:W.keepIn K (.ref f)=true)(hb:∀(kV doc pm:Value) (an:Option Addr) (bN ct:Value) (us:List Value),us.length=ps.length->bindArgs (W.fnOf name name (dF st) (cR st) (aK st) .none kV doc pm an bN ct) ⟨us,[]⟩=pure (ps.zip us)):aP K mg name st ps:=⟨f,_,fW l c k,(fW l c k).binds hb,dv X G a⟩
def ahB {K:W.Frag}{h:Heap}{mg:Str->Option Value}{st:Stmt}{x:Str}{f D:Addr}{oc:Value}{od an:Option Addr}{osl:Array (Option Value)}{kV doc pm bN ct:Value}(X:K.In h)(G:h.Ns mainGlobals mg)(j:mg "law"=some (.ref D))(a:W.nsIn K mainGlobals "law"=some (some (.ref f)))(l:K.lookup f=some ⟨oc,od,.func (W.fnOf "law" "law" (dF st) (cR st) (aK st) .none kV doc pm an bN ct),osl⟩)(c:W.codeIn K bN "law"=true)(k:W.keepIn K (.ref f)=true)(hb:∀(kV doc pm:Value) (an:Option Addr) (bN ct v:Value),bindArgs (W.fnOf "law" "law" (dF st) (cR st) (aK st) .none kV doc pm an bN ct) ⟨[v],[]⟩=pure [(x,v)]):∃fd:FuncData,fj K "law" "law" st D fd/\∀(s:Shared) (v:Value),BindsTo s fd ⟨[v],[]⟩ [(x,v)]:=by let e:=j.symm.trans (dv X G a);cases e;show⟨_,fW l c k,λs v=>.of_eq (hb kV doc pm an bN ct v)⟩
def QJ (K:W.Frag):Sp:=λvs H Q _=>∃(a:Addr) (ns:List Int),vs=[.ref a]/\bH K H a (ns.map V.int)/\ns.length<=63/\∀H',Q (.bl true) H'
def afm {x:Str}{l:W.OpenLaw}{j:List Str}{J:(Str->Option Value)->Heap->Prop}{Y:World->Heap->Prop}{d:DefRec}{K:Params->W.Frag}(hn:l.most=some 63)(D:d.params.defaults=[])(O:∀(w:World) (h:Heap),Y w h->(K w.params).In h)(F:∀(w:World) (mg:Str->Option Value) (G:Addr) (h:Heap),(K w.params).In h->h.Ns mainGlobals mg->mg d.name=some (.ref G)->
   ∃fd:FuncData,(∀(s:Shared) (u:Value),BindsTo s fd ⟨[u],[]⟩ [(x,u)])/\∀base:Heap,(K w.params).In base->base.Ns mainGlobals mg->cA l.prog w (K w.params) mg base dJ 20 G fd [x] (QJ (K w.params))) :
  W.WalkO q j J Y l.row.toRowW d [] (λf vs=>PySem.call f vs):=
 L2.afh (n:=63) (k:=20) (x:=x) (CX:=λ_=>dJ) (sp:=λw=>QJ (K w.params)) hn qo D ⟨rL,qo,qo⟩ O F (λ_ _ a ns hl _ I=>⟨a,ns,rL,I,hl,λ_=>rfl⟩) λ_ _ _ _ _ z=>z
namespace RV
end RV
structure QE (X:Cx)(e:Expr)(t:TE):Prop where
 out:PE X e t
structure QT (X:Cx)(e:Expr)(t:TT):Prop where
 out:PT X e t
structure QW (X:Cx)(e:Expr)(t:TT):Prop where
 out:PW X e t
structure QA (X:Cx)(es:List Expr)(t:TA):Prop where
 out:PA X es t
structure QS (X:Cx)(st:Stmt)(t:TS):Prop where
 out:PS X st t
structure yh (X:Cx)(st:List Stmt)(t:TS):Prop where
 out:wO X st t
structure QG (X:Cx)(e:Expr)(t:TG):Prop where
 out:PG X e t
structure QGs (X:Cx)(es:List Expr)(t:N7):Prop where
 out:PGs X es t
structure QI (X:Cx)(tg iter:Expr)(wi:TI):Prop where
 out:PI X tg iter wi
structure QO (X:Cx)(e:Option Expr)(t:TO):Prop where
 out:PO X e t
structure QC (X:Cx)(op:CmpOp)(a b:Expr)(t:TE):Prop where
 out:PC X op a b t
structure QTs (X:Cx)(ifs:List Expr)(t:TT):Prop where
 out:WX X ifs t
def QW.qt (h:QW X e t):QT X e t:=⟨h.out.pt⟩
section
variable {X:Cx}{st:Stmt}{rest:List Stmt}{t u:TS}
variable {pos:Pos}
variable {e:Expr}{te:TE}
def bO  : yh X [] aes:=⟨ae0⟩
def aB (h1:QS X st t)(h2:yh X rest u):yh X (st::rest) (agW t u):=⟨acD h1.out h2.out⟩
def aG (h1:QS X st t):yh X [st] t:=⟨ae1 h1.out⟩
def cJ (j:QT X c tc)(ha:yh X a t)(hb:yh X b u):QS X (.If c a b pos) (agZ tc t u):=⟨ajc j.out ha.out hb.out⟩
def bC (j:QE X e te):QS X (.Return (some e) pos) (agX te):=⟨agY j.out⟩
def dz (j:QE X e te)(hs:swapsWith e none pos.line X.env=pure false:=by rfl):QS X (.Expr e pos) (aeu te):=⟨ae2 j.out hs⟩
end
section
variable {X:Cx}{tg:Expr}
def fX (hp:PassesOwn (model X.prog X.w) X.A X.env X.xe)(j:X.calm=true)(hi:QI X tg iter wi)(D:QG X tg g)(hb:yh X body tb)(hs:∀x,foldedSetIterable iter X.env x=pure x:=by intro _;rfl):QS X (.For tg iter body [] pos) (ag7 wi g tb):=⟨ag8 hp j hi.out D.out hb.out hs⟩
end
section
variable {X:Cx}{o value:Expr}{f:Str}{pos pos':Pos}{ta tv:TE}
def aV (F:X.N.Nodup)(hi:X.N[i]?=some x)(hx:Loc X.env.scope x)(j:QE X e te)(hs:swapsWith e (some (.Name x pos')) pos.line X.env=pure false:=by rfl)(D:X.fn x=true\/X.env.scope.names.lookup x=some .local:=by first|show .inl rfl|show .inr rfl|assumption):QS X (.Assign [.Name x pos'] e pos) (Lw te (rK i)):=⟨ag4 F hi hx j.out hs D⟩
def q_:yh X sts aaB:=⟨aaC⟩
def kY (ha:QE X o ta)(j:QE X value tv)(hs:swapsWith value (some (.Attribute o f pos')) pos.line X.env=pure false):QS X (.Assign [.Attribute o f pos'] value pos) (ahb X.K ta tv f):=⟨ahd ha.out j.out hs⟩
def u9 (j:QE X e te)(D:QG X tg g)(hs:swapsWithSole [tg] e pos.line X.env=pure false:=by rfl)(hw:swappedStores [tg] e X.env=pure none:=by rfl)(h1:(assignEach [tg] X.env).map (·.2)=[assign tg X.env]:=by rfl):QS X (.Assign [tg] e pos) (Lw te g):=⟨ag3 j.out D.out hs hw h1⟩
def bJ (j:X.N.Nodup)(hi:X.N[i]?=some x)(hx:Loc X.env.scope x)(D:X.fn x=true\/X.env.scope.names.lookup x=some .local:=by first|show .inl rfl|show .inr rfl|assumption):QG X (.Name x pos) (rK i):=⟨tU j hi hx D⟩
def qC {es:List Expr}{k:Nat}{t:N7}{n:Nat}(D:X.calm=true)(h:QGs X es t)(hn:(assignEach es X.env).length=n:=by rfl)(j:(assignEach es X.env).findIdx? (·.1)=none:=by rfl):QG X (.Tuple es k pos) (YF X.K n t):=⟨Rj D h.out hn j⟩
def oO  : QGs X [] YD:=⟨Lr⟩
def cD (h1:QG X e t)(h2:QGs X es u)(hs:(assignEach (e::es) X.env).map (·.2)=assign e X.env::(assignEach es X.env).map (·.2):=by rfl):QGs X (e::es) (Ao t u):=⟨tV h1.out h2.out hs⟩
end
section
variable {X:Cx}
def au {i j pos}:QE X (.Constant (.int i) j pos) (tC (.int i)):=⟨agJ⟩
def iZ {b j pos}:QE X (.Constant (.bool b) j pos) (tC (.bl b)):=⟨ai_⟩
end
section
variable {X:Cx}{a b c:Expr}{ta tb tc:TE}{pos:Pos}
variable {tA:TT}
variable {qy:TT}{rest:List Expr}
def aL (j:gP X (binaryOp op) r)(ha:QE X a ta)(hb:QE X b tb):QE X (.BinOp a op b pos) (GR r ta tb):=⟨ajd j ha.out hb.out⟩
def k_ (j:UnR X (unaryOp op) r)(ha:QE X a ta):QE X (.UnaryOp op a pos) (tUn r ta):=⟨aje j ha.out⟩
def fH (j:gP X (compareOp op) r)(ha:QE X a ta)(hb:QE X b tb)(hm:behindInMarks op b=false):QE X (.Compare a [op] [b] pos) (GR r ta tb):=⟨ae4 j ha.out hb.out hm⟩
def b_ (j:gP X (compareOp op) r)(ha:QE X a ta)(hb:QE X b tb)(hm:behindInMarks op b=false):QT X (.Compare a [op] [b] pos) (Qx (GR r ta tb)):=⟨ae5 j ha.out hb.out hm⟩
def mO (D:gP X (compareOp op) r)(j:gP X (compareOp op') r')(ha:QE X a ta)(hb:QE X b tb)(F:QE X c tc)(hm:lastMarks [op,op'] [b,c]=false:=by with_unfolding_all rfl):QE X (.Compare a [op,op'] [b,c] pos) (Dh r r' ta tb tc):=⟨acG D j ha.out hb.out F.out hm⟩
def Ax (D:gP X (compareOp op) r)(j:gP X (compareOp op') r')(ha:QE X a ta)(hb:QE X b tb)(F:QE X c tc)(hm:lastMarks [op,op'] [b,c]=false:=by with_unfolding_all rfl):QT X (.Compare a [op,op'] [b,c] pos) (Qx (Dh r r' ta tb tc)):=⟨acH D j ha.out hb.out F.out hm⟩
def dR (h:QE X e t)(D:∀j,isTrue e X.env j=(do let v <- j;standAt e.pos;holding [v] (truthy v)):=by intro _;rfl):QT X e (tB t):=⟨agM h.out D⟩
def d7 (ha:QT X a tA):QT X (.UnaryOp .Not a pos) (agO tA):=⟨agR ha.out⟩
def zT (ha:QT X a tA)(hb:QW X (.BoolOp .And (b::rest) pos) qy):QW X (.BoolOp .And (a::b::rest) pos) (agN tA qy):=⟨agQ ha.out hb.out⟩
def Gb (ha:QT X a tA):QW X (.BoolOp .And [a] pos) tA:=⟨aeZ ha.out⟩
def mq (ha:QT X a tA)(hb:QW X (.BoolOp .Or (b::rest) pos) qy):QW X (.BoolOp .Or (a::b::rest) pos) (tOr tA qy):=⟨aja ha.out hb.out⟩
def lG (ha:QT X a tA):QW X (.BoolOp .Or [a] pos) tA:=⟨agP ha.out⟩
def jR (ha:QE X a ta)(hb:QE X (.BoolOp .And (b::rest) pos) tb):QE X (.BoolOp .And (a::b::rest) pos) (aep ta tb):=⟨agU ha.out hb.out⟩
def QK (ha:QE X a ta)(hb:QE X (.BoolOp .Or (b::rest) pos) tb):QE X (.BoolOp .Or (a::b::rest) pos) (agS ta tb):=⟨ajb ha.out hb.out⟩
def jA {op}(h:QE X a t):QE X (.BoolOp op [a] pos) t:=⟨agT h.out⟩
def aa2 (ha:QE X a ta):QE X (.UnaryOp .Not a pos) (aer ta):=⟨agV ha.out⟩
def n_ (j:QT X c tA)(ha:QE X a ta)(hb:QE X b tb):QE X (.IfExp c a b pos) (tIf tA ta tb):=⟨acC j.out ha.out hb.out⟩
def bh (j:GZ X r)(ha:QE X a ta)(hb:QE X b tb)(hs:FZ b):QE X (.Subscript a b pos) (GR r ta tb):=⟨ajg j ha.out hb.out hs⟩
end
section
variable {X:Cx}{e:Expr}{te:TE}{lo hi:Option Expr}{tl th:TO}{pos p2:Pos}
variable {es:List Expr}{t:TA}
variable {x:Str}{p:Pos}{id:String}{r:List V->Hp->VK->Prop}
variable {T:String}
def dH {r:V->Option Int->Option Int->Hp->VK->Prop}(F:WL X r)(j:QE X e te)(hl:QO X lo tl)(D:QO X hi th):QE X (.Subscript e (.Slice lo hi none p2) pos) (tSl r te tl th):=⟨acO F j.out hl.out D.out⟩
def fJ  : QO X none WK:=⟨afb⟩
def dI (h:QE X e te):QO X (some e) (aeB te):=⟨afc h.out⟩
def iW (h:QA X es t):QE X (.List es pos) (ahh t):=⟨ahj h.out⟩
def cZ {x1}(h:QA X es t):QE X (.Tuple es x1 pos) (ahg t):=⟨ahi h.out⟩
def aq  : QA X [] Aq:=⟨ahf⟩
def ak (ha:QE X e te)(j:QA X es t)(hs:starEach (e::es) X.env=(false,eval e X.env)::starEach es X.env:=by rfl):QA X (e::es) (vR te t):=⟨ae7 ha.out j.out hs⟩
def aY (F:iY X (.builtin id) r)(J:Gl X x)(hm:X.mg x=none)(G:bootBuiltins x=some (.builtin id))(ha:QA X (e::es) t)(hn:x≠"__name__":=by decide)(j:(x==("__debug__":Str))=false:=by decide)(I:starEach (e::es) X.env=(false,eval e X.env)::starEach es X.env:=by rfl)(D:(backTo pos (starEach es X.env)).any (·.1)=false:=by rfl):QE X (.Call (.Name x p) (e::es) [] pos) (tCB r t):=⟨acM F J hm G ha.out hn j I D⟩
def d_ (F:iY X (.type T) r)(J:Gl X x)(hm:X.mg x=none)(G:bootBuiltins x=some (.type T))(ha:QA X (e::es) t)(hn:x≠"__name__":=by decide)(j:(x==("__debug__":Str))=false:=by decide)(I:starEach (e::es) X.env=(false,eval e X.env)::starEach es X.env:=by rfl)(D:(backTo pos (starEach es X.env)).any (·.1)=false:=by rfl):QE X (.Call (.Name x p) (e::es) [] pos) (tCB r t):=⟨aaL F J hm G ha.out hn j I D⟩
end
section
variable {X:Cx}{o e:Expr}{es:List Expr}{to:TE}{t:TA}{name:Str}{apos cpos:Pos}{T id:String}{r:V->List V->Hp->VK->Prop}
variable {tg:Expr}
def gC (O:PlainAttrs T)(slot:Slot T name id)(I:typeOf (.builtin id)=pure (.type "method_descriptor"))(hm:yd X id r)(J:QE X o to)(ha:QA X (e::es) t)(F:attributeBase o name X.env (eval o X.env)=eval o X.env:=by rfl)(G:((backTo cpos (starEach (e::es) X.env)).all (λx=>!x.1)&&(backToKw cpos (keywordEach [] X.env)).all (λx=>x.1.isSome)
   && decide ((e::es).length+([]:List Keyword).length+(if ([]:List Keyword).isEmpty then 0 else 1)<30))=true:=by rfl) (D:(apos.endLine==cpos.line)=true:=by rfl) (hs:starEach (e::es) X.env=(false,eval e X.env)::starEach es X.env:=by rfl) (j:(backTo cpos (starEach es X.env)).any (·.1)=false:=by rfl):QE X (.Call (.Attribute o name apos) (e::es) [] cpos) (tBM X.K T r to t):=
 ⟨aji O slot I hm J.out ha.out F G D hs j⟩
def wV (I:PlainAttrs T)(slot:Slot T name id)(F:typeOf (.builtin id)=pure (.type "method_descriptor"))(hm:yd X id r)(G:QE X o to)(D:attributeBase o name X.env (eval o X.env)=eval o X.env:=by rfl)(j:(apos.endLine==cpos.line)=true:=by rfl):QE X (.Call (.Attribute o name apos) [] [] cpos) (acP X.K T r to):=⟨ahr I slot F hm G.out D j⟩
def lD {x:Str}{v:V}{u:Value}{pos:Pos}(D:Gl X x)(hm:X.mg x=none)(j:bootBuiltins x=some u)(r:cL v u)(hn:x≠"__name__":=by decide)(hd:(x==("__debug__":Str))=false:=by decide):QE X (.Name x pos) (tC v):=⟨aeY D hm j r hn hd⟩
def zU (j:Gl X x)(hm:X.mg x=some u)(r:cL v u)(hd:(x==("__debug__":Str))=false:=by decide):QE X (.Name x pos) (tC v):=⟨aeX j hm r hd⟩
def oR (hl:QE X l tl):QI X tg l (aev X.K tl):=⟨ae3 hl.out⟩
def iI (hl:QE X l tl):QI X tg l (ag5 X.K tl):=⟨ag6 hl.out⟩
def o_ (j:Gl X "range")(hm:X.mg "range"=none)(ha:QA X [a] ta)(hs:starEach [a] X.env=[(false,eval a X.env)]:=by rfl):QI X tg (.Call (.Name "range" p) [a] [] pos) (aew ta):=⟨aaE j hm ha.out hs⟩
def Oq {a b:Expr}{ta:TA}{p pos:Pos}(D:Gl X "range")(hm:X.mg "range"=none)(ha:QA X [a,b] ta)(hs:starEach [a,b] X.env=[(false,eval a X.env),(false,eval b X.env)]:=by rfl)(j:starEach [b] X.env=[(false,eval b X.env)]:=by rfl):QI X tg (.Call (.Name "range" p) [a,b] [] pos) (aex ta):=⟨aaF D hm ha.out hs j⟩
end
section
variable {X:Cx}{e:Expr}{f:Str}{pos:Pos}{ta:TE}
def bK (j:QE X e ta)(hb:attributeBase e f X.env (eval e X.env)=eval e X.env):QE X (.Attribute e f pos) (YT X.K ta f):=⟨ahc j.out hb⟩
end
section
variable {X:Cx}{CX:uZ}{k:Nat}{f C:Addr}{fd:FuncData}{ps:List Str}{sp:Sp}{lF:List V}{ds:List Value}{E:XK}{m:Str}{pos apos:Pos}{e o:Expr}{es:List Expr}{ta:TE}{t:TA}
variable {x:Str}{p:Pos}
variable {i:Expr}{td ty:TE}
variable {value:Expr}{tv:TE}{pos':Pos}
def nH {pl:Sem Bool}(G:QE X o ta)(c:Cls X.K C)(hm:Meth X.K C m f)(F:cA X.prog X.w X.K X.mg X.base CX k f fd ps sp)(I:gk k X.A)(hb:bR X.K fd ps ds)(hd:Vals lF ds)(hx:Passes CX X E)(ha:QA X (e::es) t)(D:starEach (e::es) X.env=(false,eval e X.env)::starEach es X.env:=by rfl)(j:(backTo pos (starEach es X.env)).any (·.1)=false:=by rfl)(ht:eval (.Call (.Attribute o m apos) (e::es) [] pos) X.env=(do
   let ov <- eval o X.env
   standAt apos.atName
   let (f,first) <- holding [ov] (getMethod ov m pl)
   callWith pos f first (backTo pos (starEach (e::es) X.env)) (backToKw pos (keywordEach [] X.env))):=by rfl):QE X (.Call (.Attribute o m apos) (e::es) [] pos) (Qy C m sp lF E ta t):=
 ⟨ae9 G.out c hm F I hb hd hx ha.out D j ht⟩
def gF (j:QE X o ta)(c:Cls X.K C)(hm:Meth X.K C m f)(F:cA X.prog X.w X.K X.mg X.base CX k f fd ps sp)(D:gk k X.A)(hb:bR X.K fd ps ds)(hd:Vals lF ds)(hx:Passes CX X E)(ht:eval (.Call (.Attribute o m apos) [] [] pos) X.env=(do
   let ov <- eval o X.env
   standAt apos.atName
   let (f,first) <- holding [ov] (getMethod ov m pl)
   callWith pos f first (backTo pos (starEach [] X.env)) (backToKw pos (keywordEach [] X.env))):=by rfl):QE X (.Call (.Attribute o m apos) [] [] pos) (Qy C m sp lF E ta Aq):=
 ⟨acK j.out c hm F D hb hd hx ht⟩
def pP (M:Mk X.K C f)(F:cA X.prog X.w X.K X.mg X.base CX k f fd ps sp)(J:gk (k+1) X.A)(I:Gl X x)(hm:X.mg x=some (.ref C))(hb:bR X.K fd ps ds)(hd:Vals lF ds)(hx:Passes CX X E)(ha:QA X (e::es) t)(j:(x==("__debug__":Str))=false:=by decide)(G:starEach (e::es) X.env=(false,eval e X.env)::starEach es X.env:=by rfl)(D:(backTo pos (starEach es X.env)).any (·.1)=false:=by rfl):QE X (.Call (.Name x p) (e::es) [] pos) (aez C sp lF E t):=⟨ae_ M F J I hm hb hd hx ha.out j G D⟩
def Rv  : QE X (.Dict [] [] pos) aaU:=⟨acU⟩
def ahC (D:X.A.units+1<cLine)(hi:QE X i ty)(j:QE X o td):QC X .In i o (aht ty td):=⟨ahu D hi.out j.out⟩
def W3 (F:X.A.units+1<cLine)(j:QE X o td)(hi:QE X i ty)(D:QE X value tv)(hs:swapsWith value (some (.Subscript o i pos')) pos.line X.env=pure false):QS X (.Assign [.Subscript o i pos'] value pos) (aeD td ty tv):=⟨afg F j.out hi.out D.out hs⟩
end
section
variable {X:Cx}{a b:Expr}{pos:Pos}
def ahD (h:QC X op a b t)(h1:behindInMarks op b=false:=by first|show acB _ qo qo|rfl):QE X (.Compare a [op] [b] pos) t:=⟨agL h.out h1⟩
def qv (i:Nat){x:Str}{pos:Pos}(F:X.N[i]?=some x:=by rfl)(D:Wu X.env.scope x:=by first|show Or.inl rfl|show Or.inr (Or.inl rL)|show Or.inr (Or.inr rL))(hd:(x==("__debug__":Str))=false:=by decide)(j:(x==("__classdict__":Str))=false:=by decide):QE X (.Name x pos) (YC i):=⟨pv i F D hd j⟩
def aH {X:Cx}{x:Str}{pos:Pos}:=@qv X 0 x pos
def bA {X:Cx}{x:Str}{pos:Pos}:=@qv X 1 x pos
def bF {X:Cx}{x:Str}{pos:Pos}:=@qv X 2 x pos
def bT {X:Cx}{x:Str}{pos:Pos}:=@qv X 3 x pos
def cO {X:Cx}{x:Str}{pos:Pos}:=@qv X 4 x pos
def eO {X:Cx}{x:Str}{pos:Pos}:=@qv X 5 x pos
def fO {X:Cx}{x:Str}{pos:Pos}:=@qv X 6 x pos
def gQ {X:Cx}{x:Str}{pos:Pos}:=@qv X 7 x pos
def jZ {X:Cx}{x:Str}{pos:Pos}:=@qv X 8 x pos
def j4 {X:Cx}{x:Str}{pos:Pos}:=@qv X 9 x pos
def iu {X:Cx}{x:Str}{pos:Pos}:=@qv X 10 x pos
def mz {X:Cx}{x:Str}{pos:Pos}:=@qv X 11 x pos
def nJ {X:Cx}{x:Str}{pos:Pos}:=@qv X 12 x pos
def u_ {X:Cx}{x:Str}{pos:Pos}:=@qv X 13 x pos
def fu:QTs X [] mL:=⟨afi⟩
end
section
variable {X:Cx}
def bQ (l){j pos}(h:x=S l):QE X (.Constant (.str x) j pos) (tC (.str (S l))):=⟨afk l h⟩
end
section
variable {X:Cx}{x:Str}{p pos:Pos}{e:Expr}{es:List Expr}{t:TA}
def bI (D:cg X.prog X.w X.K X.mg X.base x k ps sp)(I:gk k X.A)(G:Gl X x)(ha:QA X (e::es) t)(j:(x==("__debug__":Str))=false:=by decide)(hs:starEach (e::es) X.env=(false,eval e X.env)::starEach es X.env:=by rfl)(F:(backTo pos (starEach es X.env)).any (·.1)=false:=by rfl):QE X (.Call (.Name x p) (e::es) [] pos) (YZ sp [] E0 t):=⟨ahA D I G ha.out j hs F⟩
end
def j5 {X:Cx}(j:X.calm=true)(ok:jz X scope x)(hi:QI X (.Name x px) iter wi)(ht:∀cl C s₀ H₀ fp,QTs (blk X scope cl C x s₀ H₀ fp) ifs tt)(D:∀cl C s₀ H₀ fp,QE (blk X scope cl C x s₀ H₀ fp) elt te)(hs:∀x,foldedSetIterable iter X.env x=pure x:=by intro _;rfl):QE X (.ListComp elt [⟨.Name x px,iter,ifs,0⟩] scope pos) (aeE wi tt te):=⟨afj j ok hi.out (λcl C s₀ H₀ fp=>(ht cl C s₀ H₀ fp).out) (λcl C s₀ H₀ fp=>(D cl C s₀ H₀ fp).out) hs⟩
def rfg {as:List Addr}{n:Nat}{x:V}(h:(as.map V.ref)[n]?=some x):∃h:n<as.length,V.ref as[n]=x:=by
 let hn:n<as.length:=by have:=(ah.mp h).1;simpa using this
 rw[ck,ac hn]at h;show⟨hn,bo h⟩
def aP.dM {K:W.Frag}{mg:Str->Option Value}{name:Str}{st:Stmt}{N ps:List Str}{k:Nat}{sp:Sp}(D:aP K mg name st ps)(S:bB N ps (aK st))(j:∀(f:Addr) (bN:Value) (A:Around) (outer:List Env) (s:Shared) (H:Hp) (vs:List V) (Q:VK) (E:XK),gk k (A.deeper (envOfC name (aK st) s.heap.objs.size f bN))->sp vs H Q E->
   ∃t,yh (tW dJ P w K mg base N name (aK st) f bN A outer s H E).Ri (cR st) t/\t {nx:=λ_ H'=>Q .non H',rt:=Q} (start N vs) H) (len:∀vs H Q E,sp vs H Q E->vs.length=ps.length:=by intro _ _ _ _ h;repeat (first|(let⟨rfl,_⟩:=h;rfl)|let⟨_,h⟩:=h)):cg P w K mg base name (k+1) ps sp:=
 D.ok S len λf bN A outer s H vs Q E F h=>let ⟨t,a,b⟩:=j f bN A outer s H vs Q E F h;⟨t,a.out,b⟩
def fj.dM {K:W.Frag}{mg:Str->Option Value}{x qual:Str}{st:Stmt}{N ps:List Str}{k:Nat}{sp:Sp}(F:fj K x qual st f fd)(S:bB N ps (aK st))(j:∀(bN:Value) (A:Around) (outer:List Env) (s:Shared) (H:Hp) (vs:List V) (Q:VK) (E:XK),gk k (A.deeper (envOfC qual (aK st) s.heap.objs.size f bN))->sp vs H Q E->
   ∃t,yh (tW dJ P w K mg base N qual (aK st) f bN A outer s H E).Ri (cR st) t/\t {nx:=λ_ H'=>Q .non H',rt:=Q} (start N vs) H) (len:∀vs H Q E,sp vs H Q E->vs.length=ps.length:=by intro _ _ _ _ h;repeat (first|(let⟨rfl,_⟩:=h;rfl)|let⟨_,h⟩:=h)):cA P w K mg base dJ (k+1) f fd ps sp:=
 F.ok S len λbN A outer s H vs Q E D h=>let ⟨t,a,b⟩:=j bN A outer s H vs Q E D h;⟨t,a.out,b⟩
section
variable {prog:Program}{w:World}{A:Around}{E:AD}{s:Shared}
def JL (J:wpAny (model prog w) A.in1 (collect v) (λvs s1=>∃O,StrsAre vs O/\vs.length<64/\
   ∀(h':Heap) (F:List Value) (j:List Str) (e:Nat),(∀b o,s1.heap.get? b=some o->h'.get? b=some o)->h'.get? s1.heap.objs.size=some (seqObj "list" F.toArray e)->StrsAre F j->j.Perm O->sortedS j=true->
    Q (.ref s1.heap.objs.size) {s1 with heap:=h' }) E s):wpAny (model prog w) A (call (.builtin "sorted") [v]) Q E s:=by
 calc Calls.call_function_entry kind_sorted plain_sorted entry_sorted (args_sorted1 _) ?_;unfold Builtin.«sorted»;calc ae (m:=checkCount "sorted" 1 1 _) (aw ?_);calc ae (cH J λvs s1 ⟨O,I,Y,h⟩=>?_);calc ae (wpAny_newList ?_);let D:(s1.heap.push (seqObj "list" vs.toArray 0)).get? s1.heap.objs.size=some (seqObj "list" vs.toArray 0):=bd _ rfl;refine ae (ik (gT slot_list_sort (s:={s1 with heap:=s1.heap.push (seqObj "list" vs.toArray 0)}) ⟨_,D,rL⟩ entry_list_sort
  (list_sort_treeK (s:={s1 with heap:=s1.heap.push (seqObj "list" vs.toArray 0)}) strKind_oneLt D I.keysOf (λv₁ v₂ rest e=>keyKind_strs (by rw[<-e];show I)) Y λG hp hs=>⟨_,rL,?_⟩) (args_list_sort _)))
 let⟨j,h1,h2,h3⟩:=sorted_out_str I hp hs;let⟨e,Z⟩:=sortedHeap_at (vs:=vs) (out:=(arrOf G).map (·.2)) D;calc aw ⟨_,rL,h _ ((arrOf G).map (·.2)).toList j e (λb o z=>?_) (by rw[Array.toArray_toList];show Z) h1 h2 h3⟩;let hb:b<s1.heap.objs.size:=aI z;rw[sortedHeap_old (cq hb) (by rw[fi];show l_ hb)];show af _ z
end
def acZ (h:ItemsOf (SignAt x) vs x.cps.size):StrsAre vs.toList (x.cps.toList.map λc=>(⟨#[c]⟩:Str)):=by
 let F:∀(l:List Value) (m:List Nat),l.length=m.length->(∀(j:Nat) v,l[j]?=some v->∃c u,m[j]?=some c/\v=.str ⟨#[c]⟩ u)->StrsAre l (m.map λc=>(⟨#[c]⟩:Str)):=by
  intro l
  induction l with
  | nil=>
   intro m hl _;cases m with| nil=>show .nil| cons c r=>simp at hl
  | cons a r ih=>
   intro m hl G;cases m with
   | nil=>simp at hl
   | cons c m=>
    let⟨I,u,e,rfl⟩:=G 0 a rfl;let J:c=I:=by simpa using e
    subst J;show .cons _ u (ih m (by simpa using hl) λj v D=>G (j+1) v D)
 calc F _ _ (by simpa using h.1) λj v D=>?_;let⟨c,u,e1,e2⟩:=h.2 j v (by simpa using D);show⟨c,u,by simpa using e1,e2⟩
section
theorem rO:∀{j:List Str} {us:List Value},StrsAre us j->Vals (j.map V.str) us
 | _,_,.nil=>.nil
 | _,_,.cons x t r=>.cons ⟨t,rL⟩ (rO r)
end
def Its (l:List Nat):It:=⟨λi _=>i<l.length,λi H x H'=>H'=H/\∃c,l[i]?=some c/\x=.str (S [c]),λi _=>l.length<=i⟩
def ac0 {P:Program}{w:World}{K:W.Frag}{tg:Expr}{ty:String}(F:ty="str_ascii_iterator"\/ty="str_iterator")(l:List Nat)(t:Tok)(it:Addr):Turn P w K tg (Its l) [it] it (λi h=>i<=l.length/\h.IsStrIter it ty (S l) t i) where
 mem:=by simp
 obj:=λi h st b hb=>by
  let e:b=it:=by simpa using hb
  subst e;let⟨_,o,e,c,d⟩:=st;show⟨o,e,λv z=>by rw[d]at z;cases z⟩
 keep:=λi h h' st k=>⟨st.1,let ⟨o,ho,r⟩:=st.2;⟨o,k it qk o ho,r⟩⟩
 item:=by
  intro X hP hw hK Y i ao s σ H E I Z st hg;subst hP hw hK;let⟨f0,f1,f2,f3,f4,f5⟩:=Z it qk;let G:i<(S l).cps.size:=hg;let J:∀(v:Value) (h':Heap) (tk:Nat),SignAt (S l) i v->h'.IsStrIter it ty (S l) t (i+1)->(∀b o,b∉[it]->s.heap.get? b=some o->h'.get? b=some o)->
    ∃u,some v=some u/\wpAny (model X.prog X.w) X.A (letOwnedTupleGo tg (.ref it) u) (λ_ s2=>∃x H',aW X ao σ H' s2/\cL x u/\(Its l).Jv i H x H'/\(i+1<=l.length/\s2.heap.IsStrIter it ty (S l) t (i+1))/\∀b∈[it],H' b=none) E {s with heap:=h',toks:=tk}:=by
   intro v h' tk O j D;let⟨c,u,hc',rfl⟩:=O;let I1:aW X ao σ H {s with heap:=h',toks:=tk}:=I.turned (λb o hb e=>D b o (by simpa using hb) e) f0 f1 f3 f4 f5;let⟨o,e,c2,d2⟩:=id j;refine⟨_,rL,Jw (s:={s with heap:=h',toks:=tk}) e c2 d2 (by rcases F with rfl|rfl <;> decide) ⟨.str (S [c]),H,I1,⟨u,rL⟩,⟨rL,c,by simpa [S] using hc',rL⟩,⟨hg,j⟩,λb hb=>(Z b hb).1⟩⟩
  rcases F with rfl|rfl;.show(Walks.strAscii (prog:=X.prog) (w:=X.w) (I.ok.hd Y) it (S l) t).item i s _ _ G st.2 λv h' tk O j D=>J v h' tk O j D
  .show(Walks.strWide (prog:=X.prog) (w:=X.w) (I.ok.hd Y) it (S l) t).item i s _ _ G st.2 λv h' tk O j D=>J v h' tk O j D
 done:=by
  intro X hP hw hK Y i ao s σ H E I Z st hg;subst hP hw hK;let⟨f0,f1,f2,f3,f4,f5⟩:=Z it qk;let hi:i=(S l).cps.size:=Nat.le_antisymm st.1 hg;let j:=st.2;rw[hi]at j;rcases F with rfl|rfl
  .show(Walks.strAscii (prog:=X.prog) (w:=X.w) (I.ok.hd Y) it (S l) t).done s _ _ j λh' tk D=>⟨rL,I.turned (λb o hb e=>D b o (by simpa using hb) e) f0 f1 f3 f4 f5⟩
  .show(Walks.strWide (prog:=X.prog) (w:=X.w) (I.ok.hd Y) it (S l) t).done s _ _ j λh' tk D=>⟨rL,I.turned (λb o hb e=>D b o (by simpa using hb) e) f0 f1 f3 f4 f5⟩
 self:=λA i s Q E st h=>by
  rcases F with rfl|rfl;.show wpAny_pyIter_striter_ascii st.2 h
  .show wpAny_pyIter_striter_wide st.2 h
def aa3 {a b c:List Nat}(h1:¬b<a)(h2:¬c<b):¬c<a:=by let D:a<=b:=h1;let j:b<=c:=h2;show List.le_trans D j
theorem Ot:∀(r:List Str) (p:Str),risingS p r=true->(∀x∈r,¬x.cps.toList<p.cps.toList)/\(r.map λy=>y.cps.toList).Pairwise (λa b=>decide (b<a)=false)
 | [],_,_=>⟨λ_ h=>by simp at h,List.Pairwise.nil⟩
 | y::r,p,h=>by
  rw[risingS,cn]at h;let h0:¬y.cps.toList<p.cps.toList:=by have:=h.1;simpa [ltCps_eq] using this
  let⟨h1,h2⟩:=Ot r y h.2;refine⟨λx hx=>?_,?_⟩
  .rcases bX.mp hx with e|e;.rw[e];show h0
   .show aa3 h0 (h1 x e)
  .rw[cw];calc List.Pairwise.cons (λb hb=>?_) h2;let⟨x,hx,rfl⟩:=be.mp hb;show ag (h1 x hx)
def Dn (ss)(h:sortedS ss=true):(ss.map λy=>y.cps.toList).Pairwise (λa b=>decide (b<a)=false):=by
 cases ss with| nil=>show List.Pairwise.nil| cons x r=>let⟨h1,h2⟩:=Ot r x h;rw[cw];calc List.Pairwise.cons (λb hb=>?_) h2;let⟨y,hy,rfl⟩:=be.mp hb;show ag (h1 y hy)
section
variable {X:Cx}{tg:Expr}
def akf (tl:TE):TI:=λσ H R=>tl σ H λx H1=>∃l,x=.str (S l)/\R (Its l) H1
def rP (hl:QE X l tl):QI X tg l (akf tl):=⟨by
 intro ao s σ H R I h;calc cH (hl.out ao s σ H _ I h) λv s1 F=>?_;let⟨x,H1,j,r1,q1⟩:=F;let⟨l,e,q⟩:=q1;subst e;let⟨t,rfl⟩:=r1;calc wpAny_pyIter_strU ?_;let D:strIterType (S l)="str_ascii_iterator"\/strIterType (S l)="str_iterator":=by unfold strIterType;split <;> simp
 calc⟨s1.heap.objs.size,[s1.heap.objs.size],_,_,H1,rL,j.kept (t':=s1.toks) λb o e=>af _ e,ac0 D l t _,⟨fe _,_,bd _ rL,rL,rL⟩,λb hb=>?_,q⟩;let e:b=s1.heap.objs.size:=by simpa using hb
 subst e;show j.yV (ai _) (j.hok.fresh (ai _))⟩
def wW {l:List Nat}{D:Addr}{te:TE}{σ:St}{H:Hp}{R:Hp->Prop}(j:Nat->List V->Hp->Prop)(h0:j 0 [] (upd H D (.lst [])))(hs:∀i c ys H,l[i]?=some c->j i ys H->te (some (.str (S [c]))::σ) H (LK l.length i D ys (j (i+1))))(hd:∀ys H,j l.length ys H->R H):Dk (Its l) D H R (Za σ mL te):=acX l.length j h0 (λi ys H h p=>⟨h,λx H' y=>by let⟨rfl,c,F,rfl⟩:=y;show hs i c ys _ F p⟩) λys H p=>⟨ai _,hd ys H p⟩
def kI (hc:X.calm=true):iY X (.builtin "all") (λxs H Q=>∃(p:Addr) (bs:List Bool),xs=[.ref p]/\bH X.K H p (bs.map V.bl)/\Q (.bl (bs.all id)) H):=by
 intro ao s σ H xs us Q I r h;let⟨p,bs,rfl,hq,q⟩:=h;let⟨u,rfl,O⟩:=vals1 r;cases O;let⟨its,F,pl,hz⟩:=I.list hq;let Z:p≠s.heap.objs.size:=by let⟨o,ho,_⟩:=pl.isList;show cq (aI ho)
 let hb:∀(i:Nat) (v:Value),its[i]?=some v->v=.bool (bs.getD i true):=λi v j=>by
  let D:=F.length;let hi:i<bs.length:=by have:=(ah.mp j).1;simp at D;simp_all
  let⟨u,hu,O⟩:=F.get (i:=i) (x:=.bl bs[i]) (by simp[hi]);rw[j]at hu;cases hu;cases O;simp[List.getD,hi]
 calc call_all_walk (im pl.isList ?_);refine⟨s.heap.objs.size,_,_,_,_,_,λi=>bs.getD i true,rL,Walks.list (A:=X.A.in1) (I.ok.hd hc) s.heap.objs.size p Z its.toArray,⟨⟨_,bd _ rL,rL,rL⟩,pl.isList.at λo e=>af _ e⟩,?_,λh' tk kk=>?_⟩
 .intro i v s' Q' E' j G;let e:=hb i v (by simpa using j);subst e;show fg G
 .let I1:aW X ao σ H {s with heap:=h',toks:=tk}:=I.kept λb o e=>kk b o (by
   intro hm;have:b=s.heap.objs.size:=by simpa using hm
   subst this;show absurd (aI e) (ft _)) (af _ e)
  calc⟨.bl (bs.all id),H,I1,?_,q⟩;show Value.bool _=Value.bool _;let D:its.toArray.size=bs.length:=by have:=F.length;simp at this;simp[this]
  rw[D];congr 1;let J:∀bs:List Bool,(List.range bs.length).all (λi=>bs.getD i true)=bs.all id:=λbs=>by
   rw[ia,fq,fq];constructor
   .intro h x hx;let⟨i,hi,rfl⟩:=iA.mp hx;have:=h i (gL.mpr hi);simpa [List.getD,hi] using this
   .intro h i hi;let Y:=gL.mp hi;have:=h bs[i] (aS _);simpa [List.getD,Y] using this
  show J bs
def ac1:R2:=λx y H Q=>∃i j,x=.str (S i)/\y=.str (S j)/\Q (.bl (!decide (j<i))) H
def oN:gP X (compareOp .LtE) ac1:=by intro ao s σ H x y v u Q I D F h;let⟨i,j,rfl,rfl,q⟩:=h;let⟨t,rfl⟩:=D;let⟨t',rfl⟩:=F;show PySem.P.le_str ⟨.bl _,H,I,rL,q⟩
abbrev dD (l:List Nat):Key:=Sum.inr (S l)
def Rw (hc:X.calm=true):iY X (.builtin "sorted") (λxs H Q=>∃(d:Addr) (kvs:List (Key×V)) (ws:AB),xs=[.ref d]/\H d=some (.dK kvs)/\kvs.map (·.1)=ws.map dD/\ws.length<64/\
  ∀(p:Addr) (O:AB),H p=none->O.Perm ws->O.Pairwise (λa b=>decide (b<a)=false)->Q (.ref p) (upd H p (.lst (Ts O)))):=by
 intro ao s σ H xs us Q I r h;let⟨d,kvs,ws,rfl,hd,hk,h64,q⟩:=h;let⟨u,rfl,ru⟩:=vals1 r;cases ru;let⟨hz,lo,vs,Z,dd⟩:=Y9 I.hok hd;let⟨ep,hat⟩:=dd.dictAt;let hkv:=KV.keys Z;let J:vs.length=ws.length:=by let h1:=KV.length Z;let h2:=congrArg List.length hk;simp at h2;lia
 calc JL (W.kdu_collect (A:=X.A.in1) (W.kdl_dict (knd:=iC X.prog X.w) (kvs:=vs) (ep:=ep) lo) (I.ok.hd hc) hat (by rw[J];show av (aM qi)) λh' tk acc kk F=>?_);let hS:StrsAre acc.toList (ws.map S):=by
  let key:∀(l:List Value) (m:AB),l.length=m.length->(∀(j:Nat) v,l[j]?=some v->∃c,m[j]?=some c/\∃u,v=.str (S c) u)->StrsAre l (m.map S):=by
   intro l
   induction l with
   | nil=>intro m hl _;cases m with|nil=>show .nil|cons c r=>simp at hl
   | cons a r ih=>
    intro m hl hv;cases m with
    | nil=>simp at hl
    | cons c m=>
     let⟨c',e,u,rfl⟩:=hv 0 a rfl;let e':c=c':=by simpa using e
     subst e';show .cons _ u (ih m (by simpa using hl) λj v hj=>hv (j+1) v hj)
  calc key _ _ (by rw[fA,F.1,J]) λj v hj=>?_;let⟨k,x,hx,hi⟩:=F.2 j v (by simpa using hj);let G:(ws.map dD)[j]?=some k:=by rw[<-hk,hkv,ck,hx];rfl
  rw[ck]at G;cases hw:ws[j]? with
  | none=>rw[hw]at G;cases G
  | some c=>
   rw[hw]at G;let e:dD c=k:=by simpa using G
   subst e;calc⟨c,rL,?_⟩;rcases ji (show Al (Sum.inr (S c)) v=true from hi) with⟨i,t,e1,_⟩|⟨y,t,e1,e2⟩;.cases e1
   .cases e1;show⟨t,e2⟩
 let I1:aW X ao σ H {s with heap:=h',toks:=tk}:=I.kept kk;calc⟨_,hS,by rw[fA,F.1,J];show h64,λh2 Y D e k2 he hS' pm so=>?_⟩;let es:D=(D.map λy=>y.cps.toList).map S:=by rw[f_];calc(kP _).symm.trans (fE λy _=>?_);show(ahy y).symm
 let Ou:(D.map λy=>y.cps.toList).Perm ws:=by have:=pm.map λy:Str=>y.cps.toList;rw[f_]at this;let e:((λy:Str=>y.cps.toList) ∘ S)=id:=rfl;rw[e,kP]at this;show this
 let hv:Vals (Ts (D.map λy=>y.cps.toList)) Y:=by have:=rO hS';rw[es]at this;simpa [Ts,oC] using this
 let hl:(Ts (D.map λy=>y.cps.toList)).length<=sizeLine:=by rw[aa,Ou.length_eq];show av (aM qi)
 refine⟨.ref h'.objs.size,_,I1.laid (o:=.lst _) (t':=tk) k2 (ai _) ⟨hl,Y,e,hv,he⟩,rL,q _ _ I1.fresh Ou (Dn D so)⟩
def QI.or (h1:QI X tg iter w1)(h2:QI X tg iter w2):QI X tg iter (λσ H R=>w1 σ H R\/w2 σ H R):=⟨λao s σ H R I h=>by
 rcases h with h|h;.show h1.out ao s σ H R I h
 .show h2.out ao s σ H R I h⟩
end
def bH.keep {K:W.Frag}{xs:List V}(k:∀b o,H b=some o->b≠p->H' b=some o)(hp:∀o,H p=some o->(∀ys,o≠.lst ys)/\∀u ys,o≠.qx u (.lst ys))(h:bH K H a xs):bH K H' a xs:=by
 rcases h with(h|⟨o,h⟩)|h;.show .inl (.inl (k _ _ h λe=>(hp _ (e ▸ h)).1 _ rL))
 .show .inl (.inr ⟨o,k _ _ h λe=>(hp _ (e ▸ h)).2 _ _ rL⟩)
 .show .inr h
def aU.keep {K:W.Frag}{xs:List V}(k:∀b o,H b=some o->b≠p->H' b=some o)(hp:∀o,H p=some o->(∀ys,o≠.tup ys)/\∀u ys,o≠.qx u (.tup ys))(h:aU K H a xs):aU K H' a xs:=by
 rcases h with(h|⟨o,h⟩)|h;.show .inl (.inl (k _ _ h λe=>(hp _ (e ▸ h)).1 _ rL))
 .show .inl (.inr ⟨o,k _ _ h λe=>(hp _ (e ▸ h)).2 _ _ rL⟩)
 .show .inr h
end L2
namespace L2
open PySem PySem.Spec PyProof.Rows PySem.W
def afn:List V->Hp->VK->Prop:=λxs H Q=>∃l,xs=[.str (S l)]/\l.length<64/\∀(p:Addr) (j:List Nat),H p=none->j.Perm l->(j.map λc=>[c]).Pairwise (λa b=>decide (b<a)=false)->Q (.ref p) (upd H p (.lst (Ts (j.map λc=>[c]))))
section
variable {X:Cx}
def vB (hc:X.calm=true):iY X (.builtin "sorted") afn:=by
 intro ao s σ H xs us Q I r h;let⟨l,rfl,O,q⟩:=h;let⟨u,rfl,ru⟩:=vals1 r;let⟨t,rfl⟩:=ru;let hz:(S l).cps.size<=sizeLine:=by show l.length<=sizeLine;show av (aM qi)
 calc JL (wpAny_collect_str (A:=X.A.in1) (I.ok.hd hc) (S l) t (λs1 acc k1 k2 k3 k4 D=>?_) hz);let hS:=acZ D;calc⟨_,hS,?_,λh' F j e kk he G pm J=>?_⟩;.rw[fA,D.1];show O
 let Z:aW X ao σ H s1:=by let I5:=I.kept (h':=s1.heap) (t':=s1.toks) k1;let⟨h',g',d',t'',o'⟩:=s1;simp only at k2 k3 k4;subst k2 k3 k4;show I5
 let Y:(j.map λy=>y.cps.toList.headD 0).Perm l:=by have:=pm.map λy:Str=>y.cps.toList.headD 0;rw[f_]at this;let e:((λy:Str=>y.cps.toList.headD 0) ∘ λc=>(⟨#[c]⟩:Str))=id:=rfl;rw[e,kP,aeF]at this;show this
 let es:j=(j.map λy=>y.cps.toList.headD 0).map λc=>(⟨#[c]⟩:Str):=by rw[f_];calc(kP _).symm.trans (fE λy hy=>?_);let⟨c,_,rfl⟩:=be.mp (pm.mem_iff.mp hy);rfl
 let hn:H s1.heap.objs.size=none:=Z.fresh;let hv:Vals (Ts ((j.map λy=>y.cps.toList.headD 0).map λc=>[c])) F:=by have:=rO G;rw[es]at this;simpa [Ts,S,oC] using this
 let hl:(Ts ((j.map λy=>y.cps.toList.headD 0).map λc=>[c])).length<=sizeLine:=by rw[aa,aa,Y.length_eq];show av (aM qi)
 calc⟨.ref s1.heap.objs.size,_,Z.laid (o:=.lst _) (t':=s1.toks) kk (ai _) ⟨hl,F,e,hv,he⟩,rL,q _ _ hn Y ?_⟩;let pw:=Dn j J;rw[es,f_]at pw;show pw
end
end L2
namespace L2
open PySem PySem.Spec PyProof.Rows
section
variable {X:Cx}
def ajq (i j:Int):Prop:=0<j/\j.natAbs.log2<9000
def HN:gP X (binaryOp .FloorDiv) (rI ajq λi j=>.int (i/j)):=opI λi j _ _ _ _ _ D q=>by let e:i.fdiv j=i/j:=on _ (Int.le_of_lt D.1);rw[<-e]at q;show floordiv_int (Int.ne_of_gt D.1) q (.inl (PyProof.noPylong_of_log2 D.2))
def akg:V->List V->Hp->VK->Prop:=λx vs H Q=>∃l,x=.str (S l)/\vs=[]/\l.length<=1000/\(∀c∈l,c<128)/\Q (.str (S (l.map up1))) H
def aa4:yd X "str.upper" akg:=by
 intro ao s σ H x vs v us Q I J G h;let⟨l,rfl,rfl,hz,ha,q⟩:=h;let⟨t,rfl⟩:=J;let D:=G.zero;subst D;let j:Builtin.Str.tooLong (Txt.upper (S l)).length=false:=fit_upper (by rw[rN];lia);calc call_gives F.slot_str_upper (typeIs_str s _ t) F.entry_str_upper (F.args_str_upper_1 _) (gives_str_upper (S l) t j) ⟨fit_le j,?_⟩;let e:Txt.upper (S l)=S (l.map up1):=by rw[upper_ascii (x:=S l) ha];simp[S]
 show⟨.str (S (l.map up1)),H,I.tok _,⟨s.toks,congrArg (λz=>Value.str z s.toks) e⟩,q⟩
def akh:V->List V->Hp->VK->Prop:=λx vs H Q=>∃l,x=.str (S l)/\vs=[]/\l.length<=1000/\(∀c∈l,c<128)/\Q (.str (S (l.map lo1))) H
def Rx:yd X "str.lower" akh:=by
 intro ao s σ H x vs v us Q I J G h;let⟨l,rfl,rfl,hz,ha,q⟩:=h;let⟨t,rfl⟩:=J;let D:=G.zero;subst D;let j:Builtin.Str.tooLong (Txt.lower (S l)).length=false:=fit_lower (by rw[rN];lia);calc call_gives F.slot_str_lower (typeIs_str s _ t) F.entry_str_lower (F.args_str_lower_1 _) (gives_str_lower (S l) t j) ⟨fit_le j,?_⟩;let e:Txt.lower (S l)=S (l.map lo1):=by rw[lower_ascii (x:=S l) ha];simp[S]
 show⟨.str (S (l.map lo1)),H,I.tok _,⟨s.toks,congrArg (λz=>Value.str z s.toks) e⟩,q⟩
end
def Gd {l:List Nat}{g:TG}{tb:TS}{D:Ends}{σ:St}{H:Hp}(j:Nat->St->Hp->Prop)(h0:j 0 σ H)(hs:∀i c σ H,l[i]?=some c->j i σ H->g (.str (S [c])) σ H λσ2 F=>tb {D with nx:=j (i+1),ct:=j (i+1),bk:=D.nx} σ2 F)(hd:∀σ H,j l.length σ H->D.nx σ H):Lx (Its l) g tb D σ H:=YJ l.length j h0 (λi σ H h p=>⟨h,λx H' y=>by let⟨rfl,c,G,rfl⟩:=y;show hs i c σ _ G p⟩) λσ H p=>⟨ai _,hd σ H p⟩
def AL:List Nat:=(List.range 26).map (97 + ·)
def wJ {α:Type}{xs:List α}(hn:xs.length=n)(h:0<n)(c):∃v,qz xs (c%(n:Int))=some v/\v∈xs:=by
 let h0:0<=c%(n:Int):=dE _ qi;let h1:c%(n:Int)<n:=dP _ (Iff.mpr mT h);obtain⟨k,hk⟩:∃k:Nat,c%(n:Int)=(k:Int):=⟨(c%(n:Int)).toNat,qi⟩
 rw[hk];let hl:k<xs.length:=by simp_all
 show⟨xs[k],aQ (by simp[hl]),aS _⟩
inductive Dt where
 | non|int (i:Int)|str (l:List Nat)|tup (ds:List Dt)|lst (ds:List Dt)
mutual
def toP:Dt->PyData
 | .non=>.none
 | .int i=>.int i
 | .str l=>.str (S l)
 | .tup ds=>.tuple (nO ds)
 | .lst ds=>.list (nO ds)
def nO:List Dt->List PyData
 | []=>[]
 | d::ds=>toP d::nO ds
end
mutual
theorem Zb:∀d e:Dt,PyData.eqv (toP d) (toP e)=true↔d=e
 | .non,.non=>by simp[toP,PyData.eqv]
 | .non,.int _=>by simp[toP,PyData.eqv]
 | .non,.str _=>by simp[toP,PyData.eqv]
 | .non,.tup _=>by simp[toP,PyData.eqv]
 | .non,.lst _=>by simp[toP,PyData.eqv]
 | .int _,.non=>by simp[toP,PyData.eqv]
 | .int _,.int _=>by simp[toP,PyData.eqv]
 | .int _,.str _=>by simp[toP,PyData.eqv]
 | .int _,.tup _=>by simp[toP,PyData.eqv]
 | .int _,.lst _=>by simp[toP,PyData.eqv]
 | .str _,.non=>by simp[toP,PyData.eqv]
 | .str _,.int _=>by simp[toP,PyData.eqv]
 | .str a,.str b=>by simp only[toP,PyData.eqv,beq_iff_eq,Dt.str.injEq];show⟨yg,λz=>by rw[z]⟩
 | .str _,.tup _=>by simp[toP,PyData.eqv]
 | .str _,.lst _=>by simp[toP,PyData.eqv]
 | .tup _,.non=>by simp[toP,PyData.eqv]
 | .tup _,.int _=>by simp[toP,PyData.eqv]
 | .tup _,.str _=>by simp[toP,PyData.eqv]
 | .tup ds,.tup es=>by simp only[toP,PyData.eqv,Dt.tup.injEq];show Ry ds es
 | .tup _,.lst _=>by simp[toP,PyData.eqv]
 | .lst _,.non=>by simp[toP,PyData.eqv]
 | .lst _,.int _=>by simp[toP,PyData.eqv]
 | .lst _,.str _=>by simp[toP,PyData.eqv]
 | .lst _,.tup _=>by simp[toP,PyData.eqv]
 | .lst ds,.lst es=>by simp only[toP,PyData.eqv,Dt.lst.injEq];show Ry ds es
theorem Ry:∀ds es:List Dt,PyData.eqvAll (nO ds) (nO es)=true↔ds=es
 | [],[]=>by simp[nO,PyData.eqvAll]
 | [],_::_=>by simp[nO,PyData.eqvAll]
 | _::_,[]=>by simp[nO,PyData.eqvAll]
 | d::ds,e::es=>by simp only[nO,PyData.eqvAll,cn,List.cons.injEq];rw[Zb d e,Ry ds es]
end
open Classical in
def LR (d e:Dt):PyData.eqv (toP d) (toP e)=decide (d=e):=by
 by_cases h:d=e;.rw[al h];show(Zb d e).mpr h
 .rw[ag h];cases z:PyData.eqv (toP d) (toP e) with| false=>rfl| true=>show absurd ((Zb d e).mp z) h
mutual
inductive jC (K:W.Frag) (H:Hp):Nat->Dt->V->Prop
 | non {n}:jC K H n .non .non
 | int {n} (i:Int):jC K H n (.int i) (.int i)
 | str {n} (l:List Nat) (h:∀c∈l,c<128):jC K H n (.str l) (.str (S l))
 | tup {n a ds xs} (h:aU K H a xs) (hs:dY K H n ds xs):jC K H (n+1) (.tup ds) (.ref a)
 | lst {n a ds xs} (h:bH K H a xs) (hs:dY K H n ds xs):jC K H (n+1) (.lst ds) (.ref a)
inductive dY (K:W.Frag) (H:Hp):Nat->List Dt->List V->Prop
 | nil {n}:dY K H n [] []
 | cons {n d ds x xs} (h:jC K H n d x) (hs:dY K H n ds xs):dY K H n (d::ds) (x::xs)
end
def afo (h:∀c∈l,c<128):PyData.strOk (S l)=true:=by unfold PyData.strOk;show l.toArray.all _=true;rw[Array.all_eq_true_iff_forall_mem];intro x hx;have:=h x (by simpa using hx);show al qi
mutual
theorem jC.lay {K:W.Frag}:∀{n:Nat} {d:Dt} {x:V},jC K H n d x->(toP d).canLay0=true/\(toP d).depth<=n
 | _,_,_,.non=>by simp[toP,PyData.canLay0,PyData.depth]
 | _,_,_,.int _=>by simp[toP,PyData.canLay0,PyData.depth]
 | _,_,_,.str l h=>by simp only[toP,PyData.canLay0,PyData.depth];show⟨afo h,fe _⟩
 | _,_,_,.tup _ hs=>by simp only[toP,PyData.canLay0,PyData.depth];have:=hs.lay;show⟨this.1,gS this.2⟩
 | _,_,_,.lst _ hs=>by simp only[toP,PyData.canLay0,PyData.depth];have:=hs.lay;show⟨this.1,gS this.2⟩
theorem dY.lay {K:W.Frag}:∀{n:Nat} {ds:List Dt} {xs:List V},dY K H n ds xs->PyData.canLayAll0 (nO ds)=true/\PyData.depthAll (nO ds)<=n
 | _,_,_,.nil=>by simp[nO,PyData.canLayAll0,PyData.depthAll]
 | _,_,_,.cons h hs=>by let a:=h.lay;let b:=hs.lay;simp only[nO,PyData.canLayAll0,PyData.depthAll,cn];show⟨⟨a.1,b.1⟩,Nat.max_le.mpr ⟨a.2,b.2⟩⟩
end
mutual
theorem jC.same {K:W.Frag}(j:aD H H')(st:∀a xs,aU K H a xs->aU K H' a xs):∀{n:Nat} {d:Dt} {x:V},jC K H n d x->jC K H' n d x
 | _,_,_,.non=>.non
 | _,_,_,.int i=>.int i
 | _,_,_,.str l h=>.str l h
 | _,_,_,.tup h hs=>.tup (st _ _ h) (hs.same j st)
 | _,_,_,.lst h hs=>.lst (j.seq h) (hs.same j st)
theorem dY.same {K:W.Frag}(j:aD H H')(st:∀a xs,aU K H a xs->aU K H' a xs):∀{n:Nat} {ds:List Dt} {xs:List V},dY K H n ds xs->dY K H' n ds xs
 | _,_,_,.nil=>.nil
 | _,_,_,.cons h hs=>.cons (h.same j st) (hs.same j st)
end
section
variable {X:Cx}
mutual
theorem jC.reads {ao:AE}{σ:St}{H:Hp}{s:Shared}(I:aW X ao σ H s):∀{n:Nat} {d:Dt} {x:V} {u:Value},jC X.K H n d x->cL x u->∃as,Reads s.heap u (toP d) as
 | _,_,_,u,.non,r=>by cases r;show⟨[],by rw[toP];show .none⟩
 | _,_,_,u,.int i,r=>by let⟨t,rfl⟩:=r;show⟨[],by rw[toP];show .int i t⟩
 | _,_,_,u,.str l h,r=>by let⟨t,rfl⟩:=r;show⟨[],by rw[toP];show .str _ t⟩
 | _,_,_,u,.tup h hs,r=>by cases r;let⟨its,j,pl,_⟩:=I.tuple h;let⟨as,D⟩:=hs.reads I j;let⟨o,F,G,n,hd⟩:=pl;show⟨as,by rw[toP];show .tuple F G hd (by simpa using D)⟩
 | _,_,_,u,.lst h hs,r=>by cases r;let⟨its,j,pl,_⟩:=I.list h;let⟨as,D⟩:=hs.reads I j;let⟨o,F,G,n,hd⟩:=pl.isList;show⟨_::as,by rw[toP];show .list F G hd (by simpa using D)⟩
theorem dY.reads {ao:AE}{σ:St}{H:Hp}{s:Shared}(I:aW X ao σ H s):∀{n:Nat} {ds:List Dt} {xs:List V} {us:List Value},dY X.K H n ds xs->Vals xs us->∃as,ReadsAll s.heap us (nO ds) as
 | _,_,_,us,.nil,r=>by cases r;show⟨[],by rw[nO];show .nil⟩
 | _,_,_,us,.cons h hs,r=>by
  cases r with| cons q t=>let⟨as,a⟩:=h.reads I q;let⟨bs,b⟩:=hs.reads I t;show⟨as++bs,by rw[nO];show .cons a b⟩
end
def jC.shaped {K:W.Frag}{n:Nat}{d:Dt}{x:V}(h:jC K H n d x)(hn:n<=64):SeqAt.shaped (toP d)=true:=by unfold SeqAt.shaped;rw[h.lay.1,al (bP h.lay.2 hn)];rfl
open Classical in
def ahE (K:W.Frag)(j:Bool):R2:=λx y H Q=>∃n d e,n<=64/\jC K H n d x/\jC K H n e y/\Q (.bl (if j then !decide (d=e) else decide (d=e))) H
def zV (O:X.A.units+64<cLine):gP X (compareOp .Eq) (ahE X.K false):=by intro ao s σ H x y v u Q I J G h;let⟨n,d,e,hn,hd,j,q⟩:=h;let⟨as,F⟩:=hd.reads I J;let⟨bs,D⟩:=j.reads I G;calc SeqAt.compareEq_shaped F D (hd.shaped hn) (j.shaped hn) O ⟨.bl _,H,I,rL,?_⟩;rw[LR];show q
def Dp (O:X.A.units+64<cLine):gP X (compareOp .NotEq) (ahE X.K true):=by intro ao s σ H x y v u Q I J G h;let⟨n,d,e,hn,hd,j,q⟩:=h;let⟨as,F⟩:=hd.reads I J;let⟨bs,D⟩:=j.reads I G;calc SeqAt.compareNe_shaped F D (hd.shaped hn) (j.shaped hn) O ⟨.bl _,H,I,rL,?_⟩;rw[LR];show q
def ahF (K:W.Frag):V->List V->Hp->VK->Prop:=λx vs H Q=>∃p ls,x=.str (S [])/\vs=[.ref p]/\aU K H p (Ts ls)/\ls.flatten.length<=1000/\Q (.str (S ls.flatten)) H
def HS:yd X "str.join" (ahF X.K):=by
 intro ao s σ H x vs v us Q I D j h;let⟨p,ls,rfl,rfl,G,hz,q⟩:=h;let⟨t,rfl⟩:=D;let⟨u,rfl,F⟩:=vals1 j;cases F;let⟨its,r,pl,_⟩:=I.tuple G;refine join_tuple pl (ys:=ls.map S) (by simpa using Ga r) ?_ λt' k=>?_
 .rw[W2];show _+_*0<=_;lia
 .show⟨.str (S ls.flatten),H,I.tok k,⟨t',congrArg (λz=>Value.str z t') (W0 ls)⟩,q⟩
def Ay (lo c:Int)(n:Nat):It:=⟨λi _=>i<n,λi H x H'=>H'=H/\x=.int (lo+i*c),λi _=>n<=i⟩
def G4 {P:Program}{w:World}{K:W.Frag}{tg:Expr}(it:Addr)(lo c:Int)(n:Nat):Turn P w K tg (Ay lo c n) [it] it (λi h=>IsRangeIter h it (lo+(i:Nat)*c) ((n:Int)-(i:Nat)) c) where
 mem:=by simp
 obj:=λi h st b hb=>by
  let e:b=it:=by simpa using hb
  subst e;show⟨_,st,λv z=>by let z':Data.fields _=Data.cell v:=z;cases z'⟩
 keep:=λi h h' st k=>k it qk _ st
 item:=by intro X F hw J G i ao s σ H E I D st O;subst F hw J;let⟨f0,f1,f2,f3,f4,f5⟩:=D it qk;let W:=Walks.range (prog:=X.prog) (w:=X.w) (I.ok.hd G) it lo c n;calc W.item i s _ _ O st λv h' tk hv j Z=>?_;let⟨t,rfl⟩:=hv;let I1:aW X ao σ H {s with heap:=h',toks:=tk}:=I.turned (λb o hb e=>Z b o (by simpa using hb) e) f0 f1 f3 f4 f5;show⟨_,rL,Jw (s:={s with heap:=h',toks:=tk}) (n:="range_iterator") j rL rL qo ⟨.int (lo+i*c),H,I1,⟨t,rL⟩,⟨rL,rL⟩,j,λb hb=>(D b hb).1⟩⟩
 done:=by intro X F hw J G i ao s σ H E I D st O;subst F hw J;let⟨f0,f1,f2,f3,f4,f5⟩:=D it qk;show wpAny_pyNext_range_end (I.ok.hd G) st (by have:n<=i:=O;lia) λh' Y=>⟨rL,I.turned (t':=s.toks) (λb o hb e=>Y b o hb e) f0 f1 f3 f4 f5⟩
 self:=λ_ _ _ _ _ st h=>wpAny_pyIter_rangeiter st h
variable {tg:Expr}
def ajr (ta:TA):TI:=λσ H R=>ta σ H λvs H1=>∃r c:Nat,vs=[.int 0,.int ((r*c:Nat):Int),.int (c:Int)]/\1<=r/\r<=9/\1<=c/\c<=9/\R (Ay 0 c r) H1
def ahG:∀r c:Fin 10,1<=r.val->1<=c.val->Builtin.Range.small 0 ((r.val*c.val:Nat):Int) (c.val:Int)=true/\Builtin.Range.rangeSize 0 ((r.val*c.val:Nat):Int) (c.val:Int)=(r.val:Int):=by decide +kernel
def aa5 {a b c:Expr}{ta:TA}{p pos:Pos}(Z:Gl X "range")(hm:X.mg "range"=none)(ha:QA X [a,b,c] ta)(hs:starEach [a,b,c] X.env=[(false,eval a X.env),(false,eval b X.env),(false,eval c X.env)]:=by rfl)(j:starEach [b,c] X.env=[(false,eval b X.env),(false,eval c X.env)]:=by rfl):QI X tg (.Call (.Name "range" p) [a,b,c] [] pos) (ajr ta):=⟨by
 intro ao s σ H R I h;calc Call_ (rJ I Z hm boot_range (eW (cH (ha.out pos ao s σ H _ I h) λus s1 O=>?_) (by rw[hs,j]) (by rw[j];rfl)));let⟨vs,H1,I1,r1,q1⟩:=O;let⟨r,c,e,q1,q2,q3,q4,q⟩:=q1;subst e;cases r1 with
 | cons r1 rr=>
  cases rr with
  | cons r2 rr=>
   cases rr with
   | cons r3 rr=>
    cases rr;let⟨G,rfl⟩:=r1;let⟨F,rfl⟩:=r2;let⟨D,rfl⟩:=r3;let⟨Y,sz⟩:=ahG ⟨r,Nat.lt_succ_of_le q2⟩ ⟨c,qi⟩ q1 q3;calc call_range_3 qi ?_ (.inl (md (by simp_all;lia)));calc n5 (IsRange.new ..) Y ?_;let J:aW X ao σ H1 {s1 with heap:=s1.heap.push {cls:=.type "range",data:=.fields #[.int 0 G,.int ((r*c:Nat):Int) F,.int (c:Int) D]},toks:=s1.toks}:=I1.kept λb o e=>af _ e;refine⟨(s1.heap.push {cls:=.type "range",data:=.fields #[.int 0 G,.int ((r*c:Nat):Int) F,.int (c:Int) D]}).objs.size,[(s1.heap.push {cls:=.type "range",data:=.fields #[.int 0 G,.int ((r*c:Nat):Int) F,.int (c:Int) D]}).objs.size],_,_,H1,rL,
     J.kept (t':=s1.toks) λb o e=>af _ e,G4 _ 0 (c:Int) r,?_,λb hb=>?_,q⟩
    .let e1:(0:Int)+((0:Nat):Int)*(c:Int)=0:=qk;let e2:(r:Int)-((0:Nat):Int)=Builtin.Range.rangeSize 0 ((r*c:Nat):Int) (c:Int):=by rw[sz];simp
     show IsRangeIter _ _ ((0:Int)+((0:Nat):Int)*(c:Int)) ((r:Int)-((0:Nat):Int)) (c:Int);rw[e1,e2];show bd _ rfl
    .let e:b=(s1.heap.push {cls:=.type "range",data:=.fields #[.int 0 G,.int ((r*c:Nat):Int) F,.int (c:Int) D]}).objs.size:=by simpa using hb
     subst e;show J.yV (ai _) (J.hok.fresh (ai _))⟩
end
def Vz {lo c:Int}{n:Nat}{D:Addr}{te:TE}{σ:St}{H:Hp}{R:Hp->Prop}(I:Nat->List V->Hp->Prop)(h0:I 0 [] (upd H D (.lst [])))(hs:∀i ys H,i<n->I i ys H->te (some (.int (lo+i*c))::σ) H λy j=>j D=some (.lst ys)/\ys.length<sizeLine/\iU n i (I (i+1) (ys++[y]) (upd j D (.lst (ys++[y])))))(hd:∀ys H,I n ys H->R H):∃W:Nat->Nat->List V->Hp->Prop,(∃m,W 0 m [] (upd H D (.lst [])))/\
   ∀i m ys H,W i m ys H->((Ay lo c n).stop i H/\R H)\/((Ay lo c n).go i H/\∀x H',(Ay lo c n).Jv i H x H'->mL (some x::σ) H' λb J=>
    if b=true then te (some x::σ) J λy j=>j D=some (.lst ys)/\ys.length<sizeLine/\∃G,G<m/\W (i+1) G (ys++[y]) (upd j D (.lst (ys++[y])))
    else ∃G,G<m/\W (i+1) G ys J):=by
 calc⟨λi m ys H=>m=n-i/\i<=n/\I i ys H,⟨n,qk,fe _,h0⟩,?_⟩;intro i m ys H z;let⟨rfl,hi,p⟩:=z;by_cases F:i<n
 .calc .inr ⟨F,λx H' y=>?_⟩;let⟨e,y⟩:=y;subst e y;show hs i ys H' F p
 .let e:i=n:=qi;subst e;show .inl ⟨ai _,hd ys H p⟩
def qX {K:W.Frag}{a D:Addr}{xs:List V}{te:TE}{σ:St}{H:Hp}{R:Hp->Prop}(j:Nat->List V->Hp->Prop)(h0:j 0 [] (upd H D (.lst [])))(hl:∀i ys H,i<=xs.length->j i ys H->aU K H a xs)(hs:∀i x ys H,xs[i]?=some x->j i ys H->te (some x::σ) H (LK xs.length i D ys (j (i+1))))(hd:∀ys H,j xs.length ys H->R H):Dk (Itt K a) D H R (Za σ mL te):=QH j h0 hl hs hd
section
variable {X:Cx}{x:Str}{pos:Pos}
def uJ (j:Gl X x)(hm:∃t,X.mg x=some (.str (S l) t))(hd:(x==("__debug__":Str))=false:=by decide):QE X (.Name x pos) (tC (.str (S l))):=let ⟨t,e⟩:=hm;zU j e ⟨t,rL⟩ hd
def Ze (j:Gl X x)(hm:∃t,X.mg x=some (.int i t))(hd:(x==("__debug__":Str))=false:=by decide):QE X (.Name x pos) (tC (.int i)):=let ⟨t,e⟩:=hm;zU j e ⟨t,rL⟩ hd
def Rz (j:QE X o to)(hi:QE X i ti)(hs:acE X t)(ha:∀v,assign (.Subscript o i pos) X.env v=(do
   let ov <- holding [v] (eval o X.env)
   let iv <- holding [v,ov] (eval i X.env)
   standAt pos
   holding [v,ov,iv] (setItem ov iv v)
   release [v,ov,iv] []):=by intro _;rfl):QG X (.Subscript o i pos) (ag1 to ti t):=⟨ag2 j.out hi.out hs ha⟩
end
def jT:bootBuiltins "all"=some (.builtin "all"):=by decide +kernel
def Ov:bootBuiltins "any"=some (.builtin "any"):=by decide +kernel
def RB {K:W.Frag}(X:K.In h)(G:h.Ns mainGlobals mg)(a:W.nsIn K mainGlobals x=some (some (.str (S l) t))):∃t,mg x=some (.str (S l) t):=⟨t,dv X G a⟩
def RD {K:W.Frag}(X:K.In h)(G:h.Ns mainGlobals mg)(a:W.nsIn K mainGlobals x=some (some (.int i t))):∃t,mg x=some (.int i t):=⟨t,dv X G a⟩
section
variable {X:Cx}
def ac2 (K:W.Frag)  (h:X.K=K:=by rfl):GZ X (ahl K):=by subst h;show cW
def rm (K:W.Frag)  (h:X.K=K:=by rfl):GZ X (ahm K):=by subst h;show bD
def ac3 (K:W.Frag)  (h:X.K=K:=by rfl):WL X (ahp K):=by subst h;show tY
def RG (K:W.Frag)  (h:X.K=K:=by rfl):iY X (.builtin "isinstance") (aeH K):=by subst h;show gM
def HW (K:W.Frag)  (h:X.K=K:=by rfl):yd X "str.join" (rJoin K):=by subst h;show qZ
def RJ {name:Str}{apos cpos:Pos}{T id:String}(K:W.Frag)(J:PlainAttrs T)(slot:Slot T name id)(I:typeOf (.builtin id)=pure (.type "method_descriptor"))(hm:yd X id r)(O:QE X o to)(ha:QA X (e::es) t)(D:attributeBase o name X.env (eval o X.env)=eval o X.env:=by rfl)(G:((backTo cpos (starEach (e::es) X.env)).all (λx=>!x.1)&&(backToKw cpos (keywordEach [] X.env)).all (λx=>x.1.isSome)
   && decide ((e::es).length+([]:List Keyword).length+(if ([]:List Keyword).isEmpty then 0 else 1)<30))=true:=by rfl) (F:(apos.endLine==cpos.line)=true:=by rfl) (hs:starEach (e::es) X.env=(false,eval e X.env)::starEach es X.env:=by rfl) (j:(backTo cpos (starEach es X.env)).any (·.1)=false:=by rfl) (h:X.K=K:=by rfl):QE X (.Call (.Attribute o name apos) (e::es) [] cpos) (tBM K T r to t):=by subst h;show gC J slot I hm O ha D G F hs j
end
def jN (l:List Nat):List Nat:=l.takeWhile λc=>c != 46
def i_ (l:List Nat):List Nat:=(l.reverse.takeWhile λc=>c != 46).reverse
theorem HX:∀{l:List Nat} {i:Nat},l[i]?=some 46->(∀k,k<i->l[k]?≠some 46)->jN l=l.take i
 | [],i,h,_=>by simp at h
 | c::l,0,h,_=>by
  have:c=46:=by simpa using h
  subst this;simp[jN]
 | c::l,i+1,h,hk=>by let F:c≠46:=λe=>hk 0 qi (by simp[e]);let D:=HX (l:=l) (i:=i) (by simpa using h) (λk j=>by have:=hk (k+1) (Nat.succ_lt_succ j);simpa using this);unfold jN at D ⊢;rw[ot (by simpa using F),D,List.take_succ_cons]
def Ow (h:46∉l):jN l=l:=by
 unfold jN
 induction l with| nil=>rfl| cons c r ih=>have j:c≠46:=λe=>h (by rw[e];show cv);rw[ot (by simpa using j),ih λz=>h (bz _ z)]
def aa6 (h:46∉l):i_ l=l:=by have:=Ow (l:=l.reverse) (by simpa using h);unfold jN at this;unfold i_;rw[this,List.reverse_reverse]
def ac4 (h:l[i]?=some 46)(j:∀k,i<k->l[k]?≠some 46):i_ l=l.drop (i+1):=by
 let hi:i<l.length:=(ah.mp h).1;let e:jN l.reverse=l.reverse.take (l.length-(i+1)):=by
  refine HX ?_ λk D=>?_
  .rw[List.getElem?_reverse (Nat.sub_lt_left_of_lt_add qi qi),show l.length-1-(l.length-(i+1))=i by lia];show h
  .rw[List.getElem?_reverse (by simp[Nat.sub_le_iff_le_add,Nat.lt_sub_iff_add_lt]at *;lia)];show j _ (by simp[Nat.sub_le_iff_le_add,Nat.lt_sub_iff_add_lt]at *;lia)
 unfold jN at e;unfold i_;rw[e,List.take_reverse,List.reverse_reverse,show l.length-(l.length-(i+1))=i+1 by rw[Nat.sub_sub_self (by assumption)]]
def aa7 (l:List Nat)(n:Nat):iM l none (some (n:Int))=l.take n:=by
 unfold iM;rw[HT.jX];show (l.drop 0).take (min n l.length-0)=_;rw[ko,Nat.sub_zero];by_cases h:n<=l.length;.rw[fF h]
 .rw[kG qi,ce (ai _),ce qi]
def RK (l:List Nat)(n:Nat):iM l (some (n:Int)) none=l.drop n:=by
 unfold iM;rw[HT.jX];show (l.drop (min n l.length)).take (l.length-min n l.length)=_;rw[ce (by rw[ba];lia)];by_cases h:n<=l.length;.rw[fF h]
 .rw[kG qi,hJ (ai _),hJ qi]
def aeI (l)(i j):Builtin.Str.strSub (S l) i j=S ((l.take j).drop i):=by unfold Builtin.Str.strSub S;congr 1;apply pE.mp;simp[List.drop_take]
section
variable {X:Cx}
def aa8 (l):(Txt.partition (S l) (S [46])).1=S (jN l):=by
 rcases partition_head (S l) (S [46]) with⟨e,h⟩|⟨i,e,h,D⟩
 .rw[e,Ow λhm=>?_];let⟨i,hi⟩:=List.mem_iff_getElem?.mp hm;show h i ((ip (S l) 46 i).mpr hi)
 .rw[e,aeI,ko,HX (l:=l) ((ip (S l) 46 i).mp h) λk j z=>D k j ((ip (S l) 46 k).mpr z)]
def Zf (l):(Txt.rpartition (S l) (S [46])).2.2=S (i_ l):=by
 unfold Txt.rpartition;rcases StrLaws.last_spec (S l) (S [46]) with⟨e,h⟩|⟨i,e,h,D⟩
 .rw[e];show S l=_;rw[aa6 λhm=>?_];let⟨i,hi⟩:=List.mem_iff_getElem?.mp hm;show h i ((ip (S l) 46 i).mpr hi)
 .rw[e];show Builtin.Str.strSub (S l) (i+1) l.length=_;rw[aeI,ce (ai _),ac4 (l:=l) ((ip (S l) 46 i).mp h) λk j z=>D k j ((ip (S l) 46 k).mpr z)]
def ajs:V->List V->Hp->VK->Prop:=λx vs H Q=>∃l,x=.str (S l)/\vs=[.str (S [46])]/\l.length<=1000/\∀(p:Addr) (b c:Str),H p=none->Q (.ref p) (upd H p (.tup [.str (S (jN l)),.str b,.str c]))
def afp:yd X "str.partition" ajs:=by
 intro ao s σ H x vs v us Q I J D h;let⟨l,rfl,rfl,hz,q⟩:=h;let⟨t,rfl⟩:=J;let⟨u,rfl,O⟩:=vals1 D;let⟨G,rfl⟩:=O;let hsz:(S l).length<=sizeLine:=av (aM hz);calc call_meets F.slot_str_partition (typeIs_str _ _ _) F.entry_str_partition (F.args_str_partition_2 _ _) (meets_str_partition (S l) (S [46]) t G rL hsz) ?_;let e:=aa8 l;let j:=λb c=>q s.heap.objs.size b c (I.hok.fresh (ai _));rw[<-e]at j;unfold Txt.partition at j
 revert j
 cases Builtin.Str.occurrences (S l) (S [46]) 0 (S l).length 1 with| nil=>intro j;calc⟨.ref s.heap.objs.size,_,I.laid (o:=.tup _) (t':=s.toks+1) (λb ob z=>af _ z) (ai _) ?_,rL,j Str.empty Str.empty⟩;show⟨zsz 3,_,.cons ⟨_,rL⟩ (.cons ⟨_,rL⟩ (.cons ⟨_,rL⟩ .nil)),⟨_,bd _ rL,rL,0,rL⟩⟩| cons i r=>intro j;calc⟨.ref s.heap.objs.size,_,I.laid (o:=.tup _) (t':=s.toks+1+1) (λb ob z=>af _ z) (ai _) ?_,rL,j (S [46]) (Builtin.Str.strSub (S l) (i+(S [46]).length) (S l).length)⟩;show⟨zsz 3,_,.cons ⟨_,rL⟩ (.cons ⟨_,rL⟩ (.cons ⟨_,rL⟩ .nil)),⟨_,bd _ rL,rL,0,rL⟩⟩
def ahH:V->List V->Hp->VK->Prop:=λx vs H Q=>∃l,x=.str (S l)/\vs=[.str (S [46])]/\l.length<=1000/\∀(p:Addr) (a b:Str),H p=none->Q (.ref p) (upd H p (.tup [.str a,.str b,.str (S (i_ l))]))
def ac5:yd X "str.rpartition" ahH:=by
 intro ao s σ H x vs v us Q I J D h;let⟨l,rfl,rfl,hz,q⟩:=h;let⟨t,rfl⟩:=J;let⟨u,rfl,O⟩:=vals1 D;let⟨G,rfl⟩:=O;let hsz:(S l).length<=sizeLine:=av (aM hz);calc call_meets F.slot_str_rpartition (typeIs_str _ _ _) F.entry_str_rpartition (F.args_str_rpartition_2 _ _) (meets_str_rpartition (S l) (S [46]) t G rL hsz) ?_;let e:=Zf l;let j:=λb c=>q s.heap.objs.size b c (I.hok.fresh (ai _));rw[<-e]at j;unfold Txt.rpartition at j
 revert j
 cases Builtin.Str.lastOccurrence (S l) (S [46]) 0 (S l).length with| none=>intro j;calc⟨.ref s.heap.objs.size,_,I.laid (o:=.tup _) (t':=s.toks+1) (λb ob z=>af _ z) (ai _) ?_,rL,j Str.empty Str.empty⟩;show⟨zsz 3,_,.cons ⟨_,rL⟩ (.cons ⟨_,rL⟩ (.cons ⟨_,rL⟩ .nil)),⟨_,bd _ rL,rL,0,rL⟩⟩| some i=>intro j;calc⟨.ref s.heap.objs.size,_,I.laid (o:=.tup _) (t':=s.toks+1+1) (λb ob z=>af _ z) (ai _) ?_,rL,j (Builtin.Str.strSub (S l) 0 i) (S [46])⟩;show⟨zsz 3,_,.cons ⟨_,rL⟩ (.cons ⟨_,rL⟩ (.cons ⟨_,rL⟩ .nil)),⟨_,bd _ rL,rL,0,rL⟩⟩
end
def ac6 {X:Cx}{j iter tg:Expr}{ns N2:List Str}{f:St->St}{TP:V->Hp->(St->Prop)->Prop}{ifs:List Expr}{scope:Scope}{wi:TI}(G:X.calm=true)(ok:jY X scope ns N2 f)(hi:PI X tg iter wi)(O:∀cl C s₀ H₀ fp,Oo (ig X scope cl C (ns++N2) s₀ H₀ fp) tg ns.length TP)(ht:∀cl C s₀ H₀ fp,WX (ig X scope cl C (ns++N2) s₀ H₀ fp) ifs tt)(J:∀cl C s₀ H₀ fp,PE (ig X scope cl C (ns++N2) s₀ H₀ fp) j te)(hs:∀x,foldedSetIterable iter X.env x=pure x:=by intro _;rfl):PE X (.ListComp j [⟨tg,iter,ifs,0⟩] scope pos) (Dl f ns.length wi TP tt te):=λao s σ H Q I h=>by rw[eval_ListComp];show Dm G ok hi O ht J hs I h λD C Y Z m hn bk _ q=>⟨m,hn,λh' F=>⟨.ref D,Y,bk h' F,rL,q⟩⟩
def j6 (j:List Nat):Nat->St->St
 | _,[]=>[]
 | i,v::r=>(if j.contains i=true then none else v)::j6 j (i+1) r
theorem Ox (ks):∀(i:Nat) (σ:St),(j6 ks i σ).length=σ.length
 | _,[]=>rfl
 | i,_::r=>by rw[j6,eh,eh,Ox ks (i+1) r]
theorem Oz (ks):∀(i:Nat) (σ:St) (j:Nat) (v:V),(j6 ks i σ)[j]?=some (some v)->ks.contains (i+j)=false/\σ[j]?=some (some v)
 | _,[],j,v,h=>by simp[j6]at h
 | i,x::r,0,v,h=>by
  rw[j6]at h;cases e:ks.contains i with| true=>rw[e]at h;simp at h| false=>rw[e]at h;show⟨by first|rfl|show e,by simpa using h⟩
 | i,x::r,j+1,v,h=>by rw[j6,List.getElem?_cons_succ]at h;let⟨a,b⟩:=Oz ks (i+1) r j v h;show⟨by rw[show i+(j+1)=i+1+j by lia];show a,by rw[List.getElem?_cons_succ];show b⟩
noncomputable def ahI (sc:Scope)(N:List Str)(scope:Scope)(N2:List Str)(j:List Nat):Bool:=scope.kind == .function&&scope.names.all (λy=>y.2 != .cell)&&scope.names.all (λy=>y.2 != .local||scope.names.lookup y.1==some .local) &&
 scope.names.all (λy=>y.2 != .free||sc.names.lookup y.1==some .cell||sc.names.lookup y.1==some .free)&&N2.length==N.length &&
 (List.range N.length).all (λi=>j.contains i||(N2[i]? == N[i]? && (N[i]?.map λy=>scope.names.lookup y != some .local)==some true))
def jY.of {X:Cx}(N2)(ks)(h:ahI X.env.scope X.N scope N2 ks=true):jY X scope ns N2 (j6 ks 0):=by
 unfold ahI at h;simp only[cn,fq,qa,bne_iff_ne,beq_iff_eq,ne_eq]at h;obtain⟨⟨⟨⟨⟨h1,h2⟩,h3⟩,h5⟩,j⟩,h7⟩:=h;refine⟨h1,λy hy=>h2 y hy,λy hy e=>(h3 y hy).resolve_left λz=>z e,λy hy e=>?_,Ox ks 0,j,λσ i y v e1 e2=>?_⟩
 .rcases h5 y hy with(z|z)|z;.show absurd e z
  .show .inl z
  .show .inr z
 .let⟨a,b⟩:=Oz ks 0 σ i v e2;rw[Nat.zero_add]at a;let hi:i<X.N.length:=by rw[<-j];show(ah.mp e1).1
  rcases h7 i (gL.mpr hi) with z|⟨F,D⟩;.rw[a]at z;cases z
  .rw[<-F,e1]at D;rw[F]at e1;show⟨e1,b,by simpa using D⟩
def afq {X:Cx}{scope:Scope}{N:List Str}(K:W.Frag)(J:X.calm=true)(F:N.Nodup)(h0:N[0]?=some x)(h1:N[1]?=some y)(hx:scope.names.lookup x=some .local)(hy:scope.names.lookup y=some .local)(Y:X.K=K:=by rfl):Oo (ig X scope cl C N s₀ H₀ fp) (.Tuple [.Name x px,.Name y py] k pos) 2 (λv H Q=>∃a p q,v=.ref a/\aU K H a [p,q]/\Q [some p,some q]):=by
 subst Y;intro ao s pre rest H v u Q hp I r q;let⟨a,p,j,rfl,O,q⟩:=q;obtain⟨D,p1,rfl⟩:∃D p1,pre=[D,p1]:=by
  match pre,hp with| [D,p1],_=>show⟨D,p1,rL⟩
 let P:PG (ig X scope cl C N s₀ H₀ fp) (.Tuple [.Name x px,.Name y py] k pos) (YF X.K 2 (Ao (rK 0) (Ao (rK 1) YD))):=Rj (X:=ig X scope cl C N s₀ H₀ fp) J (tV (tU (i:=0) F h0 (.inl (lookup_relabel_local hx)) (.inr (lookup_relabel_local hx))) (tV (tU (i:=1) F h1 (.inl (lookup_relabel_local hy)) (.inr (lookup_relabel_local hy))) Lr));refine cH (P ao s _ H (.ref a) u (λσ' H'=>H'=H/\σ'=some p::some j::rest) I r
  ⟨a,[p,j],rL,O,rL,p,[j],rL,j,[],rL,rL,rL,rL⟩) λ_ s' ⟨σ',H',G,e1,e2⟩=>?_
 subst e1 e2;show⟨[some p,some j],rL,G,q⟩
def pQ {X:Cx}{scope:Scope}{N:List Str}(K:W.Frag)(O:X.calm=true)(G:N.Nodup)(h0:N[0]?=some x)(h1:N[1]?=some y)(h2:N[2]?=some z)(hx:scope.names.lookup x=some .local)(hy:scope.names.lookup y=some .local)(hz:scope.names.lookup z=some .local)(Z:X.K=K:=by rfl):Oo (ig X scope cl C N s₀ H₀ fp) (.Tuple [.Name x px,.Name y py,.Name z pz] k pos) 3 (λv H Q=>∃a p q r,v=.ref a/\aU K H a [p,q,r]/\Q [some p,some q,some r]):=by
 subst Z;intro ao s pre rest H v u Q hp I r q;let⟨a,p,D,j,rfl,Y,q⟩:=q;obtain⟨F,p1,p2,rfl⟩:∃F p1 p2,pre=[F,p1,p2]:=by
  match pre,hp with| [F,p1,p2],_=>show⟨F,p1,p2,rL⟩
 let P:PG (ig X scope cl C N s₀ H₀ fp) (.Tuple [.Name x px,.Name y py,.Name z pz] k pos) (YF X.K 3 (Ao (rK 0) (Ao (rK 1) (Ao (rK 2) YD)))):=Rj (X:=ig X scope cl C N s₀ H₀ fp) O (tV (tU (i:=0) G h0 (.inl (lookup_relabel_local hx)) (.inr (lookup_relabel_local hx))) (tV (tU (i:=1) G h1 (.inl (lookup_relabel_local hy)) (.inr (lookup_relabel_local hy))) (tV (tU (i:=2) G h2 (.inl (lookup_relabel_local hz)) (.inr (lookup_relabel_local hz))) Lr)));refine cH (P ao s _ H (.ref a) u (λσ' H'=>H'=H/\σ'=some p::some D::some j::rest) I r
  ⟨a,[p,D,j],rL,Y,rL,p,[D,j],rL,D,[j],rL,j,[],rL,rL,rL,rL⟩) λ_ s' ⟨σ',H',J,e1,e2⟩=>?_
 subst e1 e2;show⟨[some p,some D,some j],rL,J,q⟩
def mQ {X:Cx}{j iter tg:Expr}{ns N2:List Str}{f:St->St}{TP:V->Hp->(St->Prop)->Prop}{ifs:List Expr}{scope:Scope}{wi:TI}(D:X.calm=true)(ok:jY X scope ns N2 f)(hi:QI X tg iter wi)(G:∀cl C s₀ H₀ fp,Oo (ig X scope cl C (ns++N2) s₀ H₀ fp) tg ns.length TP)(ht:∀cl C s₀ H₀ fp,QTs (ig X scope cl C (ns++N2) s₀ H₀ fp) ifs tt)(F:∀cl C s₀ H₀ fp,QE (ig X scope cl C (ns++N2) s₀ H₀ fp) j te)(hs:∀x,foldedSetIterable iter X.env x=pure x:=by intro _;rfl):QE X (.ListComp j [⟨tg,iter,ifs,0⟩] scope pos) (Dl f ns.length wi TP tt te):=⟨ac6 D ok hi.out G (λcl C s₀ H₀ fp=>(ht cl C s₀ H₀ fp).out) (λcl C s₀ H₀ fp=>(F cl C s₀ H₀ fp).out) hs⟩
def QM (n i:Nat)(D:Addr)(TP:V->Hp->(St->Prop)->Prop)(f:St->St)(σ:St)(tt:TT)(te:TE)(x:V)(H:Hp)(ys:List V)(P:List V->Hp->Prop):Prop:=TgB TP f σ tt te x H (LK n i D ys P) λj=>iU n i (P ys j)
noncomputable def JM {K:W.Frag}{a:Addr}{f:St->St}{σ:St}{tt:TT}{te:TE}:=@QH (λH=>aU K H a) (TgB (λv _ Q=>Q [some v]) f σ tt te)
noncomputable def lq {K KT:W.Frag}{a:Addr}{f:St->St}{σ:St}{tt:TT}{te:TE}:=@QH (λH=>aU K H a) (TgB (λv H Q=>∃a p q r,v=.ref a/\aU KT H a [p,q,r]/\Q [some p,some q,some r]) f σ tt te)
def aeJ (h:te ([some x]++f σ) H λy j=>j D=some (.lst ys)/\ys.length<sizeLine/\iU n i (P (ys++[y]) (upd j D (.lst (ys++[y]))))):QM n i D (λv _ Q=>Q [some v]) f σ mL te x H ys P:=by show (if true=true then (te ([some x]++f σ) H λy j=>j D=some (.lst ys)/\ys.length<sizeLine/\iU n i (P (ys++[y]) (upd j D (.lst (ys++[y]))))) else iU n i (P ys H));rw[if_pos rfl];show h
def ajt {KT:W.Frag}{n i:Nat}{p q:V}{f:St->St}{x:V}{ys:List V}{P:List V->Hp->Prop}(hx:x=.ref a)(F:aU KT H a [p,q])(h:te ([some p,some q]++f σ) H λy j=>j D=some (.lst ys)/\ys.length<sizeLine/\iU n i (P (ys++[y]) (upd j D (.lst (ys++[y]))))):QM n i D (λv H Q=>∃a p q,v=.ref a/\aU KT H a [p,q]/\Q [some p,some q]) f σ mL te x H ys P:=by calc⟨a,p,q,hx,F,?_⟩;show (if true=true then (te ([some p,some q]++f σ) H λy j=>j D=some (.lst ys)/\ys.length<sizeLine/\iU n i (P (ys++[y]) (upd j D (.lst (ys++[y]))))) else iU n i (P ys H));rw[if_pos rfl];show h
def vV {KT:W.Frag}{n i:Nat}{p q r:V}{f:St->St}{x:V}{ys:List V}{P:List V->Hp->Prop}(hx:x=.ref a)(F:aU KT H a [p,q,r])(h:te ([some p,some q,some r]++f σ) H λy j=>j D=some (.lst ys)/\ys.length<sizeLine/\iU n i (P (ys++[y]) (upd j D (.lst (ys++[y]))))):QM n i D (λv H Q=>∃a p q r,v=.ref a/\aU KT H a [p,q,r]/\Q [some p,some q,some r]) f σ mL te x H ys P:=by calc⟨a,p,q,r,hx,F,?_⟩;show (if true=true then (te ([some p,some q,some r]++f σ) H λy j=>j D=some (.lst ys)/\ys.length<sizeLine/\iU n i (P (ys++[y]) (upd j D (.lst (ys++[y]))))) else iU n i (P ys H));rw[if_pos rfl];show h
section
variable {X:Cx}
def afr:V->List V->Hp->VK->Prop:=λx vs H Q=>∃(l:Addr) (us:AB) (w:List Nat),x=.ref l/\vs=[.str (S w)]/\H l=some (.lst (Ts us))/\w∈us/\us.length<=1000/\Q .non (upd H l (.lst (Ts (us.erase w))))
def strEq (w:List Nat)(u:Value):Bool:=match u with| .str z _=>z.cps.toList==w| _=>false
def aa9 {us:AB}:us.erase w=us.eraseIdx (us.idxOf w):=by
 induction us with
 | nil=>rfl
 | cons a r ih=>
  by_cases h:a=w;.subst h;simp
  .rw[List.erase_cons_tail (by simpa using h),List.idxOf_cons,cond_eq_ite,if_neg (by simpa using h),jb,ih]
def yj:MtM X "list.remove" afr:=by
 intro ao s σ H x vs v us Q I rx Y h;let⟨l,ls,w,rfl,rfl,G,hw,hz,q⟩:=h;cases rx;let⟨u,rfl,ru⟩:=Y.one;let⟨t,rfl⟩:=ru;let⟨z,its,n,r,hl,e⟩:=I.Di G;let J:its.length=ls.length:=by rw[<-hl,aa]
 let hj:ls.idxOf w<ls.length:=List.idxOf_lt_length_of_mem hw;let get:∀(m:Nat) (hm:m<its.toArray.size),∃(tk:Tok) (j:m<ls.length),its.toArray[m]=.str (S ls[m]) tk:=λm hm=>by
  let j:m<ls.length:=by simp at hm;simp_all
  let⟨u1,e1,s1⟩:=r.get (i:=m) (x:=.str (S ls[m])) (by simp[j]);let⟨tk,rfl⟩:=s1;calc⟨tk,j,?_⟩;rw[ac hm]at e1;simpa using e1
 refine call_meets F.slot_list_remove ⟨_,e,rL⟩ F.entry_list_remove (F.args_list_remove_2 _ _) (PySem.MeetsSeq.list_remove l its.toArray n (.str (S w) t) (strEq w) (λy hy=>?_) (ls.idxOf w) (by rw[a_];simp_all) ?_ (λm hm D=>?_) (by rw[a_,J];show av (aM hz))) ⟨e,?_⟩
 .let⟨m,hm,rfl⟩:=Array.mem_iff_getElem.mp hy;let⟨tk,_,e1⟩:=get m hm;rw[e1];show PySem.SeqRoads2.EqGives.str _ _ _ _
 .let⟨tk,j,e1⟩:=get (ls.idxOf w) (by rw[a_];lia);rw[e1];show (ls[ls.idxOf w]==w)=true;rw[List.getElem_idxOf];simp
 .let⟨tk,j,e1⟩:=get m hm;rw[e1];show (ls[m]==w)=false;have:=List.not_of_lt_findIdx (p:=λa=>a==w) (xs:=ls) (show m<ls.findIdx (λa=>a==w) from D);simpa using this
 .refine⟨.non,_,I.Y8 (its':=its.eraseIdx (ls.idxOf w)) G e ?_ ?_ ?_,rL,q⟩
  .rw[Array.eraseIdxIfInBounds,dif_pos (by rw[a_];lia)];simp
  .rw[aa9];let Z:=Vals.eraseIdx (ls.idxOf w) r;let O:∀(xs:AB) (i:Nat),Ts (xs.eraseIdx i)=(Ts xs).eraseIdx i:=by
    intro xs
    induction xs with
    | nil=>intro i;rfl
    | cons a r ih=>
     intro i;cases i with| zero=>rfl| succ i=>rw[jb,Ts,cw,Ts,cw,jb];congr 1;show ih i
   rw[O];show Z
  .rw[aa];show bP (List.length_erase_le ..) (av (aM hz))
def ahJ (K:W.Frag):List V->Hp->VK->Prop:=λxs H Q=>∃(a:Addr) (ws:AB),xs=[.ref a]/\bH K H a (Ts ws)/\ws.length<64/\∀(p:Addr) (j:AB),H p=none->j.Perm ws->j.Pairwise (λa b=>decide (b<a)=false)->Q (.ref p) (upd H p (.lst (Ts j)))
def Dq:iY X (.builtin "sorted") (ahJ X.K):=by
 intro ao s σ H xs us Q I r h;let⟨a,ws,rfl,F,Z,q⟩:=h;let⟨u,rfl,J⟩:=vals1 r;cases J;let⟨its,D,pl,_⟩:=I.list F;let dB:its.length=ws.length:=by have:=D.length;simpa using this.symm
 calc sorted_strs pl.isList (Ga D) (by simp_all) λout j a1 a2 a3=>?_;let⟨e,Y⟩:=sortedAll_at s.heap its out;let O:(j.map λy=>y.cps.toList).Perm ws:=by have:=a2.map λy:Str=>y.cps.toList;rw[f_]at this;let e:((λy:Str=>y.cps.toList) ∘ S)=id:=rfl;rw[e,kP]at this;show this
 let G:Vals (Ts (j.map λy=>y.cps.toList)) out.toList:=by
  have:=rO a1;let es:(j.map V.str)=Ts (j.map λy=>y.cps.toList):=by rw[Ts,f_];show fE λy _=>by simp[oC,ahy]
  rw[es]at this;show this
 let hl:(Ts (j.map λy=>y.cps.toList)).length<=sizeLine:=by rw[aa,O.length_eq];show av (aM qi)
 refine⟨.ref (s.heap.objs.size+1),_,I.laid (o:=.lst _) (t':=s.toks) (λb o z=>sortedAll_old z) (gX _) ⟨hl,out.toList,e,G,by rw[Array.toArray_toList];show Y⟩,rL,q _ _ (I.hok.fresh (gX _)) O (Dn j a3)⟩
def aki (t:TS):TS:=λD σ H=>∃I:St->Hp->Prop,t {D with nx:=I} σ H/\∀σ' H',I σ' H'->D.nx σ' H'
def gK {st:Stmt}(h:QS X st t):QS X st (aki t):=⟨λao s σ H D I ⟨J,a,b⟩=>by
 calc cH (h.out ao s σ H _ I a) λf s' q=>?_;cases f with
 | next=>let⟨σ7,j,F,G⟩:=q;show⟨σ7,j,F,b _ _ G⟩
 | cont=>show q
 | brk=>show q
 | ret v=>show q⟩
end
end L2
namespace L2
open PySem PySem.Spec PyProof.Rows PySem.W
section
variable {prog:Program}{w:World}{A:Around}{E:AD}{s:Shared}
variable {X:Cx}
open Classical in
theorem W4 (d:Dt):∀es:List Dt,((nO es).any λy=>PyData.eqv y (toP d))=decide (d∈es)
 | []=>by simp[nO]
 | e::es=>by
  rw[nO,kN,W4 d es,LR];by_cases z:e=d;.subst z;simp
  .let z':¬d=e:=λy=>z y.symm
   simp[z,z']
def ahK {a b:Addr}{I ob:Obj}{na nb:Nat}{x1 D G j:Nat}{Z O J t4:Tok}{r1 Y:List Value}{Q:AD}(ha:s.heap.get? a=some I)(ca:I.cls=.type "tuple")(da:I.data=.seq (Value.int x1 Z::Value.int D O::r1).toArray na)(hb:s.heap.get? b=some ob)(cb:ob.cls=.type "tuple")(db:ob.data=.seq (Value.int G J::Value.int j t4::Y).toArray nb)(l1:D<1000)(l2:j<1000)(hu:A.units<cLine)(hne:x1*1000+D≠G*1000+j)(q:Q (.bool (decide (x1*1000+D<G*1000+j))) s):wpAny (model prog w) A (compareOp .Lt (.ref a) (.ref b)) Q E s:=by
 let Ta:s.TypeIs (.ref a) "tuple":=⟨I,ha,ca⟩
 let Tb:s.TypeIs (.ref b) "tuple":=⟨ob,hb,cb⟩
 show wpAny _ _ (richCompare .Lt (.ref a) (.ref b)) Q E s;calc wpAny_richCompare_same_room (op:=.Lt) (T:="tuple") Ta Tb ny (gT ny Ta F.entry_tuple_lt ?_ (F.args_tuple_lt_2 _ _)) hu;show wpAny _ _ (isInstance (.ref b) (.type "tuple") >>= _) _ _ s;calc ae (wpAny_isInstance Tb isSubtype_tuple_tuple ?_);simp only[mo,fR,if_false];calc ae (lp ha da (ae (lp hb db (ae ?_))));rw[show (Value.int (x1:Int) Z::Value.int (D:Int) O::r1).toArray.toList.zip (Value.int (G:Int) J::Value.int (j:Int) t4::Y).toArray.toList=(Value.int (x1:Int) Z,Value.int (G:Int) J)::(Value.int (D:Int) O,Value.int (j:Int) t4)::r1.zip Y from rfl];rw[gt];calc ae ?_;dsimp only;calc ae (jv _ _ _ _ prog w _ _ ?_);by_cases ex:x1=G
 .subst ex;simp only[beq_self_eq_true,mo,fR,if_false];calc aw ?_;dsimp only;rw[gt];calc ae ?_;dsimp only;calc ae (jv _ _ _ _ prog w _ _ ?_);let ey:((D:Int)==(j:Int))=false:=by
   apply beq_eq_false_iff_ne.mpr;intro z;show hne qi
  simp only[ey,Bool.not_false,if_true];calc ae (oQ (ae (lt_int ?_)));calc ae (aw (aw (aw (aw ⟨_,rL,qk,?_⟩))));rw[show decide ((D:Int)<(j:Int))=decide (x1*1000+D<x1*1000+j) by simp];show q
 .let ey:((x1:Int)==(G:Int))=false:=by
   apply beq_eq_false_iff_ne.mpr;intro z;show ex qi
  simp only[ey,Bool.not_false,if_true];calc ae (oQ (ae (lt_int ?_)));calc ae (aw (aw (aw (aw ⟨_,rL,qk,?_⟩))));rw[show decide ((x1:Int)<(G:Int))=decide (x1*1000+D<G*1000+j) by
    by_cases z:x1<G;.rw[al (Iff.mpr mT z),al qi]
    .rw[ag (by simp[*]),ag qi]]
  show q
def akj:R2:=λx y H Q=>∃(a b:Addr) (x1 D F j:Nat) (r1 G:List V),x=.ref a/\y=.ref b/\H a=some (.tup (.int x1 :: .int D::r1))/\H b=some (.tup (.int F :: .int j::G))/\D<1000/\j<1000/\x1*1000+D≠F*1000+j/\
 Q (.bl (decide (x1*1000+D<F*1000+j))) H
def ahL (hu:X.A.units<cLine):gP X (compareOp .Lt) akj:=by
 intro ao s σ H x y v u Q I rx Z h;let⟨a,b,x1,y1,x2,y2,r1,r2,rfl,rfl,ea,Y,l1,l2,O,q⟩:=h;cases rx;cases Z;let⟨_,tv,D,o,ho,hc,n,hd⟩:=I.hok _ _ ea;let⟨_,tv',J,o',G,j,n',F⟩:=I.hok _ _ Y;cases D with
 | cons q1 rr=>
  cases rr with
  | cons q2 rr=>
   cases J with
   | cons q3 rr'=>
    cases rr' with| cons q4 rr'=>let⟨t1,rfl⟩:=q1;let⟨t2,rfl⟩:=q2;let⟨t3,rfl⟩:=q3;let⟨t4,rfl⟩:=q4;show ahK ho hc hd G j F l1 l2 hu O ⟨.bl _,H,I,rL,q⟩
structure aa_ (K:W.Frag)(C:Addr):Prop where
 ha:W.findIn K (.ref C) "__class__"=some (some (.builtin "object.__class__"))
 hn:W.specialIn K (.builtin "object.__class__") "__get__"=some (some (.builtin "getset_descriptor.__get__"))
 ht:W.takesIn K (.builtin "object.__class__")=some true
 hm:W.mroIn K C (.type "object")=some true
 ki:W.kitOne K (.ref C) (.ref C)=some true
def ahM (K:W.Frag):List V->Hp->VK->Prop:=λxs H Q=>∃x C t b,xs=[x,.ref C]/\mJ K H x t/\W.kitOne K t (.ref C)=some b/\Q (.bl b) H
def RL:iY X (.builtin "isinstance") (ahM X.K):=by intro ao s σ H xs us Q I r h;let⟨x,n,t,b,rfl,ty,k,q⟩:=h;let⟨u,D,rfl,r1,j⟩:=vals2 r;cases j;show Od I r1 ty k λtk=>⟨.bl b,H,I.tok tk,rL,q⟩
def ahN:List V->Hp->VK->Prop:=λxs H Q=>∃l:List Nat,xs=[.str (S l)]/\l.length<=1000/\∀p,H p=none->Q (.ref p) (upd H p (.lst (Ts (l.map λc=>[c]))))
theorem OD:∀(l:List Nat) (us:List Value),us.length=l.length->(∀(i c:Nat),l[i]?=some c->∃t,us[i]?=some (.str (S [c]) t))->Vals (Ts (l.map λc=>[c])) us
 | [],[],_,_=>.nil
 | [],_::_,h,_=>by simp at h
 | _::_,[],h,_=>by simp at h
 | c::l,u::us,h,k=>by let⟨t,e⟩:=k 0 c rfl;let e:u=.str (S [c]) t:=bo e;show .cons ⟨t,e⟩ (OD l us (by simpa using h) λi d hd=>k (i+1) d hd)
def oh (F:X.calm=true):iY X (.type "list") ahN:=by
 intro ao s σ H xs us Q I r h;let⟨l,rfl,hl,q⟩:=h;let⟨u,rfl,O⟩:=vals1 r;let⟨t,rfl⟩:=O;let hz:l.length<=sizeLine:=av (aM hl);calc call_list_str (I.ok.hd F) (S l) t (λh' tk j Y G Z D=>?_) (by show l.toArray.size<=_;simpa using hz);let hsz:j.size=l.length:=by rw[D.1];show l.toArray.size=_;simp
 calc⟨.ref s.heap.objs.size,_,I.laid (o:=.lst (Ts (l.map λc=>[c]))) (t':=tk) G (ai _) ⟨by rw[aa,aa];show hz,j.toList,Y,?_,by simpa using Z⟩,rL,q _ (I.hok.fresh (ai _))⟩;calc OD l j.toList (by rw[fA];show hsz) λi c F=>?_;let hi:i<j.size:=by rw[hsz];show(ah.mp F).1
 let⟨c2,J,e1,e2⟩:=D.2 i j[i] (by simp[hi]);let e1:l.toArray[i]?=some c2:=e1;rw[List.getElem?_toArray,F]at e1;let e1:=bo e1;show⟨J,by rw[Array.getElem?_toList,oS hi,e2,e1];rfl⟩
end
end L2
namespace L2
open PySem PySem.Spec PyProof.Rows
def afs {X:Cx}{ix:Nat}{F:Str}{O j:Pos}{G iter tg:Expr}{ns N2:List Str}{f:St->St}{TP:V->Hp->(St->Prop)->Prop}{ifs:List Expr}{scope:Scope}{pos:Pos}{wi:TI}{tt:TT}{te:TE}(hN:X.N.Nodup)(hxi:X.N[ix]?=some F)(hxl:Loc X.env.scope F)(hc:X.calm=true)(ok:jY X scope ns N2 f)(hi:PI X tg iter wi)(hg:∀cl C s₀ H₀ fp,Oo (ig X scope cl C (ns++N2) s₀ H₀ fp) tg ns.length TP)(ht:∀cl C s₀ H₀ fp,WX (ig X scope cl C (ns++N2) s₀ H₀ fp) ifs tt)(he:∀cl C s₀ H₀ fp,PE (ig X scope cl C (ns++N2) s₀ H₀ fp) G te)(hs:∀x,foldedSetIterable iter X.env x=pure x:=by intro _;rfl)(hsw:swapsWith (.ListComp G [⟨tg,iter,ifs,0⟩] scope pos) (some (.Name F O)) j.line X.env=pure true:=by rfl)(hf:X.fn F=true\/X.env.scope.names.lookup F=some .local:=by first|show .inl rfl|show .inr rfl|assumption):PS X (.Assign [.Name F O] (.ListComp G [⟨tg,iter,ifs,0⟩] scope pos) j) (Lw (Dl f ns.length wi TP tt te) (rK ix)):=λao s σ H De I h=>by
 rw[exec_Assign_Name_used _ _ _ _ hsw];calc ae (mn (ae (ae ?_)));calc cH (Q:=λ_ s'=>∃σ' H',aW X ao σ' H' s'/\De.nx σ' H') ?_ λ_ s' hq=>aw (aw hq);calc Dm (use:=some (assign (.Name F O) X.env)) hc ok hi hg ht he hs I h λD C H4 s5 m hn bk J qn=>?_;calc wpAny_assign_Name (N6 (bk s5.heap (Heap.SameBut.refl _ _)) hN hxi hxl (show cL (.ref D) (.ref D) from rL) (λs6 I6 ⟨a,Z,ha⟩ _=>?_) hf);let Y:C≠a:=by
  rcases ha with z|z;.rw[z];show J.2.1
  .show λy=>J.2.2.2.2.1 _ _ z y.symm
 let⟨o,es,ep,e1,e2⟩:=hn;refine⟨m,⟨o,es,ep,(Z.2 C Y).trans e1,e2⟩,λh' sb=>⟨_,H4,I6.turned (t':=s6.toks) (λb o hb e=>(sb.2 b hb).trans e) J.1 J.2.1 J.2.2.2.1 J.2.2.2.2.1 J.2.2.2.2.2,qn⟩⟩
def W5 {X:Cx}{ix:Nat}{F:Str}{O j:Pos}{D iter tg:Expr}{ns N2:List Str}{f:St->St}{TP:V->Hp->(St->Prop)->Prop}{ifs:List Expr}{scope:Scope}{pos:Pos}{wi:TI}{tt:TT}{te:TE}(Z:X.N.Nodup)(I:X.N[ix]?=some F)(J:Loc X.env.scope F)(hc:X.calm=true)(ok:jY X scope ns N2 f)(hi:QI X tg iter wi)(hg:∀cl C s₀ H₀ fp,Oo (ig X scope cl C (ns++N2) s₀ H₀ fp) tg ns.length TP)(ht:∀cl C s₀ H₀ fp,QTs (ig X scope cl C (ns++N2) s₀ H₀ fp) ifs tt)(he:∀cl C s₀ H₀ fp,QE (ig X scope cl C (ns++N2) s₀ H₀ fp) D te)(hs:∀x,foldedSetIterable iter X.env x=pure x:=by intro _;rfl)(G:swapsWith (.ListComp D [⟨tg,iter,ifs,0⟩] scope pos) (some (.Name F O)) j.line X.env=pure true:=by rfl)(Y:X.fn F=true\/X.env.scope.names.lookup F=some .local:=by first|show .inl rfl|show .inr rfl|assumption):QS X (.Assign [.Name F O] (.ListComp D [⟨tg,iter,ifs,0⟩] scope pos) j) (Lw (Dl f ns.length wi TP tt te) (rK ix)):=⟨afs Z I J hc ok hi.out hg (λa b c d e=>(ht a b c d e).out) (λa b c d e=>(he a b c d e).out) hs G Y⟩
section
variable {X:Cx}
def aft:V->List V->Hp->VK->Prop:=λx vs H Q=>∃l w,x=.str (S l)/\vs=[.str (S w)]/\∀n:Nat,Q (.int n) H
def abb:yd X "str.count" aft:=by intro ao s σ H x vs v us Q I D j h;let⟨l,w,rfl,rfl,q⟩:=h;let⟨t,rfl⟩:=D;let⟨u,rfl,G⟩:=j.one;let⟨t',rfl⟩:=G;calc call_gives F.slot_str_count (typeIs_str s _ t) F.entry_str_count (F.args_str_count_2 _ _) (gives_str_count (S l) (S w) t t') ?_;show EP X ao σ Q _ _;show⟨.int (Builtin.Str.occurrences (S l) (S w) 0 (S l).length ((S l).length+1)).length,H,I.tok _,⟨s.toks,rL⟩,q _⟩
end
end L2
namespace L2
open PySem PySem.Spec PyProof.Rows PySem.W
open AutoSeq1 (wpAny_loadPart')
section
variable {X:Cx}{ao:AE}{σ:St}{H:Hp}{s:Shared}{h':Heap}
def aW.Ma {t':Nat}{fp:List Addr}(I:aW X ao σ H s)(k:∀b o,b∉fp->s.heap.get? b=some o->h'.get? b=some o)(F:∀b∈fp,vA X ao H b):aW X ao σ H {s with heap:=h',toks:=t' }:=by
 let D:∀b u,H b=some u->b∉fp:=λb u e z=>by rw[(F b z).1]at e;cases e
 refine I.step (g':=s.gens) (d':=s.drawn) (ch:=fp) (λb hb=>?_) (λb o _ _ j e _=>k b o j e) (λb o _ _ j e _=>⟨o.slots,k b o j e⟩) (λ_ _ _ _ n=>n)
  (λb o j e=>⟨o,k b o j e⟩) (λ_ _ e=>e) (λ_ _ _ e=>e) (λb ps e=>⟨#[],by rw[e];simp⟩) (λm hm=>?_) (λb u e=>?_) I.bare
 .let⟨f0,f1,f2,f3,f4,f5⟩:=F b hb;show⟨f3,f1,f4,f5⟩
 .let⟨o,es,ep,G,r⟩:=hm;show⟨o,es,ep,k _ o (λz=>(F _ z).2.1 rL) G,r⟩
 .refine(I.hok b u e).stay (λc v j q=>k c v ?_ q) (λ_ q=>q) λ_ _ q=>q
  rcases j with z|z;.rw[z];show D b u e
  .show D c _ z
def aW.pair {e it:Addr}{i tk:Nat}{x:V}{u:Value}{h1 h2:Heap}(I:aW X ao σ H s)(F:∀b∈[e,it],vA X ao H b)(le:e<s.heap.objs.size)(li:it<s.heap.objs.size)(Z:cL x u)(J:h1.get? s.heap.objs.size=some {cls:=.type "tuple",data:=.seq #[.int i tk,u]})(G:∀b o,b≠e->b≠it->s.heap.get? b=some o->h1.get? b=some o)(hs:Heap.SameBut e h1 h2):aW X ao σ (upd H s.heap.objs.size (.tup [.int i,x])) {s with heap:=h2,toks:=tk+1}/\∀b∈[e,it],upd H s.heap.objs.size (.tup [.int i,x]) b=none:=by
 let Y:aW X ao σ (upd H s.heap.objs.size (.tup [.int i,x])) {s with heap:=s.heap.push {cls:=.type "tuple",data:=.seq #[.int i tk,u]},toks:=tk+1}:=I.laid (λb v e=>af _ e) (ai _) ⟨zsz 2,[.int i tk,u],.cons ⟨tk,rL⟩ (.cons Z .nil),⟨_,bd _ rL,rL,_,rL⟩⟩
 let ne:∀b∈[e,it],b≠s.heap.objs.size:=λb hb=>by
  rcases bX.mp hb with z|z;.rw[z];show cq le
  .rw[bc.mp z];show cq li
 let fr:∀b∈[e,it],upd H s.heap.objs.size (.tup [.int i,x]) b=none:=λb hb=>by rw[aZ (ne b hb)];show(F b hb).1
 let I3:=aW.Ma (s:={s with heap:=s.heap.push {cls:=.type "tuple",data:=.seq #[.int i tk,u]},toks:=tk+1}) (h':=h2) (fp:=[e,it]) (t':=tk+1) Y (λb o hb g=>?_) λb hb=>?_
 .show⟨I3,fr⟩
 .let j:b≠e:=λz=>hb (by simp[z])
  let D:b≠it:=λz=>hb (by simp[z]);rw[hs.2 b j];rcases Heap.get?_push_cases g with⟨z1,O⟩|z
  .rw[z1,O];show J
  .show G b o j D z
 .let⟨f0,f1,f2,f3,f4,f5⟩:=F b hb;show⟨fr b hb,f1,f2,f3,f4,f5⟩
end
def RM (l:List Nat):It:=⟨λi _=>i<l.length,λi H v H'=>∃T c,H T=none/\v=.ref T/\l[i]?=some c/\H'=upd H T (.tup [.int i,.str (S [c])]),λi _=>l.length<=i⟩
section
variable {prog:Program}{w:World}{A:Around}{E:AD}{s:Shared}
def VB {it:Addr}{fp:List Addr}{n:Nat}{I:Nat->Value->Prop}{St:Nat->Heap->Prop}(D:Draws prog w A it fp n I St)(k:Nat):Draws prog w A it fp (k+n) (λj v=>∃i,j=k+i/\I i v) (λj h=>∃i,j=k+i/\St i h) where
 live:=λj h ⟨i,_,st⟩=>D.live i h st
 frame:=λj h h' ⟨i,e,st⟩ J=>⟨i,e,D.frame i h h' st J⟩
 item:=λj s Q E Z ⟨i,e,st⟩ O=>by subst e;show D.item i s Q E (by simp_all) st λv h' tk hp G F=>O v h' tk ⟨i,rL,hp⟩ ⟨i+1,rL,G⟩ F
 done:=λs Q E ⟨i,e,st⟩ Y=>by
  have:i=n:=by lia
  subst this;show D.done s Q E st Y
end
def Zg (l:List Nat)(k:Nat):It:=⟨λi _=>i<l.length,λi H v H'=>∃T c,H T=none/\v=.ref T/\l[i]?=some c/\H'=upd H T (.tup [.int ((k+i:Nat):Int),.str (S [c])]),λi _=>l.length<=i⟩
def Zh {P:Program}{w:World}{K:W.Frag}{elts:List Expr}{x1}{pos:Pos}{ty:String}(hty:ty="str_ascii_iterator"\/ty="str_iterator")(l:List Nat)(k:Nat)(t:Tok)(it e:Addr):Turn P w K (.Tuple elts x1 pos) (Zg l k) [e,it] e (λi h=>e≠it/\i<=l.length/\(∃j,IsEnum h e it ((k+i:Nat):Int) j)/\h.IsStrIter it ty (S l) t i) where
 mem:=by simp
 obj:=λi h st b hb=>by
  obtain⟨_,_,⟨j,G⟩,o,O,_,hd⟩:=st;rcases bX.mp hb with z|z;.show⟨_,by rw[z];show G,λv y=>by cases y⟩
  .show⟨o,by rw[bc.mp z];show O,λv y=>by rw[hd]at y;cases y⟩
 keep:=λi h h' st k=>by obtain⟨n,le,⟨j,G⟩,o,O,r⟩:=st;show⟨n,le,⟨j,k e qk _ G⟩,o,k it qk o O,r⟩
 item:=by
  intro X J hw hK hc i ao s σ H E I hf st hg;subst J hw hK;obtain⟨ne,le,⟨j,G⟩,hs⟩:=st;let Z:X.A.in1.handled=none:=by simp[I.ok.hd hc]
  let hg':k+i<k+(S l).cps.size:=Nat.add_lt_add_left hg k;let fin:∀(D:Draws X.prog X.w X.A.in1 it [it] (S l).cps.size (λi v=>∃c u,(S l).cps[i]?=some c/\v=.str ⟨#[c]⟩ u) (λi h=>h.IsStrIter it ty (S l) t i)),
    wpAny (model X.prog X.w) X.A (pyNext (.ref e)) (λr s1=>∃u,r=some u/\wpAny (model X.prog X.w) X.A (letOwnedTupleGo (.Tuple elts x1 pos) (.ref e) u) (λ_ s2=>∃x H',aW X ao σ H' s2/\cL x u/\(Zg l k).Jv i H x H'/\(e≠it/\i+1<=l.length/\(∃j,IsEnum s2.heap e it ((k+(i+1):Nat):Int) j)/\s2.heap.IsStrIter it ty (S l) t (i+1))/\∀b∈[e,it],H' b=none) E s1) E s:=by
   intro D;calc wpAny_pyNext_enum_itemD (VB D k) G ⟨i,rL,hs⟩ hg' ne (by simp[ne]) λx h' tk J O F hT hsz hk=>?_;let⟨i',ei,c,u,hc',rfl⟩:=J;let⟨i'',ei2,F⟩:=F;obtain rfl:i'=i:=by lia
   obtain rfl:i''=i'+1:=by lia
   calc⟨_,rL,wpAny_letOwnedTupleGo_enum O λh2 he2 Y=>?_⟩;let⟨o,ho2,r2⟩:=F;let⟨oi,hoi,_⟩:=id hs;let⟨I3,fr⟩:=aW.pair (i:=k+i') (x:=.str (S [c])) I hf (aI G) (aI hoi) ⟨u,rL⟩ hT hk Y;refine⟨.ref s.heap.objs.size,_,I3,rL,⟨s.heap.objs.size,c,I.hok.fresh (ai _),rL,by simpa [S] using hc',rL⟩,⟨ne,hg,⟨_,by simpa [Int.add_assoc] using he2⟩,o,(Y.2 it (gu ne)).trans ho2,r2⟩,fr⟩
  rcases hty with rfl|rfl;.show fin (Draws.strAscii Z it (S l) t)
  .show fin (Draws.strWide Z it (S l) t)
 done:=by
  intro X J hw hK hc i ao s σ H E I hf st hg;subst J hw hK;obtain⟨ne,le,⟨j,G⟩,hs⟩:=st;let Z:X.A.in1.handled=none:=by simp[I.ok.hd hc]
  let hi:i=(S l).cps.size:=Nat.le_antisymm le hg;let F:=hs;rw[hi]at F;let⟨f0,f1,f2,f3,f4,f5⟩:=hf it qk;rcases hty with rfl|rfl
  .show wpAny_pyNext_enum_endD (Draws.strAscii Z it (S l) t) G F λh' eb=>⟨rL,I.turned (t':=s.toks) (λb o hb e=>eb b o hb e) f0 f1 f3 f4 f5⟩
  .show wpAny_pyNext_enum_endD (Draws.strWide Z it (S l) t) G F λh' eb=>⟨rL,I.turned (t':=s.toks) (λb o hb e=>eb b o hb e) f0 f1 f3 f4 f5⟩
 self:=λA i s Q E st h=>by obtain⟨_,_,⟨j,G⟩,_⟩:=st;show wpAny_pyIter_enum G h
def Zi {K:W.Frag}{elts:List Expr}{x1}{ty:String}(D:ty="str_ascii_iterator"\/ty="str_iterator")(l:List Nat)(t:Tok)(it e:Addr):Turn P w K (.Tuple elts x1 pos) (RM l) [e,it] e (λi h=>e≠it/\i<=l.length/\(∃j,IsEnum h e it i j)/\h.IsStrIter it ty (S l) t i):=by
 let h:=Zh (P:=P) (w:=w) (K:=K) (elts:=elts) (x1:=x1) (pos:=pos) D l 0 t it e;let e1:Zg l 0=RM l:=by unfold Zg RM;simp only[Nat.zero_add]
 simp only[Nat.zero_add]at h;rw[e1]at h;show h
section
variable {X:Cx}{elts:List Expr}{x1:Nat}{tp:Pos}
def ahO (ta:TA):TI:=λσ H R=>ta σ H λvs H1=>∃l,vs=[.str (S l)]/\R (RM l) H1
def ac8 (Y:Gl X "enumerate")(hm:X.mg "enumerate"=none)(ha:QA X [a] ta)(hs:starEach [a] X.env=[(false,eval a X.env)]:=by rfl):QI X (.Tuple elts x1 tp) (.Call (.Name "enumerate" p) [a] [] pos) (ahO ta):=⟨by
 intro ao s σ H R I h;calc Call_ (rJ I Y hm boot_enumerate (eW (cH (ha.out pos ao s σ H _ I h) λus s1 O=>?_) hs rL));let⟨vs,H1,j,r1,q1⟩:=O;let⟨l,e,q⟩:=q1;subst e;cases r1 with
 | cons r rr=>
  cases rr;let⟨t,rfl⟩:=r;let F:strIterType (S l)="str_ascii_iterator"\/strIterType (S l)="str_iterator":=by unfold strIterType;split <;> simp
  calc call_enumerate_str λh' G D hsz J=>wpAny_pyIter_enum G ?_;calc⟨s1.heap.objs.size+1,[s1.heap.objs.size+1,s1.heap.objs.size],_,_,H1,rL,j.kept (t':=s1.toks) J,Zi F l t s1.heap.objs.size _,⟨Nat.succ_ne_self _,fe _,⟨_,G⟩,D⟩,λb hb=>?_,q⟩;rcases bX.mp hb with z|z
  .rw[z];show j.yV (gX _) (j.hok.fresh (gX _))
  .rw[bc.mp z];show j.yV (ai _) (j.hok.fresh (ai _))⟩
def RN (hc:X.calm=true):iY X (.builtin "any") (λxs H Q=>∃(p:Addr) (bs:List Bool),xs=[.ref p]/\bH X.K H p (bs.map V.bl)/\Q (.bl (bs.any id)) H):=by
 intro ao s σ H xs us Q I r h;let⟨p,bs,rfl,hq,q⟩:=h;let⟨u,rfl,O⟩:=vals1 r;cases O;let⟨its,F,pl,hz⟩:=I.list hq;let Z:p≠s.heap.objs.size:=by let⟨o,ho,_⟩:=pl.isList;show cq (aI ho)
 let hb:∀(i:Nat) (v:Value),its[i]?=some v->v=.bool (bs.getD i false):=λi v j=>by
  let D:=F.length;let hi:i<bs.length:=by have:=(ah.mp j).1;simp at D;simp_all
  let⟨u,hu,O⟩:=F.get (i:=i) (x:=.bl bs[i]) (by simp[hi]);rw[j]at hu;cases hu;cases O;simp[List.getD,hi]
 calc call_any_walk (im pl.isList ?_);refine⟨s.heap.objs.size,_,_,_,_,_,λi=>bs.getD i false,rL,Walks.list (A:=X.A.in1) (I.ok.hd hc) s.heap.objs.size p Z its.toArray,⟨⟨_,bd _ rL,rL,rL⟩,pl.isList.at λo e=>af _ e⟩,?_,λh' tk kk=>?_⟩
 .intro i v s' Q' E' j G;let e:=hb i v (by simpa using j);subst e;show fg G
 .let I1:aW X ao σ H {s with heap:=h',toks:=tk}:=I.kept λb o e=>kk b o (by
   intro hm;have:b=s.heap.objs.size:=by simpa using hm
   subst this;show absurd (aI e) (ft _)) (af _ e)
  calc⟨.bl (bs.any id),H,I1,?_,q⟩;show Value.bool _=Value.bool _;let D:its.toArray.size=bs.length:=by have:=F.length;simp at this;simp[this]
  rw[D];congr 1;let J:∀bs:List Bool,(List.range bs.length).any (λi=>bs.getD i false)=bs.any id:=λbs=>by
   rw[ia,List.any_eq_true,List.any_eq_true];constructor
   .intro z;let⟨i,hi,h⟩:=z;let Y:=gL.mp hi;show⟨bs[i],aS _,by simpa [List.getD,Y] using h⟩
   .intro z;let⟨x,hx,h⟩:=z;let⟨i,hi,rfl⟩:=iA.mp hx;show⟨i,gL.mpr hi,by simpa [List.getD,hi] using h⟩
  show J bs
end
structure ZA (z ti to u v a b:Addr):Prop where
 q1:ti≠z
 q2:to≠z
 q3:u≠z
 q4:v≠z
 q5:ti≠to
 q6:ti≠u
 q7:ti≠v
 q8:to≠u
 q9:to≠v
 p1:u≠v
 p2:a≠z
 p3:a≠to
 p4:a≠u
 p5:a≠v
 p6:b≠z
 p7:b≠to
 p8:b≠u
 p9:b≠v
section
variable {X:Cx}{ao:AE}{σ:St}{H:Hp}{s:Shared}
def aW.aju {fp:List Addr}{tk:Nat}{x y:V}{p q:Value}{h2:Heap}(I:aW X ao σ H s)(j:∀b∈fp,vA X ao H b)(lt:∀b∈fp,b<s.heap.objs.size)(Z:cL x p)(G:cL y q)(F:h2.get? s.heap.objs.size=some {cls:=.type "tuple",data:=.seq #[p,q]})(D:∀b o,b∉fp->s.heap.get? b=some o->h2.get? b=some o):aW X ao σ (upd H s.heap.objs.size (.tup [x,y])) {s with heap:=h2,toks:=tk}/\∀b∈fp,upd H s.heap.objs.size (.tup [x,y]) b=none:=by
 let O:aW X ao σ (upd H s.heap.objs.size (.tup [x,y])) {s with heap:=s.heap.push {cls:=.type "tuple",data:=.seq #[p,q]},toks:=tk}:=I.laid (λb v e=>af _ e) (ai _) ⟨zsz 2,[p,q],.cons Z (.cons G .nil),⟨_,bd _ rL,rL,_,rL⟩⟩
 let fr:∀b∈fp,upd H s.heap.objs.size (.tup [x,y]) b=none:=λb hb=>by rw[aZ (cq (lt b hb))];show(j b hb).1
 let I3:=aW.Ma (s:={s with heap:=s.heap.push {cls:=.type "tuple",data:=.seq #[p,q]},toks:=tk}) (h':=h2) (fp:=fp) (t':=tk) O (λb o hb g=>?_) λb hb=>?_
 .show⟨I3,fr⟩
 .rcases Heap.get?_push_cases g with⟨Y,J⟩|z;.rw[Y,J];show F
  .show D b o hb z
 .let⟨f0,f1,f2,f3,f4,f5⟩:=j b hb;show⟨fr b hb,f1,f2,f3,f4,f5⟩
def abd:bootBuiltins "zip"=some (.type "zip"):=by decide +kernel
end
structure wX (B:Heap)(l:List Env)(e:Addr)(cls:Value)(dd:Option Addr)(fl:Value)(h:Heap):Prop where
 stays:B.StaysIn h
 new:B.get? e=none
 frames:h.FunFrames B l
 tr:∃oe vs T oT ts,h.get? e=some oe/\oe.cls=cls/\oe.dict=dd/\oe.data=.fields vs/\vs[1]?=some (.ref T)/\vs[2]?=some .none/\B.get? T=none/\T≠e/\h.get? T=some oT/\oT.data=.fields ts/\ts[3]?=some fl
def wX.outer (x:wX B (env::l) e cls dd fl h):wX B l e cls dd fl h:=⟨x.stays,x.new,x.frames.2.2,x.tr⟩
def OJ (o:Obj)(f):(o.mapFields f).dict=o.dict:=by let⟨c,d,j,sl⟩:=o;cases j <;> rfl
section
variable {M:Model}{A:Around}{E:AD}{s:Shared}{B:Heap}{env:Env}{outer l:List Env}{L e:Addr}{oe:Obj}{vs:Array Value}{head cls fl:Value}{dd:Option Addr}{hadNext:Bool}{Q:Unit->Shared->Prop}
def JN (J:A.frames=some (env::outer))(hl:s.heap.FunFrames B (env::outer))(hf:env.frame=some L)(Y:s.heap.get? e=some oe)(kb:B.StaysIn s.heap)(en:B.get? e=none)(hd:oe.data=.fields vs)(hz:1<vs.size)(h2:vs[2]?=some .none)(h:∀h',wX B (env::outer) e oe.cls oe.dict (rawInt L) h'->s.heap.UpToSlots h'->Q () {s with heap:=h' }):wpAny M A (do let a <- frameOf env;let pl <- entryPlaceOf L hadNext;let b <- EntryCells.newEntry head a .none (rawInt L) .none pl;setField (.ref e) 1 b) Q E s:=by
 let out:e∉(env::outer).filterMap (·.frame):=λz=>by let⟨_,u,hu,j⟩:=hl.mem z;rw[Y]at hu;cases hu;show j vs hd
 calc ae (wpAny_frameOf_fun J hl hf λg G=>ae (wpAny_entryPlaceOf λpl D=>?_));unfold EntryCells.newEntry newFields;calc ae (gv ?_ (D.sizeOk5 _ _ _ _ _));generalize hO:({cls:=.type "traceback",dict:=none,data:=.fields ([head,.ref L,.none,rawInt L,.none]++(if pl.isEmpty then List.replicate 6 Value.none else pl)).toArray}:Obj)=O;let I:∃ts,O.data=.fields ts/\ts[3]?=some (rawInt L):=⟨_,by rw[<-hO],by first|(simp;done)|(rcases D with rfl|⟨_,_,_,_,_,_,_,rfl⟩ <;> simp)⟩
 let ge:g.get? e=some oe:=(G.2.1 e out).trans Y;let gB:B.StaysIn g:=λb o q=>(G.2.1 b λz=>by rw[(hl.mem z).1]at q;cases q).trans (kb b o q);let Te:g.objs.size≠e:=kn (aI ge);let Z:(g.push O).get? e=some oe:=af O ge;let⟨ts,F,h3⟩:=I;let pT:(g.push O).get? g.objs.size=some O:=bd g (kq F);let mv:∀b o,b≠e->g.get? b=some o->((g.push O).update e (Obj.mapFields (·.setIfInBounds 1 (Value.ref g.objs.size)))).get? b=some o:=λb o nb q=>(fz _ _ (gu nb)).trans (af O q)
 let nr:∀b o,s.heap.get? b=some o->(∀vs,o.data≠.fields vs)->b≠e:=λb o q j z=>by rw[z,Y]at q;cases q;show j vs hd
 refine nX Z hd hz (h _ ⟨λb o q=>mv b o (λz=>by rw[z,en]at q;cases q) (gB b o q),en,hl.of_keeps λb o q j=>?_,?_⟩ λb o q j=>?_)
 .let⟨sl,z⟩:=G.2.2 b o q;show⟨_,mv b _ (nr b o q j) z,rL⟩
 .let dd:=og hd (·.setIfInBounds 1 (Value.ref g.objs.size));refine⟨_,_,g.objs.size,O,ts,ie _ Z (kq dd),Obj.cls_mapFields _ _,OJ _ _,dd,by simp[hz],by rw[iS qo];show h2,gB.fresh,Te,(fz _ _ (gu Te)).trans pT,F,h3⟩
 .let⟨sl,z⟩:=G.2.2 b o q;show⟨sl,mv b _ (nr b o q j) z⟩
def vW (x:wX B l e cls dd fl s.heap)(h:∀h',wX B l e cls dd .none h'->s.heap.UpToSlots h'->Q () {s with heap:=h' }):wpAny M A (setFlight (.ref e) none) Q E s:=by
 let⟨st,en,fr,oe,vs,T,oT,ts,Z,hc,G,hd,h1,h2,J,O,F,j,h3⟩:=x;let Y:3<ts.size:=(gc.mp h3).1;let mv:∀b,b≠T->(s.heap.update T (Obj.mapFields (·.setIfInBounds 3 ((none:Option Addr).elim Value.none λf=>rawInt f)))).get? b=s.heap.get? b:=λb nb=>fz _ _ (gu nb);let nr:∀b o,s.heap.get? b=some o->(∀vs,o.data≠.fields vs)->b≠T:=λb o q D z=>by rw[z,F]at q;cases q;show D ts j
 unfold setFlight;calc ae (fm Z hd h1 ?_);rw[if_pos (show (Value.ref T != Value.none)=true by simp)];calc nX F j Y (h _ ⟨λb o q=>(mv b λz=>by rw[z,J]at q;cases q).trans (st b o q),en,fr.of_keeps λb o q D=>⟨o,(mv b (nr b o q D)).trans q,rL⟩,?_⟩ λb o q D=>⟨o.slots,(mv b (nr b o q D)).trans q⟩);let I:=og j (·.setIfInBounds 3 ((none:Option Addr).elim Value.none λf=>rawInt f));show⟨oe,vs,T,_,_,(mv e (gu O)).trans Z,hc,G,hd,h1,h2,J,O,ie _ F (kq I),I,by simp[Y]⟩
def ac9 (j:A.frames=some (env::outer))(hl:s.heap.FunFrames B (env::outer))(F:env.frame=some L)(D:s.heap.get? e=some oe)(G:B.StaysIn s.heap)(I:B.get? e=none)(hd:oe.data=.fields vs)(h1:vs[1]?=some .none)(h2:vs[2]?=some .none)(h:∀h',wX B (env::outer) e oe.cls oe.dict (rawInt L) h'->s.heap.UpToSlots h'->Q () {s with heap:=h' }):wpAny M A (noteFrame (.ref e) env) Q E s:=by unfold noteFrame;simp only[F];calc ae (fm D hd h1 ?_);rw[if_neg qo];show JN j hl F D G I hd (gc.mp h1).1 h2 h
def W6 (I:A.frames=some (env::outer))(J:env.frame=some L)(x:wX B (env::outer) e cls dd .none s.heap)(h:∀h',wX B (env::outer) e cls dd (rawInt L) h'->s.heap.UpToSlots h'->Q () {s with heap:=h' }):wpAny M A (noteFrame (.ref e) env) Q E s:=by
 let⟨st,Z,fr,oe,vs,T,oT,ts,O,hc,G,hd,h1,h2,Y,Te,F,j,h3⟩:=x;subst hc G;let mv:∀b,b≠T->(s.heap.update T (Obj.mapFields (·.setIfInBounds 3 Value.none))).get? b=s.heap.get? b:=λb nb=>fz _ _ (gu nb);let nr:∀b o,s.heap.get? b=some o->(∀vs,o.data≠.fields vs)->b≠T:=λb o q D z=>by rw[z,F]at q;cases q;show D ts j
 unfold noteFrame;simp only[J];calc ae (fm O hd h1 ?_);rw[if_pos (show (Value.ref T != Value.none)=true by simp)];calc ae (fm F j h3 ?_);rw[if_neg (show ¬((Value.none==rawInt L)=true) by simp[rawInt])];calc ae (nX F j (gc.mp h3).1 ?_);refine JN I (fr.of_keeps λb o q D=>⟨o,(mv b (nr b o q D)).trans q,rL⟩) J ((mv e (gu Te)).trans O) (λb o q=>(mv b λz=>by rw[z,Y]at q;cases q).trans (st b o q)) Z hd (gc.mp h1).1 h2
  λh' y k=>h h' y λb o q D=>k b o ((mv b (nr b o q D)).trans q) D
def leave_new (j:A.frames=some (env::outer))(hl:s.heap.FunFrames B (env::outer))(D:env.frame=some L)(I:s.heap.get? e=some oe)(F:B.StaysIn s.heap)(G:B.get? e=none)(hd:oe.data=.fields vs)(h1:vs[1]?=some .none)(h2:vs[2]?=some .none)(h:∀h',wX B outer e oe.cls oe.dict .none h'->s.heap.UpToSlots h'->Q () {s with heap:=h' }):wpAny M A (leaving env (.ref e)) Q E s:=by unfold leaving;show ae (ac9 j hl D I F G hd h1 h2 λh1 x k=>vW x λh2 y k2=>h h2 y.outer (k.trans k2))
def ac_ (j:A.frames=some (env::outer))(D:env.frame=some L)(x:wX B (env::outer) e cls dd .none s.heap)(h:∀h',wX B outer e cls dd .none h'->s.heap.UpToSlots h'->Q () {s with heap:=h' }):wpAny M A (leaving env (.ref e)) Q E s:=by unfold leaving;show ae (W6 j D x λh1 x k=>vW x λh2 y k2=>h h2 y.outer (k.trans k2))
end
def gA.there (x:gA P w H h a o):∃u,h.get? a=some u:=by
 cases o with
 | lst xs=>let⟨_,_,_,_,e⟩:=x;show⟨_,e⟩
 | tup xs=>let⟨_,_,_,_,e,_⟩:=x;show⟨_,e⟩
 | dK kvs=>let⟨_,_,_,_,o,_,_,e,_⟩:=x;show⟨_,e⟩
 | dT kvs=>let⟨_,_,_,_,o,_,_,e,_⟩:=x;show⟨_,e⟩
 | set S n=>let⟨o,_,_,_,e,_⟩:=x;show⟨_,e⟩
 | ins C dx fs=>let⟨_,_,_,e,_⟩:=x;show⟨_,e⟩
 | own y=>show x
 | xd fs=>obtain⟨_,⟨_,_,_,e,_⟩,_⟩:=x;show⟨_,e⟩
 | rng lo hi=>let⟨_,_,_,e⟩:=x;show⟨_,e⟩
 | qx ob u=>let⟨e,_⟩:=x;show⟨_,e⟩
 | NQ ps=>show⟨_,(show h.get? a=some _ from x)⟩
 | met f y=>show⟨_,(show h.get? a=some _ from x)⟩
 | ext φ=>let⟨_,e,_⟩:=x;show e
structure ExB (P:Program)(w:World)(outer:List Env)(H:Hp)(s:Shared)(a:Addr)(cls:Value)(dd:Option Addr)(H':Hp)(s':Shared)(B:Heap):Prop where
 os:s'.os=s.os
 bare:AllBare s'.gens
 un:Un (frs outer) [] H H' s.heap s'.heap
 hok:lE P w H' s'.heap
 fly:wX B outer a cls dd .none s'.heap
 na:H' a=none
 NT:∀b u,H' b=some u->∃o,B.get? b=some o
 kp:∀b o,s.heap.get? b=some o->b∉frs outer->H b=none->B.get? b=some o
 th:∀b o,s.heap.get? b=some o->b∉frs outer->∃o',B.get? b=some o'
noncomputable def Dr (P:Program)(w:World):uZ:=λouter H s E e s'=>∃(a:Addr) (cls:Value) (dd:Option Addr) (H':Hp) (B:Heap),e=.ref a/\ExB P w outer H s a cls dd H' s' B/\E cls dd H'
section
variable {X:Cx}{ao:AE}{σ:St}{H1 H':Hp}{s1 s2:Shared}{e:Addr}{oe:Obj}{vs:Array Value}{Q:Unit->Shared->Prop}{E:AD}{cls:Value}{dd:Option Addr}{B:Heap}
def aW.JQ (I:aW X ao σ H1 s1)(q:X.s₀.heap.get? b=some o)(nb:b∉frs X.outer):b∉frs X.stack:=λz=>by
 rcases bX.mp (I.Jt b z) with z|z;.show absurd (df (aI q) I.ok.above) (by rw[z];show ft _)
 .show nb z
def aW.ada (I:aW X ao σ H1 s1)(z:b∈frs X.outer):b∈frs X.stack:=by
 rcases I.ok.stk with e|⟨e,j⟩;.rw[e];show z
 .rw[e];unfold frs;rw[kQ,j];show bz _ z
def aW.raised (I:aW X ao σ H1 s1)(D:X.stack=X.env::X.outer)(hf:X.env.frame=some X.env.locals)(O:X.ex=[])(he:s1.heap.get? e=some oe)(hd:oe.data=.fields vs)(h1:vs[1]?=some .none)(h2:vs[2]?=some .none)(ne:H1 e=none)(J:∀b o,X.s₀.heap.get? b=some o->b≠e)(q:∀s2 B,ExB X.prog X.w X.outer X.H₀ X.s₀ e oe.cls oe.dict H1 s2 B->Q () s2):wpAny (model X.prog X.w) X.A (leaving X.env (.ref e)) Q E s1:=by
 let hfr:X.A.frames=some (X.env::X.outer):=by rw[<-D];show I.ok.frames
 let hl:s1.heap.FunFrames (hideAll s1.heap (e::frs X.stack)) (X.env::X.outer):=by rw[<-D];show funFrames_hide I.stack λenv he b hb=>bz _ (n9.mpr ⟨env,he,hb⟩)
 let Y:∀b:Addr,b∉X.ex:=λb=>by rw[O];simp
 calc leave_new hfr hl hf he (λb o z=>of_hideAll _ z) (hideAll_none _ (.head _)) hd h1 h2 λh' x k=>q _ (hideAll s1.heap (e::frs X.stack)) ?_;let F:∀b o,s1.heap.get? b=some o->b≠e->b∉frs X.stack->(hideAll s1.heap (e::frs X.stack)).get? b=some o:=λb o z n1 n2=>hideAll_get _ z λm=>by
  rcases bX.mp m with m|m;.show n1 m
  .show n2 m
 let kF:∀b o,s1.heap.get? b=some o->b∈frs X.stack->∃sl,h'.get? b=some {o with slots:=sl}:=λb o z m=>by let⟨_,u,hu,nf⟩:=I.stack.mem m;rw[z]at hu;cases hu;show k b _ z nf
 let kT:∀b u,H1 b=some u->∀o,s1.heap.get? b=some o->(hideAll s1.heap (e::frs X.stack)).get? b=some o:=λb u t o z=>F b o z (λm=>by rw[m,ne]at t;cases t) λm=>by rw[I.zO b m]at t;cases t
 calc⟨I.os,I.bare,⟨λb o z n hb _=>?_,λb o z n hb _=>?_,λb o z n _=>I.base.free b o z n (Y b),λb o z _=>?_,I.base.tups,I.base.qW,I.base.rH⟩,λb o t=>?_,x,ne,λb u t=>?_,λb o z hb n=>?_,λb o z hb=>?_⟩;.show x.stays b o (F b o (I.base.keep b o z n hb (Y b)) (J b o z) (I.JQ z hb))
 .let⟨sl,e1⟩:=I.base.slot b o z n hb (Y b);let⟨G,e2⟩:=kF b _ e1 (I.ada hb);show⟨G,e2⟩
 .let⟨j,e1⟩:=I.base.there b o z (Y b);by_cases m:b∈frs X.stack
  .let⟨G,e2⟩:=kF b _ e1 m;show⟨_,e2⟩
  .show⟨j,x.stays b j (F b j e1 (J b o z) m)⟩
 .refine(I.hok b o t).stay (λc u Z z=>x.stays c u ?_) (λ_ r=>r) λ_ _ r=>r
  rcases Z with rfl|Z;.show kT c _ t u z
  .show kT c _ Z u z
 .let⟨o,z⟩:=(I.hok b u t).there;show⟨o,kT b u t o z⟩
 .show F b o (I.base.keep b o z n hb (Y b)) (J b o z) (I.JQ z hb)
 .let⟨j,e1⟩:=I.base.there b o z (Y b);show⟨j,F b j e1 (J b o z) (I.JQ z hb)⟩
def aW.passed (I:aW X ao σ H1 s1)(j:X.stack=X.env::X.outer)(hf:X.env.frame=some X.env.locals)(D:X.ex=[])(x:ExB X.prog X.w X.stack H1 s1 e cls dd H' s2 B)(q:∀s3,ExB X.prog X.w X.outer X.H₀ X.s₀ e cls dd H' s3 B->Q () s3):wpAny (model X.prog X.w) X.A (leaving X.env (.ref e)) Q E s2:=by
 let G:X.A.frames=some (X.env::X.outer):=by rw[<-j];show I.ok.frames
 let Y:∀b:Addr,b∉X.ex:=λb=>by rw[D];simp
 let O:∀b:Addr,b∉([]:List Addr):=λb=>by simp
 calc ac_ G hf (by rw[<-j];show x.fly) λh' y k=>q _ ?_;let kp:∀b o,X.s₀.heap.get? b=some o->b∉frs X.outer->X.H₀ b=none->B.get? b=some o:=λb o z hb n=>x.kp b o (I.base.keep b o z n hb (Y b)) (I.JQ z hb) (I.base.free b o z n (Y b));let th:∀b o,X.s₀.heap.get? b=some o->b∉frs X.outer->∃o',B.get? b=some o':=λb o z hb=>by let⟨J,e1⟩:=I.base.there b o z (Y b);show x.th b J e1 (I.JQ z hb)
 let Z:∀b o,X.s₀.heap.get? b=some o->b∈frs X.outer->∃sl,h'.get? b=some {o with slots:=sl}:=λb o z m=>by let⟨sl,e1⟩:=I.base.slot b o z (I.ok.Df b m) m (Y b);let⟨sl2,e2⟩:=x.un.slot b _ e1 (I.zO b (I.ada m)) (I.ada m) (O b);let⟨_,u,hu,nf⟩:=I.ok.qp.mem m;rw[z]at hu;cases hu;let⟨JR,e3⟩:=k b _ e2 nf;show⟨JR,e3⟩
 refine⟨x.os.trans I.os,x.bare,⟨λb o z n hb _=>y.stays b o (kp b o z hb n),λb o z n hb _=>Z b o z hb,λb o z n _=>?_,λb o z _=>?_,λb xs t=>x.un.tups b xs (I.base.tups b xs t),λb o u t=>x.un.qW b o u (I.base.qW b o u t),λb ps t=>?_⟩,λb o t=>?_,y,x.na,x.NT,kp,th⟩
 .let⟨J,e1⟩:=I.base.there b o z (Y b);show x.un.free b J e1 (I.base.free b o z n (Y b)) (O b)
 .by_cases m:b∈frs X.outer
  .let⟨sl,e3⟩:=Z b o z m;show⟨_,e3⟩
  .let⟨o',e1⟩:=th b o z m;show⟨o',y.stays b o' e1⟩
 .let⟨m1,e1⟩:=I.base.rH b ps t;let⟨m2,e2⟩:=x.un.rH b _ e1;show⟨m1++m2,by rw[e2,Array.append_assoc]⟩
 .refine(x.hok b o t).stay (λc u F z=>?_) (λ_ r=>r) λ_ _ r=>r
  have:∃v,H' c=some v:=by
   rcases F with rfl|F;.show⟨_,t⟩
   .show⟨_,F⟩
  let⟨v,hv⟩:=this;let⟨o',hB⟩:=x.NT c v hv;have:=x.fly.stays c o' hB;rw[z]at this;cases this;show y.stays c u hB
end
def Lets (X:Cx)(E:XK):Prop:=∀(ao:AE) (σ:St) (H:Hp) (s:Shared) (e:Addr) (oe:Obj) (vs:Array Value),aW X ao σ H s->s.heap.get? e=some oe->oe.data=.fields vs->vs[1]?=some .none->vs[2]?=some .none->H e=none->
 (∀b o,X.s₀.heap.get? b=some o->b≠e)->E oe.cls oe.dict H->X.xe (.ref e) s
section
variable {P:Program}{w:World}{K:W.Frag}{mg:Str->Option Value}{base:Heap}{N:List Str}{qual:Str}{scope:Scope}{f:Addr}{cd:Value}{A:Around}{outer:List Env}{s:Shared}{H:Hp}{E:XK}
def rB:Lets (tW (Dr P w) P w K mg base N qual scope f cd A outer s H E) E:=λao σ H1 s1 e oe vs I j hd h1 h2 ne D q=>I.raised rL rL rL j hd h1 h2 ne D λs2 B x=>⟨e,_,_,_,B,rL,x,q⟩
def wK:Passes (Dr P w) (tW (Dr P w) P w K mg base N qual scope f cd A outer s H E) E:=λao σ H1 s1 e s2 I ⟨a,cls,dd,H',B,z,x,q⟩=>by subst z;show I.passed rL rL rL x λj y=>⟨a,cls,dd,H',B,rL,y,q⟩
end
structure DefX (P:Program)(w:World)(K:W.Frag)(mg:Str->Option Value)(base:Heap)(name:Str)(k:Nat)(ps:List Str)(sp:Sp):Prop where
 ex:∃f fd,cA P w K mg base (Dr P w) k f fd ps sp/\bR K fd ps []/\mg name=some (.ref f)/\W.keepIn K (.ref f)=true
def fj.Az {K:W.Frag}{mg:Str->Option Value}{x qual:Str}{st:Stmt}{N ps:List Str}{k:Nat}{sp:Sp}(F:fj K x qual st f fd)(S:bB N ps (aK st))(len:∀vs H Q E,sp vs H Q E->vs.length=ps.length)(j:∀(bN:Value) (A:Around) (outer:List Env) (s:Shared) (H:Hp) (vs:List V) (Q:VK) (E:XK),gk k (A.deeper (envOfC qual (aK st) s.heap.objs.size f bN))->sp vs H Q E->
   ∃t,yh (tW (Dr P w) P w K mg base N qual (aK st) f bN A outer s H E) (cR st) t/\t {nx:=λ_ H'=>Q .non H',rt:=Q} (start N vs) H):cA P w K mg base (Dr P w) (k+1) f fd ps sp:=by
 let⟨oc,od,kV,doc,pm,an,bN,ct,osl,rfl,I,D⟩:=F.ex;calc aeA I D S len λA outer s H vs Q E J G=>?_;let⟨t,h,q⟩:=j bN A outer s H vs Q E J G;show⟨t,h.out,q⟩
def aP.Az {K:W.Frag}{mg:Str->Option Value}{name:Str}{st:Stmt}{N ps:List Str}{k:Nat}{sp:Sp}(D:aP K mg name st ps)(S:bB N ps (aK st))(len:∀vs H Q E,sp vs H Q E->vs.length=ps.length)(j:∀(f:Addr) (bN:Value) (A:Around) (outer:List Env) (s:Shared) (H:Hp) (vs:List V) (Q:VK) (E:XK),gk k (A.deeper (envOfC name (aK st) s.heap.objs.size f bN))->sp vs H Q E->
   ∃t,yh (tW (Dr P w) P w K mg base N name (aK st) f bN A outer s H E) (cR st) t/\t {nx:=λ_ H'=>Q .non H',rt:=Q} (start N vs) H):DefX P w K mg base name (k+1) ps sp:=by
 let⟨f,fd,F,b,g⟩:=D.ex;show⟨f,fd,F.Az S len (j f),b,g,F.kp⟩
def zW (CX:uZ)(X:Cx)(E:XK)(S:St->Prop):Prop:=∀(ao:AE) (σ:St) (H:Hp) (s:Shared) (e:Value) (s':Shared),aW X ao σ H s->S σ->CX X.stack H s E e s'->X.xe e s'
def Passes.all (h:Passes CX X E):zW CX X E λ_=>True:=λao σ H s e s' I _ q=>h ao σ H s e s' I q
def ahP (sp:Sp)(E:XK)(S:St->Prop)(t:TA):TE:=λσ H Q=>S σ/\t σ H λvs H1=>sp vs H1 Q E
section
variable {X:Cx}{k:Nat}{f:Addr}{fd:FuncData}{ps:List Str}{sp:Sp}{E:XK}{S:St->Prop}{x:Str}{p pos:Pos}{e:Expr}{es:List Expr}{t:TA}
def oU (D:DefX X.prog X.w X.K X.mg X.base x k ps sp)(hr:gk k X.A)(hg:Gl X x)(hx:zW (Dr X.prog X.w) X E S)(ha:QA X (e::es) t)(O:(x==("__debug__":Str))=false:=by decide)(hs:starEach (e::es) X.env=(false,eval e X.env)::starEach es X.env:=by rfl)(J:(backTo pos (starEach es X.env)).any (·.1)=false:=by rfl):QE X (.Call (.Name x p) (e::es) [] pos) (ahP sp E S t):=⟨by
 let⟨f,fd,F,hb,hm,Z⟩:=D.ex;intro ao s σ H Q I h;let⟨hS,h⟩:=h;calc hV (pO I hg hm ?_ O);calc js (h₀:=X.base) I.ok.mod.Js Z (cH (ha.out pos ao s σ H _ I h) λus s1 ⟨vs,H1,G,r,q⟩=>⟨G.jw,?_⟩) hs J;let hl:us.length=ps.length:=by rw[<-r.length];show F.len _ _ _ _ q
 let Y:=hb s1 us G.jw (by rw[ib];show hl);rw[ib]at Y;calc ly (lj (F.run X.A X.stack s1 H1 ⟨us,[]⟩ us vs Q E hr G.env0 Y r q) λr s' j=>?_);cases r with
 | error e=>show hx ao σ H1 s1 e s' G hS j
 | ok fl=>
  cases fl with
  | ret u=>show G.after j
  | next=>show False.elim j
  | brk=>show False.elim j
  | cont=>show False.elim j⟩
end
def afu {K:W.Frag}(X:K.In h)(q:excIn K C bmB newId=true):∃bm N nm q bs hdct sn sub ab col dd k0 k1 k2 k3 k5 mN,h.get? C=some (excClassObj nm q C N bs bm hdct sn sub ab col dd k0 k1 k2 k3 k5 newId)/\h.Ns N mN/\mN "__init__"=none/\OwnTail h bmB bm:=by
 unfold excIn at q;split at q
 .next dd cd sl ho=>
  split at q
  .next C' bm k0 k1 k2 k3 n k5 hm hs=>
   simp only[cn,beq_iff_eq,Bool.not_eq_true']at q;obtain⟨⟨⟨⟨⟨e1,e2⟩,j⟩,ht⟩,hok⟩,D⟩:=q;subst e1 e2;let⟨nm,bs,mro,ns,G,hd,sn,sub,ab,col,I⟩:=cd;dsimp only at hm j hok D;subst hm j;let F:sl=#[k0,k1,k2,k3,some (.builtin n),k5]:=by cases sl;simp only at hs;rw[hs]
   subst F;show⟨bm,ns,nm,G,bs,hd,sn,sub,ab,col,dd,k0,k1,k2,k3,k5,_,X _ _ ho,.of_isNs (isNs_of_in X hok),nsMap_none_of_in X hok D,tail_of_in X ht⟩
  .cases q
 .cases q
abbrev lu:List Value:=[.type "ValueError",.type "Exception",.type "BaseException",.type "object"]
def ahQ (C:Addr)(E:XK)(t:TA):TS:=λ_ σ H=>t σ H λvs H1=>vs.length<=sizeLine/\E (.ref C) none H1
section
variable {X:Cx}{C:Addr}{E:XK}{x:Str}{np cpos pos:Pos}{e:Expr}{es:List Expr}{t:TA}
def HY (hl:Lets X E)(hc:X.calm=true)(J:X.ex=[])(hg:Gl X x)(hm:X.mg x=some (.ref C))(hC:excIn X.K C lu "ValueError.__new__"=true)(ha:QA X (e::es) t)(Y:(x==("__debug__":Str))=false:=by decide)(hs:starEach (e::es) X.env=(false,eval e X.env)::starEach es X.env:=by rfl)(G:(backTo cpos (starEach es X.env)).any (·.1)=false:=by rfl):QS X (.Raise (some (.Call (.Name x np) (e::es) [] cpos)) none pos) (ahQ C E t):=⟨by
 intro ao s σ H D I h;let⟨tl,N,nm,q,bs,hdct,sn,sub,ab,col,dd,k0,k1,k2,k3,k5,mN,cC,cN,O,T⟩:=afu I.ok.mod.Js hC;let ar:=ha.out cpos ao s σ H _ I h;rw[hs]at ar;refine wpAny_Raise_call_subT (C:=C) (nm:=nm) (q:=q) (N:=N) (bs:=bs) (bm:=tl) (hdct:=hdct) (sn:=sn) (sub:=sub) (ab:=ab) (col:=col) (dd:=dd) (k0:=k0) (k1:=k1) (k2:=k2) (k3:=k3) (k5:=k5) gd (mN:=mN)
  (T.hasType gd.hasBase) (I.ok.hd hc) (by rw[hs];show (false||(backTo cpos (starEach es X.env)).any (·.1))=false;rw[G];rfl) O (pO I hg hm ⟨rL,?_⟩ Y)
 rw[hs];calc ir (e_ ar (λus s2 z=>?_) λ_ _ y=>y);let⟨vs,H1,j,r,hv,hE⟩:=z;calc⟨rL,by rw[<-r.length];show hv,j.bk _ _ cC,cN.keeps j.bk,T.keeps j.bk,λh' a hx=>?_⟩;let⟨tt,Z,_,_⟩:=hx.there;refine hl ao σ H1 _ a _ _ (j.kept (t':=s2.toks) hx.keeps) Z rL rL rL ?_ (λb o z y=>?_) hE
 .cases z:H1 a with| none=>rfl| some u=>let⟨o,F⟩:=(j.hok a u z).there;rw[hx.new]at F;cases F
 .let⟨o',F⟩:=j.base.there b o z (by rw[J];simp);rw[y,hx.new]at F;cases F⟩
end
def ahR (a:Addr)(cls:Value)(dd:Option Addr):Heap->Prop:=λh=>∃oe vs,h.get? a=some oe/\oe.cls=cls/\oe.dict=dd/\oe.data=.fields vs/\vs[2]?=some .none
section
variable {X:Cx}{ao:AE}{σ:St}{H H':Hp}{s s':Shared}{a:Addr}{cls fl:Value}{dd:Option Addr}{B h3:Heap}
def aW.caught (I:aW X ao σ H s)(x:ExB X.prog X.w X.stack H s a cls dd H' s' B)(y:wX B X.stack a cls dd fl h3)(k:s'.heap.UpToSlots h3):aW X ao σ (upd H' a (.ext (ahR a cls dd))) {s' with heap:=h3}:=by
 let Y:∀b:Addr,b∉([]:List Addr):=λb=>by simp
 let⟨oe,vs,T,oT,ts,O,j,G,hd,_,h2,_⟩:=y.tr;let J:∀b o,s.heap.get? b=some o->b∈frs X.stack->(∃sl,h3.get? b=some {o with slots:=sl})/\∀vs,o.data≠.fields vs:=λb o z m=>by let⟨_,u,hu,F⟩:=I.stack.mem m;rw[z]at hu;cases hu;let⟨sl2,e2⟩:=x.un.slot b _ z (I.zO b m) m (Y b);let⟨JR,e3⟩:=k b _ e2 F;show⟨⟨JR,e3⟩,F⟩
 let na:∀b o,s.heap.get? b=some o->b≠a:=λb o z m=>by
  by_cases hb:b∈frs X.stack
  .obtain⟨⟨sl,e3⟩,F⟩:=J b o z hb;rw[m,O]at e3;cases e3;show F vs hd
  .let⟨o',Z⟩:=x.th b o z hb;rw[m,y.new]at Z;cases Z
 let D:∀b u,H' b=some u->b≠a:=λb u z m=>by rw[m,x.na]at z;cases z
 let kT:∀c u v,H' c=some v->s'.heap.get? c=some u->h3.get? c=some u:=λc u v t z=>by let⟨o',hB⟩:=x.NT c v t;have:=x.fly.stays c o' hB;rw[z]at this;cases this;show y.stays c u hB
 refine I.call' (s':={s' with heap:=h3}) (ch:=[]) x.os ⟨λb o z n hb _=>y.stays b o (x.kp b o z hb n),λb o z n hb _=>(J b o z hb).1,λb o z n _=>?_,λb o z _=>?_,λb xs t=>?_,λb o u t=>?_,λb ps t=>?_⟩ (λb o t=>?_) x.bare λb z=>absurd z qk
 .rw[aZ (na b o z)];show x.un.free b o z n (Y b)
 .by_cases m:b∈frs X.stack
  .obtain⟨⟨sl,e3⟩,_⟩:=J b o z m;show⟨_,e3⟩
  .let⟨o',e1⟩:=x.th b o z m;show⟨o',y.stays b o' e1⟩
 .let t':=x.un.tups b xs t;rw[aZ (D b _ t')];show t'
 .let t':=x.un.qW b o u t;rw[aZ (D b _ t')];show t'
 .let⟨more,t'⟩:=x.un.rH b ps t;show⟨more,by rw[aZ (D b _ t')];show t'⟩
 .by_cases hb:b=a
  .subst hb;rw[aA]at t;cases t;show⟨⟨oe,vs,O,j,G,hd,h2⟩,⟨oe,O⟩,λh h' ⟨oe,vs,e1,e2,e3,e4⟩ q=>⟨oe,vs,q oe e1,e2,e3,e4⟩⟩
  .rw[aZ hb]at t;refine(x.hok b o t).stay (λc u j z=>?_) (λc r=>by rw[aZ (D c _ r)];show r) λc xs r=>by rw[aZ (D c _ r)];show r
   rcases j with rfl|j;.show kT c u _ t z
   .show kT c u _ j z
end
abbrev Cx.tried (X:Cx)(pn:AE)(xe:AD):Cx:={X with pn:=pn,xe:=xe}
abbrev Cx.held (X:Cx)(a:Addr):Cx:={X with A:=X.A.mark (some (.ref a)),calm:=false,xe:=λ_ _=>False}
section
variable {X:Cx}{ao Ju pn:AE}{σ:St}{H:Hp}{s:Shared}{xe:AD}{a:Addr}
def aW.tried (I:aW X ao σ H s)(xe:AD):aW (X.tried (X.pn++ao) xe) [] σ H s:=⟨⟨I.ok.mod,I.ok.kind,I.ok.glob,I.ok.blt,I.ok.above,I.ok.inj,I.ok.has,I.ok.cab,I.ok.hd,I.ok.frames,I.ok.stk,I.ok.exf,I.ok.bs,I.ok.Cw,I.ok.Dd,I.ok.Ht,I.ok.qp,I.ok.Df⟩,I.os,I.bare,I.base,I.loc,I.cell,I.free,I.n6,λp hp=>I.pin p (by simpa using hp),I.hok,I.len⟩
def aW.t_ (I:aW (X.tried (X.pn++ao) xe) Ju σ H s):aW X ao σ H s:=⟨⟨I.ok.mod,I.ok.kind,I.ok.glob,I.ok.blt,I.ok.above,I.ok.inj,I.ok.has,I.ok.cab,I.ok.hd,I.ok.frames,I.ok.stk,I.ok.exf,I.ok.bs,I.ok.Cw,I.ok.Dd,I.ok.Ht,I.ok.qp,I.ok.Df⟩,I.os,I.bare,I.base,I.loc,I.cell,I.free,I.n6,λp hp=>I.pin p (mI _ hp),I.hok,I.len⟩
def SP.t_ (h:SP (X.tried (X.pn++ao) xe) Ju D f s):SP X ao D f s:=by
 cases f with
 | next=>let⟨σ',H',I,q⟩:=h;show⟨σ',H',I.t_,q⟩
 | brk=>let⟨σ',H',I,q⟩:=h;show⟨σ',H',I.t_,q⟩
 | cont=>let⟨σ',H',I,q⟩:=h;show⟨σ',H',I.t_,q⟩
 | ret u=>let⟨v,σ',H',I,r,q⟩:=h;show⟨v,σ',H',I.t_,r,q⟩
def aW.held (I:aW X ao σ H s)(a):aW (X.held a) ao σ H s:=⟨⟨I.ok.mod,I.ok.kind,I.ok.glob,I.ok.blt,I.ok.above,I.ok.inj,I.ok.has,I.ok.cab,(λz=>nomatch z),I.ok.frames,I.ok.stk,I.ok.exf,I.ok.bs,I.ok.Cw,I.ok.Dd,I.ok.Ht,I.ok.qp,I.ok.Df⟩,I.os,I.bare,I.base,I.loc,I.cell,I.free,I.n6,I.pin,I.hok,I.len⟩
def aW.JT (I:aW (X.held a) ao σ H s)(ok:X.Ok):aW X ao σ H s:=⟨ok,I.os,I.bare,I.base,I.loc,I.cell,I.free,I.n6,I.pin,I.hok,I.len⟩
end
structure ajv (K:W.Frag)(C:Addr):Prop where
 cl:(clsIn K C).isSome=true
 ga:findIn K (.ref C) "__getattribute__"=some (some (.builtin "BaseException.__getattribute__"))
 gx:findIn K (.ref C) "__getattr__"=some none
 ha:findIn K (.ref C) "__class__"=some (some (.builtin "object.__class__"))
 hn:specialIn K (.builtin "object.__class__") "__get__"=some (some (.builtin "getset_descriptor.__get__"))
 ht:takesIn K (.builtin "object.__class__")=some true
 hm:mroIn K C (.type "object")=some true
 hb:mroIn K C (.type "BaseException")=some true
end L2
namespace HT
open PySem PySem.Spec PyProof.Rows
section
variable {prog:Program}{w:World}{A:Around}{E:AD}{s:Shared}
def Gx {lo hi:Option Int}(ht:IsTup s.heap t items)(hs:s.heap.IsSliceOf sl vl vu .none)(pl:IsPart vl lo)(F:IsPart vu hi)(hw:dw items.size 0 lo=0/\dw items.size items.size hi=items.size)(h:Q (.ref t) s):wpAny (model prog w) A (getItem (.ref t) (.ref sl)) Q E s:=by
 let⟨D,h1,h2,h3⟩:=id hs;let ty:s.TypeIs (.ref sl) "slice":=⟨D,h1,h2⟩
 unfold getItem
 try with_reducible refine ik ?_
 first|refine ae (aw ?_)|skip
 calc ae (wpAny_sequenceKey ht.typeIs qo (ae (iX (name:=Str.ofString "__getitem__") ht.typeIs fw (gT fw ht.typeIs entry_tuple_getitem ?_ (args_tuple_getitem _ _)))));show wpAny _ _ (Builtin.Tuple.tupleItemsOf (.ref t) >>= _) _ _ s;calc ae (tupleItemsOf_ ht (ae (wpAny_typeOf ty ?_)));rw[if_pos qo];calc ae (wR hs pl F ?_);let j:((((dw items.size 0 lo:Nat):Int)==0&&(1:Int)==1&&(dw items.size items.size hi-dw items.size 0 lo)==items.size)=true):=by rw[hw.1,hw.2];simp
 show wpAny _ _ (if (((dw items.size 0 lo:Nat):Int)==0&&(1:Int)==1&&(dw items.size items.size hi-dw items.size 0 lo)==items.size)=true then _ else _) _ _ s;rw[if_pos j];calc ae ?_;unfold Builtin.Tuple.tupleIsExact;calc ae (wpAny_typeOf ht.typeIs (aw ?_));rw[if_pos qo];show ae (oQ (aw ⟨_,rL,aw h⟩))
end
end HT
namespace L2
open PySem PySem.Spec PyProof.Rows PySem.W
section
variable {X:Cx}
def ajw (K:W.Frag):R2:=λx y H Q=>∃a b xs ys,x=.ref a/\y=.ref b/\aU K H a xs/\aU K H b ys/\xs.length+ys.length<=sizeLine/\(xs=[]->H b=some (.tup ys))/\(ys=[]->xs≠[]->H a=some (.tup xs))/\
 ∀p H',aD H H'->H' p=some (.tup (xs++ys))->Q (.ref p) H'
def wL:gP X (binaryOp .Add) (ajw X.K):=by
 intro ao s σ H x y v u Q I rx ry h;let⟨a,b,xs,ys,rfl,rfl,ha,hb,hz,e1,e2,q⟩:=h;cases rx;cases ry;let⟨its,r1,p1,_⟩:=I.tuple ha;let⟨j,Y,p2,_⟩:=I.tuple hb;by_cases hx:xs=[]
 .let hi:its=[]:=r1.zR.mpr hx;obtain⟨⟨cls,dd,data,sl⟩,ho,hc,n,hd⟩:=id p1;obtain⟨⟨cls2,J,O,Z⟩,D,F,n2,G⟩:=id p2;simp only at hc hd F G;subst hc hd F G;show concat_meets ⟨_,ho,rL⟩ ⟨_,D,rL⟩ noFill_tuple_add seq_tuple_add me lP (lm _ _)
   (tuple_addW0 a b its.toArray j.toArray n n2 dd J sl Z (by simp[hi])) ⟨ho,D,⟨.ref b,H,I,rL,q b H (aD.refl _) (by rw[hx];show e1 hx)⟩⟩
 .refine HT.afa p1 p2 (λz=>hx (r1.zR.mp z)) (λz=>⟨.ref a,H,I,rL,?_⟩) (λz=>?_) (by rw[<-r1.length,<-Y.length];show hz)
  .let hy:=Y.zR.mp z;show q a H (aD.refl _) (by rw[hy,ib];show e2 hy hx)
  .calc⟨.ref s.heap.objs.size,_,I.laid (t':=s.toks) (o:=.tup (xs++ys)) (λb ob q=>af _ q) (ai _) ?_,rL,q _ _ (aD.upd (I.hok.fresh (ai _))) aA⟩;show⟨by rw[aE];show hz,_,r1.append Y,IsTup.new _ _⟩
def akk (K:W.Frag):V->Option Int->Option Int->Hp->VK->Prop:=λx lo hi H Q=>∃a xs,x=.ref a/\H a=some (.tup xs)/\∀p H',aD H H'->H' p=some (.tup (fV xs lo hi))->Q (.ref p) H'
def wM:WL X (akk X.K):=by
 intro ao s σ H x v J G lo hi sl Q I F hs pl D h;let⟨a,xs,rfl,hx,q⟩:=h;cases F;let⟨its,r,ht,hz⟩:=I.tuple (aU.of hx);let j:its.toArray.size=xs.length:=by rw[a_];show r.length.symm
 calc⟨"tuple",_,fw.lookup,ht.typeIs,?_⟩;by_cases hw:HT.dw xs.length 0 lo=0/\HT.dw xs.length xs.length hi=xs.length
 .calc HT.Gx ht hs pl D (by rw[j];show hw) ⟨.ref a,H,I,rL,q a H (aD.refl _) ?_⟩;unfold fV;rw[hw.1,hw.2];simpa using hx
 .calc HT.Gw ht hs pl D (by rw[j];show hw) ?_ (by rw[j];show hz);rw[j];calc⟨.ref s.heap.objs.size,_,I.laid (t':=s.toks) (o:=.tup (fV xs lo hi)) (λb ob q=>af _ q) (ai _) ?_,rL,q _ _ (aD.upd (I.hok.fresh (ai _))) aA⟩;show⟨bP (GX xs lo hi) hz,_,(r.drop (HT.dw xs.length 0 lo)).take (HT.dw xs.length xs.length hi-HT.dw xs.length 0 lo),IsTup.new _ _⟩
def wZ:fillsNumberSlot (.type "tuple") "mul"=pure false:=PySem.fillsNumberSlot_seq (id:="tuple.__mul__") (r:=some (.builtin "tuple.__rmul__")) kf.lookup qB (by rw[typeLookup_type,builtinLookup_eq_fast];kernel_rfl) qB
def Ds:seqRepeat? (.type "tuple")=pure (some (.builtin "tuple.__mul__")):=by unfold seqRepeat?;rw[PySem.seqSlot_of (T:="tuple") (name:="__mul__") (id:="tuple.__mul__") kf.lookup qB,PySem.seqSlot_of (T:="tuple") (name:="__rmul__") (id:="tuple.__rmul__") (by rw[typeLookup_type,builtinLookup_eq_fast];kernel_rfl) qB];rfl
def JV (a)(t:Tok)(l)(items)(n)(dd)(sl):Meets (Builtin.«int.__rmul__» ⟨[.int a t,.ref l],[]⟩) (λ_ R s=>s.heap.get? l=some {cls:=.type "tuple",dict:=dd,data:=.seq items n,slots:=sl}/\R (.ok (.ret Value.notImplemented)) s):=
 .of_wp λprog w A R s h=>by
  let⟨hp,g,d,tk,os⟩:=s;let⟨hl,h⟩:=h
  wp_walk
  show⟨_,rL,h⟩
def W7 {α:Type}(n)(l:List α):(List.replicate n l).flatten.length=n*l.length:=by
 induction n with| zero=>simp| succ n ih=>rw[ej,fh,aE,ih,pi];lia
theorem W8:∀(n:Nat) (a j:Array Value),List.foldl (λx1 D=>x1++D) j (List.replicate n a)=(j.toList++(List.replicate n a.toList).flatten).toArray
 | 0,a,j=>by simp
 | n+1,a,j=>by rw[ej,nc,W8 n a (j++a)];simp[ej]
def O1 (n:Nat)(a:Array Value):List.foldl (λx1 j=>x1++j) #[] (List.replicate n a)=((List.replicate n a.toList).flatten).toArray:=by rw[W8];simp
def Zj (l)(j:Array Value)(n)(dd)(sl)(x)(u:Tok)(h0:¬j.isEmpty=true)(h1:2<=x)(h2:x<=100)(h3:j.size<=100):Meets (Builtin.«tuple.__mul__» ⟨[.ref l,.int x u],[]⟩) (λ_ R s=>s.heap.get? l=some {cls:=.type "tuple",dict:=dd,data:=.seq j n,slots:=sl}/\R (.ok (.ret (.ref s.heap.objs.size))) {s with heap:=s.heap.push {cls:=.type "tuple",data:=.seq (List.foldl (λx1 D=>x1++D) #[] (List.replicate x.toNat j))} }):=
 .of_wp λprog w A R s h=>by
  let⟨hp,g,d,tk,os⟩:=s;let⟨hl,h⟩:=h;let f1:=AutoSeq1.idx_int;let f2:=AutoSeq1.sub_tuple_tuple;let c1:(decide (x < -(2^63))||decide (x>=2^63))=false:=by simp;lia
  let c2:(j.isEmpty||x==1)=false:=by simp at h0;simp[h0];lia
  let c3:(decide (x<=0)||j.isEmpty)=false:=by simp at h0;simp[h0];show Int.le_of_lt h1
  wp_walk using jS hl
  rw[if_neg (by rw[c1];decide)]
  wp_walk using jS hl
  rw[if_neg (by rw[c2];decide)]
  try wp_walk using jS hl
  rw[if_neg (by rw[c3];decide)];let c4:(j.size:Int)*x<=10000:=lI (show (j.size:Int)<=100 by lia) h2 qi qi
  try wp_walk using jS hl
  rw[if_neg qi]
  try wp_walk using jS hl
  rw[if_neg (by unfold Builtin.Tuple.tupleTooMany;simp[sizeLine];lia)];let hz:(List.foldl (λx1 D=>x1++D) #[] (List.replicate x.toNat j)).size<=sizeLine:=by rw[O1,a_,W7,fA];have:x.toNat*j.size<=100*100:=gh (by simp_all) h3;show bP this qo
  calc ae ?_;unfold Builtin.Tuple.tupleExact;calc gv ?_ hz;show aw ⟨_,rL,h⟩
def ajx (K:W.Frag):R2:=λx y H Q=>∃a xs,∃n:Nat,x=.ref a/\y=.int n/\aU K H a xs/\xs≠[]/\2<=n/\n<=100/\xs.length<=100/\∀p,H p=none->Q (.ref p) (upd H p (.tup (List.replicate n xs).flatten))
theorem RP (r:Vals xs us):∀n,Vals (List.replicate n xs).flatten (List.replicate n us).flatten
 | 0=>.nil
 | n+1=>by rw[ej,ej,fh,fh];show r.append (RP r n)
def afv:gP X (binaryOp .Mult) (ajx X.K):=by
 intro ao s σ H x y v u Q I J G h;let⟨a,xs,n,rfl,rfl,ha,hx,O,D,Z,q⟩:=h;cases J;let⟨tk,rfl⟩:=G;let⟨its,r1,p1,_⟩:=I.tuple ha;let hl:=r1.length;obtain⟨⟨cls,dd,data,sl⟩,j,F,m,hd⟩:=id p1;simp only at F hd;subst F hd;let h0:¬its.toArray.isEmpty=true:=λz=>hx (r1.zR.mp (by simpa using z));refine kX (T:="tuple") (U:="int") qo ⟨_,j,rL⟩ (λs'=>typeIs_int s' _ _) wZ PySem.F.fills_int_mul kr Ds PySem.F.slot_int_index.lookup
  (call_meets kr (typeIs_int s _ _) PySem.F.entry_int_rmul (PySem.F.args_int_rmul_2 _ _) (JV _ _ a its.toArray m dd sl) ⟨j,rL,⟨_,j,rL⟩,?_⟩)
 calc call_meets kf ⟨_,j,rL⟩ PySem.F.entry_tuple_mul (PySem.F.args_tuple_mul_2 _ _) (Zj a its.toArray m dd sl (n:Int) _ h0 qi qi (by rw[a_,<-hl];show Z)) ⟨j,?_⟩;calc⟨.ref s.heap.objs.size,_,I.laid (t':=s.toks) (o:=.tup (List.replicate n xs).flatten) (λb ob q=>af _ q) (ai _) ?_,rL,q _ (I.hok.fresh (ai _))⟩;refine⟨?_,(List.replicate n its).flatten,RP r1 n,?_⟩
 .rw[W7];have:n*xs.length<=100*100:=gh D Z;show bP this qo
 .rw[O1,show ((n:Int)).toNat=n from rL,show its.toArray.toList=its by simp];show IsTup.new _ _
end
def yp (K:Frag)(C fI:Addr):Bool:=match K.lookup C with
 | some ⟨.type "type",_,.cls cd,sl⟩=>(match cd.mro,sl.toList with
  | .ref D::tl,[_,_,_,_,some (.builtin n),_]=>(D==C)&&(n=="ValueError.__new__")&&(!cd.hasDel)&&(cd.hasDict&&(tailIn K lu tl&&(nsOkIn K cd.ns&&(nsIn K cd.ns "__init__" == some (some (.ref fI))))))
  | _,_=>false)
 | _=>false
def akl {K:Frag}(X:K.In h)(G:h.Ns N m)(e:nsIn K N n=some (some v)):m n=some v:=by
 let⟨o,es,ep,j,hd,_,D⟩:=G;unfold nsIn at e;split at e
 .next c0 d0 es0 n0 O2 q=>
  let z:=X _ _ q;rw[j]at z;cases z;cases hd;split at e
  .next en he=>cases e;rw[<-D];unfold nsFind findBy;rw[<-Array.find?_toList,he];rfl
  .split at e <;> cases e
 .cases e
def Mf {K:Frag}(X:K.In h)(q:yp K C fI=true):∃bm N nm q bs sn sub ab col dd k0 k1 k2 k3 k5 mN,h.get? C=some (excClassObj nm q C N bs bm true sn sub ab col dd k0 k1 k2 k3 k5 "ValueError.__new__")/\h.Ns N mN/\mN "__init__"=some (.ref fI)/\OwnTail h lu bm:=by
 unfold yp at q;split at q
 .next dd cd sl ho=>
  split at q
  .next D tl k0 k1 k2 k3 n k5 hm hs=>rw[cn,cn,cn,cn,cn,cn,beq_iff_eq,beq_iff_eq,beq_iff_eq,Bool.not_eq_true']at q;obtain⟨⟨⟨e1,e2⟩,e3⟩,e4,ht,hok,hi⟩:=q;subst e1 e2;let⟨nm,bs,mro,ns,j,hd,sn,sub,ab,col,F⟩:=cd;dsimp only at hm e3 e4 hok hi;subst hm e3 e4;let⟨G⟩:=sl;dsimp only at hs;subst hs;show⟨tl,ns,nm,j,bs,sn,sub,ab,col,dd,k0,k1,k2,k3,k5,_,X _ _ ho,.of_isNs (isNs_of_in X hok),akl X (.of_isNs (isNs_of_in X hok)) hi,tail_of_in X ht⟩
  .cases q
 .cases q
section
variable {prog:Program}{w:World}{A:Around}{E:AD}{h:Heap}{g:Array GenState}{d:Drawn}{t:Nat}{os:OsState}
variable {nm q:Str}{C N fI:Addr}{bs bm:List Value}{sn:List Str}{sub:List Value}{ab:Bool}{col:Option Bool}{dd:Option Addr}{k0 k1 k2 k3 k5:Option Value}{oI:Obj}{mN:Str->Option Value}{rest:List Value}
abbrev newArgs (rest:List Value):Obj:={cls:=.type "tuple",data:=.seq rest.toArray}
abbrev newExc (C a:Addr):Obj:={cls:=.ref C,data:=.fields #[.ref a,.none,.none,.none,.bool false,.none]}
def RQ (T:OwnTail h lu bm)(j:h.get? C=some (excClassObj nm q C N bs bm true sn sub ab col dd k0 k1 k2 k3 k5 "ValueError.__new__"))(hn:h.Ns N mN)(hi:mN "__init__"=some (.ref fI))(O:h.get? fI=some oI)(D:oI.cls=.type "function")(hz:rest.length<=sizeLine)(hq:wpAny (model prog w) A (call (.ref fI) (.ref (h.objs.size+1)::rest)) (λr s'=>r=.none/\Q (.done (.ret (.ref (h.objs.size+1)))) s') E ⟨(h.push (newArgs rest)).push (newExc C h.objs.size),g,d,t,os⟩):wpAny (model prog w) A (Builtin.«type.__call__» ⟨.ref C::rest,[]⟩) Q E ⟨h,g,d,t,os⟩:=by
 let F:=gd
 repeat (first|with_reducible refine iq j ?_|with_reducible refine wpAny_madeBy_exc j ?_|wp_step)
 calc codeAny_call_builtin_code (Code.quiet_builtin _ F.quiet) (wpAny_check_new_subT F T j (codeAny_exc_new_subT F T j ?_ hz));show wpAny _ _ _ _ _ _;let up:∀b o,h.get? b=some o->((h.push (newArgs rest)).push (newExc C h.objs.size)).get? b=some o:=λb o z=>af _ (af _ z);let I:=up _ _ j;let J:=up _ _ O;let eN:=hn.keeps up;let Z:=T.keeps up;let Y:((h.push (newArgs rest)).push (newExc C h.objs.size)).get? (h.objs.size+1)=some (newExc C h.objs.size):=by heap_get
 let G:(Value.ref C::bm).contains (.ref C)=true:=qk;unfold isInstance
 repeat (first|with_reducible refine iq Y ?_|(with_reducible calc wpAny_isSubtype_exc I ?_;rw[G])|wp_step)
 show wpAny _ _ (typeLookup (.ref C) "__init__") _ _ _;calc wpAny_typeLookup_tail I eN Z F.mroIs F.init.lookup ?_;rw[hi];calc ik (ae ?_);unfold bindSpecial;calc ae (wpAny_typeOf (T:="function") ⟨_,J,D⟩ ?_);rw[if_pos qo];calc aw (ae (e_ hq (λr s' z=>?_) λ_ _ y=>y));let⟨rfl,z⟩:=z
 wp_walk
 show z
def ade (T:OwnTail h lu bm)(j:h.get? C=some (excClassObj nm q C N bs bm true sn sub ab col dd k0 k1 k2 k3 k5 "ValueError.__new__"))(hn:h.Ns N mN)(hi:mN "__init__"=some (.ref fI))(G:h.get? fI=some oI)(D:oI.cls=.type "function")(hz:rest.length<=sizeLine)(I:wpAny (model prog w) (A.under (.builtin "type.__call__" ⟨.ref C::rest,[]⟩)) (call (.ref fI) (.ref (h.objs.size+1)::rest)) (λr s'=>r=.none/\Q (.ref (h.objs.size+1)) s') E ⟨(h.push (newArgs rest)).push (newExc C h.objs.size),g,d,t,os⟩):wpAny (model prog w) A (call (.ref C) rest) Q E ⟨h,g,d,t,os⟩:=by
 let f1:=tc_lookup;let f2:=tc_bind (.ref C);let F:(⟨h,g,d,t,os⟩:Shared).TypeIs (.ref C) "type":=⟨_,j,rL⟩
 calc ly (codeAny_of_tree ?_);show wpAny _ _ (callAny (.ref C) _) _ _ _
 repeat (any_goals (first|assumption|with_reducible refine iq j ?_|wp_step))
 show⟨rL,codeAny_call_builtin_at (Code.quiet_builtin _ qB) entry_typeCall (wpAny_check_type_call_sub j (RQ T j hn hi G D hz I))⟩
end
section
variable {M:Model}{A:Around}{E:AD}{s:Shared}{env:Env}{x:Sem Value}{Q:Flow->Shared->Prop}
variable {nm q:Str}{C N:Addr}{bs bm:List Value}{hdct:Bool}{sn:List Str}{sub:List Value}{ab:Bool}{col:Option Bool}{dd:Option Addr}{k0 k1 k2 k3 k5:Option Value}{newId:String}
def abe (hb:bm.contains (.type "BaseException")=true)(J:A.handled=none)(hx:wpAny M A x (λv s1=>∃e oe vs,v=.ref e/\s1.heap.get? C=some (excClassObj nm q C N bs bm hdct sn sub ab col dd k0 k1 k2 k3 k5 newId)/\s1.heap.get? e=some oe/\oe.cls=.ref C/\oe.data=.fields vs/\vs[1]?=some .none/\E (.ref e) s1) E s):wpAny M A (raiseStmt env (some x) none) Q E s:=by
 let inB:(Value.ref C::bm).contains (.type "BaseException")=true:=by rw[List.contains_cons,hb,Bool.or_true]
 unfold raiseStmt;calc ae (e_ hx (λv s1 z=>?_) λ_ _ y=>y);let⟨e,oe,vs,rfl,j,I,D,hd,h1,F⟩:=z;let⟨oc,od,G,osl⟩:=oe;dsimp only at D hd;subst D hd;let⟨hp,g,d,tk,os⟩:=s1
 repeat (first|with_reducible refine iq I ?_|with_reducible refine iq j ?_|(with_reducible calc wpAny_isSubtype_exc j ?_;rw[inB])|wp_step)
 rw[h1];calc aw ?_;rw[if_neg qo];show aw (wpAny_raiseNew_none J F)
end
def jo (a:Addr)(cls:Value)(dd:Option Addr):Heap->Prop:=λh=>∃oe vs,h.get? a=some oe/\oe.cls=cls/\oe.dict=dd/\oe.data=.fields vs/\vs[1]?=some .none/\vs[2]?=some .none/\dd≠some a
def jo.at {h h':Heap}(x:jo a cls dd h)(k:∀o,h.get? a=some o->h'.get? a=some o):jo a cls dd h':=let ⟨oe,vs,e,r⟩:=x;⟨oe,vs,k oe e,r⟩
def jo.ok (x:jo a cls dd h):gA P w H h a (.ext (jo a cls dd)):=⟨x,let ⟨oe,_,e,_⟩:=x;⟨oe,e⟩,λ_ _ y k=>y.at k⟩
def drop (H:Hp)(a:Addr):Hp:=λb=>if b=a then none else H b
def rC:drop H a a=none:=by unfold drop;rw[if_pos rfl]
def j7 (h:b≠a):drop H a b=H b:=by unfold drop;rw[if_neg h]
section
variable {X:Cx}{ao:AE}{σ:St}{H:Hp}{s:Shared}{a:Addr}{φ:Heap->Prop}
def aW.drop (I:aW X ao σ H s)(ha:H a=some (.ext φ))(JQ:∀b o,X.s₀.heap.get? b=some o->b≠a):aW X ao σ (L2.drop H a) s:=by
 let ne:∀b u,H b=some u->(∀φ,u≠.ext φ)->b≠a:=λb u e n z=>by rw[z,ha]at e;cases e;show n φ rfl
 refine⟨I.ok,I.os,I.bare,⟨I.base.keep,I.base.slot,λb o e n hx=>?_,I.base.there,λb xs e=>?_,λb o u e=>?_,λb ps e=>?_⟩,I.loc,I.cell,?_,λx c e=>?_,λp hp=>?_,λb o e=>?_,I.len⟩
 .by_cases hb:b=a;.rw[hb];show rC
  .rw[j7 hb];show I.base.free b o e n hx
 .let z:=I.base.tups b xs e;rw[j7 (ne b _ z λφ=>by simp)];show z
 .let z:=I.base.qW b o u e;rw[j7 (ne b _ z λφ=>by simp)];show z
 .let⟨more,z⟩:=I.base.rH b ps e;show⟨more,by rw[j7 (ne b _ z λφ=>by simp)];show z⟩
 .by_cases hb:X.env.locals=a;.rw[hb];show rC
  .rw[j7 hb];show I.free
 .by_cases hb:c=a;.rw[hb];show rC
  .rw[j7 hb];show I.n6 x c e
 .let⟨e1,e2,e3⟩:=I.pin p hp;calc⟨e1,?_,e3⟩;by_cases hb:p.1=a;.rw[hb];show rC
  .rw[j7 hb];show e2
 .by_cases hb:b=a;.rw[hb,rC]at e;cases e
  .rw[j7 hb]at e;refine(I.hok b o e).stay (λc u _ z=>z) (λc r=>?_) λc xs r=>?_
   .rw[j7 (ne c _ r λφ=>by simp)];show r
   .rw[j7 (ne c _ r λφ=>by simp)];show r
end
structure MkX (K:Frag)(C f:Addr):Prop where
 ini:yp K C f=true
 fn:W.isFn K (.ref f)=true
 kp:W.keepIn K (.ref C)=true
def afw (C:Addr)(sp:Sp)(E:XK)(t:TA):TS:=λ_ σ H=>t σ H λvs H1=>vs.length<=sizeLine/\∀a,H1 a=none->sp (.ref a::vs) (upd H1 a (.ext (jo a (.ref C) none))) (λv j=>v=.non/\∃dd,j a=some (.ext (jo a (.ref C) dd))/\E (.ref C) dd (drop j a)) E0
section
variable {X:Cx}{k:Nat}{f C:Addr}{fd:FuncData}{ps:List Str}{sp:Sp}{x:Str}{p pos cpos:Pos}{e:Expr}{es:List Expr}{t:TA}{E:XK}
def afx {ao:AE}{s:Shared}{σ:St}{H:Hp}{G:Addr->Hp->Prop}(M:MkX X.K C f)(F:cA X.prog X.w X.K X.mg X.base dJ k f fd ps sp)(hr:gk (k+1) X.A)(hg:Gl X x)(hm:X.mg x=some (.ref C))(hb:bR X.K fd ps [])(ha:QA X (e::es) t)(I:aW X ao σ H s)(h:t σ H λvs H1=>vs.length<=sizeLine/\∀a,H1 a=none->sp (.ref a::vs) (upd H1 a (.ext (jo a (.ref C) none))) (λv Y=>v=.non/\G a Y) E0)(hdb:(x==("__debug__":Str))=false)(hs:starEach (e::es) X.env=(false,eval e X.env)::starEach es X.env)(Z:(backTo cpos (starEach es X.env)).any (·.1)=false):wpAny (model X.prog X.w) X.A (eval (.Call (.Name x p) (e::es) [] cpos) X.env) (λv s'=>∃a Y,v=.ref a/\aW X ao σ Y s'/\X.s₀.heap.objs.size<=a/\G a Y) X.xe s:=by
 calc hV (pO I hg hm ?_ hdb);calc js (h₀:=X.base) I.ok.mod.Js M.kp (cH (ha.out cpos ao s σ H _ I h) λus s1 ⟨vs,H1,O,r,hz,q⟩=>⟨O.jw,?_⟩) hs Z;let⟨bm,N,nm,qn,bs,sn,sub,ab,col,dd,k0,k1,k2,k3,k5,mN,cC,cN,ci,T⟩:=Mf O.jw M.ini;obtain⟨oI,hoI,hcI⟩:∃oI,s1.heap.get? f=some oI/\oI.cls=.type "function":=by
  let z:(X.K.lookup f).map (·.cls)=some (.type "function"):=beq_iff_eq.mp M.fn;cases y:X.K.lookup f with
  | none=>rw[y]at z;cases z
  | some of=>rw[y]at z;show⟨of,O.jw _ _ y,bo z⟩
 let J:X.s₀.heap.objs.size<=s1.heap.objs.size+1:=Nat.le_succ_of_le O.sz;let⟨j,g,d,tk,os⟩:=s1;let I2:aW X ao σ H1 ⟨j.push (newArgs us),g,d,tk,os⟩:=O.kept (t':=tk) λb u z=>af _ z;let hsz:(j.push (newArgs us)).objs.size=j.objs.size+1:=fi _ _;let eX:((j.push (newArgs us)).push (newExc C j.objs.size)).get? (j.objs.size+1)=some (newExc C j.objs.size):=by heap_get
 let I3:aW X ao σ (upd H1 (j.objs.size+1) (.ext (jo (j.objs.size+1) (.ref C) none))) ⟨(j.push (newArgs us)).push (newExc C j.objs.size),g,d,tk,os⟩:=I2.laid (t':=tk) (λb u z=>af _ z) (iL hsz) (jo.ok ⟨_,_,eX,rL,rL,rL,rL,rL,qk⟩)
 let hq:=q (j.objs.size+1) (I2.hok.fresh (iL hsz));let r2:Vals (V.ref (j.objs.size+1)::vs) (Value.ref (j.objs.size+1)::us):=.cons rL r;let hl:(Value.ref (j.objs.size+1)::us).length=ps.length:=by rw[<-r2.length];show F.len _ _ _ _ hq
 let hB:=hb ⟨(j.push (newArgs us)).push (newExc C j.objs.size),g,d,tk,os⟩ (Value.ref (j.objs.size+1)::us) I3.jw (by rw[ib];show hl);rw[ib]at hB;calc ade T cC cN ci hoI hcI (by show us.length<=sizeLine;rw[<-r.length];show hz) (ly (lj (F.run _ X.stack _ _ ⟨Value.ref (j.objs.size+1)::us,[]⟩ (Value.ref (j.objs.size+1)::us) _ _ E0 (hr.make C us []) (I3.env0.make C us []) hB r2 hq) λr s' D=>?_));cases r with
 | error e=>show False.elim D
 | ok fl=>
  cases fl with
  | ret u=>let⟨v,H',I4,rv,ev,q3⟩:=I3.after D;subst ev;show⟨rv,_,H',rL,I4,J,q3⟩
  | next=>show False.elim D
  | brk=>show False.elim D
  | cont=>show False.elim D
def vf (hl:Lets X E)(hc:X.calm=true)(M:MkX X.K C f)(F:cA X.prog X.w X.K X.mg X.base dJ k f fd ps sp)(hr:gk (k+1) X.A)(hg:Gl X x)(hm:X.mg x=some (.ref C))(hb:bR X.K fd ps [])(ha:QA X (e::es) t)(J:(x==("__debug__":Str))=false:=by decide)(hs:starEach (e::es) X.env=(false,eval e X.env)::starEach es X.env:=by rfl)(G:(backTo cpos (starEach es X.env)).any (·.1)=false:=by rfl):QS X (.Raise (some (.Call (.Name x p) (e::es) [] cpos)) none pos) (afw C sp E t):=⟨by
 intro ao s σ H D I h;let run:=afx (p:=p) M F hr hg hm hb ha I h J hs G;let⟨bm,N,nm,qn,bs,sn,sub,ab,col,dd,k0,k1,k2,k3,k5,mN,cC,cN,ci,T⟩:=Mf I.ok.mod.Js M.ini;rw[arm_exec_Raise];refine ae (mn (abe (C:=C) (nm:=nm) (q:=qn) (N:=N) (bs:=bs) (bm:=bm) (hdct:=true) (sn:=sn) (sub:=sub) (ab:=ab) (col:=col) (dd:=dd) (k0:=k0) (k1:=k1) (k2:=k2) (k3:=k3) (k5:=k5) (newId:="ValueError.__new__")
  (T.hasType gd.hasBase) (I.ok.hd hc) (ae (e_ run (λv s1 z=>ae (mn (aw ?_))) λ_ _ y=>y))))
 let⟨a,H2,rfl,O,Y,dd2,j,hE⟩:=z;obtain⟨⟨oe,vs,he,h1,h2,h3,h4,Z,_⟩,_⟩:=O.hok a _ j;let JQ:∀b o,X.s₀.heap.get? b=some o->b≠a:=λb o z y=>absurd (aI z) (by rw[y];show Nat.not_lt.mpr Y);let I3:=O.drop j JQ;calc⟨a,oe,vs,rL,O.bk _ _ cC,he,h1,h3,h4,hl ao σ _ _ a oe vs I3 he h3 h4 Z rC JQ ?_⟩;rw[h1,h2];show hE⟩
end
section
variable {prog:Program}{w:World}{A:Around}{E:AD}{h:Heap}{g:Array GenState}{d:Drawn}{t:Nat}{os:OsState}
variable {nm q:Str}{C N a:Addr}{bs bm:List Value}{sn:List Str}{sub:List Value}{ab:Bool}{col:Option Bool}{dd:Option Addr}{k0 k1 k2 k3 k5:Option Value}{rest:List Value}{Q:AD}{oe:Obj}{vs:Array Value}
def abf (T:OwnTail h lu bm)(O:h.get? C=some (excClassObj nm q C N bs bm true sn sub ab col dd k0 k1 k2 k3 k5 "ValueError.__new__"))(I:h.get? a=some oe)(G:oe.cls=.ref C)(hd:oe.data=.fields vs)(hz:0<vs.size)(Z:rest.length<=sizeLine)(J:Q .none ⟨(h.push (newArgs rest)).update a (Obj.mapFields (·.setIfInBounds 0 (.ref h.objs.size))),g,d,t,os⟩):wpAny (model prog w) A (call (.builtin "ValueError.__init__") (.ref a::rest)) Q E ⟨h,g,d,t,os⟩:=by
 let F:=gd;let⟨oc,od,Y,osl⟩:=oe;dsimp only at G hd;subst G hd;calc ly (codeAny_call_builtin F.init.plain F.initEntry (wpAny_check_init_subT F T O I rL ?_));let j:(h.push (newArgs rest)).get? a=some ⟨.ref C,od,.fields vs,osl⟩:=af _ I;unfold Builtin.«BaseException.__init__»
 repeat (first|with_reducible refine iq j ?_|wp_step)
 obtain⟨D,e0⟩:∃D,vs[0]?=some D:=⟨_,oS hz⟩
 rw[e0];calc aw (ae (nX j rL hz ?_));cases D <;> first|show wpAny_letGo (aw J)|show aw (aw J)
end
def uc:List Value->Bool
 | .ref _::r=>uc r
 | l=>l==lu
theorem Du (self):∀{l:List Value},uc l=true->refuseLoop self "__setattr__" l=pure ()
 | .ref _::r,e=>(refuseLoop_ref self "__setattr__" _ r).trans (Du self (l:=r) e)
 | [],e=>by cases e
 | .type n::r,e=>by rw[beq_iff_eq.mp (show (Value.type n::r==lu)=true from e)];show PySem.F.store_ValueError.passes self
 | .none::r,e=>by cases(beq_iff_eq.mp (show (Value.none::r==lu)=true from e))
 | .bool b::r,e=>by cases(beq_iff_eq.mp (show (Value.bool b::r==lu)=true from e))
 | .int i t::r,e=>by cases(beq_iff_eq.mp (show (Value.int i t::r==lu)=true from e))
 | .float i t::r,e=>by cases(beq_iff_eq.mp (show (Value.float i t::r==lu)=true from e))
 | .str i t::r,e=>by cases(beq_iff_eq.mp (show (Value.str i t::r==lu)=true from e))
 | .bytes i t::r,e=>by cases(beq_iff_eq.mp (show (Value.bytes i t::r==lu)=true from e))
 | .builtin n::r,e=>by cases(beq_iff_eq.mp (show (Value.builtin n::r==lu)=true from e))
structure Dv (K:Frag)(C:Addr):Prop where
 ln:((clsIn K C).any λcd=>cd.hasDict&&uc cd.mro)=true
 ob:mroIn K C (.type "object")=some true
 sa:findIn K (.ref C) "__setattr__"=some (some (.builtin "object.__setattr__"))
section
open Builtin Builtin.ObjectAttr
variable {prog:Program}{w:World}{A:Around}{E:AD}{s:Shared}{K:Frag}{x C:Addr}{ox:Obj}{od:Option Obj}{name:Str}{v:Value}
def O4 (X:K.In s.heap)(T:Dv K C)(hn:findIn K (.ref C) name=some none)(I:InstAt s.heap x ox C od)(h:wpAny (model prog w) A.in1 (storeInOwnDict (.ref x) (.ref C) (.str name s.toks) name v false) (λj s'=>match j with|.done (.ret _)=>Q () s'|_=>False) (λ_ _=>False) {s with toks:=s.toks+1}):wpAny (model prog w) A (setAttr (.ref x) name v) Q E s:=by
 let F:=PySem.F.store_ValueError;let⟨cd,Y,G⟩:=any_some T.ln;rw[cn]at G;let D:=I.type (M:=model prog w);let J:Looks (model prog w) s.heap (mroOf (.ref C)) cd.mro:=(looks_clsIn X Y).andThen .now;let O:Looks (model prog w) s.heap (isInstance (.ref x) (.type "object")) true:=D.andThen (looks_mroIn X T.ob);let Z:=looks_findIn (M:=model prog w) X hn;let⟨hh,g,d,t,os⟩:=s;unfold setAttr;calc ae (wpAny_mkText (ae (ae (ae (D.at ((looks_findIn X T.sa).at (ik (ae ?_))))))));rw[F.slot.bind (.ref x)];calc aw (ae (ly (codeAny_call_builtin F.slot.plain F.entry (@check_slot (model prog w) _ _ _ "object.__setattr__" "object" "__setattr__" (.ref x) [.str name t,v] [] _ F.kind F.split O (F.args (.ref x) (.str name t) v) ?_))));show wpAny (model prog w) A.in1 (Builtin.«object.__setattr__» ⟨[.ref x,.str name t,v],[]⟩) _ _ _;rw[osa_eq,refuse_eq];calc ae (ae (D.at (ae (J.at ?_))));rw[Du _ G.2];calc aw (ae (D.at (ae (Z.at (ae (aw ?_))))));calc e_ h (λj s' z=>?_) λ_ _ z=>z.elim;cases j with
 | done f=>cases f with| ret u=>show aw (aw z)| next=>show z.elim| brk=>show z.elim| cont=>show z.elim
 | again c=>show z.elim
end
section
open Builtin Builtin.ObjectAttr
variable {prog:Program}{w:World}{A:Around}{E:AD}{h:Heap}{g:Array GenState}{d:Drawn}{t:Nat}{os:OsState}{K:Frag}{x C dx:Addr}{vs:Array Value}{sl:Array (Option Value)}{name:Str}{v:Value}{Q:Fin->Shared->Prop}{b:Bool}{tk:Tok}
def Zn (X:K.In h)(T:Dv K C)(hx:h.get? x=some ⟨.ref C,none,.fields vs,sl⟩)(hq:∀h' t',h'.Ns1 h.objs.size (λy=>if y=name then some v else none)->h'.get? x=some ⟨.ref C,some h.objs.size,.fields vs,sl⟩->(∀c o,c≠x->h.get? c=some o->h'.get? c=some o)->Q (.done (.ret .none)) ⟨h',g,d,t',os⟩):wpAny (model prog w) A (storeInOwnDict (.ref x) (.ref C) (.str name tk) name v b) Q E ⟨h,g,d,t,os⟩:=by
 let⟨cd,hc,J⟩:=any_some T.ln;rw[cn]at J;let xs:x≠h.objs.size:=cq (aI hx);calc ae (aw (ae (ae (wpAny_loadPart hx (ae ((looks_clsIn X hc).here ?_))))));rw[J.1];let j:(h.push {cls:=.type "dict",data:=.dict #[]}).get? x=some ⟨.ref C,none,.fields vs,sl⟩:=af _ hx;calc ae (wpAny_alloc' ?_);calc ae (wpAny_update' j ?_);calc aw ?_;generalize e1:((h.push {cls:=.type "dict",data:=.dict #[]}).update x λo=>{cls:=o.cls,dict:=some h.objs.size,data:=o.data,slots:=o.slots})=h1;let g1:h1.get? h.objs.size=some {cls:=.type "dict",data:=.dict #[]}:=by rw[<-e1];show(Heap.get?_update_ne _ _ _ _ xs.symm).trans (Heap.get?_push_at rL rL)
 let g2:h1.get? x=some ⟨.ref C,some h.objs.size,.fields vs,sl⟩:=by rw[<-e1];show ie _ j rfl
 let Y:∀c o,c≠x->h.get? c=some o->h1.get? c=some o:=λc o n z=>by rw[<-e1];show(Heap.get?_update_ne _ _ _ _ n).trans (af _ z)
 let n1:h1.Ns h.objs.size (λ_=>none):=⟨_,#[],_,g1,rL,(λe he=>absurd he qk),λ_=>rfl⟩
 show wpAny _ _ (storeInDict h.objs.size (.str name tk) name v) _ _ _;unfold storeInDict newKeyGuard;calc ae (aw (ae (wpAny_nsSet1 (Heap.Ns1.of_empty n1) λh2 I k2=>?_)));let⟨oD,O,Z,G,D,F⟩:=I.count (oB name v PySem.Within.nil);calc ae (wpAny_lookBehind G (by rw[D];show pastItsLine_dict (bP F (by rw[eh,p_,sizeLine_eq];lia))) (aw ?_));show hq h2 _ I ((k2.2 x xs).trans g2) λc o n z=>(k2.2 c (cq (aI z))).trans (Y c o n z)
def VD (X:K.In h)(T:Dv K C)(hx:h.get? x=some ⟨.ref C,some dx,.fields vs,sl⟩)(hn:h.Ns1 dx mA)(hw:PySem.Within mA ns)(hl:ns.length<=100)(Z:∀h' t',h'.Ns1 dx (λy=>if y=name then some v else mA y)->(∀c o,c≠dx->h.get? c=some o->h'.get? c=some o)->Q (.done (.ret .none)) ⟨h',g,d,t',os⟩):wpAny (model prog w) A (storeInOwnDict (.ref x) (.ref C) (.str name tk) name v b) Q E ⟨h,g,d,t,os⟩:=by let⟨cd,Y,I⟩:=any_some T.ln;rw[cn]at I;calc ae (aw (ae (ae (wpAny_loadPart hx (ae ((looks_clsIn X Y).here ?_))))));rw[I.1];calc aw ?_;show wpAny _ _ (storeInDict dx (.str name tk) name v) _ _ _;unfold storeInDict newKeyGuard;calc ae (aw (ae (wpAny_nsSet1 hn λh2 G k2=>?_)));let⟨oD,J,O,F,D,j⟩:=G.count (oB name v hw);calc ae (wpAny_lookBehind F (by rw[D];show pastItsLine_dict (bP j (by rw[eh,sizeLine_eq];lia))) (aw ?_));show Z h2 _ G λc o n z=>(k2.2 c n).trans z
end
def XD (a:Addr)(fs:List (Str×V)):Heap->Prop:=λh=>∃mA,h.Ns1 a mA/\(∀f,nF (fs.lookup f) (mA f))/\PySem.Within mA (fs.map (·.1))/\fs.length<=50
def XD.at {h h':Heap}(x:XD a fs h)(k:∀o,h.get? a=some o->h'.get? a=some o):XD a fs h':=let ⟨mA,n,r⟩:=x;⟨mA,n.at k,r⟩
def XD.ok (x:XD a fs h):gA P w H h a (.ext (XD a fs)):=⟨x,let ⟨_,⟨o,_,_,e,_⟩,_⟩:=x;⟨o,e⟩,λ_ _ y k=>y.at k⟩
def ajy (K : Frag)(ta tv : TE)(f : Str) : TS := λD σ H => tv σ H λy H1 => ta σ H1 λx j => ∃a C dd, x = .ref a /\ j a = some (.ext (jo a (.ref C) dd)) /\ Dv K C /\ findIn K (.ref C) f = some none /\
  ((dd = none /\ ∀dx, dx ≠ a -> j dx = none -> D.nx σ (upd (upd j dx (.ext (XD dx [(f, y)]))) a (.ext (jo a (.ref C) (some dx))))) \/
   ∃dx fs, dd = some dx /\ j dx = some (.ext (XD dx fs)) /\ fs.length<50 /\ D.nx σ (upd j dx (.ext (XD dx (iD f y fs)))))
section
variable {X:Cx}{o value:Expr}{f:Str}{pos pos':Pos}{ta tv:TE}
def wN (ha:QE X o ta)(hv:QE X value tv)(hs:swapsWith value (some (.Attribute o f pos')) pos.line X.env=pure false):QS X (.Assign [.Attribute o f pos'] value pos) (ajy X.K ta tv f):=⟨by
 intro ao s σ H D I h;calc plainObj_wpAny_Assign_Attribute (cH (hv.out ao s σ H _ I h) λu s1 zz=>?_) hs;let⟨y,H1,I1,ry,q⟩:=zz;calc cH (ha.out ao s1 σ H1 _ I1 q) λov s2 zz=>?_;let⟨x,G,J,rx,a,C,dd,ex,ea,T,hn,q2⟩:=zz;subst ex;obtain rfl:ov=Value.ref a:=rx;obtain⟨⟨oe,vs,Z,h1,h2,h3,h4,h42,h5⟩,_⟩:=J.hok a _ ea;let⟨oc,od,oda,osl⟩:=oe;dsimp only at h1 h2 h3;subst h1 h2 h3;let hk:X.K.In s2.heap:=J.jw;let⟨j,g,d,t,os⟩:=s2;rcases q2 with⟨rfl,q2⟩|⟨dx,fs,rfl,hdx,hl,q2⟩
 .calc O4 hk T hn (od:=none) ⟨Z,rL,rL,True.intro⟩ (Zn hk T Z λh' t' n' e' Y=>?_);let xs:a≠j.objs.size:=cq (aI Z);let nN:G j.objs.size=none:=J.hok.fresh (ai _);let na:∀b,G b=none->b≠a:=λb n z=>by rw[z,ea]at n;cases n
  let ne:∀b w,G b=some w->(∀φ,w≠.ext φ)->b≠a/\b≠j.objs.size:=λb w e n=>⟨λz=>by rw[z,ea]at e;cases e;show n _ rL,λz=>by rw[z,nN]at e;cases e⟩
  let up:∀b,b≠a->b≠j.objs.size->upd (upd G j.objs.size (.ext (XD j.objs.size [(f,y)]))) a (.ext (jo a (.ref C) (some j.objs.size))) b=G b:=λb n1 F=>by rw[aZ n1,aZ F]
  let lt:∀b o,j.get? b=some o->b≠j.objs.size:=λb o z=>cq (aI z);let hD:XD j.objs.size [(f,y)] h':=⟨_,n',λg'=>by
    show nF (List.lookup g' [(f,y)]) (if g'=f then some u else none);by_cases q:g'=f;.rw[if_pos q,q];simp only[List.lookup,beq_self_eq_true];show ry
    .rw[if_neg q];have:(g'==f)=false:=beq_false_of_ne q;simp only[List.lookup,this];trivial,λg' hg=>by
    by_cases q:g'=f;.rw[q];simp
    .show absurd (show (if g'=f then some u else none)=none by rw[if_neg q]) hg,by show 1<=50;decide⟩
  let I3:aW X ao σ (upd (upd G j.objs.size (.ext (XD j.objs.size [(f,y)]))) a (.ext (jo a (.ref C) (some j.objs.size)))) ⟨h',g,d,t',os⟩:=J.un (t':=t')
   ⟨λb o z n _ _=>Y b o (na b n) z,λb o z n _ _=>⟨o.slots,Y b o (na b n) z⟩,λb o z n _=>(up b (na b n) (lt b o z)).trans n,λb o z _=>by
    by_cases hb:b=a;.show⟨_,by rw[hb];show e'⟩
    .show⟨o,Y b o hb z⟩,λb xs e=>by
    let⟨n1,F⟩:=ne b _ e λφ=>by simp
    show(up b n1 F).trans e,λb o xs e=>by
    let⟨n1,F⟩:=ne b _ e λφ=>by simp
    show(up b n1 F).trans e,λb ps e=>by
    let⟨n1,F⟩:=ne b _ e λφ=>by simp
    show⟨#[],by rw[up b n1 F,e];simp⟩⟩ λb o e=>by
   by_cases hb:b=a
   .subst hb;rw[aA]at e;cases e;show jo.ok ⟨_,_,e',rL,rL,rL,h4,h42,λz=>xs (bo z).symm⟩
   .rw[aZ hb]at e;by_cases hn:b=j.objs.size
    .subst hn;rw[aA]at e;cases e;show hD.ok
    .rw[aZ hn]at e;refine(J.hok b o e).stay (λc w O z=>Y c w (λy=>?_) z) (λc r=>?_) λc xs r=>?_
     .rcases O with O|O;.show hb (O.symm.trans y)
      .rw[y,ea]at O;cases O
     .let⟨n1,F⟩:=ne c _ r λφ=>by simp
      show(up c n1 F).trans r
     .let⟨n1,F⟩:=ne c _ r λφ=>by simp
      show(up c n1 F).trans r
  show⟨σ,_,I3,q2 _ xs.symm nN⟩
 .obtain⟨⟨mA,nA,rA,wA,lA⟩,⟨od,hod⟩,_⟩:=J.hok dx _ hdx;calc O4 hk T hn (od:=some od) ⟨Z,rL,rL,hod⟩ (VD (ns:=fs.map (·.1)) hk T Z nA wA (by rw[aa];lia) λh' t' n' Y=>?_);let I3:aW X ao σ (upd G dx (.ext (XD dx (iD f y fs)))) ⟨h',g,d,t',os⟩:=J.write (t':=t') (e:=dx) (by rw[hdx];trivial) (.inl rL) (λb o n z=>Y b o n z) (let ⟨o,_,_,e,_⟩:=n';⟨o,e⟩)
   (XD.ok ⟨_,n',λg'=>?_,λg' hg=>?_,?_⟩)
  .show⟨σ,_,I3,q2⟩
  .show nF ((iD f y fs).lookup g') (if g'=f then some u else mA g');rw[yW];by_cases q:g'=f;.rw[if_pos q,if_pos q];show ry
   .rw[if_neg q,if_neg q];show rA g'
  .by_cases q:g'=f;.rw[q];show(uY f y fs).1
   .calc(uY f y fs).2 g' (wA g' λz=>hg ?_);show (if g'=f then some u else mA g')=none;rw[if_neg q];show z
  .have:=yX f y fs;lia⟩
end
structure InitOf (K:Frag)(R:Addr):Prop where
 ga:specialIn K (.ref R) "__getattribute__"=some (some (.builtin "type.__getattribute__"))
 rd:readsIn K R (.type "type")=true
 fc:findCls K (.ref R) (.type "type") "__init__"=some (.val (.builtin "ValueError.__init__"))
def adf (K:Frag)(t:TA):TE:=λσ H Q=>t σ H λvs H1=>∃a C f dd rest,vs=.ref a::rest/\H1 a=some (.ext (jo a (.ref C) dd))/\yp K C f=true/\rest.length<=sizeLine/\Q .non H1
section
variable {X:Cx}{R:Addr}{x:Str}{np apos pos:Pos}{e:Expr}{es:List Expr}{t:TA}
def vX {pl:Sem Bool}(hg:Gl X x)(hm:X.mg x=some (.ref R))(F:InitOf X.K R)(ha:QA X (e::es) t)(Y:(x==("__debug__":Str))=false:=by decide)(hs:starEach (e::es) X.env=(false,eval e X.env)::starEach es X.env:=by rfl)(J:(backTo pos (starEach es X.env)).any (·.1)=false:=by rfl)(ht:eval (.Call (.Attribute (.Name x np) "__init__" apos) (e::es) [] pos) X.env=(do
   let ov <- eval (.Name x np) X.env
   standAt apos.atName
   let (f,first) <- holding [ov] (getMethod ov "__init__" pl)
   callWith pos f first (backTo pos (starEach (e::es) X.env)) (backToKw pos (keywordEach [] X.env))):=by rfl) :
  QE X (.Call (.Attribute (.Name x np) "__init__" apos) (e::es) [] pos) (adf X.K t):=⟨by
 intro ao s σ H Q I h;calc methodCall_KW (pl:=pl) (pO I hg hm ?_ Y) ht;calc method_cls I.jw F.ga (cls_value I.jw F.rd F.fc rL ?_);let I0:=I.tok (s.toks+1);calc mS (cH (ha.out pos ao _ σ H _ I0 h) λus s1 zz=>?_) hs J;let⟨vs,H1,I1,r1,a,C,f,dd,rest,ev,O,hC,hz,q⟩:=zz;subst ev;let⟨bm,N,nm,qn,bs,sn,sub,ab,col,dd',k0,k1,k2,k3,k5,mN,cC,cN,ci,T⟩:=Mf I1.jw hC;obtain⟨⟨oe,ws,he,h1,h2,h3,h4,Z,h5⟩,_⟩:=I1.hok a _ O;obtain⟨u,j,rfl,ra,rr⟩:∃u j,us=u::j/\cL (.ref a) u/\Vals rest j:=by
  cases r1 with| cons ra rr=>show⟨_,_,rL,ra,rr⟩
 obtain rfl:u=Value.ref a:=ra;let⟨D,g,d,tk,os⟩:=s1;let hsz:0<ws.size:=jI (fe 1) (gc.mp h4).1;calc abf T cC he h1 h3 hsz (by rw[<-rr.length];show hz) ?_;let e1:(D.push (newArgs j)).get? a=some oe:=af _ he;let I2:aW X ao σ H1 ⟨D.push (newArgs j),g,d,tk,os⟩:=I1.kept (t':=tk) λb u z=>af _ z;let G:=og h3 (·.setIfInBounds 0 (Value.ref D.objs.size));let e2:((D.push (newArgs j)).update a (Obj.mapFields (·.setIfInBounds 0 (.ref D.objs.size)))).get? a=some (oe.mapFields (·.setIfInBounds 0 (.ref D.objs.size))):=ie _ e1 (kq G);let I3:aW X ao σ (upd H1 a (.ext (jo a (.ref C) dd))) ⟨(D.push (newArgs j)).update a (Obj.mapFields (·.setIfInBounds 0 (.ref D.objs.size))),g,d,tk,os⟩:=I2.write (t':=tk) (e:=a) (by rw[O];trivial) (.inl rL)
  (λb u n z=>(fz _ _ (gu n)).trans z) ⟨_,e2⟩ (jo.ok ⟨_,_,e2,(Obj.cls_mapFields _ _).trans h1,(OJ _ _).trans h2,G,by rw[iS qo];show h4,by rw[iS qo];show Z,h5⟩)
 rw[show upd H1 a (.ext (jo a (.ref C) dd))=H1 from funext λb=>by
  by_cases hb:b=a;.rw[hb,aA,O]
  .rw[aZ hb]]at I3
 show⟨.non,H1,I3,rL,q⟩⟩
end
def drop_new (na:H a=none)(ne:dx≠a)(nd:upd H a o dx=none):aD H (drop (upd (upd (upd H a o) dx p) a q) a)/\drop (upd (upd (upd H a o) dx p) a q) a dx=some p:=by
 rw[aZ ne]at nd;refine⟨λb u e=>?_,?_⟩
 .let h1:b≠a:=aN e na;let h2:b≠dx:=aN e nd;rw[j7 h1,aZ h1,aZ h2,aZ h1];show e
 .rw[j7 ne,aZ ne,aA]
structure qw (K:Frag)(mg:Str->Option Value)(name:Str)(C f:Addr)(fs:List Str):Prop where
 vg:mg name=some (.ref C)
 M:MkX K C f
 T:Dv K C
 is:ajv K C
 hd:hasDictIn K C=true
 no:∀g∈fs,findIn K (.ref C) g=some none
def JW (C:Addr)(nm:Str):Sp:=λvs H Q _=>∃(a:Addr) (v:V),vs=[.ref a,v]/\H a=some (.ext (jo a (.ref C) none))/\∀dx,dx≠a->H dx=none->Q .non (upd (upd H dx (.ext (XD dx [(nm,v)]))) a (.ext (jo a (.ref C) (some dx))))
def JX (C:Addr)(n1 j:Str):Sp:=λvs H Q _=>∃(a:Addr) (v w:V),vs=[.ref a,v,w]/\H a=some (.ext (jo a (.ref C) none))/\∀dx,dx≠a->H dx=none->Q .non (upd (upd (upd H dx (.ext (XD dx [(n1,v)]))) a (.ext (jo a (.ref C) (some dx)))) dx (.ext (XD dx (iD j w [(n1,v)]))))
section
variable {prog:Program}{w:World}{A:Around}{E:AD}{s:Shared}{z ti to u v a b:Addr}{i:Nat}{f g:Array Value}{x y m n:Value}
def abg {Q:AD}(D:ZA z ti to u v a b)(hz:IsZip s.heap z ti to .none)(hi:IsPair s.heap ti (.ref u) (.ref v))(ho:IsPair s.heap to m n)(hu:s.heap.IsListIter u a i)(hv:s.heap.IsListIter v b i)(ha:s.heap.IsList a f)(hb:s.heap.IsList b g)(hx:f[i]?=some x)(hy:g[i]?=some y)(q:∀h',IsZip h' z ti to (rawInt s.heap.objs.size)->IsPair h' to x y->h'.IsListIter u a (i+1)->h'.IsListIter v b (i+1)->IsPair h' s.heap.objs.size x y->
   (∀c o,c≠z->c≠to->c≠u->c≠v->s.heap.get? c=some o->h'.get? c=some o)->Q (.ref s.heap.objs.size) {s with heap:=h' }) :
  wpAny (model prog w) A (Builtin.«zip.__next__» ⟨[.ref z],[]⟩) (λO s'=>∃r,O=.done (.ret r)/\Q r s') E s:=by
 show wpAny _ _ (field (.ref z) 2 >>= _) _ _ _;calc ae (fm hz rL (x:=.bool false) rL ?_);show wpAny _ _ (field (.ref z) 3 >>= _) _ _ _;calc ae (fm hz rL (x:=.ref ti) rL (ae (ku hi rL ?_)));show wpAny _ _ (Builtin.SmallTypes.ownedTupleIsFree (.ref z) >>= _) _ _ _;calc ae ?_;unfold Builtin.SmallTypes.ownedTupleIsFree;calc ae (fm hz rL (x:=.none) rL (aw ?_));simp only[if_true];calc ae (oQ (ae (fm hz rL (x:=.ref to) rL (ae (j3 hz qk λg1 Z k1=>?_)))));replace Z:IsZip g1 z ti to .ellipsis:=Z;calc ae ?_;simp only[List.zipIdx_cons,List.zipIdx_nil,gt,qf];calc ae (ae (ow ?_));show wpAny _ _ (Builtin.SmallTypes.nextOf (.ref u) >>= _) _ _ _;calc ae (mh (hu.at λo e=>k1.extBut _ o D.q3 e) (lL ha λo e=>k1.extBut _ o D.p2 e) hx λg2 u2 k2=>aw ?_);let o2:IsPair g2 to m n:=k2.extBut _ _ D.q8 (k1.extBut _ _ D.q2 ho);calc ae (ku o2 rL (ae (nB o2 λg3 J k3=>?_)));replace J:IsPair g3 to x n:=J;calc ae (wpAny_letGo (aw ?_));calc ae (ae (ow ?_));show wpAny _ _ (Builtin.SmallTypes.nextOf (.ref v) >>= _) _ _ _;calc ae (mh (hv.at λo e=>k3.extBut _ o D.q9.symm (k2.extBut _ o D.p1.symm (k1.extBut _ o D.q4 e))) (lL hb λo e=>k3.extBut _ o D.p7 (k2.extBut _ o D.p8 (k1.extBut _ o D.p6 e))) hy λg4 v4 k4=>aw ?_);let o4:IsPair g4 to x n:=k4.extBut _ _ D.q9 J;calc ae (ku o4 rL (ae (nB o4 λj F k5=>?_)));replace F:IsPair j to x y:=F;calc ae (wpAny_letGo (aw (aw ?_)));calc ae (ku F rL (ae (wpAny_newTuple ?_)));let sz:j.objs.size=s.heap.objs.size:=by rw[k5.1,k4.1,k3.1,k2.1,k1.1]
 let z5:IsZip j z ti to .ellipsis:=k5.extBut _ _ D.q2.symm (k4.extBut _ _ D.q4.symm (k3.extBut _ _ D.q2.symm (k2.extBut _ _ D.q3.symm Z)));let kk:∀c o,c≠z->c≠to->c≠u->c≠v->s.heap.get? c=some o->j.get? c=some o:=λc o c1 c2 c3 c4 e=>k5.extBut _ _ c2 (k4.extBut _ _ c4 (k3.extBut _ _ c2 (k2.extBut _ _ c3 (k1.extBut _ _ c1 e))));let u5:j.IsListIter u a (i+1):=u2.at λo e=>k5.extBut _ o D.q8.symm (k4.extBut _ o D.p1 (k3.extBut _ o D.q8.symm e));let v5:j.IsListIter v b (i+1):=v4.at λo e=>k5.extBut _ o D.q9.symm e;let lz:z<j.objs.size:=aI z5;show wpAny _ _ (Builtin.SmallTypes.ownedTupleHandOut (.ref z) (.ref j.objs.size) >>= _) _ _ _;calc ae ?_;unfold Builtin.SmallTypes.ownedTupleHandOut;let z6:IsZip (j.push {cls:=.type "tuple",data:=.seq #[x,y]}) z ti to .ellipsis:=af _ z5;refine ae (j3 z6 qk λg7 Y k7=>?_)
 replace Y:IsZip g7 z ti to (rawInt j.objs.size):=Y;refine j3 Y qk λI G k8=>?_
 replace G:IsZip I z ti to (rawInt j.objs.size):=G;let up:∀c o,c≠z->j.get? c=some o->I.get? c=some o:=λc o c1 e=>k8.extBut _ _ c1 (k7.extBut _ _ c1 (af _ e));let t8:IsPair I j.objs.size x y:=k8.extBut _ _ (kn lz) (k7.extBut _ _ (kn lz) (bd _ rL));rw[sz]at G t8;calc aw ⟨_,rL,?_⟩;show Q (.ref j.objs.size) _;rw[sz];show q I G (up _ _ D.q2 F) (u5.at λo e=>up _ o D.q3 e) (v5.at λo e=>up _ o D.q4 e) t8 λc o c1 c2 c3 c4 e=>up c o c1 (kk c o c1 c2 c3 c4 e)
def adg (hh:A.handled=none)(D:ZA z ti to u v a b)(hz:IsZip s.heap z ti to .none)(hi:IsPair s.heap ti (.ref u) (.ref v))(Z:IsPair s.heap to m n)(hu:s.heap.IsListIter u a i)(hv:s.heap.IsListIter v b i)(ha:s.heap.IsList a f)(hb:s.heap.IsList b g)(hx:f[i]?=some x)(hy:g[i]?=none)(q:∀h' e,(∀c o,c≠z->c≠to->c≠u->c≠v->s.heap.get? c=some o->h'.get? c=some o)->(∃o,h'.get? e=some o/\o.cls=.type "StopIteration")->E (.ref e) {s with heap:=h' }):wpAny (model prog w) A (Builtin.«zip.__next__» ⟨[.ref z],[]⟩) Q E s:=by
 show wpAny _ _ (field (.ref z) 2 >>= _) _ _ _;calc ae (fm hz rL (x:=.bool false) rL ?_);show wpAny _ _ (field (.ref z) 3 >>= _) _ _ _;calc ae (fm hz rL (x:=.ref ti) rL (ae (ku hi rL ?_)));show wpAny _ _ (Builtin.SmallTypes.ownedTupleIsFree (.ref z) >>= _) _ _ _;calc ae ?_;unfold Builtin.SmallTypes.ownedTupleIsFree;calc ae (fm hz rL (x:=.none) rL (aw ?_));simp only[if_true];calc ae (oQ (ae (fm hz rL (x:=.ref to) rL (ae (j3 hz qk λg1 j k1=>?_)))));replace j:IsZip g1 z ti to .ellipsis:=j;calc ae ?_;simp only[List.zipIdx_cons,List.zipIdx_nil,gt,qf];calc ae (ae (ow ?_));show wpAny _ _ (Builtin.SmallTypes.nextOf (.ref u) >>= _) _ _ _;calc ae (mh (hu.at λo e=>k1.extBut _ o D.q3 e) (lL ha λo e=>k1.extBut _ o D.p2 e) hx λg2 u2 k2=>aw ?_);let F:IsPair g2 to m n:=k2.extBut _ _ D.q8 (k1.extBut _ _ D.q2 Z);calc ae (ku F rL (ae (nB F λO G k3=>?_)));replace G:IsPair O to x n:=G;calc ae (wpAny_letGo (aw ?_));calc ae (ae (ow ?_));show wpAny _ _ (Builtin.SmallTypes.nextOf (.ref v) >>= _) _ _ _;calc ae (wpAny_nextOf_list_end hh (hv.at λo e=>k3.extBut _ o D.q9.symm (k2.extBut _ o D.p1.symm (k1.extBut _ o D.q4 e))) (lL hb λo e=>k3.extBut _ o D.p7 (k2.extBut _ o D.p8 (k1.extBut _ o D.p6 e))) hy λJ e k4 he=>?_);let⟨oe,e1,e2⟩:=he;let I:IsZip J z ti to .ellipsis:=k4 _ _ D.q4.symm (k3.extBut _ _ D.q2.symm (k2.extBut _ _ D.q3.symm j));let ez:e≠z:=λt=>by subst t;rw[I]at e1;cases e1;simp at e2
 show j3 I qk λY _ k5=>q Y e (λc o c1 c2 c3 c4 t=>k5.extBut _ _ c1 (k4 _ _ c4 (k3.extBut _ _ c2 (k2.extBut _ _ c3 (k1.extBut _ _ c1 t))))) ⟨oe,k5.extBut _ _ ez e1,e2⟩
abbrev zl1 (h:Heap)(a:Addr):Heap:=h.push {cls:=.type "list_iterator",data:=.fields #[.ref a,.int 0 0]}
abbrev zl2 (h:Heap)(a b:Addr):Heap:=(zl1 h a).push {cls:=.type "list_iterator",data:=.fields #[.ref b,.int 0 0]}
abbrev zl3 (h:Heap)(a b:Addr):Heap:=(zl2 h a b).push {cls:=.type "tuple",data:=.seq #[.ref h.objs.size,.ref (zl1 h a).objs.size]}
abbrev zl4 (h:Heap)(a b:Addr):Heap:=(zl3 h a b).push {cls:=.type "tuple",data:=.seq #[.none,.none]}
abbrev W9 (h:Heap)(a b:Addr):Heap:=(zl4 h a b).push {cls:=.type "zip",data:=.fields #[.none,.bool false,.bool false,.ref (zl2 h a b).objs.size,.ref (zl3 h a b).objs.size]}
def afy (a b)(f g):Meets (Builtin.«zip.__new__» ⟨[.type "zip",.ref a,.ref b],[]⟩) (λ_ R s=>s.heap.IsList a f/\s.heap.IsList b g/\R (.ok (.ret (.ref (zl4 s.heap a b).objs.size))) {s with heap:=W9 s.heap a b}):=
 .of_wp λprog w A R s h=>by
  let⟨hp,j,d,tk,os⟩:=s;let⟨h1,h2,h⟩:=h;let D:=sub_zip;let j1:Heap.IsList (Shared.heap ⟨hp,j,d,tk,os⟩) a f:=h1;let j2:Heap.IsList (Shared.heap ⟨hp.push {cls:=.type "list_iterator",data:=.fields #[.ref a,.int 0 0]},j,d,tk,os⟩) b g:=lL h2 λo e=>af _ e
  wp_walk using im j1,im j2
  show⟨_,rL,h⟩
def akm (ha:s.heap.IsList a f)(hb:s.heap.IsList b g)(q:∀h',IsZip h' (s.heap.objs.size+4) (s.heap.objs.size+2) (s.heap.objs.size+3) .none->IsPair h' (s.heap.objs.size+2) (.ref s.heap.objs.size) (.ref (s.heap.objs.size+1))->IsPair h' (s.heap.objs.size+3) .none .none->
   h'.IsListIter s.heap.objs.size a 0->h'.IsListIter (s.heap.objs.size+1) b 0->(∀c o,s.heap.get? c=some o->h'.get? c=some o)->Q (.ref (s.heap.objs.size+4)) {s with heap:=h' }) :
  wpAny (model prog w) A (call (.type "zip") [.ref a,.ref b]) Q E s:=by
 calc callType_new F.called_zip qo (F.typeCall_zip_2 _ _) (F.newCall_zip_2 _ _) (λobj=>F.args_object_init_3 obj _ _) F.entry_zip_new (afy a b f g) ⟨ha,hb,?_⟩;let n1:(zl1 s.heap a).objs.size=s.heap.objs.size+1:=fi ..;let D:(zl2 s.heap a b).objs.size=s.heap.objs.size+2:=by rw[fi,n1]
 let j:(zl3 s.heap a b).objs.size=s.heap.objs.size+3:=by rw[fi,D]
 let n4:(zl4 s.heap a b).objs.size=s.heap.objs.size+4:=by rw[fi,j]
 let e5:(W9 s.heap a b).get? (zl4 s.heap a b).objs.size=some _:=bd _ rfl;let e4:(W9 s.heap a b).get? (zl3 s.heap a b).objs.size=some _:=af _ (bd _ rL);let e3:(W9 s.heap a b).get? (zl2 s.heap a b).objs.size=some _:=af _ (af _ (bd _ rL));let e2:(W9 s.heap a b).get? (zl1 s.heap a).objs.size=some _:=af _ (af _ (af _ (bd _ rL)));let e1:(W9 s.heap a b).get? s.heap.objs.size=some _:=af _ (af _ (af _ (af _ (bd _ rL))));show _/\_;rw[D,j,n4]at e5;rw[n1,D]at e3;rw[j]at e4;rw[n1]at e2;rw[n4];show⟨⟨_,e5,rL⟩,q _ e5 e3 e4 ⟨_,e1,rL,rL⟩ ⟨_,e2,rL,rL⟩ λc o t=>af _ (af _ (af _ (af _ (af _ t))))⟩
end
def adh (K:W.Frag)(a b:Addr):It:=⟨λi H=>∃xs ys x y,bH K H a xs/\bH K H b ys/\xs[i]?=some x/\ys[i]?=some y,λi H t H'=>∃T x y,H T=none/\t=.ref T/\(∀xs,bH K H a xs->xs[i]?=some x)/\(∀ys,bH K H b ys->ys[i]?=some y)/\H'=upd H T (.tup [x,y]),λi H=>∃xs ys,bH K H a xs/\bH K H b ys/\i<xs.length/\ys.length<=i⟩
def abh {P:Program}{w:World}{K:W.Frag}{elts:List Expr}{x1:Nat}{pos:Pos}{z ti to u v a b:Addr}(D:ZA z ti to u v a b):Turn P w K (.Tuple elts x1 pos) (adh K a b) [z,ti,to,u,v] z (λi h=>IsZip h z ti to .none/\IsPair h ti (.ref u) (.ref v)/\(∃m n,IsPair h to m n)/\h.IsListIter u a i/\h.IsListIter v b i) where
 mem:=by simp
 obj:=λi h st c j=>by
  obtain⟨h1,h2,⟨m,n,h3⟩,⟨o4,h4,_,d4⟩,⟨o5,h5,_,d5⟩⟩:=st;simp only[bX,kL,or_false]at j;rcases j with e|e|e|e|e <;> subst e
  .show⟨_,h1,λv y=>by cases y⟩
  .show⟨_,h2,λv y=>by cases y⟩
  .show⟨_,h3,λv y=>by cases y⟩
  .show⟨o4,h4,λv y=>by rw[d4]at y;cases y⟩
  .show⟨o5,h5,λv y=>by rw[d5]at y;cases y⟩
 keep:=λi h h' st k=>by obtain⟨h1,h2,⟨m,n,h3⟩,h4,h5⟩:=st;show⟨k z qk _ h1,k ti qk _ h2,⟨m,n,k to qk _ h3⟩,h4.at λo e=>k u qk o e,h5.at λo e=>k v qk o e⟩
 item:=by
  intro X Z hw hK j i ao s σ H E I hf st hg;subst Z hw hK;obtain⟨h1,h2,⟨m,n,h3⟩,h4,h5⟩:=st;let⟨xs,ys,x,y,J,G,hx,hy⟩:=hg;let⟨fs,rf,pf,_⟩:=I.list J;let⟨gs,rg,pg,_⟩:=I.list G;let⟨p,ep,rp⟩:=rf.get hx;let⟨q,eq,rq⟩:=rg.get hy;let lt:∀c∈[z,ti,to,u,v],c<s.heap.objs.size:=λc j=>by
   simp only[bX,kL,or_false]at j;rcases j with e|e|e|e|e <;> subst e
   .show aI h1
   .show aI h2
   .show aI h3
   .let⟨o,e,_⟩:=h4;show aI e
   .let⟨o,e,_⟩:=h5;show aI e
  let Y:s.TypeIs (.ref z) "zip":=⟨_,h1,rL⟩
  unfold pyNext;calc ae (wpAny_attempt (iX (name:=Str.ofString "__next__") Y nE (gT nE Y F.entry_zip_next ?_ (F.args_zip_next_1 _))));calc abg D h1 h2 h3 h4 h5 (show s.heap.IsList a fs.toArray from pf.isList) (show s.heap.IsList b gs.toArray from pg.isList) (x:=p) (y:=q) (by simpa using ep) (by simpa using eq) λh' k1 k2 k3 k4 k5 k6=>aw ?_;calc⟨_,rL,wpAny_letOwnedTupleGo_zip k1 λh2' e2 O=>?_⟩;let up:∀c o,c∉[z,ti,to,u,v]->s.heap.get? c=some o->h2'.get? c=some o:=λc o j e=>by simp only[bX,kL,or_false,not_or]at j;show O.extBut _ _ j.1 (k6 c o j.1 j.2.2.1 j.2.2.2.1 j.2.2.2.2 e)
  let nz:s.heap.objs.size≠z:=kn (lt z qk);let⟨I3,fr⟩:=aW.aju (tk:=s.toks) I hf lt rp rq (O.extBut _ _ nz k5) up;show⟨.ref s.heap.objs.size,_,I3,rL,⟨s.heap.objs.size,x,y,I.hok.fresh (ai _),rL,λzs hz=>by rw[I.Hu hz J];show hx,λzs hz=>by rw[I.Hu hz G];show hy,rL⟩,
   ⟨e2,O.extBut _ _ D.q1 (k6 _ _ D.q1 D.q5 D.q6 D.q7 h2),⟨_,_,O.extBut _ _ D.q2 k2⟩,k3.at λo e=>O.extBut _ o D.q3 e,k4.at λo e=>O.extBut _ o D.q4 e⟩,fr⟩
 done:=by
  intro X Z hw hK j i ao s σ H E I hf st hg;subst Z hw hK;obtain⟨h1,h2,⟨m,n,h3⟩,h4,h5⟩:=st;let⟨xs,ys,J,G,hx,hl⟩:=hg;let⟨fs,rf,pf,_⟩:=I.list J;let⟨gs,rg,pg,_⟩:=I.list G;let dB:=rg.length;let⟨p,ep,rp⟩:=rf.get (ac hx);let hh:X.A.in1.handled=none:=by simp[I.ok.hd j]
  let Y:s.TypeIs (.ref z) "zip":=⟨_,h1,rL⟩
  unfold pyNext;calc ae (wpAny_attempt (iX (name:=Str.ofString "__next__") Y nE (gT nE Y F.entry_zip_next ?_ (F.args_zip_next_1 _))));calc adg hh D h1 h2 h3 h4 h5 (show s.heap.IsList a fs.toArray from pf.isList) (show s.heap.IsList b gs.toArray from pg.isList) (x:=p) (by simpa using ep) (by simp;simp_all) λh' e k zz=>?_;let⟨o,e1,e2⟩:=zz;calc ae (wpAny_isInstance (T:="StopIteration") (b:=true) ⟨o,e1,e2⟩ isSubtype_stop ?_);calc aw ⟨rL,aW.Ma (fp:=[z,ti,to,u,v]) (t':=s.toks) I (λc o j e=>?_) hf⟩;simp only[bX,kL,or_false,not_or]at j;show k c o j.1 j.2.2.1 j.2.2.2.1 j.2.2.2.2 e
 self:=λA i s Q E st h=>wpAny_pyIter_zip st.1 h
section
variable {X:Cx}{elts:List Expr}{x1:Nat}{tp:Pos}
def ajz (K:W.Frag)(ta:TA):TI:=λσ H R=>ta σ H λvs H1=>∃a b,vs=[.ref a,.ref b]/\(∃xs,bH K H1 a xs)/\(∃ys,bH K H1 b ys)/\R (adh K a b) H1
def afz {a b:Expr}{ta:TA}{p pos:Pos}(hg:Gl X "zip")(hm:X.mg "zip"=none)(ha:QA X [a,b] ta)(hs:starEach [a,b] X.env=[(false,eval a X.env),(false,eval b X.env)]:=by rfl)(G:starEach [b] X.env=[(false,eval b X.env)]:=by rfl):QI X (.Tuple elts x1 tp) (.Call (.Name "zip" p) [a,b] [] pos) (ajz X.K ta):=⟨by
 intro ao s σ H R I h;calc Call_ (rJ I hg hm abd (eW (cH (ha.out pos ao s σ H _ I h) λus s1 zz=>?_) (by rw[hs,G]) (by rw[G];rfl)));let⟨vs,H1,J,r1,q1⟩:=zz;obtain⟨a,b,e,⟨xs,Z⟩,⟨ys,O⟩,q⟩:=q1;subst e;cases r1 with
 | cons r rr=>
  cases rr with
  | cons r' rr=>
   cases rr;cases r;cases r';let⟨fs,rf,pf,_⟩:=J.list Z;let⟨gs,rg,pg,_⟩:=J.list O;let la:a<s1.heap.objs.size:=by
    let⟨o,Y,_⟩:=(show s1.heap.IsList a fs.toArray from pf.isList)
    show aI Y
   let lb:b<s1.heap.objs.size:=by
    let⟨o,Y,_⟩:=(show s1.heap.IsList b gs.toArray from pg.isList)
    show aI Y
   calc akm (show s1.heap.IsList a fs.toArray from pf.isList) (show s1.heap.IsList b gs.toArray from pg.isList) λh' k1 k2 k3 k4 k5 kk=>wpAny_pyIter_zip k1 ?_;let D:ZA (s1.heap.objs.size+4) (s1.heap.objs.size+2) (s1.heap.objs.size+3) s1.heap.objs.size (s1.heap.objs.size+1) a b:=by
    let j:∀N a b:Nat,a<N->b<N->ZA (N+4) (N+2) (N+3) N (N+1) a b:=λN a b la lb=>by constructor <;> (show (_:Nat)≠_) <;> lia
    show j _ _ _ la lb
   calc⟨s1.heap.objs.size+4,[s1.heap.objs.size+4,s1.heap.objs.size+2,s1.heap.objs.size+3,s1.heap.objs.size,s1.heap.objs.size+1],_,_,H1,rL,J.kept (t':=s1.toks) kk,abh D,⟨k1,k2,⟨_,_,k3⟩,k4,k5⟩,λc hc=>?_,q⟩;let F:s1.heap.objs.size<=c:=by
    simp only[bX,kL,or_false]at hc;let j:∀N c:Nat,(c=N+4\/c=N+2\/c=N+3\/c=N\/c=N+1)->N<=c:=λN c h=>by lia
    show j _ _ hc
   show J.yV F (J.hok.fresh F)⟩
end
def ahS {K KT:W.Frag}{a b D:Addr}{xs ys:List V}{f:St->St}{tt:TT}{te:TE}{σ:St}{H:Hp}{R:Hp->Prop}(G:xs.length=ys.length+1)(j:Nat->List V->Hp->Prop)(h0:j 0 [] (upd H D (.lst [])))(hl:∀i zs H,i<=ys.length->j i zs H->bH K H a xs/\bH K H b ys)(hs:∀i x y zs H T,xs[i]?=some x->ys[i]?=some y->j i zs H->H T=none->QM ys.length i D (λv H Q=>∃a p q,v=.ref a/\aU KT H a [p,q]/\Q [some p,some q]) f σ tt te (.ref T) (upd H T (.tup [x,y])) zs (j (i+1)))(hd:∀zs H,j ys.length zs H->R H):Dk (adh K a b) D H R (TgB (λv H Q=>∃a p q,v=.ref a/\aU KT H a [p,q]/\Q [some p,some q]) f σ tt te):=
 acX ys.length j h0 (λi zs H h p=>by let⟨q1,q2⟩:=hl i zs H (av h) p;show⟨⟨xs,ys,xs[i],ys[i],q1,q2,by simp[show i<xs.length by lia],by simp[h]⟩,λt H' y=>by let⟨T,x,y,F,rfl,hx,hy,rfl⟩:=y;show hs i x y zs H T (hx xs q1) (hy ys q2) p F⟩) λzs H p=>⟨⟨xs,ys,(hl _ zs H (ai _) p).1,(hl _ zs H (ai _) p).2,qi,ai _⟩,hd zs H p⟩
section
variable {prog:Program}{w:World}{A:Around}{E:AD}{s:Shared}
variable {X:Cx}
def afA {a b:Addr}{D ob:Obj}{na nb:Nat}{x1 j:Nat}{J I G O:Tok}{Q:AD}(ha:s.heap.get? a=some D)(ca:D.cls=.type "tuple")(da:D.data=.seq [Value.int x1 J,Value.int j I].toArray na)(hb:s.heap.get? b=some ob)(cb:ob.cls=.type "tuple")(db:ob.data=.seq [Value.int x1 G,Value.int j O].toArray nb)(hu:A.units<cLine)(q:Q (.bool false) s):wpAny (model prog w) A (compareOp .Lt (.ref a) (.ref b)) Q E s:=by
 let Y:s.TypeIs (.ref a) "tuple":=⟨D,ha,ca⟩
 let Z:s.TypeIs (.ref b) "tuple":=⟨ob,hb,cb⟩
 show wpAny _ _ (richCompare .Lt (.ref a) (.ref b)) Q E s;calc wpAny_richCompare_same_room (op:=.Lt) (T:="tuple") Y Z ny (gT ny Y F.entry_tuple_lt ?_ (F.args_tuple_lt_2 _ _)) hu;show wpAny _ _ (isInstance (.ref b) (.type "tuple") >>= _) _ _ s;calc ae (wpAny_isInstance Z isSubtype_tuple_tuple ?_);simp only[mo,fR,if_false];calc ae (lp ha da (ae (lp hb db (ae ?_))));rw[show [Value.int (x1:Int) J,Value.int (j:Int) I].toArray.toList.zip [Value.int (x1:Int) G,Value.int (j:Int) O].toArray.toList=[(Value.int (x1:Int) J,Value.int (x1:Int) G),(Value.int (j:Int) I,Value.int (j:Int) O)] from rfl];rw[gt];calc ae ?_;dsimp only;calc ae (jv _ _ _ _ prog w _ _ ?_);simp only[beq_self_eq_true,mo,fR,if_false];calc aw ?_;dsimp only;rw[gt];calc ae ?_;dsimp only;calc ae (jv _ _ _ _ prog w _ _ ?_);simp only[beq_self_eq_true,mo,fR,if_false];calc aw ?_;dsimp only;rw[qf];calc aw ?_;dsimp only;show aw ⟨_,rL,by show Builtin.Tuple.tupleCompareSizes CmpOp.Lt 2 2≠_;decide,q⟩
def akn:R2:=λx y H Q=>∃(a b:Addr) (x1 D F j:Nat),x=.ref a/\y=.ref b/\H a=some (.tup [.int x1,.int D])/\H b=some (.tup [.int F,.int j])/\D<1000/\j<1000/\
 Q (.bl (decide (x1*1000+D<F*1000+j))) H
def ahT (hu:X.A.units<cLine):gP X (compareOp .Lt) akn:=by
 intro ao s σ H x y v u Q I rx ry h;let⟨a,b,x1,O,Z,D,rfl,rfl,ea,eb,l1,l2,q⟩:=h;by_cases hne:x1*1000+O=Z*1000+D
 .let e1:x1=Z:=qi;let e2:O=D:=by simp_all
  subst e1 e2;rw[ag (ft _)]at q;cases rx;cases ry;let⟨_,tv,F,o,ho,hc,n,hd⟩:=I.hok _ _ ea;let⟨_,tv',Y,o',J,j,n',G⟩:=I.hok _ _ eb;cases F with
  | cons q1 rr=>
   cases rr with
   | cons q2 rr=>
    cases rr;cases Y with
    | cons q3 rr'=>
     cases rr' with| cons q4 rr'=>cases rr';let⟨t1,rfl⟩:=q1;let⟨t2,rfl⟩:=q2;let⟨t3,rfl⟩:=q3;let⟨t4,rfl⟩:=q4;show afA ho hc hd J j G hu ⟨.bl _,H,I,rL,q⟩
 .show ahL hu ao s σ H _ _ _ _ Q I rx ry ⟨a,b,x1,O,Z,D,[],[],rL,rL,ea,eb,l1,l2,hne,q⟩
open Classical in
def ajA (K:W.Frag)(j:Bool):R2:=λx y H Q=>∃n d es,n<=60/\jC K H n d x/\jC K H n (.lst es) y/\Q (.bl (if j then !decide (d∈es) else decide (d∈es))) H
def W_ (O:X.A.units+64<cLine):gP X (compareOp .In) (ajA X.K false):=by intro ao s σ H x y v u Q I J G h;let⟨n,d,es,hn,hd,D,q⟩:=h;let⟨as,F⟩:=hd.reads I J;let⟨bs,j⟩:=D.reads I G;let l1:=hd.lay;let l2:=D.lay;rw[toP]at j;simp only[toP,PyData.canLay0,PyData.depth]at l2;calc SeqAt.in_list_reads j F l2.1 l1.1 (by have:=Nat.min_le_right (PyData.depthAll (nO es)) (toP d).depth;lia) ⟨.bl _,H,I,rL,?_⟩;rw[W4];show q
end
def afB {name:Str}{apos cpos:Pos}{T id:String}(K:W.Frag)(I:PlainAttrs T)(slot:Slot T name id)(F:typeOf (.builtin id)=pure (.type "method_descriptor"))(hm:yd X id r)(G:QE X o to)(D:attributeBase o name X.env (eval o X.env)=eval o X.env:=by rfl)(j:(apos.endLine==cpos.line)=true:=by rfl)(h:X.K=K:=by rfl):QE X (.Call (.Attribute o name apos) [] [] cpos) (acP K T r to):=by subst h;show wV I slot F hm G D j
section
variable {X:Cx}{o e f:Expr}{apos cpos:Pos}{td ty tx:TE}
def adi (F:X.A.units+1<cLine)(j:QE X o td)(D:QE X e ty)(G:QE X f tx)(m:M2 X o "get" apos e f cpos):QE X (.Call (.Attribute o "get" apos) [e,f] [] cpos) (aaV td ty tx):=⟨acV F j.out D.out G.out m⟩
structure KDict (P:Program)(w:World)(K:W.Frag)(a:Addr)(kvs:List (Key×V)):Prop where
 z:(a==sysModules)=false
 ex:∃o vs,K.lookup a=some o/\KV kvs vs/\o.IsDictOf (iC P w) vs
def ahU (P:Program)(w:World)(K:W.Frag)(td ty tx:TE):TE:=λσ H Q=>td σ H λx H1=>∃a kvs,x=.ref a/\KDict P w K a kvs/\ty σ H1 λy j=>tx σ j λz D=>∃k,y=kV k/\Q ((gJ kvs k).getD z) D
def RT (ho:QE X o td)(he:QE X e ty)(Y:QE X f tx)(m:M2 X o "get" apos e f cpos):QE X (.Call (.Attribute o "get" apos) [e,f] [] cpos) (ahU X.prog X.w X.K td ty tx):=⟨by
 intro ao s σ H Q I h;calc wpAny_Call_method m.base m.few m.line PySem.F.plainAttrs_dict ii PySem.F.type_dict_get (cH (ho.out ao s σ H _ I h) λu s1 zz=>?_);let⟨x,H1,F,rx,a,kvs,ex,d,q1⟩:=zz;subst ex;obtain rfl:u=Value.ref a:=rx;let⟨ob,vs,O,j,hd⟩:=d.ex;let dd:∀{s':Shared} {σ':St} {H':Hp},aW X ao σ' H' s'->s'.heap.DictOf (iC X.prog X.w) a vs:=λJ=>Heap.dictOf_iff.mpr ⟨ob,J.jw a ob O,hd⟩;refine⟨(dd F).typeIs,λb q=>?_,?_⟩
 .cases q;let⟨ob,_,_,h1,h2,_⟩:=dd F;show⟨ob,h1,h2.2.1⟩
 rw[m.trees];refine g9 rL (ir (fo (cH (he.out ao s1 σ H1 _ F q1) λiv s2 ⟨y,H2,I2,ry,q2⟩=>fo (cH (Y.out ao s2 σ H2 _ I2 q2) λZ s3 ⟨z,G,D,rz,k,ey,q3⟩=>io ?_))))
 subst ey;calc call_meetsIn ii (dd D).typeIs mf (lS _ _ _) (meets_dict_get_default (iC X.prog X.w) a (JC ry) d.z Z) ⟨_,(dd D).mapOf,?_⟩;show⟨_,G,D.tok _,(j.val k).getD rz,q3⟩⟩
def ahV:List V->Hp->VK->Prop:=λxs H Q=>∃(d:Addr) (kvs:List (Key×V)),xs=[.ref d]/\H d=some (.dK kvs)/\∀p:Addr,H p=none->Q (.ref p) (upd H p (.dK kvs))
def Zo:iY X (.type "dict") ahV:=by
 intro ao s σ H xs us Q I r h;let⟨d,kvs,rfl,hd,q⟩:=h;let⟨u,rfl,F⟩:=vals1 r;cases F;let⟨hz,lo,vs,j,dd⟩:=Y9 I.hok hd;calc kt_call_dict lo dd (by rw[<-j.length];show hz) λh' D hs=>?_;let lt:sysModules<s.heap.objs.size:=I.big;refine⟨.ref s.heap.objs.size,_,I.laid (o:=.dK kvs) (t':=s.toks) (λb u e=>?_) (ai _) ⟨hz,?_,vs,j,D⟩,rL,q _ (I.hok.fresh (ai _))⟩
 .show hs.extBut b u (cq (aI e)) (af _ e)
 .show beq_eq_false_iff_ne.mpr (kn lt)
end
def abj {l:List Nat}{g:TG}{tb:TS}{D:Ends}{σ:St}{H:Hp}(j:Nat->St->Hp->Prop)(h0:j 0 σ H)(hs:∀i c σ H T,l[i]?=some c->j i σ H->H T=none->g (.ref T) σ (upd H T (.tup [.int i,.str (S [c])])) λσ2 G=>tb {D with nx:=j (i+1),ct:=j (i+1),bk:=D.nx} σ2 G)(hd:∀σ H,j l.length σ H->D.nx σ H):Lx (RM l) g tb D σ H:=YJ l.length j h0 (λi σ H h p=>⟨h,λx H' y=>by let⟨T,c,F,rfl,I,rfl⟩:=y;show hs i c σ _ T I p F⟩) λσ H p=>⟨ai _,hd σ H p⟩
end L2
namespace PySem.F
end PySem.F
namespace L2
open PySem PySem.Spec PyProof.Rows PySem.W
section
variable {X:Cx}
def adk (a:List Int)(x:Int):(a++[x]).sum=a.sum+x:=by
 induction a with| nil=>simp| cons y r ih=>rw[pj,oq,oq,ih];lia
theorem A_ (ns:List Int):∀k,k<=ns.length->preSum (λi=>ns.getD i 0) k=(ns.take k).sum
 | 0,_=>by simp[preSum]
 | k+1,h=>by
  show preSum (λi=>ns.getD i 0) k+ns.getD k 0=_;let e:ns.take (k+1)=ns.take k++[ns[k]]:=by rw[c_,ac h];rfl
  rw[A_ ns k (av h),e,adk];simp[List.getD,show k<ns.length by lia]
def ahW (ns:List Int)(b:Int)(hb:0<=b)(h:∀x∈ns,-b<=x/\x<=b):-(b*ns.length)<=ns.sum/\ns.sum<=b*ns.length:=by
 induction ns with
 | nil=>simp
 | cons a r ih=>
  let h1:=h a cv;let h2:=ih λx hx=>h x (bz _ hx);rw[oq,eh];let e:b*((r.length+1:Nat):Int)=b*r.length+b:=by rw[Int.natCast_add,Int.mul_add];simp
  rw[e];lia
def ajB (K:W.Frag):List V->Hp->VK->Prop:=λxs H Q=>∃(p:Addr) (ns:List Int),xs=[.ref p]/\bH K H p (ns.map V.int)/\ns.length<=1000/\(∀x∈ns,-1000000000000000<=x/\x<=1000000000000000)/\Q (.int ns.sum) H
def abk (hc:X.calm=true):iY X (.builtin "sum") (ajB X.K):=by
 intro ao s σ H xs us Q I r h;let⟨p,ns,rfl,hq,hn,hb,q⟩:=h;let⟨u,rfl,J⟩:=vals1 r;cases J;let⟨its,Z,pl,hz⟩:=I.list hq;let Y:=Z.length;rw[aa]at Y;let O:p≠s.heap.objs.size:=by let⟨o,G,_⟩:=pl.isList;show cq (aI G)
 let F:∀(i:Nat) (v:Value),its.toArray[i]?=some v->∃t,v=.int (ns.getD i 0) t:=λi v F=>by
  let F:its[i]?=some v:=by simpa using F
  let hi:i<ns.length:=by have:=(ah.mp F).1;simp_all
  let⟨u,hu,J⟩:=Z.get (i:=i) (x:=.int ns[i]) (by simp[hi]);rw[F]at hu;cases hu;let⟨t,e⟩:=J;show⟨t,by rw[e];simp[List.getD,hi]⟩
 let hsz:its.toArray.size=ns.length:=by simp[Y]
 calc call_sum_walk (im pl.isList ?_);refine⟨s.heap.objs.size,_,_,_,_,_,_,rL,Walks.list (A:=X.A.in1) (I.ok.hd hc) s.heap.objs.size p O its.toArray,⟨⟨_,bd _ rL,rL,rL⟩,pl.isList.at λo e=>af _ e⟩,?_,F,λj hj=>?_,λh' tk t' kk=>?_⟩
 .intro b hb;have:b=s.heap.objs.size\/b=p:=by simpa using hb
  rw[fi];rcases this with e|e;.rw[e];show gN _
  .rw[e];let⟨o,G,_⟩:=pl.isList;show l_ (aI G)
 .let D:j<ns.length:=by simp_all
  let h1:=hb _ (aS D);let e1:ns.getD j 0=ns[j]:=by simp[List.getD,D]
  let h2:=ahW (ns.take (j+1)) 1000000000000000 qo λx hx=>hb x (de hx);let hl:(ns.take (j+1)).length<=1000:=by rw[am];lia
  rw[A_ ns (j+1) D,e1];unfold InLong;lia
 .let I1:aW X ao σ H {s with heap:=h',toks:=tk}:=I.kept λb o e=>kk b o (by
   intro hm;have:b=s.heap.objs.size:=by simpa using hm
   subst this;show absurd (aI e) (ft _)) (af _ e)
  rw[hsz,A_ ns ns.length (ai _),cp];show⟨.int _,H,I1,⟨t',rL⟩,q⟩
def za.rd {kvs:List (Key×V)}{k:Key}(e:Rd H a (.dK kvs)):za H a (kV k) (gJ kvs k):=.inl ⟨kvs,k,e,rL,rL⟩
def Rd.mv (k:aD H H')(r:Rd H a u):Rd H' a u:=by
 rcases r with r|⟨o,r⟩;.show .inl (k _ _ r)
 .show .inr ⟨o,k _ _ r⟩
end
end L2
namespace L2
open PySem PySem.Spec PyProof.Rows
section
variable {X:Cx}{ao:AE}{σ:St}{H:Hp}{s:Shared}
def ahX (X:Cx)(s:Shared)(x:Str)(u:Value):Prop:=∃m,s.heap.Ns X.env.locals m/\Look X.env s.heap m x u
def adl {E:AD}{x:Str}{u:Value}{pos:Pos}{Q:AD}(I:aW X ao σ H s)(h:ahX X s x u)(q:Q u s)(hd:(x==("__debug__":Str))=false:=by decide)(F:(x==("__classdict__":Str))=false:=by decide):wpAny (model X.prog X.w) X.A (eval (.Name x pos) X.env) Q E s:=by
 let⟨m,hn,l⟩:=h;rcases l with⟨D,hm⟩|⟨D,c,G,j⟩;.show mP (wpAny_loadName_local I.ok.kind D hn hm q) hd
 .rcases D with D|D;.show mP (wpAny_loadName_cell I.ok.kind D G j q) hd
  .show mP (wpAny_loadName_free I.ok.kind D G j q F) hd
end
end L2
namespace L2
open PySem PySem.Spec PyProof.Rows PySem.Builtin PySem.Builtin.Str
def Mg (x y z:Str)(t u v:Tok)(h0:(u==0||v==0)=false)(D:(y==z)=false)(hl:tooLong (x.length+(occurrences x y 0 x.length (x.length+1)).length*z.length)=false):Gives («str.replace» ⟨[.str x t,.str y u,.str z v],[]⟩) (if (((occurrences x y 0 x.length (x.length+1)).isEmpty||(y.length==0&&z.length==0))||u==v)=true then .val (.str x t) else .str (glued z (partsBetween x (occurrences x y 0 x.length (x.length+1)) y.length))):=by
 show Gives (if ((occurrences x y 0 x.length (x.length+1)).isEmpty||(y.length==0&&z.length==0))=true then (rule "str.replace.nothing" >>= λ_=>ret (.str x t)) else
     (isSame (.str y u) (.str z v) >>= λsame=>if same=true then (rule "str.replace.old-is-new" >>= λ_=>ret (.str x t)) else if tooLong (x.length+(occurrences x y 0 x.length (x.length+1)).length*z.length)=true then unsupported "str.replace:memory" else retStr (glued z (partsBetween x (occurrences x y 0 x.length (x.length+1)) y.length)))) _
 cases F:((occurrences x y 0 x.length (x.length+1)).isEmpty||(y.length==0&&z.length==0))
 .cases j:(u==v)
  .rw[isSame_str_other y z u v h0 j D,hl];show .of_eq rfl
  .let e:isSame (.str y u) (.str z v)=pure true:=by
    show isSame.created (y==z) u v=_;unfold isSame.created;rw[h0,j];rfl
   rw[e];show .rule (.of_eq rL)
 .show .rule (.of_eq rL)
def pA (c:Nat):Nat:=if 65<=c/\c<=90 then 63 else c
theorem Xa:∀j:List Str,(Str.join ⟨#[65]⟩ j).cps.toList.map pA=(Str.join ⟨#[63]⟩ j).cps.toList.map pA
 | []=>rfl
 | [a]=>rfl
 | a::b::r=>by let D:=Xa (b::r);show ((a++⟨#[65]⟩++Str.join ⟨#[65]⟩ (b::r)).cps.toList).map pA=((a++⟨#[63]⟩++Str.join ⟨#[63]⟩ (b::r)).cps.toList).map pA;simp only[Str.cps_append,Array.toList_append,bq,D];rfl
def afC (l:List Nat)(n:Nat):((glued (S [65]) (partsBetween (S l) (occurrences (S l) (S [63]) 0 (S l).length n) (S [63]).length)).cps.toList).map pA=l.map pA:=by let e:=StrLaws.glued_between_self (S l) (S [63]) n;rw[StrLaws.glued_eq_join]at e ⊢;have:=Xa (partsBetween (S l) (occurrences (S l) (S [63]) 0 (S l).length n) (S [63]).length);rw[show (⟨#[65]⟩:Str)=S [65] from rL,show (⟨#[63]⟩:Str)=S [63] from rL,e]at this;show this
section
variable {X:Cx}
def PEt (X:Cx)(e:Expr)(t:TE):Prop:=∀(ao:AE) (s:Shared) (σ:St) (H:Hp) (Q:VK),aW X ao σ H s->t σ H Q->wpAny (model X.prog X.w) X.A (eval e X.env) (λu s'=>EP X ao σ Q u s'/\0<s'.toks) X.xe s
def afD {e:Expr}{ta:TE}{f:Str}{pos:Pos}(Y:PE X e ta)(hb:attributeBase e f X.env (eval e X.env)=eval e X.env):PEt X (.Attribute e f pos) (YT X.K ta f):=by intro ao s σ H Q I h;calc Wz hb (cH (Y ao s σ H _ I h) λu s1 F=>?_);let⟨x,H1,j,J,a,C,dx,fs,v,ex,G,c,n,l,q⟩:=F;subst ex;obtain rfl:u=Value.ref a:=J;let⟨mA,O,r,_,_,_⟩:=zQ j.hok G;let⟨u,Z,D⟩:=nF.some_of (v:=v) (o:=mA f) (by rw[<-l];show r f);show get_map j.jw O (c.get f) c.hd n Z (Oc D) ⟨⟨v,H1,j.tok _,D,q⟩,Nat.succ_pos _⟩
def ahY {a b:Expr}{ta tb:TE}{pos:Pos}{r:R2}(Y:GZ X r)(ha:PEt X a ta)(hb:PE X b tb)(hs:FZ b):PEt X (.Subscript a b pos) (GR r ta tb):=by intro ao s σ H Q I h;calc Subscript_ (cH (ha ao s σ H _ I h) λv s1 z=>?_);obtain⟨⟨x,H1,O,r1,q1⟩,G⟩:=z;calc Rf (e_ (hb ao s1 σ H1 _ O q1) (λu s2 z ht=>?_) λ_ _ z _=>z);let⟨y,D,J,F,q2⟩:=z;show Rf (e_ (Y a b ao s2 σ D x y v u Q J r1 F q2 (hs _ _)) (λw Z z j=>⟨z,df G (bP ht j)⟩) λ_ _ z _=>z)
def ahZ (ix:Nat):TE:=λσ H Q=>∃l:List Nat,σ[ix]?=some (some (.str (S l)))/\l.length<=63/\∀j:List Nat,j.map pA=l.map pA->Q (.str (S j)) H
def ah0 {e1:Expr}{t1:TE}{x g:Str}{ix:Nat}{px pg apos cpos G:Pos}{j:Nat}{z:Str}(h1:PEt X e1 t1)(hN:X.N[ix]?=some x)(hv:Wu X.env.scope x)(hg:Gl X g)(hm:∃t,t≠0/\X.mg g=some (.str (S [63]) t))(hz:z=S [65])(hst:starEach [e1,.Call (.Attribute (.Name x px) "replace" apos) [.Name g pg,.Constant (.str z) j G] [] cpos] X.env=[(false,eval e1 X.env),(false,eval (.Call (.Attribute (.Name x px) "replace" apos) [.Name g pg,.Constant (.str z) j G] [] cpos) X.env)])(J:((backTo cpos (starEach [.Name g pg,.Constant (.str z) j G] X.env)).all (λx=>!x.1)&&(backToKw cpos (keywordEach [] X.env)).all (λx=>x.1.isSome)&&decide ([Expr.Name g pg,.Constant (.str z) j G].length+([]:List Keyword).length+(if ([]:List Keyword).isEmpty then 0 else 1)<30))=true)(D:(apos.endLine==cpos.line)=true)(hd:(x==("__debug__":Str))=false)(hcd:(x==("__classdict__":Str))=false)(hgd:(g==("__debug__":Str))=false):PA X [e1,.Call (.Attribute (.Name x px) "replace" apos) [.Name g pg,.Constant (.str z) j G] [] cpos] (vR t1 (vR (ahZ ix) Aq)):=by
 subst hz;let⟨tB,hB,hm⟩:=hm;intro pos ao s σ H Q I h;rw[hst];show wpAny _ _ (spliced ((false,eval e1 X.env)::(false,eval _ X.env)::[])) _ _ s;calc fo (cH (h1 ao s σ H _ I h) λu s1 y=>?_);obtain⟨⟨x1,H1,Z,r1,l,hl,h63,q⟩,tk⟩:=y;let⟨m,hn,hlm⟩:=id Z.loc;obtain⟨ur,⟨tr,er⟩,lr⟩:=hlm ix x _ hN hl hv;subst er;let exr:ahX X s1 x (.str (S l) tr):=⟨m,hn,lr⟩
 calc fo (wpAny_Call_method_late rL J D rL (adl Z exr ?_ hd hcd));calc⟨"str","str.replace",bp,PySem.F.slot_str_replace,PySem.F.type_str_replace,typeIs_str s1 _ tr,λ_ e=>(nomatch e),?_⟩;calc g9 rL (ir ?_);show wpAny _ _ (spliced ((false,eval (.Name g pg) X.env)::(false,eval (.Constant (.str (S [65])) j G) X.env)::[])) _ _ _;calc fo (pO Z hg hm (fo (Calls.Constant_str (io ?_))) hgd);let dB:=StrLaws.occ_length_le (S l) (S [63]) 0 (S l).length ((S l).length+1);let hsl:(S l).length=l.length:=rN l;let JB:tooLong ((S l).length+(occurrences (S l) (S [63]) 0 (S l).length ((S l).length+1)).length*(S [65]).length)=false:=by unfold tooLong sizeLine;rw[show (S [65]).length=1 from rfl];show ag qi
 refine call_gives F.slot_str_replace (typeIs_str _ _ tr) F.entry_str_replace (F.args_str_replace_3 _ _ _) (Mg (S l) (S [63]) (S [65]) tr tB s1.toks ?_ rL JB) ?_
 .have:s1.toks≠0:=kn tk;simp[*]
 let O:∀(Y:List Nat) (t':Tok) (k:Nat),Y.map pA=l.map pA->AP X ao σ Q [u,.str (S Y) t'] {s1 with toks:=k}:=λY t' k e=>⟨[x1,.str (S Y)],H1,Z.tok _,.cons r1 (.cons ⟨_,rL⟩ .nil),q Y e⟩
 split;.show io (O l _ _ rL)
 .calc⟨?_,io ?_⟩;.show fits_replaced (S [63]) (by rw[hsl,show (S [65]).length=1 from rfl];lia)
  .show O _ _ _ (afC l _)
end
structure QEt (X:Cx)(e:Expr)(t:TE):Prop where
 out:PEt X e t
end L2
namespace L2
open PySem PySem.Spec PyProof.Rows
section
variable {X:Cx}
def afE {e:Expr}{ta:TE}{f:Str}{pos:Pos}(j:QE X e ta)(hb:attributeBase e f X.env (eval e X.env)=eval e X.env):QEt X (.Attribute e f pos) (YT X.K ta f):=⟨afD j.out hb⟩
def ah1 {a b:Expr}{ta tb:TE}{pos:Pos}{r:R2}(j:GZ X r)(ha:QEt X a ta)(hb:QE X b tb)(hs:FZ b):QEt X (.Subscript a b pos) (GR r ta tb):=⟨ahY j ha.out hb.out hs⟩
def ah2 {e1:Expr}{Z:TE}{x g:Str}(ix:Nat){Y pg apos cpos G:Pos}{j:Nat}{z:Str}(h1:QEt X e1 Z)(hm:∃t,t≠0/\X.mg g=some (.str (S [63]) t))(hN:X.N[ix]?=some x)(hv:Wu X.env.scope x)(hg:Gl X g)(hz:z=S [65])(J:starEach [e1,.Call (.Attribute (.Name x Y) "replace" apos) [.Name g pg,.Constant (.str z) j G] [] cpos] X.env=[(false,eval e1 X.env),(false,eval (.Call (.Attribute (.Name x Y) "replace" apos) [.Name g pg,.Constant (.str z) j G] [] cpos) X.env)])(F:((backTo cpos (starEach [.Name g pg,.Constant (.str z) j G] X.env)).all (λx=>!x.1)&&(backToKw cpos (keywordEach [] X.env)).all (λx=>x.1.isSome)&&decide ([Expr.Name g pg,.Constant (.str z) j G].length+([]:List Keyword).length+(if ([]:List Keyword).isEmpty then 0 else 1)<30))=true)(D:(apos.endLine==cpos.line)=true)(hd:(x==("__debug__":Str))=false:=by decide)(I:(x==("__classdict__":Str))=false:=by decide)(O:(g==("__debug__":Str))=false:=by decide):QA X [e1,.Call (.Attribute (.Name x Y) "replace" apos) [.Name g pg,.Constant (.str z) j G] [] cpos] (vR Z (vR (ahZ ix) Aq)):=⟨ah0 h1.out hN hv hg hm hz J F D hd I O⟩
end
end L2
namespace L2
open PySem PySem.Spec PyProof.Rows PySem.W
def Zq (l)(j:Array Value)(n)(dd)(sl)(u:Tok)(h0:¬j.isEmpty=true):Meets (Builtin.«tuple.__mul__» ⟨[.ref l,.int 1 u],[]⟩) (λ_ R s=>s.heap.get? l=some {cls:=.type "tuple",dict:=dd,data:=.seq j n,slots:=sl}/\R (.ok (.ret (.ref l))) s):=
 .of_wp λprog w A R s h=>by
  let⟨hp,g,d,tk,os⟩:=s;let⟨hl,h⟩:=h;let f1:=AutoSeq1.idx_int;let f2:=AutoSeq1.sub_tuple_tuple
  wp_walk using jS hl
  show⟨_,rL,h⟩
section
variable {X:Cx}
def ajC (K:W.Frag):R2:=λx y H Q=>∃a xs,∃n:Nat,x=.ref a/\y=.int n/\H a=some (.tup xs)/\xs≠[]/\1<=n/\n<=100/\xs.length<=100/\∀p H',aD H H'->H' p=some (.tup (List.replicate n xs).flatten)->Q (.ref p) H'
def Xb:gP X (binaryOp .Mult) (ajC X.K):=by
 intro ao s σ H x y v u Q I J F h;let⟨a,xs,n,rfl,rfl,ha,hx,n1,D,Z,q⟩:=h;by_cases h2:2<=n;.show afv ao s σ H _ _ v u Q I J F ⟨a,xs,n,rL,rL,aU.of ha,hx,h2,D,Z,λp hp=>q p _ (aD.upd hp) aA⟩
 .let e:n=1:=qi;subst e;cases J;let⟨tk,rfl⟩:=F;let⟨its,r1,p1,_⟩:=I.tuple (aU.of ha);obtain⟨⟨cls,dd,data,sl⟩,j,G,m,hd⟩:=id p1;simp only at G hd;subst G hd;let h0:¬its.toArray.isEmpty=true:=λz=>hx (r1.zR.mp (by simpa using z));refine kX (T:="tuple") (U:="int") qo ⟨_,j,rL⟩ (λs'=>typeIs_int s' _ _) wZ PySem.F.fills_int_mul kr Ds PySem.F.slot_int_index.lookup
   (call_meets kr (typeIs_int s _ _) PySem.F.entry_int_rmul (PySem.F.args_int_rmul_2 _ _) (JV _ _ a its.toArray m dd sl) ⟨j,rL,⟨_,j,rL⟩,?_⟩)
  calc call_meets kf ⟨_,j,rL⟩ PySem.F.entry_tuple_mul (PySem.F.args_tuple_mul_2 _ _) (Zq a its.toArray m dd sl _ h0) ⟨j,?_⟩;show⟨.ref a,H,I,rL,q a H (aD.refl _) (by simpa using ha)⟩
end
def ajD (K:W.Frag)(C:Addr)(tb:XK->St->TS)(th:TS):TS:=λD σ H=>∃E:XK,tb E σ D σ H/\∀(a:Addr) (cls:Value) (dd:Option Addr) (H':Hp),E cls dd H'->H' a=none->
 exmOne K cls (.ref C)=some true/\th D σ (upd H' a (.ext (ahR a cls dd)))
section
variable {X:Cx}{C:Addr}{x:Str}{np hpos pos:Pos}{body suite:List Stmt}{b0:Stmt}{tb:XK->St->TS}{th:TS}
def afF (j:X.stack=X.env::X.outer)(hf:X.env.frame=some X.env.locals)(hg:Gl X x)(hm:X.mg x=some (.ref C))(hb:∀(pn:AE) (xe:AD) (E:XK) (σ0:St),PassesOwn (model X.prog X.w) X.A X.env xe->zW (Dr X.prog X.w) (X.tried pn xe) E (·=σ0)->yh (X.tried pn xe) body (tb E σ0))(hh:∀a,yh (X.held a) (b0::suite) th)(hdb:(x==("__debug__":Str))=false:=by decide):QS X (.Try body [.ExceptHandler (some (.Name x np)) none (b0::suite) hpos] [] [] pos) (ajD X.K C tb th):=⟨by
 intro ao s σ H D I h;let⟨E,F,ah3⟩:=h;let hp:PassesOwn (model X.prog X.w) X.A X.env (λe Y=>wpAny (model X.prog X.w) X.A (noteFrame e X.env) (λ_ s₂=>wpAny (model X.prog X.w) X.A (setFlight e none) (λ_ O=>wpAny (model X.prog X.w) X.A (handleBy e X.env [.ExceptHandler (some (.Name x np)) none (b0::suite) hpos]) (SP X ao D) X.xe O) X.xe s₂) X.xe Y):=PassesOwn.looking;let hP:zW (Dr X.prog X.w) (X.tried (X.pn++ao) (λe Y=>wpAny (model X.prog X.w) X.A (noteFrame e X.env) (λ_ s₂=>wpAny (model X.prog X.w) X.A (setFlight e none) (λ_ O=>wpAny (model X.prog X.w) X.A (handleBy e X.env [.ExceptHandler (some (.Name x np)) none (b0::suite) hpos]) (SP X ao D) X.xe O) X.xe s₂) X.xe Y)) E (·=σ):=by
  intro Ju σ' H1 s1 e s2 I1 hσ hq;let⟨a,cls,dd,H',B,ea,ex,q⟩:=hq;subst ea;let J:=I1.t_;let hσ:σ'=σ:=hσ;subst hσ;let fl:wX B (X.env::X.outer) a cls dd .none s2.heap:=by rw[<-j];show ex.fly
  let hfr:X.A.frames=some (X.env::X.outer):=by rw[<-j];show J.ok.frames
  let⟨hmt,hsu⟩:=ah3 a cls dd H' q ex.na;calc W6 hfr hf fl λh1 y1 k1=>vW y1 λh2 Z k2=>?_;let I2:=J.caught ex (by rw[j];show Z) (k1.trans k2);calc wpAny_handleBy_cons (codeAny_handlers_test (pO (X:=X.held a) (I2.held a) hg hm ?_ hdb)) (by intro q;cases q);let LT:Looks (model X.prog X.w) h2 (typeOf (.ref a)) cls:=by let⟨oe,_,_,_,_,he,hc,_⟩:=Z.tr;show hc ▸ (Looks.ld he).andThen .now
  calc(exm_one (K:=X.K) I2.jw LT hmt).here ?_;calc codeAny_handlers_suite (vW Z λh3 y3 k3=>?_);let I3:=J.caught ex (by rw[j];show y3) ((k1.trans k2).trans k3);calc e_ ((hh a).out ao _ _ _ D (I3.held a) hsu) (λf s5 hs=>?_) λ_ _ z=>z.elim;cases f with
  | next=>let⟨σ5,H5,G,q5⟩:=hs;show⟨_,_,G.JT J.ok,q5⟩
  | brk=>let⟨σ5,H5,G,q5⟩:=hs;show⟨_,_,G.JT J.ok,q5⟩
  | cont=>let⟨σ5,H5,G,q5⟩:=hs;show⟨_,_,G.JT J.ok,q5⟩
  | ret u=>let⟨v,σ5,H5,G,r5,q5⟩:=hs;show⟨v,_,_,G.JT J.ok,r5,q5⟩
 calc wpAny_Try_except (e_ ((hb _ _ E σ hp hP).out [] s σ H D (I.tried _) F) (λf s1 hs=>?_) λe s1 z=>z);let hs:=hs.t_;cases f with
 | next=>let⟨σ',H',I',q⟩:=hs;show(bO (X:=X)).out ao s1 σ' H' D I' q
 | brk=>show hs
 | cont=>show hs
 | ret u=>show hs⟩
end
section
variable {X:Cx}{tg:Expr}
def abl (hc:X.calm=true):iY X (.builtin "min") (λxs H Q=>∃(p:Addr) (ns:List Int),xs=[.ref p]/\aU X.K H p (ns.map V.int)/\0<ns.length/\∀m∈ns,(∀x∈ns,m<=x)->Q (.int m) H):=by
 intro ao s σ H xs us Q I r h;let⟨p,ns,rfl,hq,h0,q⟩:=h;let⟨u,rfl,G⟩:=vals1 r;cases G;let⟨its,Y,pl,hz⟩:=I.tuple hq;let O:=Y.length;rw[aa]at O;let J:p≠s.heap.objs.size:=by let⟨o,F,_⟩:=pl;show cq (aI F)
 let hb:∀(i:Nat) (v:Value),its.toArray[i]?=some v->∃t,v=.int (ns.getD i 0) t:=λi v D=>by
  let D:its[i]?=some v:=by simpa using D
  let hi:i<ns.length:=by have:=(ah.mp D).1;lia
  let⟨u,Z,G⟩:=Y.get (i:=i) (x:=.int ns[i]) (by simp[hi]);rw[D]at Z;cases Z;let⟨t,e⟩:=G;show⟨t,by rw[e];simp[List.getD,hi]⟩
 calc call_min_walk (wpAny_pyIter_tuple (show s.heap.IsTuple p its.toArray from pl) ?_);refine⟨s.heap.objs.size,_,_,_,_,_,_,rL,Walks.tuple (A:=X.A.in1) (I.ok.hd hc) s.heap.objs.size p J its.toArray,⟨⟨_,bd _ rL,rL,rL⟩,pl.push _⟩,?_,by simp;lia,CmpOf.ints_lt (λi=>ns.getD i 0) hb,λv h' tk hP kk=>?_⟩
 .intro b hb;have:b=s.heap.objs.size\/b=p:=by simpa using hb
  rw[fi];rcases this with e|e;.rw[e];show gN _
  .rw[e];let⟨o,F,_⟩:=pl;show l_ (aI F)
 .let I1:aW X ao σ H {s with heap:=h',toks:=tk}:=I.kept λb o e=>kk b o (by
   intro hm;have:b=s.heap.objs.size:=by simpa using hm
   subst this;show absurd (aI e) (ft _)) (af _ e)
  let⟨k1,k2⟩:=argBest_lt (λi=>ns.getD i 0) (its.toArray.size-1);let hsz:its.toArray.size=ns.length:=by simp[O]
  let⟨t,e⟩:=hb _ v hP;generalize argBest _ _=j at k1 k2 e;let hj:j<ns.length:=qi;calc⟨.int (ns.getD j 0),H,I1,⟨t,e⟩,q _ (by simp[List.getD,hj]) λx hx=>?_⟩;let⟨i,hi,rfl⟩:=iA.mp hx;have:=k2 i qi;simpa [List.getD,hi] using this
def ajE (ta:TA):TI:=λσ H R=>ta σ H λvs H1=>∃n:Nat,vs=[.int ((n:Int)-1),.int (-1),.int (-1)]/\n<=99/\R (Ay ((n:Int)-1) (-1) n) H1
def ah4:∀n:Fin 100,Builtin.Range.small ((n.val:Int)-1) (-1) (-1)=true/\Builtin.Range.rangeSize ((n.val:Int)-1) (-1) (-1)=(n.val:Int):=by decide +kernel
def abm {a b c:Expr}{ta:TA}{p pos:Pos}(Z:Gl X "range")(hm:X.mg "range"=none)(ha:QA X [a,b,c] ta)(hs:starEach [a,b,c] X.env=[(false,eval a X.env),(false,eval b X.env),(false,eval c X.env)]:=by rfl)(j:starEach [b,c] X.env=[(false,eval b X.env),(false,eval c X.env)]:=by rfl):QI X tg (.Call (.Name "range" p) [a,b,c] [] pos) (ajE ta):=⟨by
 intro ao s σ H R I h;calc Call_ (rJ I Z hm boot_range (eW (cH (ha.out pos ao s σ H _ I h) λus s1 O=>?_) (by rw[hs,j]) (by rw[j];rfl)));let⟨vs,H1,I1,r1,q1⟩:=O;let⟨n,e,q1,q⟩:=q1;subst e;cases r1 with
 | cons r1 rr=>
  cases rr with
  | cons r2 rr=>
   cases rr with
   | cons r3 rr=>
    cases rr;let⟨G,rfl⟩:=r1;let⟨F,rfl⟩:=r2;let⟨D,rfl⟩:=r3;let⟨Y,sz⟩:=ah4 ⟨n,qi⟩;calc call_range_3 qi ?_ (.inl (md qi));calc n5 (IsRange.new ..) Y ?_;let J:aW X ao σ H1 {s1 with heap:=s1.heap.push {cls:=.type "range",data:=.fields #[.int ((n:Int)-1) G,.int (-1) F,.int (-1) D]},toks:=s1.toks}:=I1.kept λb o e=>af _ e;refine⟨(s1.heap.push {cls:=.type "range",data:=.fields #[.int ((n:Int)-1) G,.int (-1) F,.int (-1) D]}).objs.size,[(s1.heap.push {cls:=.type "range",data:=.fields #[.int ((n:Int)-1) G,.int (-1) F,.int (-1) D]}).objs.size],_,_,H1,rL,
     J.kept (t':=s1.toks) λb o e=>af _ e,G4 _ ((n:Int)-1) (-1) n,?_,λb hb=>?_,q⟩
    .let e1:((n:Int)-1)+((0:Nat):Int)*(-1)=(n:Int)-1:=qk;let e2:(n:Int)-((0:Nat):Int)=Builtin.Range.rangeSize ((n:Int)-1) (-1) (-1):=by rw[sz];simp
     show IsRangeIter _ _ (((n:Int)-1)+((0:Nat):Int)*(-1)) ((n:Int)-((0:Nat):Int)) (-1);rw[e1,e2];show bd _ rfl
    .let e:b=(s1.heap.push {cls:=.type "range",data:=.fields #[.int ((n:Int)-1) G,.int (-1) F,.int (-1) D]}).objs.size:=by simpa using hb
     subst e;show J.yV (ai _) (J.hok.fresh (ai _))⟩
end
def Zr {lo c:Int}{n:Nat}{g:TG}{tb:TS}{D:Ends}{σ:St}{H:Hp}(F:Nat->St->Hp->Prop)(h0:F 0 σ H)(hs:∀i σ H,i<n->F i σ H->g (.int (lo+i*c)) σ H λσ2 G=>tb {D with nx:=F (i+1),ct:=F (i+1),bk:=D.nx} σ2 G)(hd:∀σ H,F n σ H->D.nx σ H):∃W:Nat->Nat->St->Hp->Prop,(∃m,W 0 m σ H)/\∀i m σ H,W i m σ H->
   ((Ay lo c n).stop i H/\D.nx σ H)\/((Ay lo c n).go i H/\∃N:St->Hp->Prop,(∀σ' H',N σ' H'->∃I,I<m/\W (i+1) I σ' H')/\∀x H',(Ay lo c n).Jv i H x H'->g x σ H' λσ2 G=>tb {D with nx:=N,ct:=N,bk:=D.nx} σ2 G):=by
 calc⟨λi m σ H=>m=n-i/\i<=n/\F i σ H,⟨n,qk,fe _,h0⟩,?_⟩;intro i m σ H z;let⟨rfl,hi,p⟩:=z;by_cases j:i<n
 .calc .inr ⟨j,F (i+1),λσ' H' J=>⟨n-(i+1),qi,rL,j,J⟩,λx H' y=>?_⟩;let⟨e,y⟩:=y;subst e y;show hs i σ _ j p
 .let e:i=n:=qi;subst e;show .inl ⟨ai _,hd σ H p⟩
end L2
def L2.bV {o p q:Prop}(O:o)(P:p)(Q:q):o/\p/\q:=⟨O,P,Q⟩
def L2.QV {o p q r:Prop}(O:o)(P:p)(Q:q)(R:r):o/\p/\q/\r:=⟨O,P,Q,R⟩
def L2.Dw {o p q r s t:A->B->C->D->E->F->G->H->I->J->Prop}(a b c d e f g h i j)(O:o a b c d e f g h i j)(P:p a b c d e f g h i j)(Q:q a b c d e f g h i j)(R:r a b c d e f g h i j)(S:s a b c d e f g h i j)(T:t a b c d e f g h i j):∃a b c d e f g h i j,o a b c d e f g h i j/\p a b c d e f g h i j/\q a b c d e f g h i j/\r a b c d e f g h i j/\s a b c d e f g h i j/\t a b c d e f g h i j:=⟨a,b,c,d,e,f,g,h,i,j,O,P,Q,R,S,T⟩
def L2.JZ {o p q r s t u v w:A->B->C->D->E->F->G->H->I->J->Prop}(a b c d e f g h i j)(O:o a b c d e f g h i j)(P:p a b c d e f g h i j)(Q:q a b c d e f g h i j)(R:r a b c d e f g h i j)(S:s a b c d e f g h i j)(T:t a b c d e f g h i j)(U:u a b c d e f g h i j)(V:v a b c d e f g h i j)(W:w a b c d e f g h i j):∃a b c d e f g h i j,o a b c d e f g h i j/\p a b c d e f g h i j/\q a b c d e f g h i j/\r a b c d e f g h i j/\s a b c d e f g h i j/\t a b c d e f g h i j/\u a b c d e f g h i j/\v a b c d e f g h i j/\w a b c d e f g h i j:=⟨a,b,c,d,e,f,g,h,i,j,O,P,Q,R,S,T,U,V,W⟩
def L2.aj {o p:A->Prop}(a)(O:o a)(P:p a):∃a,o a/\p a:=⟨a,O,P⟩
def L2.bf {o p q:A->Prop}(a)(O:o a)(P:p a)(Q:q a):∃a,o a/\p a/\q a:=⟨a,O,P,Q⟩
def L2.h_ {o p q r:A->Prop}(a)(O:o a)(P:p a)(Q:q a)(R:r a):∃a,o a/\p a/\q a/\r a:=⟨a,O,P,Q,R⟩
def L2.pR {o p q r s:A->Prop}(a)(O:o a)(P:p a)(Q:q a)(R:r a)(S:s a):∃a,o a/\p a/\q a/\r a/\s a:=⟨a,O,P,Q,R,S⟩
def L2.dN {o p:A->B->Prop}(a b)(O:o a b)(P:p a b):∃a b,o a b/\p a b:=⟨a,b,O,P⟩
def L2.aJ {o p q:A->B->Prop}(a b)(O:o a b)(P:p a b)(Q:q a b):∃a b,o a b/\p a b/\q a b:=⟨a,b,O,P,Q⟩
def L2.aX {o p q r:A->B->Prop}(a b)(O:o a b)(P:p a b)(Q:q a b)(R:r a b):∃a b,o a b/\p a b/\q a b/\r a b:=⟨a,b,O,P,Q,R⟩
def L2.dG {o p q r s:A->B->Prop}(a b)(O:o a b)(P:p a b)(Q:q a b)(R:r a b)(S:s a b):∃a b,o a b/\p a b/\q a b/\r a b/\s a b:=⟨a,b,O,P,Q,R,S⟩
def L2.Ba {o p q r s t:A->B->Prop}(a b)(O:o a b)(P:p a b)(Q:q a b)(R:r a b)(S:s a b)(T:t a b):∃a b,o a b/\p a b/\q a b/\r a b/\s a b/\t a b:=⟨a,b,O,P,Q,R,S,T⟩
def L2.J3 {o p q r s t u:A->B->Prop}(a b)(O:o a b)(P:p a b)(Q:q a b)(R:r a b)(S:s a b)(T:t a b)(U:u a b):∃a b,o a b/\p a b/\q a b/\r a b/\s a b/\t a b/\u a b:=⟨a,b,O,P,Q,R,S,T,U⟩
def L2.J4 {o p:A->B->C->Prop}(a b c)(O:o a b c)(P:p a b c):∃a b c,o a b c/\p a b c:=⟨a,b,c,O,P⟩
def L2.qK {o p q:A->B->C->Prop}(a b c)(O:o a b c)(P:p a b c)(Q:q a b c):∃a b c,o a b c/\p a b c/\q a b c:=⟨a,b,c,O,P,Q⟩
def L2.cY {o p q r:A->B->C->Prop}(a b c)(O:o a b c)(P:p a b c)(Q:q a b c)(R:r a b c):∃a b c,o a b c/\p a b c/\q a b c/\r a b c:=⟨a,b,c,O,P,Q,R⟩
def L2.dW {o p q r s:A->B->C->Prop}(a b c)(O:o a b c)(P:p a b c)(Q:q a b c)(R:r a b c)(S:s a b c):∃a b c,o a b c/\p a b c/\q a b c/\r a b c/\s a b c:=⟨a,b,c,O,P,Q,R,S⟩
def L2.qL {o p q r s t:A->B->C->Prop}(a b c)(O:o a b c)(P:p a b c)(Q:q a b c)(R:r a b c)(S:s a b c)(T:t a b c):∃a b c,o a b c/\p a b c/\q a b c/\r a b c/\s a b c/\t a b c:=⟨a,b,c,O,P,Q,R,S,T⟩
def L2.J5 {o p q r s t u:A->B->C->Prop}(a b c)(O:o a b c)(P:p a b c)(Q:q a b c)(R:r a b c)(S:s a b c)(T:t a b c)(U:u a b c):∃a b c,o a b c/\p a b c/\q a b c/\r a b c/\s a b c/\t a b c/\u a b c:=⟨a,b,c,O,P,Q,R,S,T,U⟩
def L2.gG {o p q r:A->B->C->D->Prop}(a b c d)(O:o a b c d)(P:p a b c d)(Q:q a b c d)(R:r a b c d):∃a b c d,o a b c d/\p a b c d/\q a b c d/\r a b c d:=⟨a,b,c,d,O,P,Q,R⟩
def L2.bw {o p q r s:A->B->C->D->Prop}(a b c d)(O:o a b c d)(P:p a b c d)(Q:q a b c d)(R:r a b c d)(S:s a b c d):∃a b c d,o a b c d/\p a b c d/\q a b c d/\r a b c d/\s a b c d:=⟨a,b,c,d,O,P,Q,R,S⟩
def L2.gH {o p q r s t:A->B->C->D->Prop}(a b c d)(O:o a b c d)(P:p a b c d)(Q:q a b c d)(R:r a b c d)(S:s a b c d)(T:t a b c d):∃a b c d,o a b c d/\p a b c d/\q a b c d/\r a b c d/\s a b c d/\t a b c d:=⟨a,b,c,d,O,P,Q,R,S,T⟩
def L2.nq {o p q r s t u v:A->B->C->D->Prop}(a b c d)(O:o a b c d)(P:p a b c d)(Q:q a b c d)(R:r a b c d)(S:s a b c d)(T:t a b c d)(U:u a b c d)(V:v a b c d):∃a b c d,o a b c d/\p a b c d/\q a b c d/\r a b c d/\s a b c d/\t a b c d/\u a b c d/\v a b c d:=⟨a,b,c,d,O,P,Q,R,S,T,U,V⟩
def L2.Ge {o p q r:A->B->C->D->E->Prop}(a b c d e)(O:o a b c d e)(P:p a b c d e)(Q:q a b c d e)(R:r a b c d e):∃a b c d e,o a b c d e/\p a b c d e/\q a b c d e/\r a b c d e:=⟨a,b,c,d,e,O,P,Q,R⟩
def L2.Bb {o p q r s:A->B->C->D->E->Prop}(a b c d e)(O:o a b c d e)(P:p a b c d e)(Q:q a b c d e)(R:r a b c d e)(S:s a b c d e):∃a b c d e,o a b c d e/\p a b c d e/\q a b c d e/\r a b c d e/\s a b c d e:=⟨a,b,c,d,e,O,P,Q,R,S⟩
def L2.cB {o p q r s t:A->B->C->D->E->Prop}(a b c d e)(O:o a b c d e)(P:p a b c d e)(Q:q a b c d e)(R:r a b c d e)(S:s a b c d e)(T:t a b c d e):∃a b c d e,o a b c d e/\p a b c d e/\q a b c d e/\r a b c d e/\s a b c d e/\t a b c d e:=⟨a,b,c,d,e,O,P,Q,R,S,T⟩
def L2.yq {o p q r s t u:A->B->C->D->E->Prop}(a b c d e)(O:o a b c d e)(P:p a b c d e)(Q:q a b c d e)(R:r a b c d e)(S:s a b c d e)(T:t a b c d e)(U:u a b c d e):∃a b c d e,o a b c d e/\p a b c d e/\q a b c d e/\r a b c d e/\s a b c d e/\t a b c d e/\u a b c d e:=⟨a,b,c,d,e,O,P,Q,R,S,T,U⟩
def L2.Bc {o p q r:A->B->C->D->E->F->Prop}(a b c d e f)(O:o a b c d e f)(P:p a b c d e f)(Q:q a b c d e f)(R:r a b c d e f):∃a b c d e f,o a b c d e f/\p a b c d e f/\q a b c d e f/\r a b c d e f:=⟨a,b,c,d,e,f,O,P,Q,R⟩
def L2.QX {o p q r s:A->B->C->D->E->F->Prop}(a b c d e f)(O:o a b c d e f)(P:p a b c d e f)(Q:q a b c d e f)(R:r a b c d e f)(S:s a b c d e f):∃a b c d e f,o a b c d e f/\p a b c d e f/\q a b c d e f/\r a b c d e f/\s a b c d e f:=⟨a,b,c,d,e,f,O,P,Q,R,S⟩
def L2.Bf {o p q r s t u:A->B->C->D->E->F->Prop}(a b c d e f)(O:o a b c d e f)(P:p a b c d e f)(Q:q a b c d e f)(R:r a b c d e f)(S:s a b c d e f)(T:t a b c d e f)(U:u a b c d e f):∃a b c d e f,o a b c d e f/\p a b c d e f/\q a b c d e f/\r a b c d e f/\s a b c d e f/\t a b c d e f/\u a b c d e f:=⟨a,b,c,d,e,f,O,P,Q,R,S,T,U⟩
def L2.J6 {o p q r s t u v:A->B->C->D->E->F->G->H->Prop}(a b c d e f g h)(O:o a b c d e f g h)(P:p a b c d e f g h)(Q:q a b c d e f g h)(R:r a b c d e f g h)(S:s a b c d e f g h)(T:t a b c d e f g h)(U:u a b c d e f g h)(V:v a b c d e f g h):∃a b c d e f g h,o a b c d e f g h/\p a b c d e f g h/\q a b c d e f g h/\r a b c d e f g h/\s a b c d e f g h/\t a b c d e f g h/\u a b c d e f g h/\v a b c d e f g h:=⟨a,b,c,d,e,f,g,h,O,P,Q,R,S,T,U,V⟩
def L2.QZ {o p q:A->B->C->D->E->F->G->H->I->Prop}(a b c d e f g h i)(O:o a b c d e f g h i)(P:p a b c d e f g h i)(Q:q a b c d e f g h i):∃a b c d e f g h i,o a b c d e f g h i/\p a b c d e f g h i/\q a b c d e f g h i:=⟨a,b,c,d,e,f,g,h,i,O,P,Q⟩
namespace L2
open PySem
theorem eS {n:Nat}{P:List Value->Prop}(h:∀a us,us.length=n->P (a::us)):∀us,us.length=n+1->P us
 | a::us,e=>h a us (Nat.succ.inj e)
@[elab_as_elim] theorem e1 {P:List Value->Prop} (h:∀a,P [a]) (us:List Value) (hl:us.length=1):P us:=eS (λa us e=>(by rw[List.eq_nil_of_length_eq_zero e];show h a)) us hl
@[elab_as_elim] theorem e2 {P:List Value->Prop} (h:∀a b,P [a,b]) (us:List Value) (hl:us.length=2):P us:=eS (λa us e=>e1 (P:=λr=>P (a::r)) (h a) us e) us hl
@[elab_as_elim] theorem e3 {P:List Value->Prop} (h:∀a b c,P [a,b,c]) (us:List Value) (hl:us.length=3):P us:=eS (λa us e=>e2 (P:=λr=>P (a::r)) (h a) us e) us hl
@[elab_as_elim] theorem e4 {P:List Value->Prop} (h:∀a b c d,P [a,b,c,d]) (us:List Value) (hl:us.length=4):P us:=eS (λa us e=>e3 (P:=λr=>P (a::r)) (h a) us e) us hl
@[elab_as_elim] theorem e5 {P:List Value->Prop} (h:∀a b c d e,P [a,b,c,d,e]) (us:List Value) (hl:us.length=5):P us:=eS (λa us e=>e4 (P:=λr=>P (a::r)) (h a) us e) us hl
@[elab_as_elim] theorem e6 {P:List Value->Prop} (h:∀a b c d e f,P [a,b,c,d,e,f]) (us:List Value) (hl:us.length=6):P us:=eS (λa us e=>e5 (P:=λr=>P (a::r)) (h a) us e) us hl
@[elab_as_elim] theorem e7 {P:List Value->Prop} (h:∀a b c d e f g,P [a,b,c,d,e,f,g]) (us:List Value) (hl:us.length=7):P us:=eS (λa us e=>e6 (P:=λr=>P (a::r)) (h a) us e) us hl
@[elab_as_elim] theorem e8 {P:List Value->Prop} (h:∀a b c d e f g i,P [a,b,c,d,e,f,g,i]) (us:List Value) (hl:us.length=8):P us:=eS (λa us e=>e7 (P:=λr=>P (a::r)) (h a) us e) us hl
end L2
namespace My
open PySem L2
def top (i:Nat):Stmt:=PySem.Challenge.pw_letterrack_k64_twins.main.body.getD i (.Pass ⟨0,0,0,0⟩)
noncomputable abbrev kJ:Stmt:=inClass (top 4) 0
def Mh:bB ["self","word"] ["self","word"] (aK kJ):={}
noncomputable abbrev lH:Stmt:=inClass (top 7) 0
def Qc:bB ["self","row","column"] ["self","row","column"] (aK lH):={}
noncomputable abbrev ou:Stmt:=inClass (top 9) 0
def VF:bB ["self","row","column"] ["self","row","column"] (aK ou):={}
noncomputable abbrev jD:Stmt:=inClass (top 11) 0
def J7:bB ["self","tile"] ["self","tile"] (aK jD):={}
noncomputable abbrev rQ:Stmt:=top 17
def G5:bB ["thing"] ["thing"] (aK rQ):={}
noncomputable abbrev yr:Stmt:=top 18
def Zt:bB ["thing"] ["thing"] (aK yr):={}
noncomputable abbrev uK:Stmt:=top 19
def RW:bB ["sign"] ["sign"] (aK uK):={}
noncomputable abbrev yt:Stmt:=top 20
def Zu:bB ["sign"] ["sign"] (aK yt):={}
noncomputable abbrev yu:Stmt:=top 21
def vY:bB ["rack","signs","tiles","sign","tile"] ["rack","signs"] (aK yu):={}
noncomputable abbrev vZ:Stmt:=top 26
def uL:bB ["thing","width"] ["thing"] (aK vZ):={}
noncomputable abbrev wg:Stmt:=top 27
def G6:bB ["thing"] ["thing"] (aK wg):={}
noncomputable abbrev uM:Stmt:=top 28
def Dy:bB ["thing"] ["thing"] (aK uM):={}
noncomputable abbrev pB:Stmt:=top 29
def Cz:bB ["rows","row","column"] ["rows","row","column"] (aK pB):={}
noncomputable abbrev qM:Stmt:=top 30
def Mi:bB ["rows","thing"] ["rows","thing"] (aK qM):={}
noncomputable abbrev wj:Stmt:=top 31
def VG:bB ["rows","marks","begin"] ["rows","marks","begin"] (aK wj):={}
noncomputable abbrev qN:Stmt:=top 32
def zX:bB ["rows","column"] ["rows","column"] (aK qN):={}
noncomputable abbrev lJ:Stmt:=inClass (top 33) 0
def Qd:bB ["self","rows","marks","begin"] ["self","rows","marks","begin"] (aK lJ):={}
noncomputable abbrev oA:Stmt:=inClass (top 33) 1
def VH:bB ["self","row","column"] ["self","row","column"] (aK oA):={}
noncomputable abbrev jq:Stmt:=inClass (top 33) 2
def w5:bB ["self"] ["self"] (aK jq):={}
noncomputable abbrev mU:Stmt:=inClass (top 33) 3
def nP:bB ["self","row","column","way","line","place","ahead","signs","first"] ["self","row","column","way"] (aK mU):={}
noncomputable abbrev lK:Stmt:=inClass (top 33) 5
def lZ:bB ["self","laying","lines","row","column","sign"] ["self","laying"] (aK lK):={}
noncomputable abbrev uN:Stmt:=top 36
def RX:bB ["board","thing"] ["board","thing"] (aK uN):={}
noncomputable abbrev uO:Stmt:=top 37
def w6:bB ["board","thing","cells"] ["board","thing"] (aK uO):={}
noncomputable abbrev wk:Stmt:=top 38
def VJ:bB ["laying"] ["laying"] (aK wk):={}
noncomputable abbrev qD:Stmt:=top 39
def Dz:bB ["laying"] ["laying"] (aK qD):={}
noncomputable abbrev yw:Stmt:=top 40
def Zv:bB ["laying"] ["laying"] (aK yw):={}
noncomputable abbrev mC:Stmt:=top 41
def oW:bB ["board","row","column","around"] ["board","row","column"] (aK mC):={}
noncomputable abbrev Bg:Stmt:=top 42
def mD:bB ["board","laying","after","way","asked","row","column","words","along","run"] ["board","laying"] (aK Bg):={}
noncomputable abbrev rR:Stmt:=top 43
def qO:bB ["board","laying","row","column","sign"] ["board","laying"] (aK rR):={}
noncomputable abbrev oE:Stmt:=top 44
def Gy:bB ["laying"] ["laying"] (aK oE):={}
noncomputable abbrev rT:Stmt:=top 45
def qP:bB ["board","laying","after","row","column"] ["board","laying"] (aK rT):={}
noncomputable abbrev pU:Stmt:=top 46
def rW:bB ["board","laying","joined"] ["board","laying"] (aK pU):={}
noncomputable abbrev qQ:Stmt:=top 47
def jE:bB ["board","book","laying","words","row","column","way","signs","word"] ["board","book","laying"] (aK qQ):={}
noncomputable abbrev pW:Stmt:=top 48
def J8:bB ["board","book","rack","laying"] ["board","book","rack","laying"] (aK pW):={}
noncomputable abbrev wB:Stmt:=top 52
def VL:bB ["worths","sign"] ["worths","sign"] (aK wB):={}
noncomputable abbrev yx:Stmt:=top 53
def Zw:bB ["word","place"] ["word","place"] (aK yx):={}
noncomputable abbrev qR:Stmt:=top 54
def fK:bB ["board","worths","laying","word","cells","total","times","place","sign","cell","worth","mark"] ["board","worths","laying","word"] (aK qR):={}
noncomputable abbrev wC:Stmt:=top 55
def VN:bB ["bonus","laying"] ["bonus","laying"] (aK wC):={}
noncomputable abbrev uP:Stmt:=top 56
def DG:bB ["board","worths","bonus","laying","counted"] ["board","worths","bonus","laying"] (aK uP):={}
noncomputable abbrev qT:Stmt:=top 58
def Mj:bB ["rack","laying"] ["rack","laying"] (aK qT):={}
noncomputable abbrev uQ:Stmt:=top 61
def DK:bB ["thing"] ["thing"] (aK uQ):={}
noncomputable abbrev yC:Stmt:=top 62
def Zx:bB ["thing"] ["thing"] (aK yC):={}
noncomputable abbrev wD:Stmt:=top 63
def VP:bB ["tiles"] ["tiles"] (aK wD):={}
noncomputable abbrev uR:Stmt:=top 64
def RZ:bB ["things","place","thing"] ["things","place","thing"] (aK uR):={}
noncomputable abbrev lM:Stmt:=inClass (top 65) 0
def Qe:bB ["self","board","racks","bag","points"] ["self","board","racks","bag","points"] (aK lM):={}
noncomputable abbrev oY:Stmt:=top 66
def jF:bB ["stand","turn","size","laying","points","left","many","rack","racks","sums"] ["stand","turn","size","laying","points"] (aK oY):={}
noncomputable abbrev qU:Stmt:=top 67
def nQ:bB ["stand","turn","tiles","left","many","rack","bag"] ["stand","turn","tiles"] (aK qU):={}
noncomputable abbrev mV:Stmt:=inClass (top 68) 0
def DN:bB ["self","board","book","worths","bonus","size","racks","bag"] ["self","board","book","worths","bonus","size","racks","bag"] (aK mV):={}
noncomputable abbrev pC:Stmt:=inClass (top 68) 1
def oF:bB ["self","deed","stand","turn","points"] ["self","deed"] (aK pC):={}
noncomputable abbrev mW:Stmt:=inClass (top 68) 2
def R0:bB ["self"] ["self"] (aK mW):={}
noncomputable abbrev jd:Stmt:=inClass (top 68) 3
def Gz:bB ["self"] ["self"] (aK jd):={}
noncomputable abbrev je:Stmt:=inClass (top 68) 4
def GC:bB ["self"] ["self"] (aK je):={}
noncomputable abbrev jG:Stmt:=inClass (top 68) 5
def J9:bB ["self"] ["self"] (aK jG):={}
noncomputable abbrev iQ:Stmt:=inClass (top 68) 6
def DP:bB ["self"] ["self"] (aK iQ):={}
noncomputable abbrev mX:Stmt:=inClass (top 68) 7
def R3:bB ["self"] ["self"] (aK mX):={}
noncomputable abbrev jH:Stmt:=inClass (top 68) 8
def oZ:bB ["self","racks","many","last"] ["self"] (aK jH):={}
noncomputable abbrev mY:Stmt:=inClass (top 68) 9
def xq:bB ["self","first","other"] ["self"] (aK mY):={}
noncomputable abbrev yD:Stmt:=top 70
def J_:bB ["text"] ["text"] (aK yD):={}
noncomputable abbrev rY:Stmt:=top 71
def Qf:bB ["text"] ["text"] (aK rY):={}
noncomputable abbrev mZ:Stmt:=inClass (top 72) 0
def DQ:bB ["self","words","word"] ["self","words"] (aK mZ):={}
noncomputable abbrev lN:Stmt:=inClass (top 72) 1
def Qg:bB ["self"] ["self"] (aK lN):={}
noncomputable abbrev oG:Stmt:=inClass (top 72) 2
def VR:bB ["self","text"] ["self","text"] (aK oG):={}
noncomputable abbrev m_:Stmt:=inClass (top 72) 6
def R4:bB ["self"] ["self"] (aK m_):={}
noncomputable abbrev yE:Stmt:=top 74
def Zy:bB ["_law_script","_law_k"] ["_law_script","_law_k"] (aK yE):={}
noncomputable abbrev Bh:Stmt:=top 75
def nR:bB ["_law_cell","_law_many","_law_found","_law_number","_law_k"] ["_law_cell","_law_many"] (aK Bh):={}
noncomputable abbrev yF:Stmt:=top 76
def rZ:bB ["_law_cell","_law_letters_here","_law_found","_law_k"] ["_law_cell"] (aK yF):={}
noncomputable abbrev Gf:Stmt:=top 77
def ni:bB ["_law_cell","_law_letters_here","_law_words_here","_law_number","_law_size","_law_word","_law_rest","_law_k"] ["_law_cell","_law_letters_here"] (aK Gf):={}
noncomputable abbrev Ka:Stmt:=top 78
def j8:bB ["_law_cell","_law_letters_here","_law_rows_here","_law_columns","_law_signs","_law_marks","_law_number","_law_sign","_law_begin","_law_texts","_law_some"] ["_law_cell","_law_letters_here"] (aK Ka):={}
noncomputable abbrev Gg:Stmt:=top 79
def xr:bB ["_law_cell","_law_letters_here","_law_many","_law_blanks","_law_tiles_here","_law_number"] ["_law_cell","_law_letters_here","_law_many","_law_blanks"] (aK Gg):={}
noncomputable abbrev Gh:Stmt:=top 80
def fY:bB ["_law_script","_law_letters_here","_law_cell","_law_size","_law_many","_law_few","_law_tiles_here","_law_racks","_law_k","_law_less","_law_worths","_law_letter","_law_bonus","_law_rows_here","_law_marks","_law_begin","_law_board","_law_words_here"] ["_law_script"] (aK Gh):={}
noncomputable abbrev Gi:Stmt:=top 81
def H_:bB ["_law_parts_here","_law_racks"] ["_law_parts_here"] (aK Gi):={}
noncomputable abbrev uT:Stmt:=top 82
def iw:bB ["_law_rows_here","_law_word","_law_place","_law_rack","_law_row","_law_column","_law_way","_law_left","_law_laying_here","_law_letter","_law_tile"] ["_law_rows_here","_law_word","_law_place","_law_rack"] (aK uT):={}
noncomputable abbrev Kc:Stmt:=top 83
def afG:bB ["_law_board","_law_book","_law_rack","_law_laying_here"] ["_law_board","_law_book","_law_rack","_law_laying_here"] (aK Kc):={}
noncomputable abbrev Bj:Stmt:=top 84
def vh:bB ["_law_board","_law_book","_law_words_here","_law_rack","_law_cell","_law_number","_law_place","_law_laying_here"] ["_law_board","_law_book","_law_words_here","_law_rack","_law_cell"] (aK Bj):={}
noncomputable abbrev Kd:Stmt:=top 85
def j9:bB ["_law_now","_law_book","_law_words_here","_law_cell","_law_board","_law_racks","_law_bag","_law_sums","_law_done","_law_passed","_law_over","_law_numbers","_law_rack","_law_laying_here","_law_many","_law_by"] ["_law_now","_law_book","_law_words_here","_law_cell"] (aK Kd):={}
noncomputable abbrev zY:Stmt:=top 86
def ud:bB ["_law_rack","_law_tiles_here","_law_left","_law_tile"] ["_law_rack","_law_tiles_here"] (aK zY):={}
noncomputable abbrev Ke:Stmt:=top 87
def gZ:bB ["_law_now","_law_parts_here","_law_deed_here","_law_board","_law_racks","_law_bag","_law_sums","_law_done","_law_passed","_law_over","_law_here","_law_points","_law_left","_law_drawn"] ["_law_now","_law_parts_here","_law_deed_here"] (aK Ke):={}
noncomputable abbrev Bk:Stmt:=top 88
def mF:bB ["_law_game","_law_now","_law_board","_law_racks","_law_bag","_law_sums","_law_done","_law_passed","_law_over","_law_there"] ["_law_game","_law_now"] (aK Bk):={}
noncomputable abbrev Kf:Stmt:=top 89
def Xc:bB ["_law_game","_law_stood","_law_k"] ["_law_game","_law_stood"] (aK Kf):={}
noncomputable abbrev Q0:Stmt:=top 90
def kZ:bB ["_law_script","_law_parts_here","_law_book","_law_game","_law_stood","_law_cell","_law_deed_here","_law_twin","_law_third","_law_pair","_law_both","_law_k","_law_at","_law_now","_law_one"] ["_law_script"] (aK Q0):={}
section
variable {P:Program}{w:World}{K:W.Frag}{mg:Str->Option Value}{base:Heap}
def DR (c:Nat):Bool:=decide (97<=c)&&decide (c<=122)
def G7 (c:Nat):Bool:=decide (65<=c)&&decide (c<=90)
def DW (l:List Nat):Bool:=match l with|[c]=>DR c||G7 c|_=>false
def lt1 (a b:Nat):([a]<[b])↔a<b:=by simp[ij]
def Ml (a b:Nat):(!decide ([a]<[b]))=decide (b<=a):=by
 by_cases h:a<b;.rw[al ((lt1 a b).mpr h),ag qi];rfl
 .rw[ag (λz=>h ((lt1 a b).mp z)),al qi];rfl
def aeK (K:W.Frag)(H:Hp)(x:V):Prop:=∃t,mJ K H x t/\W.kitOne K t (.type "str")=some false
def R5 (K:W.Frag):Sp:=λvs H Q _=>(∃x,vs=[x]/\aeK K H x/\Q (.bl false) H)\/(∃l,vs=[.str (S l)]/\l.length<=1000/\Q (.bl (DW l)) H)
def Zz (D:aP K mg "is_sign" yr ["thing"])(O:mg "len"=none)(F:mg "str"=none)(I:mg "isinstance"=none):cg P w K mg base "is_sign" 1 ["thing"] (R5 K):=by
 refine D.dM Zt (λf bN A outer s H vs Q E Y h=>?_) (λvs H Q E h=>?_)
 .refine(aj _ (aB (cJ (QW.qt (mq (d7 (dR (aY gM qr I cf (ak aH (ak (lD (v:=.ty "str") qr F mB rL) aq)))))
     (lG (b_ FT (aY dO qr O ay (ak aH aq)) au (bM _))))) (aG (bC iZ)) bO)
   (aG (bC (QK (mO oN oN (bQ [97] qB) aH (bQ [122] qB))
    (jA (mO oN oN (bQ [65] qB) aH (bQ [90] qB))))))) ?_)
  rcases h with⟨x,rfl,⟨t,ty,J⟩,q⟩|⟨l,rfl,hl,q⟩;.show(aj _ rL (gG _ _ _ false rL ty J (aj _ rL (cG (cG q)))))
  .let hz:l.length<=sizeLine:=av (aM qi);calc(aj _ rL (gG _ _ _ true rL (.str _) qA (aj _ rL (bW (aj _ rL (h_ l rL hz rL (aj _ rL ?_)))))));by_cases h1:l.length=1
   .let⟨c,rfl⟩:=List.length_eq_one_iff.mp h1;calc QF rL ?_;calc(aj _ rL (aJ [97] [c] rL rL (aj (decide (97<=c)) (by rw[Ml]) ?_)));let G:Q (.bl (DR c||G7 c)) H:=q;let j:(G7 c=(DR c||G7 c))->Dh ac1 ac1 (tC (.str (S [65]))) (YC 0) (tC (.str (S [90]))) [some (.str (S [c]))] H Q:=λe=>by
     calc(aj _ rL (aJ [65] [c] rL rL (aj (decide (65<=c)) (by rw[Ml]) ?_)));rw[<-e]at G;by_cases h2:65<=c
     .rw[al h2];calc cG (aJ [c] [90] rL rL ?_);rw[Ml];simpa [G7,h2] using G
     .rw[ag h2];calc bW ?_;simpa [G7,h2] using G
    by_cases h2:97<=c
    .rw[al h2];calc cG (aJ [c] [122] rL rL (aj _ rL ?_));rw[Ml];by_cases h3:c<=122
     .rw[al h3];calc cG ?_;simpa [DR,h2,h3] using G
     .rw[ag h3];show bW (j (by simp[DR,h2,h3]))
    .rw[ag h2];show bW (aj _ rL (bW (j (by simp[DR,h2]))))
   .let e:(!decide (V.int (l.length:Int)=V.int 1))=true:=by
     rw[ag];rfl;intro z;injection z with z;lia
    rw[e];let e2:DW l=false:=by
     match l,h1 with| [],_=>rfl| [c],h=>show absurd rL h| _::_::_,_=>rfl
    rw[e2]at q;show cG q
 .rcases h with⟨x,rfl,_⟩|⟨x,rfl,_⟩ <;> rfl
def abn (K:W.Frag):Sp:=λvs H Q _=>∃(a:Addr) (ns:List Int) (k:Nat),vs=[.ref a,.int k]/\bH K H a (ns.map V.int)/\∀v:Int,Q (.int v) H
def isLet (c:Nat):Prop:=97<=c/\c<=122
structure ZC (ls:List Nat):Prop where
 lo:2<=ls.length
 hi:ls.length<=26
 az:∀c∈ls,isLet c
def ZD (D:aP K mg "_law_cell_at" yE ["_law_script","_law_k"])(G:mg "len"=none):cg P w K mg base "_law_cell_at" 1 ["_law_script","_law_k"] (abn K):=by
 calc D.dM Zy (λf bN A outer s H vs Q E J h=>?_);let⟨a,ns,k,rfl,j,q⟩:=h;calc(aj _ (aB (cJ (b_ vQ bA (aY bY qr G ay (ak aH aq)) (bM _)) (aG (bC (bh cW aH bA (λ_ _=>rfl)))) bO) (aG (bC au))) ?_);calc(aj _ rL (aj _ rL (aJ a _ rL (.inl j) (aJ _ _ rL rL (aj _ rL ?_)))));refine jP (λI=>?_) (λ_=>?_)
 .let F:k<ns.length:=by
   have:=eK I;rw[aa]at this;lia
  show(aj _ rL (aj _ rL (bw a _ _ (.int ns[k]) rL rL j (aQ (by simp[F])) (q _))))
 .show q _
def nu (l:List Nat):(l.map λc=>[c]).flatten=l:=by
 induction l with| nil=>rfl| cons c r ih=>rw[cw,fh,ih];rfl
def ajF:∀c∈AL,isLet c:=λc D=>by let⟨k,j,rfl⟩:=be.mp D;have:=gL.mp j;show⟨qi,qi⟩
def rD (c:Nat):Prop:=DW [c]=true
def rD.lt {c:Nat}(h:rD c):c<128:=by unfold rD DW DR G7 at h;simp at h;lia
def abo {c:Nat}(h:isLet c):rD c:=by simp[rD,DW,DR,h.1,h.2]
def abp {c:Nat}(h:isLet c):rD (c-32):=by let h1:=h.1;let h2:=h.2;simp[rD,DW,DR,G7];lia
def afH {xs:List V}{a b:Nat}(h1:a<=b)(h2:b<=xs.length):fV xs (some (a:Int)) (some (b:Int))=(xs.drop a).take (b-a):=by unfold fV;rw[HT.jX,HT.jX,fF h2,fF (show a<=xs.length by lia)]
abbrev ones (cs:List Nat):List (List Nat):=cs.map λc=>[c]
structure Blk (r w:Nat)(ls:AB):Prop where
 len:ls.length=r
 sO:∀l∈ls,l.length=w
def MK:List Nat:=[46,50,51,52,98,99,100]
def CJ (c:Nat):Prop:=c=46\/rD c
def Kg (c:Nat):Prop:=c∈MK
structure R6 (r w:Nat)(aF aO:AB)(i j:Nat):Prop where
 r1:1<=r
 r9:r<=9
 w1:1<=w
 w9:w<=9
 br:Blk r w aF
 bm:Blk r w aO
 cr:∀l∈aF,∀c∈l,CJ c
 cm:∀l∈aO,∀c∈l,Kg c
 bi:i<r
 bj:j<w
def Mp (ls:AB)(l:List Nat):Ts ls++[V.str (S l)]=Ts (ls++[l]):=by simp[Ts]
def abq (cs:List Nat)(c:Nat):ones cs++[[c]]=ones (cs++[c]):=by simp[ones]
def cell (R:AB)(i j:Nat):Nat:=(R.getD i []).getD j 0
def cell_eq {R:AB}{i j:Nat}(hi:i<R.length)(D:j<R[i].length):cell R i j=R[i][j]:=by unfold cell;rw[ax (l:=R),ac hi];show (R[i]).getD j 0=_;rw[ax,ac D];rfl
def Xd:Sp:=λvs H Q _=>∃i:Int,vs=[.int i]/\Q (.bl true) H
def V0 (D:aP K mg "is_whole" rQ ["thing"])(F:mg "int"=none)(G:mg "bool"=none)(j:mg "isinstance"=none):cg P w K mg base "is_whole" 1 ["thing"] Xd:=by calc D.dM G5 (λf bN A outer s H vs Q E I h=>?_);let⟨i,rfl,q⟩:=h;calc(aj _ (aG (bC (jR (aY gM qr j cf (ak aH (ak (lD (v:=.ty "int") qr F kz rL) aq))) (jA (aa2 (aY gM qr j cf (ak aH (ak (lD (v:=.ty "bool") qr G mi rL) aq)))))))) ?_);show(aj _ rL (gG _ _ _ true rL (.int _) qA (aj true rL (cG (aj _ rL (gG _ _ _ false rL (.int _) qA (aj false rL q)))))))
def oH {ls:AB}{i:Nat}{l:List Nat}(h:ls[i]?=some l):(Ts ls)[i]?=some (.str (S l)):=by simp[Ts,h]
def xu {ls:AB}{i:Nat}{x:V}(h:(Ts ls)[i]?=some x):∃l,ls[i]?=some l/\x=.str (S l):=by rw[ck]at h;let⟨l,h1,h2⟩:=dL.mp h;show(aj l h1 h2.symm)
def zZ (n:Nat):((List.replicate n true).all id)=true:=by simp
def xG (n:Nat):(List.replicate n true).map V.bl++[V.bl true]=(List.replicate (n+1) true).map V.bl:=by rw[kM,bq];rfl
def Mq:Sp:=λvs H Q _=>∃(p:Addr) (ls:AB) (r w:Nat),vs=[.ref p]/\H p=some (.tup (Ts ls))/\Blk r w ls/\1<=r/\r<=9/\1<=w/\w<=9/\∀H',aD H H'->Q (.bl true) H'
def V1 (D:aP K mg "is_block" vZ ["thing"])(bG:mg "len"=none)(cT:mg "tuple"=none)(wF:mg "str"=none)(fZ:mg "all"=none)(bL:mg "isinstance"=none)(z9:∃t,mg "MOST"=some (.int 9 t)):cg P w K mg base "is_block" 1 ["thing"] Mq:=by
 calc D.dM uL (λf bN A outer s H vs Q E hr h=>?_);let⟨p,ls,r,w,rfl,hp,hb,r1,r9,w1,w9,q⟩:=h;let qF:(Ts ls).length=r:=by rw[aa,hb.len]
 let h0:0<ls.length:=by rw[hb.len];lia
 calc(aj _ (aB (cJ (QW.qt (mq (d7 (dR (aY gM qr bL cf (ak aH (ak (lD (v:=.ty "tuple") qr cT dq rL) aq))))) (lG (d7 (Ax qJ qJ au (aY bY qr bG ay (ak aH aq)) (Ze qr z9)))))) (aG (bC iZ)) bO) (aB (cJ (d7 (dR (aY (kI rL) qr fZ jT (ak (j5 rL (jz.of uL.nd qA) (iI aH) (λ_ _ _ _ _=>fu) (λ_ _ _ _ _=>(aY (RG K) qr bL cf (ak aH (ak (lD (v:=.ty "str") qr wF mB rL) aq))))) aq)))) (aG (bC iZ)) bO) (aB (aV (i:=1) uL.nd rL (Or.inr rL) (aY dO qr bG ay (ak (bh bD aH au (λ_ _=>rfl)) aq))) (aG (bC (jR (mO qJ qJ au bA (Ze qr z9)) (jA (aY (kI rL) qr fZ jT (ak (j5 rL (jz.of uL.nd qA) (iI aH) (λ_ _ _ _ _=>fu) (λ_ _ _ _ _=>(fH jl (aY dO qr bG ay (ak aH aq)) bF (bM _)))) aq))))))))) ?_);calc(aj _ rL (gG _ _ _ true rL (.tup hp) qA (aj _ rL (bW ?_))));calc(aj _ rL (aJ p _ rL (.inr (aU.of hp)) (aJ _ _ rL rL (aj true (by rw[qF];simp;lia) (cG (aJ _ _ rL rL (aj true (by rw[qF];simp;lia) (bW ?_))))))));refine(aj _ rL (bf p rL ⟨_,aU.of hp⟩ (λL hL=>qX (xs:=Ts ls) (λi ys Y=>ys=(List.replicate i true).map V.bl/\Y L=some (.lst ys)/\aD H Y) (bV rL aA (aD.upd hL)) (λi ys Y _ h=>aU.of (h.2.2 _ _ hp)) ?_ ?_)))
 .intro i x ys Y hi z;let⟨rfl,J,I⟩:=z;let⟨l,hl,rfl⟩:=xu hi;let O:i<(Ts ls).length:=(ah.mp hi).1;refine(aj _ rL (gH _ _ _ true rL (.str _) qA J (by rw[aa,cE];show aM qi) (iU.mk O (bV (xG i) aA (I.dX hL)))))
 .intro ys Y z;let⟨rfl,J,I⟩:=z;calc(aJ L _ rL (bH.of J) ?_);rw[zZ];calc(aj _ rL (bW ?_));let G:ls[0].length=w:=hb.sO _ (aS _);let hz:ls[0].length<=sizeLine:=av (aM qi);calc(aj _ rL (bw p _ _ (.str (S ls[0])) rL rL (aU.of (I _ _ hp)) (aQ (j:=0) (oH (by simp[h0]))) (bf _ rL hz ?_)));calc(aj _ rL (aJ _ _ rL rL (aj true (by rw[G];simp;lia) (cG (aJ _ _ rL rL (aj true (by rw[G];simp;lia) (cG ?_)))))));refine(aj _ rL (bf p rL ⟨_,aU.of (I _ _ hp)⟩ (λL2 vL=>qX (xs:=Ts ls) (λi ys Z=>ys=(List.replicate i true).map V.bl/\Z L2=some (.lst ys)/\aD H Z) (bV rL aA (I.dX (I.free vL))) (λi ys Y _ h=>aU.of (h.2.2 _ _ hp)) ?_ ?_)))
  .intro i x ys Z hi z;let⟨rfl,z_,F⟩:=z;let⟨l,hl,rfl⟩:=xu hi;let O:i<(Ts ls).length:=(ah.mp hi).1;let hlw:l.length=w:=hb.sO _ (bu hl);calc(aj _ rL (bf _ rL (av (aM qi)) (pR _ rL rL z_ (by rw[aa,cE];show aM qi) (iU.mk O (bV ?_ aA (F.dX (I.free vL)))))));rw[hlw,G,al rfl];show xG i
  .intro ys Z z;let⟨rfl,z_,F⟩:=z;calc(aJ L2 _ rL (bH.of z_) ?_);rw[zZ];show q Z F
def Ia {r w:Nat}{ls:AB}(h:Blk r w ls):ls.flatten.length=r*w:=by
 rw[List.length_flatten];have:ls.map List.length=List.replicate r w:=by rw[<-h.len,List.eq_replicate_iff];show⟨qk,λb hb=>by let⟨l,hl,rfl⟩:=be.mp hb;show h.sO l hl⟩
 rw[this,List.sum_replicate_nat]
def abr:Sp:=λvs H Q _=>∃(p:Addr) (ls:AB) (r w:Nat),vs=[.ref p]/\H p=some (.tup (Ts ls))/\Blk r w ls/\1<=r/\r<=9/\1<=w/\w<=9/\(∀l∈ls,∀c∈l,CJ c)/\∀H',aD H H'->Q (.bl true) H'
def V2 (D:aP K mg "are_rows" wg ["thing"])(fZ:mg "all"=none)(gR:∃t,mg "FREE"=some (.str (S [46]) t))(Bl:cg P w K mg base "is_block" 1 ["thing"] Mq)(DX:cg P w K mg base "is_sign" 1 ["thing"] (R5 K)):cg P w K mg base "are_rows" 2 ["thing"] abr:=by
 calc D.dM G6 (λf bN A outer s H vs Q E hr h=>?_);let⟨p,ls,r,w,rfl,hp,hb,r1,r9,w1,w9,hc,q⟩:=h;let hrw:r*w<=81:=gh r9 w9;let hfl:=Ia hb;calc(aj _ (aG (bC (jR (bI Bl hr.mono rL (ak aH aq)) (jA (aY (kI rL) qr fZ jT (ak (j5 rL (jz.of G6.nd qA) (rP (gC bp dA dC HS (bQ [] qB) (ak aH aq))) (λ_ _ _ _ _=>fu) (λ_ _ _ _ _=>(QK (fH jQ aH (uJ qr gR) (bM _)) (jA (bI DX hr.mono rL (ak aH aq)))))) aq)))))) ?_);calc(aj _ rL (nq p ls r w rL hp hb r1 r9 w1 w9 (λH1 s1=>(aj true rL (cG ?_)))));calc⟨rL,aj _ rL (dG p ls rL rL (aU.of (s1 _ _ hp)) qi (aj _ rL (λL Z=>?_)))⟩;refine wW (λi ys j=>ys=(List.replicate i true).map V.bl/\j L=some (.lst ys)/\aD H j) (bV rL aA (s1.dX (s1.free Z))) ?_ ?_
 .intro i c ys j hi z;let⟨rfl,G,O⟩:=z;let Y:i<ls.flatten.length:=(ah.mp hi).1;let⟨l,hl,J⟩:=List.mem_flatten.mp (bu hi);let F:j L=some (.lst ((List.replicate i true).map V.bl))/\((List.replicate i true).map V.bl).length<sizeLine/\iU ls.flatten.length i ((List.replicate i true).map V.bl++[V.bl true]=(List.replicate (i+1) true).map V.bl/\upd j L (.lst ((List.replicate i true).map V.bl++[V.bl true])) L=some (.lst ((List.replicate i true).map V.bl++[V.bl true]))/\aD H (upd j L (.lst ((List.replicate i true).map V.bl++[V.bl true])))):=
   (bV G (by rw[aa,cE];show aM qi) (iU.mk Y (bV (xG i) aA (O.dX (s1.free Z)))))
  calc(aj _ rL (aJ [c] [46] rL rL (aj _ rL ?_)));rcases hc l hl c J with e|e
  .subst e;rw[al rfl];show cG F
  .by_cases I:[c]=[46]
   .rw[al I];show cG F
   .rw[ag I];calc bW (aj _ rL (.inr (bf [c] rL (by show 1<=1000;decide) ?_)));rw[show DW [c]=true from e];show F
 .intro ys j z;let⟨rfl,G,O⟩:=z;calc(aJ L _ rL (bH.of G) ?_);rw[zZ];show q j O
def Xe:Sp:=λvs H Q _=>∃(p:Addr) (ls:AB) (r w:Nat),vs=[.ref p]/\H p=some (.tup (Ts ls))/\Blk r w ls/\1<=r/\r<=9/\1<=w/\w<=9/\(∀l∈ls,∀c∈l,Kg c)/\∀H',aD H H'->Q (.bl true) H'
def R7 (D:aP K mg "are_marks" uM ["thing"])(fZ:mg "all"=none)(Y:∃t,mg "MARKS"=some (.str (S MK) t))(Bl:cg P w K mg base "is_block" 1 ["thing"] Mq):cg P w K mg base "are_marks" 2 ["thing"] Xe:=by
 calc D.dM Dy (λf bN A outer s H vs Q E hr h=>?_);let⟨p,ls,r,w,rfl,hp,hb,r1,r9,w1,w9,hc,q⟩:=h;let Z:r*w<=81:=gh r9 w9;let hfl:=Ia hb;calc(aj _ (aG (bC (jR (bI Bl hr.mono rL (ak aH aq)) (jA (aY (kI rL) qr fZ jT (ak (j5 rL (jz.of Dy.nd qA) (rP (gC bp dA dC HS (bQ [] qB) (ak aH aq))) (λ_ _ _ _ _=>fu) (λ_ _ _ _ _=>(fH ahz aH (uJ qr Y) rL))) aq)))))) ?_);calc(aj _ rL (nq p ls r w rL hp hb r1 r9 w1 w9 (λH1 s1=>(aj true rL (cG ?_)))));calc⟨rL,aj _ rL (dG p ls rL rL (aU.of (s1 _ _ hp)) qi (aj _ rL (λL O=>?_)))⟩;refine wW (λi ys F=>ys=(List.replicate i true).map V.bl/\F L=some (.lst ys)/\aD H F) (bV rL aA (s1.dX (s1.free O))) ?_ ?_
 .intro i c ys F hi z;let⟨rfl,j,I⟩:=z;let J:i<ls.flatten.length:=(ah.mp hi).1;let⟨l,hl,G⟩:=List.mem_flatten.mp (bu hi);calc(aj _ rL (dG c MK rL rL j (by rw[aa,cE];show aM qi) (iU.mk J (bV ?_ aA (I.dX (s1.free O))))));rw[al (show c∈MK from hc l hl c G)];show xG i
 .intro ys F z;let⟨rfl,j,I⟩:=z;calc(aJ L _ rL (bH.of j) ?_);rw[zZ];show q F I
def Ib (K:W.Frag):Sp:=λvs H Q _=>∃(p:Addr) (ls:AB) (r w:Nat) (i j:Int),vs=[.ref p,.int i,.int j]/\aU K H p (Ts ls)/\Blk r w ls/\1<=r/\r<=9/\w<=9/\Q (.bl (decide (0<=i/\i<r/\0<=j/\j<w))) H
def Qh (D:aP K mg "is_cell_of" pB ["rows","row","column"])(I:mg "len"=none)(G:cg P w K mg base "is_whole" 1 ["thing"] Xd):cg P w K mg base "is_cell_of" 2 ["rows","row","column"] (Ib K):=by
 calc D.dM Cz (λf bN A outer s H vs Q E J h=>?_);let⟨p,ls,r,w,i,j,rfl,hp,hb,r1,r9,w9,q⟩:=h;let O:(Ts ls).length=r:=by rw[aa,hb.len]
 let h0:0<ls.length:=by rw[hb.len];lia
 let F:ls[0].length=w:=hb.sO _ (aS _);calc(aj _ (aB (cJ (QW.qt (mq (d7 (dR (bI G J.mono rL (ak bA aq)))) (lG (d7 (dR (bI G J.mono rL (ak bF aq))))))) (aG (bC iZ)) bO) (aG (bC (jR (mO qJ vQ au bA (aY bY qr I ay (ak aH aq))) (jA (mO qJ vQ au bF (aY dO qr I ay (ak (bh bD aH au (λ_ _=>rfl)) aq)))))))) ?_);calc(aj _ rL (aj i rL (aj _ rL (bW (aj _ rL (aj j rL (aj _ rL (bW ?_))))))));calc(aj _ rL (aJ _ _ rL rL (aj _ rL ?_)));by_cases h1:0<=i
 .rw[al h1];calc cG (aj _ rL (aJ p _ rL (.inr hp) (aJ _ _ rL rL (aj _ rL ?_))));rw[O];by_cases h2:i<(r:Int)
  .rw[al h2];calc cG (aj _ rL (aJ _ _ rL rL (aj _ rL ?_)));by_cases h3:0<=j
   .rw[al h3];calc cG (aj _ rL (bw p _ _ (.str (S ls[0])) rL rL hp (aQ (j:=0) (oH (by simp[h0]))) (bf _ rL (av (aM qi)) (aJ _ _ rL rL ?_))));rw[F];simpa [h1,h2,h3] using q
   .rw[ag h3];calc bW ?_;simpa [h1,h2,h3] using q
  .rw[ag h2];calc bW ?_;simpa [h1,h2] using q
 .rw[ag h1];calc bW (aj _ rL (bW ?_));simpa [h1] using q
def Xf (K:W.Frag):Sp:=λvs H Q _=>∃(p b:Addr) (ls:AB) (r w:Nat) (i j:Nat),vs=[.ref p,.ref b]/\H p=some (.tup (Ts ls))/\H b=some (.tup [.int i,.int j])/\Blk r w ls/\1<=r/\r<=9/\w<=9/\i<r/\j<w/\Q (.bl true) H
def Mr (D:aP K mg "is_begin_of" qM ["rows","thing"])(O:mg "len"=none)(G:mg "tuple"=none)(F:mg "isinstance"=none)(I:cg P w K mg base "is_cell_of" 2 ["rows","row","column"] (Ib K)):cg P w K mg base "is_begin_of" 3 ["rows","thing"] (Xf K):=by calc D.dM Mi (λf bN A outer s H vs Q E Y h=>?_);let⟨p,b,ls,r,w,i,j,rfl,hp,hb,J,r1,r9,w9,hi,Z,q⟩:=h;calc(aj _ (aG (bC (jR (aY gM qr F cf (ak bA (ak (lD (v:=.ty "tuple") qr G dq rL) aq))) (jR (fH jl (aY bY qr O ay (ak bA aq)) au (bM _)) (jA (bI I Y.mono rL (ak aH (ak (bh bD bA au (λ_ _=>rfl)) (ak (bh bD bA au (λ_ _=>rfl)) aq))))))))) ?_);calc(aj _ rL (gG _ _ _ true rL (.tup hb) qA (aj true rL (cG ?_))));calc(aj _ rL (aX b _ rL (.inr (aU.of hb)) rL (aj true rL (cG ?_))));calc(aj _ rL (aj _ rL (bw b _ _ (.int i) rL rL (aU.of hb) (aQ (j:=0) rL) (aj _ rL (bw b _ _ (.int j) rL rL (aU.of hb) (aQ (j:=1) rL) ?_)))));calc(Bf p ls r w i j rL (aU.of hp) J r1 r9 w9 ?_);rw[al (QV qi qi qi qi)];show q
def Xg:Sp:=λvs H Q _=>∃(pr pm pb:Addr) (r w:Nat) (aF aO:AB) (i j:Nat),vs=[.ref pr,.ref pm,.ref pb]/\H pr=some (.tup (Ts aF))/\H pm=some (.tup (Ts aO))/\H pb=some (.tup [.int i,.int j])/\R6 r w aF aO i j/\∀H',aD H H'->Q (.bl true) H'
def V3 (D:aP K mg "is_board" wj ["rows","marks","begin"])(I:mg "len"=none)(ZF:cg P w K mg base "are_rows" 2 ["thing"] abr)(V4:cg P w K mg base "are_marks" 2 ["thing"] Xe)(Qi:cg P w K mg base "is_begin_of" 3 ["rows","thing"] (Xf K)):cg P w K mg base "is_board" 4 ["rows","marks","begin"] Xg:=by
 calc D.dM VG (λf bN A outer s H vs Q E Y h=>?_);let⟨pr,pm,pb,r,w,aF,aO,i,j,rfl,G,hm,hb,B,q⟩:=h;let l1:(Ts aF).length=r:=by rw[aa,B.br.len]
 let l2:(Ts aO).length=r:=by rw[aa,B.bm.len]
 let h0:0<aF.length:=by rw[B.br.len];show B.r1
 let J:0<aO.length:=by rw[B.bm.len];show B.r1
 let w0:aF[0].length=w:=B.br.sO _ (aS _);let O:aO[0].length=w:=B.bm.sO _ (aS _);let w9:=B.w9;calc(aj _ (aB (cJ (QW.qt (mq (d7 (dR (bI ZF Y.mono rL (ak aH aq)))) (lG (d7 (dR (bI V4 Y.mono rL (ak bA aq))))))) (aG (bC iZ)) bO) (aB (cJ (QW.qt (mq (b_ FT (aY bY qr I ay (ak bA aq)) (aY bY qr I ay (ak aH aq)) (bM _)) (lG (b_ FT (aY dO qr I ay (ak (bh bD bA au (λ_ _=>rfl)) aq)) (aY dO qr I ay (ak (bh bD aH au (λ_ _=>rfl)) aq)) (bM _))))) (aG (bC iZ)) bO) (aG (bC (bI Qi Y.mono rL (ak aH (ak bF aq))))))) ?_);calc(aj _ rL ⟨pr,aF,r,w,rL,G,B.br,B.r1,B.r9,B.w1,B.w9,B.cr,λH1 s1=>(aj _ rL (bW ?_))⟩);calc(aj _ rL ⟨pm,aO,r,w,rL,s1 _ _ hm,B.bm,B.r1,B.r9,B.w1,B.w9,B.cm,λZ s2=>(aj _ rL (bW ?_))⟩);let F:=s1.trans s2;calc(aj _ rL (aJ pm _ rL (.inr (aU.of (F _ _ hm))) (aj _ rL (aX pr _ rL (.inr (aU.of (F _ _ G))) rL (aj _ rL ?_)))));calc QF (by rw[l1,l2]) ?_;calc(aj _ rL (bw pm _ _ (.str (S aO[0])) rL rL (aU.of (F _ _ hm)) (aQ (j:=0) (oH (by simp[J]))) (bf _ rL (av (aM qi)) (aj _ rL (bw pr _ _ (.str (S aF[0])) rL rL (aU.of (F _ _ G)) (aQ (j:=0) (oH (by simp[h0]))) (h_ _ rL (av (aM qi)) rL (aj _ rL ?_)))))));calc QF (by rw[w0,O]) ?_;calc(aj _ rL (aj _ rL ⟨pr,pb,aF,r,w,i,j,rL,F _ _ G,F _ _ hb,B.br,B.r1,B.r9,B.w9,B.bi,B.bj,?_⟩));show q Z F
structure iy (K:W.Frag)(C:Addr):Prop where
 cl:Cls K C
 nr:jg K C "rows"
 nm:jg K C "marks"
 nb:jg K C "begin"
structure cX (C:Addr)(H:Hp)(p:Addr)(r w:Nat)(aF aO:AB)(i j:Nat):Prop where
 ex:∃dx pr pm pb,H p=some (.ins C dx [("rows",.ref pr),("marks",.ref pm),("begin",.ref pb)])/\H pr=some (.tup (Ts aF))/\H pm=some (.tup (Ts aO))/\H pb=some (.tup [.int i,.int j])
 ok:R6 r w aF aO i j
def cX.mv {C:Addr}{H H':Hp}{p:Addr}{r w:Nat}{aF aO:AB}{i j:Nat}(B:cX C H p r w aF aO i j)(s:aD H H'):cX C H' p r w aF aO i j:=by obtain⟨⟨dx,pr,pm,pb,a,b,c,d⟩,o⟩:=B;show⟨(gG dx pr pm pb (s _ _ a) (s _ _ b) (s _ _ c) (s _ _ d)),o⟩
def Ms (C:Addr):Sp:=λvs H Q _=>∃(p dx pr pm pb:Addr) (r w:Nat) (aF aO:AB) (i j:Nat),vs=[.ref p,.ref pr,.ref pm,.ref pb]/\H p=some (.ins C dx [])/\H pr=some (.tup (Ts aF))/\H pm=some (.tup (Ts aO))/\H pb=some (.tup [.int i,.int j])/\R6 r w aF aO i j/\
 ∀H',(∀b o,H b=some o->b≠p->H' b=some o)->H' p=some (.ins C dx [("rows",.ref pr),("marks",.ref pm),("begin",.ref pb)])->Q .non H'
def Qj {f C:Addr}{fd:FuncData}(F:fj K "__init__" "Board.__init__" lJ f fd)(T:iy K C)(Z:cg P w K mg base "is_board" 4 ["rows","marks","begin"] Xg):cA P w K mg base dJ 5 f fd ["self","rows","marks","begin"] (Ms C):=by
 calc F.dM Qd (λbN A outer s H vs Q E I h=>?_);let⟨p,dx,pr,pm,pb,r,w,aF,aO,i,j,rfl,hp,G,hm,hb,B,q⟩:=h;calc(aj _ (aB (cJ (d7 (dR (bI Z I.mono rL (ak bA (ak bF (ak bT aq)))))) q_ bO) (aB (kY aH bA rL) (aB (kY aH bF rL) (aG (kY aH bT rL))))) ?_);calc(aj _ rL (aj _ rL (aj _ rL ⟨pr,pm,pb,r,w,aF,aO,i,j,rL,G,hm,hb,B,λH1 s1=>(aj _ rL (bW ?_))⟩)));calc(aj _ rL (aj _ rL (gH p C dx _ rL (s1 _ _ hp) T.cl T.nr (by show 0<1000;decide) ?_)));calc(aj _ rL (aj _ rL (gH p C dx _ rL aA T.cl T.nm (by show 1<1000;decide) ?_)));calc(aj _ rL (aj _ rL (gH p C dx _ rL aA T.cl T.nb (by show 2<1000;decide) ?_)));calc q _ (λb o e D=>?_) ?_;.rw[aZ D,aZ D,aZ D];show s1 _ _ e
 .show aA
noncomputable def atC (aF:AB)(r w:Nat)(i j:Int):Nat:=if 0<=i/\i<r/\0<=j/\j<w then (aF.getD i.toNat []).getD j.toNat 0 else 46
def ZJ (C:Addr):Sp:=λvs H Q _=>∃(p:Addr) (r w:Nat) (aF aO:AB) (bi bj:Nat) (i j:Int),vs=[.ref p,.int i,.int j]/\cX C H p r w aF aO bi bj/\Q (.str (S [atC aF r w i j])) H
def ajG {f C:Addr}{fd:FuncData}(F:fj K "at" "Board.at" oA f fd)(T:iy K C)(Z:∃t,mg "FREE"=some (.str (S [46]) t))(J:cg P w K mg base "is_cell_of" 2 ["rows","row","column"] (Ib K)):cA P w K mg base dJ 3 f fd ["self","row","column"] (ZJ C):=by
 calc F.dM VH (λbN A outer s H vs Q E Y h=>?_);let⟨p,r,w,aF,aO,bi,bj,i,j,rfl,B,q⟩:=h;obtain⟨⟨dx,pr,pm,pb,hp,D,hm,hb⟩,O⟩:=B;let w9:=O.w9;calc(aj _ (aG (bC (n_ (dR (bI J Y.mono rL (ak (bK aH rL) (ak bA (ak bF aq))))) (bh Aw (bh bD (bK aH rL) bA (λ_ _=>rfl)) bF (λ_ _=>rfl)) (uJ qr Z)))) ?_);calc(aj _ rL (cB p C dx _ _ rL hp T.cl T.nr rL (aj _ rL (aj _ rL (Bf pr aF r w i j rL (aU.of D) O.br O.r1 O.r9 O.w9 (aj _ rL ?_))))));by_cases h:0<=i/\i<r/\0<=j/\j<w
 .rw[al h];let e:atC aF r w i j=(aF.getD i.toNat []).getD j.toNat 0:=if_pos h;rw[e]at q;obtain⟨i,rfl⟩:∃k:Nat,i=k:=⟨i.toNat,qi⟩
  obtain⟨j,rfl⟩:∃k:Nat,j=k:=⟨j.toNat,qi⟩
  rw[eI,eI]at q;let hi:i<aF.length:=by rw[O.br.len];lia
  let G:aF[i]?=some (aF.getD i []):=by rw[ax,ac hi];rfl
  let hw:(aF.getD i []).length=w:=O.br.sO _ (bu G);let I:(aF.getD i [])[j]?=some ((aF.getD i []).getD j 0):=by rw[ax (l:=aF.getD i []),ac qi];rfl
  refine cG (aj _ rL (cB p C dx _ _ rL hp T.cl T.nr rL (aj _ rL (bw pr _ _ _ rL rL (aU.of D) (aQ (oH G)) (aj _ rL (dW _ _ _ rL rL (av (aM qi)) (aQ I) q))))))
 .rw[ag h];let e:atC aF r w i j=46:=if_neg h;rw[e]at q;show bW q
def isFree (aF:AB):Bool:=aF.flatten.all λc=>decide ([c]=[46])
def R8 (C:Addr):Sp:=λvs H Q _=>∃(p:Addr) (r w:Nat) (aF aO:AB) (bi bj:Nat),vs=[.ref p]/\cX C H p r w aF aO bi bj/\∀H',aD H H'->Q (.bl (isFree aF)) H'
def ZK {f C:Addr}{fd:FuncData}(F:fj K "is_free" "Board.is_free" jq f fd)(T:iy K C)(fZ:mg "all"=none)(gR:∃t,mg "FREE"=some (.str (S [46]) t)):cA P w K mg base dJ 1 f fd ["self"] (R8 C):=by
 calc F.dM w5 (λbN A outer s H vs Q E hr h=>?_);let⟨p,r,w,aF,aO,bi,bj,rfl,B,q⟩:=h;obtain⟨⟨dx,pr,pm,pb,hp,G,hm,hb⟩,O⟩:=B;let Z:r*w<=81:=gh O.r9 O.w9;let hfl:=Ia O.br;calc(aj _ (aG (bC (aY (kI rL) qr fZ jT (ak (j5 rL (jz.of w5.nd qA) (rP (gC bp dA dC HS (bQ [] qB) (ak (bK aH rL) aq))) (λ_ _ _ _ _=>fu) (λ_ _ _ _ _=>(fH jQ aH (uJ qr gR) (bM _)))) aq)))) ?_);calc⟨rL,aj _ rL (cB p C dx _ _ rL hp T.cl T.nr rL (dG pr aF rL rL (aU.of G) qi (aj _ rL (λL Y=>?_))))⟩;refine wW (λi ys D=>ys=((aF.flatten.take i).map λc=>decide ([c]=[46])).map V.bl/\D L=some (.lst ys)/\aD H D) (bV rL aA (aD.upd Y)) ?_ ?_
 .intro i c ys D hi z;let⟨rfl,j,I⟩:=z;let J:i<aF.flatten.length:=(ah.mp hi).1;calc(aj _ rL (dG [c] [46] rL rL j ?_ (iU.mk J (bV ?_ aA (I.dX Y)))));.rw[aa,aa,am];show aM qi
  .rw[c_,hi];simp
 .intro ys D z;let⟨rfl,j,I⟩:=z;rw[cp]at j;calc(aJ L _ rL (bH.of j) ?_);let e:((aF.flatten.map λc=>decide ([c]=[46])).all id)=isFree aF:=by
   unfold isFree;rw[List.all_map];rfl
  rw[e];show q D I
def Q5 (aF:AB)(j:Nat):List Nat:=aF.map λl=>l.getD j 0
def lineOf (aF:AB)(i j:Nat)(way:Int):List Nat:=if way=0 then aF.getD i [] else Q5 aF j
def placeOf (i j:Nat)(way:Int):Nat:=if way=0 then j else i
def aeL:Sp:=λvs H Q _=>∃(p:Addr) (aF:AB) (r w j:Nat),vs=[.ref p,.int j]/\H p=some (.tup (Ts aF))/\Blk r w aF/\r<=9/\w<=9/\j<w/\∀H',aD H H'->Q (.str (S (Q5 aF j))) H'
def Mt (D:aP K mg "column_text" qN ["rows","column"]):cg P w K mg base "column_text" 1 ["rows","column"] aeL:=by
 calc D.dM zX (λf bN A outer s H vs Q E hr h=>?_);let⟨p,aF,r,w,j,rfl,hp,hb,r9,w9,hj,q⟩:=h;calc(aj _ (aG (bC (gC bp dA dC qZ (bQ [] qB) (ak (j5 rL (jz.of zX.nd qA) (iI aH) (λ_ _ _ _ _=>fu) (λ_ _ _ _ _=>(bh Aw aH bF (λ_ _=>rfl)))) aq)))) ?_);let Z:(Ts aF).length=r:=by rw[aa,hb.len]
 refine⟨rL,aj _ rL (bf p rL ⟨_,aU.of hp⟩ (λL O=>qX (xs:=Ts aF) (λi ys G=>ys=Ts (ones ((aF.take i).map λl=>l.getD j 0))/\G L=some (.lst ys)/\aD H G) (bV rL aA (aD.upd O)) (λi ys G _ h=>aU.of (h.2.2 _ _ hp)) ?_ ?_))⟩
 .intro i x ys G hi z;let⟨rfl,F,I⟩:=z;let⟨l,hl,rfl⟩:=xu hi;let J:i<(Ts aF).length:=(ah.mp hi).1;let Y:l.length=w:=hb.sO _ (bu hl);calc(aj _ rL (aj _ rL (J5 l _ (l.getD j 0) rL rL (av (aM qi)) ?_ F ?_ (iU.mk J (bV ?_ aA (I.dX O))))));.show aQ (by rw[ax,ac qi];rfl)
  .rw[aa,aa,aa,am];show aM qi
  .rw[Mp,abq,c_,hl];simp
 .intro ys G z;let⟨rfl,F,I⟩:=z;rw[Z,<-hb.len,cp]at F;calc(dG L _ rL rL (bH.of F) ?_ ?_);.rw[nu,aa,hb.len];lia
  .rw[nu];show q G I
def wG {r w:Nat}{aF:AB}(hb:Blk r w aF){i j:Nat}(hi:i<r){way:Int}:(lineOf aF i j way).length=if way=0 then w else r:=by
 unfold lineOf;by_cases h:way=0
 .rw[if_pos h,if_pos h,ax,ac (by rw[hb.len];show hi)];show hb.sO _ (aS _)
 .rw[if_neg h,if_neg h];unfold Q5;rw[aa,hb.len]
def rE (l:List Nat):(i_ l).length<=l.length:=by unfold i_;rw[List.length_reverse];show bP (List.takeWhile_prefix _).length_le (by rw[List.length_reverse];show ai _)
def yG (l:List Nat):(jN l).length<=l.length:=(List.takeWhile_prefix _).length_le
noncomputable def adn (i j:Nat)(way:Int)(l:List Nat):List V:=if way=0 then [.int i,.int ((j:Int)-(i_ (l.take j)).length),.str (S (i_ (l.take j)++jN (l.drop j)))] else [.int ((i:Int)-(i_ (l.take i)).length),.int j,.str (S (i_ (l.take i)++jN (l.drop i)))]
def aeM (C:Addr):Sp:=λvs H Q _=>∃(p:Addr) (r w:Nat) (aF aO:AB) (bi bj i j:Nat) (way:Int),vs=[.ref p,.int i,.int j,.int way]/\cX C H p r w aF aO bi bj/\i<r/\j<w/\(way=0\/way=1)/\
 ∀(t:Addr) (H':Hp),aD H H'->H t=none->H' t=some (.tup (adn i j way (lineOf aF i j way)))->Q (.ref t) H'
def ah5 {f C:Addr}{fd:FuncData}(F:fj K "run" "Board.run" mU f fd)(T:iy K C)(bG:mg "len"=none)(gR:∃t,mg "FREE"=some (.str (S [46]) t))(Qk:cg P w K mg base "column_text" 1 ["rows","column"] aeL):cA P w K mg base dJ 2 f fd ["self","row","column","way"] (aeM C):=by
 calc F.dM nP (λbN A outer s H vs Q E hr h=>?_);let⟨p,r,w,aF,aO,bi,bj,i,j,way,rfl,B,hi,hj,akp,q⟩:=h;obtain⟨⟨dx,pr,pm,pb,hp,Y,hm,hb⟩,O⟩:=B;let r9:=O.r9;let w9:=O.w9;calc(aj _ (aB (aV (i:=4) nP.nd rL (Or.inl rL) (n_ (b_ jl bT au (bM _)) (bh bD (bK aH rL) bA (λ_ _=>rfl)) (bI Qk hr.mono rL (ak (bK aH rL) (ak bF aq))))) (aB (aV (i:=5) nP.nd rL (Or.inl rL) (n_ (b_ jl bT au (bM _)) bF bA)) (aB (aV (i:=6) nP.nd rL (Or.inl rL) (bh bD (gC bp PySem.F.slot_str_rpartition PySem.F.type_str_rpartition ac5 (dH qu cO fJ (dI eO)) (ak (uJ qr gR) aq)) au (λ_ _=>rfl))) (aB (aV (i:=7) nP.nd rL (Or.inl rL) (aL nG fO (bh bD (gC bp PySem.F.slot_str_partition PySem.F.type_str_partition afp (dH qu cO (dI eO) fJ) (ak (uJ qr gR) aq)) au (λ_ _=>rfl)))) (aB (aV (i:=8) nP.nd rL (Or.inl rL) (aL oM eO (aY dO qr bG ay (ak fO aq)))) (aG (bC (n_ (b_ jl bT au (bM _)) (cZ (ak bA (ak jZ (ak gQ aq)))) (cZ (ak jZ (ak bF (ak gQ aq)))))))))))) ?_);let G:aF[i]?=some (aF.getD i []):=by rw[ax,ac (by rw[O.br.len];show hi)];rfl
 rcases akp with rfl|rfl
 .let J:(lineOf aF i j 0).length=w:=wG O.br hi;let Z:aF.getD i []=lineOf aF i j 0:=rfl;rw[Z]at G;let hz:∀l:List Nat,l.length<=100->l.length<=sizeLine:=λl h=>av (aM qi);calc(bf _ rL rL (aj _ rL (cG ?_)));calc(aj _ rL (cB p C dx _ _ rL hp T.cl T.nr rL (aj _ rL (bw pr _ _ _ rL rL (aU.of Y) (aQ (oH G)) ?_))));generalize hL:lineOf aF i j 0=l at J G ⊢;calc(bf _ rL rL (aj _ rL (cG (aj _ rL ?_))));calc(aj _ rL (aj _ rL (aj _ rL (h_ l rL (hz _ qi) rL ?_))));rw[aa7];calc(h_ _ rL rL (by rw[am];lia) (λp1 a1 b1 I=>?_));calc(bw p1 _ _ _ rL rL (aU.of aA) (aQ (j:=2) rL) ?_);let s1:aD H (upd H p1 (.tup [.str a1,.str b1,.str (S (i_ (l.take j)))])):=aD.upd I;generalize upd H p1 (.tup [.str a1,.str b1,.str (S (i_ (l.take j)))])=H1 at s1 ⊢;let t1:=rE (l.take j);let t2:=yG (l.drop j);rw[am]at t1;rw[ba]at t2;calc(aj _ rL (aj _ rL (aj _ rL (aj _ rL (h_ l rL (hz _ qi) rL ?_)))));rw[RK];calc(h_ _ rL rL (by rw[ba];lia) (λp2 b2 c2 D=>?_));calc(bw p2 _ _ _ rL rL (aU.of aA) (aQ (j:=0) rL) (aX _ _ rL rL (av (aM qi)) ?_));let s2:=s1.dX (o:=HO.tup [.str (S (jN (l.drop j))),.str b2,.str c2]) (s1.free D);generalize upd H1 p2 (HO.tup [.str (S (jN (l.drop j))),.str b2,.str c2])=H2 at s2 ⊢;calc(aj _ rL (aj _ rL (bf _ rL (hz _ qi) (aJ _ _ rL rL ?_))));calc(bf _ rL rL (aj _ rL (cG ?_)));calc(aj _ rL (aj _ rL (bf _ rL (zsz 3) (λt ht=>?_))));show q t _ (s2.dX (s2.free ht)) (s2.free ht) (by rw[aA,hL];rfl)
 .let J:(lineOf aF i j 1).length=r:=wG O.br hi;let Z:Q5 aF j=lineOf aF i j 1:=rfl;let hz:∀l:List Nat,l.length<=100->l.length<=sizeLine:=λl h=>av (aM qi);calc(bf _ rL rL (aj _ rL (bW ?_)));calc(aj _ rL (cB p C dx _ _ rL hp T.cl T.nr rL (aj _ rL (yq pr aF r w j rL Y O.br r9 w9 hj (λH0 s0=>?_)))));rw[Z];generalize hL:lineOf aF i j 1=l at J ⊢;calc(bf _ rL rL (aj _ rL (bW (aj _ rL ?_))));calc(aj _ rL (aj _ rL (aj _ rL (h_ l rL (hz _ qi) rL ?_))));rw[aa7];calc(h_ _ rL rL (by rw[am];lia) (λp1 a1 b1 I=>?_));calc(bw p1 _ _ _ rL rL (aU.of aA) (aQ (j:=2) rL) ?_);let s1:aD H (upd H0 p1 (.tup [.str a1,.str b1,.str (S (i_ (l.take i)))])):=s0.dX (s0.free I);generalize upd H0 p1 (.tup [.str a1,.str b1,.str (S (i_ (l.take i)))])=H1 at s1 ⊢;let t1:=rE (l.take i);let t2:=yG (l.drop i);rw[am]at t1;rw[ba]at t2;calc(aj _ rL (aj _ rL (aj _ rL (aj _ rL (h_ l rL (hz _ qi) rL ?_)))));rw[RK];calc(h_ _ rL rL (by rw[ba];lia) (λp2 b2 c2 D=>?_));calc(bw p2 _ _ _ rL rL (aU.of aA) (aQ (j:=0) rL) (aX _ _ rL rL (av (aM qi)) ?_));let s2:=s1.dX (o:=HO.tup [.str (S (jN (l.drop i))),.str b2,.str c2]) (s1.free D);generalize upd H1 p2 (HO.tup [.str (S (jN (l.drop i))),.str b2,.str c2])=H2 at s2 ⊢;calc(aj _ rL (aj _ rL (bf _ rL (hz _ qi) (aJ _ _ rL rL ?_))));calc(bf _ rL rL (aj _ rL (bW ?_)));calc(aj _ rL (aj _ rL (bf _ rL (zsz 3) (λt ht=>?_))));show q t _ (s2.dX (s2.free ht)) (s2.free ht) (by rw[aA,hL];rfl)
abbrev bZ:=Nat×Nat×Nat
def xH (H:Hp)(a:Addr)(t:bZ):Prop:=H a=some (.tup [.int t.1,.int t.2.1,.str (S [t.2.2])])
noncomputable def tO (H:Hp)(a:Addr):bZ:=match H a with| some (.tup [.int x,.int y,.str z])=>(x.toNat,y.toNat,z.cps.toList.headD 0)| _=>(0,0,0)
def Kh {H:Hp}{a:Addr}{t:bZ}(h:xH H a t):tO H a=t:=by unfold tO;rw[show H a=_ from h];rfl
structure fQ (H:Hp)(as:List Addr)(ts:List bZ):Prop where
 at_:∀a∈as,xH H a (tO H a)
 eq:as.map (tO H)=ts
def fQ.Km {H H':Hp}{as:List Addr}{ts:List bZ}(k:∀a xs,H a=some (.tup xs)->H' a=some (.tup xs))(h:fQ H as ts):fQ H' as ts:=by let e:∀a∈as,tO H' a=tO H a:=λa ha=>Kh (k a _ (h.at_ a ha));show⟨λa ha=>by rw[e a ha];show k a _ (h.at_ a ha),by rw[<-h.eq];show fE e⟩
def fQ.mv {H H':Hp}{as:List Addr}{ts:List bZ}(k:aD H H')(h:fQ H as ts):fQ H' as ts:=h.Km λa xs e=>k a _ e
def fQ.snoc {H:Hp}{as:List Addr}{ts:List bZ}{a:Addr}{t:bZ}(h:fQ H as ts)(ha:xH H a t):fQ H (as++[a]) (ts++[t]):=by
 calc⟨λb hb=>?_,by rw[bq,h.eq,List.map_singleton,Kh ha]⟩;rcases bv.mp hb with z|z;.show h.at_ b z
 .rw[bc.mp z,Kh ha];show ha
def fQ.nil {H:Hp}:fQ H [] []:=⟨λa h=>by simp at h,rL⟩
def fQ.len {H:Hp}{as:List Addr}{ts:List bZ}(h:fQ H as ts):as.length=ts.length:=by rw[<-h.eq,aa]
def fQ.get {H:Hp}{as:List Addr}{ts:List bZ}(h:fQ H as ts){i:Nat}(hi:i<as.length):∃t,ts[i]?=some t/\xH H as[i] t:=(aj (tO H as[i]) (by rw[<-h.eq];simp[hi]) (h.at_ _ (aS _)))
def setAt (R:AB)(i j z:Nat):List (List Nat):=R.set i ((R.getD i []).set j z)
def eY (R:AB)(ts:List bZ):List (List Nat):=ts.foldl (λR t=>setAt R t.1 t.2.1 t.2.2) R
def Xh {r w:Nat}{R:AB}(h:Blk r w R){i j z:Nat}(hi:i<r):Blk r w (setAt R i j z):=by
 calc⟨by unfold setAt;rw[fb,h.len],λl hl=>?_⟩;rcases fN hl with y|y;.show h.sO l y
 .rw[y,fb,ax,ac (by rw[h.len];show hi)];show h.sO _ (aS _)
def afI {r w:Nat}{R:AB}(h:Blk r w R){i j z:Nat}(hi:i<r){D:Nat->Prop}(hp:∀l∈R,∀c∈l,D c)(hz:D z):∀l∈setAt R i j z,∀c∈l,D c:=λl hl c F=>by
 rcases fN hl with y|y;.show hp l y c F
 .rw[y]at F;rcases fN F with u|u
  .rw[ax,ac (by rw[h.len];show hi)]at u;show hp _ (aS _) c u
  .rw[u];show hz
def inB (r w:Nat)(t:bZ):Prop:=t.1<r/\t.2.1<w/\rD t.2.2
theorem uf {r w:Nat}:∀{ts:List bZ} {R:AB},Blk r w R->(∀t∈ts,inB r w t)->Blk r w (eY R ts)
 | [],_,h,_=>h
 | t::ts,_,h,k=>uf (ts:=ts) (Xh h (k t cv).1) λx hx=>k x (bz _ hx)
theorem Ie {r w:Nat}:∀{ts:List bZ} {R:AB},Blk r w R->(∀t∈ts,inB r w t)->(∀l∈R,∀c∈l,CJ c)->∀l∈eY R ts,∀c∈l,CJ c
 | [],_,_,_,g=>g
 | t::ts,_,h,k,g=>Ie (ts:=ts) (Xh h (k t cv).1) (λx hx=>k x (bz _ hx)) (afI h (k t cv).1 g (.inr (k t cv).2.2))
def ado {r w:Nat}{aF aO:AB}{bi bj:Nat}(B:R6 r w aF aO bi bj){ts:List bZ}(k:∀t∈ts,inB r w t):R6 r w (eY aF ts) aO bi bj:=⟨B.r1,B.r9,B.w1,B.w9,uf B.br k,B.bm,Ie B.br k B.cr,B.cm,B.bi,B.bj⟩
def abt (R:AB)(ts:List bZ)(t:bZ):eY R (ts++[t])=setAt (eY R ts) t.1 t.2.1 t.2.2:=by unfold eY;rw[List.foldl_append];rfl
structure jJ (H0 H:Hp)(ps:List Addr)(R:AB):Prop where
 len:ps.length=R.length
 nd:ps.Nodup
 fr:∀p∈ps,H0 p=none
 at_:∀(i:Nat) (h:i<ps.length),H ps[i]=some (.lst (Ts (ones (R.getD i []))))
def jJ.mv {H0 H H':Hp}{ps:List Addr}{R:AB}(h:jJ H0 H ps R)(k:∀p∈ps,H' p=H p):jJ H0 H' ps R:=⟨h.len,h.nd,h.fr,λi hi=>by rw[k _ (aS _)];show h.at_ i hi⟩
def jJ.mvS {H0 H H':Hp}{ps:List Addr}{R:AB}(h:jJ H0 H ps R)(k:aD H H'):jJ H0 H' ps R:=⟨h.len,h.nd,h.fr,λi hi=>k _ _ (h.at_ i hi)⟩
def jJ.snoc {H0 H:Hp}{ps:List Addr}{R:AB}(h:jJ H0 H ps R){p:Addr}{l:List Nat}(hn:p∉ps)(h0:H0 p=none)(hp:H p=some (.lst (Ts (ones l)))):jJ H0 H (ps++[p]) (R++[l]):=by
 refine⟨by simp[h.len],?_,λx hx=>?_,λi hi=>?_⟩
 .rw[List.nodup_append];calc(bV h.nd qk (λa ha b hb=>?_));rw[bc.mp hb];show λz=>hn (z ▸ ha)
 .rcases bv.mp hx with z|z;.show h.fr x z
  .rw[bc.mp z];show h0
 .by_cases c:i<ps.length;.rw[List.getElem_append_left c,h.at_ i c,ax,ax,cS (by rw[<-h.len];show c)]
  .let e:i=ps.length:=by simp at hi;lia
   subst e;rw[List.getElem_append_right (ai _)];simp only[nI,List.getElem_singleton];rw[hp,ax,cz (by rw[h.len];show ai _),h.len];simp
def jJ.set {H0 H:Hp}{ps:List Addr}{R:AB}(h:jJ H0 H ps R){i j z:Nat}(hi:i<ps.length):jJ H0 (upd H ps[i] (.lst ((Ts (ones (R.getD i []))).set j (.str (S [z]))))) ps (setAt R i j z):=by
 let e:(Ts (ones (R.getD i []))).set j (.str (S [z]))=Ts (ones ((R.getD i []).set j z)):=by show List.set (((R.getD i []).map λc=>[c]).map λl=>V.str (S l)) j (V.str (S [z]))=((List.set (R.getD i []) j z).map λc=>[c]).map λl=>V.str (S l);rw[nK,nK]
 rw[e];calc⟨by unfold setAt;rw[fb];show h.len,h.nd,h.fr,λk D=>?_⟩;by_cases c:k=i
 .subst c;rw[aA];unfold setAt;rw[ax (l:=R.set _ _),ke (by rw[<-h.len];show hi)];rfl
 .rw[aZ (λz=>c ((List.getElem_inj h.nd).mp z)),h.at_ k D];unfold setAt;rw[ax (l:=R.set _ _),mM (λz=>c z.symm),<-ax]
def DY (C:Addr):Sp:=λvs H Q _=>∃(p t:Addr) (as:List Addr) (ts:List bZ) (r w:Nat) (aF aO:AB) (bi bj:Nat),vs=[.ref p,.ref t]/\cX C H p r w aF aO bi bj/\H t=some (.tup (as.map V.ref))/\fQ H as ts/\(∀t∈ts,inB r w t)/\
 ∀(j:Addr) (H':Hp),aD H H'->cX C H' j r w (eY aF ts) aO bi bj->Q (.ref j) H'
def afJ {f C f0:Addr}{fd eV:FuncData}(F:fj K "laid" "Board.laid" lK f fd)(T:iy K C)(fP:mg "list"=none)(cT:mg "tuple"=none)(Ig:mg "Board"=some (.ref C))(Mu:Mk K C f0)(Mv:cA P w K mg base dJ 5 f0 eV ["self","rows","marks","begin"] (Ms C))(Mw:bR K eV ["self","rows","marks","begin"] []):cA P w K mg base dJ 8 f fd ["self","laying"] (DY C):=by
 calc F.dM lZ (λbN A outer s H vs Q E hr h=>?_);let⟨p,t,as,ts,r,w,aF,aO,bi,bj,rfl,BA,ht,hL,fB,q⟩:=h;obtain⟨⟨dx,pr,pm,pb,hx,hpr,hpm,hpb⟩,B⟩:=BA;let r9:=B.r9;let w9:=B.w9;let O:=B.br;calc(aj _ (aB (W5 (ix:=2) (ns:=["row"]) lZ.nd rL (Or.inl rL) rL (jY.of ["self","laying","lines",".3","column","sign"] [3] qA) (iI (bK aH rL)) (λ_ _ _ _ _=>(LQ (show (["row","self","laying","lines",".3","column","sign"]:List Str).Nodup by decide +kernel) rL qr)) (λ_ _ _ _ _=>fu) (λ_ _ _ _ _=>(d_ (oh rL) qr fP dS (ak aH aq)))) (aB (fX cK rL (iI bA) (qC rL (cD (bJ (i:=3) lZ.nd rL (Or.inl rL)) (cD (bJ (i:=4) lZ.nd rL (Or.inl rL)) (cD (bJ (i:=5) lZ.nd rL (Or.inl rL)) oO)))) (aG (u9 eO (Rz (bh cW bF bT (λ_ _=>rfl)) cO set_list)))) (aG (bC (pP Mu Mv hr.mono rL Ig Mw .nil eG (ak (d_ jx qr cT dq (ak (j5 rL (jz.of lZ.nd qA) (oR bF) (λ_ _ _ _ _=>fu) (λ_ _ _ _ _=>(RJ K bp dA dC (HW K) (bQ [] qB) (ak aH aq)))) aq)) (ak (bK aH rL) (ak (bK aH rL) aq)))))))) ?_);refine(aj _ rL (cB p C dx _ _ rL hx T.cl T.nr rL (bf pr rL ⟨_,aU.of hpr⟩ (λM hM=>JM (f:=j6 [3] 0) (tt:=mL) (xs:=Ts aF) (λi ys H2=>∃ps:List Addr,ys=ps.map V.ref/\H2 M=some (.lst ys)/\aD H H2/\jJ H H2 ps (aF.take i)/\M∉ps)
  (pR [] rL aA (aD.upd hM) ⟨qk,qh,λp h=>by simp at h,λi h=>by simp at h⟩ qk) (λi ys H2 _ h=>by let⟨_,_,_,I,_⟩:=h;show aU.of (I _ _ hpr)) ?_ ?_))))
 .intro i x ys H2 hi z;let⟨ps,rfl,G8,I,Xi,nM⟩:=z;let⟨l,hl,rfl⟩:=xu hi;let hil:i<(Ts aF).length:=(ah.mp hi).1;let hlw:l.length=w:=O.sO _ (bu hl);let qF:(Ts aF).length=r:=by rw[aa,O.len]
  let hpl:ps.length<=9:=by rw[Xi.len,am,O.len];lia
  calc aeJ (aj _ rL (bf l rL qi (λc hc=>?_)));let ncM:M≠c:=λz=>by rw[<-z,G8]at hc;cases hc
  let ncp:c∉ps:=λz=>by let⟨k,hk,e⟩:=iA.mp z;have:=Xi.at_ k hk;rw[e,hc]at this;cases this
  refine(bV (by rw[aZ ncM];show G8) (by rw[aa];show aM qi) (iU.mk hil (pR (ps++[c]) qk aA ((I.dX (I.free hc)).dX hM) ?_ ?_)))
  .rw[show aF.take (i+1)=aF.take i++[l] by rw[c_,hl];rfl];calc jJ.mv ((Xi.mvS (aD.upd hc)).snoc ncp (I.free hc) aA) λy hy=>aZ λz=>?_;rcases bv.mp hy with u|u
   .show nM (z ▸ u)
   .show ncM (z.symm.trans (bc.mp u))
  .intro z;rcases bv.mp z with u|u;.show nM u
   .show ncM (bc.mp u)
 .intro ys H2 z;let⟨ps,rfl,G8,I,Xi,nM⟩:=z;rw[ce (by rw[aa];show ai _)]at Xi;refine(aj _ rL (bf t rL ⟨_,aU.of (I _ _ ht)⟩ (FQ (K:=K) (a:=t) (xs:=as.map V.ref) (λi σ H3=>∃v3 v4 v5:Option V,σ=[some (.ref p),some (.ref t),some (.ref M),v3,v4,v5]/\aD H H3/\H3 M=some (.lst (ps.map V.ref))/\jJ H H3 ps (eY aF (ts.take i)))
   (cY none none none rL I G8 Xi) (λi σ H3 _ h=>by let⟨_,_,_,_,I,_⟩:=h;show aU.of (I _ _ ht)) ?_ ?_)))
  .intro i x σ H3 j z;let⟨v3,v4,v5,rfl,D,G9,G⟩:=z;rw[ck]at j;let hi:i<as.length:=by
    rcases Nat.lt_or_ge i as.length with z|z;.show z
    .rw[List.getElem?_eq_none z]at j;cases j
   rw[ac hi]at j;let j:V.ref as[i]=x:=bo j;subst j;let⟨u,eu,hU⟩:=hL.get hi;let hum:=bu eu;let⟨u1,u2,u3⟩:=fB u hum;let hb3:Blk r w (eY aF (ts.take i)):=uf O λy hy=>fB y (de hy);let hpl:ps.length=r:=by rw[G.len,hb3.len]
   let hps:u.1<ps.length:=qi;calc(aX (as[i]) _ rL (aU.of (D _ _ hU)) rL (dN _ _ rL (dN _ _ rL (aJ _ _ rL rL ?_))));refine(aj _ rL (aj _ rL (aj _ rL (bw M _ _ (.ref ps[u.1]) rL rL (bH.of G9) (aQ (by simp[hps])) (aj _ rL (bw (ps[u.1]) _ _ u.2.1 rL rL (G.at_ u.1 hps) ?_ ?_))))))
   .have:((eY aF (ts.take i)).getD u.1 []).length=w:=by
     rw[ax,ac (by rw[hb3.len];show u1)];show hb3.sO _ (aS _)
    unfold Cy;rw[aa,aa,this,if_pos qi,if_pos qi];congr 1
   .refine(cY _ _ _ rL (D.dX (G.fr _ (aS _))) ?_ ?_)
    .let ne:M≠ps[u.1]:=λz=>nM (by rw[z];show aS _)
     rw[aZ ne];show G9
    .rw[show eY aF (ts.take (i+1))=setAt (eY aF (ts.take i)) u.1 u.2.1 u.2.2 by rw[c_,eu];show abt _ _ _];show G.set hps
  .intro σ H3 z;let⟨v3,v4,v5,rfl,D,G9,G⟩:=z;rw[ce (by rw[aa,hL.len];show ai _)]at G;let B':=ado B fB;let hpl:ps.length=r:=by rw[G.len,B'.br.len]
   refine(aj _ rL (bf M rL ⟨_,bH.of G9⟩ (λN hN=>aa0 (xs:=ps.map V.ref) (λi ys Z=>ys=Ts ((eY aF ts).take i)/\Z N=some (.lst ys)/\aD H3 Z) (bV rL aA (aD.upd hN)) (λi ys Z _ h=>bH.of (h.2.2 _ _ G9)) ?_ ?_)))
   .intro i x ys Z hi z;let⟨rfl,J,Ko⟩:=z;rw[ck]at hi;let Y:i<ps.length:=by
     rcases Nat.lt_or_ge i ps.length with z|z;.show z
     .rw[List.getElem?_eq_none z]at hi;cases hi
    rw[ac Y]at hi;let hi:V.ref ps[i]=x:=bo hi;subst hi;let G_:i<(eY aF ts).length:=by rw[<-G.len];show Y
    let hg:(eY aF ts).getD i []=(eY aF ts)[i]:=by rw[ax,ac G_];rfl
    let hw:(eY aF ts)[i].length=w:=B'.br.sO _ (aS _);let hat:=G.at_ i Y;rw[hg]at hat;calc⟨rL,aj _ rL (J3 (ps[i]) (ones (eY aF ts)[i]) rL rL (bH.of (Ko _ _ hat)) (by rw[nu,hw];lia) J ?_ (iU.mk (by rw[aa];show Y) (bV ?_ aA (Ko.dX hN))))⟩;.rw[aa,am];show aM qi
    .rw[nu,Mp,c_,ac G_];rfl
   .intro ys Z z;let⟨rfl,J,Ko⟩:=z;rw[ce (by rw[aa,G.len];show ai _)]at J;calc(dN N _ rL (.inl ⟨bH.of J,λl hl=>?_⟩));let s5:=(D.trans Ko).dX (o:=.tup (Ts (eY aF ts))) ((D.trans Ko).free hl);calc(aj _ rL (cB p C dx _ _ rL (s5 _ _ hx) T.cl T.nm rL (aj _ rL (cB p C dx _ _ rL (s5 _ _ hx) T.cl T.nb rL (λx dy nx ndx wY=>?_)))));let s6:aD (upd Z l (.tup (Ts (eY aF ts)))) (upd (upd (upd Z l (.tup (Ts (eY aF ts)))) dy (HO.own x)) x (HO.ins C dy [])):=λb o e=>by rw[aZ (aN e nx),aZ (aN e ndx)];show e
    calc⟨x,dy,l,pm,pb,r,w,eY aF ts,aO,bi,bj,rL,aA,s6 _ _ aA,s6 _ _ (s5 _ _ hpm),s6 _ _ (s5 _ _ hpb),B',λH5 kp hx5=>⟨rL,?_⟩⟩;let s7:aD (upd Z l (.tup (Ts (eY aF ts)))) H5:=λb o e=>kp b o (s6 b o e) (aN e nx);show q x H5 (s5.trans s7) ⟨(gG dy l pm pb hx5 (s7 _ _ aA) (s7 _ _ (s5 _ _ hpm)) (s7 _ _ (s5 _ _ hpb))),B'⟩
def Gj (ts:List bZ):Prop:=ts.Pairwise (λa b=>a.1=b.1)\/ts.Pairwise (λa b=>a.1<b.1)
def ZL {H:Hp}{M:Addr}{ys zs:List V}(j:H M=some (.lst ys)):∀a xs,H a=some (.tup xs)->upd H M (.lst zs) a=some (.tup xs):=λa xs e=>by
 let ne:a≠M:=λz=>by rw[z,j]at e;cases e
 rw[aZ ne];show e
abbrev lO:=Nat×Nat×Nat×List Nat
def abu (H:Hp)(a:Addr)(q:lO):Prop:=H a=some (.tup [.int q.1,.int q.2.1,.int q.2.2.1,.str (S q.2.2.2)])
noncomputable def ug (R:AB)(i j wy:Nat):lO:=(if wy=0 then i else i-(i_ ((lineOf R i j (wy:Int)).take i)).length,if wy=0 then j-(i_ ((lineOf R i j (wy:Int)).take j)).length else j,wy,i_ ((lineOf R i j (wy:Int)).take (placeOf i j (wy:Int)))++jN ((lineOf R i j (wy:Int)).drop (placeOf i j (wy:Int))))
structure jf {α:Type}(enc:α->List V)(H:Hp)(as:List Addr)(xs:List α):Prop where
 len:as.length=xs.length
 at_:∀(i:Nat) (a:Addr) (x:α),as[i]?=some a->xs[i]?=some x->H a=some (.tup (enc x))
def jf.Km {α:Type}{enc:α->List V}{H H':Hp}{as:List Addr}{xs:List α}(k:∀a ys,H a=some (.tup ys)->H' a=some (.tup ys))(h:jf enc H as xs):jf enc H' as xs:=⟨h.len,λi a x h1 h2=>k _ _ (h.at_ i a x h1 h2)⟩
def jf.mv {α:Type}{enc:α->List V}{H H':Hp}{as:List Addr}{xs:List α}(k:aD H H')(h:jf enc H as xs):jf enc H' as xs:=h.Km λa ys e=>k a _ e
def jf.nil {α:Type}{enc:α->List V}{H:Hp}:jf enc H [] []:=⟨rL,λi a x h=>by simp at h⟩
def jf.one {α:Type}{enc:α->List V}{H:Hp}{a:Addr}{x:α}(h:H a=some (.tup (enc x))):jf enc H [a] [x]:=⟨rL,λi b y h1 h2=>by
 match i,h1,h2 with
 | 0,h1,h2=>have e1:a=b:=bo h1;let e2:x=y:=bo h2;rw[<-e1,<-e2];show h
 | n+1,h1,h2=>show absurd h1 qk⟩
def jf.app {α:Type}{enc:α->List V}{H:Hp}{as bs:List Addr}{xs ys:List α}(h:jf enc H as xs)(g:jf enc H bs ys):jf enc H (as++bs) (xs++ys):=by
 calc⟨by rw[aE,aE,h.len,g.len],λi a x h1 h2=>?_⟩;by_cases c:i<as.length
 .rw[cS c]at h1;rw[cS (by rw[<-h.len];show c)]at h2;show h.at_ i a x h1 h2
 .rw[cz qi]at h1;rw[cz (by rw[<-h.len];lia),<-h.len]at h2;show g.at_ _ a x h1 h2
def jf.get {α:Type}{enc:α->List V}{H:Hp}{as:List Addr}{xs:List α}(h:jf enc H as xs){i:Nat}(hi:i<as.length):∃x,xs[i]?=some x/\H as[i]=some (.tup (enc x)):=by
 let hx:i<xs.length:=by rw[<-h.len];show hi
 show(aj (xs[i]) (ac hx) (h.at_ i _ _ (ac hi) (ac hx)))
abbrev QL:=jf (λq:lO=>[V.int q.1,V.int q.2.1,V.int q.2.2.1,V.str (S q.2.2.2)])
abbrev AL3:=jf (λq:Nat×Nat×Nat=>[V.int q.1,V.int q.2.1,V.int q.2.2])
def nU (ts:List bZ):Nat:=if ts.head?.map (·.1)=ts.getLast?.map (·.1) then 0 else 1
noncomputable def Bm (ts:List bZ):List (Nat×Nat×Nat):=(ts.take 1).map (λt=>(t.1,t.2.1,nU ts))++ts.map λt=>(t.1,t.2.1,1-nU ts)
def qd (R:AB)(a:Nat×Nat×Nat):lO:=ug R a.1 a.2.1 a.2.2
def Kp (q:lO):Bool:=decide (1<q.2.2.2.length)
def jU (aF:AB)(ts:List bZ):List lO:=((Bm ts).map (qd (eY aF ts))).filter Kp
def abv (ts:List bZ):nU ts<=1:=by unfold nU;split <;> decide
def Ih {r w:Nat}{R:AB}(hb:Blk r w R)(r9:r<=9)(w9:w<=9){i j wy:Nat}(hi:i<r):(ug R i j wy).2.2.2.length<=20:=by
 let D:=wG hb hi (j:=j) (way:=(wy:Int));let F:(lineOf R i j (wy:Int)).length<=9:=by rw[D];split <;> assumption
 show (i_ _++jN _).length<=20;let a1:=rE ((lineOf R i j (wy:Int)).take (placeOf i j (wy:Int)));let a2:=yG ((lineOf R i j (wy:Int)).drop (placeOf i j (wy:Int)));rw[am]at a1;rw[ba]at a2;rw[aE];lia
def abw {ts:List bZ}(h:0<ts.length):nU ts=if ts[0].1=ts[ts.length-1].1 then 0 else 1:=by unfold nU;rw[List.head?_eq_getElem?,o0,ac h,ac qi];simp only[lh,Option.some.injEq]
def jV {H:Hp}{as:List Addr}{ts:List bZ}(j:fQ H as ts){i:Nat}(hi:i<ts.length):∃(h:i<as.length),H as[i]=some (.tup [.int ts[i].1,.int ts[i].2.1,.str (S [ts[i].2.2])]):=by
 let h:i<as.length:=by rw[j.len];show hi
 let⟨t,e,ht⟩:=j.get h;rw[ac hi]at e;let e:=bo e;rw[<-e]at ht;show⟨h,ht⟩
def afK {as:List Addr}(h:0<as.length):qz (as.map V.ref) (-1)=some (.ref as[as.length-1]):=by
 let e:as.map V.ref=(as.take (as.length-1)).map V.ref++[V.ref as[as.length-1]]:=by rw[<-List.map_singleton,<-bq];congr 1;have:=kD (as.length-1) as;rw[gm qi,show as.length-1+1=as.length by lia,mx]at this;show this.symm
 rw[e];show Hx _ _
def abx {ts:List bZ}(hl:Gj ts)(h0:0<ts.length):((ts.map λt=>decide (V.int (t.1:Int)=V.int (ts[0].1:Int))).all id)=decide (nU ts=0):=by
 let hd:∀a b:Nat,decide (V.int (a:Int)=V.int (b:Int))=decide (a=b):=λa b=>by
  by_cases h:a=b;.subst h;simp
  .have:¬V.int (a:Int)=V.int (b:Int):=λz=>h (by injection z with z;show oy z)
   simp[h,this]
 let j:(∀t∈ts,t.1=ts[0].1)↔ts[0].1=ts[ts.length-1].1:=by
  constructor
  .intro h;show(h _ (aS _)).symm
  .intro h t ht;let⟨i,hi,rfl⟩:=iA.mp ht;rcases hl with hl|hl
   .rw[iE]at hl;rcases lv i with z|z;.subst z;rfl
    .show(hl 0 i h0 hi z).symm
   .rw[iE]at hl;rcases lv (ts.length-1) with z|z
    .have:i=0:=by lia
     subst this;rfl
    .have:=hl 0 (ts.length-1) h0 qi z;lia
 rw[abw h0,ia,fq,decide_eq_true_iff];constructor
 .intro h;rw[if_pos];calc j.mp λt ht=>?_;have:=h _ (be.mpr (aj t ht rL));rw[hd]at this;show eK this
 .intro h x hx;let⟨t,ht,rfl⟩:=be.mp hx;let D:ts[0].1=ts[ts.length-1].1:=by
   by_cases z:ts[0].1=ts[ts.length-1].1;.show z
   .rw[if_neg z]at h;cases h
  rw[hd];show al (j.mpr D t ht)
def R9:Sp:=λvs H Q _=>∃(t:Addr) (as:List Addr) (ts:List bZ),vs=[.ref t]/\H t=some (.tup (as.map V.ref))/\fQ H as ts/\0<ts.length/\ts.length<=7/\Gj ts/\∀H',aD H H'->Q (.bl (decide (nU ts=0))) H'
def R_ (D:aP K mg "is_across" qD ["laying"])(fZ:mg "all"=none):cg P w K mg base "is_across" 1 ["laying"] R9:=by
 calc D.dM Dz (λf bN A outer s H vs Q E hr h=>?_);let⟨t,as,ts,rfl,ht,Y,h0,h7,hl,q⟩:=h;let O:=Y.len;calc(aj _ (aG (bC (aY (kI rL) qr fZ jT (ak (mQ (ns:=["row","column","sign"]) rL (jY.of ["laying"] [] qA) (iI aH) (λ_ _ _ _ _=>(pQ K rL (show (["row","column","sign","laying"]:List Str).Nodup by decide +kernel) rL rL rL qr qr qr)) (λ_ _ _ _ _=>fu) (λ_ _ _ _ _=>(fH jl aH (bh (rm K) (bh (rm K) bT au (λ_ _=>rfl)) au (λ_ _=>rfl)) (bM _)))) aq)))) ?_);refine(aj _ rL (bf t rL ⟨_,aU.of ht⟩ (λN Z=>lq (K:=K) (KT:=K) (a:=t) (f:=j6 [] 0) (tt:=mL) (xs:=as.map V.ref) (λn ys G=>ys=((ts.take n).map λt=>decide (V.int (t.1:Int)=V.int (ts[0].1:Int))).map V.bl/\G N=some (.lst ys)/\aD H G)
  (bV rL aA (aD.upd Z)) (λn ys G _ h=>aU.of (h.2.2 _ _ ht)) ?_ ?_)))
 .intro n x ys G hx z;let⟨rfl,J,F⟩:=z;let⟨hn,hx⟩:=rfg hx;let I:n<ts.length:=qi;let⟨_,en⟩:=jV (Y.mv F) I;let⟨g0,e0⟩:=jV (Y.mv F) h0;calc vV hx.symm (aU.of en) ?_;calc(aj _ rL (aj _ rL (bw t _ _ (.ref as[0]) rL rL (aU.of (F _ _ ht)) (aQ (j:=0) (by simp[g0])) (nq (as[0]) _ _ _ rL rL (aU.of e0) (aQ (j:=0) rL) rL J ?_ (iU.mk (by rw[aa];show hn) (bV ?_ aA (F.dX Z)))))));.rw[aa,aa,am];show aM qi
  .rw[show ts.take (n+1)=ts.take n++(some ts[n]).toList by rw[c_,ac I],bq,bq];rfl
 .intro ys G z;let⟨rfl,J,F⟩:=z;calc(aJ N _ rL (bH.of J) ?_);rw[aa,O,cp,abx hl h0];show q G F
def aby {r w:Nat}{R:AB}{i j wy:Nat}(D:wy<=1):adn i j (wy:Int) (lineOf R i j (wy:Int))=[.int (ug R i j wy).1,.int (ug R i j wy).2.1,.str (S (ug R i j wy).2.2.2)]:=by
 unfold adn ug placeOf;by_cases z:wy=0
 .subst z;let a1:=rE ((lineOf R i j ((0:Nat):Int)).take j);rw[am]at a1;rw[if_pos rfl];show [V.int (i:Int),V.int ((j:Int)-_),_]=[V.int (i:Int),V.int ((j-_:Nat):Int),_]
  rw[Int.ofNat_sub qi];rfl
 .have:wy=1:=by lia
  subst this;let a1:=rE ((lineOf R i j ((1:Nat):Int)).take i);rw[am]at a1;rw[if_neg qo];show [V.int ((i:Int)-_),V.int (j:Int),_]=[V.int ((i-_:Nat):Int),V.int (j:Int),_]
  rw[Int.ofNat_sub qi];rfl
def Ii (C:Addr):Sp:=λvs H Q _=>∃(b t:Addr) (as:List Addr) (ts:List bZ) (r w:Nat) (aF aO:AB) (bi bj:Nat),vs=[.ref b,.ref t]/\cX C H b r w aF aO bi bj/\H t=some (.tup (as.map V.ref))/\fQ H as ts/\(∀t∈ts,inB r w t)/\0<ts.length/\ts.length<=7/\Gj ts/\
 ∀(T:Addr) (bs:List Addr) (H':Hp),aD H H'->H' T=some (.tup (bs.map V.ref))->QL H' bs (jU aF ts)->Q (.ref T) H'
def abz {C f1 f2:Addr}{eE fd2:FuncData}(D:aP K mg "formed" Bg ["board","laying"])(bG:mg "len"=none)(cT:mg "tuple"=none)(cI:iy K C)(lQ:Meth K C "laid" f1)(lR:cA P w K mg base dJ 8 f1 eE ["self","laying"] (DY C))(lU:bR K eE ["self","laying"] [])(V5:Meth K C "run" f2)(V6:cA P w K mg base dJ 2 f2 fd2 ["self","row","column","way"] (aeM C))(V7:bR K fd2 ["self","row","column","way"] [])(zf:cg P w K mg base "is_across" 1 ["laying"] R9):cg P w K mg base "formed" 10 ["board","laying"] (Ii C):=by
 calc D.dM mD (λf bN A outer s H vs Q E hr h=>?_);let⟨b,t,as,ts,r,w,aF,aO,bi,bj,rfl,BA,ht,hL,fB,h0,h7,hl,q⟩:=h;let⟨dx,_,_,_,ex,_⟩:=id BA.ex;let r9:=BA.ok.r9;let w9:=BA.ok.w9;let hal:=hL.len;let qF:=abv ts;calc(aj _ (aB (aV (i:=2) mD.nd rL (Or.inl rL) (nH aH cI.cl lQ lR hr.mono lU .nil eG (ak bA aq))) (aB (gK (aV (i:=3) mD.nd rL (Or.inr rL) (n_ (dR (bI zf hr.mono rL (ak bA aq))) au au))) (aB (aV (i:=4) mD.nd rL (Or.inl rL) (iW (ak (cZ (ak (bh bD (bh bD bA au (λ_ _=>rfl)) au (λ_ _=>rfl)) (ak (bh bD (bh bD bA au (λ_ _=>rfl)) au (λ_ _=>rfl)) (ak bT aq)))) aq))) (aB (dz (gC bE PySem.F.slot_list_extend PySem.F.type_list_extend aaP cO (ak (mQ (ns:=["row","column","sign"]) rL (jY.of ["board","laying","after","way","asked",".5",".6","words","along","run"] [5,6] qA) (iI bA) (λ_ _ _ _ _=>(pQ K rL (show (["row","column","sign","board","laying","after","way","asked",".5",".6","words","along","run"]:List Str).Nodup by decide +kernel) rL rL rL qr qr qr)) (λ_ _ _ _ _=>fu) (λ_ _ _ _ _=>(cZ (ak aH (ak bA (ak (aL oM au fO) aq)))))) aq))) (aB (aV (i:=7) mD.nd rL (Or.inl rL) (iW aq)) (aB (fX cK rL (oR cO) (qC rL (cD (bJ (i:=5) mD.nd rL (Or.inl rL)) (cD (bJ (i:=6) mD.nd rL (Or.inl rL)) (cD (bJ (i:=8) mD.nd rL (Or.inl rL)) oO)))) (aB (aV (i:=9) mD.nd rL (Or.inl rL) (nH bF cI.cl V5 V6 hr.mono V7 .nil eG (ak eO (ak fO (ak jZ aq))))) (aG (cJ (b_ FW (aY dO qr bG ay (ak (bh bD j4 au (λ_ _=>rfl)) aq)) au (bM _)) (aG (dz (gC bE dr du jh gQ (ak (cZ (ak (bh bD j4 au (λ_ _=>rfl)) (ak (bh bD j4 au (λ_ _=>rfl)) (ak jZ (ak (bh bD j4 au (λ_ _=>rfl)) aq))))) aq)))) bO)))) (aG (bC (d_ jx qr cT dq (ak gQ aq)))))))))) ?_);calc(aj _ rL (cY b dx _ rL ex rL (aj _ rL (Dw b t as ts r w aF aO bi bj rL BA ht hL fB (λx1 H1 s1 B1=>?_)))));let hb':=uf BA.ok.br fB;generalize hR:eY aF ts=R at B1 hb';refine(aj (λσ H'=>aD H1 H'/\σ=[some (.ref b),some (.ref t),some (.ref x1),some (.int (nU ts)),none,none,none,none,none,none]) ?_ ?_)
 .calc(aj _ rL (J5 t as ts rL (s1 _ _ ht) (hL.mv s1) h0 h7 hl (λH2 s2=>(aj _ rL ?_))));by_cases z:nU ts=0
  .rw[al z];calc cG ⟨s2,?_⟩;rw[z];rfl
  .rw[ag z];calc bW ⟨s2,?_⟩;rw[show nU ts=1 by lia];rfl
 rintro σ H2 ⟨s2,rfl⟩;let s12:=s1.trans s2;let hL2:=hL.mv s12;let O5:=s12 _ _ ht;let⟨g0,e0⟩:=jV hL2 h0;calc(aj _ rL (bw t _ _ (.ref as[0]) rL rL (aU.of O5) (aQ (j:=0) (by simp[g0])) (bw (as[0]) _ _ _ rL rL (aU.of e0) (aQ (j:=0) rL) (aj _ rL (bw t _ _ (.ref as[0]) rL rL (aU.of O5) (aQ (j:=0) (by simp[g0])) (bw (as[0]) _ _ _ rL rL (aU.of e0) (aQ (j:=1) rL) (bf _ rL (zsz 3) (λF ht1=>⟨zsz 1,λG hA0=>?_⟩))))))));let k3:aD H2 (upd H2 F (HO.tup [.int ts[0].1,.int ts[0].2.1,.int (nU ts)])):=aD.upd ht1;let k4:=k3.dX (o:=HO.lst [.ref F]) (k3.free hA0);let hA0':=k3.free hA0;let n1A:F≠G:=λz=>by rw[<-z,aA]at hA0;cases hA0
 let e1:upd (upd H2 F (HO.tup [.int ts[0].1,.int ts[0].2.1,.int (nU ts)])) G (HO.lst [.ref F]) F=some (.tup [.int ts[0].1,.int ts[0].2.1,.int (nU ts)]):=by rw[aZ n1A,aA]
 let eA:upd (upd H2 F (HO.tup [.int ts[0].1,.int ts[0].2.1,.int (nU ts)])) G (HO.lst [.ref F]) G=some (.lst [.ref F]):=aA;generalize upd (upd H2 F (HO.tup [.int ts[0].1,.int ts[0].2.1,.int (nU ts)])) G (HO.lst [.ref F])=H4 at k4 e1 eA ⊢;let ht4:=k4 _ _ O5;let z_:=hL2.mv k4;let e1l:(1:Int)-(nU ts:Int)=((1-nU ts:Nat):Int):=qi;refine(bf _ rL (.inl ⟨rL,_,bH.of eA⟩) (aj _ rL (bf t rL ⟨_,aU.of ht4⟩ (λN hN=>lq (K:=K) (KT:=K) (a:=t) (f:=j6 [5,6] 0) (tt:=mL) (xs:=as.map V.ref) (λn ys I=>∃cs:List Addr,ys=cs.map V.ref/\cs.length=n/\I N=some (.lst ys)/\aD H4 I/\AL3 I cs ((ts.take n).map λt=>(t.1,t.2.1,1-nU ts)))
  (pR [] rL rL aA (aD.upd hN) jf.nil) (λn ys I _ h=>by let⟨_,_,_,_,J,_⟩:=h;show aU.of (J _ _ ht4)) ?_ ?_))))
 .intro n x ys I hx z;let⟨cs,rfl,Z,yH,qj,Kq⟩:=z;let⟨hn,hx⟩:=rfg hx;let hnt:n<ts.length:=qi;let⟨_,en⟩:=jV (z_.mv qj) hnt;calc vV hx.symm (aU.of en) ?_;calc(aj _ rL (aj _ rL (aj _ rL (aX _ _ rL rL (zsz 3) (λg hg=>?_)))));let kg:aD I (upd I g (HO.tup [.int ts[n].1,.int ts[n].2.1,.int (1-(nU ts:Int))])):=aD.upd hg;let hNg:=kg _ _ yH;calc(bV hNg (by rw[aa];show aM qi) (iU.mk (by rw[aa];show hn) (pR (cs++[g]) qk (by simp[Z]) (by rw[aA]) ((qj.trans kg).dX hN) ?_)));rw[show ts.take (n+1)=ts.take n++[ts[n]] by rw[c_,ac hnt];rfl,bq];calc((Kq.mv kg).app (jf.one (x:=(ts[n].1,ts[n].2.1,1-nU ts)) ?_)).Km (ZL hNg);rw[aA,e1l]
 intro ys I z;let⟨cs,rfl,Z,yH,qj,Kq⟩:=z;rw[aa]at Z;rw[aa,hal,cp]at Kq;let eA5:=qj _ _ eA;calc(gH G N _ _ rL rL eA5 yH (by rw[aa,Z];show av (aM (by simp;lia))) ?_);let adp:AL3 (upd I G (HO.lst ([V.ref F]++cs.map V.ref))) ([F]++cs) (Bm ts):=by
  let hone:AL3 I [F] ((ts.take 1).map λt=>(t.1,t.2.1,nU ts)):=by rw[List.take_one,List.head?_eq_getElem?,ac h0];show jf.one (x:=(ts[0].1,ts[0].2.1,nU ts)) (qj _ _ e1)
  show(hone.app Kq).Km (ZL eA5)
 let Y:aD H1 (upd I G (HO.lst ([V.ref F]++cs.map V.ref))):=λa o e=>by have:=(k4.trans qj) _ _ (s2 _ _ e);rw[aZ (λz=>by rw[z]at e;have:=s2 _ _ e;rw[hA0']at this;cases this)];show this
 let O:upd I G (HO.lst ([V.ref F]++cs.map V.ref)) G=some (.lst (([F]++cs).map V.ref)):=by rw[aA];simp
 generalize upd I G (HO.lst ([V.ref F]++cs.map V.ref))=H6 at adp Y O ⊢;let ah6:=adp.len;let hak:(Bm ts).length=1+ts.length:=by unfold Bm;rw[aE,aa,aa,am];lia
 let akq:∀n (a:Nat×Nat×Nat),(Bm ts)[n]?=some a->a.1<r/\a.2.1<w/\a.2.2<=1:=λn a ha=>by
  rcases bv.mp (bu ha) with z|z
  .let⟨u,hu,rfl⟩:=be.mp z;have:=fB u (de hu);show(bV this.1 this.2.1 qF)
  .let⟨u,hu,rfl⟩:=be.mp z;have:=fB u hu;show(bV this.1 this.2.1 (by show 1-nU ts<=1;lia))
 calc⟨zsz 0,λW hW=>?_⟩;let hW0:=Y.free hW;let nWA:G≠W:=λz=>by rw[<-z,O]at hW;cases hW
 let kW:aD H6 (upd H6 W (HO.lst [])):=aD.upd hW;refine(aj _ rL (bf G rL ⟨_,bH.of (kW _ _ O)⟩ (n8 (K:=K) (a:=G) (xs:=([F]++cs).map V.ref) (λn σ H'=>∃(v6 v7 v8 v9:Option V) (bs:List Addr),σ=[some (.ref b),some (.ref t),some (.ref x1),some (.int (nU ts)),some (.ref G),v6,v7,some (.ref W),v8,v9]/\aD H6 H'/\H' W=some (.lst (bs.map V.ref))/\bs.length<=n/\QL H' bs ((((Bm ts).take n).map (qd R)).filter Kp))
  (Bb none none none none [] rL kW aA (ai _) jf.nil) (λn σ H' _ h=>by let⟨_,_,_,_,_,_,J,_⟩:=h;show bH.of (J _ _ O)) ?_ ?_)))
 .intro n x σ H' hx z;let⟨v6,v7,v8,v9,bs,rfl,J,hWb,Sh,hQ⟩:=z;let hn:n<([F]++cs).length:=by have:=(ah.mp hx).1;simpa using this
  rw[ck,ac hn]at hx;let hx:V.ref ([F]++cs)[n]=x:=bo hx;subst hx;let⟨a,ea,hat⟩:=(adp.mv J).get hn;let⟨c1,c2,c3⟩:=akq n a ea;let hn9:n<9:=by rw[ah6,hak]at hn;lia
  calc(aX (([F]++cs)[n]) _ rL (aU.of hat) rL (dN _ _ rL (dN _ _ rL (aJ _ _ rL rL ?_))));let B2:=B1.mv (Y.trans J);let⟨dx1,_,_,_,Xj,_⟩:=id B2.ex;calc(aj _ rL (cY x1 dx1 _ rL Xj rL (aj _ rL (aj _ rL (aj _ rL (Dw x1 r w R aO bi bj a.1 a.2.1 (a.2.2:Int) rL B2 c1 c2 qi (λt2 H7 s7 _ ht7=>?_)))))));rw[aby (r:=r) (w:=w) c3]at ht7;let dB:=Ih hb' r9 w9 c1 (j:=a.2.1) (wy:=a.2.2);let hS7:=aU.of (K:=K) ht7;let adq:=s7 _ _ hWb;calc(aj _ rL (bw t2 _ _ _ rL rL hS7 (aQ (j:=2) rL) (bf _ rL (av (aM qi)) (aJ _ _ rL rL (aj _ rL ?_)))));let aeN:(Bm ts).take (n+1)=(Bm ts).take n++[a]:=by rw[c_,ea];rfl
  by_cases hc:Kp (qd R a)=true
  .have:decide ((2:Int)<=((ug R a.1 a.2.1 a.2.2).2.2.2.length:Int))=true:=al (by have:=eK hc;show (2:Int)<=((qd R a).2.2.2.length:Int);lia);rw[this];calc cG (bf _ rL (.inl ⟨rL,_,bH.of adq⟩) (aj _ rL (bw t2 _ _ _ rL rL hS7 (aQ (j:=0) rL) (aj _ rL (bw t2 _ _ _ rL rL hS7 (aQ (j:=1) rL) (aj _ rL (aj _ rL (gH t2 _ _ _ rL rL hS7 (aQ (j:=2) rL) (zsz 4) (λg hg=>?_)))))))));let kg:aD H7 (upd H7 g (HO.tup [.int (ug R a.1 a.2.1 a.2.2).1,.int (ug R a.1 a.2.1 a.2.2).2.1,.int a.2.2,.str (S (ug R a.1 a.2.1 a.2.2).2.2.2)])):=aD.upd hg;let hWg:=kg _ _ adq;calc(dW W _ _ rL rL hWg (by rw[aa];show aM qi) ?_);calc(Bb _ _ _ _ (bs++[g]) rL (((J.trans s7).trans kg).dX hW) (by rw[aA];simp) (by simp;lia) ?_);rw[aeN,bq,List.filter_append];let e2:([a].map (qd R)).filter Kp=[qd R a]:=by simp[hc]
   rw[e2];show(((hQ.mv s7).mv kg).app (jf.one (x:=qd R a) aA)).Km (ZL hWg)
  .have:decide ((2:Int)<=((ug R a.1 a.2.1 a.2.2).2.2.2.length:Int))=false:=ag (λz=>hc (al (by let z:(2:Int)<=((qd R a).2.2.2.length:Int):=z;lia)));rw[this];calc bW (Bb _ _ _ _ bs rL (J.trans s7) adq qi ?_);rw[aeN,bq,List.filter_append];let e2:([a].map (qd R)).filter Kp=[]:=by simp[hc]
   rw[e2,ib];show hQ.mv s7
 .intro σ H' z;let⟨v6,v7,v8,v9,bs,rfl,J,hWb,Sh,hQ⟩:=z;rw[aa,ah6,cp]at hQ;calc(aj _ rL (dN W _ rL (.inl ⟨bH.of hWb,λT hT=>?_⟩)));let k:aD H' (upd H' T (HO.tup (bs.map V.ref))):=aD.upd hT;calc q T bs _ (((s1.trans Y).trans J).trans k) aA ?_;unfold jU;rw[hR];show hQ.mv k
def Ij (K:W.Frag)(T:String)(H:Hp)(x:V):Prop:=∃t,mJ K H x t/\W.kitOne K t (.type T)=some false
def mJ.mv {K:W.Frag}{H H':Hp}{x:V}{t:Value}(h:mJ K H x t)(s:aD H H'):mJ K H' x t:=by
 cases h with| non=>show .non| bl b=>show .bl b| int i=>show .int i| str x=>show .str x| flt x=>show .flt x| lst e=>show .lst (s _ _ e)| qx e=>show .qx (s _ _ e)| tup e=>show .tup (s _ _ e)| dK e=>show .dK (s _ _ e)| dT e=>show .dT (s _ _ e)| ins e a b c d f=>show .ins (s _ _ e) a b c d f
def Ij.mv {K:W.Frag}{T:String}{H H':Hp}{x:V}(h:Ij K T H x)(s:aD H H'):Ij K T H' x:=let ⟨t,a,b⟩:=h;(aj t (mJ.mv a s) b)
def Ik (K:W.Frag):Sp:=λvs H Q _=>(∃i:Int,vs=[.int i]/\Q (.bl true) H)\/(∃b:Bool,vs=[.bl b]/\Q (.bl false) H)\/∃x,vs=[x]/\Ij K "int" H x/\Q (.bl false) H
def Ss (D:aP K mg "is_whole" rQ ["thing"])(F:mg "int"=none)(G:mg "bool"=none)(j:mg "isinstance"=none):cg P w K mg base "is_whole" 1 ["thing"] (Ik K):=by
 refine D.dM G5 (λf bN A outer s H vs Q E I h=>?_) (λvs H Q E h=>?_)
 .calc(aj _ (aG (bC (jR (aY gM qr j cf (ak aH (ak (lD (v:=.ty "int") qr F kz rL) aq))) (jA (aa2 (aY gM qr j cf (ak aH (ak (lD (v:=.ty "bool") qr G mi rL) aq)))))))) ?_);rcases h with⟨i,rfl,q⟩|⟨b,rfl,q⟩|⟨x,rfl,⟨t,ty,k⟩,q⟩;.show(aj _ rL (gG _ _ _ true rL (.int _) qA (aj true rL (cG (aj _ rL (gG _ _ _ false rL (.int _) qA (aj false rL q)))))))
  .show(aj _ rL (gG _ _ _ true rL (.bl _) qA (aj true rL (cG (aj _ rL (gG _ _ _ true rL (.bl _) qA (aj true rL q)))))))
  .show(aj _ rL (gG _ _ _ false rL ty k (aj false rL (bW q))))
 .rcases h with⟨i,rfl,_⟩|⟨i,rfl,_⟩|⟨i,rfl,_⟩ <;> rfl
def all_map {α:Type}(l:List α)(f:α->Bool):((l.map f).all id)=l.all f:=by induction l with|nil=>rfl|cons a l ih=>simp[ih]
def take_snoc {α β:Type}{l:List α}{i:Nat}{a:α}(h:l[i]?=some a)(f:α->β):(l.take (i+1)).map f=(l.take i).map f++[f a]:=by rw[c_,h,bq];rfl
inductive yI (K:W.Frag) (H:Hp):V->Option Int->Prop
 | int (i:Int):yI K H (.int i) (some i)
 | bl (b:Bool):yI K H (.bl b) none
 | no {x:V} (h:Ij K "int" H x):yI K H x none
def yI.mv {H H':Hp}{x:V}{o:Option Int}(h:yI K H x o)(s:aD H H'):yI K H' x o:=by
 cases h with| int i=>show .int i| bl b=>show .bl b| no h=>show .no (h.mv s)
noncomputable def Kr (r w:Nat)(oi oj:Option Int):Bool:=match oi,oj with|some i,some j=>decide (0<=i/\i<r/\0<=j/\j<w)|_,_=>false
def Xk (K:W.Frag):Sp:=λvs H Q _=>∃(p:Addr) (ls:AB) (r w:Nat) (x y:V) (oi oj:Option Int),vs=[.ref p,x,y]/\H p=some (.tup (Ts ls))/\Blk r w ls/\1<=r/\r<=9/\w<=9/\yI K H x oi/\yI K H y oj/\Q (.bl (Kr r w oi oj)) H
def yI.sp {H:Hp}{x:V}{o:Option Int}{Q:VK}{E:XK}(h:yI K H x o)(q:Q (.bl o.isSome) H):Ik K [x] H Q E:=by
 cases h with| int i=>show .inl (aj i rL q)| bl b=>show .inr (.inl (aj b rL q))| no h=>show .inr (.inr (bf x rL h q))
def Mx (D:aP K mg "is_cell_of" pB ["rows","row","column"])(I:mg "len"=none)(G:cg P w K mg base "is_whole" 1 ["thing"] (Ik K)):cg P w K mg base "is_cell_of" 2 ["rows","row","column"] (Xk K):=by
 calc D.dM Cz (λf bN A outer s H vs Q E J h=>?_);let⟨p,ls,r,w,x,y,oi,oj,rfl,hp,hb,r1,r9,w9,hx,hy,q⟩:=h;let O:(Ts ls).length=r:=by rw[aa,hb.len]
 let h0:0<ls.length:=by rw[hb.len];lia
 let F:ls[0].length=w:=hb.sO _ (aS _);calc(aj _ (aB (cJ (QW.qt (mq (d7 (dR (bI G J.mono rL (ak bA aq)))) (lG (d7 (dR (bI G J.mono rL (ak bF aq))))))) (aG (bC iZ)) bO) (aG (bC (jR (mO qJ vQ au bA (aY bY qr I ay (ak aH aq))) (jA (mO qJ vQ au bF (aY dO qr I ay (ak (bh bD aH au (λ_ _=>rfl)) aq)))))))) ?_);calc(aj _ rL ?_);dsimp only[Aq,vR];calc yI.sp hx (aj _ rL ?_);cases hx with
 | bl b=>show cG q
 | no h=>show cG q
 | int i=>
  calc bW (aj _ rL ?_);dsimp only[Aq,vR];calc yI.sp hy (aj _ rL ?_);cases hy with
  | bl b=>show cG q
  | no h=>show cG q
  | int j=>
   calc bW ?_;let q:Q (.bl (decide (0<=i/\i<(r:Int)/\0<=j/\j<(w:Int)))) H:=q;calc(aj _ rL (aJ _ _ rL rL (aj _ rL ?_)));by_cases h1:0<=i
   .rw[al h1];calc cG (aj _ rL (aJ p _ rL (.inr (aU.of hp)) (aJ _ _ rL rL (aj _ rL ?_))));rw[O];by_cases h2:i<(r:Int)
    .rw[al h2];calc cG (aj _ rL (aJ _ _ rL rL (aj _ rL ?_)));by_cases h3:0<=j
     .rw[al h3];calc cG (aj _ rL (bw p _ _ (.str (S ls[0])) rL rL (aU.of hp) (aQ (j:=0) (oH (by simp[h0]))) (bf _ rL (av (aM qi)) (aJ _ _ rL rL ?_))));rw[F];simpa [h1,h2,h3] using q
     .rw[ag h3];calc bW ?_;simpa [h1,h2,h3] using q
    .rw[ag h2];calc bW ?_;simpa [h1,h2] using q
   .rw[ag h1];calc bW (aj _ rL (bW ?_));simpa [h1] using q
inductive Xl (K:W.Frag) (H:Hp):V->Option (List Nat)->Prop
 | no {x:V} (h:aeK K H x):Xl K H x none
 | str (l:List Nat) (h:l.length<=1000):Xl K H (.str (S l)) (some l)
def Xl.mv {H H':Hp}{x:V}{o:Option (List Nat)}(h:Xl K H x o)(s:aD H H'):Xl K H' x o:=by
 cases h with| no h=>show .no (let ⟨t,a,b⟩:=h;(aj t (mJ.mv a s) b))| str l h=>show .str l h
abbrev yJ:=Option (Option Int×Option Int×Option (List Nat))
inductive Ab (K:W.Frag) (H:Hp):V->yJ->Prop
 | no {x:V} (h:Ij K "tuple" H x):Ab K H x none
 | bad {b:Addr} {xs:List V} (h:H b=some (.tup xs)) (hl:xs.length≠3):Ab K H (.ref b) none
 | tri {b:Addr} {x y z:V} {oi oj:Option Int} {ol:Option (List Nat)} (h:H b=some (.tup [x,y,z])) (hx:yI K H x oi) (hy:yI K H y oj) (hz:Xl K H z ol):Ab K H (.ref b) (some (oi,oj,ol))
def Ab.mv {H H':Hp}{x:V}{o:yJ}(h:Ab K H x o)(s:aD H H'):Ab K H' x o:=by
 cases h with| no h=>show .no (h.mv s)| bad h hl=>show .bad (s _ _ h) hl| tri h hx hy hz=>show .tri (s _ _ h) (hx.mv s) (hy.mv s) (hz.mv s)
def sgO (ol:Option (List Nat)):Bool:=match ol with|none=>false|some l=>DW l
def uU (r w:Nat)(o:yJ):Bool:=match o with|none=>false|some (oi,oj,ol)=>Kr r w oi oj&&sgO ol
def O6 (K:W.Frag)(C:Addr):Sp:=λvs H Q _=>∃(b:Addr) (x:V) (o:yJ) (r w:Nat) (aF aO:AB) (bi bj:Nat),vs=[.ref b,x]/\cX C H b r w aF aO bi bj/\Ab K H x o/\Q (.bl (uU r w o)) H
def Sv {C:Addr}(D:aP K mg "is_triple" uN ["board","thing"])(bG:mg "len"=none)(Z:mg "tuple"=none)(Y:mg "isinstance"=none)(T:iy K C)(pH:cg P w K mg base "is_cell_of" 2 ["rows","row","column"] (Xk K))(DX:cg P w K mg base "is_sign" 1 ["thing"] (R5 K)):cg P w K mg base "is_triple" 3 ["board","thing"] (O6 K C):=by
 calc D.dM RX (λf bN A outer s H vs Q E G h=>?_);let⟨b,x,o,r,w,aF,aO,bi,bj,rfl,BA,O,q⟩:=h;obtain⟨⟨dx,pr,pm,pb,hb,F,J,hpb⟩,B⟩:=BA;calc(aj _ (aB (cJ (QW.qt (mq (d7 (dR (aY gM qr Y cf (ak bA (ak (lD (v:=.ty "tuple") qr Z dq rL) aq))))) (lG (b_ FT (aY bY qr bG ay (ak bA aq)) au (bM _))))) (aG (bC iZ)) bO) (aG (bC (jR (bI pH G.mono rL (ak (bK aH rL) (ak (bh bD bA au (λ_ _=>rfl)) (ak (bh bD bA au (λ_ _=>rfl)) aq)))) (jA (bI DX G.mono rL (ak (bh bD bA au (λ_ _=>rfl)) aq))))))) ?_);cases O with
 | no h=>let⟨t,ty,k⟩:=h;show(aj _ rL (gG _ _ _ false rL ty k (aj _ rL (cG (cG q)))))
 | @bad a xs h hl=>calc(aj _ rL (gG _ _ _ true rL (.tup h) qA (aj _ rL (bW (aj _ rL (aX a _ rL (.inr (aU.of h)) rL (aj _ rL ?_)))))));rw[ag (show ¬V.int (xs.length:Nat)=V.int 3 from λz=>hl (by injection z with z;lia))];show cG q
 | @tri a x y z oi oj ol h hx hy hz=>
  calc(aj _ rL (gG _ _ _ true rL (.tup h) qA (aj _ rL (bW (aj _ rL (aX a _ rL (.inr (aU.of h)) rL (aj _ rL (QF rL ?_))))))));calc(aj _ rL (cB b C dx _ _ rL hb T.cl T.nr rL (aj _ rL (bw a _ _ x rL rL (aU.of h) (aQ (j:=0) rL) (aj _ rL (bw a _ _ y rL rL (aU.of h) (aQ (j:=1) rL) ⟨pr,aF,r,w,x,y,oi,oj,rL,F,B.br,B.r1,B.r9,B.w9,hx,hy,aj _ rL ?_⟩))))));let q:Q (.bl (Kr r w oi oj&&sgO ol)) H:=q;cases I:Kr r w oi oj with
  | false=>rw[I]at q;show bW q
  | true=>
   rw[I]at q;calc cG (aj _ rL (bw a _ _ z rL rL (aU.of h) (aQ (j:=2) rL) ?_));dsimp only[Aq,vR];cases hz with| no h=>show .inl (bf z rL h q)| str l hl=>show .inr (bf l rL hl q)
abbrev PL2:=jf (λq:Nat×Nat=>[V.int q.1,V.int q.2])
def yK:Sp:=λvs H Q _=>∃(t:Addr) (as:List Addr) (ts:List bZ),vs=[.ref t]/\H t=some (.tup (as.map V.ref))/\fQ H as ts/\ts.length<=100/\
 ∀(L:Addr) (cs:List Addr) (H':Hp),aD H H'->H' L=some (.lst (cs.map V.ref))->PL2 H' cs (ts.map λt=>(t.1,t.2.1))->Q (.ref L) H'
def V8 (D:aP K mg "cells_of" wk ["laying"]):cg P w K mg base "cells_of" 1 ["laying"] yK:=by
 calc D.dM VJ (λf bN A outer s H vs Q E hr h=>?_);let⟨t,as,ts,rfl,ht,hL,h7,q⟩:=h;let Y:=hL.len;calc(aj _ (aG (bC (mQ (ns:=["row","column","sign"]) rL (jY.of ["laying"] [] qA) (iI aH) (λ_ _ _ _ _=>(pQ K rL (show (["row","column","sign","laying"]:List Str).Nodup by decide +kernel) rL rL rL qr qr qr)) (λ_ _ _ _ _=>fu) (λ_ _ _ _ _=>(cZ (ak aH (ak bA aq))))))) ?_);refine(aj _ rL (bf t rL ⟨_,aU.of ht⟩ (λN hN=>lq (K:=K) (KT:=K) (a:=t) (f:=j6 [] 0) (tt:=mL) (xs:=as.map V.ref) (λn ys j=>∃cs:List Addr,ys=cs.map V.ref/\cs.length=n/\j N=some (.lst ys)/\aD H j/\PL2 j cs ((ts.take n).map λt=>(t.1,t.2.1)))
  (pR [] rL rL aA (aD.upd hN) jf.nil) (λn ys j _ h=>by let⟨_,_,_,_,sm,_⟩:=h;show aU.of (sm _ _ ht)) ?_ ?_)))
 .intro n x ys j hx z;let⟨cs,rfl,F,yH,O,J⟩:=z;let⟨hn,hx⟩:=rfg hx;let G:n<ts.length:=qi;let⟨_,en⟩:=jV (hL.mv O) G;calc vV hx.symm (aU.of en) ?_;calc(aj _ rL (bf _ rL (zsz 2) (λg hg=>?_)));let Z:aD j (upd j g (HO.tup [.int ts[n].1,.int ts[n].2.1])):=aD.upd hg;let I:=Z _ _ yH;calc(bV I (by rw[aa];show aM qi) (iU.mk (by rw[aa];show hn) (pR (cs++[g]) qk (by simp[F]) (by rw[aA]) ((O.trans Z).dX hN) ?_)));rw[show ts.take (n+1)=ts.take n++[ts[n]] by rw[c_,ac G];rfl,bq];show((J.mv Z).app (jf.one (x:=(ts[n].1,ts[n].2.1)) aA)).Km (ZL I)
 .intro ys j z;let⟨cs,rfl,F,yH,O,J⟩:=z;rw[aa,Y,cp]at J;show q N cs j O yH J
structure Il (K:W.Frag)(H:Hp)(xs:List V)(os:List yJ):Prop where
 len:xs.length=os.length
 at_:∀(i:Nat) (x:V) (o:yJ),xs[i]?=some x->os[i]?=some o->Ab K H x o
inductive LyD (K:W.Frag) (H:Hp):V->Option (List yJ)->Prop
 | no {x:V} (h:Ij K "tuple" H x):LyD K H x none
 | tup {p:Addr} {xs:List V} {os:List yJ} (h:H p=some (.tup xs)) (hp:Il K H xs os) (h1:os.length<=100):LyD K H (.ref p) (some os)
def mkT (t:bZ):yJ:=some (some (t.1:Int),some (t.2.1:Int),some [t.2.2])
def aeO (o:yJ):Nat×Nat:=match o with|some (some i,some j,_)=>(i.toNat,j.toNat)|_=>(0,0)
def ltQ (p:(Nat×Nat)×(Nat×Nat)):Bool:=decide (p.1.1*1000+p.1.2<p.2.1*1000+p.2.2)
def j_ (cs:List (Nat×Nat)):Bool:=(cs.zip (cs.drop 1)).all ltQ
noncomputable def layB (r w:Nat)(o:Option (List yJ)):Bool:=match o with|none=>false|some os=>decide (1<=os.length/\os.length<=7)&&os.all (uU r w)&&j_ (os.map aeO)
def Sw (ts:List bZ):(ts.map mkT).map aeO=ts.map λt=>(t.1,t.2.1):=by rw[f_];show fE λt _=>rfl
def adt {r w:Nat}{o:yJ}(h:uU r w o=true):∃t:bZ,o=mkT t/\inB r w t:=by
 match o with
 | none=>cases h
 | some (oi,oj,ol)=>
  unfold uU at h;simp only[cn]at h;let⟨h1,h2⟩:=h
  match oi,oj,ol with
  | none,_,_=>cases h1
  | some i,none,_=>cases h1
  | some i,some j,none=>cases h2
  | some i,some j,some l=>
   let h1:=eK h1;let h2:DW l=true:=h2
   match l with
   | []=>cases h2
   | [c]=>calc(aj (i.toNat,j.toNat,c) ?_ (bV (by show i.toNat<r;lia) (by show j.toNat<w;lia) h2));show some (some i,some j,some [c])=some (some ((i.toNat:Nat):Int),some ((j.toNat:Nat):Int),some [c]);rw[cy h1.1,cy h1.2.2.1]
   | _::_::_=>cases h2
def adu {r w:Nat}{t:bZ}(h:inB r w t):uU r w (mkT t)=true:=by unfold uU mkT Kr sgO;let h1:=h.1;let h2:=h.2.1;simp only[cn];show⟨al qi,h.2.2⟩
theorem O7 {r w:Nat}:∀{os:List yJ},os.all (uU r w)=true->∃ts:List bZ,os=ts.map mkT/\∀t∈ts,inB r w t
 | [],_=>(aj [] rL (λt h=>by simp at h))
 | o::os,h=>by
  rw[List.all_cons,cn]at h;let⟨ts,e,k⟩:=O7 h.2;let⟨t,e2,k2⟩:=adt h.1;show(aj (t::ts) (by rw[e,e2];rfl) (λu j=>by
   rcases bX.mp j with z|z;.rw[z];show k2
   .show k u z))
def Ab.ajH {H:Hp}{x:V}{t:bZ}(h:Ab K H x (mkT t)):∃b,x=.ref b/\xH H b t:=by
 generalize j:mkT t=o at h;cases h with
 | no _=>cases j
 | bad _ _=>cases j
 | @tri b x y z oi oj ol h hx hy hz=>have j:=bo j;injection j with e1 e2;injection e2 with e2 e3;subst e1 e2 e3;cases hx;cases hy;cases hz;show(aj b rL h)
theorem Il.lay {H:Hp}:∀{ts:List bZ} {xs:List V},Il K H xs (ts.map mkT)->∃as:List Addr,xs=as.map V.ref/\fQ H as ts
 | [],[],_=>(aj [] rL fQ.nil)
 | [],_::_,h=>by have:=h.len;simp at this
 | _::_,[],h=>by have:=h.len;simp at this
 | t::ts,x::xs,h=>by
  let⟨b,rfl,hb⟩:=(h.at_ 0 x (mkT t) rL rL).ajH;let⟨as,e,j⟩:=Il.lay (ts:=ts) (xs:=xs) ⟨by have:=h.len;simpa using this,λi x o a c=>h.at_ (i+1) x o a c⟩;refine(aj (b::as) (by rw[e];rfl) ⟨λa ha=>?_,?_⟩)
  .rcases bX.mp ha with z|z;.rw[z,Kh hb];show hb
   .show j.at_ a z
  .rw[cw,j.eq,Kh hb]
def Ab.mk {H:Hp}{b:Addr}{t:bZ}(h:xH H b t):Ab K H (.ref b) (mkT t):=.tri h (.int _) (.int _) (.str _ (by show 1<=1000;decide))
def Il.of_lay {H:Hp}{as:List Addr}{ts:List bZ}(h:fQ H as ts):Il K H (as.map V.ref) (ts.map mkT):=by calc⟨by rw[aa,aa,h.len],λi x o hx j=>?_⟩;rw[ck]at hx j;let⟨a,ha,rfl⟩:=dL.mp hx;let⟨t,ht,rfl⟩:=dL.mp j;let hi:i<as.length:=(ah.mp ha).1;let⟨u,D,F⟩:=h.get hi;rw[ht]at D;rw[bo D];rw[ac hi]at ha;rw[<-bo ha];show Ab.mk F
def abA (K:W.Frag)(C:Addr):Sp:=λvs H Q _=>∃(b:Addr) (x:V) (o:Option (List yJ)) (r w:Nat) (aF aO:AB) (bi bj:Nat),vs=[.ref b,x]/\cX C H b r w aF aO bi bj/\LyD K H x o/\∀H',aD H H'->Q (.bl (layB r w o)) H'
def Sx {C:Addr}(D:aP K mg "is_laying" uO ["board","thing"])(bG:mg "len"=none)(cT:mg "tuple"=none)(bL:mg "isinstance"=none)(fZ:mg "all"=none)(Ks:mg "zip"=none)(pI:∃t,mg "MOST_TILES"=some (.int 7 t))(V9:cg P w K mg base "is_triple" 3 ["board","thing"] (O6 K C))(sU:cg P w K mg base "cells_of" 1 ["laying"] yK):cg P w K mg base "is_laying" 4 ["board","thing"] (abA K C):=by
 calc D.dM w6 (λf bN A outer s H vs Q E hr h=>?_);let⟨b,x,o,r,w,aF,aO,bi,bj,rfl,BA,hT,q⟩:=h;let w9:=BA.ok.w9;calc(aj _ (aB (cJ (QW.qt (mq (d7 (dR (aY gM qr bL cf (ak bA (ak (lD (v:=.ty "tuple") qr cT dq rL) aq))))) (lG (d7 (Ax qJ qJ au (aY bY qr bG ay (ak bA aq)) (Ze qr pI)))))) (aG (bC iZ)) bO) (aB (cJ (d7 (dR (aY (kI rL) qr fZ jT (ak (j5 rL (jz.of w6.nd qA) (iI bA) (λ_ _ _ _ _=>fu) (λ_ _ _ _ _=>(bI V9 hr.mono rL (ak bA (ak aH aq))))) aq)))) (aG (bC iZ)) bO) (aB (aV (i:=2) w6.nd rL (Or.inl rL) (bI sU hr.mono rL (ak bA aq))) (aG (bC (aY (kI rL) qr fZ jT (ak (mQ (ns:=["cell","later"]) rL (jY.of ["board","thing","cells"] [] qA) (afz qr Ks (ak bF (ak (dH tY bF (dI au) fJ) aq))) (λ_ _ _ _ _=>(afq K rL (show (["cell","later","board","thing","cells"]:List Str).Nodup by decide +kernel) rL rL qr qr)) (λ_ _ _ _ _=>fu) (λ_ _ _ _ _=>(fH (ahT hr.ahe) aH bA (bM _)))) aq))))))) ?_);cases hT with
 | no h=>let⟨t,ty,k⟩:=h;show(aj _ rL (gG _ _ _ false rL ty k (aj _ rL (cG (cG (q H (aD.refl _)))))))
 | @tup p xs os hp hP h100=>
  let dB:=hP.len;calc(aj _ rL (gG _ _ _ true rL (.tup hp) qA (aj _ rL (bW ?_))));let F:¬layB r w (some os)=true->∀H',aD H H'->Q (.bl false) H':=λz H' s'=>by have:=q H' s';rw[Bool.not_eq_true _ |>.mp z]at this;show this
  calc(aj _ rL (aJ p _ rL (.inr (aU.of hp)) (aJ _ _ rL rL ?_)));rw[dB];by_cases h1:1<=os.length
  .calc(aj true (by simp;lia) (cG (aJ _ _ rL rL ?_)));by_cases h7:os.length<=7
   .calc(aj true (by simp;lia) (bW ?_));refine(aj _ rL (bf p rL ⟨_,aU.of hp⟩ (λL hL=>qX (xs:=xs) (λi ys Z=>ys=((os.take i).map (uU r w)).map V.bl/\Z L=some (.lst ys)/\aD H Z) (bV rL aA (aD.upd hL)) (λi ys Z _ h=>aU.of (h.2.2 _ _ hp)) ?_ ?_)))
    .intro i x ys Z hi z;let⟨rfl,I,G⟩:=z;let hil:i<xs.length:=(ah.mp hi).1;let hio:i<os.length:=qi;let ho:=ac hio;calc(aj _ rL (aj _ rL ⟨b,x,os[i],r,w,aF,aO,bi,bj,rL,BA.mv G,(hP.at_ i x _ hi ho).mv G,I,?_,iU.mk hil (bV ?_ aA (G.dX hL))⟩));.rw[aa,aa,am];show aM qi
     .rw[take_snoc ho,bq];rfl
    .intro ys Z z;let⟨rfl,I,G⟩:=z;calc(aJ L _ rL (bH.of I) ?_);rw[dB,cp,all_map];calc(aj _ rL ?_);cases ha:os.all (uU r w) with
     | false=>show cG (F (by unfold layB;simp only;rw[ha];simp) Z G)
     | true=>
      calc bW ?_;let⟨ts,rfl,fB⟩:=O7 ha;let⟨as,rfl,hLy⟩:=hP.lay;rw[aa]at h1 h7;calc(aj _ rL (dW p as ts rL (G _ _ hp) (hLy.mv G) qi (λLc cs H3 s3 hLc hcs=>?_)));let fU:=G.trans s3;calc(aj _ rL (aj _ rL (aj _ rL (aJ Lc _ rL (bH.of hLc) (λM hM=>?_)))));let hcl:=hcs.len;rw[aa]at hcl;let eM:fV (cs.map V.ref) (some 1) none=(cs.drop 1).map V.ref:=by unfold fV;rw[show (some (1:Int))=some (((1:Nat):Int)) from rL,HT.jX,HT.tX,aa,fF (show 1<=cs.length by lia),ce (by rw[ba,aa];lia),oz]
      rw[eM];let sM:aD H3 (upd H3 M (HO.lst ((cs.drop 1).map V.ref))):=aD.upd hM;let Hg:upd H3 M (HO.lst ((cs.drop 1).map V.ref)) M=some (.lst ((cs.drop 1).map V.ref)):=aA;let Y:=sM _ _ hLc;let Mz:=hcs.mv sM;let iz:=fU.trans sM;generalize upd H3 M (HO.lst ((cs.drop 1).map V.ref))=H4 at sM Hg Y Mz iz ⊢;generalize J:(ts.map λt=>(t.1,t.2.1))=cc at Mz;let akr:cc.length=cs.length:=by rw[<-J,aa,hcl]
      let hw9:∀u∈cc,u.2<1000:=λu hu=>by rw[<-J]at hu;let⟨t,ht,rfl⟩:=be.mp hu;have:=(fB t ht).2.1;show t.2.1<1000;lia
      let CK:(cc.zip (cc.drop 1)).length=cs.length-1:=by rw[List.length_zip,ba,akr];lia
      refine(aX Lc M rL ⟨_,bH.of Y⟩ ⟨_,bH.of Hg⟩ (λN hN=>ahS (f:=j6 [] 0) (K:=K) (KT:=K) (a:=Lc) (b:=M) (tt:=mL) (xs:=cs.map V.ref) (ys:=(cs.drop 1).map V.ref) (by rw[aa,aa,ba];lia)
       (λn zs j=>zs=(((cc.zip (cc.drop 1)).take n).map ltQ).map V.bl/\j N=some (.lst zs)/\aD H4 j)
       (bV rL aA (aD.upd hN)) (λn zs j _ h=>⟨bH.of (h.2.2 _ _ Y),bH.of (h.2.2 _ _ Hg)⟩) ?_ ?_))
      .intro n x y zs j T hx hy z hT;let⟨rfl,yH,qj⟩:=z;let kT:aD j (upd j T (HO.tup [x,y])):=aD.upd hT;rw[ck]at hx hy;let⟨a1,ha1,rfl⟩:=dL.mp hx;let⟨a2,O,rfl⟩:=dL.mp hy;rw[om]at O;let n1:n<cs.length:=(ah.mp ha1).1;let n2:1+n<cs.length:=(ah.mp O).1;let c1:cc[n]?=some cc[n]:=ac qi;let c2:cc[1+n]?=some cc[1+n]:=ac qi;let e1:=kT _ _ (qj _ _ (Mz.at_ n a1 _ ha1 c1));let e2:=kT _ _ (qj _ _ (Mz.at_ (1+n) a2 _ O c2));calc ajt rL (aU.of aA) ?_;calc(aj _ rL (aj _ rL ⟨a1,a2,_,_,_,_,rL,rL,e1,e2,hw9 _ (aS _),hw9 _ (aS _),kT _ _ yH,?_,iU.mk (by rw[aa,ba];lia) (bV ?_ aA ((qj.trans kT).dX hN))⟩));.rw[aa,aa,am];show aM qi
       .let ez:(cc.zip (cc.drop 1))[n]?=some (cc[n],cc[1+n]):=by
         rw[o6];show⟨c1,by rw[om];show c2⟩
        rw[take_snoc ez,bq];rfl
      .intro zs j z;let⟨rfl,yH,qj⟩:=z;calc(aJ N _ rL (bH.of yH) ?_);rw[ce (by rw[aa,ba,CK];lia),all_map];have:=q j (iz.trans qj);let e:layB r w (some (ts.map mkT))=j_ cc:=by
        unfold layB;simp only;rw[ha,Sw,J,aa,al (show 1<=ts.length/\ts.length<=7 from ⟨h1,h7⟩)];rfl
       rw[e]at this;show this
   .calc(aj false (by simp;lia) (cG ?_));show F (by unfold layB;simp;lia) H (aD.refl _)
  .calc(aj false (by simp;lia) (bW (aj _ rL (cG ?_))));show F (by unfold layB;simp;lia) H (aD.refl _)
def afL {f C R:Addr}{fd:FuncData}(F:fj K "__init__" "Taken.__init__" lH f fd)(D:mg "RackError"=some (.ref R))(j:InitOf K R)(T:qw K mg "Taken" C f ["row","column"]):cA P w K mg base dJ 1 f fd ["self","row","column"] (JX C "row" "column"):=by calc F.dM Qc (λbN A outer s H vs Q E G h=>?_);let⟨a,v,u,rfl,ha,q⟩:=h;calc(aj _ (aB (dz (vX qr D j (ak aH (ak bA (ak bF aq))))) (aB (wN aH bA rL) (aG (wN aH bF rL)))) ?_);calc(aj _ rL (aj _ rL (aj _ rL (Bb a C f none [v,u] rL ha T.M.ini (zsz 2) ?_))));show(aj _ rL (aj _ rL (dW a C none rL ha T.T (T.no _ qk) (.inl ⟨rL,λdx ne nd=>(aj _ rL (aj _ rL (dW a C (some dx) rL aA T.T (T.no _ qk) (.inr (aX dx _ rL (by rw[aZ ne,aA]) (by show 1<50;decide) (q dx ne nd))))))⟩))))
def ah7 {f C R:Addr}{fd:FuncData}(F:fj K "__init__" "Gap.__init__" ou f fd)(D:mg "RackError"=some (.ref R))(j:InitOf K R)(T:qw K mg "Gap" C f ["row","column"]):cA P w K mg base dJ 1 f fd ["self","row","column"] (JX C "row" "column"):=by calc F.dM VF (λbN A outer s H vs Q E G h=>?_);let⟨a,v,u,rfl,ha,q⟩:=h;calc(aj _ (aB (dz (vX qr D j (ak aH (ak bA (ak bF aq))))) (aB (wN aH bA rL) (aG (wN aH bF rL)))) ?_);calc(aj _ rL (aj _ rL (aj _ rL (Bb a C f none [v,u] rL ha T.M.ini (zsz 2) ?_))));show(aj _ rL (aj _ rL (dW a C none rL ha T.T (T.no _ qk) (.inl ⟨rL,λdx ne nd=>(aj _ rL (aj _ rL (dW a C (some dx) rL aA T.T (T.no _ qk) (.inr (aX dx _ rL (by rw[aZ ne,aA]) (by show 1<50;decide) (q dx ne nd))))))⟩))))
def O8 {H:Hp}{a dx:Addr}{o p q p2:HO}(na:H a=none)(ne:dx≠a)(nd:upd H a o dx=none):upd (upd (upd (upd H a o) dx p) a q) dx p2 a=some q/\aD H (drop (upd (upd (upd (upd H a o) dx p) a q) dx p2) a)/\drop (upd (upd (upd (upd H a o) dx p) a q) dx p2) a dx=some p2:=by
 rw[aZ ne]at nd;refine(bV (by rw[aZ ne.symm,aA]) (λb u e=>?_) ?_)
 .let h1:b≠a:=aN e na;let h2:b≠dx:=aN e nd;rw[j7 h1,aZ h2,aZ h1,aZ h2,aZ h1];show e
 .rw[j7 ne,aA]
abbrev Xm (i j:Nat):List (Str×V):=iD "column" (.int j) [("row",.int i)]
def Xn {α:Type}{p:α->Bool}{l:List α}{n:Nat}(hn:n<l.length)(h0:∀x∈l.take n,p x=false)(h1:p l[n]=true):l.find? p=some l[n]:=by
 let e:l=l.take n++l[n]::l.drop (n+1):=by rw[<-gm hn,kD]
 let e2:(l.take n++l[n]::l.drop (n+1)).find? p=some l[n]:=by rw[List.find?_append,List.find?_eq_none.mpr λx hx=>by rw[h0 x hx];decide,Option.none_or,List.find?_cons_of_pos h1]
 rw[<-e]at e2;show e2
def Xo {α:Type}{p:α->Bool}{l:List α}(h0:∀x∈l,p x=false):l.find? p=none:=List.find?_eq_none.mpr λx hx=>by rw[h0 x hx];decide
def ah8 (a b:Nat):decide (V.int (a:Int)=V.int (b:Int))=decide (a=b):=by
 by_cases h:a=b;.subst h;simp
 .have:¬V.int (a:Int)=V.int (b:Int):=λz=>h (by injection z with z;show oy z)
  simp[h,this]
def uh (ts:List bZ):Bool:=ts.all λt=>decide (t.1=(ts.headD (0,0,0)).1)
def um (ts:List bZ):Bool:=ts.all λt=>decide (t.2.1=(ts.headD (0,0,0)).2.1)
def xK {ts:List bZ}(h:0<ts.length):ts.headD (0,0,0)=ts[0]:=by
 cases ts with| nil=>simp at h| cons a b=>rfl
def O9:Sp:=λvs H Q _=>∃(t:Addr) (as:List Addr) (ts:List bZ),vs=[.ref t]/\H t=some (.tup (as.map V.ref))/\fQ H as ts/\0<ts.length/\ts.length<=7/\∀H',aD H H'->Q (.bl (uh ts)) H'
def Xp:Sp:=λvs H Q _=>∃(t:Addr) (as:List Addr) (ts:List bZ),vs=[.ref t]/\H t=some (.tup (as.map V.ref))/\fQ H as ts/\0<ts.length/\ts.length<=7/\∀H',aD H H'->Q (.bl (um ts)) H'
def Ql (D:aP K mg "is_across" qD ["laying"])(fZ:mg "all"=none):cg P w K mg base "is_across" 1 ["laying"] O9:=by
 calc D.dM Dz (λf bN A outer s H vs Q E hr h=>?_);let⟨t,as,ts,rfl,ht,Y,h0,h7,q⟩:=h;let O:=Y.len;let hh:=xK h0;calc(aj _ (aG (bC (aY (kI rL) qr fZ jT (ak (mQ (ns:=["row","column","sign"]) rL (jY.of ["laying"] [] qA) (iI aH) (λ_ _ _ _ _=>(pQ K rL (show (["row","column","sign","laying"]:List Str).Nodup by decide +kernel) rL rL rL qr qr qr)) (λ_ _ _ _ _=>fu) (λ_ _ _ _ _=>(fH jl aH (bh (rm K) (bh (rm K) bT au (λ_ _=>rfl)) au (λ_ _=>rfl)) (bM _)))) aq)))) ?_);refine(aj _ rL (bf t rL ⟨_,aU.of ht⟩ (λN Z=>lq (K:=K) (KT:=K) (a:=t) (f:=j6 [] 0) (tt:=mL) (xs:=as.map V.ref) (λn ys G=>ys=((ts.take n).map λt=>decide (t.1=(ts.headD (0,0,0)).1)).map V.bl/\G N=some (.lst ys)/\aD H G)
  (bV rL aA (aD.upd Z)) (λn ys G _ h=>aU.of (h.2.2 _ _ ht)) ?_ ?_)))
 .intro n x ys G hx z;let⟨rfl,J,F⟩:=z;let⟨hn,hx⟩:=rfg hx;let I:n<ts.length:=qi;let⟨_,en⟩:=jV (Y.mv F) I;let⟨g0,e0⟩:=jV (Y.mv F) h0;calc vV hx.symm (aU.of en) ?_;calc(aj _ rL (aj _ rL (bw t _ _ (.ref as[0]) rL rL (aU.of (F _ _ ht)) (aQ (j:=0) (by simp[g0])) (nq (as[0]) _ _ _ rL rL (aU.of e0) (aQ (j:=0) rL) rL J ?_ (iU.mk (by rw[aa];show hn) (bV ?_ aA (F.dX Z)))))));.rw[aa,aa,am];show aM qi
  .rw[take_snoc (ac I),bq,hh,ah8];rfl
 .intro ys G z;let⟨rfl,J,F⟩:=z;calc(aJ N _ rL (bH.of J) ?_);rw[aa,O,cp,all_map];show q G F
def ZM (D:aP K mg "is_down" yw ["laying"])(fZ:mg "all"=none):cg P w K mg base "is_down" 1 ["laying"] Xp:=by
 calc D.dM Zv (λf bN A outer s H vs Q E hr h=>?_);let⟨t,as,ts,rfl,ht,Y,h0,h7,q⟩:=h;let O:=Y.len;let hh:=xK h0;calc(aj _ (aG (bC (aY (kI rL) qr fZ jT (ak (mQ (ns:=["row","column","sign"]) rL (jY.of ["laying"] [] qA) (iI aH) (λ_ _ _ _ _=>(pQ K rL (show (["row","column","sign","laying"]:List Str).Nodup by decide +kernel) rL rL rL qr qr qr)) (λ_ _ _ _ _=>fu) (λ_ _ _ _ _=>(fH jl bA (bh (rm K) (bh (rm K) bT au (λ_ _=>rfl)) au (λ_ _=>rfl)) (bM _)))) aq)))) ?_);refine(aj _ rL (bf t rL ⟨_,aU.of ht⟩ (λN Z=>lq (K:=K) (KT:=K) (a:=t) (f:=j6 [] 0) (tt:=mL) (xs:=as.map V.ref) (λn ys G=>ys=((ts.take n).map λt=>decide (t.2.1=(ts.headD (0,0,0)).2.1)).map V.bl/\G N=some (.lst ys)/\aD H G)
  (bV rL aA (aD.upd Z)) (λn ys G _ h=>aU.of (h.2.2 _ _ ht)) ?_ ?_)))
 .intro n x ys G hx z;let⟨rfl,J,F⟩:=z;let⟨hn,hx⟩:=rfg hx;let I:n<ts.length:=qi;let⟨_,en⟩:=jV (Y.mv F) I;let⟨g0,e0⟩:=jV (Y.mv F) h0;calc vV hx.symm (aU.of en) ?_;calc(aj _ rL (aj _ rL (bw t _ _ (.ref as[0]) rL rL (aU.of (F _ _ ht)) (aQ (j:=0) (by simp[g0])) (nq (as[0]) _ _ _ rL rL (aU.of e0) (aQ (j:=1) rL) rL J ?_ (iU.mk (by rw[aa];show hn) (bV ?_ aA (F.dX Z)))))));.rw[aa,aa,am];show aM qi
  .rw[take_snoc (ac I),bq,hh,ah8];rfl
 .intro ys G z;let⟨rfl,J,F⟩:=z;calc(aJ N _ rL (bH.of J) ?_);rw[aa,O,cp,all_map];show q G F
abbrev IL2:=jf (λq:Int×Int=>[V.int q.1,V.int q.2])
def around (i j:Int):List (Int×Int):=[(i-1,j),(i+1,j),(i,j-1),(i,j+1)]
def tkC (aF:AB)(r w:Nat)(p:Int×Int):Bool:=!decide ([atC aF r w p.1 p.2]=[46])
def Q6 (aF:AB)(r w:Nat)(i j:Int):Bool:=(around i j).any (tkC aF r w)
def any_map {α:Type}(l:List α)(f:α->Bool):((l.map f).any id)=l.any f:=by induction l with|nil=>rfl|cons a l ih=>simp[ih]
def Sy (C:Addr):Sp:=λvs H Q _=>∃(b:Addr) (r w:Nat) (aF aO:AB) (bi bj:Nat) (i j:Int),vs=[.ref b,.int i,.int j]/\cX C H b r w aF aO bi bj/\∀H',aD H H'->Q (.bl (Q6 aF r w i j)) H'
def Qm {C f1:Addr}{eE:FuncData}(D:aP K mg "is_next_to_taken" mC ["board","row","column"])(yL:mg "any"=none)(gR:∃t,mg "FREE"=some (.str (S [46]) t))(cI:iy K C)(sV:Meth K C "at" f1)(sW:cA P w K mg base dJ 3 f1 eE ["self","row","column"] (ZJ C))(sX:bR K eE ["self","row","column"] []):cg P w K mg base "is_next_to_taken" 5 ["board","row","column"] (Sy C):=by
 calc D.dM oW (λf bN A outer s H vs Q E hr h=>?_);let⟨b,r,w,aF,aO,bi,bj,i,j,rfl,BA,q⟩:=h;calc(aj _ (aB (aV (i:=3) oW.nd rL (Or.inl rL) (cZ (ak (cZ (ak (aL oM bA au) (ak bF aq))) (ak (cZ (ak (aL cM bA au) (ak bF aq))) (ak (cZ (ak bA (ak (aL oM bF au) aq))) (ak (cZ (ak bA (ak (aL cM bF au) aq))) aq)))))) (aG (bC (aY (RN rL) qr yL Ov (ak (j5 rL (jz.of oW.nd qA) (iI bT) (λ_ _ _ _ _=>fu) (λ_ _ _ _ _=>(fH JK (nH bA cI.cl sV sW hr.mono sX .nil eG (ak (bh (rm K) aH au (λ_ _=>rfl)) (ak (bh (rm K) aH au (λ_ _=>rfl)) aq))) (uJ qr gR) (bM _)))) aq))))) ?_);calc(aj _ rL (aJ _ _ rL rL (bf _ rL (zsz 2) (λI h1=>(aj _ rL (aJ _ _ rL rL (bf _ rL (zsz 2) (λg2 h2=>(aj _ rL (aj _ rL (aX _ _ rL rL (zsz 2) (λG h3=>(aj _ rL (aj _ rL (aX _ _ rL rL (zsz 2) (λF h4=>⟨zsz 4,λA O=>?_⟩))))))))))))))));dsimp only at h1 h2 h3 h4 O ⊢;let k1:aD H (upd H I (HO.tup [.int (i-1),.int j])):=aD.upd h1;let e1:upd H I (HO.tup [.int (i-1),.int j]) I=some (.tup [.int (i-1),.int j]):=aA;generalize upd H I (HO.tup [.int (i-1),.int j])=H1 at k1 e1 h2 h3 h4 O ⊢;let k2:aD H1 (upd H1 g2 (HO.tup [.int (i+1),.int j])):=aD.upd h2;let e2:upd H1 g2 (HO.tup [.int (i+1),.int j]) g2=some (.tup [.int (i+1),.int j]):=aA;generalize upd H1 g2 (HO.tup [.int (i+1),.int j])=H2 at k2 e2 h3 h4 O ⊢;let k3:aD H2 (upd H2 G (HO.tup [.int i,.int (j-1)])):=aD.upd h3;let e3:upd H2 G (HO.tup [.int i,.int (j-1)]) G=some (.tup [.int i,.int (j-1)]):=aA;generalize upd H2 G (HO.tup [.int i,.int (j-1)])=H3 at k3 e3 h4 O ⊢;let k4:aD H3 (upd H3 F (HO.tup [.int i,.int (j+1)])):=aD.upd h4;let e4:upd H3 F (HO.tup [.int i,.int (j+1)]) F=some (.tup [.int i,.int (j+1)]):=aA;generalize upd H3 F (HO.tup [.int i,.int (j+1)])=H4 at k4 e4 O ⊢;let k5:aD H4 (upd H4 A (HO.tup [.ref I,.ref g2,.ref G,.ref F])):=aD.upd O;let e5:upd H4 A (HO.tup [.ref I,.ref g2,.ref G,.ref F]) A=some (.tup ([I,g2,G,F].map V.ref)):=aA;let il:IL2 H4 [I,g2,G,F] (around i j):=((jf.one (x:=(i-1,j)) (k4 _ _ (k3 _ _ (k2 _ _ e1)))).app (jf.one (x:=(i+1,j)) (k4 _ _ (k3 _ _ e2)))).app ((jf.one (x:=(i,j-1)) (k4 _ _ e3)).app (jf.one (x:=(i,j+1)) e4));let s5:=(((k1.trans k2).trans k3).trans k4).trans k5;let Y:=il.mv k5;generalize upd H4 A (HO.tup [.ref I,.ref g2,.ref G,.ref F])=H5 at k5 e5 s5 Y ⊢;let BA5:=BA.mv s5;refine(aj _ rL (bf A rL ⟨_,aU.of e5⟩ (λN hN=>qX (xs:=[I,g2,G,F].map V.ref) (λn ys J=>ys=(((around i j).take n).map (tkC aF r w)).map V.bl/\J N=some (.lst ys)/\aD H5 J)
  (bV rL aA (aD.upd hN)) (λn ys J _ h=>aU.of (h.2.2 _ _ e5)) ?_ ?_)))
 .intro n x ys J hx z;let⟨rfl,tQ,rF⟩:=z;let hn:n<[I,g2,G,F].length:=by have:=(ah.mp hx).1;simpa using this
  let hn4:n<4:=hn;rw[ck,ac hn]at hx;let hx:V.ref [I,g2,G,F][n]=x:=bo hx;subst hx;let⟨u,eu,hu⟩:=(Y.mv rF).get hn;let Z:=BA5.mv rF;let⟨dx,_,_,_,ex,_⟩:=id Z.ex;calc(aj _ rL (cY b dx _ rL ex rL (aj _ rL (bw _ _ _ _ rL rL (aU.of hu) (aQ (j:=0) rL) (aj _ rL (bw _ _ _ _ rL rL (aU.of hu) (aQ (j:=1) rL) (QZ b r w aF aO bi bj u.1 u.2 rL Z (dG [_] [46] rL rL tQ ?_ (iU.mk (by rw[aa];show hn) (bV ?_ aA (rF.dX hN)))))))))));.rw[aa,aa,am];show aM qi
  .rw[take_snoc eu,bq];rfl
 .intro ys J z;let⟨rfl,tQ,rF⟩:=z;calc(aJ N _ rL (bH.of tQ) ?_);rw[ce (by show 4<=4;decide),any_map];show q J (s5.trans rF)
def Ku:Sp:=λvs H Q _=>∃c:Nat,vs=[.str (S [c])]/\c<128/\Q (.str (S ([c].map PyProof.Rows.lo1))) H
def SJ (D:aP K mg "letter_of" uK ["sign"]):cg P w K mg base "letter_of" 1 ["sign"] Ku:=by calc D.dM RW (λf bN A outer s H vs Q E F h=>?_);let⟨c,rfl,j,q⟩:=h;calc(aj _ (aG (bC (wV bp ml mm Rx aH))) ?_);show(bf _ rL rL (pR [c] rL rL (by show 1<=1000;decide) (λd hd=>by rw[bc.mp hd];show j) q))
def SM {aF:AB}{r w i j:Nat}(hi:i<r)(D:j<w):atC aF r w (i:Int) (j:Int)=cell aF i j:=by unfold atC cell;rw[if_pos (QV qi qi qi qi),eI,eI]
def tkT (aF:AB)(t:bZ):Bool:=!decide ([cell aF t.1 t.2.1]=[46])
def Bo (aF:AB)(ts:List bZ):Option bZ:=ts.find? (tkT aF)
def SN (C j:Addr):Sp:=λvs H Q E=>∃(b t:Addr) (as:List Addr) (ts:List bZ) (r w:Nat) (aF aO:AB) (bi bj:Nat),vs=[.ref b,.ref t]/\cX C H b r w aF aO bi bj/\H t=some (.tup (as.map V.ref))/\fQ H as ts/\(∀t∈ts,inB r w t)/\
 (∀u,Bo aF ts=some u->∀(dx:Addr) (H':Hp),aD H H'->H' dx=some (.ext (XD dx (Xm u.1 u.2.1)))->E (.ref j) (some dx) H')/\
 (Bo aF ts=none->∀H',aD H H'->Q .non H')
def Qn {C O f0 f1:Addr}{eV eE:FuncData}(D:aP K mg "check_free" rR ["board","laying"])(gR:∃t,mg "FREE"=some (.str (S [46]) t))(cI:iy K C)(sV:Meth K C "at" f1)(sW:cA P w K mg base dJ 3 f1 eE ["self","row","column"] (ZJ C))(sX:bR K eE ["self","row","column"] [])(T:qw K mg "Taken" O f0 ["row","column"])(afM:cA P w K mg base dJ 1 f0 eV ["self","row","column"] (JX O "row" "column"))(MF:bR K eV ["self","row","column"] []):DefX P w K mg base "check_free" 5 ["board","laying"] (SN C O):=by
 refine D.Az qO (λvs H Q E h=>?_) (λf bN A outer s H vs Q E hr h=>?_)
 .let⟨b,t,as,ts,r,w,aF,aO,bi,bj,rfl,_⟩:=h;rfl
 .let⟨b,t,as,ts,r,w,aF,aO,bi,bj,rfl,BA,ht,hL,fB,qE,q⟩:=h;let Y:=T.M;let adw:=T.vg;let hal:=hL.len;calc(aj _ (aG (fX km rL (iI bA) (qC rL (cD (bJ (i:=2) qO.nd rL (Or.inl rL)) (cD (bJ (i:=3) qO.nd rL (Or.inl rL)) (cD (bJ (i:=4) qO.nd rL (Or.inl rL)) oO)))) (aG (cJ (b_ JK (nH aH cI.cl sV sW hr.mono sX .nil eG (ak bF (ak bT aq))) (uJ qr gR) (bM _)) (aG (vf rB rL Y afM hr.mono qr adw MF (ak bF (ak bT aq)))) bO)))) ?_);refine(aj _ rL (bf t rL ⟨_,aU.of ht⟩ (FQ (K:=K) (a:=t) (xs:=as.map V.ref) (λn σ H'=>∃v2 v3 v4:Option V,σ=[some (.ref b),some (.ref t),v2,v3,v4]/\aD H H'/\∀x∈ts.take n,tkT aF x=false)
   (qK none none none rL (aD.refl _) (λx hx=>by simp at hx)) (λn σ H' _ h=>by let⟨_,_,_,_,I,_⟩:=h;show aU.of (I _ _ ht)) ?_ ?_)))
  .intro n x σ H' hx z;let⟨v2,v3,v4,rfl,I,j⟩:=z;let⟨hn,hx⟩:=rfg hx;let G:n<ts.length:=qi;subst hx;let⟨_,en⟩:=jV (hL.mv I) G;let⟨c1,c2,_⟩:=fB _ (aS G);let J:=BA.mv I;let⟨Z,_,_,_,ex,_⟩:=id J.ex;calc(aX (as[n]) _ rL (aU.of en) rL (dN _ _ rL (dN _ _ rL (aJ _ _ rL rL ?_))));calc(aj _ rL (cY b Z _ rL ex rL (aj _ rL (aj _ rL (QZ b r w aF aO bi bj _ _ rL J (aJ [_] [46] rL rL (aj _ rL ?_)))))));rw[SM c1 c2];cases F:tkT aF ts[n] with
   | true=>rw[show (!decide ([cell aF ts[n].1 ts[n].2.1]=[46]))=true from F];calc cG (aj _ rL (bf _ rL (zsz 2) (λa na=>(qK a _ _ rL aA (λdx ne nd=>?_)))));let⟨k0,k1,k2⟩:=O8 (q:=.ext (jo a (.ref O) (some dx))) (p:=.ext (XD dx [("row",.int ts[n].1)])) (p2:=.ext (XD dx (Xm ts[n].1 ts[n].2.1))) na ne nd;show⟨rL,aj (some dx) k0 (qE ts[n] (Xn G j F) dx _ (I.trans k1) k2)⟩
   | false=>
    rw[show (!decide ([cell aF ts[n].1 ts[n].2.1]=[46]))=false from F];calc bW (qK _ _ _ rL I (λx hx=>?_));rw[c_,ac G]at hx;rcases bv.mp hx with z|z;.show j x z
    .rw[bc.mp z];show F
  .intro σ H' z;let⟨v2,v3,v4,rfl,I,j⟩:=z;rw[aa,hal,cp]at j;show q (Xo j) H' I
def Xq (j:Addr):Sp:=λvs H Q E=>∃(t:Addr) (as:List Addr) (ts:List bZ),vs=[.ref t]/\H t=some (.tup (as.map V.ref))/\fQ H as ts/\0<ts.length/\ts.length<=7/\
 ((uh ts||um ts)=false->∀H',aD H H'->E (.ref j) none H')/\((uh ts||um ts)=true->∀H',aD H H'->Q .non H')
def GD {G:Addr}(D:aP K mg "check_straight" oE ["laying"])(Z:mg "Crooked"=some (.ref G))(j:W.excIn K G lu "ValueError.__new__"=true)(zf:cg P w K mg base "is_across" 1 ["laying"] O9)(F:cg P w K mg base "is_down" 1 ["laying"] Xp):DefX P w K mg base "check_straight" 3 ["laying"] (Xq G):=by
 refine D.Az Gy (λvs H Q E h=>?_) (λf bN A outer s H vs Q E O h=>?_)
 .let⟨t,as,ts,rfl,_⟩:=h;rfl
 .let⟨t,as,ts,rfl,ht,J,h0,h7,Y,q⟩:=h;calc(aj _ (aG (cJ (QW.qt (zT (d7 (dR (bI zf O.mono rL (ak aH aq)))) (Gb (d7 (dR (bI F O.mono rL (ak aH aq))))))) (aG (HY rB rL rL qr Z j (ak (bQ [116,104,101,32,99,101,108,108,115,32,97,114,101,32,110,111,116,32,105,110,32,111,110,101,32,108,105,110,101] qB) aq))) bO)) ?_);calc(aj _ rL (qL t as ts rL ht J h0 h7 (λH1 s1=>(aj _ rL ?_))));cases ha:uh ts with
  | true=>show bW (bW (q (by rw[ha];rfl) H1 s1))
  | false=>
   calc cG (aj _ rL (qL t as ts rL (s1 _ _ ht) (J.mv s1) h0 h7 (λI s2=>(aj _ rL ?_))));cases hd:um ts with| true=>show bW (q (by rw[ha,hd];rfl) I (s1.trans s2))| false=>show cG ⟨zsz 1,Y (by rw[ha,hd];rfl) I (s1.trans s2)⟩
structure aeP (R:AB)(a b c d i j:Nat):Prop where
 i1:a<=i
 i2:i<=b
 j1:c<=j
 j2:j<=d
 fr:cell R i j=46
 up:∀i' j',a<=i'->i'<i->c<=j'->j'<=d->cell R i' j'≠46
 le:∀j',c<=j'->j'<j->cell R i j'≠46
def Kv (R:AB)(a b c d:Nat):Prop:=∀i j,a<=i->i<=b->c<=j->j<=d->cell R i j≠46
def nC (ts:List bZ):bZ:=ts.getLastD (0,0,0)
def pJ (ts:List bZ):bZ:=ts.headD (0,0,0)
def adx {ts:List bZ}(h:0<ts.length):nC ts=ts[ts.length-1]:=by unfold nC;rw[List.getLastD_eq_getLast?,o0,ac qi];rfl
def SQ (C CG:Addr):Sp:=λvs H Q E=>∃(b t:Addr) (as:List Addr) (ts:List bZ) (r w:Nat) (aF aO:AB) (bi bj:Nat),vs=[.ref b,.ref t]/\cX C H b r w aF aO bi bj/\H t=some (.tup (as.map V.ref))/\fQ H as ts/\(∀t∈ts,inB r w t)/\0<ts.length/\
 (∀i j,aeP (eY aF ts) (pJ ts).1 (nC ts).1 (pJ ts).2.1 (nC ts).2.1 i j->∀(dx:Addr) (H':Hp),aD H H'->H' dx=some (.ext (XD dx (Xm i j)))->E (.ref CG) (some dx) H')/\
 (Kv (eY aF ts) (pJ ts).1 (nC ts).1 (pJ ts).2.1 (nC ts).2.1->∀H',aD H H'->Q .non H')
def Qo {C CG f0 f1 f2:Addr}{eV eE fd2:FuncData}(D:aP K mg "check_gaps" rT ["board","laying"])(d8:mg "range"=none)(gR:∃t,mg "FREE"=some (.str (S [46]) t))(cI:iy K C)(sV:Meth K C "at" f1)(sW:cA P w K mg base dJ 3 f1 eE ["self","row","column"] (ZJ C))(sX:bR K eE ["self","row","column"] [])(lQ:Meth K C "laid" f2)(lR:cA P w K mg base dJ 8 f2 fd2 ["self","laying"] (DY C))(lU:bR K fd2 ["self","laying"] [])(T:qw K mg "Gap" CG f0 ["row","column"])(ajI:cA P w K mg base dJ 1 f0 eV ["self","row","column"] (JX CG "row" "column"))(ZQ:bR K eV ["self","row","column"] []):DefX P w K mg base "check_gaps" 10 ["board","laying"] (SQ C CG):=by
 refine D.Az qP (λvs H Q E h=>?_) (λf bN A outer s H vs Q E hr h=>?_)
 .let⟨b,t,as,ts,r,w,aF,aO,bi,bj,rfl,_⟩:=h;rfl
 .let⟨b,t,as,ts,r,w,aF,aO,bi,bj,rfl,BA,ht,hL,fB,h0,qE,q⟩:=h;let ajJ:=T.M;let ah9:=T.vg;let hal:=hL.len;let r9:=BA.ok.r9;let w9:=BA.ok.w9;let⟨dx,_,_,_,ex,_⟩:=id BA.ex;calc(aj _ (aB (aV (i:=2) qP.nd rL (Or.inl rL) (nH aH cI.cl lQ lR hr.mono lU .nil eG (ak bA aq))) (aG (fX km rL (Oq qr d8 (ak (bh bD (bh bD bA au (λ_ _=>rfl)) au (λ_ _=>rfl)) (ak (aL cM (bh bD (bh bD bA (k_ jk au) (λ_ _=>rfl)) au (λ_ _=>rfl)) au) aq))) (bJ (i:=3) qP.nd rL (Or.inl rL)) (aG (fX km rL (Oq qr d8 (ak (bh bD (bh bD bA au (λ_ _=>rfl)) au (λ_ _=>rfl)) (ak (aL cM (bh bD (bh bD bA (k_ jk au) (λ_ _=>rfl)) au (λ_ _=>rfl)) au) aq))) (bJ (i:=4) qP.nd rL (Or.inl rL)) (aG (cJ (b_ jQ (nH bF cI.cl sV sW hr.mono sX .nil eG (ak bT (ak cO aq))) (uJ qr gR) (bM _)) (aG (vf rB rL ajJ ajI hr.mono qr ah9 ZQ (ak bT (ak cO aq)))) bO))))))) ?_);calc(aj _ rL (cY b dx _ rL ex rL (aj _ rL (Dw b t as ts r w aF aO bi bj rL BA ht hL fB (λx1 H1 s1 B1=>?_)))));rw[show pJ ts=ts[0] from xK h0,adx h0]at qE q;let⟨a1,a2,_⟩:=fB _ (aS h0);let⟨l1,l2,_⟩:=fB _ (aS (show ts.length-1<ts.length by lia));let hL1:=hL.mv s1;let J:=s1 _ _ ht;let⟨g0,e0⟩:=jV hL1 h0;let⟨gl,el⟩:=jV hL1 (show ts.length-1<ts.length by lia);let eal:as.length-1=ts.length-1:=qi;let aeQ:qz (as.map V.ref) (-1)=some (.ref as[ts.length-1]):=by
   rw[afK (show 0<as.length by lia)];simp only[eal]
  generalize hR:eY aF ts=R at B1 qE q;generalize ef:ts[0]=ff at e0 qE q a1 a2;generalize eg:ts[ts.length-1]=ll at el qE q l1 l2;calc(aj _ rL (bw t _ _ (.ref as[0]) rL rL (aU.of J) (aQ (j:=0) (by simp[g0])) (bw (as[0]) _ _ _ rL rL (aU.of e0) (aQ (j:=0) rL) (aj _ rL (aj _ rL (bw t _ _ (.ref as[ts.length-1]) rL rL (aU.of J) aeQ (bw (as[ts.length-1]) _ _ _ rL rL (aU.of el) (aQ (j:=0) rL) (aJ _ _ rL rL (aJ (ff.1:Int) ((ll.1:Int)+1) rL (QV qi qi qi qi) ?_)))))))));refine mj (lo:=(ff.1:Int)) (λn σ H'=>∃v3 O:Option V,σ=[some (.ref b),some (.ref t),some (.ref x1),v3,O]/\aD H1 H'/\∀i j,ff.1<=i->i<ff.1+n->ff.2.1<=j->j<=ll.2.1->cell R i j≠46)
   (aJ none none rL (aD.refl _) (λi j Y z2=>by lia)) ?_ ?_
  .intro n σ H' hn z;let⟨v3,O,rfl,Z,G⟩:=z;let hn2:ff.1+n<=ll.1:=qi;let en:(ff.1:Int)+(n:Int)=((ff.1+n:Nat):Int):=qi;rw[en];let O5:=Z _ _ J;let e02:=Z _ _ e0;let el2:=Z _ _ el;calc(aj _ rL (bw t _ _ (.ref as[0]) rL rL (aU.of O5) (aQ (j:=0) (by simp[g0])) (bw (as[0]) _ _ _ rL rL (aU.of e02) (aQ (j:=1) rL) (aj _ rL (aj _ rL (bw t _ _ (.ref as[ts.length-1]) rL rL (aU.of O5) aeQ (bw (as[ts.length-1]) _ _ _ rL rL (aU.of el2) (aQ (j:=1) rL) (aJ _ _ rL rL (aJ (ff.2.1:Int) ((ll.2.1:Int)+1) rL (QV qi qi qi qi) ?_)))))))));refine mj (lo:=(ff.2.1:Int)) (λm σ H2=>∃O:Option V,σ=[some (.ref b),some (.ref t),some (.ref x1),some (.int ((ff.1+n:Nat):Int)),O]/\aD H1 H2/\∀j,ff.2.1<=j->j<ff.2.1+m->cell R (ff.1+n) j≠46)
    (bf _ rL Z (λj Y z2=>by lia)) ?_ ?_
   .intro m σ H2 hm z;let⟨O,rfl,F,I⟩:=z;let hm2:ff.2.1+m<=ll.2.1:=qi;let em:(ff.2.1:Int)+(m:Int)=((ff.2.1+m:Nat):Int):=qi;rw[em];let B2:=B1.mv F;let⟨dx1,_,_,_,Xj,_⟩:=id B2.ex;calc(aj _ rL (cY x1 dx1 _ rL Xj rL (aj _ rL (aj _ rL (QZ x1 r w R aO bi bj _ _ rL B2 (aJ [_] [46] rL rL (aj _ rL ?_)))))));rw[SM (show ff.1+n<r by lia) (show ff.2.1+m<w by lia)];by_cases hc:cell R (ff.1+n) (ff.2.1+m)=46
    .rw[al (show [cell R (ff.1+n) (ff.2.1+m)]=[46] by rw[hc])];calc cG (aj _ rL (bf _ rL (zsz 2) (λa na=>(qK a _ _ rL aA (λdx ne nd=>?_)))));let⟨k0,k1,k2⟩:=O8 (q:=.ext (jo a (.ref CG) (some dx))) (p:=.ext (XD dx [("row",.int (ff.1+n:Nat))])) (p2:=.ext (XD dx (Xm (ff.1+n) (ff.2.1+m)))) na ne nd;show⟨rL,aj (some dx) k0 (qE _ _ ⟨qi,hn2,qi,hm2,hc,G,I⟩ dx _ ((s1.trans F).trans k1) k2)⟩
    .rw[ag (show ¬[cell R (ff.1+n) (ff.2.1+m)]=[46] from λz=>hc (by injection z))];calc bW (bf _ rL F (λj Y z2=>?_));by_cases z:j=ff.2.1+m;.rw[z];show hc
     .show I j Y qi
   .intro σ H2 z;let⟨O,rfl,F,I⟩:=z;calc(aJ _ _ rL F (λi j Y z2 z3 z4=>?_));by_cases z:i=ff.1+n;.rw[z];show I j z3 qi
    .show G i j Y qi z3 z4
  .intro σ H' z;let⟨v3,O,rfl,Z,G⟩:=z;show q (λi j Y z2 z3 z4=>G i j Y qi z3 z4) H' (s1.trans Z)
def oJ (t:bZ):Nat×Nat:=(t.1,t.2.1)
noncomputable def CN (aF:AB)(r w bi bj:Nat)(ts:List bZ):Bool:=if isFree aF=true then decide ((bi,bj)∈ts.map oJ) else ts.any λt=>Q6 aF r w t.1 t.2.1
theorem dY.ofP {H:Hp}:∀{cs:List Addr} {j:List (Nat×Nat)},PL2 H cs j->dY K H 1 (j.map λc=>Dt.tup [.int c.1,.int c.2]) (cs.map V.ref)
 | [],[],_=>.nil
 | [],_::_,h=>by have:=h.len;simp at this
 | _::_,[],h=>by have:=h.len;simp at this
 | a::cs,c::j,h=>.cons (.tup (aU.of (h.at_ 0 a c rL rL)) (.cons (.int _) (.cons (.int _) .nil))) (dY.ofP ⟨by have:=h.len;simpa using this,λi a x h1 h2=>h.at_ (i+1) a x h1 h2⟩)
def Kw {c:Nat×Nat}{j:List (Nat×Nat)}:Dt.tup [.int c.1,.int c.2]∈(j.map λc=>Dt.tup [.int (c.1:Int),.int (c.2:Int)])↔c∈j:=by
 constructor
 .intro h;let⟨d,hd,e⟩:=be.mp h;injection e with e;injection e with e1 e2;injection e1 with e1;injection e2 with e2;injection e2 with e2;have:d=c:=Prod.ext (oy e1) (oy e2);rw[<-this];show hd
 .intro h;show be.mpr (aj c h rL)
def SX (C j:Addr):Sp:=λvs H Q E=>∃(b t:Addr) (as:List Addr) (ts:List bZ) (r w:Nat) (aF aO:AB) (bi bj:Nat),vs=[.ref b,.ref t]/\cX C H b r w aF aO bi bj/\H t=some (.tup (as.map V.ref))/\fQ H as ts/\ts.length<=7/\
 (CN aF r w bi bj ts=false->∀H',aD H H'->E (.ref j) none H')/\(CN aF r w bi bj ts=true->∀H',aD H H'->Q .non H')
open Classical in
def Ky {C O f1:Addr}{eE:FuncData}(D:aP K mg "check_joined" pU ["board","laying"])(yL:mg "any"=none)(cI:iy K C)(sY:Meth K C "is_free" f1)(tu:cA P w K mg base dJ 1 f1 eE ["self"] (R8 C))(tD:bR K eE ["self"] [])(ady:mg "Apart"=some (.ref O))(Z:W.excIn K O lu "ValueError.__new__"=true)(sU:cg P w K mg base "cells_of" 1 ["laying"] yK)(D_:cg P w K mg base "is_next_to_taken" 5 ["board","row","column"] (Sy C)):DefX P w K mg base "check_joined" 7 ["board","laying"] (SX C O):=by
 refine D.Az rW (λvs H Q E h=>?_) (λf bN A outer s H vs Q E I h=>?_)
 .let⟨b,t,as,ts,r,w,aF,aO,bi,bj,rfl,_⟩:=h;rfl
 .let⟨b,t,as,ts,r,w,aF,aO,bi,bj,rfl,Y,ht,hL,h7,qE,q⟩:=h;let hal:=hL.len;let⟨dx,pr,pm,pb,ex,_,_,hpb⟩:=id Y.ex;calc(aj _ (aB (gK (cJ (dR (gF aH cI.cl sY tu I.mono tD .nil eG)) (aG (aV (i:=2) rW.nd rL (Or.inl rL) (fH (W_ I.units) (bK aH rL) (bI sU I.mono rL (ak bA aq)) rL))) (aG (aV (i:=2) rW.nd rL (Or.inl rL) (aY (RN rL) qr yL Ov (ak (mQ (ns:=["row","column","sign"]) rL (jY.of ["board","laying","joined"] [] qA) (iI bA) (λ_ _ _ _ _=>(pQ K rL (show (["row","column","sign","board","laying","joined"]:List Str).Nodup by decide +kernel) rL rL rL qr qr qr)) (λ_ _ _ _ _=>fu) (λ_ _ _ _ _=>(bI D_ I.mono rL (ak bT (ak aH (ak bA aq)))))) aq)))))) (aG (cJ (d7 (dR bF)) (aG (HY rB rL rL qr ady Z (ak (bQ [116,104,101,32,108,97,121,105,110,103,32,105,115,32,106,111,105,110,101,100,32,116,111,32,110,111,116,104,105,110,103] qB) aq))) bO))) ?_);refine(aj (λσ H'=>aD H H'/\σ=[some (.ref b),some (.ref t),some (.bl (CN aF r w bi bj ts))]) ?_ ?_)
  .calc(aj _ rL (cY b dx _ rL ex rL ⟨b,r,w,aF,aO,bi,bj,rL,Y,λH1 s1=>(aj _ rL ?_)⟩));cases hf:isFree aF with
   | true=>
    calc cG (aj _ rL (cB b C dx _ _ rL (s1 _ _ ex) cI.cl cI.nb rL (aj _ rL (dW t as ts rL (s1 _ _ ht) (hL.mv s1) qi (λLc cs H2 s2 hLc hcs=>?_)))));let aks:=s2 _ _ (s1 _ _ hpb);calc(cY 2 (.tup [.int bi,.int bj]) ((ts.map oJ).map λc=>Dt.tup [.int c.1,.int c.2]) qo (.tup (aU.of aks) (.cons (.int _) (.cons (.int _) .nil))) (.lst (bH.of hLc) (dY.ofP hcs)) ?_);calc⟨s1.trans s2,?_⟩;let e:CN aF r w bi bj ts=decide ((bi,bj)∈ts.map oJ):=by unfold CN;rw[if_pos hf]
    rw[e];simp only[fR,if_false];by_cases hm:(bi,bj)∈ts.map oJ;.rw[al hm,al (Kw (c:=(bi,bj)).mpr hm)];rfl
    .rw[ag hm,ag (λz=>hm (Kw (c:=(bi,bj)).mp z))];rfl
   | false=>
    refine bW (aj _ rL (bf t rL ⟨_,aU.of (s1 _ _ ht)⟩ (λN hN=>lq (K:=K) (KT:=K) (a:=t) (f:=j6 [] 0) (tt:=mL) (xs:=as.map V.ref) (λn ys F=>ys=((ts.take n).map λt=>Q6 aF r w t.1 t.2.1).map V.bl/\F N=some (.lst ys)/\aD H1 F)
     (bV rL aA (aD.upd hN)) (λn ys F _ h=>aU.of (h.2.2 _ _ (s1 _ _ ht))) ?_ ?_)))
    .intro n x ys F hx z;let⟨rfl,J,j⟩:=z;let⟨hn,hx⟩:=rfg hx;let G:n<ts.length:=qi;let fU:=s1.trans j;let⟨_,en⟩:=jV (hL.mv fU) G;calc vV hx.symm (aU.of en) ?_;calc(aj _ rL (aj _ rL (aj _ rL (QZ b r w aF aO bi bj _ _ rL (Y.mv fU) (λH4 s4=>(bV (s4 _ _ J) ?_ (iU.mk (by rw[aa];show hn) (bV ?_ aA ((j.trans s4).dX hN)))))))));.rw[aa,aa,am];show aM qi
     .rw[take_snoc (ac G),bq];rfl
    .intro ys F z;let⟨rfl,J,j⟩:=z;calc(aX N _ rL (bH.of J) (s1.trans j) ?_);rw[aa,hal,cp,any_map];let e:CN aF r w bi bj ts=ts.any λt=>Q6 aF r w t.1 t.2.1:=by unfold CN;rw[if_neg (by rw[hf];decide)]
     rw[e];rfl
  .rintro σ H' ⟨sm,rfl⟩;calc(aj _ rL (aj _ rL ?_));cases hj:CN aF r w bi bj ts with| true=>show bW (q hj H' sm)| false=>show cG ⟨zsz 1,qE hj H' sm⟩
structure zj (w:List Nat):Prop where
 lo:2<=w.length
 hi:w.length<=9
 az:∀c∈w,isLet c
def S5:Sp:=λvs H Q _=>∃l:List Nat,vs=[.str (S l)]/\zj l/\∀H',aD H H'->Q (.bl true) H'
def abD {c:Nat}(h:isLet c):decide ([c]<[97])=false/\decide ([122]<[c])=false:=by
 let j:∀a b:Nat,([a]<[b])↔a<b:=λa b=>by simp[ij]
 constructor;.rw[ag];rw[j];have:=h.1;lia
 .rw[ag];rw[j];have:=h.2;lia
def ZR (D:aP K mg "is_word" yD ["text"])(Y:mg "len"=none)(G:mg "all"=none):cg P w K mg base "is_word" 1 ["text"] S5:=by
 calc D.dM J_ (λf bN A outer s H vs Q E Z h=>?_);let⟨l,rfl,hw,q⟩:=h;let h1:=hw.lo;let h2:=hw.hi;let hz:l.length<=sizeLine:=av (aM qi);refine(aj _ (aG (bC (jR (mO qJ qJ au (aY dO qr Y ay (ak aH aq)) au)
  (jA (aY (kI rL) qr G qB (ak (j5 rL (jz.of J_.nd qA) (rP aH) (λ_ _ _ _ _=>fu)
   (λ_ _ _ _ _=>mO oN oN (bQ [97] qB) aH (bQ [122] qB))) aq)))))) ?_)
 calc(aj _ rL (bf l rL hz (aJ _ _ rL rL (aj true (by simp;lia) ?_))));calc cG (aJ _ _ rL rL (aj true (by simp;lia) ?_));calc cG ?_;refine(aj _ rL (aj l rL (λL O=>wW (λi ys F=>ys=(List.replicate i true).map V.bl/\F L=some (.lst ys)/\aD H F) (bV rL aA (aD.upd O)) ?_ ?_)))
 .intro i c ys F hi z;let⟨rfl,j,I⟩:=z;let J:i<l.length:=(ah.mp hi).1;let⟨a1,a2⟩:=abD (hw.az c (bu hi));calc(aj _ rL (aJ [97] [c] rL rL (aj true (by rw[a1];rfl) (cG (dG [c] [122] rL rL j ?_ (iU.mk J (bV ?_ aA (I.dX O))))))));.rw[aa,cE];show aM qi
  .rw[a2,kM,bq];rfl
 .intro ys F z;let⟨rfl,j,I⟩:=z;calc(aJ L (List.replicate l.length true) rL (bH.of j) ?_);let e:(List.replicate l.length true).all id=true:=qk;rw[e];show q F I
def Xr:Sp:=λvs H Q _=>∃l:List Nat,vs=[.str (S l)]/\zj l/\∀H',aD H H'->Q .non H'
def Qp (D:aP K mg "check_word" rY ["text"])(j:cg P w K mg base "is_word" 1 ["text"] S5):cg P w K mg base "check_word" 2 ["text"] Xr:=by calc D.dM Qf (λf bN A outer s H vs Q E F h=>?_);let⟨l,rfl,hw,q⟩:=h;calc(aj _ (aG (cJ (d7 (dR (bI j F rL (ak aH aq)))) q_ bO)) ?_);calc(aj _ rL (bf l rL hw (λH1 s1=>(aj true rL ?_))));show bW (q H1 s1)
structure uo (K:W.Frag)(C:Addr):Prop where
 cl:Cls K C
 nh:jg K C "held"
def qG (ws:AB):List (Key×V):=ws.map λl=>(dD l,V.bl true)
def adz (ws:AB):(qG ws).map (·.1)=ws.map dD:=by unfold qG;rw[f_];rfl
def adA {a b:List Nat}(h:dD a=dD b):a=b:=yg (ma h)
def MJ (ws:AB)(l:List Nat):gJ (qG ws) (dD l)=if l∈ws then some (.bl true) else none:=by
 induction ws with
 | nil=>simp[qG,gJ]
 | cons a r ih=>
  by_cases e:a=l
  .subst e;have:gJ (qG (a::r)) (dD a)=some (.bl true):=kj (p:=(dD a,V.bl true)) rfl;rw[this];simp
  .have:gJ (qG (a::r)) (dD l)=gJ (qG r) (dD l):=kE (p:=(dD a,V.bl true)) λz=>e (adA z)
   rw[this,ih];let j:¬l=a:=λz=>e z.symm;simp[j]
def afP {ws:AB}{l:List Nat}(h:l∈ws):putK (qG ws) (dD l) (.bl true)=qG ws:=by
 let j:((qG ws).any λF=>decide (F.1=dD l))=true:=by rw[tZ,MJ,if_pos h];rfl
 unfold putK;rw[if_pos j];calc(fE λF D=>?_).trans (kP _);let⟨a,_,rfl⟩:=be.mp D;by_cases e:dD a=dD l;.simp[e]
 .simp[e]
def afQ {ws:AB}{l:List Nat}(h:l∉ws):putK (qG ws) (dD l) (.bl true)=qG (ws++[l]):=by rw[acS _ (by rw[MJ,if_neg h])];simp[qG]
structure iJ (C:Addr)(H:Hp)(p d:Addr)(ws:AB):Prop where
 ob:∃dx,H p=some (.ins C dx [("held",.ref d)])
 dc:H d=some (.dK (qG ws))
 nd:ws.Nodup
 az:∀l∈ws,zj l
def zm (ws:AB)(l:List Nat):List (List Nat):=if l∈ws then ws else ws++[l]
def S6 (ws:AB)(l:List Nat):putK (qG ws) (dD l) (.bl true)=qG (zm ws l):=by
 unfold zm;split;.rename_i h;show afP h
 .rename_i h;show afQ h
def Xu {ws:AB}{l:List Nat}(h:ws.Nodup):(zm ws l).Nodup:=by
 unfold zm;split;.show h
 .rename_i hl;show WT h hl
def S7 {ws:AB}{l x:List Nat}:x∈zm ws l↔x∈ws\/x=l:=by
 unfold zm;split;.rename_i h;show⟨.inl,λz=>z.elim id λe=>e ▸ h⟩
 .simp
def S8 (ws:AB)(l:List Nat):(zm ws l).length<=ws.length+1:=by
 unfold zm;split;.lia
 .simp
def ajK (K:W.Frag)(H:Hp)(a:Addr)(ls:AB):Prop:=bH K H a (Ts ls)\/aU K H a (Ts ls)
def S9 (K:W.Frag)(C:Addr):Sp:=λvs H Q _=>∃(p dx a:Addr) (ls:AB),vs=[.ref p,.ref a]/\H p=some (.ins C dx [])/\ajK K H a ls/\(∀l∈ls,zj l)/\ls.length<=200/\
 ∀(d:Addr) (ws:AB) (H':Hp),H d=none->iJ C H' p d ws->(∀x,x∈ws↔x∈ls)->ws.length<=ls.length->(∀b o,H b=some o->b≠p->H' b=some o)->Q .non H'
def afR {f C:Addr}{fd:FuncData}(F:fj K "__init__" "Book.__init__" mZ f fd)(T:uo K C)(D1:cg P w K mg base "check_word" 2 ["text"] Xr):cA P w K mg base dJ 3 f fd ["self","words"] (S9 K C):=by
 calc F.dM DQ (λbN A outer s H vs Q E hr h=>?_);let⟨p,dx,a,ls,rfl,hp,hS,hW,hn,k⟩:=h;let hu:=QD hr;let nd:=DQ.nd;refine(aj _ (aB (kY aH Rv rL) (aG (fX cK rL ((oR bA).or (iI bA)) (bJ (i:=2) nd rL (Or.inl rL))
  (aB (dz (bI D1 hr rL (ak bF aq))) (aG (W3 hu (bK aH rL) bF iZ rL)))))) ?_)
 intro d hd;let Y:p≠d:=aN hp hd;calc(aj _ rL (gH p C dx [] rL (by rw[aZ Y];show hp) T.cl T.nh (by show 0<1000;decide) ?_));let hP1:upd (upd H d (HO.dK [])) p (HO.ins C dx (iD "held" (V.ref d) [])) p=some (.ins C dx [("held",.ref d)]):=aA;let hD1:upd (upd H d (HO.dK [])) p (HO.ins C dx (iD "held" (V.ref d) [])) d=some (.dK (qG [])):=by rw[aZ Y.symm,aA];rfl
 let O:∀b o,H b=some o->b≠p->upd (upd H d (HO.dK [])) p (HO.ins C dx (iD "held" (V.ref d) [])) b=some o:=λb o e hb=>by rw[aZ hb,aZ (aN e hd)];show e
 generalize upd (upd H d (HO.dK [])) p (HO.ins C dx (iD "held" (V.ref d) []))=H1 at hP1 hD1 O ⊢;let npl:∀o,H p=some o->(∀ys,o≠.lst ys)/\∀u ys,o≠.qx u (.lst ys):=λo e=>by rw[hp]at e;cases e;show⟨λ_ z=>(nomatch z),λ_ _ z=>(nomatch z)⟩
 let npt:∀o,H p=some o->(∀ys,o≠.tup ys)/\∀u ys,o≠.qx u (.tup ys):=λo e=>by rw[hp]at e;cases e;show⟨λ_ z=>(nomatch z),λ_ _ z=>(nomatch z)⟩
 rcases hS with hS|hS
 .refine .inl (aj _ rL (bf a rL ⟨_,hS.keep O npl⟩ (n8 (K:=K) (a:=a) (xs:=Ts ls) (λi σ D=>∃(v2:Option V) (ws:AB),σ=[some (.ref p),some (.ref a),v2]/\D p=some (.ins C dx [("held",.ref d)])/\D d=some (.dK (qG ws))/\ws.Nodup/\
   (∀x,x∈ws↔x∈ls.take i)/\ws.length<=i/\∀b o,H b=some o->b≠p->D b=some o) (J3 none [] rL hP1 hD1 qh (λx=>by simp) (ai _) O) (λi σ D _ ⟨_,_,_,_,_,_,_,_,kp⟩=>hS.keep kp npl) ?_ ?_)))
  .intro i y σ D hi z;let⟨v2,ws,rfl,j,I,J,hm,hl,kp⟩:=z;rw[ck]at hi;let⟨l,G,e⟩:=dL.mp hi;subst e;let hil:i<ls.length:=(ah.mp G).1;calc(aj _ rL (bf l rL (hW l (bu G)) (λH3 Z=>?_)));let hd3:=Z _ _ I;calc(aj _ rL (cB p C dx _ _ rL (Z _ _ j) T.cl T.nh rL (aj _ rL (aJ d _ rL (Hz.k (k:=dD l) hd3 (by rw[qG,aa];show aM qi)) ?_))));calc(J3 _ (zm ws l) rL (by rw[aZ Y];show Z _ _ j) (by rw[aA,S6]) (Xu J) (λx=>?_) (bP (S8 _ _) qi) (λb o e hb=>?_));.rw[S7,hm,c_,G];simp
   .rw[aZ (aN e hd)];show Z _ _ (kp b o e hb)
  .intro σ D z;let⟨v2,ws,rfl,j,I,J,hm,hl,kp⟩:=z;rw[aa]at hm hl;rw[cp]at hm;show k d ws D hd ⟨⟨dx,j⟩,I,J,λl hl=>hW l ((hm l).mp hl)⟩ hm hl kp
 .refine .inr (aj _ rL (bf a rL ⟨_,hS.keep O npt⟩ (FQ (K:=K) (a:=a) (xs:=Ts ls) (λi σ D=>∃(v2:Option V) (ws:AB),σ=[some (.ref p),some (.ref a),v2]/\D p=some (.ins C dx [("held",.ref d)])/\D d=some (.dK (qG ws))/\ws.Nodup/\
   (∀x,x∈ws↔x∈ls.take i)/\ws.length<=i/\∀b o,H b=some o->b≠p->D b=some o) (J3 none [] rL hP1 hD1 qh (λx=>by simp) (ai _) O) (λi σ D _ ⟨_,_,_,_,_,_,_,_,kp⟩=>hS.keep kp npt) ?_ ?_)))
  .intro i y σ D hi z;let⟨v2,ws,rfl,j,I,J,hm,hl,kp⟩:=z;rw[ck]at hi;let⟨l,G,e⟩:=dL.mp hi;subst e;let hil:i<ls.length:=(ah.mp G).1;calc(aj _ rL (bf l rL (hW l (bu G)) (λH3 Z=>?_)));let hd3:=Z _ _ I;calc(aj _ rL (cB p C dx _ _ rL (Z _ _ j) T.cl T.nh rL (aj _ rL (aJ d _ rL (Hz.k (k:=dD l) hd3 (by rw[qG,aa];show aM qi)) ?_))));calc(J3 _ (zm ws l) rL (by rw[aZ Y];show Z _ _ j) (by rw[aA,S6]) (Xu J) (λx=>?_) (bP (S8 _ _) qi) (λb o e hb=>?_));.rw[S7,hm,c_,G];simp
   .rw[aZ (aN e hd)];show Z _ _ (kp b o e hb)
  .intro σ D z;let⟨v2,ws,rfl,j,I,J,hm,hl,kp⟩:=z;rw[aa]at hm hl;rw[cp]at hm;show k d ws D hd ⟨⟨dx,j⟩,I,J,λl hl=>hW l ((hm l).mp hl)⟩ hm hl kp
def aeR (C:Addr):Sp:=λvs H Q _=>∃(p d:Addr) (ws:AB) (l:List Nat),vs=[.ref p,.str (S l)]/\iJ C H p d ws/\Q (.bl (decide (l∈ws))) H
def ah_ {f C:Addr}{fd:FuncData}(F:fj K "has" "Book.has" oG f fd)(T:uo K C):cA P w K mg base dJ 1 f fd ["self","text"] (aeR C):=by
 calc F.dM VR (λbN A outer s H vs Q E j h=>?_);let⟨p,d,ws,l,rfl,B,q⟩:=h;let D:=QD j;obtain⟨⟨dx,hp⟩,hd,_,_⟩:=id B;calc(aj _ (aG (bC (ahD (ahC D bA (bK aH rL))))) ?_);calc(aj _ rL (aj _ rL (cB p C dx _ _ rL hp T.cl T.nh rL (aJ d _ rL (za.k (k:=dD l) hd) ?_))));rw[MJ];by_cases h:l∈ws;.rw[if_pos h];simpa [h] using q
 .rw[if_neg h];simpa [h] using q
def akt (ws:AB):Prop:=ws.Pairwise (λa b=>decide (b<a)=false)
def Xv (C:Addr):Sp:=λvs H Q _=>∃(p d:Addr) (ws:AB),vs=[.ref p]/\iJ C H p d ws/\ws.length<64/\
 ∀(t:Addr) (us:AB) (H':Hp),aD H H'->H t=none->H' t=some (.tup (Ts us))->us.Perm ws->akt us->Q (.ref t) H'
def adB {f C:Addr}{fd:FuncData}(F:fj K "words" "Book.words" lN f fd)(T:uo K C)(G:mg "sorted"=none)(j:mg "tuple"=none):cA P w K mg base dJ 1 f fd ["self"] (Xv C):=by calc F.dM Qg (λbN A outer s H vs Q E O h=>?_);let⟨p,d,ws,rfl,B,D,q⟩:=h;obtain⟨⟨dx,hp⟩,hd,_,_⟩:=id B;calc(aj _ (aG (bC (d_ jx qr j dq (ak (aY (Rw rL) qr G fS (ak (bK aH rL) aq)) aq)))) ?_);calc(aj _ rL (cB p C dx _ _ rL hp T.cl T.nh rL (dW d _ ws rL hd (adz ws) D (λt us ht pm J=>?_))));calc(dN t _ rL (.inl ⟨bH.of aA,λv I=>?_⟩));let s1:aD H (upd H t (.lst (Ts us))):=aD.upd ht;show q v us _ (s1.dX (s1.free I)) (s1.free I) aA pm J
def iG (c:Nat):Nat:=if 65<=c/\c<=90 then 63 else c
def sgN (c:Nat):Prop:=isLet c\/(65<=c/\c<=90)
def sgN.lt {c:Nat}(h:sgN c):c<128:=by
 rcases h with h|h;.have:=h.2;lia
 .lia
noncomputable def Ac (left:AB):List Nat->Sum Nat (List (List Nat))
 | []=>.inr left
 | c::cs=>if [iG c]∈left then Ac (left.erase [iG c]) cs else .inl (iG c)
theorem Xw:∀{us:AB},(∀l∈us,l.length=1)->us.flatten.length=us.length
 | [],_=>rfl
 | u::us,h=>by rw[fh,aE,Xw λl hl=>h l (bz _ hl),h u cv,eh];lia
def abE:Sp:=λvs H Q _=>∃c:Nat,vs=[.str (S [c])]/\c<128/\Q (.str (S [iG c])) H
def le1 (a b:Nat):(!decide ([b]<[a]))=decide (a<=b):=by
 by_cases h:a<=b;.rw[al h,ag (by simp[ij];lia)];rfl
 .rw[ag h,al (by simp[ij];lia)];rfl
def ZS (D:aP K mg "tile_of" yt ["sign"]):cg P w K mg base "tile_of" 1 ["sign"] abE:=by
 calc D.dM Zu (λf bN A outer s H vs Q E F h=>?_);let⟨c,rfl,j,q⟩:=h;calc(aj _ (aG (bC (n_ (Ax oN oN (bQ [65] qB) aH (bQ [90] qB)) (bQ [63] qB) aH))) ?_);calc(aj _ rL (aJ [65] [c] rL rL ?_));rw[le1];unfold iG at q;by_cases h1:65<=c
 .rw[al h1];calc(aj _ rL (cG (aJ [c] [90] rL rL ?_)));rw[le1];by_cases h2:c<=90
  .rw[if_pos ⟨h1,h2⟩]at q;rw[al h2];show(aj _ rL (cG q))
  .rw[if_neg λz=>h2 z.2]at q;rw[ag h2];show(aj _ rL (bW (aj _ rL q)))
 .rw[if_neg λz=>h1 z.1]at q;rw[ag h1];show(aj _ rL (bW (aj _ rL (bW (aj _ rL q)))))
def abF (x:List Nat)(ws:AB):inV (.str (S x)) (Ts ws)=decide (x∈ws):=by
 unfold inV
 induction ws with
 | nil=>simp[Ts]
 | cons y ws ih=>
  let e:G3 (.str (S y)) (.str (S x))=decide (y=x):=by
   show decide (S y=S x)=_;by_cases h:y=x;.rw[h];simp
   .let h2:S y≠S x:=λe=>h (yg e)
    simp[h,h2]
  show (G3 (.str (S y)) (.str (S x))||(Ts ws).any _)=_;rw[e,ih];by_cases h:y=x;.simp[h]
  .let h2:¬x=y:=λe=>h e.symm
   simp[h,h2]
def MN (ws:AB):(Ts ws).all vU=true:=by rw[fq];intro x hx;let⟨l,_,rfl⟩:=be.mp hx;rfl
def ZV {f C R:Addr}{fd:FuncData}(F:fj K "__init__" "Lacking.__init__" jD f fd)(D:mg "RackError"=some (.ref R))(j:InitOf K R)(T:qw K mg "Lacking" C f ["tile"]):cA P w K mg base dJ 1 f fd ["self","tile"] (JW C "tile"):=by calc F.dM J7 (λbN A outer s H vs Q E G h=>?_);let⟨a,v,rfl,ha,q⟩:=h;calc(aj _ (aB (dz (vX qr D j (ak aH (ak bA aq)))) (aG (wN aH bA rL))) ?_);calc(aj _ rL (aj _ rL (Bb a C f none [v] rL ha T.M.ini (zsz 1) ?_)));show(aj _ rL (aj _ rL (dW a C none rL ha T.T (T.no _ qk) (.inl ⟨rL,λdx ne nd=>q dx ne nd⟩))))
def Kz (C:Addr):Sp:=λvs H Q E=>∃(bU j:List Nat),vs=[.str (S bU),.str (S j)]/\bU.length<=63/\j.length<=63/\(∀c∈j,c<128)/\
 (∀t,Ac (bU.map λc=>[c]) j=.inl t->∀(dx:Addr) (H':Hp),aD H H'->H' dx=some (.ext (XD dx [("tile",.str (S [t]))]))->E (.ref C) (some dx) H')/\
 (∀left,Ac (bU.map λc=>[c]) j=.inr left->∀(ws:AB) (H':Hp),aD H H'->ws.Perm left->ws.Pairwise (λa b=>decide (b<a)=false)->Q (.str (S ws.flatten)) H')
def ZW {C f0:Addr}{eV:FuncData}(D:aP K mg "left_of" yu ["rack","signs"])(fP:mg "list"=none)(iR:mg "sorted"=none)(T:qw K mg "Lacking" C f0 ["tile"])(abG:cA P w K mg base dJ 1 f0 eV ["self","tile"] (JW C "tile"))(Ea:bR K eV ["self","tile"] [])(abH:cg P w K mg base "tile_of" 1 ["sign"] abE):DefX P w K mg base "left_of" 3 ["rack","signs"] (Kz C):=by
 refine D.Az vY (λvs H Q E h=>?_) (λf bN A outer s H vs Q E hr h=>?_)
 .let⟨bU,j,rfl,_⟩:=h;rfl
 .let⟨bU,j,rfl,aku,ak8,hsg,qE,q⟩:=h;let abI:=T.M;let ZX:=T.vg;calc(aj _ (aB (aV (i:=2) vY.nd rL (Or.inl rL) (d_ (oh rL) qr fP dS (ak aH aq))) (aB (fX km rL (rP bA) (bJ (i:=3) vY.nd rL (Or.inl rL)) (aB (aV (i:=4) vY.nd rL (Or.inl rL) (bI abH hr.mono rL (ak bT aq))) (aB (cJ (b_ wU cO bF rL) (aG (vf rB rL abI abG hr.mono qr ZX Ea (ak cO aq))) bO) (aG (dz (gC bE iN iO yj bF (ak cO aq))))))) (aG (bC (gC bp dA dC qZ (bQ [] qB) (ak (aY Dq qr iR fS (ak bF aq)) aq)))))) ?_);calc(aj _ rL (bf bU rL qi (λL hL=>?_)));let s1:aD H (upd H L (.lst (Ts (bU.map λc=>[c])))):=aD.upd hL;calc(aj _ rL (aj j rL ?_));refine Gd (λi σ Y=>∃(v3 v4:Option V) (us:AB),σ=[some (.str (S bU)),some (.str (S j)),some (.ref L),v3,v4]/\aD H Y/\Y L=some (.lst (Ts us))/\us.length<=63/\(∀l∈us,l.length=1)/\Ac (bU.map λc=>[c]) j=Ac us (j.drop i))
   (qL none none (bU.map λc=>[c]) rL s1 aA (by rw[aa];show aku) (λl hl=>by let⟨c,_,rfl⟩:=be.mp hl;rfl) (by rw[ko])) ?_ ?_
  .intro i c σ Y Z z;let⟨v3,v4,us,rfl,O,G,KC,I,F⟩:=z;let hcs:=hsg c (bu Z);let hi:i<j.length:=(ah.mp Z).1;let J:j.drop i=c::j.drop (i+1):=by
    rw[gm hi];rw[ac hi]at Z;rw[bo Z]
   rw[J]at F;calc(aj _ rL (bf c rL hcs ?_));calc(aj _ rL (aj _ rL (dG L (Ts us) rL (.inl (bH.of G)) rL (MN us) ?_)));rw[abF];by_cases hm:[iG c]∈us
   .rw[al hm];calc(aj _ rL (bW (bf _ rL (.inl ⟨rL,_,bH.of G⟩) (aj _ rL (qL L us [iG c] rL rL G hm qi ?_)))));calc(qL _ _ (us.erase [iG c]) rL (O.dX hL) aA ?_ (λl hl=>I l (List.mem_of_mem_erase hl)) ?_);.have:=(lx (a:=[iG c]) (l:=us)).length_le;lia
    .rw[F];show (if _ then _ else _)=_;rw[if_pos hm]
   .rw[ag hm];let e:Ac (bU.map λc=>[c]) j=.inl (iG c):=by rw[F];show (if _ then _ else _)=_;rw[if_neg hm]
    calc(aj _ rL (cG (bf _ rL (zsz 1) (λa na=>(aJ a _ rL aA (λdx ne nd=>⟨rL,aj (some dx) aA ?_⟩))))));let⟨k1,k2⟩:=drop_new (q:=.ext (jo a (.ref C) (some dx))) (p:=.ext (XD dx [("tile",.str (S [iG c]))])) na ne nd;show qE _ e dx _ (O.trans k1) k2
  .intro σ Y z;let⟨v3,v4,us,rfl,O,G,KC,I,F⟩:=z;rw[mx]at F;calc⟨rL,aj _ rL (aX L us rL (bH.of G) qi (λp ws hp pm pw=>?_))⟩;calc(dG p ws rL rL (bH.of aA) ?_ ?_);.rw[Xw λl hl=>I l (pm.mem_iff.mp hl),pm.length_eq];lia
   .show q us F ws _ (O.dX (O.free hp)) pm pw
def abJ {f C R:Addr}{fd:FuncData}(F:fj K "__init__" "NoWord.__init__" kJ f fd)(D:mg "RackError"=some (.ref R))(j:InitOf K R)(T:qw K mg "NoWord" C f ["word"]):cA P w K mg base dJ 1 f fd ["self","word"] (JW C "word"):=by calc F.dM Mh (λbN A outer s H vs Q E G h=>?_);let⟨a,v,rfl,ha,q⟩:=h;calc(aj _ (aB (dz (vX qr D j (ak aH (ak bA aq)))) (aG (wN aH bA rL))) ?_);calc(aj _ rL (aj _ rL (Bb a C f none [v] rL ha T.M.ini (zsz 1) ?_)));show(aj _ rL (aj _ rL (dW a C none rL ha T.T (T.no _ qk) (.inl ⟨rL,λdx ne nd=>q dx ne nd⟩))))
theorem Eb {p:Nat->Bool}:∀{l:List Nat} {c:Nat},c∈l.takeWhile p->c∈l/\p c=true
 | [],c,h=>by simp at h
 | a::l,c,h=>by
  rw[List.takeWhile_cons]at h;by_cases z:p a=true
  .rw[if_pos z]at h;rcases bX.mp h with e|e;.rw[e];show⟨cv,z⟩
   .have:=Eb e;show⟨bz _ this.1,this.2⟩
  .rw[if_neg z]at h;simp at h
def adC {r w:Nat}{R:AB}(hb:Blk r w R)(hp:∀l∈R,∀c∈l,CJ c){i j wy:Nat}(hi:i<r)(F:j<w):∀c∈lineOf R i j (wy:Int),CJ c:=λc D=>by
 unfold lineOf at D;split at D
 .rw[ax,ac (by rw[hb.len];show hi)]at D;show hp _ (aS _) c D
 .let⟨l,hl,e⟩:=be.mp D;let hw:=hb.sO l hl;let e2:l.getD j 0=l[j]:=by rw[ax,ac (show j<l.length by lia)];rfl
  rw[<-e,e2];show hp l hl _ (aS _)
def afT {r w:Nat}{R:AB}(hb:Blk r w R)(hp:∀l∈R,∀c∈l,CJ c){i j wy:Nat}(hi:i<r)(F:j<w):∀c∈(ug R i j wy).2.2.2,rD c:=λc G=>by
 let D:∀c,c∈lineOf R i j (wy:Int)->(c != 46)=true->rD c:=λc h1 h2=>by
  rcases adC hb hp hi F c h1 with z|z;.rw[z]at h2;cases h2
  .show z
 rcases bv.mp (show c∈i_ _++jN _ from G) with z|z
 .unfold i_ at z;have:=Eb (List.mem_reverse.mp z);show D c (de (List.mem_reverse.mp this.1)) this.2
 .have:=Eb z;show D c (eQ this.1) this.2
def adD {r w:Nat}{aF:AB}{ts:List bZ}(hb:Blk r w (eY aF ts))(hp:∀l∈eY aF ts,∀c∈l,CJ c)(D:∀t∈ts,inB r w t):∀q∈jU aF ts,∀c∈q.2.2.2,rD c:=λq F=>by
 let⟨a,ha,rfl⟩:=be.mp (kR.mp F).1;let hi:a.1<r/\a.2.1<w:=by
  rcases bv.mp ha with z|z
  .let⟨u,j,rfl⟩:=be.mp z;have:=D u (de j);show⟨this.1,this.2.1⟩
  .let⟨u,j,rfl⟩:=be.mp z;have:=D u j;show⟨this.1,this.2.1⟩
 show afT hb hp hi.1 hi.2
def V_ {r w:Nat}{aF:AB}{ts:List bZ}(hb:Blk r w (eY aF ts))(r9:r<=9)(w9:w<=9)(D:∀t∈ts,inB r w t):∀q∈jU aF ts,q.2.2.2.length<=20:=λq F=>by
 let⟨a,ha,rfl⟩:=be.mp (kR.mp F).1;let hi:a.1<r:=by
  rcases bv.mp ha with z|z
  .let⟨u,j,rfl⟩:=be.mp z;show(D u (de j)).1
  .let⟨u,j,rfl⟩:=be.mp z;show(D u j).1
 show Ih hb r9 w9 hi
def dQ (q:lO):Dt:=.tup [.int q.1,.int q.2.1,.int q.2.2.1,.str q.2.2.2]
theorem dY.ofQ {H:Hp}:∀{bs:List Addr} {j:List lO},QL H bs j->(∀q∈j,∀c∈q.2.2.2,c<128)->dY K H 1 (j.map dQ) (bs.map V.ref)
 | [],[],_,_=>.nil
 | [],_::_,h,_=>by have:=h.len;simp at this
 | _::_,[],h,_=>by have:=h.len;simp at this
 | a::bs,q::j,h,k=>.cons (.tup (aU.of (h.at_ 0 a q rL rL)) (.cons (.int _) (.cons (.int _) (.cons (.int _) (.cons (.str _ (k q cv)) .nil))))) (dY.ofQ ⟨by have:=h.len;simpa using this,λi a x h1 h2=>h.at_ (i+1) a x h1 h2⟩ λF D=>k F (bz _ D))
def S_ (q:lO):List Nat:=q.2.2.2.map PyProof.Rows.lo1
def Im (ws:AB)(q:lO):Bool:=!decide (S_ q∈ws)
noncomputable def Hh (aF:AB)(ws:AB)(ts:List bZ):Option (List Nat):=if jU aF ts=[] then some ([(pJ ts).2.2].map PyProof.Rows.lo1) else ((jU aF ts).find? (Im ws)).map S_
def O_ (C CB j:Addr):Sp:=λvs H Q E=>∃(b k d t:Addr) (ws:AB) (as:List Addr) (ts:List bZ) (r w:Nat) (aF aO:AB) (bi bj:Nat),vs=[.ref b,.ref k,.ref t]/\cX C H b r w aF aO bi bj/\iJ CB H k d ws/\H t=some (.tup (as.map V.ref))/\fQ H as ts/\(∀t∈ts,inB r w t)/\0<ts.length/\ts.length<=7/\Gj ts/\
 (∀l,Hh aF ws ts=some l->∀(dx:Addr) (H':Hp),aD H H'->H' dx=some (.ext (XD dx [("word",.str (S l))]))->E (.ref j) (some dx) H')/\(Hh aF ws ts=none->∀H',aD H H'->Q .non H')
def iJ.mv {C:Addr}{H H':Hp}{p d:Addr}{ws:AB}(B:iJ C H p d ws)(s:aD H H'):iJ C H' p d ws:=⟨let ⟨dx,e⟩:=B.ob;⟨dx,s _ _ e⟩,s _ _ B.dc,B.nd,B.az⟩
def KD {aF:AB}{ts:List bZ}(h:ts.length<=7):(jU aF ts).length<=100:=by calc bP (List.length_filter_le _ _) ?_;rw[aa];unfold Bm;rw[aE,aa,aa,am];lia
open Classical in
def MP {C CB CW f0 f1:Addr}{eV eE:FuncData}(D:aP K mg "check_words" qQ ["board","book","laying"])(Ec:uo K CB)(Z1:Meth K CB "has" f1)(Z2:cA P w K mg base dJ 1 f1 eE ["self","text"] (aeR CB))(Z4:bR K eE ["self","text"] [])(T:qw K mg "NoWord" CW f0 ["word"])(Tc:cA P w K mg base dJ 1 f0 eV ["self","word"] (JW CW "word"))(Bp:bR K eV ["self","word"] [])(Io:cg P w K mg base "formed" 10 ["board","laying"] (Ii C))(Wa:cg P w K mg base "letter_of" 1 ["sign"] Ku):DefX P w K mg base "check_words" 12 ["board","book","laying"] (O_ C CB CW):=by
 refine D.Az jE (λvs H Q E h=>?_) (λf bN A outer s H vs Q E hr h=>?_)
 .let⟨b,k,d,t,ws,as,ts,r,w,aF,aO,bi,bj,rfl,_⟩:=h;rfl
 .let⟨b,k,d,t,ws,as,ts,r,w,aF,aO,bi,bj,rfl,BA,BK,ht,hL,fB,h0,h7,hl1,qE,q⟩:=h;let Td:=T.M;let Pa:=T.vg;let hb':=uf BA.ok.br fB;let hp':=Ie BA.ok.br fB BA.ok.cr;let hsg:=adD hb' hp' fB;let h20:=V_ hb' BA.ok.r9 BA.ok.w9 fB;let hwl:=KD (aF:=aF) h7;let hlt:∀q∈jU aF ts,∀c∈q.2.2.2,c<128:=λq hq c hc=>(hsg q hq c hc).lt;calc(aj _ (aB (aV (i:=3) jE.nd rL (Or.inl rL) (bI Io hr.mono rL (ak aH (ak bF aq)))) (aB (cJ (b_ (zV hr.units) bT (cZ aq) (bM _)) (aG (vf rB rL Td Tc hr.mono qr Pa Bp (ak (bI Wa hr.mono rL (ak (bh bD (bh bD bF au (λ_ _=>rfl)) au (λ_ _=>rfl)) aq)) aq))) bO) (aG (fX km rL (iI bT) (qC rL (cD (bJ (i:=4) jE.nd rL (Or.inl rL)) (cD (bJ (i:=5) jE.nd rL (Or.inl rL)) (cD (bJ (i:=6) jE.nd rL (Or.inl rL)) (cD (bJ (i:=7) jE.nd rL (Or.inl rL)) oO))))) (aB (aV (i:=8) jE.nd rL (Or.inl rL) (wV bp ml mm Rx gQ)) (aG (cJ (d7 (dR (nH bA Ec.cl Z1 Z2 hr.mono Z4 .nil eG (ak jZ aq)))) (aG (vf rB rL Td Tc hr.mono qr Pa Bp (ak jZ aq))) bO))))))) ?_);calc(aj _ rL (aj _ rL (JZ b t as ts r w aF aO bi bj rL BA ht hL fB h0 h7 hl1 (λT1 b1 H1 s1 hT1 hQ1=>?_))));generalize hW:jU aF ts=W at hsg h20 hwl hlt hQ1;calc(bf _ rL (zsz 0) (λZ hZ=>?_));let sZ:aD H1 (upd H1 Z (HO.tup [])):=aD.upd hZ;let eZ:upd H1 Z (HO.tup []) Z=some (.tup []):=aA;let O:=sZ _ _ hT1;let Y:=hQ1.mv sZ;let fG:=s1.trans sZ;generalize upd H1 Z (HO.tup [])=H2 at sZ eZ O Y fG ⊢;calc(cY 2 (.tup (W.map dQ)) (.tup []) qo (.tup (aU.of O) (dY.ofQ Y hlt)) (.tup (aU.of eZ) .nil) (aj _ rL ?_));let Sh:=Y.len;cases I:W with
  | nil=>simp only[pk,decide_true];let⟨g0,e0⟩:=jV (hL.mv fG) h0;let hh:pJ ts=ts[0]:=xK h0;let hs0:=(fB _ (aS h0)).2.2;calc cG (aj _ rL (bw t _ _ (.ref as[0]) rL rL (aU.of (fG _ _ ht)) (aQ (j:=0) (by simp[g0])) (bw (as[0]) _ _ _ rL rL (aU.of e0) (aQ (j:=2) rL) (h_ (ts[0].2.2) rL hs0.lt (zsz 1) (λa na=>(aJ a _ rL aA (λdx ne nd=>⟨rL,aj (some dx) aA ?_⟩)))))));let⟨k1,k2⟩:=drop_new (q:=.ext (jo a (.ref CW) (some dx))) (p:=.ext (XD dx [("word",.str (S ([ts[0].2.2].map PyProof.Rows.lo1)))])) na ne nd;calc qE _ ?_ dx _ (fG.trans k1) k2;unfold Hh;rw[if_pos (hW.trans I),hh]
  | cons q0 Wr=>
   let hne:¬(Dt.tup (W.map dQ)=Dt.tup []):=λz=>by rw[I]at z;injection z with z;cases z
   let hmw:Hh aF ws ts=(W.find? (Im ws)).map S_:=by unfold Hh;rw[if_neg (by rw[hW,I];simp),hW]
   rw[<-I];rw[ag hne];refine bW (aj _ rL (bf T1 rL ⟨_,aU.of O⟩ (FQ (K:=K) (a:=T1) (xs:=b1.map V.ref) (λn σ H'=>∃v4 v5 v6 v7 v8:Option V,σ=[some (.ref b),some (.ref k),some (.ref t),some (.ref T1),v4,v5,v6,v7,v8]/\aD H2 H'/\∀x∈W.take n,Im ws x=false)
    ⟨none,none,none,none,none,rL,aD.refl _,λx hx=>by simp at hx⟩ (λn σ H' _ h=>by let⟨_,_,_,_,_,_,sm,_⟩:=h;show aU.of (sm _ _ O)) ?_ ?_)))
   .intro n x σ H' hx z;let⟨v4,v5,v6,v7,v8,rfl,sm,F⟩:=z;let⟨hn,hx⟩:=rfg hx;let J:n<W.length:=qi;subst hx;let en:=(Y.mv sm).at_ n _ _ (ac hn) (ac J);let hm:=aS J;let ak9:=h20 _ hm;calc(aX (b1[n]) _ rL (aU.of en) rL (dN _ _ rL (dN _ _ rL (dN _ _ rL (aJ _ _ rL rL ?_)))));calc(bf _ rL rL (pR (W[n].2.2.2) rL rL qi (hlt _ hm) ?_));let BK':=BK.mv (fG.trans sm);let⟨dk,ek⟩:=BK'.ob;calc(aj _ rL (cY k dk _ rL ek rL (aj _ rL ⟨k,d,ws,_,rL,BK',aj _ rL ?_⟩)));cases G:Im ws W[n] with
    | true=>rw[show (!decide (W[n].2.2.2.map PyProof.Rows.lo1∈ws))=true from G];calc cG (bf _ rL (zsz 1) (λa na=>(aJ a _ rL aA (λdx ne nd=>⟨rL,aj (some dx) aA ?_⟩))));let⟨k1,k2⟩:=drop_new (q:=.ext (jo a (.ref CW) (some dx))) (p:=.ext (XD dx [("word",.str (S (S_ W[n])))])) na ne nd;calc qE _ ?_ dx _ ((fG.trans sm).trans k1) k2;rw[hmw,Xn J F G];rfl
    | false=>
     rw[show (!decide (W[n].2.2.2.map PyProof.Rows.lo1∈ws))=false from G];calc bW ⟨_,_,_,_,_,rL,sm,λx hx=>?_⟩;rw[c_,ac J]at hx;rcases bv.mp hx with z|z;.show F x z
     .rw[bc.mp z];show G
   .intro σ H' z;let⟨v4,v5,v6,v7,v8,rfl,sm,F⟩:=z;rw[aa,Sh,cp]at F;show q (by rw[hmw,Xo F];rfl) H' (fG.trans sm)
inductive Vd
 | ok|CP (i j:Nat)|CQ|gap (i j:Nat)|xM|CV (t:Nat)|nw (l:List Nat)
inductive tR (aF:AB) (r w bi bj:Nat) (ws:AB) (bU:List Nat) (ts:List bZ):Vd->Prop
 | CP {u:bZ} (h:Bo aF ts=some u):tR aF r w bi bj ws bU ts (.CP u.1 u.2.1)
 | CQ (h1:Bo aF ts=none) (h:(uh ts||um ts)=false):tR aF r w bi bj ws bU ts .CQ
 | gap {i j:Nat} (h1:Bo aF ts=none) (h2:(uh ts||um ts)=true) (h:aeP (eY aF ts) (pJ ts).1 (nC ts).1 (pJ ts).2.1 (nC ts).2.1 i j):tR aF r w bi bj ws bU ts (.gap i j)
 | xM (h1:Bo aF ts=none) (h2:(uh ts||um ts)=true) (h3:Kv (eY aF ts) (pJ ts).1 (nC ts).1 (pJ ts).2.1 (nC ts).2.1) (h:CN aF r w bi bj ts=false):tR aF r w bi bj ws bU ts .xM
 | CV {t:Nat} (h1:Bo aF ts=none) (h2:(uh ts||um ts)=true) (h3:Kv (eY aF ts) (pJ ts).1 (nC ts).1 (pJ ts).2.1 (nC ts).2.1) (h4:CN aF r w bi bj ts=true) (h:Ac (bU.map λc=>[c]) (ts.map (·.2.2))=.inl t):tR aF r w bi bj ws bU ts (.CV t)
 | nw {l:List Nat} (h1:Bo aF ts=none) (h2:(uh ts||um ts)=true) (h3:Kv (eY aF ts) (pJ ts).1 (nC ts).1 (pJ ts).2.1 (nC ts).2.1) (h4:CN aF r w bi bj ts=true) (h5:∃left,Ac (bU.map λc=>[c]) (ts.map (·.2.2))=.inr left) (h:Hh aF ws ts=some l):tR aF r w bi bj ws bU ts (.nw l)
 | ok (h1:Bo aF ts=none) (h2:(uh ts||um ts)=true) (h3:Kv (eY aF ts) (pJ ts).1 (nC ts).1 (pJ ts).2.1 (nC ts).2.1) (h4:CN aF r w bi bj ts=true) (h5:∃left,Ac (bU.map λc=>[c]) (ts.map (·.2.2))=.inr left) (h:Hh aF ws ts=none):tR aF r w bi bj ws bU ts .ok
structure Tf where
 lay:Addr
 CP:Addr
 CQ:Addr
 gap:Addr
 xM:Addr
 CV:Addr
 nw:Addr
def VdX (c:Tf)(H:Hp)(cls:Value)(dd:Option Addr):Vd->Prop
 | .ok=>False
 | .CP i j=>cls=.ref c.CP/\∃dx,dd=some dx/\H dx=some (.ext (XD dx (Xm i j)))
 | .CQ=>cls=.ref c.CQ/\dd=none
 | .gap i j=>cls=.ref c.gap/\∃dx,dd=some dx/\H dx=some (.ext (XD dx (Xm i j)))
 | .xM=>cls=.ref c.xM/\dd=none
 | .CV t=>cls=.ref c.CV/\∃dx,dd=some dx/\H dx=some (.ext (XD dx [("tile",.str (S [t]))]))
 | .nw l=>cls=.ref c.nw/\∃dx,dd=some dx/\H dx=some (.ext (XD dx [("word",.str (S l))]))
def Xx {cs:List (Nat×Nat)}(h:j_ cs=true):∀n,(hn:n+1<cs.length)->cs[n].1*1000+cs[n].2<cs[n+1].1*1000+cs[n+1].2:=λn hn=>by
 unfold j_ at h;rw[fq]at h;have:=h (cs[n],cs[n+1]) (by
  calc bu (i:=n) ?_;rw[o6];show⟨ac qi,by rw[om,Nat.add_comm 1 n];show ac hn⟩)
 show eK this
theorem Tg {cs:List (Nat×Nat)}(h:j_ cs=true):∀k n,(hn:n+k+1<cs.length)->cs[n].1*1000+cs[n].2<cs[n+k+1].1*1000+cs[n+k+1].2
 | 0,n,hn=>Xx h n hn
 | k+1,n,hn=>Nat.lt_trans (Tg h k n qi) (Xx h (n+k+1) hn)
def M4 {ts:List bZ}{r w:Nat}(w9:w<=9)(J:∀t∈ts,inB r w t)(h0:0<ts.length)(G:j_ (ts.map oJ)=true)(hs:(uh ts||um ts)=true):Gj ts:=by
 let I:=xK h0;rw[qa]at hs;rcases hs with hs|hs
 .calc .inl ?_;unfold uh at hs;rw[fq]at hs;rw[iE];intro i j hi D _;rw[eK (hs _ (aS hi)),eK (hs _ (aS D))]
 .calc .inr ?_;unfold um at hs;rw[fq]at hs;rw[iE];intro i j hi D F;let e1:=eK (hs _ (aS hi));let e2:=eK (hs _ (aS D));have:=Tg G (j-i-1) i (by rw[aa];lia);simp only[show i+(j-i-1)+1=j by lia,List.getElem_map]at this;let this:ts[i].1*1000+ts[i].2.1<ts[j].1*1000+ts[j].2.1:=this;lia
def abK {c:Nat}(h:rD c):sgN c:=by unfold rD DW DR G7 at h;simp at h;show h
def M5 (K : W.Frag)(C CB : Addr)(c : Tf) : Sp := λvs H Q E => ∃(b k d : Addr) (ws : List (List Nat)) (bU : List Nat) (x : V) (r w : Nat) (aF aO : List (List Nat)) (bi bj : Nat), vs = [.ref b, .ref k, .str (S bU), x] /\ cX C H b r w aF aO bi bj /\ iJ CB H k d ws /\ bU.length <= 63 /\
  ((∃o, LyD K H x o /\ layB r w o = false /\ ∀H', aD H H' -> E (.ref c.lay) none H') \/
   (∃(t : Addr) (as : List Addr) (ts : List bZ), x = .ref t /\ H t = some (.tup (as.map V.ref)) /\ fQ H as ts /\ (∀t ∈ ts, inB r w t) /\ 0<ts.length /\ ts.length <= 7 /\ j_ (ts.map oJ) = true /\
     (∀v cls dd H', tR aF r w bi bj ws bU ts v -> VdX c H' cls dd v -> aD H H' -> E cls dd H') /\ (tR aF r w bi bj ws bU ts .ok -> ∀H', aD H H' -> Q .non H')))
def KH {C CB:Addr}{c:Tf}(D:aP K mg "check_laying" pW ["board","book","rack","laying"])(Wb:mg "NoLaying"=some (.ref c.lay))(Z5:W.excIn K c.lay lu "ValueError.__new__"=true)(Wc:cg P w K mg base "is_laying" 4 ["board","thing"] (abA K C))(Ti:DefX P w K mg base "check_free" 5 ["board","laying"] (SN C c.CP))(Ip:DefX P w K mg base "check_straight" 3 ["laying"] (Xq c.CQ))(Tj:DefX P w K mg base "check_gaps" 10 ["board","laying"] (SQ C c.gap))(M6:DefX P w K mg base "check_joined" 7 ["board","laying"] (SX C c.xM))(vm:DefX P w K mg base "left_of" 3 ["rack","signs"] (Kz c.CV))(Qq:DefX P w K mg base "check_words" 12 ["board","book","laying"] (O_ C CB c.nw)):DefX P w K mg base "check_laying" 14 ["board","book","rack","laying"] (M5 K C CB c):=by
 refine D.Az J8 (λvs H Q E h=>?_) (λf bN A outer s H vs Q E J h=>?_)
 .let⟨b,k,d,ws,bU,x,r,w,aF,aO,bi,bj,rfl,_⟩:=h;rfl
 .let⟨b,k,d,ws,bU,x,r,w,aF,aO,bi,bj,rfl,I,BK,h63,h⟩:=h;calc(aj _ (aB (cJ (d7 (dR (bI Wc J.mono rL (ak aH (ak bT aq))))) (aG (HY rB rL rL qr Wb Z5 (ak (bQ [110,111,32,108,97,121,105,110,103,32,102,111,114,32,116,104,105,115,32,98,111,97,114,100] qB) aq))) bO) (aB (dz (oU Ti J.mono rL wK.all (ak aH (ak bT aq)))) (aB (dz (oU Ip J.mono rL wK.all (ak bT aq))) (aB (dz (oU Tj J.mono rL wK.all (ak aH (ak bT aq)))) (aB (dz (oU M6 J.mono rL wK.all (ak aH (ak bT aq)))) (aB (dz (oU vm J.mono rL wK.all (ak bF (ak (gC bp dA dC qZ (bQ [] qB) (ak (mQ (ns:=["row","column","sign"]) rL (jY.of ["board","book","rack","laying"] [] qA) (iI bT) (λ_ _ _ _ _=>(pQ K rL (show (["row","column","sign","board","book","rack","laying"]:List Str).Nodup by decide +kernel) rL rL rL qr qr qr)) (λ_ _ _ _ _=>fu) (λ_ _ _ _ _=>bF)) aq)) aq)))) (aG (dz (oU Qq J.mono rL wK.all (ak aH (ak bA (ak bT aq)))))))))))) ?_);rcases h with⟨o,hD,hB,G⟩|⟨t,as,ts,rfl,ht,F,Z,h0,h7,G_,G,q⟩
  .calc(aj _ rL (aj _ rL ⟨b,x,o,r,w,aF,aO,bi,bj,rL,I,hD,λH1 s1=>(aj _ rL ?_)⟩));rw[hB];show cG ⟨zsz 1,G H1 s1⟩
  .let hal:=F.len;let hB:layB r w (some (ts.map mkT))=true:=by
    unfold layB;simp only;rw[Sw,aa,al (show 1<=ts.length/\ts.length<=7 by lia),show j_ (ts.map λt=>(t.1,t.2.1))=true from G_,List.all_map];have:ts.all (uU r w ∘ mkT)=true:=fq.mpr λt ht=>adu (Z t ht);rw[this];rfl
   calc(aj _ rL (aj _ rL ⟨b,.ref t,some (ts.map mkT),r,w,aF,aO,bi,bj,rL,I,.tup ht (Il.of_lay F) (by rw[aa];lia),λH1 s1=>(aj _ rL ?_)⟩));rw[hB];calc bW ⟨True.intro,aj _ rL (aj _ rL ⟨b,t,as,ts,r,w,aF,aO,bi,bj,rL,I.mv s1,s1 _ _ ht,F.mv s1,Z,λu hu dx H' s' hd=>G _ _ _ H' (.CP hu) ⟨rL,aj dx rL hd⟩ (s1.trans s'),λO H2 s2=>?_⟩)⟩;let fG:=s1.trans s2;calc⟨True.intro,aj _ rL (J5 t as ts rL (fG _ _ ht) (F.mv fG) h0 h7 (λe H' s'=>G _ _ _ H' (.CQ O e) ⟨rL,rL⟩ (fG.trans s')) (λv2 H3 s3=>?_))⟩;let fU:=fG.trans s3;calc⟨True.intro,aj _ rL (aj _ rL ⟨b,t,as,ts,r,w,aF,aO,bi,bj,rL,I.mv fU,fU _ _ ht,F.mv fU,Z,h0,λi j e dx H' s' hd=>G _ _ _ H' (.gap O v2 e) ⟨rL,aj dx rL hd⟩ (fU.trans s'),λv3 H4 s4=>?_⟩)⟩;let iz:=fU.trans s4;calc⟨True.intro,aj _ rL (aj _ rL ⟨b,t,as,ts,r,w,aF,aO,bi,bj,rL,I.mv iz,iz _ _ ht,F.mv iz,h7,λe H' s'=>G _ _ _ H' (.xM O v2 v3 e) ⟨rL,rL⟩ (iz.trans s'),λv4 H5 s5=>?_⟩)⟩;let vM:=iz.trans s5;let ht5:=vM _ _ ht;refine⟨True.intro,bf _ rL rL (aj _ rL (bf t rL ⟨_,aU.of ht5⟩ (λN hN=>lq (K:=K) (KT:=K) (a:=t) (f:=j6 [] 0) (tt:=mL) (xs:=as.map V.ref) (λn ys H6=>ys=Ts (ones ((ts.take n).map (·.2.2)))/\H6 N=some (.lst ys)/\aD H5 H6)
    (bV rL aA (aD.upd hN)) (λn ys H6 _ h=>aU.of (h.2.2 _ _ ht5)) ?_ ?_)))⟩
   .intro n x ys H6 hx z;let⟨rfl,tQ,rF⟩:=z;let⟨hn,hx⟩:=rfg hx;let hnt:n<ts.length:=qi;let⟨_,en⟩:=jV (F.mv (vM.trans rF)) hnt;calc vV hx.symm (aU.of en) ?_;calc(h_ _ rL tQ ?_ (iU.mk (by rw[aa];show hn) (bV ?_ aA (rF.dX hN))));.rw[aa,aa,aa,am];show aM qi
    .rw[take_snoc (ac hnt)];simp[Ts,ones]
   .intro ys H6 z;let⟨rfl,tQ,rF⟩:=z;rw[aa,hal,cp]at tQ;let xO:=vM.trans rF;calc(dG N (ones (ts.map (·.2.2))) rL rL (bH.of tQ) (by rw[nu,aa];lia) ?_);rw[nu];refine(Ba bU (ts.map (·.2.2)) rL h63 (by rw[aa];lia) (λc hc=>?_) (λtl e dx H' s' hd=>G _ _ _ H' (.CV O v2 v3 v4 e) ⟨rL,aj dx rL hd⟩ (xO.trans s')) (λleft v5 ws' H7 s7 _ _=>?_))
    .let⟨u,hu,rfl⟩:=be.mp hc;show(abK (Z u hu).2.2).lt
    let Y:=xO.trans s7;calc⟨True.intro,aj _ rL (aj _ rL (aj _ rL ⟨b,k,d,t,ws,as,ts,r,w,aF,aO,bi,bj,rL,I.mv Y,BK.mv Y,Y _ _ ht,F.mv Y,Z,h0,h7,M4 I.ok.w9 Z h0 G_ v2,λl e dx H' s' hd=>G _ _ _ H' (.nw O v2 v3 v4 ⟨left,v5⟩ e) ⟨rL,aj dx rL hd⟩ (Y.trans s'),λv6 H8 s8=>?_⟩))⟩;show q (.ok O v2 v3 v4 ⟨left,v5⟩ v6) H8 (Y.trans s8)
def WD (kvs:List (Key×V)):Prop:=∀j∈kvs,∃(c:Nat) (i:Int),j=(dD [c],V.int i)/\97<=c/\c<=122
def wf (kvs:List (Key×V))(c:Nat):Int:=match gJ kvs (dD [c]) with| some (.int i)=>i| _=>0
def abL {kvs:List (Key×V)}{k:Key}{v:V}(h:gJ kvs k=some v):(k,v)∈kvs:=by
 unfold gJ at h;cases e:kvs.find? (λj=>decide (j.1=k)) with
 | none=>rw[e]at h;cases h
 | some p=>
  rw[e]at h;let h:p.2=v:=bo h;let m:=List.mem_of_find?_eq_some e;let q:=List.find?_some e;let q:p.1=k:=by simpa using q
  rw[<-h,<-q];show m
def aia {kvs:List (Key×V)}(h:WD kvs)(c:Nat):(gJ kvs (dD [c])).getD (.int 0)=.int (wf kvs c):=by
 unfold wf;cases e:gJ kvs (dD [c]) with| none=>rfl| some v=>let⟨d,i,q,_⟩:=h _ (abL e);have:v=V.int i:=congrArg Prod.snd q;subst this;rfl
def aeS {kvs:List (Key×V)}(h:WD kvs){c:Nat}(j:¬(97<=c/\c<=122)):wf kvs c=0:=by
 unfold wf;cases e:gJ kvs (dD [c]) with
 | none=>rfl
 | some v=>
  let⟨d,i,q,h1,h2⟩:=h _ (abL e);have:dD [c]=dD [d]:=congrArg Prod.fst q;have:S [c]=S [d]:=ma this;have:[c]=[d]:=yg this;have:c=d:=by simpa using this
  lia
def Xy:Sp:=λvs H Q _=>∃(d:Addr) (kvs:List (Key×V)) (c:Nat),vs=[.ref d,.str (S [c])]/\Rd H d (.dK kvs)/\WD kvs/\Q (.int (wf kvs c)) H
def Wd (D:aP K mg "worth_of" wB ["worths","sign"]):cg P w K mg base "worth_of" 1 ["worths","sign"] Xy:=by
 calc D.dM VL (λf bN A outer s H vs Q E G h=>?_);let⟨d,kvs,c,rfl,hd,j,q⟩:=h;let F:=QD G;calc(aj _ (aG (bC (n_ (Ax oN oN (bQ [97] qB) bA (bQ [122] qB)) (adi F aH bA au ⟨rL,rL,rL,rL⟩) au))) ?_);calc(aj _ rL (aJ [97] [c] rL rL (aj (decide (97<=c)) (by rw[Ml]) ?_)));by_cases c1:97<=c
 .rw[al c1];calc cG (aJ [c] [122] rL rL (aj _ rL ?_));rw[Ml];by_cases c2:c<=122
  .rw[al c2];calc cG (aj _ rL (bf d rL (.inl ⟨_,hd⟩) (aj _ rL (aj _ (za.rd (k:=dD [c]) hd) ?_))));rw[aia j];show q
  .rw[ag c2];calc bW ?_;let e:=aeS j (c:=c) qi;rw[e]at q;show q
 .rw[ag c1];calc bW (aj _ rL (bW ?_));let e:=aeS j (c:=c) qi;rw[e]at q;show q
def Tn:Sp:=λvs H Q _=>∃(a:Addr) (q:lO) (n:Nat),vs=[.ref a,.int n]/\abu H a q/\q.2.2.1<=1/\
 ∀(t:Addr) (H':Hp),aD H H'->H' t=some (.tup [.int ((q.1+n*q.2.2.1:Nat):Int),.int ((q.2.1+n*(1-q.2.2.1):Nat):Int)])->Q (.ref t) H'
def Z6 (D:aP K mg "cell_in" yx ["word","place"]):cg P w K mg base "cell_in" 1 ["word","place"] Tn:=by
 calc D.dM Zw (λf bN A outer s H vs Q E J h=>?_);obtain⟨a,⟨i,j,wy,l⟩,n,rfl,ha,I,q⟩:=h;let F:=aU.of (K:=K) ha;calc(aj _ (aG (bC (n_ (b_ jl (bh bD aH au (λ_ _=>rfl)) au (bM _)) (cZ (ak (bh bD aH au (λ_ _=>rfl)) (ak (aL cM (bh bD aH au (λ_ _=>rfl)) bA) aq))) (cZ (ak (aL cM (bh bD aH au (λ_ _=>rfl)) bA) (ak (bh bD aH au (λ_ _=>rfl)) aq)))))) ?_);calc(aj _ rL (bw a _ _ _ rL rL F (aQ (j:=2) rL) ?_));by_cases z:wy=0
 .subst z;calc⟨rL,aj _ rL (cG (aj _ rL (bw a _ _ _ rL rL F (aQ (j:=0) rL) (aj _ rL (bw a _ _ _ rL rL F (aQ (j:=1) rL) (aj _ rL (aX _ _ rL rL (zsz 2) (λt ht=>?_))))))))⟩;calc q t _ (aD.upd ht) ?_;rw[aA];simp
 .let G:wy=1:=by simp only at I;lia
  subst G;calc⟨rL,aj _ rL (bW (aj _ rL (bw a _ _ _ rL rL F (aQ (j:=0) rL) (aj _ rL (aJ _ _ rL rL (aj _ rL (gH a _ _ _ rL rL F (aQ (j:=1) rL) (zsz 2) (λt ht=>?_))))))))⟩;calc q t _ (aD.upd ht) ?_;rw[aA];simp
def Hi (c:Nat):Int:=if c=50 then 2 else if c=51 then 3 else if c=52 then 4 else 1
def Pb (c:Nat):Int:=if c=98 then 2 else if c=99 then 3 else if c=100 then 4 else 1
def Xz:List (Key×V):=[(dD [50],.int 2),(dD [51],.int 3),(dD [52],.int 4)]
def XC:List (Key×V):=[(dD [98],.int 2),(dD [99],.int 3),(dD [100],.int 4)]
def XF (a b:Nat):decide (dD [a]=dD [b])=decide (a=b):=by
 by_cases h:a=b;.subst h;simp
 .have:¬dD [a]=dD [b]:=λz=>h (by have:=yg (ma z);simpa using this)
  rw[ag h,ag this]
def aib (c:Nat):(gJ Xz (dD [c])).getD (.int 1)=.int (Hi c):=by
 unfold gJ Xz Hi;simp only[gr,XF];by_cases h1:c=50;.subst h1;rfl
 by_cases h2:c=51;.subst h2;rfl
 by_cases h3:c=52;.subst h3;rfl
 rw[ag (λz=>h1 z.symm),ag (λz=>h2 z.symm),ag (λz=>h3 z.symm),if_neg h1,if_neg h2,if_neg h3];rfl
def aic (c:Nat):(gJ XC (dD [c])).getD (.int 1)=.int (Pb c):=by
 unfold gJ XC Pb;simp only[gr,XF];by_cases h1:c=98;.subst h1;rfl
 by_cases h2:c=99;.subst h2;rfl
 by_cases h3:c=100;.subst h3;rfl
 rw[ag (λz=>h1 z.symm),ag (λz=>h2 z.symm),ag (λz=>h3 z.symm),if_neg h1,if_neg h2,if_neg h3];rfl
def sx (q:lO)(k:Nat):Nat:=q.1+k*q.2.2.1
def sy (q:lO)(k:Nat):Nat:=q.2.1+k*(1-q.2.2.1)
noncomputable def Hj (M:AB)(kvs:List (Key×V))(ts:List bZ)(q:lO)(k c:Nat)(p:Int×Int):Int×Int:=if (sx q k,sy q k)∈ts.map oJ then (p.1+wf kvs c*Hi (cell M (sx q k) (sy q k)),p.2*Pb (cell M (sx q k) (sy q k))) else (p.1+wf kvs c,p.2)
noncomputable def nW (M:AB)(kvs:List (Key×V))(ts:List bZ)(q:lO):Nat->Int×Int
 | 0=>(0,1)
 | n+1=>Hj M kvs ts q n (q.2.2.2.getD n 0) (nW M kvs ts q n)
noncomputable def Pg (M:AB)(kvs:List (Key×V))(ts:List bZ)(q:lO):Int:=(nW M kvs ts q q.2.2.2.length).1*(nW M kvs ts q q.2.2.2.length).2
def aie (c:Nat):1<=Hi c/\Hi c<=4:=by
 unfold Hi;split;.lia
 split;.lia
 split <;> lia
def aif (c:Nat):1<=Pb c/\Pb c<=4:=by
 unfold Pb;split;.lia
 split;.lia
 split <;> lia
theorem adE (M:AB)(kvs:List (Key×V))(ts:List bZ)(q:lO):∀n,1<=(nW M kvs ts q n).2/\(nW M kvs ts q n).2<=4^n
 | 0=>⟨qc _,qc _⟩
 | n+1=>by
  let⟨h1,h2⟩:=adE M kvs ts q n;show 1<=(Hj _ _ _ _ _ _ _).2/\(Hj _ _ _ _ _ _ _).2<=4^(n+1);unfold Hj;rw[Int.pow_succ];split
  .let⟨w1,w2⟩:=aif (cell M (sx q n) (sy q n));calc⟨?_,lI h2 w2 qi qi⟩;have:=lI h1 w1 qi qi;simpa using this
  .calc⟨h1,?_⟩;simp only;lia
def akv (M:AB)(kvs:List (Key×V))(ts:List bZ)(q:lO){n:Nat}(hn:n<=20):-(2^64)<(nW M kvs ts q n).2/\(nW M kvs ts q n).2<2^64:=by
 let⟨h1,h2⟩:=adE M kvs ts q n;let h3:(4:Int)^n<=4^20:=by
  have:=Nat.pow_le_pow_right (show 0<4 by decide) hn
  exact_mod_cast this
 let h4:(4:Int)^20=1099511627776:=by decide
 let h5:(2:Int)^64=18446744073709551616:=by decide
 lia
structure QIn (r w:Nat)(q:lO):Prop where
 way:q.2.2.1<=1
 len:q.2.2.2.length<=20
 inn:∀k,k<q.2.2.2.length->sx q k<r/\sy q k<w
def Tp (C:Addr):Sp:=λvs H Q _=>∃(b d t a:Addr) (kvs:List (Key×V)) (as:List Addr) (ts:List bZ) (q:lO) (r w:Nat) (aF aO:AB) (bi bj:Nat),vs=[.ref b,.ref d,.ref t,.ref a]/\cX C H b r w aF aO bi bj/\Rd H d (.dK kvs)/\WD kvs/\H t=some (.tup (as.map V.ref))/\fQ H as ts/\ts.length<=7/\abu H a q/\QIn r w q/\
 ∀H',aD H H'->Q (.int (Pg aO kvs ts q)) H'
open Classical in
def abM {C gl gw:Addr}(D:aP K mg "word_points" qR ["board","worths","laying","word"])(qH:mg "enumerate"=none)(cI:iy K C)(M7:mg "LETTER_MARKS"=some (.ref gl))(Tq:mg "WORD_MARKS"=some (.ref gw))(kl:KDict P w K gl Xz)(kw:KDict P w K gw XC)(sU:cg P w K mg base "cells_of" 1 ["laying"] yK)(abN:cg P w K mg base "cell_in" 1 ["word","place"] Tn)(Z7:cg P w K mg base "worth_of" 1 ["worths","sign"] Xy):cg P w K mg base "word_points" 2 ["board","worths","laying","word"] (Tp C):=by
 calc D.dM fK (λf bN A outer s H vs Q E hr h=>?_);let⟨b,d,t,a,kvs,as,ts,F,r,w',aF,aO,bi,bj,rfl,BA,hd,hW,ht,hL,h7,ha,hq,q⟩:=h;obtain⟨⟨dx,pr,pm,pb,hb,hpr,hpm,hpb⟩,B⟩:=BA;calc(aj _ (aB (aV (i:=4) fK.nd rL (Or.inl rL) (bI sU hr.mono rL (ak bF aq))) (aB (aV (i:=5) fK.nd rL (Or.inl rL) au) (aB (aV (i:=6) fK.nd rL (Or.inl rL) au) (aB (fX cK rL (ac8 qr qH (ak (bh bD bT au (λ_ _=>rfl)) aq)) (qC rL (cD (bJ (i:=7) fK.nd rL (Or.inl rL)) (cD (bJ (i:=8) fK.nd rL (Or.inl rL)) oO))) (aB (aV (i:=9) fK.nd rL (Or.inl rL) (bI abN hr.mono rL (ak bT (ak gQ aq)))) (aB (aV (i:=10) fK.nd rL (Or.inl rL) (bI Z7 hr.mono rL (ak bA (ak jZ aq)))) (aB (gK (cJ (b_ (W_ hr.units) j4 cO rL) (aB (aV (i:=11) fK.nd rL (Or.inl rL) (bh Aw (bh bD (bK aH rL) (bh bD j4 au (λ_ _=>rfl)) (λ_ _=>rfl)) (bh bD j4 au (λ_ _=>rfl)) (λ_ _=>rfl))) (aB (aV (i:=10) fK.nd rL (Or.inl rL) (aL jj iu (RT (zU (v:=.ref _) qr M7 rL) mz au ⟨rL,rL,rL,rL⟩))) (aG (aV (i:=6) fK.nd rL (Or.inl rL) (aL jj fO (RT (zU (v:=.ref _) qr Tq rL) mz au ⟨rL,rL,rL,rL⟩)))))) bO)) (aG (aV (i:=5) fK.nd rL (Or.inl rL) (aL cM eO iu))))))) (aG (bC (aL jj eO fO))))))) ?_);calc(aj _ rL (dW t as ts rL ht hL qi (λLc cs H1 s1 hLc hcs=>?_)));refine(aj _ rL (bw a _ _ _ rL rL (aU.of (s1 _ _ ha)) (aQ (j:=3) rL) (aj _ rL (abj (l:=F.2.2.2) (λn σ Z=>∃v7 v8 v9 Y I:Option V,σ=[some (.ref b),some (.ref d),some (.ref t),some (.ref a),some (.ref Lc),some (.int (nW aO kvs ts F n).1),some (.int (nW aO kvs ts F n).2),v7,v8,v9,Y,I]/\aD H1 Z)
  ⟨none,none,none,none,none,rL,aD.refl _⟩ ?_ ?_))))
 .intro n c σ Z T hc z hT;let⟨v7,v8,v9,Y,I,rfl,s2⟩:=z;let hn:n<F.2.2.2.length:=(ah.mp hc).1;let⟨hx,hy⟩:=hq.inn n hn;let kT:aD Z (upd Z T (HO.tup [.int n,.str (S [c])])):=aD.upd hT;calc(aX T _ rL (aU.of aA) rL (dN _ _ rL (aJ _ _ rL rL ?_)));let s3:=(s1.trans s2).trans kT;let CZ:=s2.trans kT;generalize upd Z T (HO.tup [.int n,.str (S [c])])=H3 at kT s3 CZ ⊢;calc(aj _ rL (aj _ rL (cY a F n rL (s3 _ _ ha) hq.way (λg H4 s4 hg=>?_))));let J:=s3.trans s4;calc(aj _ rL (aj _ rL (cY d kvs c rL (hd.mv J) hW ?_)));let gi:sx F n<aO.length:=by rw[B.bm.len];show hx
  let hwi:aO[sx F n].length=w':=B.bm.sO _ (aS _);let gj:sy F n<aO[sx F n].length:=by rw[hwi];show hy
  let O:aO.getD (sx F n) []=aO[sx F n]:=by rw[ax,ac gi];rfl
  let w9:=B.w9;let hgd:F.2.2.2.getD n 0=c:=by rw[ax,hc];rfl
  let G:nW aO kvs ts F (n+1)=Hj aO kvs ts F n c (nW aO kvs ts F n):=by rw[<-hgd];rfl
  let hg:H4 g=some (.tup [.int (sx F n:Nat),.int (sy F n:Nat)]):=hg;refine⟨λσ H'=>∃(wv:Int) (u11:Option V),σ=[some (.ref b),some (.ref d),some (.ref t),some (.ref a),some (.ref Lc),some (.int (nW aO kvs ts F n).1),some (.int (nW aO kvs ts F (n+1)).2),some (.int n),some (.str (S [c])),some (.ref g),some (.int wv),u11]/\aD H1 H'/\(nW aO kvs ts F n).1+wv=(nW aO kvs ts F (n+1)).1,?_,?_⟩
  .let Mz:=hcs.mv (CZ.trans s4);calc(aj _ rL (aj _ rL (cY 2 (.tup [.int (sx F n:Nat),.int (sy F n:Nat)]) ((ts.map oJ).map λc=>Dt.tup [.int c.1,.int c.2]) qo (.tup (aU.of hg) (.cons (.int _) (.cons (.int _) .nil))) (.lst (bH.of ((CZ.trans s4) _ _ hLc)) (dY.ofP Mz)) ?_)));simp only[fR,if_false];by_cases hm:(sx F n,sy F n)∈ts.map oJ
   .rw[al (Kw (c:=(sx F n,sy F n)).mpr hm)];calc(aj _ rL (cG (aj _ rL (cB b C dx _ _ rL (J _ _ hb) cI.cl cI.nm rL (aj _ rL (bw g _ _ _ rL rL (aU.of hg) (aQ (j:=0) rL) (bw pm _ _ (.str (S (aO.getD (sx F n) []))) rL rL (aU.of (J _ _ hpm)) (aQ ?_) (aj _ rL (bw g _ _ _ rL rL (aU.of hg) (aQ (j:=1) rL) ?_)))))))));.rw[O];show oH (ac gi)
    generalize hmm:cell aO (sx F n) (sy F n)=m;calc(dW _ _ m rL rL (av (aM (by rw[O,hwi];lia))) (aQ (by rw[<-hmm,O,cell_eq gi gj];show ac gj)) ?_);let⟨l1,l2⟩:=aie m;let⟨w1,w2⟩:=aif m;let e:nW aO kvs ts F (n+1)=((nW aO kvs ts F n).1+wf kvs c*Hi m,(nW aO kvs ts F n).2*Pb m):=by rw[G];unfold Hj;rw[if_pos hm,hmm]
    calc(aj _ rL (aJ gl Xz rL kl (aj _ rL (aj (dD [m]) rL (aX _ (Hi m) rL (aib m) (.inr ⟨qi,qi⟩) ?_)))));calc(aj _ rL (aJ gw XC rL kw (aj _ rL (aj (dD [m]) rL (aX _ (Pb m) rL (aic m) (.inr ⟨qi,qi⟩) ?_)))));calc(aJ (wf kvs c*Hi m) (some (.str (S [m]))) ?_ (CZ.trans s4) ?_);.rw[e];rfl
    .rw[e]
   .rw[ag (λz=>hm (Kw (c:=(sx F n,sy F n)).mp z))];let e:nW aO kvs ts F (n+1)=((nW aO kvs ts F n).1+wf kvs c,(nW aO kvs ts F n).2):=by rw[G];unfold Hj;rw[if_neg hm]
    calc(aj _ rL (bW (aJ (wf kvs c) I ?_ (CZ.trans s4) ?_)));.rw[e];rfl
    .rw[e]
  .intro σ H' z;let⟨wv,u11,rfl,s5,ew⟩:=z;calc(aj _ rL (aj _ rL (aJ _ _ rL rL ?_)));show⟨_,_,_,_,_,by rw[<-ew];rfl,s5⟩
 .intro σ Z z;let⟨v7,v8,v9,Y,I,rfl,s2⟩:=z;calc(aj _ rL (aj _ rL (aJ _ _ rL rL ?_)));show⟨.inr (akv _ _ _ _ hq.len),q _ (s1.trans s2)⟩
def XH {r w:Nat}{R:AB}(hb:Blk r w R)(r9:r<=9)(w9:w<=9){i j wy:Nat}(hi:i<r)(J:j<w)(G:wy<=1):QIn r w (ug R i j wy):=by
 calc⟨G,Ih hb r9 w9 hi,λk F=>?_⟩;let D:=wG hb hi (j:=j) (way:=(wy:Int));let F:k<(i_ ((lineOf R i j (wy:Int)).take (placeOf i j (wy:Int)))++jN ((lineOf R i j (wy:Int)).drop (placeOf i j (wy:Int)))).length:=F;rw[aE]at F;let a1:=rE ((lineOf R i j (wy:Int)).take (placeOf i j (wy:Int)));let a2:=yG ((lineOf R i j (wy:Int)).drop (placeOf i j (wy:Int)));rw[am]at a1;rw[ba]at a2;unfold sx sy;by_cases z:wy=0
 .subst z;let ep:placeOf i j ((0:Nat):Int)=j:=if_pos rfl;rw[ep]at F a1 a2;let D:(lineOf R i j ((0:Nat):Int)).length=w:=by rw[D];show if_pos rfl
  rw[D]at a1 a2;show i+k*0<r/\(j-(i_ ((lineOf R i j ((0:Nat):Int)).take j)).length)+k*(1-0)<w;lia
 .let I:wy=1:=qi;subst I;let ep:placeOf i j ((1:Nat):Int)=i:=if_neg qo;rw[ep]at F a1 a2;let D:(lineOf R i j ((1:Nat):Int)).length=r:=by rw[D];show if_neg qo
  rw[D]at a1 a2;show (i-(i_ ((lineOf R i j ((1:Nat):Int)).take i)).length)+k*1<r/\j+k*(1-1)<w;lia
def Tr {r w:Nat}{aF:AB}(hb:Blk r w aF)(r9:r<=9)(w9:w<=9){ts:List bZ}(D:∀t∈ts,inB r w t){q:lO}(h:q∈jU aF ts):QIn r w q:=by
 unfold jU at h;let⟨a,ha,rfl⟩:=be.mp (kR.mp h).1;let j:=uf hb D;let G:=abv ts;rcases bv.mp ha with z|z
 .let⟨u,F,rfl⟩:=be.mp z;let⟨h1,h2,_⟩:=D u (de F);show XH j r9 w9 h1 h2 G
 .let⟨u,F,rfl⟩:=be.mp z;let⟨h1,h2,_⟩:=D u F;show XH j r9 w9 h1 h2 (show 1-nU ts<=1 by lia)
def aii {kvs:List (Key×V)}{c0:Nat}{i:Int}(c:Nat):wf (putK kvs (dD [c0]) (.int i)) c=if c=c0 then i else wf kvs c:=by
 unfold wf;rw[acR];by_cases h:c=c0;.rw[if_pos h,if_pos (by rw[h])]
 .rw[if_neg h,if_neg (λz=>h (by have:=yg (ma z);simpa using this))]
def WD.put {kvs:List (Key×V)}(h:WD kvs){c:Nat}(i:Int)(h1:97<=c)(h2:c<=122):WD (putK kvs (dD [c]) (.int i)):=by
 unfold putK;intro j m;split at m
 .let⟨p,hp,rfl⟩:=be.mp m;split
  .rename_i e;show(aJ c i (by rw[e]) h1 h2)
  .show h p hp
 .rcases bv.mp m with m|m;.show h j m
  .rw[bc.mp m];show(aJ c i rL h1 h2)
def WB (b:Int)(kvs:List (Key×V)):Prop:=∀c,0<=wf kvs c/\wf kvs c<=b
def WB.put {b:Int}{kvs:List (Key×V)}(h:WB b kvs){c:Nat}{i:Int}(h1:0<=i)(h2:i<=b):WB b (putK kvs (dD [c]) (.int i)):=λe=>by
 rw[aii];split;.show⟨h1,h2⟩
 .show h e
def XJ:Sp:=λvs H Q _=>∃(pb t:Addr) (as:List Addr) (n m:Int),vs=[.ref pb,.ref t]/\H pb=some (.tup [.int n,.int m])/\H t=some (.tup (as.map V.ref))/\Q (.int (if n<=(as.length:Int) then m else 0)) H
def Wf (D:aP K mg "bonus_of" wC ["bonus","laying"])(G:mg "len"=none):cg P w K mg base "bonus_of" 1 ["bonus","laying"] XJ:=by
 calc D.dM VN (λf bN A outer s H vs Q E I h=>?_);let⟨pb,t,as,n,m,rfl,F,ht,q⟩:=h;calc(aj _ (aG (bC (n_ (b_ FW (aY bY qr G ay (ak bA aq)) (bh bD aH au (λ_ _=>rfl)) (bM _)) (bh bD aH au (λ_ _=>rfl)) au))) ?_);calc(aj _ rL (aJ t _ rL (.inr (aU.of ht)) (aj _ rL (bw pb _ _ _ rL rL (aU.of F) (aQ (j:=0) rL) (aJ _ _ rL rL (aj _ rL ?_))))));rw[aa];by_cases c:n<=(as.length:Int)
 .rw[if_pos c]at q;rw[al c];show cG (aj _ rL (bw pb _ _ _ rL rL (aU.of F) (aQ (j:=1) rL) q))
 .rw[if_neg c]at q;rw[ag c];show bW q
theorem aij {M:AB}{kvs:List (Key×V)}{ts:List bZ}{q:lO}(j:WB 1000000 kvs):∀n,0<=(nW M kvs ts q n).1/\(nW M kvs ts q n).1<=4000000*(n:Int)
 | 0=>⟨qc _,by show (0:Int)<=4000000*0;decide⟩
 | n+1=>by
  let⟨h1,h2⟩:=aij (M:=M) (ts:=ts) (q:=q) j n;let⟨b1,b2⟩:=j (q.2.2.2.getD n 0);show 0<=(Hj _ _ _ _ _ _ _).1/\(Hj _ _ _ _ _ _ _).1<=4000000*((n+1:Nat):Int)
  unfold Hj;split
  .let⟨w1,w2⟩:=aie (cell M (sx q n) (sy q n));let m1:=Int.mul_nonneg b1 (show 0<=Hi (cell M (sx q n) (sy q n)) by lia);let m2:=lI b2 w2 qi qo;simp only;lia
  .simp only;lia
def akx {M:AB}{kvs:List (Key×V)}{ts:List bZ}{q:lO}{r w:Nat}(F:WB 1000000 kvs)(j:QIn r w q)(r9:r<=9)(w9:w<=9):-1000000000000000<=Pg M kvs ts q/\Pg M kvs ts q<=1000000000000000:=by
 let hl:q.2.2.2.length<=9:=by
  rcases lv q.2.2.2.length with z|z;.lia
  let h:=j.inn (q.2.2.2.length-1) qi;let hw:=j.way;unfold sx sy at h;by_cases c:q.2.2.1=0;.rw[c]at h;lia
  .rw[show q.2.2.1=1 by lia]at h;lia
 unfold Pg;let⟨h1,h2⟩:=aij (M:=M) (ts:=ts) (q:=q) F q.2.2.2.length;let⟨h3,h4⟩:=adE M kvs ts q q.2.2.2.length;let h5:(4:Int)^q.2.2.2.length<=4^9:=by
  have:=Nat.pow_le_pow_right (show 0<4 by decide) hl
  exact_mod_cast this
 let D:(4:Int)^9=262144:=by decide
 rw[D]at h5;let h7:=Int.mul_nonneg h1 (show 0<=(nW M kvs ts q q.2.2.2.length).2 by lia);let G:=lI (show (nW M kvs ts q q.2.2.2.length).1<=36000000 by lia) (show (nW M kvs ts q q.2.2.2.length).2<=262144 by lia) qi qo;lia
noncomputable def Z8 (aF aO:AB)(kvs:List (Key×V))(ts:List bZ)(n m:Int):Int:=((jU aF ts).map (Pg aO kvs ts)).sum+if n<=(ts.length:Int) then m else 0
def Z9 (C:Addr):Sp:=λvs H Q _=>∃(b d pb t:Addr) (kvs:List (Key×V)) (n m:Int) (as:List Addr) (ts:List bZ) (r w:Nat) (aF aO:AB) (bi bj:Nat),vs=[.ref b,.ref d,.ref pb,.ref t]/\cX C H b r w aF aO bi bj/\Rd H d (.dK kvs)/\WD kvs/\WB 1000000 kvs/\H pb=some (.tup [.int n,.int m])/\H t=some (.tup (as.map V.ref))/\fQ H as ts/\(∀t∈ts,inB r w t)/\0<ts.length/\ts.length<=7/\Gj ts/\
 ∀H',aD H H'->Q (.int (Z8 aF aO kvs ts n m)) H'
def Tt {C:Addr}(D:aP K mg "points_of" uP ["board","worths","bonus","laying"])(KN:mg "sum"=none)(Io:cg P w K mg base "formed" 10 ["board","laying"] (Ii C))(Qs:cg P w K mg base "word_points" 2 ["board","worths","laying","word"] (Tp C))(Z_:cg P w K mg base "bonus_of" 1 ["bonus","laying"] XJ):cg P w K mg base "points_of" 11 ["board","worths","bonus","laying"] (Z9 C):=by
 calc D.dM DG (λf bN A outer s H vs Q E hr h=>?_);let⟨b,d,pb,t,kvs,n,m,as,ts,r,w,aF,aO,bi,bj,rfl,I,hd,hW,hB,Y,ht,Z,fB,h0,h7,hl1,q⟩:=h;calc(aj _ (aB (W5 (ix:=4) (ns:=["word"]) DG.nd rL (Or.inl rL) rL (jY.of ["board","worths","bonus","laying","counted"] [] qA) (iI (bI Io hr.mono rL (ak aH (ak bT aq)))) (λ_ _ _ _ _=>(LQ (show (["word","board","worths","bonus","laying","counted"]:List Str).Nodup by decide +kernel) rL qr)) (λ_ _ _ _ _=>fu) (λ_ _ _ _ _=>(bI Qs hr.mono rL (ak bA (ak bF (ak cO (ak aH aq))))))) (aG (bC (aL cM (aY (abk rL) qr KN PyProof.Rows.boot_sum (ak cO aq)) (bI Z_ hr.mono rL (ak bF (ak bT aq))))))) ?_);calc(aj _ rL (aj _ rL (JZ b t as ts r w aF aO bi bj rL I ht Z fB h0 h7 hl1 (λT bs H1 s1 hT hQ=>?_))));let hql:=KD (aF:=aF) h7;let Sh:bs.length=(jU aF ts).length:=hQ.len;refine(bf T rL ⟨_,aU.of hT⟩ (λM hM=>JM (K:=K) (a:=T) (f:=j6 [] 0) (tt:=mL) (xs:=bs.map V.ref) (λi ys G=>ys=((jU aF ts).take i).map (λq=>V.int (Pg aO kvs ts q))/\G M=some (.lst ys)/\aD H1 G)
  (bV rL aA (aD.upd hM)) (λi ys G _ h=>aU.of (h.2.2 _ _ hT)) ?_ ?_))
 .intro i x ys G hx z;let⟨rfl,J,s2⟩:=z;let⟨hi,hx⟩:=rfg hx;let hiw:i<(jU aF ts).length:=qi;subst hx;let⟨qq,eq,hat⟩:=(hQ.mv s2).get hi;let hB2:=I.1;let⟨_,F⟩:=id I;let hqi:=Tr F.br F.r9 F.w9 fB (bu eq);let j:=s1.trans s2;calc aeJ (aj _ rL (aj _ rL (aj _ rL (aj _ rL ⟨b,d,t,bs[i],kvs,as,ts,qq,r,w,aF,aO,bi,bj,rL,I.mv j,hd.mv j,hW,j _ _ ht,Z.mv j,h7,hat,hqi,λH3 s3=>?_⟩))));calc(bV (s3 _ _ J) (by rw[aa,am];show aM qi) (iU.mk (by rw[aa];show hi) (bV ?_ aA ((s2.trans s3).dX hM))));rw[c_,eq,bq];rfl
 .intro ys G z;let⟨rfl,J,s2⟩:=z;rw[aa,Sh,cp]at J;let⟨_,F⟩:=id I;let j:=s1.trans s2;let O:G M=some (.lst (((jU aF ts).map (Pg aO kvs ts)).map V.int)):=by rw[f_];show J
  refine(aj _ rL (dG M ((jU aF ts).map (Pg aO kvs ts)) rL (bH.of O) (by rw[aa];lia) (λx hx=>?_) (aj _ rL (aj _ rL (Ge pb t as n m rL (j _ _ Y) (j _ _ ht) (aJ _ _ rL rL ?_))))))
  .let⟨qq,hq,rfl⟩:=be.mp hx;show akx hB (Tr F.br F.r9 F.w9 fB hq) F.r9 F.w9
  .rw[Z.len];show q G j
def Tv {a b:AB}(p:a.Perm b)(h1:a.Pairwise (λx y=>decide (y<x)=false))(h2:b.Pairwise (λx y=>decide (y<x)=false)):a=b:=p.eq_of_pairwise (le:=λx y=>decide (y<x)=false) (λx y _ _ D j=>List.le_antisymm (List.not_lt.mp (ka D)) (List.not_lt.mp (ka j))) h1 h2
def M8 {xs:List V}{b:Nat}(h:b<=xs.length):fV xs none (some (b:Int))=xs.take b:=by unfold fV;rw[HT.jX,HT.tX,fF h];simp
def Ed {xs:List V}{a:Nat}(h:a<=xs.length):fV xs (some (a:Int)) none=xs.drop a:=by unfold fV;rw[HT.jX,HT.tX,fF h,ce (by rw[ba];lia)]
def dZ (l:List Nat):List Nat:=l.mergeSort (λa b=>decide (a<=b))
def kO (l:List Nat):(dZ l).Perm l:=List.mergeSort_perm _ _
def aik {a b:Nat}:(decide ([b]<[a])=false)↔a<=b:=by rw[decide_eq_false_iff_not,ij];simp
def Tw (l:List Nat):((dZ l).map λc=>[c]).Pairwise (λa b=>decide (b<a)=false):=by rw[List.pairwise_map];have:=List.pairwise_mergeSort (le:=λa b:Nat=>decide (a<=b)) (λa b c h1 h2=>by simp at *;lia) (λa b=>by simp;lia) l;show this.imp λh=>aik.mpr (eK h)
def xP {l:List Nat}{ws:AB}(pm:ws.Perm (l.map λc=>[c]))(pw:ws.Pairwise (λa b=>decide (b<a)=false)):ws.flatten=dZ l:=by let e:=Tv (pm.trans ((kO l).map λc=>[c]).symm) pw (Tw l);rw[e];show nu _
def abO {a b:List Nat}(h:a.Perm b):dZ a=dZ b:=by
 let e:=Tv (((kO a).trans (h.trans (kO b).symm)).map λc=>[c]) (Tw a) (Tw b);have:=congrArg List.flatten e
 rwa [nu,nu]at this
def Q7:Sp:=λvs H Q _=>∃l:List Nat,vs=[.str (S l)]/\l.length<64/\∀H',aD H H'->Q (.str (S (dZ l))) H'
def Wg (D:aP K mg "in_order" wD ["tiles"])(F:mg "sorted"=none):cg P w K mg base "in_order" 1 ["tiles"] Q7:=by
 calc D.dM VP (λf bN A outer s H vs Q E G h=>?_);let⟨l,rfl,j,q⟩:=h;calc(aj _ (aG (bC (gC bp dA dC qZ (bQ [] qB) (ak (aY (vB rL) qr F fS (ak aH aq)) aq)))) ?_);calc⟨rL,aj _ rL (bf l rL j (λp ls hp pm pw=>?_))⟩;calc(dG p (ls.map λc=>[c]) rL rL (bH.of aA) ?_ ?_);.rw[nu,pm.length_eq];lia
 .rw[xP (pm.map λc=>[c]) pw];show q _ (aD.upd hp)
def Tz:Sp:=λvs H Q _=>∃(a:Addr) (xs:List V) (i:Nat) (v:V),vs=[.ref a,.int i,v]/\H a=some (.tup xs)/\i<xs.length/\xs.length<=63/\∀p H',aD H H'->H' p=some (.tup (xs.set i v))->Q (.ref p) H'
def TF (D:aP K mg "exchanged" uR ["things","place","thing"]):cg P w K mg base "exchanged" 1 ["things","place","thing"] Tz:=by
 calc D.dM RZ (λf bN A outer s H vs Q E hr h=>?_);let⟨a,xs,i,v,rfl,ha,hi,Y,q⟩:=h;calc(aj _ (aG (bC (aL wL (aL wL (dH wM aH fJ (dI bA)) (cZ (ak bF aq))) (dH wM aH (dI (aL cM bA au)) fJ)))) ?_);calc(aj _ rL (aj _ rL (aj _ rL (aJ a xs rL ha (λp1 H1 s1 h1=>?_)))));calc(bf _ rL (zsz 1) (λp2 J=>?_));let e2:upd H1 p2 (HO.tup [v]) p2=some (.tup [v]):=aA;let s2:aD H1 (upd H1 p2 (HO.tup [v])):=aD.upd J;generalize upd H1 p2 (HO.tup [v])=H2 at e2 s2 ⊢;let j:(fV xs none (some (i:Int)))=xs.take i:=M8 qi;let G:(fV xs (some ((i:Int)+1)) none)=xs.drop (i+1):=Ed (a:=i+1) qi;rw[j]at h1;calc(nq p1 p2 _ _ rL rL (aU.of (s2 _ _ h1)) (aU.of e2) ?_ (λ_=>e2) (λz=>absurd z qk) (λp3 H3 I h3=>?_));.rw[am];show av (aM (by simp;lia))
 calc(aj _ rL (aj _ rL (aJ _ _ rL rL (aj _ rL (aJ a xs rL (I _ _ (s2 _ _ (s1 _ _ ha))) (λp4 H4 F h4=>?_))))));rw[G]at h4;calc(nq p3 p4 _ _ rL rL (aU.of (F _ _ h3)) (aU.of h4) ?_ (λz=>by simp at z) (λ_ _=>F _ _ h3) (λp5 O Z h5=>?_));.rw[aE,am,ba];show av (aM (by simp;lia))
 calc q p5 O ((((s1.trans s2).trans I).trans F).trans Z) ?_;rw[h5,iF,if_pos hi];simp
def aac {X:Cx}{S:St->Prop}:zW (Dr X.prog X.w) X (λ_ _ _=>False) S:=λ_ _ _ _ _ _ _ _ ⟨_,_,_,_,_,_,_,z⟩=>z.elim
noncomputable def ql:List Nat->List Nat->Option (List Nat)
 | l,[]=>some l
 | l,c::cs=>if iG c∈l then ql (l.erase (iG c)) cs else none
theorem uq (c:Nat):∀l:List Nat,(l.map λc=>[c]).erase [c]=(l.erase c).map λc=>[c]
 | []=>rfl
 | a::l=>by
  rw[cw,List.erase_cons,List.erase_cons];by_cases e:a=c;.subst e;simp
  .rw[if_neg (by simpa using e),if_neg (by simpa using e),uq c l];rfl
theorem TJ:∀{cs l j:List Nat},ql l cs=some j->Ac (l.map λc=>[c]) cs=.inr (j.map λc=>[c])
 | [],l,j,h=>by cases h;rfl
 | c::cs,l,j,h=>by
  unfold ql at h;split at h
  .rename_i hm;unfold Ac;rw[if_pos (be.mpr (aj _ hm rL)),uq];show TJ h
  .cases h
theorem Ad:∀{cs l j:List Nat},ql l cs=some j->j.length+cs.length=l.length
 | [],l,j,h=>by cases h;rfl
 | c::cs,l,j,h=>by
  unfold ql at h;split at h
  .rename_i hm;have:=Ad h;rw[List.length_erase_of_mem hm]at this;have:=List.length_pos_of_mem hm;simp only[eh];lia
  .cases h
theorem Ae:∀{cs l j:List Nat},ql l cs=some j->∀c∈j,c∈l
 | [],l,j,h=>by cases h;show λ_ h=>h
 | c::cs,l,j,h=>by
  unfold ql at h;split at h;.show λd hd=>List.mem_of_mem_erase (Ae h d hd)
  .cases h
def TQ:Sp:=λvs H Q _=>∃(bU l:List Nat) (t:Addr) (as:List Addr) (ts:List bZ),vs=[.str (S bU),.ref t]/\H t=some (.tup (as.map V.ref))/\fQ H as ts/\ts.length<=7/\bU.length<=63/\(∀t∈ts,sgN t.2.2)/\ql bU (ts.map (·.2.2))=some l/\∀H',aD H H'->Q (.str (S (dZ l))) H'
def M9 {C:Addr}(D:aP K mg "left_behind" qT ["rack","laying"])(vm:DefX P w K mg base "left_of" 3 ["rack","signs"] (Kz C)):cg P w K mg base "left_behind" 4 ["rack","laying"] TQ:=by
 calc D.dM Mj (λf bN A outer s H vs Q E hr h=>?_);let⟨bU,l,t,as,ts,rfl,ht,hL,h7,Y,O,KQ,q⟩:=h;let Z:=hL.len;calc(aj _ (aG (bC (oU vm hr.mono rL (aac (S:=λ_=>True)) (ak aH (ak (gC bp dA dC qZ (bQ [] qB) (ak (mQ (ns:=["row","column","sign"]) rL (jY.of ["rack","laying"] [] qA) (iI bA) (λ_ _ _ _ _=>(pQ K rL (show (["row","column","sign","rack","laying"]:List Str).Nodup by decide +kernel) rL rL rL qr qr qr)) (λ_ _ _ _ _=>fu) (λ_ _ _ _ _=>bF)) aq)) aq))))) ?_);refine⟨True.intro,bf _ rL rL (aj _ rL (bf t rL ⟨_,aU.of ht⟩ (λN hN=>lq (K:=K) (KT:=K) (a:=t) (f:=j6 [] 0) (tt:=mL) (xs:=as.map V.ref) (λn ys j=>ys=Ts (ones ((ts.take n).map (·.2.2)))/\j N=some (.lst ys)/\aD H j)
  (bV rL aA (aD.upd hN)) (λn ys j _ h=>aU.of (h.2.2 _ _ ht)) ?_ ?_)))⟩
 .intro n x ys j hx z;let⟨rfl,I,J⟩:=z;let⟨hn,hx⟩:=rfg hx;let F:n<ts.length:=qi;let⟨_,en⟩:=jV (hL.mv J) F;calc vV hx.symm (aU.of en) ?_;calc(h_ _ rL I ?_ (iU.mk (by rw[aa];show hn) (bV ?_ aA (J.dX hN))));.rw[aa,aa,aa,am];show aM qi
  .rw[show ts.take (n+1)=ts.take n++[ts[n]] by rw[c_,ac F];rfl];simp only[Ts,ones,bq];rfl
 .intro ys j z;let⟨rfl,I,J⟩:=z;rw[aa,Z,cp]at I;calc(dG N (ones (ts.map (·.2.2))) rL rL (bH.of I) (by rw[nu,aa];lia) ?_);rw[nu];let G:=TJ KQ;refine(Ba bU (ts.map (λt:bZ=>t.2.2)) rL Y (by rw[aa];lia) (λc hc=>?_) (λt e=>?_) (λleft e ws H7 s7 pm pw=>?_))
  .let⟨u,hu,rfl⟩:=be.mp hc;show(O u hu).lt
  .rw[G]at e;cases e
  rw[G]at e;cases e;rw[xP pm pw];show q H7 (J.trans s7)
def o8 (c:Nat):Prop:=isLet c\/c=63
def o8.lt {c:Nat}(h:o8 c):c<128:=by
 rcases h with h|h;.have:=h.2;lia
 .lia
def XM:Sp:=λvs H Q _=>∃l:List Nat,vs=[.str (S l)]/\l≠[]/\l.length<=63/\(∀c∈l,o8 c)/\∀H',aD H H'->Q (.bl true) H'
def TV (D:aP K mg "are_tiles" uQ ["thing"])(bL:mg "isinstance"=none)(wF:mg "str"=none)(fZ:mg "all"=none)(J:∃t,mg "BLANK"=some (.str (S [63]) t)):cg P w K mg base "are_tiles" 1 ["thing"] XM:=by
 calc D.dM DK (λf bN A outer s H vs Q E hr h=>?_);let⟨l,rfl,Y,h63,ht,q⟩:=h;calc(aj _ (aB (cJ (QW.qt (mq (d7 (dR (aY gM qr bL cf (ak aH (ak (lD (v:=.ty "str") qr wF mB rL) aq))))) (lG (b_ jQ aH (bQ [] qB) (bM _))))) (aG (bC iZ)) bO) (aG (bC (aY (kI rL) qr fZ jT (ak (j5 rL (jz.of DK.nd qA) (rP aH) (λ_ _ _ _ _=>fu) (λ_ _ _ _ _=>(QK (fH jQ aH (uJ qr J) (bM _)) (jA (mO oN oN (bQ [97] qB) aH (bQ [122] qB)))))) aq))))) ?_);calc(aj _ rL (gG _ _ _ true rL (.str _) qA (aj true rL (bW (aj _ rL (aJ l [] rL rL (aj _ rL ?_)))))));rw[ag Y];refine bW (aj _ rL (aj l rL (λL Z=>wW (λi ys j=>ys=(List.replicate i true).map V.bl/\j L=some (.lst ys)/\aD H j) (bV rL aA (aD.upd Z)) ?_ ?_)))
 .intro i c ys j hi z;let⟨rfl,F,I⟩:=z;let O:i<l.length:=(ah.mp hi).1;let G:∀b,b=true->j L=some (.lst ((List.replicate i true).map V.bl))/\((List.replicate i true).map V.bl).length<sizeLine/\iU l.length i ((List.replicate i true).map V.bl++[V.bl b]=(List.replicate (i+1) true).map V.bl/\upd j L (.lst ((List.replicate i true).map V.bl++[V.bl b])) L=some (.lst ((List.replicate i true).map V.bl++[V.bl b]))/\aD H (upd j L (.lst ((List.replicate i true).map V.bl++[V.bl b])))):=λb hb=>by
   subst hb;show(bV F (by rw[aa,cE];show aM qi) (iU.mk O (bV (xG i) aA (I.dX Z))))
  calc(aj _ rL (aJ [c] [63] rL rL (aj _ rL ?_)));rcases ht c (bu hi) with h|h
  .let⟨a1,a2⟩:=abD h;let h3:¬([c]=[63]):=λz=>by injection z with z;subst z;have:=h.1;lia
   rw[ag h3];show bW (aj _ rL (aJ [97] [c] rL rL (aj true (by rw[a1];rfl) (cG (aJ [c] [122] rL rL (G _ (by rw[a2];rfl)))))))
  .subst h;rw[al rfl];show cG (G _ rL)
 .intro ys j z;let⟨rfl,F,I⟩:=z;calc(aJ L (List.replicate l.length true) rL (bH.of F) ?_);rw[zZ];show q j I
inductive cP
 | lay (ts:List bZ)|swap (l:List Nat)|pass
def jy:List Nat:=[108,97,121]
def iV:List Nat:=[115,119,97,112]
def gb:List Nat:=[112,97,115,115]
def cP.name:cP->List Nat
 | .lay _=>jy
 | .swap _=>iV
 | .pass=>gb
def vo (H:Hp)(p:Addr):cP->Prop
 | .lay ts=>∃t as,H p=some (.tup [.str (S jy),.ref t])/\H t=some (.tup (as.map V.ref))/\fQ H as ts
 | .swap l=>H p=some (.tup [.str (S iV),.str (S l)])
 | .pass=>H p=some (.tup [.str (S gb)])
def abP:Sp:=λvs H Q _=>∃(p:Addr) (d:cP),vs=[.ref p]/\vo H p d/\(∀l,d=.swap l->l≠[]/\l.length<=63/\∀c∈l,o8 c)/\∀H',aD H H'->Q (.bl true) H'
open Classical in
def aad (D:aP K mg "is_deed" yC ["thing"])(J:mg "isinstance"=none)(O:mg "tuple"=none)(bG:mg "len"=none)(I:cg P w K mg base "are_tiles" 1 ["thing"] XM):cg P w K mg base "is_deed" 2 ["thing"] abP:=by
 calc D.dM Zx (λf bN A outer s H vs Q E G h=>?_);let⟨p,d,rfl,hd,hs,q⟩:=h;calc(aj _ (aB (cJ (d7 (dR (aY gM qr J cf (ak aH (ak (lD (v:=.ty "tuple") qr O dq rL) aq))))) (aG (bC iZ)) bO) (aB (cJ (b_ jl (aY bY qr bG ay (ak aH aq)) au (bM _)) (aG (bC (QK (fH jQ (bh bD aH au (λ_ _=>rfl)) (bQ [108,97,121] qB) (bM _)) (jA (jR (fH jQ (bh bD aH au (λ_ _=>rfl)) (bQ [115,119,97,112] qB) (bM _)) (jA (bI I G.mono rL (ak (bh bD aH au (λ_ _=>rfl)) aq)))))))) bO) (aG (bC (fH (zV G.units) aH (cZ (ak (bQ [112,97,115,115] qB) aq)) (bM _)))))) ?_);cases d with
 | lay ts=>let⟨t,as,h1,h2,h3⟩:=hd;calc(aj _ rL (gG _ _ _ true rL (.tup h1) qA (aj true rL (bW ?_))));calc(aj _ rL (aX p _ rL (.inr (aU.of h1)) rL (aj true qk (cG ?_))));calc(aj _ rL (bw p _ _ (.str (S jy)) rL rL (aU.of h1) (aQ (j:=0) rL) (aJ jy jy rL rL (aj true (by rw[al rfl]) (cG ?_)))));show q H (aD.refl _)
 | swap l=>have h1:H p=some (.tup [.str (S iV),.str (S l)]):=hd;let⟨g1,g2,Y⟩:=hs l rfl;calc(aj _ rL (gG _ _ _ true rL (.tup h1) qA (aj true rL (bW ?_))));calc(aj _ rL (aX p _ rL (.inr (aU.of h1)) rL (aj true qk (cG ?_))));calc(aj _ rL (bw p _ _ (.str (S iV)) rL rL (aU.of h1) (aQ (j:=0) rL) (aJ iV jy rL rL (aj false (by rw[ag qo]) (bW ?_)))));calc(aj _ rL (bw p _ _ (.str (S iV)) rL rL (aU.of h1) (aQ (j:=0) rL) (aJ iV iV rL rL (aj true (by rw[al rfl]) (cG ?_)))));show(aj _ rL (bw p _ _ (.str (S l)) rL rL (aU.of h1) (aQ (j:=1) rL) (pR l rL g1 g2 Y q)))
 | pass=>have h1:H p=some (.tup [.str (S gb)]):=hd;calc(aj _ rL (gG _ _ _ true rL (.tup h1) qA (aj true rL (bW ?_))));calc(aj _ rL (aX p _ rL (.inr (aU.of h1)) rL (aj false qk (bW ?_))));calc(bf _ rL (zsz 1) (λZ hZ=>?_));let F:aD H (upd H Z (HO.tup [.str (S gb)])):=aD.upd hZ;calc(cY 1 (.tup [.str gb]) (.tup [.str gb]) qo (.tup (aU.of (F _ _ h1)) (.cons (.str _ qo) .nil)) (.tup (aU.of aA) (.cons (.str _ qo) .nil)) ?_);rw[al rfl];show q _ F
structure Std where
 r:Nat
 w:Nat
 aF:List (List Nat)
 aO:List (List Nat)
 bi:Nat
 bj:Nat
 racks:List (List Nat)
 bag:List Nat
 jB:List Int
structure qI (K:W.Frag)(C:Addr):Prop where
 cl:Cls K C
 nb:jg K C "board"
 nr:jg K C "racks"
 ng:jg K C "bag"
 np:jg K C "points"
structure g_ (C CS:Addr)(H:Hp)(p:Addr)(z:Std):Prop where
 ex:∃dx b pr pp,H p=some (.ins CS dx [("board",.ref b),("racks",.ref pr),("bag",.str (S z.bag)),("points",.ref pp)])/\cX C H b z.r z.w z.aF z.aO z.bi z.bj/\H pr=some (.tup (Ts z.racks))/\H pp=some (.tup (z.jB.map V.int))
def g_.mv {C CS:Addr}{H H':Hp}{p:Addr}{z:Std}(A:g_ C CS H p z)(s:aD H H'):g_ C CS H' p z:=by let⟨dx,b,pr,pp,h1,h2,h3,h4⟩:=A.ex;show⟨dx,b,pr,pp,s _ _ h1,h2.mv s,s _ _ h3,s _ _ h4⟩
structure jc (z:Std):Prop where
 n1:1<=z.racks.length
 n4:z.racks.length<=4
 r7:∀l∈z.racks,l.length<=7/\∀c∈l,o8 c
 b6:z.bag.length<=60
 bt:∀c∈z.bag,o8 c
 pl:z.jB.length=z.racks.length
def Gk (CS:Addr):Sp:=λvs H Q _=>∃(p dx b pr pp:Addr) (l:List Nat),vs=[.ref p,.ref b,.ref pr,.str (S l),.ref pp]/\H p=some (.ins CS dx [])/\
 ∀H',(∀b o,H b=some o->b≠p->H' b=some o)->H' p=some (.ins CS dx [("board",.ref b),("racks",.ref pr),("bag",.str (S l)),("points",.ref pp)])->Q .non H'
def Qt {f C:Addr}{fd:FuncData}(F:fj K "__init__" "Stand.__init__" lM f fd)(T:qI K C):cA P w K mg base dJ 1 f fd ["self","board","racks","bag","points"] (Gk C):=by
 calc F.dM Qe (λbN A outer s H vs Q E D h=>?_);let⟨p,dx,b,pr,pp,l,rfl,hp,q⟩:=h;calc(aj _ (aB (kY aH bA rL) (aB (kY aH bF rL) (aB (kY aH bT rL) (aG (kY aH cO rL))))) ?_);calc(aj _ rL (aj _ rL (gH p C dx _ rL hp T.cl T.nb (by show 0<1000;decide) ?_)));calc(aj _ rL (aj _ rL (gH p C dx _ rL aA T.cl T.nr (by show 1<1000;decide) ?_)));calc(aj _ rL (aj _ rL (gH p C dx _ rL aA T.cl T.ng (by show 2<1000;decide) ?_)));calc(aj _ rL (aj _ rL (gH p C dx _ rL aA T.cl T.np (by show 3<1000;decide) ?_)));calc q _ (λb o e j=>?_) ?_;.rw[aZ j,aZ j,aZ j,aZ j];show e
 .show aA
def Ef {C CS x dx:Addr}{H j:Hp}{z:Std}{b pr pp:Addr}(hx:H x=none)(hd:H dx=none)(D:∀a o,upd (upd H dx (.own x)) x (.ins CS dx []) a=some o->a≠x->j a=some o)(e:j x=some (.ins CS dx [("board",.ref b),("racks",.ref pr),("bag",.str (S z.bag)),("points",.ref pp)]))(hb:cX C H b z.r z.w z.aF z.aO z.bi z.bj)(F:H pr=some (.tup (Ts z.racks)))(hp:H pp=some (.tup (z.jB.map V.int))):aD H j/\g_ C CS j x z:=by let s:aD H j:=λa o h=>D a o (by rw[aZ (aN h hx),aZ (aN h hd)];show h) (aN h hx);show⟨s,dx,b,pr,pp,e,hb.mv s,s _ _ F,s _ _ hp⟩
def oV {l:List Nat}(b:Nat):iM l none (some (b:Int))=l.take b:=by
 unfold iM;rw[HT.jX,HT.tX];simp only[ko,Nat.sub_zero];by_cases h:b<=l.length;.rw[fF h]
 .rw[kG qi,ce (ai _),ce qi]
def lB {l:List Nat}(b:Nat):iM l (some (b:Int)) none=l.drop b:=by
 unfold iM;rw[HT.jX,HT.tX];by_cases h:b<=l.length;.rw[fF h,ce (by rw[ba];lia)]
 .rw[kG qi,nI,List.take_zero,hJ qi]
def akz (n k:Nat):(if (0:Int) > (n:Int)-(k:Int) then (0:Int) else (n:Int)-k)=((n-k:Nat):Int):=by split <;> lia
noncomputable def M_ (z:Std)(turn size:Nat)(ts:List bZ)(l:List Nat)(pt:Int):Std:={z with aF:=eY z.aF ts,racks:=z.racks.set turn (dZ (dZ l++z.bag.take (size-(dZ l).length))),bag:=z.bag.drop (size-(dZ l).length),jB:=z.jB.set turn (z.jB.getD turn 0+pt)}
def jK (l:List Nat):(dZ l).length=l.length:=(kO l).length_eq
def KR (ls:AB)(i:Nat)(l:List Nat):(Ts ls).set i (.str (S l))=Ts (ls.set i l):=by simp only[Ts,nK]
def TX (ls:List Int)(i:Nat)(x:Int):(ls.map V.int).set i (.int x)=(ls.set i x).map V.int:=by rw[nK]
def abQ (C CS:Addr):Sp:=λvs H Q _=>∃(p t:Addr) (z:Std) (turn size:Nat) (pt:Int) (as:List Addr) (ts:List bZ) (l:List Nat),vs=[.ref p,.int turn,.int size,.ref t,.int pt]/\g_ C CS H p z/\jc z/\turn<z.racks.length/\size<=7/\H t=some (.tup (as.map V.ref))/\fQ H as ts/\(∀t∈ts,inB z.r z.w t)/\ts.length<=7/\(∀t∈ts,sgN t.2.2)/\ql (z.racks.getD turn []) (ts.map (·.2.2))=some l/\
 ∀j H',aD H H'->g_ C CS H' j (M_ z turn size ts l pt)->Q (.ref j) H'
def Ir {C CS f0 f1:Addr}{eV eE:FuncData}(D:aP K mg "behind_laying" oY ["stand","turn","size","laying","points"])(yM:mg "max"=none)(bG:mg "len"=none)(cI:iy K C)(T:qI K CS)(xQ:mg "Stand"=some (.ref CS))(Af:Mk K CS f0)(Ag:cA P w K mg base dJ 1 f0 eV ["self","board","racks","bag","points"] (Gk CS))(Ah:bR K eV ["self","board","racks","bag","points"] [])(lQ:Meth K C "laid" f1)(lR:cA P w K mg base dJ 8 f1 eE ["self","laying"] (DY C))(lU:bR K eE ["self","laying"] [])(Qu:cg P w K mg base "left_behind" 4 ["rack","laying"] TQ)(pX:cg P w K mg base "in_order" 1 ["tiles"] Q7)(uV:cg P w K mg base "exchanged" 1 ["things","place","thing"] Tz):cg P w K mg base "behind_laying" 10 ["stand","turn","size","laying","points"] (abQ C CS):=by
 calc D.dM jF (λf bN A outer s H vs Q E J h=>?_);let⟨p,t,z,turn,size,pt,as,ts,l,rfl,A0,Z,F,hsz,ht,hL,fB,h7,hsg,KQ,q⟩:=h;let⟨dx,b,pr,pp,hp,hb,hpr,O⟩:=A0.ex;let hg:z.racks.getD turn []=z.racks[turn]:=by rw[ax,ac F];rfl
 rw[hg]at KQ;let⟨k7,kt⟩:=Z.r7 _ (aS F);let hll:=Ad KQ;let hl7:(dZ l).length<=7:=by rw[jK];lia
 let hb6:=Z.b6;let n4:=Z.n4;let hpl:=Z.pl;calc(aj _ (aB (aV (i:=5) jF.nd rL (Or.inl rL) (bI Qu J.mono rL (ak (bh bD (bK aH rL) bA (λ_ _=>rfl)) (ak bT aq)))) (aB (aV (i:=6) jF.nd rL (Or.inl rL) (aY (N_ rL) qr yM PyProof.Rows.boot_max (ak (aL oM bF (aY dO qr bG ay (ak eO aq))) (ak au aq)))) (aB (aV (i:=7) jF.nd rL (Or.inl rL) (bI pX J.mono rL (ak (aL nG eO (dH qu (bK aH rL) fJ (dI fO))) aq))) (aB (aV (i:=8) jF.nd rL (Or.inl rL) (bI uV J.mono rL (ak (bK aH rL) (ak bA (ak gQ aq))))) (aB (aV (i:=9) jF.nd rL (Or.inl rL) (bI uV J.mono rL (ak (bK aH rL) (ak bA (ak (aL cM (bh bD (bK aH rL) bA (λ_ _=>rfl)) cO) aq))))) (aG (bC (pP Af Ag J.mono rL xQ Ah .nil eG (ak (nH (bK aH rL) cI.cl lQ lR J.mono lU .nil eG (ak bT aq)) (ak jZ (ak (dH qu (bK aH rL) (dI fO) fJ) (ak j4 aq)))))))))))) ?_);calc(aj _ rL (cB p CS dx _ _ rL hp T.cl T.nr rL (aj _ rL (bw pr _ _ (.str (S z.racks[turn])) rL rL (aU.of hpr) (aQ (j:=turn) (oH (ac F))) (aj _ rL ⟨z.racks[turn],l,t,as,ts,rL,ht,hL,h7,qi,hsg,KQ,λH1 s1=>?_⟩)))));calc(aj _ rL (aj _ rL (bf (dZ l) rL (av (aM qi)) (aJ _ _ rL rL (dN _ _ rL ?_)))));rw[akz];generalize hm:size-(dZ l).length=m;calc(aj _ rL (aj _ rL (cB p CS dx _ _ rL (s1 _ _ hp) T.cl T.ng rL (aj _ rL (aj _ rL (bf z.bag rL (av (aM qi)) (aX (dZ l) _ rL rL ?_ (bf (dZ l++z.bag.take m) ?_ ?_ (λH2 s2=>?_)))))))));.rw[oV,am];show av (aM qi)
 .rw[oV];rfl
 .rw[aE,am];lia
 let fG:=s1.trans s2;calc(aj _ rL (cB p CS dx _ _ rL (fG _ _ hp) T.cl T.nr rL (aj _ rL (aj _ rL (bw pr _ turn _ rL (fG _ _ hpr) (by rw[aa];show F) (by rw[aa];lia) (λEh H3 s3 Iu=>?_))))));let Y:=fG.trans s3;let G:turn<z.jB.length:=qi;let TY:z.jB.getD turn 0=z.jB[turn]:=by rw[ax,ac G];rfl
 calc(aj _ rL (cB p CS dx _ _ rL (Y _ _ hp) T.cl T.np rL (aj _ rL (aj _ rL (cB p CS dx _ _ rL (Y _ _ hp) T.cl T.np rL (aj _ rL (bw pp _ _ (.int z.jB[turn]) rL rL (aU.of (Y _ _ O)) (aQ (j:=turn) (by rw[ck,ac G];rfl)) (aj _ rL (aJ _ _ rL rL (bw pp _ turn _ rL (Y _ _ O) (by rw[aa];show G) (by rw[aa];lia) (λKY H4 s4 zp=>?_)))))))))));let I:=Y.trans s4;let⟨bx,_,_,_,hbx,_⟩:=(hb.mv I).ex;calc(aj _ rL (cB p CS dx _ _ rL (I _ _ hp) T.cl T.nb rL (cY b bx _ rL hbx rL (aj _ rL (Dw b t as ts z.r z.w z.aF z.aO z.bi z.bj rL (hb.mv I) (I _ _ ht) (hL.mv I) fB (λb' H5 s5 hb'=>?_))))));let vM:=I.trans s5;calc(aj _ rL (aj _ rL (cB p CS dx _ _ rL (vM _ _ hp) T.cl T.ng rL (aj _ rL (aj _ rL (bf z.bag rL (av (aM qi)) (aj _ rL (λx ex n1 n2 n3=>?_))))))));rw[KR]at Iu;rw[TX]at zp;calc⟨x,ex,b',Eh,KY,z.bag.drop m,by rw[lB];rfl,aA,λH6 k6 e6=>⟨rL,?_⟩⟩;let⟨s6,A6⟩:=Ef (z:=M_ z turn size ts l pt) n1 n2 k6 (by unfold M_;simp only;rw[hm];show e6) hb' (by unfold M_;simp only;rw[hm];show s5 _ _ (s4 _ _ Iu)) (by unfold M_;simp only;rw[TY];show s5 _ _ zp);show q x H6 (vM.trans s6) A6
theorem Ph:∀{cs ds l:List Nat},cs.map pA=ds.map pA->ql l cs=ql l ds
 | [],[],_,_=>rfl
 | [],_::_,_,h=>by simp at h
 | _::_,[],_,h=>by simp at h
 | c::cs,d::ds,l,h=>by
  rw[cw,cw]at h;injection h with h1 h2;unfold ql;rw[show iG c=iG d from h1];split;.show Ph h2
  .rfl
def ail {c d:Nat}(h:pA c=pA d)(hd:d<128):c<128:=by unfold pA at h;split at h <;> split at h <;> lia
theorem abR:∀{cs ds:List Nat},cs.map pA=ds.map pA->(∀d∈ds,d<128)->∀c∈cs,c<128
 | [],_,_,_,c,hc=>by cases hc
 | a::cs,[],h,_,_,_=>by simp at h
 | a::cs,d::ds,h,hd,c,hc=>by
  rw[cw,cw]at h;injection h with h1 h2;rcases bX.mp hc with e|e;.subst e;show ail h1 (hd d cv)
  .show abR h2 (λx hx=>hd x (bz _ hx)) c e
noncomputable def Q8 (z:Std)(turn:Nat)(l m:List Nat):Std:={z with racks:=z.racks.set turn (dZ (dZ m++z.bag.take l.length)),bag:=z.bag.drop l.length++dZ l}
def XQ (C CS:Addr):Sp:=λvs H Q _=>∃(p:Addr) (z:Std) (turn:Nat) (l m:List Nat),vs=[.ref p,.int turn,.str (S l)]/\g_ C CS H p z/\jc z/\turn<z.racks.length/\l.length<=7/\(∀c∈l,o8 c)/\ql (z.racks.getD turn []) l=some m/\l.length<=z.bag.length/\
 ∀j H',aD H H'->g_ C CS H' j (Q8 z turn l m)->Q (.ref j) H'
def Nb {C CS CL f0:Addr}{eV:FuncData}(D:aP K mg "behind_swap" qU ["stand","turn","tiles"])(bG:mg "len"=none)(afV:∃t,t≠0/\mg "BLANK"=some (.str (S [63]) t))(T:qI K CS)(xQ:mg "Stand"=some (.ref CS))(Af:Mk K CS f0)(Ag:cA P w K mg base dJ 1 f0 eV ["self","board","racks","bag","points"] (Gk CS))(Ah:bR K eV ["self","board","racks","bag","points"] [])(vm:DefX P w K mg base "left_of" 3 ["rack","signs"] (Kz CL))(pX:cg P w K mg base "in_order" 1 ["tiles"] Q7)(uV:cg P w K mg base "exchanged" 1 ["things","place","thing"] Tz):cg P w K mg base "behind_swap" 10 ["stand","turn","tiles"] (XQ C CS):=by
 calc D.dM nQ (λf bN A outer s H vs Q E J h=>?_);let⟨p,z,turn,l,m,rfl,A0,Z,F,hl7,hlt,KQ,Sh,q⟩:=h;let⟨dx,b,pr,pp,hp,hb,I,hpp⟩:=A0.ex;let hg:z.racks.getD turn []=z.racks[turn]:=by rw[ax,ac F];rfl
 rw[hg]at KQ;let⟨k7,kt⟩:=Z.r7 _ (aS F);let hll:=Ad KQ;let hl7':(dZ m).length<=7:=by rw[jK];lia
 let hb6:=Z.b6;let n4:=Z.n4;calc(aj _ (aB (aV (i:=3) nQ.nd rL (Or.inl rL) (oU vm J.mono rL (aac (S:=λ_=>True)) (ah2 2 (ah1 bD (afE aH rL) bA (λ_ _=>rfl)) afV rL (Or.inl rL) qr qB rL rL rL))) (aB (aV (i:=4) nQ.nd rL (Or.inl rL) (aY dO qr bG ay (ak bF aq))) (aB (cJ (b_ vQ (aY dO qr bG ay (ak (bK aH rL) aq)) cO (bM _)) q_ bO) (aB (aV (i:=5) nQ.nd rL (Or.inl rL) (bI pX J.mono rL (ak (aL nG bT (dH qu (bK aH rL) fJ (dI cO))) aq))) (aB (aV (i:=6) nQ.nd rL (Or.inl rL) (aL nG (dH qu (bK aH rL) (dI cO) fJ) (bI pX J.mono rL (ak bF aq)))) (aG (bC (pP Af Ag J.mono rL xQ Ah .nil eG (ak (bK aH rL) (ak (bI uV J.mono rL (ak (bK aH rL) (ak bA (ak eO aq)))) (ak fO (ak (bK aH rL) aq)))))))))))) ?_);calc⟨True.intro,aj _ rL (cB p CS dx _ _ rL hp T.cl T.nr rL (aj _ rL (bw pr _ _ (.str (S z.racks[turn])) rL rL (aU.of I) (aQ (j:=turn) (oH (ac F))) (bf l rL qi (λl' el=>?_)))))⟩;let dB:l'.length=l.length:=by have:=congrArg List.length el;simpa using this
 let G:=TJ (Ph el ▸ KQ:ql z.racks[turn] l'=some m);calc(Ba (z.racks[turn]) l' rL qi qi (abR el (λd hd=>(hlt d hd).lt)) (λt e=>?_) (λleft e ws H1 s1 pm pw=>?_));.rw[G]at e;cases e
 rw[G]at e;cases e;rw[xP pm pw];calc(aj _ rL (bf l rL (av (aM qi)) ?_));calc(aj _ rL (cB p CS dx _ _ rL (s1 _ _ hp) T.cl T.ng rL (bf z.bag rL (av (aM qi)) (aj _ rL (aJ _ _ rL rL (aj false (by simp;lia) (bW ?_)))))));calc(aj _ rL (aj _ rL (cB p CS dx _ _ rL (s1 _ _ hp) T.cl T.ng rL (aj _ rL (aj _ rL (bf z.bag rL (av (aM qi)) (aX (dZ m) _ rL rL ?_ (bf (dZ m++z.bag.take l.length) ?_ ?_ (λH2 s2=>?_)))))))));.rw[oV,am];show av (aM qi)
 .rw[oV];rfl
 .rw[aE,am];lia
 let fG:=s1.trans s2;calc(aj _ rL (cB p CS dx _ _ rL (fG _ _ hp) T.cl T.ng rL (aj _ rL (aj _ rL (bf z.bag rL (av (aM qi)) (aj _ rL (bf l rL qi (λH3 s3=>(aX _ (dZ l) rL rL ?_ ?_)))))))));.rw[lB,ba,jK];show av (aM qi)
 let O:=fG.trans s3;calc(aj _ rL (cB p CS dx _ _ rL (O _ _ hp) T.cl T.nb rL (aj _ rL (cB p CS dx _ _ rL (O _ _ hp) T.cl T.nr rL (aj _ rL (aj _ rL (bw pr _ turn _ rL (O _ _ I) (by rw[aa];show F) (by rw[aa];lia) (λEh H4 s4 Iu=>?_))))))));let Y:=O.trans s4;calc(aj _ rL (aj _ rL (cB p CS dx _ _ rL (Y _ _ hp) T.cl T.np rL (λx ex n1 n2 n3=>?_))));rw[KR]at Iu;calc⟨x,ex,b,Eh,pp,z.bag.drop l.length++dZ l,by rw[lB];rfl,aA,λH6 k6 e6=>⟨rL,?_⟩⟩;let⟨s6,A6⟩:=Ef (z:=Q8 z turn l m) n1 n2 k6 e6 (hb.mv Y) Iu (Y _ _ hpp);show q x H6 (Y.trans s6) A6
structure Gm where
 sts:List Std
 done:List (List Nat)
 ws:List (List Nat)
 kvs:List (Key×V)
 bn:Int
 bm:Int
 size:Nat
structure o9 (K:W.Frag)(C:Addr):Prop where
 cl:Cls K C
 nk:jg K C "book"
 nw:jg K C "worths"
 nn:jg K C "bonus"
 nz:jg K C "size"
 ns:jg K C "stands"
 nd:jg K C "done"
structure Ai (C CS:Addr)(H:Hp)(as:List Addr)(zs:List Std):Prop where
 len:as.length=zs.length
 at_:∀(i:Nat) (a:Addr) (z:Std),as[i]?=some a->zs[i]?=some z->g_ C CS H a z
def Ai.mv {C CS:Addr}{H H':Hp}{as:List Addr}{zs:List Std}(h:Ai C CS H as zs)(s:aD H H'):Ai C CS H' as zs:=⟨h.len,λi a z h1 h2=>(h.at_ i a z h1 h2).mv s⟩
def Ai.last {C CS:Addr}{H:Hp}{as:List Addr}{zs:List Std}{z:Std}(h:Ai C CS H as (zs++[z])):∃bs a,as=bs++[a]/\g_ C CS H a z:=by
 let hl:=h.len;rw[aE]at hl;let j:as≠[]:=λe=>by subst e;simp at hl
 calc(dN as.dropLast (as.getLast j) ((gV j).symm) (h.at_ zs.length _ z ?_ qk));rw[List.getLast_eq_getElem,ac (by simp at hl;lia)];congr 1;simp at hl;simp[hl]
structure fD (C CS CB CG:Addr)(H:Hp)(g ps pd:Addr)(G:Gm):Prop where
 ex:∃dx k kd d pb,H g=some (.ins CG dx [("book",.ref k),("worths",.ref d),("bonus",.ref pb),("size",.int G.size),("stands",.ref ps),("done",.ref pd)])/\iJ CB H k kd G.ws/\H d=some (.dK G.kvs)/\H pb=some (.tup [.int G.bn,.int G.bm])
 st:∃as,H ps=some (.lst (as.map V.ref))/\Ai C CS H as G.sts
 dn:H pd=some (.lst (Ts G.done))
def fD.mv {C CS CB CG:Addr}{H H':Hp}{g ps pd:Addr}{G:Gm}(A:fD C CS CB CG H g ps pd G)(s:aD H H'):fD C CS CB CG H' g ps pd G:=by obtain⟨⟨dx,k,kd,d,pb,h1,h2,h3,h4⟩,⟨as,h5,j⟩,h7⟩:=A;show⟨(Ge dx k kd d pb (s _ _ h1) (h2.mv s) (s _ _ h3) (s _ _ h4)),(aj as (s _ _ h5) (j.mv s)),s _ _ h7⟩
def jL {bs:List Addr}{a:Addr}:qz ((bs++[a]).map V.ref) (-1)=some (.ref a):=by rw[bq];show Hx _ _
def tE (C CS CB CG:Addr)(R:Hp->Std->VK->Prop):Sp:=λvs H Q _=>∃(g ps pd:Addr) (G:Gm) (zs:List Std) (z:Std),vs=[.ref g]/\fD C CS CB CG H g ps pd G/\G.sts=zs++[z]/\R H z Q
def abS (C:Addr)(H:Hp)(z:Std)(Q:VK):Prop:=∀b,cX C H b z.r z.w z.aF z.aO z.bi z.bj->Q (.ref b) H
def KZ (H:Hp)(z:Std)(Q:VK):Prop:=∀p,H p=some (.tup (Ts z.racks))->Q (.ref p) H
def adF (H:Hp)(z:Std)(Q:VK):Prop:=Q (.str (S z.bag)) H
def ain (H:Hp)(z:Std)(Q:VK):Prop:=∀p,H p=some (.tup (z.jB.map V.int))->Q (.ref p) H
def T3 {C CS CB CG f:Addr}{fd:FuncData}(F:fj K "board_now" "Game.board_now" jd f fd)(T:o9 K CG)(TS:qI K CS):cA P w K mg base dJ 1 f fd ["self"] (tE C CS CB CG (abS C)):=by calc F.dM Gz (λbN A outer s H vs Q E O h=>?_);let⟨g,ps,pd,G,zs,z,rfl,J,hz,q⟩:=h;obtain⟨⟨dx,k,kd,d,pb,h1,h2,h3,h4⟩,⟨as,h5,j⟩,h7⟩:=J;rw[hz]at j;let⟨bs,a,rfl,D⟩:=j.last;let⟨I,b,pr,pp,e1,e2,e3,e4⟩:=D.ex;calc(aj _ (aG (bC (bK (bh cW (bK aH rL) (k_ jk au) (λ_ _=>rfl)) rL))) ?_);show(aj _ rL (cB g CG dx _ _ rL h1 T.cl T.ns rL (aj _ rL (bw ps _ _ (.ref a) rL rL (bH.of h5) jL (cB a CS I _ _ rL e1 TS.cl TS.nb rL (q b e2))))))
def T4 {C CS CB CG f:Addr}{fd:FuncData}(F:fj K "racks_now" "Game.racks_now" je f fd)(T:o9 K CG)(TS:qI K CS):cA P w K mg base dJ 1 f fd ["self"] (tE C CS CB CG KZ):=by calc F.dM GC (λbN A outer s H vs Q E O h=>?_);let⟨g,ps,pd,G,zs,z,rfl,J,hz,q⟩:=h;obtain⟨⟨dx,k,kd,d,pb,h1,h2,h3,h4⟩,⟨as,h5,j⟩,h7⟩:=J;rw[hz]at j;let⟨bs,a,rfl,D⟩:=j.last;let⟨I,b,pr,pp,e1,e2,e3,e4⟩:=D.ex;calc(aj _ (aG (bC (bK (bh cW (bK aH rL) (k_ jk au) (λ_ _=>rfl)) rL))) ?_);show(aj _ rL (cB g CG dx _ _ rL h1 T.cl T.ns rL (aj _ rL (bw ps _ _ (.ref a) rL rL (bH.of h5) jL (cB a CS I _ _ rL e1 TS.cl TS.nr rL (q pr e3))))))
def aae {C CS CB CG f:Addr}{fd:FuncData}(F:fj K "bag_now" "Game.bag_now" jG f fd)(T:o9 K CG)(TS:qI K CS):cA P w K mg base dJ 1 f fd ["self"] (tE C CS CB CG adF):=by calc F.dM J9 (λbN A outer s H vs Q E O h=>?_);let⟨g,ps,pd,G,zs,z,rfl,J,hz,q⟩:=h;obtain⟨⟨dx,k,kd,d,pb,h1,h2,h3,h4⟩,⟨as,h5,j⟩,h7⟩:=J;rw[hz]at j;let⟨bs,a,rfl,D⟩:=j.last;let⟨I,b,pr,pp,e1,e2,e3,e4⟩:=D.ex;calc(aj _ (aG (bC (bK (bh cW (bK aH rL) (k_ jk au) (λ_ _=>rfl)) rL))) ?_);show(aj _ rL (cB g CG dx _ _ rL h1 T.cl T.ns rL (aj _ rL (bw ps _ _ (.ref a) rL rL (bH.of h5) jL (cB a CS I _ _ rL e1 TS.cl TS.ng rL q)))))
def Qv {C CS CB CG f:Addr}{fd:FuncData}(F:fj K "points_now" "Game.points_now" iQ f fd)(T:o9 K CG)(TS:qI K CS):cA P w K mg base dJ 1 f fd ["self"] (tE C CS CB CG ain):=by calc F.dM DP (λbN A outer s H vs Q E O h=>?_);let⟨g,ps,pd,G,zs,z,rfl,J,hz,q⟩:=h;obtain⟨⟨dx,k,kd,d,pb,h1,h2,h3,h4⟩,⟨as,h5,j⟩,h7⟩:=J;rw[hz]at j;let⟨bs,a,rfl,D⟩:=j.last;let⟨I,b,pr,pp,e1,e2,e3,e4⟩:=D.ex;calc(aj _ (aG (bC (bK (bh cW (bK aH rL) (k_ jk au) (λ_ _=>rfl)) rL))) ?_);show(aj _ rL (cB g CG dx _ _ rL h1 T.cl T.ns rL (aj _ rL (bw ps _ _ (.ref a) rL rL (bH.of h5) jL (cB a CS I _ _ rL e1 TS.cl TS.np rL (q pp e4))))))
theorem dY.tG {H:Hp}:∀{ls:AB},(∀l∈ls,∀c∈l,c<128)->dY K H 1 (ls.map Dt.str) (Ts ls)
 | [],_=>.nil
 | l::ls,h=>.cons (.str l (h l cv)) (dY.tG λD j=>h D (bz _ j))
def Nf (C CS CB CG:Addr):Sp:=λvs H Q _=>∃(g ps pd:Addr) (G:Gm) (zs:List Std) (z:Std),vs=[.ref g]/\fD C CS CB CG H g ps pd G/\G.sts=zs++[z]/\jc z/\Q (.int ((G.done.length%z.racks.length:Nat):Int)) H
def afW {C CS CB CG f f1:Addr}{fd eE:FuncData}(F:fj K "turn" "Game.turn" mX f fd)(j:o9 K CG)(I:mg "len"=none)(J:Meth K CG "racks_now" f1)(Y:cA P w K mg base dJ 1 f1 eE ["self"] (tE C CS CB CG KZ))(lX:bR K eE ["self"] []):cA P w K mg base dJ 2 f fd ["self"] (Nf C CS CB CG):=by
 calc F.dM R3 (λbN A outer s H vs Q E O h=>?_);let⟨g,ps,pd,G,zs,z,rfl,D,hz,Z,q⟩:=h;let⟨dx,k,kd,d,pb,h1,h2,h3,h4⟩:=D.ex;let h7:=D.dn;let n1:=Z.n1;calc(aj _ (aG (bC (aL cj (aY bY qr I ay (ak (bK aH rL) aq)) (aY bY qr I ay (ak (gF aH j.cl J Y O.mono lX .nil eG) aq))))) ?_);refine(aj _ rL (cB g CG dx _ _ rL h1 j.cl j.nd rL (aJ pd _ rL (.inl (bH.of h7)) (aj _ rL (cY g dx _ rL h1 rL (Bc g ps pd G zs z rL D hz (λp hp=>(aJ p _ rL (.inr (aU.of hp)) (aX _ _ rL rL ?_ ?_)))))))))
 .show (0:Int)<_;rw[aa];lia
 .rw[aa,aa];have:((G.done.length:Int)%(z.racks.length:Int))=((G.done.length%z.racks.length:Nat):Int):=by lia
  show Q (.int ((G.done.length:Int)%(z.racks.length:Int))) H;rw[this];show q
def vN (ps pd:Addr)(H H':Hp):Prop:=∀a o,H a=some o->a≠ps->a≠pd->H' a=some o
def jW {H:Hp}{a p:Addr}{xs:List V}{o:HO}(h:H p=some (.lst xs))(h':H a=some o)(d:∀ys,o≠.lst ys):a≠p:=λe=>by subst e;rw[h]at h';show d xs (bo h').symm
def cX.k2 {C:Addr}{H H':Hp}{p ps pd:Addr}{xs ys:List V}{r w:Nat}{aF aO:AB}{i j:Nat}(B:cX C H p r w aF aO i j)(s:vN ps pd H H')(h1:H ps=some (.lst xs))(h2:H pd=some (.lst ys)):cX C H' p r w aF aO i j:=by obtain⟨⟨dx,pr,pm,pb,a,b,c,d⟩,o⟩:=B;let k:∀a o,H a=some o->(∀ys,o≠HO.lst ys)->H' a=some o:=λa o h n=>s a o h (jW h1 h n) (jW h2 h n);show⟨(gG dx pr pm pb (k _ _ a (λ_ z=>nomatch z)) (k _ _ b (λ_ z=>nomatch z)) (k _ _ c (λ_ z=>nomatch z)) (k _ _ d (λ_ z=>nomatch z))),o⟩
def g_.k2 {C CS:Addr}{H H':Hp}{p ps pd:Addr}{xs ys:List V}{z:Std}(A:g_ C CS H p z)(s:vN ps pd H H')(h1:H ps=some (.lst xs))(h2:H pd=some (.lst ys)):g_ C CS H' p z:=by let⟨dx,b,pr,pp,a1,a2,a3,a4⟩:=A.ex;let k:∀a o,H a=some o->(∀ys,o≠HO.lst ys)->H' a=some o:=λa o h n=>s a o h (jW h1 h n) (jW h2 h n);show⟨dx,b,pr,pp,k _ _ a1 (λ_ z=>nomatch z),a2.k2 s h1 h2,k _ _ a3 (λ_ z=>nomatch z),k _ _ a4 (λ_ z=>nomatch z)⟩
def iJ.k2 {C:Addr}{H H':Hp}{p d ps pd:Addr}{xs ys:List V}{ws:AB}(B:iJ C H p d ws)(s:vN ps pd H H')(h1:H ps=some (.lst xs))(h2:H pd=some (.lst ys)):iJ C H' p d ws:=by let k:∀a o,H a=some o->(∀ys,o≠HO.lst ys)->H' a=some o:=λa o h n=>s a o h (jW h1 h n) (jW h2 h n);show⟨let ⟨dx,e⟩:=B.ob;⟨dx,k _ _ e (λ_ z=>nomatch z)⟩,k _ _ B.dc (λ_ z=>nomatch z),B.nd,B.az⟩
def fD.put {C CS CB CG:Addr}{H H':Hp}{g ps pd:Addr}{G:Gm}{zs:List Std}{dn:AB}{as:List Addr}(A:fD C CS CB CG H g ps pd G)(s:vN ps pd H H')(h1:H' ps=some (.lst (as.map V.ref)))(hs:Ai C CS H' as zs)(h2:H' pd=some (.lst (Ts dn))):fD C CS CB CG H' g ps pd {G with sts:=zs,done:=dn}:=by obtain⟨⟨dx,k,kd,d,pb,a1,a2,a3,a4⟩,⟨bs,a5,_⟩,a7⟩:=A;let j:∀a o,H a=some o->(∀ys,o≠HO.lst ys)->H' a=some o:=λa o h n=>s a o h (jW a5 h n) (jW a7 h n);show⟨(Ge dx k kd d pb (j _ _ a1 (λ_ z=>nomatch z)) (a2.k2 s a5 a7) (j _ _ a3 (λ_ z=>nomatch z)) (j _ _ a4 (λ_ z=>nomatch z))),(aj as h1 hs),h2⟩
def XR {as:List Addr}{ls:AB}(h:ls≠[]):as.map V.ref≠Ts ls:=λe=>by
 cases ls with
 | nil=>show h rfl
 | cons l ls=>
  cases as with
  | nil=>cases e
  | cons a as=>cases e
def abT (C CS CB CG:Addr):Sp:=λvs H Q _=>∃(g ps pd:Addr) (G:Gm) (zs:List Std) (z:Std) (dn:AB) (d:List Nat),vs=[.ref g]/\fD C CS CB CG H g ps pd G/\G.sts=zs++[z]/\G.done=dn++[d]/\(∀l∈G.done,∀c∈l,c<128)/\G.done.length<=500/\
 ∀H',vN ps pd H H'->fD C CS CB CG H' g ps pd {G with sts:=zs,done:=dn}->Q .non H'
open Classical in
def afX {C CS CB CG f:Addr}{fd:FuncData}(F:fj K "back" "Game.back" mW f fd)(T:o9 K CG):cA P w K mg base dJ 1 f fd ["self"] (abT C CS CB CG):=by
 calc F.dM R0 (λbN A outer s H vs Q E hr h=>?_);let⟨g,ps,pd,G,zs,z,dn,d,rfl,A0,hz,hd,I,h5,q⟩:=h;let⟨dx,k,kd,dd,pb,h1,h2,h3,h4⟩:=A0.ex;let⟨as,j,Y⟩:=A0.st;let h7:=A0.dn;let J:G.done≠[]:=by rw[hd];simp
 rw[hz]at Y;let⟨bs,a,rfl,SA⟩:=Y.last;let O:ps≠pd:=oX j h7 λe=>XR J (by injection e);calc(aj _ (aB (cJ (b_ (zV hr.units) (bK aH rL) (iW aq) (bM _)) q_ bO) (aB (dz (wV bE PySem.F.slot_list_pop PySem.F.type_list_pop aaQ (bK aH rL))) (aG (dz (wV bE PySem.F.slot_list_pop PySem.F.type_list_pop aaQ (bK aH rL)))))) ?_);calc(aj _ rL (yq g CG dx _ _ rL h1 T.cl T.nd rL (zsz 0) (λZ hZ=>?_)));let D:aD H (upd H Z (HO.lst [])):=aD.upd hZ;let eZ:upd H Z (HO.lst []) Z=some (.lst []):=aA;generalize upd H Z (HO.lst [])=H1 at D eZ ⊢;calc(cY 2 (.lst (G.done.map Dt.str)) (.lst []) qo (.lst (bH.of (D _ _ h7)) (dY.tG I)) (.lst (bH.of eZ) .nil) (aj _ rL ?_));rw[ag (λe=>by injection e with e;show J (List.map_eq_nil_iff.mp e))];calc bW ?_;refine(aj _ rL (yq g CG dx _ _ rL (D _ _ h1) T.cl T.ns rL (.inl ⟨rL,_,bH.of (D _ _ j)⟩) (dW ps _ (.ref a) rL rL (D _ _ j) ?_ ?_)))
 .simp
 let TY:g≠ps:=jW j h1 (λ_ z=>nomatch z);let e1:=D _ _ h1;rw[<-aZ (H:=H1) (o:=.lst ((bs++[a]).map V.ref).dropLast) TY]at e1;let e7:=D _ _ h7;rw[<-aZ (H:=H1) (o:=.lst ((bs++[a]).map V.ref).dropLast) O.symm]at e7;calc(aj _ rL (yq g CG dx _ _ rL e1 T.cl T.nd rL (.inl ⟨rL,_,bH.of e7⟩) (dW pd _ (.str (S d)) rL rL e7 ?_ ?_)));.rw[hd];simp[Ts]
 let kk:vN ps pd H (upd (upd H1 ps (.lst ((bs++[a]).map V.ref).dropLast)) pd (.lst (Ts G.done).dropLast)):=λb o e n1 n2=>by rw[aZ n2,aZ n1];show D _ _ e
 calc q _ kk (A0.put kk (as:=bs) ?_ ⟨?_,λi b y e1 e2=>?_⟩ ?_);.rw[aZ O,aA];simp
 .have:=Y.len;simpa using this
 .calc(Y.at_ i b y ?_ ?_).k2 kk j h7;.rw[cS (ah.mp e1).1];show e1
  .rw[cS (ah.mp e2).1];show e2
 .rw[aA,hd];simp[Ts]
def yN (G:Gm)(z:Std):Nat:=(((G.done.length:Int)-1)%(z.racks.length:Int)).toNat
noncomputable def kh (G:Gm)(z:Std):Bool:=decide (G.done.drop (G.done.length-2*z.racks.length)=List.replicate (2*z.racks.length) gb)||(decide (G.done.drop (G.done.length-1)=[jy])&&(decide (z.bag=[])&&decide (z.racks.getD (yN G z) []=[])))
def T6 {xs:List V}{k:Nat}(j:1<=k):fV xs (some (-(k:Int))) none=xs.drop (xs.length-k):=by
 let e:HT.dw xs.length 0 (some (-(k:Int)))=xs.length-k:=by show (if -(k:Int)<0 then (-(k:Int)+(xs.length:Int)).toNat else _)=_;rw[if_pos qi];lia
 unfold fV;rw[e,HT.tX,ce (by rw[ba];lia)]
def XS (ls:AB)(n:Nat):(Ts ls).drop n=Ts (ls.drop n):=by simp only[Ts,oz]
def str_inj {as bs:AB}:Dt.lst (as.map Dt.str)=Dt.lst (bs.map Dt.str)↔as=bs:=by
 constructor
 .intro h;injection h with h;show(List.map_inj_right (λa b e=>by injection e)).mp h
 .rintro rfl;rfl
def Gn {p q:Prop} [Decidable p] [Decidable q] (h:p↔q):decide p=decide q:=by
 by_cases hp:p;.rw[al hp,al (h.mp hp)]
 .rw[ag hp,ag λz=>hp (h.mpr z)]
def T7 (C CS CB CG:Addr):Sp:=λvs H Q _=>∃(g ps pd:Addr) (G:Gm) (zs:List Std) (z:Std),vs=[.ref g]/\fD C CS CB CG H g ps pd G/\G.sts=zs++[z]/\jc z/\(∀l∈G.done,∀c∈l,c<128)/\G.done.length<=500/\∀H',aD H H'->Q (.bl (kh G z)) H'
open Classical in
def aaf {C CS CB CG f f1 f2:Addr}{fd eE fd2:FuncData}(F:fj K "is_over" "Game.is_over" jH f fd)(J:o9 K CG)(bG:mg "len"=none)(lV:Meth K CG "racks_now" f1)(lW:cA P w K mg base dJ 1 f1 eE ["self"] (tE C CS CB CG KZ))(lX:bR K eE ["self"] [])(uw:Meth K CG "bag_now" f2)(ux:cA P w K mg base dJ 1 f2 fd2 ["self"] (tE C CS CB CG adF))(uy:bR K fd2 ["self"] []):cA P w K mg base dJ 4 f fd ["self"] (T7 C CS CB CG):=by
 calc F.dM oZ (λbN A outer s H vs Q E hr h=>?_);let⟨g,ps,pd,G,zs,z,rfl,A0,hz,Z,I,h5,q⟩:=h;let⟨dx,k,kd,d,pb,h1,h2,h3,h4⟩:=A0.ex;let h7:=A0.dn;let n1:=Z.n1;let n4:=Z.n4;calc(aj _ (aB (aV (i:=1) oZ.nd rL (Or.inl rL) (gF aH J.cl lV lW hr.mono lX .nil eG)) (aB (aV (i:=2) oZ.nd rL (Or.inl rL) (aL jj au (aY bY qr bG ay (ak bA aq)))) (aB (cJ (b_ (zV hr.units) (dH tY (bK aH rL) (dI (k_ jk bF)) fJ) (aL aaS (iW (ak (bQ [112,97,115,115] qB) aq)) bF) (bM _)) (aG (bC iZ)) bO) (aB (aV (i:=3) oZ.nd rL (Or.inl rL) (aL cj (aL oM (aY bY qr bG ay (ak (bK aH rL) aq)) au) (aY bY qr bG ay (ak bA aq)))) (aG (bC (jR (fH (zV hr.units) (dH tY (bK aH rL) (dI (k_ jk au)) fJ) (iW (ak (bQ [108,97,121] qB) aq)) (bM _)) (jR (fH jQ (gF aH J.cl uw ux hr.mono uy .nil eG) (bQ [] qB) (bM _)) (jA (fH jQ (bh bD bA bT (λ_ _=>rfl)) (bQ [] qB) (bM _))))))))))) ?_);calc(aj _ rL (cY g dx _ rL h1 rL (Bc g ps pd G zs z rL A0 hz (λpr hpr=>?_))));refine(aj _ rL (aJ pr _ rL (.inr (aU.of hpr)) (aX _ _ rL rL ?_ ?_)))
 .show YL _ _;rw[aa];show .inl ⟨qo,qo⟩
 rw[aa];let em:(λi j:Int=>V.int (i*j)) 2 (z.racks.length:Int)=V.int ((2*z.racks.length:Nat):Int):=by show V.int _=V.int _;congr 1
 rw[em];generalize hk:2*z.racks.length=k2;calc(aj _ rL (cB g CG dx _ _ rL h1 J.cl J.nd rL (aj _ rL (aj _ rL (aj _ rL (aJ pd _ rL (bH.of h7) (λp1 e1=>?_)))))));rw[T6 qi,XS,aa];let sx1:aD H (upd H p1 (.lst (Ts (G.done.drop (G.done.length-k2))))):=aD.upd e1;let Xj:upd H p1 (.lst (Ts (G.done.drop (G.done.length-k2)))) p1=some (.lst (Ts (G.done.drop (G.done.length-k2)))):=aA;generalize upd H p1 (.lst (Ts (G.done.drop (G.done.length-k2))))=H1 at sx1 Xj ⊢;calc⟨zsz 1,λp2 e2=>?_⟩;let Y:aD H1 (upd H1 p2 (HO.lst [V.str (S [112,97,115,115])])):=aD.upd e2;let ex2:upd H1 p2 (HO.lst [V.str (S [112,97,115,115])]) p2=some (.lst (Ts [gb])):=aA;generalize upd H1 p2 (HO.lst [V.str (S [112,97,115,115])])=H2 at Y ex2 ⊢;refine(aj _ rL (J5 p2 (k2:Int) (Ts [gb]) rL rL ex2 qi qi ?_ (λp3 e3=>?_)))
 .show 1*_<=sizeLine;show av (aM (by simp;lia))
 let er:(List.replicate (k2:Int).toNat (Ts [gb])).flatten=Ts (List.replicate k2 gb):=by rw[eI];simp[Ts]
 let akA:=Y _ _ Xj;let fG:=sx1.trans Y;rw[er];let sx3:aD H2 (upd H2 p3 (.lst (Ts (List.replicate k2 gb)))):=aD.upd e3;let ex3:upd H2 p3 (.lst (Ts (List.replicate k2 gb))) p3=some (.lst (Ts (List.replicate k2 gb))):=aA;let aeT:=sx3 _ _ akA;let fU:=fG.trans sx3;generalize upd H2 p3 (.lst (Ts (List.replicate k2 gb)))=H3 at sx3 ex3 aeT fU ⊢;calc(cY 2 (.lst ((G.done.drop (G.done.length-k2)).map Dt.str)) (.lst ((List.replicate k2 gb).map Dt.str)) qo (.lst (bH.of aeT) (dY.tG λl hl=>I l (eQ hl))) (.lst (bH.of ex3) (dY.tG λl hl=>?_)) (aj _ rL ?_));.rw[List.eq_of_mem_replicate hl];decide
 rw[Gn str_inj];by_cases hp:G.done.drop (G.done.length-k2)=List.replicate k2 gb
 .rw[al hp];calc cG ?_;have:=q H3 fU;unfold kh at this;rw[hk,al hp,Bool.true_or]at this;show this
 .rw[ag hp];calc bW ?_;let h13:=fU _ _ h1;let h73:=fU _ _ h7;let T8:=fU _ _ hpr;refine(aj _ rL (cB g CG dx _ _ rL h13 J.cl J.nd rL (aJ pd _ rL (.inl (bH.of h73)) (aJ _ _ rL rL (aj _ rL (aJ pr _ rL (.inr (aU.of T8)) (aX _ _ rL rL ?_ ?_)))))))
  .show (0:Int)<_;rw[aa];lia
  rw[aa,aa];let el:(λi j:Int=>V.int (i%j)) ((G.done.length:Int)-1) (z.racks.length:Int)=V.int ((yN G z:Nat):Int):=by show V.int _=V.int _;congr 1;unfold yN;have:=dE ((G.done.length:Int)-1) (b:=(z.racks.length:Int)) qi;lia
  let ll:yN G z<z.racks.length:=by unfold yN;have:=dE ((G.done.length:Int)-1) (b:=(z.racks.length:Int)) qi;have:=dP ((G.done.length:Int)-1) (b:=(z.racks.length:Int)) qi;lia
  rw[el];calc(aj _ rL (cB g CG dx _ _ rL h13 J.cl J.nd rL (aj _ rL (aj _ rL (aJ pd _ rL (bH.of h73) (λp4 e4=>?_))))));rw[show (-1:Int)=-((1:Nat):Int) from rL,T6 (ai 1),XS,aa];let sx4:aD H3 (upd H3 p4 (.lst (Ts (G.done.drop (G.done.length-1))))):=aD.upd e4;let ex4:upd H3 p4 (.lst (Ts (G.done.drop (G.done.length-1)))) p4=some (.lst (Ts (G.done.drop (G.done.length-1)))):=aA;generalize upd H3 p4 (.lst (Ts (G.done.drop (G.done.length-1))))=H4 at sx4 ex4 ⊢;calc⟨zsz 1,λp5 e5=>?_⟩;let O:aD H4 (upd H4 p5 (HO.lst [V.str (S [108,97,121])])):=aD.upd e5;let ex5:upd H4 p5 (HO.lst [V.str (S [108,97,121])]) p5=some (.lst (Ts [jy])):=aA;generalize upd H4 p5 (HO.lst [V.str (S [108,97,121])])=H5 at O ex5 ⊢;let vM:=(fU.trans sx4).trans O;calc(cY 2 (.lst ((G.done.drop (G.done.length-1)).map Dt.str)) (.lst ([jy].map Dt.str)) qo (.lst (bH.of (O _ _ ex4)) (dY.tG λl hl=>I l (eQ hl))) (.lst (bH.of ex5) (dY.tG qo)) (aj _ rL ?_));rw[Gn str_inj];let D:=q H5 vM;unfold kh at D;rw[hk,ag hp,Bool.false_or]at D;by_cases hy:G.done.drop (G.done.length-1)=[jy]
  .rw[al hy]at D ⊢;rw[mw]at D;calc cG (aj _ rL (cY g dx _ rL (vM _ _ h1) rL (Bc g ps pd G zs z rL (A0.mv vM) hz (aJ z.bag [] rL rL (aj _ rL ?_)))));by_cases hb:z.bag=[]
   .rw[al hb]at D ⊢;rw[mw]at D;calc cG (aj _ rL (aj _ rL (bw pr _ _ (.str (S z.racks[yN G z])) rL rL (aU.of (vM _ _ hpr)) (aQ (oH (ac ll))) (aJ _ [] rL rL ?_))));rw[ax,ac ll]at D;show D
   .rw[ag hb]at D ⊢;show bW D
  .rw[ag hy]at D ⊢;show bW D
def jO (G:Gm)(z:Std):Nat:=G.done.length%z.racks.length
structure aio (G:Gm):Prop where
 low:∀l∈G.done,∀c∈l,c<128
 len:G.done.length<=400
 sl:G.sts.length<=500
 wd:WD G.kvs
 wb:WB 1000000 G.kvs
 sz:G.size<=7
inductive Does (G:Gm) (z:Std):cP->Int->Std->Prop
 | lay {ts:List bZ} {l:List Nat} (xR:∀t∈ts,inB z.r z.w t) (h0:0<ts.length) (h7:ts.length<=7) (ri:j_ (ts.map oJ)=true) (vd:tR z.aF z.r z.w z.bi z.bj G.ws (z.racks.getD (jO G z) []) ts .ok) (lf:ql (z.racks.getD (jO G z) []) (ts.map (·.2.2))=some l) :
   Does G z (.lay ts) (Z8 z.aF z.aO G.kvs ts G.bn G.bm) (M_ z (jO G z) G.size ts l (Z8 z.aF z.aO G.kvs ts G.bn G.bm))
 | swap {l m:List Nat} (ne:l≠[]) (h7:l.length<=7) (tl:∀c∈l,o8 c) (lf:ql (z.racks.getD (jO G z) []) l=some m) (hb:l.length<=z.bag.length):Does G z (.swap l) 0 (Q8 z (jO G z) l m)
 | pass:Does G z .pass 0 z
def ajL {aF:AB}{r w bi bj:Nat}{ws:AB}{bU:List Nat}{ts:List bZ}{v:Vd}(h:tR aF r w bi bj ws bU ts .ok)(g:tR aF r w bi bj ws bU ts v):v=.ok:=by
 cases h with
 | ok h1 h2 h3 h4 h5 h=>
  cases g with
  | CP e=>rw[h1]at e;cases e
  | CQ _ e=>rw[h2]at e;cases e
  | gap _ _ e=>show absurd e.fr (h3 _ _ e.i1 e.i2 e.j1 e.j2)
  | xM _ _ _ e=>rw[h4]at e;cases e
  | CV _ _ _ _ e=>let⟨l,hl⟩:=h5;rw[hl]at e;cases e
  | nw _ _ _ _ _ e=>rw[h]at e;cases e
  | ok=>rfl
def X3 {aF:AB}{r w bi bj:Nat}{ws:AB}{bU:List Nat}{ts:List bZ}(h:tR aF r w bi bj ws bU ts .ok):(uh ts||um ts)=true:=by
 cases h with| ok h1 h2 h3 h4 h5 h=>show h2
def adG (d:cP):∀c∈d.name,c<128:=by
 cases d;.show ∀c∈jy,c<128;decide
 .show ∀c∈iV,c<128;decide
 .show ∀c∈gb,c<128;decide
def aip (C CS CB CG:Addr):Sp:=λvs H Q _=>∃(g p ps pd:Addr) (G:Gm) (zs:List Std) (z z':Std) (d:cP) (pt:Int),vs=[.ref g,.ref p]/\fD C CS CB CG H g ps pd G/\G.sts=zs++[z]/\jc z/\aio G/\vo H p d/\kh G z=false/\Does G z d pt z'/\
 ∀H',vN ps pd H H'->fD C CS CB CG H' g ps pd {G with sts:=G.sts++[z'],done:=G.done++[d.name]}->Q (.int pt) H'
def X4 {H:Hp}{p:Addr}{d:cP}(h:vo H p d):∃xs,H p=some (.tup (.str (S d.name)::xs)):=by
 cases d with
 | lay ts=>let⟨t,as,h1,_⟩:=h;show⟨_,h1⟩
 | swap l=>show⟨_,h⟩
 | pass=>show⟨_,h⟩
def Ai.snoc {C CS:Addr}{H:Hp}{as:List Addr}{zs:List Std}{a:Addr}{z:Std}(h:Ai C CS H as zs)(g:g_ C CS H a z):Ai C CS H (as++[a]) (zs++[z]):=by
 calc⟨by rw[aE,aE,h.len];rfl,λi b y e1 e2=>?_⟩;by_cases hi:i<as.length
 .rw[cS hi]at e1;rw[cS (by rw[<-h.len];show hi)]at e2;show h.at_ i b y e1 e2
 .rw[cz qi]at e1;rw[cz (by rw[<-h.len];lia),<-h.len]at e2;let h0:i-as.length=0:=by have:=(ah.mp e1).1;simp at this;lia
  rw[h0]at e1 e2;cases e1;cases e2;show g
def Ai.k2 {C CS:Addr}{H H':Hp}{ps pd:Addr}{xs ys:List V}{as:List Addr}{zs:List Std}(h:Ai C CS H as zs)(s:vN ps pd H H')(h1:H ps=some (.lst xs))(h2:H pd=some (.lst ys)):Ai C CS H' as zs:=⟨h.len,λi a z e1 e2=>(h.at_ i a z e1 e2).k2 s h1 h2⟩
open Classical in
def ajM {C CS CB CG f f1 f2:Addr}{fd eE fd2:FuncData}{c:Tf}(F:fj K "do" "Game.do" pC f fd)(cV:o9 K CG)(TS:qI K CS)(pY:Meth K CG "is_over" f1)(pZ:cA P w K mg base dJ 4 f1 eE ["self"] (T7 C CS CB CG))(qb:bR K eE ["self"] [])(zq:Meth K CG "turn" f2)(zu:cA P w K mg base dJ 2 f2 fd2 ["self"] (Nf C CS CB CG))(zx:bR K fd2 ["self"] [])(abU:cg P w K mg base "is_deed" 2 ["thing"] abP)(uz:DefX P w K mg base "check_laying" 14 ["board","book","rack","laying"] (M5 K C CB c))(zy:cg P w K mg base "points_of" 11 ["board","worths","bonus","laying"] (Z9 C))(K4:cg P w K mg base "behind_laying" 10 ["stand","turn","size","laying","points"] (abQ C CS))(Qw:cg P w K mg base "behind_swap" 10 ["stand","turn","tiles"] (XQ C CS)):cA P w K mg base dJ 16 f fd ["self","deed"] (aip C CS CB CG):=by
 calc F.dM oF (λbN A outer s H vs Q E hr h=>?_);let⟨g,p,ps,pd,G,zs,z,z',d,pt,rfl,A0,hz,Z,GK,hd,hov,hdo,q⟩:=h;let⟨dx,k,kd,dd,pb,h1,h2,h3,h4⟩:=A0.ex;let⟨as0,h5,h6⟩:=A0.st;let h7:=A0.dn;let n1:=Z.n1;let h6':=h6;rw[hz]at h6';let⟨bs,a,rfl,SA⟩:=h6'.last;let⟨dy,b,pr,pp,e1,e2,e3,e4⟩:=SA.ex;let htn:jO G z<z.racks.length:=Nat.mod_lt _ n1;let hg:z.racks.getD (jO G z) []=z.racks[jO G z]:=by rw[ax,ac htn];rfl
 let⟨k7,kt⟩:=Z.r7 _ (aS htn);calc(aj _ (aB (cJ (d7 (dR (bI abU hr.mono rL (ak bA aq)))) q_ bO) (aB (cJ (dR (gF aH cV.cl pY pZ hr.mono qb .nil eG)) q_ bO) (aB (aV (i:=2) oF.nd rL (Or.inl rL) (bh cW (bK aH rL) (k_ jk au) (λ_ _=>rfl))) (aB (aV (i:=3) oF.nd rL (Or.inl rL) (gF aH cV.cl zq zu hr.mono zx .nil eG)) (aB (aV (i:=4) oF.nd rL (Or.inl rL) au) (aB (gK (cJ (b_ jQ (bh bD bA au (λ_ _=>rfl)) (bQ [108,97,121] qB) (bM _)) (aB (dz (oU uz hr.mono rL (aac (S:=λ_=>True)) (ak (bK bF rL) (ak (bK aH rL) (ak (bh bD (bK bF rL) bT (λ_ _=>rfl)) (ak (bh bD bA au (λ_ _=>rfl)) aq)))))) (aB (aV (i:=4) oF.nd rL (Or.inl rL) (bI zy hr.mono rL (ak (bK bF rL) (ak (bK aH rL) (ak (bK aH rL) (ak (bh bD bA au (λ_ _=>rfl)) aq)))))) (aG (aV (i:=2) oF.nd rL (Or.inl rL) (bI K4 hr.mono rL (ak bF (ak bT (ak (bK aH rL) (ak (bh bD bA au (λ_ _=>rfl)) (ak cO aq)))))))))) (aG (gK (cJ (b_ jQ (bh bD bA au (λ_ _=>rfl)) (bQ [115,119,97,112] qB) (bM _)) (aG (aV (i:=2) oF.nd rL (Or.inl rL) (bI Qw hr.mono rL (ak bF (ak bT (ak (bh bD bA au (λ_ _=>rfl)) aq)))))) bO))))) (aB (dz (gC bE dr du jh (bK aH rL) (ak bF aq))) (aB (dz (gC bE dr du jh (bK aH rL) (ak (bh bD bA au (λ_ _=>rfl)) aq))) (aG (bC cO)))))))))) ?_);refine(aj _ rL (aX p d rL hd (λl e=>?_) (λH1 s1=>(aj true rL (bW ?_)))))
 .subst e;cases hdo with| swap ne h7 tl lf hb=>show(bV ne qi tl)
 calc(aj _ rL (cY g dx _ rL (s1 _ _ h1) rL (Bf g ps pd G zs z rL (A0.mv s1) hz Z GK.low (by have:=GK.len;lia) (λH2 s2=>(aj _ rL ?_)))));rw[hov];let J:=s1.trans s2;calc bW (aj _ rL (cB g CG dx _ _ rL (J _ _ h1) cV.cl cV.ns rL (aj _ rL (bw ps _ _ (.ref a) rL rL (bH.of (J _ _ h5)) jL ?_))));calc(aj _ rL (cY g dx _ rL (J _ _ h1) rL (QX g ps pd G zs z rL (A0.mv J) hz Z ?_)));refine⟨λσ O=>∃D,σ=[some (.ref g),some (.ref p),some (.ref D),some (.int (jO G z:Nat)),some (.int pt)]/\aD H O/\g_ C CS O D z',?_,?_⟩
 .let e12:=J _ _ e1;let h12:=J _ _ h1;cases hdo with
  | @lay ts l xR h0 h7' ri vd lf=>
   let⟨t,as,hp,ht,hL⟩:=hd;let I:=J _ _ hp;let hl1:=M4 e2.ok.w9 xR h0 ri (X3 vd);rw[hg]at vd;calc(aj _ rL (bw p _ _ (.str (S jy)) rL rL (aU.of I) (aQ (j:=0) rL) (aJ jy jy rL rL (aj _ rL ?_))));rw[al rfl];refine cG ⟨True.intro,aj _ rL (cB a CS dy _ _ rL e12 TS.cl TS.nb rL (aj _ rL (cB g CG dx _ _ rL h12 cV.cl cV.nk rL (aj _ rL (cB a CS dy _ _ rL e12 TS.cl TS.nr rL (aj _ rL (bw pr _ _ (.str (S z.racks[jO G z])) rL rL (aU.of (J _ _ e3)) (aQ (oH (ac htn))) (aj _ rL (bw p _ _ (.ref t) rL rL (aU.of I) (aQ (j:=1) rL) ⟨b,k,kd,G.ws,z.racks[jO G z],.ref t,z.r,z.w,z.aF,z.aO,z.bi,z.bj,rL,e2.mv J,h2.mv J,qi,.inr ⟨t,as,ts,rL,J _ _ ht,hL.mv J,xR,h0,h7',ri,(λv cls dd H' hv hx _=>?_),λ_ O s3=>?_⟩⟩)))))))))⟩
   .have:=ajL vd hv;subst this;show hx
   let Y:=J.trans s3;calc(aj _ rL (cB a CS dy _ _ rL (Y _ _ e1) TS.cl TS.nb rL (aj _ rL (cB g CG dx _ _ rL (Y _ _ h1) cV.cl cV.nw rL (aj _ rL (cB g CG dx _ _ rL (Y _ _ h1) cV.cl cV.nn rL (aj _ rL (bw p _ _ (.ref t) rL rL (aU.of (Y _ _ hp)) (aQ (j:=1) rL) ⟨b,dd,pb,t,G.kvs,G.bn,G.bm,as,ts,z.r,z.w,z.aF,z.aO,z.bi,z.bj,rL,e2.mv Y,Rd.of (Y _ _ h3),GK.wd,GK.wb,Y _ _ h4,Y _ _ ht,hL.mv Y,xR,h0,h7',hl1,λH4 s4=>?_⟩))))))));let iz:=Y.trans s4;refine(aj _ rL (aj _ rL (aj _ rL (cB g CG dx _ _ rL (iz _ _ h1) cV.cl cV.nz rL (aj _ rL (bw p _ _ (.ref t) rL rL (aU.of (iz _ _ hp)) (aQ (j:=1) rL) (aj _ rL ⟨a,t,z,jO G z,G.size,_,as,ts,l,rL,SA.mv iz,Z,htn,GK.sz,iz _ _ ht,hL.mv iz,xR,h7',(λu hu=>abK (xR u hu).2.2),lf,λD H5 s5 A5=>(bf D rL (iz.trans s5) A5)⟩)))))))
  | @swap l m ne h7' tl lf hb=>have hp:H p=some (.tup [.str (S iV),.str (S l)]):=hd;let I:=J _ _ hp;calc(aj _ rL (bw p _ _ (.str (S iV)) rL rL (aU.of I) (aQ (j:=0) rL) (aJ iV jy rL rL (aj _ rL ?_))));rw[ag (show ¬iV=jy by decide)];calc bW ⟨λσ O=>∃D,σ=[some (.ref g),some (.ref p),some (.ref D),some (.int (jO G z:Nat)),some (.int 0)]/\aD H O/\g_ C CS O D (Q8 z (jO G z) l m),?_,λσ O h=>h⟩;calc(aj _ rL (bw p _ _ (.str (S iV)) rL rL (aU.of I) (aQ (j:=0) rL) (aJ iV iV rL rL (aj _ rL ?_))));rw[al rfl];show cG (aj _ rL (aj _ rL (aj _ rL (bw p _ _ (.str (S l)) rL rL (aU.of I) (aQ (j:=1) rL) ⟨a,z,jO G z,l,m,rL,SA.mv J,Z,htn,h7',tl,lf,hb,λD H5 s5 A5=>(bf D rL (J.trans s5) A5)⟩))))
  | pass=>have hp:H p=some (.tup [.str (S gb)]):=hd;let I:=J _ _ hp;calc(aj _ rL (bw p _ _ (.str (S gb)) rL rL (aU.of I) (aQ (j:=0) rL) (aJ gb jy rL rL (aj _ rL ?_))));rw[ag (show ¬gb=jy by decide)];calc bW ⟨λσ O=>∃D,σ=[some (.ref g),some (.ref p),some (.ref D),some (.int (jO G z:Nat)),some (.int 0)]/\aD H O/\g_ C CS O D z,?_,λσ O h=>h⟩;calc(aj _ rL (bw p _ _ (.str (S gb)) rL rL (aU.of I) (aQ (j:=0) rL) (aJ gb iV rL rL (aj _ rL ?_))));rw[ag (show ¬gb=iV by decide)];show bW (bf a rL J (SA.mv J))
 .intro σ O z;let⟨D,rfl,Y,A3⟩:=z;let⟨xs,hn⟩:=X4 hd;let h53:=Y _ _ h5;let h73:=Y _ _ h7;let hlz:(bs++[a]).length<=500:=by rw[h6.len];show GK.sl
  calc(aj _ rL (yq g CG dx _ _ rL (Y _ _ h1) cV.cl cV.ns rL (.inl ⟨rL,_,bH.of h53⟩) (aj _ rL (dW ps _ (.ref D) rL rL h53 (aM (by rw[aa];lia)) ?_))));let TY:g≠ps:=jW h5 h1 (λ_ z=>nomatch z);let zp:p≠ps:=jW h5 hn (λ_ z=>nomatch z);let hpd:pd≠ps:=λe=>by
   subst e;rw[h5]at h7;injection h7 with h7;injection h7 with h7;cases hG:G.done with| nil=>rw[hG]at h7;simp[Ts]at h7| cons l ls=>show XR (by rw[hG];simp) h7
  let g1:=Y _ _ h1;rw[<-aZ (H:=O) (o:=.lst ((bs++[a]).map V.ref++[.ref D])) TY]at g1;let g7:=h73;rw[<-aZ (H:=O) (o:=.lst ((bs++[a]).map V.ref++[.ref D])) hpd]at g7;let gn:=Y _ _ hn;rw[<-aZ (H:=O) (o:=.lst ((bs++[a]).map V.ref++[.ref D])) zp]at gn;calc(aj _ rL (yq g CG dx _ _ rL g1 cV.cl cV.nd rL (.inl ⟨rL,_,bH.of g7⟩) (aj _ rL (bw p _ _ (.str (S d.name)) rL rL (aU.of gn) (aQ (j:=0) rL) (dW pd _ (.str (S d.name)) rL rL g7 (aM (by rw[aa];have:=GK.len;lia)) (aj _ rL ?_))))));let kk:vN ps pd H (upd (upd O ps (.lst ((bs++[a]).map V.ref++[.ref D]))) pd (.lst (Ts G.done++[.str (S d.name)]))):=λx o e m1 m2=>by rw[aZ m2,aZ m1];show Y _ _ e
  let k3:vN ps pd O (upd (upd O ps (.lst ((bs++[a]).map V.ref++[.ref D]))) pd (.lst (Ts G.done++[.str (S d.name)]))):=λx o e m1 m2=>by rw[aZ m2,aZ m1];show e
  calc q _ kk (A0.put kk (as:=bs++[a]++[D]) ?_ ((h6.k2 kk h5 h7).snoc (A3.k2 k3 h53 h73)) ?_);.rw[aZ hpd.symm,aA];simp
  .rw[aA];simp[Ts]
def abV (C:Addr):Sp:=λvs H Q _=>∃(p d:Addr) (ws:AB),vs=[.ref p]/\iJ C H p d ws/\ws.length<64/\
 ∀(x d2:Addr) (Y:AB) (H':Hp),aD H H'->H x=none->H d2=none->iJ C H' x d2 Y->(∀y,y∈Y↔y∈ws)->Q (.ref x) H'
def afY {f C f0 f1:Addr}{fd eV eE:FuncData}(F:fj K "twin" "Book.twin" m_ f fd)(Ec:uo K C)(Ng:mg "Book"=some (.ref C))(T9:Mk K C f0)(T_:cA P w K mg base dJ 3 f0 eV ["self","words"] (S9 K C))(Ua:bR K eV ["self","words"] [])(Ub:Meth K C "words" f1)(Uc:cA P w K mg base dJ 1 f1 eE ["self"] (Xv C))(Ud:bR K eE ["self"] []):cA P w K mg base dJ 5 f fd ["self"] (abV C):=by
 calc F.dM R4 (λbN A outer s H vs Q E Y h=>?_);let⟨p,d,ws,rfl,B,J,q⟩:=h;let⟨dx,hp⟩:=B.ob;calc(aj _ (aG (bC (pP T9 T_ Y.mono rL Ng Ua .nil eG (ak (gF aH Ec.cl Ub Uc Y.mono Ud .nil eG) aq)))) ?_);calc(aj _ rL (cY p dx _ rL hp rL (cY p d ws rL B J (λt us H1 s1 ht I pm rs=>?_))));intro x G nx D wY;let s2:aD H1 (upd (upd H1 G (HO.own x)) x (HO.ins C G [])):=λb o e=>by rw[aZ (aN e nx),aZ (aN e D)];show e
 calc(gH x G t us rL aA (.inr (aU.of (s2 _ _ I))) (λl hl=>B.az l (pm.mem_iff.mp hl)) (by rw[pm.length_eq];lia) (λd2 Z O j BA hm dB kp=>⟨rL,?_⟩));let s3:aD H1 O:=λb o e=>kp b o (s2 b o e) (aN e nx);calc q x d2 Z O (s1.trans s3) (s1.free nx) (s1.free ?_) BA (λy=>(hm y).trans pm.mem_iff);cases e:H1 d2 with| none=>rfl| some o=>rw[s2 _ _ e]at j;cases j
def Nh (C CS CB CG:Addr):Sp:=λvs H Q _=>∃(g dx b k kd d pb pr:Addr) (ws:AB) (kvs:List (Key×V)) (n m:Int) (size r w:Nat) (aF aO:AB) (bi bj:Nat) (racks:AB) (bag:List Nat),vs=[.ref g,.ref b,.ref k,.ref d,.ref pb,.int size,.ref pr,.str (S bag)]/\H g=some (.ins CG dx [])/\cX C H b r w aF aO bi bj/\iJ CB H k kd ws/\ws.length<64/\H d=some (.dK kvs)/\H pb=some (.tup [.int n,.int m])/\H pr=some (.tup (Ts racks))/\1<=racks.length/\racks.length<=4/\(∀l∈racks,l.length<64)/\
 ∀(ps pd:Addr) (Y:AB) (H':Hp),(∀a o,H a=some o->a≠g->H' a=some o)->(∀y,y∈Y↔y∈ws)->H ps=none->H pd=none->fD C CS CB CG H' g ps pd ⟨[⟨r,w,aF,aO,bi,bj,racks.map dZ,bag,List.replicate racks.length 0⟩],[],Y,kvs,n,m,size⟩->Q .non H'
def Ue {C CS CB CG f f0 f1:Addr}{fd eV eE:FuncData}(F:fj K "__init__" "Game.__init__" mV f fd)(T:o9 K CG)(Ec:uo K CB)(Ej:mg "dict"=none)(cT:mg "tuple"=none)(bG:mg "len"=none)(Wi:Meth K CB "twin" f1)(Wj:cA P w K mg base dJ 5 f1 eE ["self"] (abV CB))(Wk:bR K eE ["self"] [])(xQ:mg "Stand"=some (.ref CS))(Af:Mk K CS f0)(Ag:cA P w K mg base dJ 1 f0 eV ["self","board","racks","bag","points"] (Gk CS))(Ah:bR K eV ["self","board","racks","bag","points"] [])(pX:cg P w K mg base "in_order" 1 ["tiles"] Q7):cA P w K mg base dJ 7 f fd ["self","board","book","worths","bonus","size","racks","bag"] (Nh C CS CB CG):=by
 calc F.dM DN (λbN A outer s H vs Q E hr h=>?_);let⟨g,dx,b,k,kd,d,pb,pr,ws,kvs,n,m,size,r,w,aF,aO,bi,bj,racks,bag,rfl,hg,hB,hK,h64,hd,hpb,hpr,n1,n4,h7,q⟩:=h;let⟨kx,hk⟩:=hK.ob;calc(aj _ (aB (kY aH (gF bF Ec.cl Wi Wj hr.mono Wk .nil eG) rL) (aB (kY aH (d_ Zo qr Ej PyProof.Rows.boot_dict (ak bT aq)) rL) (aB (kY aH cO rL) (aB (kY aH eO rL) (aB (kY aH (iW (ak (pP Af Ag hr.mono rL xQ Ah .nil eG (ak bA (ak (d_ jx qr cT dq (ak (j5 rL (jz.of DN.nd qA) (iI fO) (λ_ _ _ _ _=>fu) (λ_ _ _ _ _=>(bI pX hr.mono rL (ak aH aq)))) aq)) (ak gQ (ak (aL Xb (cZ (ak au aq)) (aY bY qr bG ay (ak fO aq))) aq))))) aq)) rL) (aG (kY aH (iW aq) rL))))))) ?_);calc(aj _ rL (cY k kx _ rL hk rL (cY k kd ws rL hK h64 (λk2 kd2 lY H1 s1 f1 f2 BK hm=>?_))));let g1:=s1 _ _ hg;calc(aj _ rL (gH g CG dx _ rL g1 T.cl T.nk (by show 0<1000;decide) ?_));generalize hX:upd H1 g (HO.ins CG dx (iD "book" (V.ref k2) []))=H2;let K2:∀a o,H1 a=some o->a≠g->H2 a=some o:=λa o e ne=>by rw[<-hX,aZ ne];show e
 let g2:H2 g=some (.ins CG dx [("book",.ref k2)]):=by rw[<-hX];show aA
 let X5:∀{a:Addr} {o:HO},H a=some o->(∀C' d' fs,o≠.ins C' d' fs)->a≠g:=λe ne z=>by subst z;rw[hg]at e;show ne _ _ _ (bo e).symm
 let dg:d≠g:=X5 hd (λ_ _ _ z=>nomatch z);calc(aj _ rL (aJ d kvs rL (K2 _ _ (s1 _ _ hd) dg) (λd2 e2=>?_)));let J:d2≠g:=λz=>by subst z;rw[g2]at e2;cases e2
 let g3:upd H2 d2 (HO.dK kvs) g=some (.ins CG dx [("book",.ref k2)]):=by rw[aZ J.symm];show g2
 let K3:∀a o,H1 a=some o->a≠g->upd H2 d2 (HO.dK kvs) a=some o:=λa o e ne=>by rw[aZ (aN (K2 a o e ne) e2)];show K2 a o e ne
 let d3:upd H2 d2 (HO.dK kvs) d2=some (.dK kvs):=aA;let e2H:H d2=none:=by
  cases e:H d2 with| none=>rfl| some o=>rw[K2 _ _ (s1 _ _ e) J]at e2;cases e2
 generalize upd H2 d2 (HO.dK kvs)=H3 at g3 K3 d3 ⊢;calc(aj _ rL (gH g CG dx _ rL g3 T.cl T.nw (by show 1<1000;decide) ?_));calc(aj _ rL (aj _ rL (gH g CG dx _ rL aA T.cl T.nn (by show 2<1000;decide) ?_)));calc(aj _ rL (aj _ rL (gH g CG dx _ rL aA T.cl T.nz (by show 3<1000;decide) ?_)));rw[Wt,Wt];generalize hY:upd H3 g (HO.ins CG dx (iD "size" (V.int size) (iD "bonus" (V.ref pb) (iD "worths" (V.ref d2) [("book",V.ref k2)]))))=H6;let g6:H6 g=some (.ins CG dx [("book",.ref k2),("worths",.ref d2),("bonus",.ref pb),("size",.int size)]):=by rw[<-hY];show aA
 let I:∀a o,H1 a=some o->a≠g->H6 a=some o:=λa o e ne=>by rw[<-hY,aZ ne];show K3 a o e ne
 let d6:H6 d2=some (.dK kvs):=by rw[<-hY,aZ J];show d3
 let prg:pr≠g:=X5 hpr (λ_ _ _ z=>nomatch z);let adH:=I _ _ (s1 _ _ hpr) prg;refine(aj _ rL (aj _ rL (bf pr rL ⟨_,aU.of adH⟩ (λL hL=>qX (xs:=Ts racks) (λi ys O=>ys=Ts ((racks.take i).map dZ)/\O L=some (.lst ys)/\aD H6 O) (bV rL aA (aD.upd hL)) (λi ys O _ h=>aU.of (h.2.2 _ _ adH)) ?_ ?_))))
 .intro i x ys O hi z;let⟨rfl,K5,sm⟩:=z;let⟨l,hl,rfl⟩:=xu hi;let hil:i<(Ts racks).length:=(ah.mp hi).1;let hir:i<racks.length:=by rw[aa]at hil;show hil
  calc(aj _ rL (bf l rL (h7 l (bu hl)) (λH8 s8=>(bV (s8 _ _ K5) ?_ (iU.mk hil (bV ?_ aA ((sm.trans s8).dX hL)))))));.rw[aa,aa,am];show aM qi
  .rw[take_snoc hl];simp only[Ts,bq];rfl
 .intro ys O z;let⟨rfl,K5,sm⟩:=z;rw[aa,cp]at K5;calc(dN L _ rL (.inl ⟨bH.of K5,λtp ht=>?_⟩));let s8:aD O (upd O tp (.tup (Ts (racks.map dZ)))):=aD.upd ht;let X6:upd O tp (.tup (Ts (racks.map dZ))) tp=some (.tup (Ts (racks.map dZ))):=aA;generalize upd O tp (HO.tup (Ts (racks.map dZ)))=H8 at s8 X6 ⊢;let s68:=sm.trans s8;calc(bf _ rL (zsz 1) (λp0 e0=>?_));let s9:aD H8 (upd H8 p0 (HO.tup [V.int 0])):=aD.upd e0;let ep0:upd H8 p0 (HO.tup [V.int 0]) p0=some (.tup [V.int 0]):=aA;generalize upd H8 p0 (HO.tup [V.int 0])=H9 at s9 ep0 ⊢;let s69:=s68.trans s9;calc(aj _ rL (aJ pr _ rL (.inr (aU.of (s69 _ _ adH))) ⟨p0,_,racks.length,rL,by rw[aa],ep0,qk,n1,qi,by show 1<=100;decide,λpp HA sA hpp=>?_⟩));let zp:HA pp=some (.tup ((List.replicate racks.length (0:Int)).map V.int)):=by rw[hpp];simp
  let Z:=s69.trans sA;let bg:b≠g:=by let⟨bx,_,_,_,hbx,_⟩:=hB.ex;intro z;subst z;rw[hg]at hbx;cases hbx
  let HB6:cX C H6 b r w aF aO bi bj:=by obtain⟨⟨bx,b1,b2,b3,c0,c1,c2,c3⟩,ok⟩:=hB;show⟨(gG bx b1 b2 b3 (I _ _ (s1 _ _ c0) bg) (I _ _ (s1 _ _ c1) (X5 c1 (λ_ _ _ z=>nomatch z))) (I _ _ (s1 _ _ c2) (X5 c2 (λ_ _ _ z=>nomatch z))) (I _ _ (s1 _ _ c3) (X5 c3 (λ_ _ _ z=>nomatch z)))),ok⟩
  intro x ex nx1 nx2 nx3;calc⟨x,ex,b,tp,pp,bag,rL,aA,λHC kC eC=>⟨rL,?_⟩⟩;let⟨sC,AC⟩:=Ef (z:=⟨r,w,aF,aO,bi,bj,racks.map dZ,bag,List.replicate racks.length 0⟩) nx1 nx2 kC eC (HB6.mv Z) (sA _ _ (s9 _ _ X6)) zp;let Y:=Z.trans sC;calc⟨zsz 1,λps D=>?_⟩;let sD:aD HC (upd HC ps (HO.lst [V.ref x])):=aD.upd D;let pD:upd HC ps (HO.lst [V.ref x]) ps=some (.lst ([x].map V.ref)):=aA;generalize upd HC ps (HO.lst [V.ref x])=HD at sD pD ⊢;let Ug:=Y.trans sD;calc(aj _ rL (gH g CG dx _ rL (Ug _ _ g6) T.cl T.ns (by show 4<1000;decide) ?_));let psg:ps≠g:=λz=>by subst z;rw[Y _ _ g6]at D;cases D
  generalize hE:upd HD g (HO.ins CG dx (iD "stands" (V.ref ps) [("book",V.ref k2),("worths",V.ref d2),("bonus",V.ref pb),("size",V.int size)]))=HE;let KE:∀a o,HD a=some o->a≠g->HE a=some o:=λa o e ne=>by rw[<-hE,aZ ne];show e
  let gE:HE g=some (.ins CG dx [("book",.ref k2),("worths",.ref d2),("bonus",.ref pb),("size",.int size),("stands",.ref ps)]):=by rw[<-hE];show aA
  calc⟨zsz 0,λpd G=>?_⟩;let sF:aD HE (upd HE pd (HO.lst [])):=aD.upd G;let pF:upd HE pd (HO.lst []) pd=some (.lst (Ts [])):=aA;let pdg:pd≠g:=λz=>by subst z;rw[gE]at G;cases G
  generalize upd HE pd (HO.lst [])=HF at sF pF ⊢;calc(aj _ rL (gH g CG dx _ rL (sF _ _ gE) T.cl T.nd (by show 5<1000;decide) ?_));let j:∀a o,HD a=some o->a≠g->upd HF g (HO.ins CG dx (iD "done" (V.ref pd) [("book",V.ref k2),("worths",V.ref d2),("bonus",V.ref pb),("size",V.int size),("stands",V.ref ps)])) a=some o:=λa o e ne=>by rw[aZ ne];show sF _ _ (KE a o e ne)
  let old:∀a o,H a=some o->a≠g->upd HF g (HO.ins CG dx (iD "done" (V.ref pd) [("book",V.ref k2),("worths",V.ref d2),("bonus",V.ref pb),("size",V.int size),("stands",V.ref ps)])) a=some o:=λa o e ne=>j a o (Ug _ _ (I a o (s1 _ _ e) ne)) ne;let k2g:k2≠g:=λz=>by subst z;rw[hg]at f1;cases f1
  let aiq:kd2≠g:=λz=>by subst z;rw[hg]at f2;cases f2
  refine q ps pd lY _ old hm ?_ ?_ ⟨(Ge dx k2 kd2 d2 pb aA ?_ ?_ ?_),(aj [x] (j _ _ pD psg) ⟨rL,λi a z h1 h2=>?_⟩),?_⟩
  .cases e:H ps with| none=>rfl| some o=>rw[Y _ _ (I _ _ (s1 _ _ e) psg)]at D;cases D
  .cases e:H pd with| none=>rfl| some o=>rw[KE _ _ (Ug _ _ (I _ _ (s1 _ _ e) pdg)) pdg]at G;cases G
  .let⟨ky,hky⟩:=BK.ob;show⟨⟨ky,j _ _ (Ug _ _ (I _ _ hky k2g)) k2g⟩,j _ _ (Ug _ _ (I _ _ BK.dc aiq)) aiq,BK.nd,BK.az⟩
  .show j _ _ (Ug _ _ d6) J
  .show old _ _ hpb (X5 hpb (λ_ _ _ z=>nomatch z))
  .cases i with
   | zero=>
    cases h1;cases h2;obtain⟨dy,b',Eh,KY,c1,⟨⟨bx,q1,q2,q3,u0,u1,u2,u3⟩,ok⟩,c3,c4⟩:=(AC.mv sD).ex;let gD:=Ug _ _ g6;let xg:x≠g:=(aN (Z _ _ g6) nx1).symm;let bg':b'≠g:=oX u0 gD λz=>by injection z with _ _ z;injection z with z _;injection z with z _;show absurd z qo
    let tg:∀{a:Addr} {xs:List V},HD a=some (.tup xs)->a≠g:=λe=>oX e gD λz=>nomatch z;show⟨dy,b',Eh,KY,j _ _ c1 xg,⟨(gG bx q1 q2 q3 (j _ _ u0 bg') (j _ _ u1 (tg u1)) (j _ _ u2 (tg u2)) (j _ _ u3 (tg u3))),ok⟩,j _ _ c3 (tg c3),j _ _ c4 (tg c4)⟩
   | succ i=>simp at h1
  .rw[aZ pdg];show pF
noncomputable def xT:List Nat->List Nat->Option (List Nat)
 | l,[]=>some l
 | l,c::cs=>if c∈l then xT (l.erase c) cs else none
theorem Q9:∀{cs l:List Nat},xT l (cs.map iG)=ql l cs
 | [],_=>rfl
 | c::cs,l=>by rw[cw];unfold xT ql;rw[Q9]
theorem Uh:∀{cs l m:List Nat},xT l cs=some m->m.length+cs.length=l.length
 | [],l,m,h=>by cases h;rfl
 | c::cs,l,m,h=>by
  unfold xT at h;split at h
  .rename_i hm;have:=Uh h;rw[List.length_erase_of_mem hm]at this;have:=List.length_pos_of_mem hm;simp only[eh];lia
  .cases h
def X7 {l:List Nat}(h:∀c∈l,o8 c):l.map iG=l:=by
 rw[fE (g:=id) λc j=>?_,kP];unfold iG;rw[if_neg];.rfl
 .rcases h c j with e|e;.have:=e.1;lia
  .lia
def X8:Sp:=λvs H Q _=>∃bU l m:List Nat,vs=[.str (S bU),.str (S l)]/\bU.length<=63/\l.length<=63/\xT bU l=some m/\∀p H',aD H H'->H p=none->H' p=some (.lst (Ts (m.map λc=>[c])))->Q (.ref p) H'
def adI (D:aP K mg "_law_taken" zY ["_law_rack","_law_tiles_here"])(fP:mg "list"=none):cg P w K mg base "_law_taken" 1 ["_law_rack","_law_tiles_here"] X8:=by
 calc D.dM ud (λf bN A outer s H vs Q E hr h=>?_);let⟨bU,l,m,rfl,O,l63,hrm,q⟩:=h;calc(aj _ (aB (aV (i:=2) ud.nd rL (Or.inl rL) (d_ (oh rL) qr fP dS (ak aH aq))) (aB (fX cK rL (rP bA) (bJ (i:=3) ud.nd rL (Or.inl rL)) (aG (dz (gC bE iN iO yj bF (ak bT aq))))) (aG (bC bF)))) ?_);calc(aj _ rL (bf bU rL qi (λL Z=>?_)));calc(aj _ rL (aj l rL ?_));refine Gd (λi σ I=>∃(v3:Option V) (us:List Nat),σ=[some (.str (S bU)),some (.str (S l)),some (.ref L),v3]/\aD H I/\I L=some (.lst (Ts (us.map λc=>[c])))/\us.length<=63/\xT us (l.drop i)=some m)
  (dG none bU rL (aD.upd Z) aA O (by rw[ko];show hrm)) ?_ ?_
 .intro i c σ I Y z;let⟨v3,us,rfl,J,F,KC,j⟩:=z;let hi:i<l.length:=(ah.mp Y).1;let G:l.drop i=c::l.drop (i+1):=by
   rw[gm hi];rw[ac hi]at Y;rw[bo Y]
  rw[G]at j;unfold xT at j;split at j
  .rename_i hm;calc(bf _ rL (.inl ⟨rL,_,bH.of F⟩) (aj _ rL (qL L _ [c] rL rL F (be.mpr (aj c hm rL)) (by rw[aa];lia) ?_)));calc(dG _ (us.erase c) rL (J.dX Z) (by rw[uq];show aA) ?_ j);have:=(lx (a:=c) (l:=us)).length_le;lia
  .cases j
 .intro σ I z;let⟨v3,us,rfl,J,F,KC,j⟩:=z;rw[mx]at j;cases j;show(aj _ rL (q L I J Z F))
def Ui:Sp:=λvs H Q _=>∃(bU l m:List Nat) (a:Addr),vs=[.str (S bU),.ref a]/\H a=some (.lst (Ts (l.map λc=>[c])))/\bU.length<=63/\l.length<=63/\xT bU l=some m/\∀p H',aD H H'->H p=none->H' p=some (.lst (Ts (m.map λc=>[c])))->Q (.ref p) H'
def abW (D:aP K mg "_law_taken" zY ["_law_rack","_law_tiles_here"])(fP:mg "list"=none):cg P w K mg base "_law_taken" 1 ["_law_rack","_law_tiles_here"] Ui:=by
 calc D.dM ud (λf bN A outer s H vs Q E hr h=>?_);let⟨bU,l,m,a,rfl,ha,Y,l63,hrm,q⟩:=h;calc(aj _ (aB (aV (i:=2) ud.nd rL (Or.inl rL) (d_ (oh rL) qr fP dS (ak aH aq))) (aB (fX cK rL (oR bA) (bJ (i:=3) ud.nd rL (Or.inl rL)) (aG (dz (gC bE iN iO yj bF (ak bT aq))))) (aG (bC bF)))) ?_);calc(aj _ rL (bf bU rL qi (λL O=>?_)));refine(aj _ rL (bf a rL ⟨_,bH.of (aD.upd O _ _ ha)⟩ (n8 (K:=K) (a:=a) (xs:=Ts (l.map λc=>[c])) (λi σ I=>∃(v3:Option V) (us:List Nat),σ=[some (.str (S bU)),some (.ref a),some (.ref L),v3]/\aD H I/\I L=some (.lst (Ts (us.map λc=>[c])))/\us.length<=63/\xT us (l.drop i)=some m)
  (dG none bU rL (aD.upd O) aA Y (by rw[ko];show hrm)) (λi σ I _ h=>by let⟨_,_,_,J,_⟩:=h;show bH.of (J _ _ ha)) ?_ ?_)))
 .intro i x σ I hx z;let⟨v3,us,rfl,J,F,KC,j⟩:=z;let⟨y,hy,rfl⟩:=xu hx;rw[ck]at hy;let⟨c,Z,rfl⟩:=dL.mp hy;let hi:i<l.length:=(ah.mp Z).1;let G:l.drop i=c::l.drop (i+1):=by
   rw[gm hi];rw[ac hi]at Z;rw[bo Z]
  rw[G]at j;unfold xT at j;split at j
  .rename_i hm;calc(bf _ rL (.inl ⟨rL,_,bH.of F⟩) (aj _ rL (qL L _ [c] rL rL F (be.mpr (aj c hm rL)) (by rw[aa];lia) ?_)));calc(dG _ (us.erase c) rL (J.dX O) (by rw[uq];show aA) ?_ j);have:=(lx (a:=c) (l:=us)).length_le;lia
  .cases j
 .intro σ I z;let⟨v3,us,rfl,J,F,KC,j⟩:=z;rw[aa,aa,mx]at j;cases j;show(aj _ rL (q L I J O F))
structure Q_ (K:W.Frag)(CR:Addr)(c:Tf):Prop where
 CP:W.exmOne K (.ref c.CP) (.ref CR)=some true
 CQ:W.exmOne K (.ref c.CQ) (.ref CR)=some true
 gap:W.exmOne K (.ref c.gap) (.ref CR)=some true
 xM:W.exmOne K (.ref c.xM) (.ref CR)=some true
 CV:W.exmOne K (.ref c.CV) (.ref CR)=some true
 nw:W.exmOne K (.ref c.nw) (.ref CR)=some true
def Q_.of {CR:Addr}{c:Tf}(R:Q_ K CR c){H:Hp}{cls:Value}{dd:Option Addr}{v:Vd}(h:VdX c H cls dd v):W.exmOne K cls (.ref CR)=some true:=by
 cases v with
 | ok=>show h.elim
 | CP i j=>let⟨rfl,_⟩:=h;show R.CP
 | CQ=>let⟨rfl,_⟩:=h;show R.CQ
 | gap i j=>let⟨rfl,_⟩:=h;show R.gap
 | xM=>let⟨rfl,_⟩:=h;show R.xM
 | CV t=>let⟨rfl,_⟩:=h;show R.CV
 | nw l=>let⟨rfl,_⟩:=h;show R.nw
def abX (C CB:Addr):Sp:=λvs H Q _=>∃(b k kd t:Addr) (ws:AB) (bU:List Nat) (as:List Addr) (ts:List bZ) (r w:Nat) (aF aO:AB) (bi bj:Nat),vs=[.ref b,.ref k,.str (S bU),.ref t]/\cX C H b r w aF aO bi bj/\iJ CB H k kd ws/\bU.length<=63/\H t=some (.tup (as.map V.ref))/\fQ H as ts/\(∀t∈ts,inB r w t)/\0<ts.length/\ts.length<=7/\j_ (ts.map oJ)=true/\
 ∀(o:Bool) H',aD H H'->(o=true->tR aF r w bi bj ws bU ts .ok)->Q (.bl o) H'
def afZ {C CB CR:Addr}{c:Tf}(D:aP K mg "_law_lets" Kc ["_law_board","_law_book","_law_rack","_law_laying_here"])(O:mg "RackError"=some (.ref CR))(R:Q_ K CR c)(J:DefX P w K mg base "check_laying" 14 ["board","book","rack","laying"] (M5 K C CB c)):cg P w K mg base "_law_lets" 16 ["_law_board","_law_book","_law_rack","_law_laying_here"] (abX C CB):=by
 calc D.dM afG (λf bN A outer s H vs Q E hr h=>?_);let⟨b,k,kd,t,ws,bU,as,ts,r,w,aF,aO,bi,bj,rfl,Y,hK,F,ht,Z,I,h0,h7,G_,q⟩:=h;calc(aj _ (aB (afF rL rL qr O (λpn xe E0 σ0 hp hx=>(aG (dz (oU J hr.mono rL hx (ak aH (ak bA (ak bF (ak bT aq)))))))) (λ_=>(aG (bC iZ)))) (aG (bC iZ))) ?_);refine⟨λcls dd H'=>∃v,VdX c H' cls dd v/\aD H H',?_,λa cls dd H' he na=>?_⟩
 .calc⟨rL,aj _ rL (aj _ rL (aj _ rL (aj _ rL ⟨b,k,kd,ws,bU,.ref t,r,w,aF,aO,bi,bj,rL,Y,hK,F,.inr ⟨t,as,ts,rL,ht,Z,I,h0,h7,G_,λv cls dd H' G hx j=>(aj v hx j),λG H1 s1=>?_⟩⟩)))⟩;show q true H1 s1 λ_=>G
 .let⟨v,hx,j⟩:=he;show⟨R.of hx,q false _ (j.trans (aD.upd na)) λz=>by cases z⟩
def uD:Sp:=λvs H Q _=>∃(c:Int) (m:Nat),vs=[.int c,.int m]/\m<=100/\∀(p:Addr) (ds:List Int) (H':Hp),aD H H'->H p=none->H' p=some (.lst (ds.map V.int))->ds.length=m->Q (.ref p) H'
def abY (D:aP K mg "_law_stream" Bh ["_law_cell","_law_many"])(J:mg "range"=none):cg P w K mg base "_law_stream" 1 ["_law_cell","_law_many"] uD:=by
 calc D.dM nR (λf bN A outer s H vs Q E Z h=>?_);let⟨c,m,rfl,hm,q⟩:=h;calc(aj _ (aB (aV (i:=2) nR.nd rL (Or.inl rL) (iW aq)) (aB (aV (i:=3) nR.nd rL (Or.inl rL) (aL cQ aH au)) (aB (cJ (b_ jl (aL cj aH au) au (bM _)) (aB (fX cK rL (o_ qr J (ak bA aq)) (bJ (i:=4) nR.nd rL (Or.inl rL)) (aB (dz (gC bE dr du jh bF (ak (aL cj bT (aL Rm au au)) aq))) (aG (aV (i:=3) nR.nd rL (Or.inl rL) (aL HN bT (aL Rm au au)))))) (aG (bC bF))) bO) (aB (aV (i:=3) nR.nd rL (Or.inl rL) (aL cj bT au)) (aB (fX cK rL (o_ qr J (ak (aL cM bA au) aq)) (bJ (i:=4) nR.nd rL (Or.inl rL)) (aB (aV (i:=3) nR.nd rL (Or.inl rL) (aL cj (aL cM (aL cM (aL cM (aL jj bT bT) (aL jj au bT)) (aL jj au cO)) au) au)) (aG (dz (gC bE dr du jh bF (ak (aL cM (aL jj (aL cj (aL jj bT au) au) au) (aL cj bT au)) aq)))))) (aG (bC (dH tY bF (dI au) fJ)))))))) ?_);calc⟨zsz 0,λp hp=>?_⟩;calc(aj _ rL (aX _ _ rL rL ⟨qo,qo⟩ ?_));calc(aj _ rL (dG _ _ rL rL (by show (0:Int)<2;decide) rL (aj _ rL ?_)));refine jP (λ_=>?_) (λ_=>?_)
 .calc(aj _ rL (h_ _ rL qi qi ?_));rw[eI];refine mj (n:=m) (lo:=0) (λi σ F=>∃(n:Int) (I:Option V) (ds:List Int),σ=[some (.int c),some (.int m),some (.ref p),some (.int n),I]/\aD H F/\F p=some (.lst (ds.map V.int))/\ds.length=i)
   (cY _ none [] rL (aD.upd hp) aA rL) ?_ ?_
  .intro i σ F hi z;let⟨n,I,ds,rfl,G,j,hl⟩:=z;calc(bf _ rL (.inl ⟨rL,_,bH.of j⟩) (aj _ rL (aX _ _ rL rL (bV qo qo qo) (aX _ _ rL rL (by show (0:Int)<10^20;decide) ?_))));calc(dW p _ _ rL rL j (by rw[aa,hl];show aM qi) ?_);calc(aj _ rL (aX _ _ rL rL (bV qo qo qo) (aX _ _ rL rL ⟨by show (0:Int)<10^20;decide,qB⟩ ?_)));show(cY _ _ (ds++[n%(10:Int)^(20:Int).toNat]) rL (G.dX hp) (by rw[aA];simp) (by simp[hl]))
  .intro σ F z;let⟨n,I,ds,rfl,G,j,hl⟩:=z;show(aj _ rL (q p ds F G hp j hl))
 .calc(aj _ rL (aX _ _ rL rL (by show (0:Int)<2305843009213693951;decide) ?_));calc(aj _ rL (aJ _ _ rL rL (h_ _ rL qi qi ?_)));let Y:((m:Int)+1).toNat=m+1:=qi;rw[Y];refine mj (n:=m+1) (lo:=0) (λi σ F=>∃(n:Int) (I:Option V) (ds:List Int),σ=[some (.int c),some (.int m),some (.ref p),some (.int n),I]/\aD H F/\F p=some (.lst (ds.map V.int))/\ds.length=i/\0<=n/\n<2305843009213693951)
   (qL _ none [] rL (aD.upd hp) aA rL (dE _ qo) (dP _ qo)) ?_ ?_
  .intro i σ F hi z;let⟨n,I,ds,rfl,G,j,hl,O,n1⟩:=z;calc(aj _ rL (aj _ rL (aX _ _ rL rL (.inl ⟨qi,qi⟩) (aj _ rL (aX _ _ rL rL (.inl ⟨qo,qo⟩) (aJ _ _ rL rL (aj _ rL (aX _ _ rL rL (.inl ⟨qo,qo⟩) (aJ _ _ rL rL (aJ _ _ rL rL (aX _ _ rL rL (by show (0:Int)<2305843009213693951;decide) ?_)))))))))));calc(bf _ rL (.inl ⟨rL,_,bH.of j⟩) ?_);calc(aj _ rL (aX _ _ rL rL (.inr ⟨qo,qo⟩) (aX _ _ rL rL (by show (0:Int)<2147483629;decide) (aX _ _ rL rL (.inr ⟨qo,qo⟩) (aj _ rL (aX _ _ rL rL (by show (0:Int)<2147483587;decide) (aJ _ _ rL rL ?_)))))));calc(dW p _ _ rL rL j (by rw[aa,hl];show aM qi) ?_);show(qL _ _ (ds++[_]) rL (G.dX hp) (by rw[aA];simp;rfl) (by simp[hl]) (dE _ qo) (dP _ qo))
  .intro σ F z;let⟨n,I,ds,rfl,G,j,hl,O,n1⟩:=z;calc(aj _ rL (aj _ rL (aJ p _ rL (bH.of j) (λt ht=>?_))));let e:fV (ds.map V.int) (some 1) none=(ds.drop 1).map V.int:=by
    unfold fV;let e1:HT.dw (ds.map V.int).length 0 (some 1)=min 1 (ds.map V.int).length:=HT.jX _ _ 1;rw[e1,aa,hl];show List.take (m+1-min 1 (m+1)) (List.drop (min 1 (m+1)) (ds.map V.int))=_;rw[show min 1 (m+1)=1 by lia,ce (by rw[ba,aa];lia),oz]
   rw[e];show q t (ds.drop 1) _ (G.dX (G.free ht)) (G.free ht) aA (by rw[ba];lia)
def abZ:Sp:=λvs H Q _=>∃c:Int,vs=[.int c]/\∀ls:List Nat,ZC ls->ls.length<=4->Q (.str (S ls)) H
def aag (D:aP K mg "_law_letters" yF ["_law_cell"])(G:mg "range"=none):cg P w K mg base "_law_letters" 1 ["_law_cell"] abZ:=by
 calc D.dM rZ (λf bN A outer s H vs Q E J h=>?_);let⟨c,rfl,q⟩:=h;calc(aj _ (aB (aV (i:=1) rZ.nd rL (Or.inl rL) (bQ AL qB)) (aB (aV (i:=2) rZ.nd rL (Or.inl rL) (bQ [] qB)) (aB (fX cK rL (o_ qr G (ak (aL cM au (aL cj (aL cQ aH au) au)) aq)) (bJ (i:=3) rZ.nd rL (Or.inl rL)) (aG (aV (i:=2) rZ.nd rL (Or.inl rL) (aL nG bF (bh Aw bA (aL cj (aL cM (aL cQ aH au) (aL jj bT (aL cM au (aL cj (aL cQ aH au) au)))) au) (λ_ _=>rfl)))))) (aG (bC bF))))) ?_);let I:=dE (c/8) (show (3:Int)≠0 by decide);let d1:=dP (c/8) (show (0:Int)<3 by decide);calc(aj _ rL (aX _ _ rL rL ⟨qo,qo⟩ (aX _ _ rL rL (by show (0:Int)<3;decide) (aJ _ _ rL rL (h_ _ rL qi qi ?_)))));refine mj (lo:=0) (λi σ j=>j=H/\∃(F:Option V) (ls:List Nat),σ=[some (.int c),some (.str (S AL)),some (.str (S ls)),F]/\ls.length=i/\∀c∈ls,isLet c) ⟨rL,aJ none [] rL rL (λc h=>by simp at h)⟩ ?_ ?_
 .intro i σ j hi z;let⟨rfl,F,ls,rfl,hl,ha⟩:=z;let⟨x,hx,hm⟩:=wJ (xs:=AL) (n:=26) qo qo (c/24+(0+(i:Int))*(1+c/624%8));calc(aj _ rL (aj _ rL (aj _ rL (aX _ _ rL rL ⟨qo,qo⟩ (aj _ rL (aj _ rL (aX _ _ rL rL ⟨qo,qo⟩ (aX _ _ rL rL (by show (0:Int)<8;decide) (aJ _ _ rL rL (aX _ _ rL rL (.inl ⟨qi,qi⟩) (aJ _ _ rL rL (aX _ _ rL rL (by show (0:Int)<26;decide) ?_))))))))))));calc(dW AL _ x rL rL qo hx (aX ls [x] rL rL ?_ ?_));.show av (aM (by show ls.length+1<=1000;lia))
  .calc⟨rL,aJ _ (ls++[x]) rL (by simp[hl]) (λy hy=>?_)⟩;rcases bv.mp hy with z|z;.show ha y z
   .rw[bc.mp z];show ajF x hm
 .intro σ j z;let⟨rfl,F,ls,rfl,hl,ha⟩:=z;show(aj _ rL (q ls ⟨qi,qi,ha⟩ qi))
def Uj:Sp:=λvs H Q _=>∃(c:Int) (ls:List Nat),vs=[.int c,.str (S ls)]/\ZC ls/\∀(p:Addr) (ws:AB) (H':Hp),aD H H'->H p=none->H' p=some (.lst (Ts ws))->4<=ws.length->ws.length<=12->(∀l∈ws,zj l)->Q (.ref p) H'
def Ni (D:aP K mg "_law_words" Gf ["_law_cell","_law_letters_here"])(d8:mg "range"=none)(bG:mg "len"=none)(oK:cg P w K mg base "_law_stream" 1 ["_law_cell","_law_many"] uD):cg P w K mg base "_law_words" 2 ["_law_cell","_law_letters_here"] Uj:=by
 calc D.dM ni (λf bN A outer s H vs Q E hr h=>?_);let⟨c,ls,rfl,hA,q⟩:=h;let a1:=hA.lo;let a2:=hA.hi;let d0:=dE c (show (9:Int)≠0 by decide);let d1:=dP c (show (0:Int)<9 by decide);calc(aj _ (aB (aV (i:=2) ni.nd rL (Or.inl rL) (iW aq)) (aB (fX cK rL (oR (bI oK hr.mono rL (ak aH (ak (aL cM au (aL cj aH au)) aq)))) (bJ (i:=3) ni.nd rL (Or.inl rL)) (aB (aV (i:=4) ni.nd rL (Or.inl rL) (aL cM au (aL cj bT au))) (aB (gK (cJ (b_ jl (aL cj (aL cQ bT au) au) au (bM _)) (aG (aV (i:=4) ni.nd rL (Or.inl rL) (aL cM au (aL cj (aL cQ bT au) au)))) bO)) (aB (aV (i:=5) ni.nd rL (Or.inl rL) (bQ [] qB)) (aB (aV (i:=6) ni.nd rL (Or.inl rL) (aL cQ bT au)) (aB (fX cK rL (o_ qr d8 (ak cO aq)) (bJ (i:=7) ni.nd rL (Or.inl rL)) (aB (aV (i:=5) ni.nd rL (Or.inl rL) (aL nG eO (bh Aw bA (aL cj fO (aY dO qr bG ay (ak bA aq))) (λ_ _=>rfl)))) (aG (aV (i:=6) ni.nd rL (Or.inl rL) (aL cQ fO (aY dO qr bG ay (ak bA aq))))))) (aG (dz (gC bE dr du jh bF (ak eO aq)))))))))) (aG (bC bF)))) ?_);calc⟨zsz 0,λL hL=>?_⟩;let sL:aD H (upd H L (HO.lst [])):=aD.upd hL;let eL:upd H L (HO.lst []) L=some (.lst (Ts [])):=aA;generalize upd H L (HO.lst [])=H0 at sL eL ⊢;calc(aj _ rL (aj _ rL (aX _ _ rL rL (by show (0:Int)<9;decide) (aJ _ _ rL rL (aJ c ((4+c%9).toNat) (by rw[cy qi];rfl) qi (λp ds H1 s1 J hp hdl=>?_))))));refine(bf p rL ⟨_,bH.of hp⟩ (n8 (K:=K) (a:=p) (xs:=ds.map V.int) (λi σ G=>∃(v3 v4 Y Z O:Option V) (ws:AB),σ=[some (.int c),some (.str (S ls)),some (.ref L),v3,v4,Y,Z,O]/\(∀b o,H1 b=some o->b≠L->G b=some o)/\G L=some (.lst (Ts ws))/\ws.length=i/\∀l∈ws,zj l)
  (QX none none none none none [] rL (λ_ _ e _=>e) (s1 _ _ eL) rL (λl h=>by cases h)) (λi σ G _ h=>?_) ?_ ?_))
 .let⟨_,_,_,_,_,_,_,kp,_⟩:=h;show bH.of (kp _ _ hp λz=>by subst z;rw[eL]at J;cases J)
 .intro i x σ G hx z;let⟨v3,v4,Y,Z,O,ws,rfl,kp,F,I,hw⟩:=z;rw[ck]at hx;let⟨n,hn,rfl⟩:=dL.mp hx;let hi:i<ds.length:=(ah.mp hn).1;let e0:=dE n (show (3:Int)≠0 by decide);let e1:=dP n (show (0:Int)<3 by decide);let f0:=dE (n/24) (show (8:Int)≠0 by decide);let f1:=dP (n/24) (show (0:Int)<8 by decide);calc(aj _ rL (aX _ _ rL rL (by show (0:Int)<3;decide) (aJ _ _ rL rL ?_)));refine⟨λσ H'=>H'=G/\∃m:Nat,σ=[some (.int c),some (.str (S ls)),some (.ref L),some (.int n),some (.int m),Y,Z,O]/\2<=m/\m<=9,?_,?_⟩
  .calc(aj _ rL (aX _ _ rL rL ⟨qo,qo⟩ (dG _ _ rL rL (by show (0:Int)<8;decide) rL (aj _ rL ?_))));calc jP (λ_=>?_) (λ_=>?_);.show(aj _ rL (aX _ _ rL rL ⟨qo,qo⟩ (aX _ _ rL rL (by show (0:Int)<8;decide) (aX _ _ rL rL rL (bf ((2+n/24%8).toNat) (by rw[cy qi];rfl) qi qi)))))
   .show⟨rL,bf ((2+n%3).toNat) (by rw[cy qi];rfl) qi qi⟩
  .intro σ H' z;let⟨rfl,m,rfl,m2,m9⟩:=z;calc(aj _ rL (aX _ _ rL rL ⟨qo,qo⟩ ?_));calc(aj _ rL (h_ _ rL qi qi ?_));refine mj (lo:=0) (λj σ H3=>H3=H'/\∃(kv:Option V) (l:List Nat) (r:Int),σ=[some (.int c),some (.str (S ls)),some (.ref L),some (.int n),some (.int m),some (.str (S l)),some (.int r),kv]/\l.length=j/\∀c∈l,isLet c) ⟨rL,qK O [] _ rL rL (λc h=>by cases h)⟩ ?_ ?_
   .intro j σ H3 hj z;let⟨rfl,kv,l,r,rfl,hl,ha⟩:=z;let hz:ls.length<=sizeLine:=av (aM qi);let⟨x,hx,hm⟩:=wJ (xs:=ls) (n:=ls.length) rL qi r;calc(aj _ rL (aj _ rL (aj _ rL (aj _ rL (bf ls rL hz (aX _ _ rL rL (by show (0:Int)<_;lia) (dW ls _ x rL rL hz hx (aX l [x] rL rL ?_ ?_))))))));.show av (aM (by show l.length+1<=1000;lia))
    .calc(aj _ rL (aj _ rL (bf ls rL hz (dG _ _ rL rL ⟨by show (0:Int)<_;lia,by show (ls.length:Int)<_;lia⟩ rL (qK _ (l++[x]) _ rL (by simp[hl]) (λy hy=>?_))))));rcases bv.mp hy with z|z;.show ha y z
     .rw[bc.mp z];show hA.az x hm
   .intro σ H3 z;let⟨rfl,kv,l,r,rfl,hl,ha⟩:=z;calc(bf _ rL (.inl ⟨rL,_,bH.of F⟩) (aj _ rL (dW L _ (.str (S l)) rL rL F (aM (by rw[aa];lia)) ?_)));calc(QX _ _ _ _ _ (ws++[l]) rL (λb o e ne=>by rw[aZ ne];show kp b o e ne) (by rw[aA];simp[Ts]) (by simp[I]) (λy hy=>?_));rcases bv.mp hy with z|z;.show hw y z
    .rw[bc.mp z];show⟨qi,qi,ha⟩
 .intro σ G z;let⟨v3,v4,Y,Z,O,ws,rfl,kp,F,I,hw⟩:=z;rw[aa,hdl]at I;show(aj _ rL (q L ws G (λb o e=>kp _ _ (s1 _ _ (sL _ _ e)) (aN e hL)) hL F qi qi hw))
def Uk:Sp:=λvs H Q _=>∃(c bl:Int) (ls:List Nat) (m:Nat),vs=[.int c,.str (S ls),.int m,.int bl]/\ZC ls/\m<=100/\∀(l:List Nat) (H':Hp),aD H H'->l.length=m->(∀c∈l,o8 c)->Q (.str (S l)) H'
def adJ (D:aP K mg "_law_tiles" Gg ["_law_cell","_law_letters_here","_law_many","_law_blanks"])(bG:mg "len"=none)(oK:cg P w K mg base "_law_stream" 1 ["_law_cell","_law_many"] uD):cg P w K mg base "_law_tiles" 2 ["_law_cell","_law_letters_here","_law_many","_law_blanks"] Uk:=by
 calc D.dM xr (λf bN A outer s H vs Q E hr h=>?_);let⟨c,bl,ls,m,rfl,hA,hm,q⟩:=h;let a1:=hA.lo;let a2:=hA.hi;let hz:ls.length<=sizeLine:=av (aM qi);calc(aj _ (aB (aV (i:=4) xr.nd rL (Or.inl rL) (bQ [] qB)) (aB (fX cK rL (oR (bI oK hr.mono rL (ak aH (ak bF aq)))) (bJ (i:=5) xr.nd rL (Or.inl rL)) (aG (cJ (QW.qt (zT (b_ jl (aL cj eO au) au (bM _)) (Gb (b_ vQ (gC bp PySem.F.slot_str_count PySem.F.type_str_count abb cO (ak (bQ [63] qB) aq)) bT (bM _))))) (aG (aV (i:=4) xr.nd rL (Or.inl rL) (aL nG cO (bQ [63] qB)))) (aG (aV (i:=4) xr.nd rL (Or.inl rL) (aL nG cO (bh Aw bA (aL cj (aL cQ eO au) (aY dO qr bG ay (ak bA aq))) (λ_ _=>rfl)))))))) (aG (bC cO)))) ?_);calc(aj _ rL (aj _ rL (aJ c m rL hm (λp ds H1 s1 hp0 hp O=>?_))));refine(bf p rL ⟨_,bH.of hp⟩ (n8 (K:=K) (a:=p) (xs:=ds.map V.int) (λi σ G=>G=H1/\∃(J:Option V) (l:List Nat),σ=[some (.int c),some (.str (S ls)),some (.int m),some (.int bl),some (.str (S l)),J]/\l.length=i/\∀c∈l,o8 c)
  ⟨rL,aJ none [] rL rL (λc h=>by cases h)⟩ (λi σ G _ h=>by let⟨rfl,_⟩:=h;show bH.of hp) ?_ ?_))
 .intro i x σ G hx z;let⟨rfl,J,l,rfl,hl,ht⟩:=z;rw[ck]at hx;let⟨n,hn,rfl⟩:=dL.mp hx;let hi:i<ds.length:=(ah.mp hn).1;let F:l.length+1<=sizeLine:=av (aM qi);let I:∀x,o8 x->(G=G/\∃(J:Option V) (Y:List Nat),[some (V.int c),some (.str (S ls)),some (.int m),some (.int bl),some (.str (S (l++[x]))),some (.int n)]=[some (.int c),some (.str (S ls)),some (.int m),some (.int bl),some (.str (S Y)),J]/\Y.length=i+1/\∀c∈Y,o8 c):=λx hx=>⟨rL,aJ _ (l++[x]) rL (by simp[hl]) (λy hy=>by
   rcases bv.mp hy with z|z;.show ht y z
   .rw[bc.mp z];show hx)⟩
  let⟨y,hy,Z⟩:=wJ (xs:=ls) (n:=ls.length) rL qi (n/9);let j:=(show o8 y from .inl (hA.az y Z))
  calc(aj _ rL (dG _ _ rL rL (by show (0:Int)<9;decide) rL (aj _ rL ?_)));refine jP (λ_=>?_) (λ_=>?_)
  .calc(bf _ rL rL (aJ l [63] rL rL (λk=>(aj _ rL (aJ _ _ rL rL (aj _ rL ?_))))));calc jP (λ_=>?_) (λ_=>?_);.show(aj _ rL (aX l [63] rL rL F (I 63 (.inr rL))))
   .show(aj _ rL (aj _ rL (aj _ rL (aX _ _ rL rL ⟨qo,qo⟩ (aj _ rL (bf ls rL hz (aX _ _ rL rL (by show (0:Int)<_;lia) (dW ls _ y rL rL hz hy (aX l [y] rL rL F (I y j))))))))))
  .show(aj _ rL (aj _ rL (aj _ rL (aX _ _ rL rL ⟨qo,qo⟩ (aj _ rL (bf ls rL hz (aX _ _ rL rL (by show (0:Int)<_;lia) (dW ls _ y rL rL hz hy (aX l [y] rL rL F (I y j))))))))))
 .intro σ G z;let⟨rfl,J,l,rfl,hl,ht⟩:=z;rw[aa,O]at hl;show(aj _ rL (q l G s1 hl ht))
def chunk (r k:Nat)(cs:List Nat):List (List Nat):=(List.range r).map λi=>(cs.drop (i*k)).take k
def Pj {r k:Nat}{cs:List Nat}(h:cs.length=r*k):Blk r k (chunk r k cs):=by
 calc⟨by simp[chunk],λl hl=>?_⟩;let⟨i,hi,rfl⟩:=be.mp hl;let j:=gL.mp hi;let D:i*k+k<=r*k:=by have:(i+1)*k<=r*k:=nL k j;rw[pi]at this;show this
 rw[am,ba];lia
def Pk {r k:Nat}{cs:List Nat}{j:Nat->Prop}(h:∀c∈cs,j c):∀l∈chunk r k cs,∀c∈l,j c:=by intro l hl c D;let⟨i,hi,rfl⟩:=be.mp hl;show h c (eQ (de D))
def X_:Sp:=λvs H Q _=>∃(c:Int) (ls:List Nat),vs=[.int c,.str (S ls)]/\ZC ls/\
 ∀(t pr pm pb:Addr) (r w:Nat) (aF aO:AB) (i j:Nat) (H':Hp),aD H H'->H' t=some (.tup [.ref pr,.ref pm,.ref pb])->H' pr=some (.tup (Ts aF))->H' pm=some (.tup (Ts aO))->H' pb=some (.tup [.int i,.int j])->R6 r w aF aO i j->Q (.ref t) H'
def adK:List Nat:=MK++(List.replicate 8 [46]).flatten
def af0:∀c∈adK,Kg c:=by unfold Kg;decide
def adL (cs:List Nat)(j x:Nat):(Ts (ones cs)).set j (.str (S [x]))=Ts (ones (cs.set j x)):=by simp only[Ts,ones,nK]
def mem_set {cs:List Nat}{j x:Nat}{p:Nat->Prop}(h:∀c∈cs,p c)(hx:p x):∀c∈cs.set j x,p c:=λc D=>by
 rcases fN D with e|e;.show h c e
 .rw[e];show hx
def aeU {y:Nat}(h:isLet y):PyProof.Rows.up1 y=y-32:=by let h1:=h.1;let h2:=h.2;unfold PyProof.Rows.up1;rw[if_pos qi]
def af2 (D:aP K mg "_law_rows" Ka ["_law_cell","_law_letters_here"])(d8:mg "range"=none)(bG:mg "len"=none)(cT:mg "tuple"=none)(oK:cg P w K mg base "_law_stream" 1 ["_law_cell","_law_many"] uD):cg P w K mg base "_law_rows" 2 ["_law_cell","_law_letters_here"] X_:=by
 calc D.dM j8 (λf bN A outer s H vs Q E hr h=>?_);let⟨c,ls,rfl,hA,q⟩:=h;let a1:=hA.lo;let a2:=hA.hi;let hz:ls.length<=sizeLine:=av (aM qi);calc(aj _ (aB (aV (i:=2) j8.nd rL (Or.inl rL) (aL cM au (aL cj aH au))) (aB (aV (i:=3) j8.nd rL (Or.inr rL) (aL cM au (aL cj (aL cQ aH au) au))) (aB (gK (cJ (b_ jl (aL cj (aL cQ aH au) au) au (bM _)) (aB (aV (i:=2) j8.nd rL (Or.inl rL) (aL cM au (aL cj (aL cQ aH au) au))) (aG (aV (i:=3) j8.nd rL (Or.inr rL) (aL cM au (aL cj (aL cQ aH au) au))))) bO)) (aB (aV (i:=4) j8.nd rL (Or.inl rL) (aL aaS (iW (ak (bQ [46] qB) aq)) (aL jj bF bT))) (aB (aV (i:=5) j8.nd rL (Or.inl rL) (iW aq)) (aB (fX cK rL (oR (bI oK hr.mono rL (ak (aL cM aH au) (ak (aL jj bF bT) aq)))) (bJ (i:=6) j8.nd rL (Or.inl rL)) (aB (dz (gC bE dr du jh eO (ak (bh Aw (aL nG (bQ [46,50,51,52,98,99,100] qB) (aL afl (bQ [46] qB) au)) (aL cj (aL cQ fO au) au) (λ_ _=>rfl)) aq))) (aG (gK (cJ (QW.qt (zT (b_ jl (aL cj (aL cQ aH au) au) au (bM _)) (Gb (b_ jl (aL cj fO au) au (bM _))))) (aB (aV (i:=7) j8.nd rL (Or.inl rL) (bh Aw bA (aL cj (aL cQ fO au) (aY dO qr bG ay (ak bA aq))) (λ_ _=>rfl))) (aB (gK (cJ (b_ jl (aL cj (aL cQ fO au) au) au (bM _)) (aG (aV (i:=7) j8.nd rL (Or.inl rL) (wV bp PySem.F.slot_str_upper PySem.F.type_str_upper aa4 gQ))) bO)) (aG (u9 gQ (Rz cO (aL cj (aL cQ fO au) (aY bY qr bG ay (ak cO aq))) set_list))))) bO))))) (aB (aV (i:=8) j8.nd rL (Or.inl rL) (cZ (ak (aL cj (aL cQ aH au) bF) (ak (aL cj (aL cQ aH au) bT) aq)))) (aB (aV (i:=9) j8.nd rL (Or.inl rL) (iW aq)) (aB (fX cK rL (oR (iW (ak cO (ak eO aq)))) (bJ (i:=10) j8.nd rL (Or.inr rL)) (aG (dz (gC bE dr du jh j4 (ak (d_ jx qr cT dq (ak (j5 rL (jz.of j8.nd qA) (aa5 qr d8 (ak au (ak (aY bY qr bG ay (ak iu aq)) (ak bT aq)))) (λ_ _ _ _ _=>fu) (λ_ _ _ _ _=>(RJ K bp dA dC (HW K) (bQ [] qB) (ak (dH (ac3 K) mz (dI aH) (dI (aL cM aH cO))) aq)))) aq)) aq))))) (aG (bC (cZ (ak (bh cW j4 au (λ_ _=>rfl)) (ak (bh cW j4 au (λ_ _=>rfl)) (ak jZ aq))))))))))))))) ?_);calc(aj _ rL (aX _ _ rL rL (by show (0:Int)<5;decide) (aJ _ _ rL rL ?_)));calc(aj _ rL (aX _ _ rL rL ⟨qo,qo⟩ (aX _ _ rL rL (by show (0:Int)<5;decide) (aJ _ _ rL rL ?_))));refine⟨λσ H'=>H'=H/\∃r w:Nat,σ=[some (.int c),some (.str (S ls)),some (.int r),some (.int w),none,none,none,none,none,none,none]/\1<=r/\r<=9/\1<=w/\w<=9,?_,?_⟩
 .calc(aj _ rL (aX _ _ rL rL ⟨qo,qo⟩ (dG _ _ rL rL (by show (0:Int)<8;decide) rL (aj _ rL ?_))));refine jP (λ_=>?_) (λ_=>?_)
  .calc(aj _ rL (aX _ _ rL rL ⟨qo,qo⟩ (aX _ _ rL rL (by show (0:Int)<8;decide) (aJ _ _ rL rL ?_))));calc(aj _ rL (aX _ _ rL rL ⟨qo,qo⟩ (aX _ _ rL rL (by show (0:Int)<8;decide) (aX _ _ rL rL rL (dG ((2+c/200%8).toNat) ((2+c/1600%8).toNat) ?_ qi qi qi qi)))));rw[cy qi,cy qi];rfl
  .calc⟨rL,dG ((2+c%5).toNat) ((2+c/5%5).toNat) ?_ qi qi qi qi⟩;rw[cy qi,cy qi];rfl
 intro σ H' z;let⟨rfl,r,w,rfl,r1,r9,w1,w9⟩:=z;let hrw:r*w<=81:=gh r9 w9;let ak_:1<=r*w:=gh r1 w1;let erw:(r:Int)*(w:Int)=((r*w:Nat):Int):=by push_cast;rfl
 calc⟨zsz 1,λL0 h0=>?_⟩;calc(aj _ rL (aj _ rL (aX _ _ rL rL (.inl ⟨qi,qi⟩) (J5 L0 _ _ rL rL aA (by rw[erw];lia) (by rw[erw];lia) ?_ (λL hL=>?_)))));.rw[erw,eI];show av (aM (by simp only[eh,p_];lia))
 rw[erw,eI];let sL:aD H' (upd (upd H' L0 (HO.lst [.str (S [46])])) L (HO.lst (List.replicate (r*w) [V.str (S [46])]).flatten)):=(aD.upd h0).trans (aD.upd hL);let eL:upd (upd H' L0 (HO.lst [.str (S [46])])) L (HO.lst (List.replicate (r*w) [V.str (S [46])]).flatten) L=some (.lst (Ts (ones (List.replicate (r*w) 46)))):=by rw[aA];congr 2;simp[Ts,ones]
 let fL:H' L=none:=by
  cases e:H' L with| none=>rfl| some o=>rw[aD.upd h0 _ _ e]at hL;cases hL
 generalize upd (upd H' L0 (HO.lst [.str (S [46])])) L (HO.lst (List.replicate (r*w) [V.str (S [46])]).flatten)=H1 at sL eL ⊢;calc⟨zsz 0,λM hM=>?_⟩;let sM:aD H1 (upd H1 M (HO.lst [])):=aD.upd hM;let eM:upd H1 M (HO.lst []) M=some (.lst (Ts (ones []))):=aA;let LM:L≠M:=aN eL hM;generalize upd H1 M (HO.lst [])=H2 at sM eM ⊢;calc(aj _ rL (aJ _ _ rL rL (aj _ rL (aj _ rL (aX _ _ rL rL (.inl ⟨qi,qi⟩) (aJ (c+3) (r*w) (by show [V.int (c+3),V.int ((r:Int)*(w:Int))]=_;rw[erw]) qi (λp ds H3 s3 hp0 hp hdl=>?_)))))));let pL:p≠L:=λz=>by subst z;rw[sM _ _ eL]at hp0;cases hp0
 let pM:p≠M:=λz=>by subst z;rw[eM]at hp0;cases hp0
 refine(bf p rL ⟨_,bH.of hp⟩ (n8 (K:=K) (a:=p) (xs:=ds.map V.int) (λi σ G=>∃(v6 v7:Option V) (cs F:List Nat),σ=[some (.int c),some (.str (S ls)),some (.int r),some (.int w),some (.ref L),some (.ref M),v6,v7,none,none,none]/\(∀b o,H3 b=some o->b≠L->b≠M->G b=some o)/\G L=some (.lst (Ts (ones cs)))/\cs.length=r*w/\(∀c∈cs,CJ c)/\G M=some (.lst (Ts (ones F)))/\F.length=i/\(∀c∈F,Kg c))
  (nq none none (List.replicate (r*w) 46) [] rL (λ_ _ e _ _=>e) (s3 _ _ (sM _ _ eL)) cE (λc hc=>.inl (List.eq_of_mem_replicate hc)) (s3 _ _ eM) rL (λc h=>by cases h)) (λi σ G _ h=>?_) ?_ ?_))
 .let⟨_,_,_,_,_,kp,_⟩:=h;show bH.of (kp _ _ hp pL pM)
 .intro i x σ G hx z;let⟨v6,v7,cs,F,rfl,kp,z_,J,Yb,Hg,O,hmk⟩:=z;rw[ck]at hx;let⟨n,hn,rfl⟩:=dL.mp hx;let hi:i<ds.length:=(ah.mp hn).1;let⟨x,hx,hxm⟩:=wJ (xs:=adK) (n:=15) qo qo (n/11);calc(bf _ rL (.inl ⟨rL,_,bH.of Hg⟩) (Ba [46] 8 rL rL qo qo qo (aX MK _ rL rL qo (aj _ rL (aX _ _ rL rL ⟨qo,qo⟩ (aX _ _ rL rL (by show (0:Int)<15;decide) (dW adK _ x rL rL qo hx (dW M _ _ rL rL Hg (aM (by rw[aa,aa];lia)) ?_))))))));let hM5:upd G M (HO.lst (Ts (ones F)++[.str (S [x])])) M=some (.lst (Ts (ones (F++[x])))):=by rw[aA];simp[Ts,ones]
  let hL5:upd G M (HO.lst (Ts (ones F)++[.str (S [x])])) L=some (.lst (Ts (ones cs))):=by rw[aZ LM];show z_
  let kp5:∀b o,H3 b=some o->b≠L->b≠M->upd G M (HO.lst (Ts (ones F)++[.str (S [x])])) b=some o:=λb o e n1 n2=>by rw[aZ n2];show kp b o e n1 n2
  generalize upd G M (HO.lst (Ts (ones F)++[.str (S [x])]))=H5 at hM5 hL5 kp5 ⊢;let air:∀c∈F++[x],Kg c:=λy hy=>by
   rcases bv.mp hy with z|z;.show hmk y z
   .rw[bc.mp z];show af0 x hxm
  let stay:∀v7',∃(v6 v7:Option V) (cs F:List Nat),[some (V.int c),some (.str (S ls)),some (.int r),some (.int w),some (.ref L),some (.ref M),some (.int n),v7',none,none,none]=[some (.int c),some (.str (S ls)),some (.int r),some (.int w),some (.ref L),some (.ref M),v6,v7,none,none,none]/\(∀b o,H3 b=some o->b≠L->b≠M->H5 b=some o)/\H5 L=some (.lst (Ts (ones cs)))/\cs.length=r*w/\(∀c∈cs,CJ c)/\H5 M=some (.lst (Ts (ones F)))/\F.length=i+1/\(∀c∈F,Kg c):=λv7'=>(nq _ _ cs (F++[x]) rL kp5 hL5 J Yb hM5 (by simp[O]) air)
  calc⟨λσ Y=>∃(v6 v7:Option V) (cs F:List Nat),σ=[some (.int c),some (.str (S ls)),some (.int r),some (.int w),some (.ref L),some (.ref M),v6,v7,none,none,none]/\(∀b o,H3 b=some o->b≠L->b≠M->Y b=some o)/\Y L=some (.lst (Ts (ones cs)))/\cs.length=r*w/\(∀c∈cs,CJ c)/\Y M=some (.lst (Ts (ones F)))/\F.length=i+1/\(∀c∈F,Kg c),?_,λσ Y h=>h⟩;calc(aj _ rL (aX _ _ rL rL ⟨qo,qo⟩ (dG _ _ rL rL (by show (0:Int)<3;decide) rL (aj _ rL ?_))));refine jP (λ_=>?_) (λ_=>?_)
  .calc(aj _ rL (dG _ _ rL rL (by show (0:Int)<9;decide) rL (aj _ rL ?_)));refine jP (λ_=>?_) (λ_=>?_)
   .let⟨y,hy,hym⟩:=wJ (xs:=ls) (n:=ls.length) rL qi (n/9);let yz:=hA.az y hym;calc(aj _ rL (aj _ rL (aX _ _ rL rL ⟨qo,qo⟩ (aj _ rL (bf ls rL hz (aX _ _ rL rL (by show (0:Int)<_;lia) (dW ls _ y rL rL hz hy ?_)))))));refine⟨λσ Y=>Y=H5/\∃u:Nat,σ=[some (V.int c),some (.str (S ls)),some (.int r),some (.int w),some (.ref L),some (.ref M),some (.int n),some (.str (S [u])),none,none,none]/\rD u,?_,?_⟩
    .calc(aj _ rL (aX _ _ rL rL ⟨qo,qo⟩ (dG _ _ rL rL (by show (0:Int)<5;decide) rL (aj _ rL ?_))));calc jP (λ_=>?_) (λ_=>⟨rL,aj y rL (abo yz)⟩);calc(bf _ rL rL ⟨[y],rL,rL,(by show 1<=1000;decide),(λc hc=>by rw[bc.mp hc];have:=yz.2;lia),rL,aj (PyProof.Rows.up1 y) rL ?_⟩);have:PyProof.Rows.up1 y=y-32:=aeU yz;rw[this];show abp yz
    .intro σ Y z;let⟨rfl,u,rfl,hu⟩:=z;let hpos:(0:Int)<((r*w:Nat):Int):=qi;let b0:=dE (n/100) (show ((r*w:Nat):Int)≠0 by lia);let b1:=dP (n/100) hpos;let qF:(Ts (ones cs)).length=r*w:=by rw[aa,aa,J]
     refine(aj _ rL (aj _ rL (aj _ rL (aX _ _ rL rL ⟨qo,qo⟩ (aj _ rL (aJ L _ rL (.inl (bH.of hL5)) (aX _ _ rL rL (by show (0:Int)<_;rw[qF];show hpos) (bw L _ _ ((n/100%((r*w:Nat):Int)).toNat) rL rL hL5 ?_ ?_))))))))
     .unfold Cy;rw[qF,if_pos qi,if_pos qi]
     .rw[adL];calc(nq _ _ (cs.set (n/100%((r*w:Nat):Int)).toNat u) (F++[x]) rL (λb o e n1 n2=>by rw[aZ n1];show kp5 b o e n1 n2) aA (by rw[fb];show J) (mem_set Yb (.inr hu)) ?_ (by simp[O]) air);rw[aZ LM.symm];show hM5
   .show stay _
  .show stay _
 .intro σ G z;let⟨v6,v7,cs,F,rfl,kp,z_,J,Yb,Hg,O,hmk⟩:=z;rw[aa,hdl]at O;let sm:aD H' G:=λb o e=>kp _ _ (s3 _ _ (sM _ _ (sL _ _ e))) (aN e fL) (λz=>by subst z;rw[sL _ _ e]at hM;cases hM);calc(aj _ rL (aX _ _ rL rL ⟨qo,qo⟩ (aj _ rL (aX _ _ rL rL (by show (0:Int)<_;lia) (aj _ rL (aX _ _ rL rL ⟨qo,qo⟩ (aj _ rL (dG _ _ rL rL (by show (0:Int)<_;lia) (zsz 2) (λpb hpb=>?_)))))))));let d0:=dE (c/38400) (show (r:Int)≠0 by lia);let d1:=dP (c/38400) (show (0:Int)<r by lia);let f0:=dE (c/345600) (show (w:Int)≠0 by lia);let f1:=dP (c/345600) (show (0:Int)<w by lia);let sB:aD G (upd G pb (HO.tup [V.int (c/38400%r),V.int (c/345600%w)])):=aD.upd hpb;let eB:upd G pb (HO.tup [V.int (c/38400%r),V.int (c/345600%w)]) pb=some (.tup [.int ((c/38400%r).toNat:Nat),.int ((c/345600%w).toNat:Nat)]):=by
   rw[aA,cy d0,cy f0]
  generalize upd G pb (HO.tup [V.int (c/38400%r),V.int (c/345600%w)])=H5 at sB eB ⊢;calc⟨zsz 0,λT hT=>?_⟩;let sT:aD H5 (upd H5 T (HO.lst [])):=aD.upd hT;let eT:upd H5 T (HO.lst []) T=some (.lst (([]:List Addr).map V.ref)):=aA;let fT:H' T=none:=by
   cases e:H' T with| none=>rfl| some o=>rw[sB _ _ (sm _ _ e)]at hT;cases hT
  generalize upd H5 T (HO.lst [])=Y at sT eT ⊢;calc(aj _ rL (bf _ rL (zsz 2) (λZ hZ=>?_)));let sZ:aD Y (upd Y Z (HO.lst [V.ref L,V.ref M])):=aD.upd hZ;let eZ:upd Y Z (HO.lst [V.ref L,V.ref M]) Z=some (.lst ([L,M].map V.ref)):=aA;let ZT:Z≠T:=(aN eT hZ).symm;generalize upd Y Z (HO.lst [V.ref L,V.ref M])=H7 at sZ eZ ⊢;let s47:aD G H7:=(sB.trans sT).trans sZ;let get:∀{i:Nat} {x:V},([L,M].map V.ref)[i]?=some x->∃a ds,x=.ref a/\[cs,F][i]?=some ds/\H7 a=some (.lst (Ts (ones ds)))/\ds.length=r*w:=λ{i x} h=>by
   match i,h with
   | 0,h=>cases h;show(aX L cs rL rL (s47 _ _ z_) J)
   | 1,h=>cases h;show(aX M F rL rL (s47 _ _ Hg) O)
   | i+2,h=>simp at h
  refine(bf Z rL ⟨_,bH.of eZ⟩ (n8 (K:=K) (a:=Z) (xs:=[L,M].map V.ref) (λi σ H8=>∃(v:Option V) (as:List Addr),σ=[some (.int c),some (.str (S ls)),some (.int r),some (.int w),some (.ref L),some (.ref M),v6,v7,some (.ref pb),some (.ref T),v]/\(∀b o,H7 b=some o->b≠T->H8 b=some o)/\H8 T=some (.lst (as.map V.ref))/\as.length=i/\∀k a ds,as[k]?=some a->[cs,F][k]?=some ds->H8 a=some (.tup (Ts (chunk r w ds))))
   (dG none [] rL (λ_ _ e _=>e) (sZ _ _ eT) rL (λk a ds (h:([]:List Addr)[k]?=some a) _=>by rw[List.getElem?_nil]at h;cases h)) (λi σ H8 _ h=>?_) ?_ ?_))
  .let⟨_,_,_,kp,_⟩:=h;show bH.of (kp _ _ eZ ZT)
  .intro i x σ H8 hx z;let⟨v,as,rfl,kp8,I,hal,hch⟩:=z;let⟨a,es,rfl,hes,ha7,hel⟩:=get hx;let aT:a≠T:=oX ha7 (sZ _ _ eT) λz=>by
    injection z with z;cases es with| nil=>simp at hel;lia| cons e es=>cases z
   let ha8:=kp8 _ _ ha7 aT;let qF:(Ts (ones es)).length=r*w:=by rw[aa,aa,hel]
   let hi2:i<2:=(ah.mp hx).1;calc(bf _ rL (.inl ⟨rL,_,bH.of I⟩) (aj _ rL (aJ a _ rL (.inl (bH.of ha8)) (aj _ rL (Ba r w (by rw[qF]) r1 r9 w1 w9 (λN hN=>?_))))));refine Vz (λi ys H9=>ys=Ts ((List.range i).map λi=>(es.drop (i*w)).take w)/\H9 N=some (.lst ys)/\aD H8 H9) (bV rL aA (aD.upd hN)) ?_ ?_
   .intro k ys H9 hk z;let⟨rfl,hN9,Ul⟩:=z;let e1:(0:Int)+(k:Int)*(w:Int)=((k*w:Nat):Int):=by push_cast;lia
    let e2:(0:Int)+(k:Int)*(w:Int)+(w:Int)=((k*w+w:Nat):Int):=by push_cast;lia
    let hik:k*w+w<=r*w:=by have:(k+1)*w<=r*w:=nL w hk;rw[pi]at this;show this
    calc⟨rL,aj _ rL (aj _ rL (aj _ rL (aj _ rL (aj _ rL (aJ _ _ rL rL (aj _ rL (aJ a _ rL (bH.of (Ul _ _ ha8)) (λt ht=>?_))))))))⟩;let ec:fV (Ts (ones es)) (some ((0:Int)+(k:Int)*(w:Int))) (some ((0:Int)+(k:Int)*(w:Int)+(w:Int)))=Ts (ones ((es.drop (k*w)).take w)):=by rw[e2,e1,afH qi (by rw[qF];show hik),lT];simp only[Ts,ones,List.map_take,oz]
    let ajN:((es.drop (k*w)).take w).length=w:=by rw[am,ba];lia
    let s3:=Ul.dX (o:=HO.lst (fV (Ts (ones es)) (some ((0:Int)+(k:Int)*(w:Int))) (some ((0:Int)+(k:Int)*(w:Int)+(w:Int))))) (Ul.free ht);let nLt:N≠t:=aN hN9 ht;calc(dG t (ones ((es.drop (k*w)).take w)) rL rL (bH.of (by rw[aA,ec])) (by rw[nu,ajN];lia) ?_);rw[nu];calc(bV (by rw[aZ nLt];show hN9) (by rw[aa,aa,List.length_range];show aM qi) (iU.mk hk (bV ?_ aA (s3.dX hN))));rw[List.range_succ,bq];simp[Ts]
   .intro ys H9 z;let⟨rfl,hN9,Ul⟩:=z;calc(dN N _ rL (.inl ⟨bH.of hN9,λt ht=>?_⟩));let st:aD H8 (upd H9 t (HO.tup (Ts (chunk r w es)))):=Ul.dX (Ul.free ht);let et:upd H9 t (HO.tup (Ts (chunk r w es))) t=some (.tup (Ts (chunk r w es))):=aA;let hT9:=st _ _ I;let tT:t≠T:=(aN (Ul _ _ I) ht).symm;calc(dW T _ (.ref t) rL rL hT9 (aM (by rw[aa,hal];lia)) ?_);calc(dG _ (as++[t]) rL (λb o e n=>by rw[aZ n];show st _ _ (kp8 _ _ e n)) (by rw[aA];simp) (by simp[hal]) (λk b ds' h1 h2=>?_));by_cases hk:k<as.length
    .rw[cS hk]at h1;have:=hch k b ds' h1 h2;rw[aZ (oX this I λz=>nomatch z)];show st _ _ this
    .let hk2:=(ah.mp h1).1;rw[aE]at hk2;let hk0:k=as.length:=by simp at hk2;lia
     subst hk0;rw[cz (ai _),nI]at h1;cases h1;rw[hal,hes]at h2;cases h2;rw[aZ tT];show et
  .intro σ H8 z;let⟨v,as,rfl,kp8,I,hal,hch⟩:=z
   match as,hal with| [pr,pm],_=>have h1:=hch 0 pr cs rL rfl;let h2:=hch 1 pm F rL rfl;calc(aj _ rL (bw T _ _ (.ref pr) rL rL (bH.of I) (aQ (j:=0) rL) (aj _ rL (bw T _ _ (.ref pm) rL rL (bH.of I) (aQ (j:=1) rL) (bf _ rL (zsz 3) (λt ht=>?_))))));let sE:aD H8 (upd H8 t (HO.tup [V.ref pr,V.ref pm,V.ref pb])):=aD.upd ht;let pbT:pb≠T:=aN eB hT;refine q t pr pm pb r w (chunk r w cs) (chunk r w F) (c/38400%r).toNat (c/345600%w).toNat _ (λb o e=>sE _ _ (kp8 _ _ (s47 _ _ (sm _ _ e)) (aN e fT))) aA (sE _ _ h1) (sE _ _ h2) (sE _ _ (kp8 _ _ (sZ _ _ (sT _ _ eB)) pbT)) ⟨r1,r9,w1,w9,Pj J,Pj O,Pk Yb,Pk hmk,qi,qi⟩
structure Um where
 r:Nat
 w:Nat
 aF:List (List Nat)
 aO:List (List Nat)
 bi:Nat
 bj:Nat
 ws:List (List Nat)
 kvs:List (Key×V)
 bn:Int
 bm:Int
 size:Nat
 racks:List (List Nat)
 bag:List Nat
structure yO (C:Addr)(H:Hp)(p pw:Addr)(Z:Um):Prop where
 ex:∃b d pb pr,H p=some (.tup [.ref b,.ref pw,.ref d,.ref pb,.int Z.size,.ref pr,.str (S Z.bag)])/\cX C H b Z.r Z.w Z.aF Z.aO Z.bi Z.bj/\H d=some (.dK Z.kvs)/\H pb=some (.tup [.int Z.bn,.int Z.bm])/\H pr=some (.tup (Ts Z.racks))
 wl:H pw=some (.lst (Ts Z.ws))
structure aah (Z:Um):Prop where
 w1:4<=Z.ws.length
 w2:Z.ws.length<=12
 wz:∀l∈Z.ws,zj l
 wd:WD Z.kvs
 wb:WB 1000000 Z.kvs
 s1:1<=Z.size
 s7:Z.size<=7
 n1:1<=Z.racks.length
 n4:Z.racks.length<=4
 r7:∀l∈Z.racks,l.length<=Z.size/\∀c∈l,o8 c
 b6:Z.bag.length<=60
 bt:∀c∈Z.bag,o8 c
def Uo {l:List Nat}{lo hi:Option Int}{c:Nat}(h:c∈iM l lo hi):c∈l:=eQ (de h)
def adM {l:List Nat}{a:Nat}{b:Int}{n:Nat}(h0:0<=b)(h:b<=a+n):(iM l (some (a:Int)) (some b)).length<=n:=by let⟨b,rfl⟩:=jp h0;unfold iM;rw[am,ba,HT.jX,HT.jX];lia
def Uq (K:W.Frag)(C:Addr):Sp:=λvs H Q _=>∃(a:Addr) (ns:List Int),vs=[.ref a]/\bH K H a (ns.map V.int)/\∀(p pw:Addr) (Z:Um) (H':Hp),aD H H'->H pw=none->yO C H' p pw Z->aah Z->Q (.ref p) H'
def adN {C f0:Addr}{eV:FuncData}(D:aP K mg "_law_parts" Gh ["_law_script"])(d8:mg "range"=none)(bG:mg "len"=none)(cT:mg "tuple"=none)(tH:mg "min"=none)(Ig:mg "Board"=some (.ref C))(Mu:Mk K C f0)(Mv:cA P w K mg base dJ 5 f0 eV ["self","rows","marks","begin"] (Ms C))(Mw:bR K eV ["self","rows","marks","begin"] [])(rG:cg P w K mg base "_law_cell_at" 1 ["_law_script","_law_k"] (abn K))(ab0:cg P w K mg base "_law_letters" 1 ["_law_cell"] abZ)(af3:cg P w K mg base "_law_words" 2 ["_law_cell","_law_letters_here"] Uj)(ais:cg P w K mg base "_law_rows" 2 ["_law_cell","_law_letters_here"] X_)(af4:cg P w K mg base "_law_tiles" 2 ["_law_cell","_law_letters_here","_law_many","_law_blanks"] Uk):cg P w K mg base "_law_parts" 7 ["_law_script"] (Uq K C):=by
 calc D.dM fY (λf bN A outer s H vs Q E J h=>?_);let⟨a,ns,rfl,hS,q⟩:=h;let hu:=QD J;calc(aj _ (aB (aV (i:=1) fY.nd rL (Or.inl rL) (bI ab0 J.mono rL (ak (bI rG J.mono rL (ak aH (ak au aq))) aq))) (aB (aV (i:=2) fY.nd rL (Or.inl rL) (bI rG J.mono rL (ak aH (ak au aq)))) (aB (aV (i:=3) fY.nd rL (Or.inl rL) (aL cM au (aL cj bF au))) (aB (aV (i:=4) fY.nd rL (Or.inl rL) (aL cM au (aL cj (aL cQ bF au) au))) (aB (aV (i:=5) fY.nd rL (Or.inl rL) (aL jj au bT)) (aB (gK (cJ (b_ jl (aL cj (aL cQ bF au) au) au (bM _)) (aG (aV (i:=5) fY.nd rL (Or.inl rL) (aL cj (aL cQ bF au) au))) bO)) (aB (gK (cJ (b_ jl (aL cj (aL cQ bF au) au) au (bM _)) (aG (aV (i:=5) fY.nd rL (Or.inl rL) (aL cj (aL cQ bF au) au))) bO)) (aB (aV (i:=6) fY.nd rL (Or.inl rL) (bI af4 J.mono rL (ak (bI rG J.mono rL (ak aH (ak au aq))) (ak bA (ak (aL cM (aL jj cO bT) eO) (ak au aq)))))) (aB (aV (i:=7) fY.nd rL (Or.inl rL) (iW aq)) (aB (fX cK rL (o_ qr d8 (ak cO aq)) (bJ (i:=8) fY.nd rL (Or.inl rL)) (aB (aV (i:=9) fY.nd rL (Or.inl rL) (aL cQ (aL cj (aL HN (bI rG J.mono rL (ak aH (ak au aq))) (aL cM jZ au)) au) au)) (aG (dz (gC bE dr du jh gQ (ak (dH qu fO (dI (aL jj jZ bT)) (dI (aL oM (aL jj (aL cM jZ au) bT) (aY (Oa rL) qr tH mE (ak j4 (ak (aL oM bT au) aq)))))) aq)))))) (aB (gK (cJ (b_ jl (aL cj (aL cQ bF au) au) au (bM _)) (aG (u9 (bQ [] qB) (Rz gQ (aL cj (aL cQ bF au) cO) set_list))) bO)) (aB (aV (i:=10) fY.nd rL (Or.inl rL) Rv) (aB (fX cK rL (rP (dH qu bA fJ (dI (aL cM au (aL cj (aL cQ bF au) au))))) (bJ (i:=11) fY.nd rL (Or.inl rL)) (aG (W3 hu iu mz (aL cM (aL cj (aL HN bF (aL cM (aY aaY qr bG ay (ak iu aq)) au)) au) (aL cj (aL cQ bF au) (aL Rm au au))) rL))) (aB (aV (i:=12) fY.nd rL (Or.inl rL) (cZ (ak (aL cM au (aL cj (aL cQ bF au) au)) (ak (aL cj (aL cQ bF au) au) aq)))) (aB (u9 (bI ais J.mono rL (ak (bI rG J.mono rL (ak aH (ak au aq))) (ak bA aq))) (qC rL (cD (bJ (i:=13) fY.nd rL (Or.inl rL)) (cD (bJ (i:=14) fY.nd rL (Or.inl rL)) (cD (bJ (i:=15) fY.nd rL (Or.inl rL)) oO))))) (aB (aV (i:=16) fY.nd rL (Or.inl rL) (pP Mu Mv J.mono rL Ig Mw .nil eG (ak u_ (ak (qv 14) (ak (qv 15) aq))))) (aB (aV (i:=17) fY.nd rL (Or.inl rL) (bI af3 J.mono rL (ak (aL cQ (bI rG J.mono rL (ak aH (ak au aq))) au) (ak bA aq)))) (aG (bC (cZ (ak (qv 16) (ak (qv 17) (ak iu (ak nJ (ak bT (ak (d_ jx qr cT dq (ak gQ aq)) (ak (dH qu fO (dI (aL jj cO bT)) fJ) aq))))))))))))))))))))))))))) ?_);calc(aj _ rL (qK a ns 0 rL hS (λv0=>(aj v0 rL (λls hA h4=>?_)))));let a1:=hA.lo;let hz:ls.length<=sizeLine:=av (aM qi);calc(aj _ rL (qK a ns 1 rL hS (λc=>?_)));calc(aj _ rL (aX _ _ rL rL (by show (0:Int)<7;decide) (aJ _ _ rL rL ?_)));calc(aj _ rL (aX _ _ rL rL ⟨qo,qo⟩ (aX _ _ rL rL (by show (0:Int)<4;decide) (aJ _ _ rL rL ?_))));calc(aj _ rL (aX _ _ rL rL (.inl ⟨qo,qo⟩) ?_));refine⟨λσ H'=>H'=H/\∃size j few:Nat,σ=[some (.ref a),some (.str (S ls)),some (.int c),some (.int size),some (.int j),some (.int few),none,none,none,none,none,none,none,none,none,none,none,none]/\1<=size/\size<=7/\1<=j/\j<=4/\few<=60,?_,?_⟩
 .calc(aj _ rL (aX _ _ rL rL ⟨qo,qo⟩ (dG _ _ rL rL (by show (0:Int)<4;decide) rL (aj _ rL ?_))));refine jP (λ_=>?_) (λ_=>?_)
  .calc(aj _ rL (aX _ _ rL rL ⟨qo,qo⟩ (dG _ _ rL rL (by show (0:Int)<4;decide) rL (qL ((1+c%7).toNat) ((1+c/7%4).toNat) ((c/112%4).toNat) ?_ qi qi qi qi qi))));rw[cy qi,cy qi,cy qi];rfl
  .calc⟨rL,qL ((1+c%7).toNat) ((1+c/7%4).toNat) ((2*(1+c%7)).toNat) ?_ qi qi qi qi qi⟩;rw[cy qi,cy qi,cy qi];rfl
 intro σ H' z;let⟨rfl,size,j,akB,rfl,z1,z7,m1,m4,f60⟩:=z;refine⟨λσ H2=>H2=H'/\∃few:Nat,σ=[some (.ref a),some (.str (S ls)),some (.int c),some (.int size),some (.int j),some (.int few),none,none,none,none,none,none,none,none,none,none,none,none]/\few<=60,?_,?_⟩
 .calc(aj _ rL (aX _ _ rL rL ⟨qo,qo⟩ (dG _ _ rL rL (by show (0:Int)<8;decide) rL (aj _ rL ?_))));refine jP (λ_=>?_) (λ_=>?_)
  .calc(aj _ rL (aX _ _ rL rL ⟨qo,qo⟩ (dG _ _ rL rL (by show (0:Int)<60;decide) rL (aj ((c/224%60).toNat) ?_ qi))));rw[cy qi];rfl
  .show⟨rL,aj akB rL f60⟩
 intro σ H2 z;let⟨rfl,few,rfl,ala⟩:=z;let hms:j*size<=28:=gh m4 z7;let ems:(j:Int)*(size:Int)=((j*size:Nat):Int):=by push_cast;rfl
 calc(aj _ rL (qK a ns 2 rL hS (λv2=>?_)));calc(aj _ rL (aj _ rL (aj _ rL (aX _ _ rL rL (.inl ⟨qi,qi⟩) (aj _ rL (aJ _ _ rL rL (gG v2 2 ls (j*size+few) (by show [V.int v2,V.str (S ls),V.int ((j:Int)*(size:Int)+(few:Int)),V.int 2]=_;rw[ems];rfl) hA qi (λtl H1 s1 htl htt=>?_))))))));let hzt:tl.length<=sizeLine:=av (aM qi);calc⟨zsz 0,λL hL=>?_⟩;let sL:aD H1 (upd H1 L (HO.lst [])):=aD.upd hL;let eL:upd H1 L (HO.lst []) L=some (.lst (Ts [])):=aA;calc(aj _ rL (h_ _ rL qi qi ?_));rw[eI];refine mj (n:=j) (lo:=0) (λi σ H3=>∃(v8 v9:Option V) (F:AB),σ=[some (.ref a),some (.str (S ls)),some (.int c),some (.int size),some (.int j),some (.int few),some (.str (S tl)),some (.ref L),v8,v9,none,none,none,none,none,none,none,none]/\aD H1 H3/\H3 L=some (.lst (Ts F))/\F.length=i/\∀l∈F,l.length<=size/\∀c∈l,o8 c)
  (dW none none [] rL sL eL rL (λl h=>by cases h)) ?_ ?_
 .intro i σ H3 hi z;let⟨v8,v9,F,rfl,sm,vL,G,I⟩:=z;calc(aj _ rL (qK a ns 2 rL (sm.seq (s1.seq hS)) (λv3=>?_)));refine(aj _ rL (aJ _ _ rL rL (aX _ _ rL rL ⟨by show (0:Int)<_;lia,?_⟩ (aX _ _ rL rL (by show (0:Int)<5;decide) (aX _ _ rL rL ⟨qo,qo⟩ ?_)))))
  .calc jI (Nat.log2_le_self _) ?_;show ((0:Int)+(i:Int)+2).natAbs<9000;lia
  let his:(i+1)*size<=j*size:=nL size hi;let e1:((0:Int)+(i:Int))*(size:Int)=((i*size:Nat):Int):=by push_cast;rw[pS]
  let e2:((0:Int)+(i:Int)+1)*(size:Int)=((i*size+size:Nat):Int):=by push_cast;rw[pS,Int.add_mul];lia
  let t0:0<=v3/((0:Int)+(i:Int)+2)%5/4:=qi;let t1:v3/((0:Int)+(i:Int)+2)%5/4<=1:=qi;calc(bf _ rL (.inl ⟨rL,_,bH.of vL⟩) (aj _ rL (aj _ rL (aj _ rL (aX _ _ rL rL (.inl ⟨qi,qi⟩) (aj _ rL (aj _ rL (aJ _ _ rL rL (aj _ rL (aX _ _ rL rL (.inl ⟨qi,qi⟩) (aj _ rL (aj _ rL (aJ _ _ rL rL (dN _ _ rL (aJ _ _ rL rL (aj _ rL (bf tl rL hzt ?_)))))))))))))))));rw[e1,e2];generalize v3/((0:Int)+(i:Int)+2)%5/4=dl at t0 t1 ⊢;let hmn:0<=(if (size:Int)-1<dl then (size:Int)-1 else dl)/\(if (size:Int)-1<dl then (size:Int)-1 else dl)<=(size:Int)-1:=by split <;> lia
  generalize (if (size:Int)-1<dl then (size:Int)-1 else dl)=dm at hmn ⊢;calc(dW L _ _ rL rL vL (aM (by rw[aa];lia)) ?_);calc(dW _ _ (F++[iM tl (some ((i*size:Nat):Int)) (some (((i*size+size:Nat):Int)-dm))]) rL (sm.dX hL) (by rw[aA,Mp]) (by simp[G]) (λl hl=>?_));rcases bv.mp hl with z|z;.show I l z
  .rw[bc.mp z];show⟨adM qi qi,λc hc=>htt c (Uo hc)⟩
 intro σ H3 z;let⟨v8,v9,F,rfl,sm,vL,G,I⟩:=z;refine⟨λσ H4=>∃(F:AB),σ=[some (.ref a),some (.str (S ls)),some (.int c),some (.int size),some (.int j),some (.int few),some (.str (S tl)),some (.ref L),v8,v9,none,none,none,none,none,none,none,none]/\aD H1 H4/\H4 L=some (.lst (Ts F))/\F.length=j/\∀l∈F,l.length<=size/\∀c∈l,o8 c,?_,?_⟩
 .calc(aj _ rL (aX _ _ rL rL ⟨qo,qo⟩ (dG _ _ rL rL (by show (0:Int)<8;decide) rL (aj _ rL ?_))));calc jP (λ_=>?_) (λ_=>(pR F rL sm vL G I));let b0:=dE (c/8072) (show (j:Int)≠0 by lia);let b1:=dP (c/8072) (show (0:Int)<j by lia);let qF:(Ts F).length=j:=by rw[aa,G]
  refine(aj _ rL (aj _ rL (aX _ _ rL rL ⟨qo,qo⟩ (aj _ rL (aX _ _ rL rL (by show (0:Int)<_;lia) (bw L _ _ ((c/8072%(j:Int)).toNat) rL rL vL ?_ ?_))))))
  .unfold Cy;rw[qF,if_pos qi,if_pos qi]
  .rw[KR];calc(pR (F.set (c/8072%(j:Int)).toNat []) rL (sm.dX hL) aA (by rw[fb];show G) (λl hl=>?_));rcases fN hl with e|e;.show I l e
   .rw[e];show⟨fe _,λc h=>by cases h⟩
 intro σ H4 z;let⟨F,rfl,Ko,z_,G,I⟩:=z;calc λd hd=>?_;let sD:aD H4 (upd H4 d (HO.dK [])):=aD.upd hd;calc(aj _ rL (aj _ rL (aX _ _ rL rL ⟨qo,qo⟩ (aX _ _ rL rL (by show (0:Int)<4;decide) (aJ _ _ rL rL (aj _ rL (bf ls rL hz (aj (iM ls none (some (1+c/5%4))) rL ?_))))))));let hcl:(iM ls none (some (1+c/5%4))).length<=4:=by unfold iM;rw[am,ba];lia
 refine Gd (λi σ H5=>∃(v11:Option V) (kvs:List (Key×V)),σ=[some (.ref a),some (.str (S ls)),some (.int c),some (.int size),some (.int j),some (.int few),some (.str (S tl)),some (.ref L),v8,v9,some (.ref d),v11,none,none,none,none,none,none]/\aD H4 H5/\H5 d=some (.dK kvs)/\WD kvs/\WB 1000000 kvs/\kvs.length<=i)
  (Ba none [] rL sD aA (λkv m=>nomatch m) (λc=>⟨by show (0:Int)<=0;decide,by show (0:Int)<=1000000;decide⟩) (ai _)) ?_ ?_
 .intro i x σ H5 hx z;let⟨v11,kvs,rfl,qj,hd5,hW,hB,hkl⟩:=z;let hi:=(ah.mp hx).1;let⟨c1,c2⟩:=hA.az _ (Uo (bu hx));refine(aj _ rL (aj _ rL (aJ d kvs rL hd5 (aJ _ _ rL rL (aX _ _ rL rL ⟨by show (0:Int)<_;lia,?_⟩ (aX _ _ rL rL (by show (0:Int)<12;decide) (aj _ rL (aX _ _ rL rL ⟨qo,qo⟩ (aX _ _ rL rL (bV qo qo qo) (aX _ _ rL rL (by show (0:Int)<10^5;decide) (aJ _ _ rL rL (aj _ rL (aj _ rL (aJ d _ rL (Hz.k (k:=dD [x]) hd5 (aM qi)) ?_))))))))))))))
  .calc jI (Nat.log2_le_self _) ?_;show ((kvs.length:Int)+3).natAbs<9000;lia
  let b0:=dE (c/((kvs.length:Int)+3)) (show (12:Int)≠0 by decide);let b1:=dP (c/((kvs.length:Int)+3)) (show (0:Int)<12 by decide);let b2:=dE (c/1000003) (show (10:Int)^(5:Int).toNat≠0 by decide);let b3:=dP (c/1000003) (show (0:Int)<(10:Int)^(5:Int).toNat by decide);let b4:(10:Int)^(5:Int).toNat=100000:=by decide
  rw[b4]at b2 b3;refine(Ba _ _ rL (qj.dX hd) aA (hW.put _ c1 c2) (hB.put ?_ ?_) (bP (yZ _ _ _) qi))
  .show (0:Int)<=c/((kvs.length:Int)+3)%12+c/1000003%(10:Int)^(5:Int).toNat;rw[b4];lia
  .show c/((kvs.length:Int)+3)%12+c/1000003%(10:Int)^(5:Int).toNat<=1000000;rw[b4];lia
 intro σ H5 z;let⟨v11,kvs,rfl,qj,hd5,hW,hB,hkl⟩:=z;calc(aj _ rL (aX _ _ rL rL ⟨qo,qo⟩ (aX _ _ rL rL (by show (0:Int)<7;decide) (aJ _ _ rL rL (aj _ rL (aX _ _ rL rL ⟨qo,qo⟩ (dG _ _ rL rL (by show (0:Int)<60;decide) (zsz 2) (λpb hpb=>?_))))))));let sB:aD H5 (upd H5 pb (HO.tup [V.int (1+c/11%7),V.int (c/13%60)])):=aD.upd hpb;let eB:upd H5 pb (HO.tup [V.int (1+c/11%7),V.int (c/13%60)]) pb=some (.tup [V.int (1+c/11%7),V.int (c/13%60)]):=aA;generalize upd H5 pb (HO.tup [V.int (1+c/11%7),V.int (c/13%60)])=H6 at sB eB ⊢;let s16:aD H1 H6:=(Ko.trans qj).trans sB;let xO:aD H2 H6:=s1.trans s16;calc(aj _ rL (qK a ns 3 rL (xO.seq hS) (λv4=>?_)));calc(aj _ rL (aJ v4 ls rL hA (λt pr pm pbg r w aF aO bi bj H7 s7 ht hpr Y Z hBr=>?_)));calc(aX t _ rL (aU.of ht) rL (dN _ _ rL (dN _ _ rL (aJ _ _ rL rL ?_))));calc(aj _ rL (aj _ rL (aj _ rL (λb dxb O nb2 nb3=>?_))));calc⟨b,dxb,pr,pm,pbg,r,w,aF,aO,bi,bj,rL,aA,?_,?_,?_,hBr,λH8 k8 e8=>⟨rL,?_⟩⟩;.rw[aZ (aN hpr O),aZ (aN hpr nb2)];show hpr
 .rw[aZ (aN Y O),aZ (aN Y nb2)];show Y
 .rw[aZ (aN Z O),aZ (aN Z nb2)];show Z
 let s8:aD H7 H8:=λx o h=>k8 x o (by rw[aZ (aN h O),aZ (aN h nb2)];show h) (aN h O);let BA:cX C H8 b r w aF aO bi bj:=⟨(gG dxb pr pm pbg e8 (s8 _ _ hpr) (s8 _ _ Y) (s8 _ _ Z)),hBr⟩
 let Yc:aD H2 H8:=(xO.trans s7).trans s8;calc(aj _ rL (qK a ns 0 rL (Yc.seq hS) (λv5=>?_)));calc(aX _ _ rL rL ⟨qo,qo⟩ (aj _ rL (aJ _ ls rL hA (λpw ws H9 s9 fpw Yd hw4 akC hwz=>?_))));let s69:aD H6 H9:=(s7.trans s8).trans s9;let hL9:=s69 _ _ (sB _ _ (qj _ _ z_));calc(aj _ rL (aj _ rL (aj _ rL (aj _ rL (aj _ rL (aj _ rL (dN L _ rL (.inl ⟨bH.of hL9,λPn adO=>?_⟩))))))));let sR:aD H9 (upd H9 Pn (HO.tup (Ts F))):=aD.upd adO;let eR:upd H9 Pn (HO.tup (Ts F)) Pn=some (.tup (Ts F)):=aA;generalize upd H9 Pn (HO.tup (Ts F))=HA at sR eR ⊢;calc(aj _ rL (aj _ rL (aj _ rL (aX _ _ rL rL (.inl ⟨qi,qi⟩) (aj _ rL (h_ tl rL hzt (zsz 7) (λp hp=>?_)))))));let eP:upd HA p (HO.tup [V.ref b,V.ref pw,V.ref d,V.ref pb,V.int size,V.ref Pn,V.str (S (iM tl (some ((j:Int)*(size:Int))) none))]) p=some (.tup [.ref b,.ref pw,.ref d,.ref pb,.int size,.ref Pn,.str (S (tl.drop (j*size)))]):=by rw[aA,ems,lB]
 let sP:=aD.upd hp (o:=HO.tup [V.ref b,V.ref pw,V.ref d,V.ref pb,V.int size,V.ref Pn,V.str (S (iM tl (some ((j:Int)*(size:Int))) none))]);let s9P:=sR.trans sP;let s6P:=s69.trans s9P;calc q p pw ⟨r,w,aF,aO,bi,bj,ws,kvs,1+c/11%7,c/13%60,size,F,tl.drop (j*size)⟩ _ (xO.trans s6P) ?_ ⟨(bw b d pb Pn eP ((BA.mv s9).mv s9P) (s6P _ _ (sB _ _ hd5)) (s6P _ _ eB) (sP _ _ eR)),s9P _ _ Yd⟩ ⟨hw4,akC,hwz,hW,hB,z1,z7,by show 1<=F.length;lia,by show F.length<=4;lia,I,by show (tl.drop _).length<=60;rw[ba];lia,λc hc=>htt c (eQ hc)⟩;cases e:H2 pw with| none=>rfl| some o=>rw[Yc _ _ e]at fpw;cases fpw
structure qe (C:Addr)(H:Hp)(p:Addr)(z:Std)(dn ps:Nat)(ov:Bool):Prop where
 ex:∃b pr pp,H p=some (.tup [.ref b,.ref pr,.str (S z.bag),.ref pp,.int dn,.int ps,.bl ov])/\cX C H b z.r z.w z.aF z.aO z.bi z.bj/\H pr=some (.tup (Ts z.racks))/\H pp=some (.tup (z.jB.map V.int))
def beg (Z:Um):Std:=⟨Z.r,Z.w,Z.aF,Z.aO,Z.bi,Z.bj,Z.racks.map dZ,Z.bag,List.replicate Z.racks.length 0⟩
def Ye (C:Addr):Sp:=λvs H Q _=>∃(p pw:Addr) (Z:Um),vs=[.ref p]/\yO C H p pw Z/\aah Z/\∀j H',aD H H'->qe C H' j (beg Z) 0 0 false->Q (.ref j) H'
def adP {C:Addr}(D:aP K mg "_law_begun" Gi ["_law_parts_here"])(cT:mg "tuple"=none)(iR:mg "sorted"=none)(bG:mg "len"=none):cg P w K mg base "_law_begun" 1 ["_law_parts_here"] (Ye C):=by
 calc D.dM H_ (λf bN A outer s H vs Q E hr h=>?_);let⟨p,pw,Z,rfl,A0,O,q⟩:=h;let⟨b,d,pb,pr,hp,hB,hd,hpb,hpr⟩:=A0.ex;let n1:=O.n1;let n4:=O.n4;let z7:=O.s7;calc(aj _ (aB (aV (i:=1) H_.nd rL (Or.inl rL) (d_ jx qr cT dq (ak (j5 rL (jz.of H_.nd qA) (iI (bh bD aH au (λ_ _=>rfl))) (λ_ _ _ _ _=>fu) (λ_ _ _ _ _=>(RJ K bp dA dC (HW K) (bQ [] qB) (ak (aY (vB rL) qr iR fS (ak aH aq)) aq)))) aq))) (aG (bC (cZ (ak (bh bD aH au (λ_ _=>rfl)) (ak bA (ak (bh bD aH au (λ_ _=>rfl)) (ak (aL Xb (cZ (ak au aq)) (aY bY qr bG ay (ak bA aq))) (ak au (ak au (ak iZ aq))))))))))) ?_);refine(aj _ rL (bw p _ _ (.ref pr) rL rL (aU.of hp) (aQ (j:=5) rL) (bf pr rL ⟨_,aU.of hpr⟩ (λL hL=>qX (xs:=Ts Z.racks) (λi ys F=>ys=Ts ((Z.racks.take i).map dZ)/\F L=some (.lst ys)/\aD H F) (bV rL aA (aD.upd hL)) (λi ys F _ h=>aU.of (h.2.2 _ _ hpr)) ?_ ?_))))
 .intro i x ys F hi z;let⟨rfl,K5,sm⟩:=z;let⟨l,hl,rfl⟩:=xu hi;let G:i<(Ts Z.racks).length:=(ah.mp hi).1;let hir:i<Z.racks.length:=by rw[aa]at G;show G
  let hl7:=(O.r7 l (bu hl)).1;calc⟨rL,aj _ rL (bf l rL qi (λp2 us hp2 pm pw=>?_))⟩;calc(dG p2 (us.map λc=>[c]) rL rL (bH.of aA) ?_ ?_);.rw[nu,pm.length_eq];lia
  .rw[xP (pm.map λc=>[c]) pw];let I:=aD.upd hp2 (o:=HO.lst (Ts (us.map λc=>[c])));calc(bV (I _ _ K5) ?_ (iU.mk G (bV ?_ aA ((sm.trans I).dX hL))));.rw[aa,aa,am];show aM qi
   .rw[take_snoc hl];simp only[Ts,bq];rfl
 .intro ys F z;let⟨rfl,K5,sm⟩:=z;rw[aa,cp]at K5;calc(dN L _ rL (.inl ⟨bH.of K5,λtp ht=>?_⟩));let I:aD F (upd F tp (.tup (Ts (Z.racks.map dZ)))):=aD.upd ht;let X6:upd F tp (.tup (Ts (Z.racks.map dZ))) tp=some (.tup (Ts (Z.racks.map dZ))):=aA;generalize upd F tp (HO.tup (Ts (Z.racks.map dZ)))=H8 at I X6 ⊢;let Yc:=sm.trans I;calc(aj _ rL (bw p _ _ (.ref b) rL rL (aU.of (Yc _ _ hp)) (aQ (j:=0) rL) (aj _ rL (aj _ rL (gH p _ _ (.str (S Z.bag)) rL rL (aU.of (Yc _ _ hp)) (aQ (j:=6) rL) (zsz 1) (λJ e0=>?_))))));let s9:aD H8 (upd H8 J (HO.tup [V.int 0])):=aD.upd e0;let ep0:upd H8 J (HO.tup [V.int 0]) J=some (.tup [V.int 0]):=aA;generalize upd H8 J (HO.tup [V.int 0])=H9 at s9 ep0 ⊢;calc(aj _ rL (aJ tp _ rL (.inr (aU.of (s9 _ _ X6))) ⟨J,_,Z.racks.length,rL,by rw[aa,aa],ep0,qk,n1,qi,by show 1<=100;decide,λpp HA sA hpp=>?_⟩));let zp:HA pp=some (.tup ((List.replicate Z.racks.length (0:Int)).map V.int)):=by rw[hpp];simp
  let Y:=(Yc.trans s9).trans sA;calc⟨zsz 7,λp' hp'=>?_⟩;let sP:=aD.upd hp' (o:=HO.tup [V.ref b,V.ref tp,V.str (S Z.bag),V.ref pp,V.int 0,V.int 0,V.bl false]);show q p' _ (Y.trans sP) ⟨b,tp,pp,aA,(hB.mv Y).mv sP,sP _ _ (sA _ _ (s9 _ _ X6)),sP _ _ zp⟩
def Nj (a b:Nat×Nat)(l:List (Nat×Nat)):j_ (a::b::l)=(ltQ (a,b)&&j_ (b::l)):=rfl
theorem Pq {c:Nat×Nat}:∀{cs:List (Nat×Nat)},j_ cs=true->(∀d∈cs,ltQ (d,c)=true)->j_ (cs++[c])=true
 | [],_,_=>rfl
 | [a],_,h=>by show j_ (a::c::[])=true;rw[Nj,h a cv];rfl
 | a::b::l,h1,h2=>by rw[Nj,cn]at h1;show j_ (a::b::(l++[c]))=true;rw[Nj,h1.1,mw];show Pq (cs:=b::l) h1.2 λd hd=>h2 d (bz _ hd)
def Ur {r w:Nat}{aF:AB}(hb:Blk r w aF)(r1:1<=r){i:Int}(h0:-1<=i)(h1:i<r):∃l,qz (Ts aF) i=some (.str (S l))/\l.length=w:=by
 by_cases hn:0<=i
 .let⟨k,rfl⟩:=jp hn;let D:k<aF.length:=by rw[hb.len];lia
  show(aj (aF[k]) (aQ (oH (ac D))) (hb.sO _ (aS D)))
 .let e:i=-1:=qi;subst e;let j:aF≠[]:=λe=>by subst e;have:=hb.len;simp at this;lia
  calc(aj (aF.getLast j) ?_ (hb.sO _ (List.getLast_mem j)));let e:=gV j;let e2:Ts aF=Ts aF.dropLast++[.str (S (aF.getLast j))]:=by
   conv=>lhs;rw[<-e]
   simp only[Ts,bq,cw,pk]
  rw[e2];show Hx _ _
def ab1:Sp:=λvs H Q _=>∃(pr pl:Addr) (bU word:List Nat) (i0 j wy:Int) (r w:Nat) (aF:AB),vs=[.ref pr,.str (S word),.ref pl,.str (S bU)]/\H pr=some (.tup (Ts aF))/\Blk r w aF/\1<=r/\r<=9/\w<=9/\zj word/\H pl=some (.tup [.int i0,.int j,.int wy])/\-1<=i0/\0<=j/\(wy=0\/wy=1)/\bU.length<=63/\
 ∀(t:Addr) (as:List Addr) (H':Hp),aD H H'->H' t=some (.tup (as.map V.ref))->as.length<=9->(0<=i0->∃ts,fQ H' as ts/\(∀t∈ts,inB r w t)/\j_ (ts.map oJ)=true)->Q (.ref t) H'
def Us (D:aP K mg "_law_candidate" uT ["_law_rows_here","_law_word","_law_place","_law_rack"])(bG:mg "len"=none)(fP:mg "list"=none)(cT:mg "tuple"=none)(o7:mg "int"=none):cg P w K mg base "_law_candidate" 1 ["_law_rows_here","_law_word","_law_place","_law_rack"] ab1:=by
 calc D.dM iw (λf bN A outer s H vs Q E hr h=>?_);let⟨pr,pl,bU,word,i0,j0,wy,r,w,aF,rfl,hpr,hb,r1,r9,w9,hW,hpl,i1,j1,Sg,h63,q⟩:=h;let⟨wo1,wo2,wo3⟩:=hW;let hrl:(Ts aF).length=r:=by rw[aa,hb.len]
 let G:∀H2,aD H H2->∀t,H2 t=none->Q (.ref t) (upd H2 t (.tup [])):=λH2 s2 t ht=>q t [] _ (s2.trans (aD.upd ht)) aA (fe _) λ_=>(bf [] ⟨λa h=>(by cases h),rL⟩ (λt h=>(by cases h)) rL)
 calc(aj _ (aB (u9 bF (qC rL (cD (bJ (i:=4) iw.nd rL (Or.inl rL)) (cD (bJ (i:=5) iw.nd rL (Or.inl rL)) (cD (bJ (i:=6) iw.nd rL (Or.inl rL)) oO))))) (aB (aV (i:=7) iw.nd rL (Or.inl rL) (d_ (oh rL) qr fP dS (ak bT aq))) (aB (aV (i:=8) iw.nd rL (Or.inl rL) (iW aq)) (aB (fX cK rL (rP bA) (bJ (i:=9) iw.nd rL (Or.inl rL)) (aB (cJ (QW.qt (mq (b_ FW cO (aY bY qr bG ay (ak aH aq)) (bM _)) (lG (b_ FW eO (aY dO qr bG ay (ak (bh bD aH au (λ_ _=>rfl)) aq)) (bM _))))) (aG (bC (cZ aq))) bO) (aB (gK (cJ (b_ jQ (bh Aw (bh bD aH cO (λ_ _=>rfl)) eO (λ_ _=>rfl)) (bQ [46] qB) (bM _)) (aB (aV (i:=10) iw.nd rL (Or.inl rL) j4) (aB (gK (cJ (b_ wU iu gQ rL) (aG (aV (i:=10) iw.nd rL (Or.inl rL) (bQ [63] qB))) bO)) (aB (cJ (b_ wU iu gQ rL) (aG (bC (cZ aq))) bO) (aB (dz (gC bE iN iO yj gQ (ak iu aq))) (aG (dz (gC bE dr du jh jZ (ak (cZ (ak cO (ak eO (ak (bh cW (iW (ak j4 (ak (wV bp PySem.F.slot_str_upper PySem.F.type_str_upper aa4 j4) aq))) (d_ Ob qr o7 kz (ak (fH jQ iu (bQ [63] qB) (bM _)) aq)) (λ_ _=>rfl)) aq)))) aq)))))))) bO)) (aB (aV (i:=4) iw.nd rL (Or.inl rL) (aL cM cO fO)) (aG (aV (i:=5) iw.nd rL (Or.inl rL) (aL oM (aL cM eO au) fO))))))) (aG (bC (d_ jx qr cT dq (ak jZ aq)))))))) ?_);calc(aj _ rL (aX pl _ rL (aU.of hpl) rL (dN _ _ rL (dN _ _ rL (aJ _ _ rL rL ?_)))));calc(aj _ rL (bf bU rL qi (λL hL=>?_)));let sL:aD H (upd H L (HO.lst (Ts (bU.map λc=>[c])))):=aD.upd hL;let eL:upd H L (HO.lst (Ts (bU.map λc=>[c]))) L=some (.lst (Ts (bU.map λc=>[c]))):=aA;generalize upd H L (HO.lst (Ts (bU.map λc=>[c])))=H1 at sL eL ⊢;calc⟨zsz 0,λM hM=>?_⟩;let sM:aD H1 (upd H1 M (HO.lst [])):=aD.upd hM;let eM:upd H1 M (HO.lst []) M=some (.lst (([]:List Addr).map V.ref)):=aA;let LM:L≠M:=aN eL hM;let fM:H M=none:=by
  cases e:H M with| none=>rfl| some o=>rw[sL _ _ e]at hM;cases hM
 generalize upd H1 M (HO.lst [])=H2 at sM eM ⊢;let fG:=sL.trans sM;let eL2:=sM _ _ eL;calc(aj _ rL (aj word rL ?_));refine Gd (λn σ J=>∃(v9 I:Option V) (j cc:Int) (us:List Nat) (as:List Addr),σ=[some (.ref pr),some (.str (S word)),some (.ref pl),some (.str (S bU)),some (.int j),some (.int cc),some (.int wy),some (.ref L),some (.ref M),v9,I]/\aD H J/\J L=some (.lst (Ts (us.map λc=>[c])))/\us.length<=63/\J M=some (.lst (as.map V.ref))/\as.length<=n/\-1<=j/\0<=cc/\(0<=i0->0<=j/\∃ts,fQ J as ts/\(∀t∈ts,inB r w t)/\j_ (ts.map oJ)=true/\∀t∈ts,((t.1:Int)<j\/((t.1:Int)=j/\(t.2.1:Int)<cc))))
  ⟨none,none,i0,j0,bU,[],rL,fG,eL2,h63,eM,fe _,i1,j1,λh=>⟨h,h_ [] ⟨λa h=>(by cases h),rL⟩ (λt h=>(by cases h)) rL (λt h=>(by cases h))⟩⟩ ?_ ?_
 .intro n c σ J hc z;let⟨v9,I,j,cc,us,as,rfl,sm,vL,KC,G9,hal,rr1,cc1,Y⟩:=z;let hn:n<word.length:=(ah.mp hc).1;let aaj:isLet c:=wo3 c (bu hc);let T8:=sm _ _ hpr;calc(aj _ rL (aj _ rL (aJ pr _ rL (.inr (aU.of T8)) (aJ _ _ rL rL (aj _ rL ?_)))));calc jP (λ_=>⟨zsz 0,λt ht=>G J sm t ht⟩) (λhnr=>?_);let hnr:=ka (oP.mpr hnr);rw[hrl]at hnr;let⟨l0,e0,w0⟩:=Ur hb r1 (i:=0) qi qi;let hz0:l0.length<=sizeLine:=av (aM qi);calc(aj _ rL (aj _ rL (bw pr _ _ (.str (S l0)) rL rL (aU.of T8) e0 (bf l0 rL hz0 (aJ _ _ rL rL (aj _ rL ?_))))));calc jP (λ_=>⟨zsz 0,λt ht=>G J sm t ht⟩) (λhnc=>?_);let hnc:=ka (oP.mpr hnc);rw[w0]at hnc;let⟨l,el,wl⟩:=Ur hb r1 (i:=j) rr1 qi;let CK:l.length<=sizeLine:=av (aM qi);let⟨k,rfl⟩:=jp cc1;let hk:k<l.length:=qi;refine⟨λσ F=>∃(v9 I:Option V) (us:List Nat) (as:List Addr),σ=[some (.ref pr),some (.str (S word)),some (.ref pl),some (.str (S bU)),some (.int j),some (.int k),some (.int wy),some (.ref L),some (.ref M),v9,I]/\aD H F/\F L=some (.lst (Ts (us.map λc=>[c])))/\us.length<=63/\F M=some (.lst (as.map V.ref))/\as.length<=n+1/\(0<=i0->0<=j/\∃ts,fQ F as ts/\(∀t∈ts,inB r w t)/\j_ (ts.map oJ)=true/\∀t∈ts,((t.1:Int)<j\/((t.1:Int)=j/\(t.2.1:Int)<=k))),?_,?_⟩
  .calc(aj _ rL (aj _ rL (bw pr _ _ (.str (S l)) rL rL (aU.of T8) el (aj _ rL (dW l _ (l[k]) rL rL CK (aQ (ac hk)) (aJ [l[k]] [46] rL rL (aj _ rL ?_)))))));refine jP (λ_=>?_) (λ_=>⟨_,_,us,as,rL,sm,vL,KC,G9,qi,λh=>?_⟩)
   .calc(aj _ rL ?_);refine⟨λσ F=>F=J/\∃x:Nat,σ=[some (.ref pr),some (.str (S word)),some (.ref pl),some (.str (S bU)),some (.int j),some (.int k),some (.int wy),some (.ref L),some (.ref M),some (.str (S [c])),some (.str (S [x]))]/\(x=c\/x=63),?_,?_⟩
    .calc(aj _ rL (aj _ rL (dG L _ rL (.inl (bH.of vL)) rL (MN _) (aj _ rL ?_))));show jP (λ_=>⟨rL,aj 63 rL (.inr rL)⟩) (λ_=>⟨rL,aj c rL (.inl rL)⟩)
    intro σ F z;let⟨rfl,x,rfl,hxc⟩:=z;calc(aj _ rL (aj _ rL (dG L _ rL (.inl (bH.of vL)) rL (MN _) (aj _ rL ?_))));calc jP (λ_=>⟨zsz 0,λt ht=>G F sm t ht⟩) (λfB=>?_);let fB:x∈us:=by rw[show (if true then !inV (V.str (S [x])) (Ts (us.map λc=>[c])) else inV (V.str (S [x])) (Ts (us.map λc=>[c])))=!inV (V.str (S [x])) (Ts (us.map λc=>[c])) from rL,abF]at fB;simpa using fB
    calc(bf _ rL (.inl ⟨rL,_,bH.of vL⟩) (aj _ rL (qL L _ [x] rL rL vL (be.mpr (aj x fB rL)) (by rw[aa];lia) ?_)));rw[uq];let s5:aD H (upd F L (HO.lst (Ts ((us.erase x).map λc=>[c])))):=sm.dX hL;let eL5:upd F L (HO.lst (Ts ((us.erase x).map λc=>[c]))) L=some (.lst (Ts ((us.erase x).map λc=>[c]))):=aA;let eM5:upd F L (HO.lst (Ts ((us.erase x).map λc=>[c]))) M=some (.lst (as.map V.ref)):=by rw[aZ LM.symm];show G9
    let T5:∀a xs,F a=some (.tup xs)->upd F L (HO.lst (Ts ((us.erase x).map λc=>[c]))) a=some (.tup xs):=λa xs e=>by rw[aZ (oX e vL λz=>nomatch z)];show e
    generalize upd F L (HO.lst (Ts ((us.erase x).map λc=>[c])))=H5 at s5 eL5 eM5 T5 ⊢;calc(bf _ rL (.inl ⟨rL,_,bH.of eM5⟩) (aj _ rL (aj _ rL (aj _ rL (bf _ rL rL ⟨[c],rL,rL,(by show 1<=1000;decide),(λd hd=>by rw[bc.mp hd];have:=aaj.2;lia),zsz 2,λN hN=>?_⟩)))));let s6:aD H5 (upd H5 N (HO.lst [V.str (S [c]),V.str (S ([c].map PyProof.Rows.up1))])):=aD.upd hN;let eN:upd H5 N (HO.lst [V.str (S [c]),V.str (S ([c].map PyProof.Rows.up1))]) N=some (.lst [V.str (S [c]),V.str (S [PyProof.Rows.up1 c])]):=aA;generalize upd H5 N (HO.lst [V.str (S [c]),V.str (S ([c].map PyProof.Rows.up1))])=H6 at s6 eN ⊢;obtain⟨y,hy,ysg⟩:∃y,qz [V.str (S [c]),V.str (S [PyProof.Rows.up1 c])] (if decide ([x]=[63])=true then 1 else 0)=some (.str (S [y]))/\rD y:=by
     by_cases e:x=63
     .calc(aj (PyProof.Rows.up1 c) ?_ ?_);.rw[al (by rw[e]),if_pos rfl];rfl
      .have:PyProof.Rows.up1 c=c-32:=aeU aaj;rw[this];show abp aaj
     .calc(aj c ?_ (abo aaj));rw[ag (by simpa using e),if_neg qo];rfl
    calc(aj _ rL (aJ [x] [63] rL rL (.inr (aj _ rL (gH N _ _ (.str (S [y])) rL rL (bH.of eN) hy (zsz 3) (λT hT=>?_))))));let s7:aD H6 (upd H6 T (HO.tup [V.int j,V.int k,V.str (S [y])])):=aD.upd hT;let eT:upd H6 T (HO.tup [V.int j,V.int k,V.str (S [y])]) T=some (.tup [V.int j,V.int k,V.str (S [y])]):=aA;generalize upd H6 T (HO.tup [V.int j,V.int k,V.str (S [y])])=H7 at s7 eT ⊢;let O:=s6.trans s7;let eM7:=O _ _ eM5;calc(dW M _ (.ref T) rL rL eM7 (aM (by rw[aa];lia)) ?_);calc⟨_,_,us.erase x,as++[T],rL,(s5.trans O).dX fM,?_,?_,?_,?_,λh=>?_⟩;.rw[aZ LM];show O _ _ eL5
    .have:=(lx (a:=x) (l:=us)).length_le;lia
    .rw[aA];simp
    .rw[aE];show gS hal
    .let⟨h0,ts,t1,Z,t3,t4⟩:=Y h;let⟨i,rfl⟩:=jp h0;let kT:∀a xs,H7 a=some (.tup xs)->upd H7 M (HO.lst (as.map V.ref++[V.ref T])) a=some (.tup xs):=λa xs e=>by rw[aZ (oX e eM7 λz=>nomatch z)];show e
     refine⟨h0,h_ (ts++[(i,k,y)]) (((t1.Km λa xs e=>kT a xs (O _ _ (T5 a xs e)))).snoc (kT _ _ eT)) (λt ht=>?_) ?_ (λt ht=>?_)⟩
     .rcases bv.mp ht with z|z;.show Z t z
      .rw[bc.mp z];show(bV (by show i<r;lia) (by show k<w;lia) ysg)
     .rw[bq];calc Pq t3 λd hd=>?_;let⟨t,ht,rfl⟩:=be.mp hd;let b1:=(Z t ht).1;let b2:=(Z t ht).2.1;let b3:=t4 t ht;show decide (t.1*1000+t.2.1<i*1000+k)=true;show al qi
     .rcases bv.mp ht with z|z;.have:=t4 t z;lia
      .rw[bc.mp z];show .inr ⟨rL,qc _⟩
   .let⟨h0,ts,t1,Z,t3,t4⟩:=Y h;show⟨h0,h_ ts t1 Z t3 (λt ht=>by have:=t4 t ht;lia)⟩
  .intro σ F z;let⟨v9,I,us,as,rfl,Ko,z_,akD,Hg,akE,akF⟩:=z;calc(aj _ rL (aj _ rL (aJ _ _ rL rL ?_)));calc(aj _ rL (aJ _ _ rL rL (aj _ rL (aJ _ _ rL rL ?_))));calc⟨_,_,j+wy,(k:Int)+1-wy,us,as,rL,Ko,z_,akD,Hg,akE,qi,qi,λh=>?_⟩;let⟨h0,ts,t1,Z,t3,t4⟩:=akF h;show⟨qi,h_ ts t1 Z t3 (λt ht=>by have:=t4 t ht;lia)⟩
 .intro σ J z;let⟨v9,I,j,cc,us,as,rfl,sm,vL,KC,G9,hal,rr1,cc1,Y⟩:=z;calc(aj _ rL (dN M _ rL (.inl ⟨bH.of G9,λt ht=>?_⟩)));let st:=aD.upd ht (o:=HO.tup (as.map V.ref));calc q t as _ (sm.trans st) aA qi λh=>?_;let⟨h0,ts,t1,Z,t3,t4⟩:=Y h;show(bf ts (t1.mv st) Z t3)
def dT (t:bZ):Dt:=.tup [.int t.1,.int t.2.1,.str [t.2.2]]
theorem dY.K7 {H:Hp}:∀{as:List Addr},(∀a∈as,xH H a (tO H a))->(∀a∈as,(tO H a).2.2<128)->dY K H 2 ((as.map (tO H)).map dT) (as.map V.ref)
 | [],_,_=>.nil
 | a::as,h1,h2=>.cons (.tup (aU.of (h1 a cv)) (.cons (.int _) (.cons (.int _) (.cons (.str _ λc j=>by rw[bc.mp j];show h2 a cv) .nil)))) (dY.K7 (λb hb=>h1 b (bz _ hb)) λb hb=>h2 b (bz _ hb))
def jC.K7 {H:Hp}{t:Addr}{as:List Addr}{ts:List bZ}(h:H t=some (.tup (as.map V.ref)))(j:fQ H as ts)(hs:∀t∈ts,rD t.2.2):jC K H 3 (.tup (ts.map dT)) (.ref t):=by let e:=j.eq;subst e;show .tup (aU.of h) (dY.K7 j.at_ λa ha=>(hs _ (be.mpr (aj a ha rL))).lt)
theorem ab2:∀{cs l:List Nat} {left:AB},Ac (l.map λc=>[c]) cs=.inr left->∃j,ql l cs=some j
 | [],l,left,_=>⟨l,rL⟩
 | c::cs,l,left,h=>by
  unfold Ac at h;unfold ql;by_cases hm:iG c∈l
  .rw[if_pos (be.mpr (aj _ hm rL)),uq]at h;rw[if_pos hm];show ab2 h
  .rw[if_neg (λz=>by let⟨d,hd,e⟩:=be.mp z;cases e;show hm hd)]at h;cases h
def ajO {aF:AB}{r w bi bj:Nat}{ws:AB}{bU:List Nat}{ts:List bZ}(h:tR aF r w bi bj ws bU ts .ok):∃l,ql bU (ts.map (·.2.2))=some l:=by
 cases h with| ok h1 h2 h3 h4 h5 h=>let⟨l,hl⟩:=h5;show ab2 hl
def adQ {aF:AB}{ts:List bZ}{bs ws:AB}(h:∀x,x∈bs↔x∈ws):Hh aF bs ts=Hh aF ws ts:=by
 let e:Im bs=Im ws:=funext λq=>by unfold Im;rw[decide_eq_decide.mpr (h (S_ q))]
 unfold Hh;rw[e]
def Ut {aF:AB}{r w bi bj:Nat}{bs ws:AB}{bU:List Nat}{ts:List bZ}(e:∀x,x∈bs↔x∈ws)(h:tR aF r w bi bj bs bU ts .ok):tR aF r w bi bj ws bU ts .ok:=by
 cases h with| ok h1 h2 h3 h4 h5 h=>show .ok h1 h2 h3 h4 h5 (by rw[<-adQ e];show h)
structure aak (aF:AB)(r w bi bj:Nat)(ws:AB)(bU:List Nat)(ts:List bZ):Prop where
 xR:∀t∈ts,inB r w t
 h0:0<ts.length
 h7:ts.length<=7
 ri:j_ (ts.map oJ)=true
 vd:tR aF r w bi bj ws bU ts .ok
def ab3 (C CB:Addr):Sp:=λvs H Q _=>∃(b k kd pw:Addr) (bs ws:AB) (bU:List Nat) (c:Int) (r w:Nat) (aF aO:AB) (bi bj:Nat),vs=[.ref b,.ref k,.ref pw,.str (S bU),.int c]/\cX C H b r w aF aO bi bj/\iJ CB H k kd bs/\H pw=some (.lst (Ts ws))/\1<=ws.length/\(∀l∈ws,zj l)/\bU.length<=63/\
 ∀(t:Addr) (as:List Addr) (ts:List bZ) (H':Hp),aD H H'->H' t=some (.tup (as.map V.ref))->fQ H' as ts->(ts=[]\/aak aF r w bi bj bs bU ts)->Q (.ref t) H'
open Classical in
def ab4 {C CB f1:Addr}{eE:FuncData}(D:aP K mg "_law_laying" Bj ["_law_board","_law_book","_law_words_here","_law_rack","_law_cell"])(bG:mg "len"=none)(tH:mg "min"=none)(I:iy K C)(sY:Meth K C "is_free" f1)(tu:cA P w K mg base dJ 1 f1 eE ["self"] (R8 C))(tD:bR K eE ["self"] [])(oK:cg P w K mg base "_law_stream" 1 ["_law_cell","_law_many"] uD)(Wm:cg P w K mg base "_law_candidate" 1 ["_law_rows_here","_law_word","_law_place","_law_rack"] ab1)(ait:cg P w K mg base "_law_lets" 16 ["_law_board","_law_book","_law_rack","_law_laying_here"] (abX C CB)):cg P w K mg base "_law_laying" 17 ["_law_board","_law_book","_law_words_here","_law_rack","_law_cell"] (ab3 C CB):=by
 calc D.dM vh (λf bN A outer s H vs Q E hr h=>?_);let⟨b,k,kd,pw,bs,ws,bU,c,r,w,aF,aO,bi,bj,rfl,BA,BK,Yd,w1,hwz,h63,q⟩:=h;obtain⟨⟨bx,pr,pm,pb,hb,J,hpm,hpb⟩,B⟩:=BA;let BA:cX C H b r w aF aO bi bj:=⟨(gG bx pr pm pb hb J hpm hpb),B⟩
 let r1:=B.r1;let r9:=B.r9;let ww1:=B.w1;let w9:=B.w9;let hrl:(Ts aF).length=r:=by rw[aa,B.br.len]
 let⟨l0,e0,w0⟩:=Ur B.br r1 (i:=0) qi qi;let hz0:l0.length<=sizeLine:=av (aM qi);calc(aj _ (aB (fX cK rL (oR (bI oK hr.mono rL (ak cO (ak au aq)))) (bJ (i:=5) vh.nd rL (Or.inl rL)) (aB (aV (i:=6) vh.nd rL (Or.inl rL) (cZ (ak (aL cj (aL cQ eO au) (aY bY qr bG ay (ak (bK aH rL) aq))) (ak (aL cj (aL cQ eO au) (aY dO qr bG ay (ak (bh bD (bK aH rL) au (λ_ _=>rfl)) aq))) (ak (aL cj (aL cQ eO au) au) aq))))) (aB (gK (cJ (dR (gF aH I.cl sY tu hr.mono tD .nil eG)) (aG (aV (i:=6) vh.nd rL (Or.inl rL) (cZ (ak (aL oM (bh bD (bK aH rL) au (λ_ _=>rfl)) (aL jj (aL cj (aL cQ eO au) au) (aL cj eO au))) (ak (bh bD (bK aH rL) au (λ_ _=>rfl)) (ak (aL cj (aL cQ eO au) au) aq)))))) bO)) (aB (aV (i:=7) vh.nd rL (Or.inl rL) (bI Wm hr.mono rL (ak (bK aH rL) (ak (bh cW bF (aL cj (aL cQ eO au) (aY bY qr bG ay (ak bF aq))) (λ_ _=>rfl)) (ak fO (ak bT aq)))))) (aG (cJ (QW.qt (zT (b_ FW (aY (abl rL) qr tH mE (ak fO aq)) au (bM _)) (zT (b_ (Dp hr.units) gQ (cZ aq) (bM _)) (zT (b_ vQ (aY bY qr bG ay (ak gQ aq)) au (bM _)) (Gb (dR (bI ait hr.mono rL (ak aH (ak bA (ak bT (ak gQ aq))))))))))) (aG (bC gQ)) bO)))))) (aG (bC (cZ aq)))) ?_);calc(aj _ rL (aJ c 24 rL qo (λp ds H1 s1 hp0 hp hdl=>?_)));refine(bf p rL ⟨_,bH.of hp⟩ (n8 (K:=K) (a:=p) (xs:=ds.map V.int) (λi σ O=>∃(v5 v6 v7:Option V),σ=[some (.ref b),some (.ref k),some (.ref pw),some (.str (S bU)),some (.int c),v5,v6,v7]/\aD H1 O)
  (J4 none none none rL (aD.refl _)) (λi σ O _ h=>?_) ?_ ?_))
 .let⟨_,_,_,_,sm⟩:=h;show bH.of (sm _ _ hp)
 .intro i x σ O hx z;let⟨v5,v6,v7,rfl,sm⟩:=z;rw[ck]at hx;let⟨n,hn,rfl⟩:=dL.mp hx;let s2:=s1.trans sm;let d0:=dE (n/64) (show (r:Int)≠0 by lia);let d1:=dE (n/640) (show (w:Int)≠0 by lia);let d2:n/6400%2=0\/n/6400%2=1:=qi;calc(aj _ rL (aX _ _ rL rL ⟨qo,qo⟩ (aj _ rL (cB b C bx _ _ rL (s2 _ _ hb) I.cl I.nr rL (aJ pr _ rL (.inr (aU.of (s2 _ _ J))) (aX _ _ rL rL (by show (0:Int)<_;rw[hrl];lia) (aj _ rL (aX _ _ rL rL ⟨qo,qo⟩ (aj _ rL (cB b C bx _ _ rL (s2 _ _ hb) I.cl I.nr rL (bw pr _ _ (.str (S l0)) rL rL (aU.of (s2 _ _ J)) e0 (bf l0 rL hz0 (aX _ _ rL rL (by show (0:Int)<_;rw[w0];lia) (aj _ rL (aX _ _ rL rL ⟨qo,qo⟩ (dG _ _ rL rL (by show (0:Int)<2;decide) (zsz 3) (λpl hpl=>?_)))))))))))))))));rw[hrl,w0];let sP:aD O (upd O pl (HO.tup [V.int (n/64%r),V.int (n/640%w),V.int (n/6400%2)])):=aD.upd hpl;let eP:upd O pl (HO.tup [V.int (n/64%r),V.int (n/640%w),V.int (n/6400%2)]) pl=some (.tup [V.int (n/64%r),V.int (n/640%w),V.int (n/6400%2)]):=aA;generalize upd O pl (HO.tup [V.int (n/64%r),V.int (n/640%w),V.int (n/6400%2)])=H3 at sP eP ⊢;let s3:=s2.trans sP;refine⟨λσ H4=>∃(pl:Addr) (i0 j0 wy:Int),σ=[some (.ref b),some (.ref k),some (.ref pw),some (.str (S bU)),some (.int c),some (.int n),some (.ref pl),v7]/\aD H3 H4/\H4 pl=some (.tup [.int i0,.int j0,.int wy])/\-1<=i0/\0<=j0/\(wy=0\/wy=1),?_,?_⟩
  .calc(aj _ rL (cY b bx _ rL (s3 _ _ hb) rL ⟨b,r,w,aF,aO,bi,bj,rL,BA.mv s3,λH4 Y=>(aj _ rL ?_)⟩));let F:=s3.trans Y;calc jP (λ_=>?_) (λ_=>(gH pl _ _ _ rL Y (Y _ _ eP) qi d1 d2));let d3:n%2=0\/n%2=1:=qi;calc(aj _ rL (cB b C bx _ _ rL (F _ _ hb) I.cl I.nb rL (bw pb _ _ (.int bi) rL rL (aU.of (F _ _ hpb)) (aQ (j:=0) rL) (aj _ rL (aX _ _ rL rL ⟨qo,qo⟩ (aX _ _ rL rL (by show (0:Int)<2;decide) (aj _ rL (aX _ _ rL rL (by show (0:Int)<2;decide) (aX _ _ rL rL (.inl ⟨qi,qi⟩) (aJ _ _ rL rL (aj _ rL (cB b C bx _ _ rL (F _ _ hb) I.cl I.nb rL (bw pb _ _ (.int bj) rL rL (aU.of (F _ _ hpb)) (aQ (j:=1) rL) (aj _ rL (aX _ _ rL rL ⟨qo,qo⟩ (dG _ _ rL rL (by show (0:Int)<2;decide) (zsz 3) (λpl2 akG=>?_)))))))))))))))));calc(gH pl2 _ _ _ rL (Y.trans (aD.upd akG)) aA ?_ qi d2);show -1<=(bi:Int)-n/6400%2*(n%2)
   rcases d2 with e|e <;> rw[e] <;> lia
  intro σ H4 z;let⟨pl,i0,j0,wy,rfl,Y,aiu,i1,j1,Sg⟩:=z;let F:=s3.trans Y;let⟨wv,hwv,hwm⟩:=wJ (xs:=Ts ws) (n:=ws.length) (by rw[aa]) w1 (n/12800);let⟨wd,hwd,rfl⟩:=be.mp hwm;let hwl:(Ts ws).length=ws.length:=aa _;calc(aj _ rL (cB b C bx _ _ rL (F _ _ hb) I.cl I.nr rL (aj _ rL (aj _ rL (aX _ _ rL rL ⟨qo,qo⟩ (aj _ rL (aJ pw _ rL (.inl (bH.of (F _ _ Yd))) (aX _ _ rL rL (by show (0:Int)<_;rw[hwl];lia) (bw pw _ _ (.str (S wd)) rL rL (bH.of (F _ _ Yd)) (by rw[hwl];show hwv) (aj _ rL (aj _ rL ⟨pr,pl,bU,wd,i0,j0,wy,r,w,aF,rL,F _ _ J,B.br,r1,r9,w9,hwz wd hwd,aiu,i1,j1,Sg,h63,λt as H5 s5 ht hal hts=>?_⟩)))))))))));let vM:=F.trans s5;let s15:aD H1 H5:=((sm.trans sP).trans Y).trans s5;calc(aj _ rL (aX pl [i0,j0,wy] rL (aU.of (s5 _ _ aiu)) (by show 0<3;decide) (λm hm hle=>(aJ _ _ rL rL (aj _ rL ?_)))));calc jP (λhge=>?_) (λ_=>(J4 _ _ _ rL s15));let hi0:0<=i0:=by let h1:=hle i0 cv;let h2:=eK hge;show Int.le_trans h2 h1
  let⟨ts,hL,fB,G_⟩:=hts hi0;let dB:as.length=ts.length:=by rw[<-hL.eq,aa]
  calc(bf _ rL (zsz 0) (λe he=>?_));let G:aD H5 (upd H5 e (HO.tup [])):=aD.upd he;let e6:upd H5 e (HO.tup []) e=some (.tup []):=aA;generalize upd H5 e (HO.tup [])=H6 at G e6 ⊢;let xO:=vM.trans G;let Z:=s15.trans G;calc(cY 3 (.tup (ts.map dT)) (.tup []) qo (jC.K7 (G _ _ ht) (hL.mv G) (λt h=>(fB t h).2.2)) (.tup (aU.of e6) .nil) (aj _ rL ?_));calc jP (λhne=>?_) (λ_=>(J4 _ _ _ rL Z));let h0:0<ts.length:=by
   rcases lv ts.length with z|z
   .have:ts=[]:=gI.mp z;subst this;simp at hne
   .show z
  calc(aj _ rL (aJ t _ rL (.inr (aU.of (G _ _ ht))) (aJ _ _ rL rL (aj _ rL ?_))));calc jP (λh8=>?_) (λ_=>(J4 _ _ _ rL Z));let h7:ts.length<=7:=by have:=eK h8;rw[aa]at this;lia
  calc(aj _ rL (aj _ rL (aj _ rL (aj _ rL ⟨b,k,kd,t,bs,bU,as,ts,r,w,aF,aO,bi,bj,rL,BA.mv xO,BK.mv xO,h63,G _ _ ht,hL.mv G,fB,h0,h7,G_,λo H7 s7 ho=>(aj _ rL ?_)⟩))));calc jP (λhb=>?_) (λ_=>(J4 _ _ _ rL (Z.trans s7)));show(aj _ rL (q t as ts H7 (xO.trans s7) (s7 _ _ (G _ _ ht)) ((hL.mv G).mv s7) (.inr ⟨fB,h0,h7,G_,ho hb⟩)))
 .intro σ O z;let⟨v5,v6,v7,rfl,sm⟩:=z;calc⟨zsz 0,λt ht=>?_⟩;show q t [] [] _ ((s1.trans sm).trans (aD.upd ht)) aA ⟨λa h=>(by cases h),rL⟩ (.inl rL)
theorem Yg:∀{l m bU:List Nat},bU.Perm (l++m)->∃D,xT bU l=some D
 | [],m,bU,_=>⟨bU,rL⟩
 | c::l,m,bU,h=>by let j:c∈bU:=h.mem_iff.mpr qk;unfold xT;rw[if_pos j];let h2:=h.erase c;rw[pj,List.erase_cons_head]at h2;show Yg h2
def cU (z:Std)(dn:Nat):List Nat:=z.racks.getD (dn%z.racks.length) []
def ab5 (z:Std)(dn:Nat)(bs:AB):cP->Prop
 | .lay ts=>aak z.aF z.r z.w z.bi z.bj bs (cU z dn) ts
 | .swap l=>l≠[]/\l.length<=7/\(∀c∈l,o8 c)/\(∃m,ql (cU z dn) l=some m)/\l.length<=z.bag.length
 | .pass=>True
def Uu {z:Std}{dn:Nat}(h:dn%z.racks.length<z.racks.length):cU z dn=z.racks[dn%z.racks.length]:=by unfold cU;rw[ax,ac h];rfl
def Yh (C CB:Addr):Sp:=λvs H Q _=>∃(pn k kd pw:Addr) (bs ws:AB) (c:Int) (z:Std) (dn ps:Nat) (ov:Bool),vs=[.ref pn,.ref k,.ref pw,.int c]/\qe C H pn z dn ps ov/\jc z/\iJ CB H k kd bs/\H pw=some (.lst (Ts ws))/\1<=ws.length/\(∀l∈ws,zj l)/\
 ∀(p:Addr) (d:cP) (H':Hp),aD H H'->vo H' p d->ab5 z dn bs d->Q (.ref p) H'
open Classical in
def af5 {C CB:Addr}(D:aP K mg "_law_deed" Kd ["_law_now","_law_book","_law_words_here","_law_cell"])(bG:mg "len"=none)(tH:mg "min"=none)(oK:cg P w K mg base "_law_stream" 1 ["_law_cell","_law_many"] uD)(adR:cg P w K mg base "_law_laying" 17 ["_law_board","_law_book","_law_words_here","_law_rack","_law_cell"] (ab3 C CB)):cg P w K mg base "_law_deed" 18 ["_law_now","_law_book","_law_words_here","_law_cell"] (Yh C CB):=by
 calc D.dM j9 (λf bN A outer s H vs Q E hr h=>?_);let⟨pn,k,kd,pw,bs,ws,c,z,dn,ps,ov,rfl,NA,Z,BK,Yd,w1,hwz,q⟩:=h;let⟨b,pr,pp,hn,hB,hpr,hpp⟩:=NA.ex;let n1:=Z.n1;let hrl:(Ts z.racks).length=z.racks.length:=aa _;let htn:dn%z.racks.length<z.racks.length:=Nat.mod_lt _ n1;let erk:=Uu htn;let⟨k7,kt⟩:=Z.r7 _ (aS htn);rw[<-erk]at k7 kt;let hz:(cU z dn).length<=sizeLine:=av (aM qi);let b6:=Z.b6;let Yi:z.bag.length<=sizeLine:=av (aM qi);calc(aj _ (aB (gK (u9 aH (qC rL (cD (bJ (i:=4) j9.nd rL (Or.inl rL)) (cD (bJ (i:=5) j9.nd rL (Or.inl rL)) (cD (bJ (i:=6) j9.nd rL (Or.inl rL)) (cD (bJ (i:=7) j9.nd rL (Or.inl rL)) (cD (bJ (i:=8) j9.nd rL (Or.inl rL)) (cD (bJ (i:=9) j9.nd rL (Or.inl rL)) (cD (bJ (i:=10) j9.nd rL (Or.inl rL)) oO)))))))))) (aB (aV (i:=11) j9.nd rL (Or.inl rL) (bI oK hr.mono rL (ak bT (ak au aq)))) (aB (gK (aV (i:=12) j9.nd rL (Or.inl rL) (bh bD eO (aL cj jZ (aY bY qr bG ay (ak eO aq))) (λ_ _=>rfl)))) (aB (aV (i:=13) j9.nd rL (Or.inl rL) (cZ aq)) (aB (gK (cJ (b_ ajf (aL cj (bh cW mz au (λ_ _=>rfl)) au) au (bM _)) (aG (aV (i:=13) j9.nd rL (Or.inl rL) (bI adR hr.mono rL (ak cO (ak bA (ak bF (ak nJ (ak (bh cW mz au (λ_ _=>rfl)) aq)))))))) bO)) (aB (cJ (b_ (Dp hr.units) u_ (cZ aq) (bM _)) (aG (bC (cZ (ak (bQ [108,97,121] qB) (ak u_ aq))))) bO) (aB (aV (i:=14) j9.nd rL (Or.inl rL) (aL cM au (aL cj (bh cW mz au (λ_ _=>rfl)) au))) (aB (cJ (QW.qt (mq (b_ jl (aL cj (bh cW mz au (λ_ _=>rfl)) au) au (bM _)) (lG (b_ vQ (aY (Oa rL) qr tH mE (ak (aY dO qr bG ay (ak nJ aq)) (ak (aY dO qr bG ay (ak fO aq)) aq))) (qv 14) (bM _))))) (aG (bC (cZ (ak (bQ [112,97,115,115] qB) aq)))) bO) (aB (aV (i:=15) j9.nd rL (Or.inl rL) (aL cj (aL cQ (bh cW mz au (λ_ _=>rfl)) au) (aY dO qr bG ay (ak nJ aq)))) (aG (bC (cZ (ak (bQ [115,119,97,112] qB) (ak (dH qu (aL nG (dH qu nJ (dI (qv 15)) fJ) (dH qu nJ fJ (dI (qv 15)))) fJ (dI (qv 14))) aq)))))))))))))) ?_);calc(aj (λσ H1=>H=H1/\σ=[some (.ref pn),some (.ref k),some (.ref pw),some (.int c),some (.ref b),some (.ref pr),some (.str (S z.bag)),some (.ref pp),some (.int dn),some (.int ps),some (.bl ov),none,none,none,none,none]) (aj _ rL (aX pn _ rL (aU.of hn) rL (dN _ _ rL (dN _ _ rL (dN _ _ rL (dN _ _ rL (dN _ _ rL (dN _ _ rL (aX _ _ rL rL rL rL))))))))) ?_);rintro σ H1 ⟨eH,rfl⟩;subst eH;refine(aj _ rL (aJ c 3 rL qo (λJ ds H1 s1 hp0 hp hdl=>?_)))
 match ds,hdl with
 | [x,y,u],_=>
  let emod:(dn:Int)%((Ts z.racks).length:Int)=((dn%z.racks.length:Nat):Int):=by rw[hrl];lia
  calc(aj (λσ H2=>H1=H2/\σ=[some (.ref pn),some (.ref k),some (.ref pw),some (.int c),some (.ref b),some (.ref pr),some (.str (S z.bag)),some (.ref pp),some (.int dn),some (.int ps),some (.bl ov),some (.ref J),some (.str (S (cU z dn))),none,none,none]) (aj _ rL (aj _ rL (aj _ rL (aJ pr _ rL (.inr (aU.of (s1 _ _ hpr))) (aX _ _ rL rL (by show (0:Int)<_;rw[hrl];lia) (gH pr _ _ (.str (S (cU z dn))) rL rL (aU.of (s1 _ _ hpr)) (by rw[emod,erk];show aQ (oH (ac htn))) rL rL)))))) ?_);rintro σ H2 ⟨eH,rfl⟩;subst eH;calc⟨zsz 0,λe he=>?_⟩;let s2:aD H1 (upd H1 e (HO.tup [])):=aD.upd he;let e2:upd H1 e (HO.tup []) e=some (.tup (([]:List Addr).map V.ref)):=aA;generalize upd H1 e (HO.tup [])=H2 at s2 e2 ⊢;let fG:=s1.trans s2;let O:=s2 _ _ hp;refine⟨λσ G=>∃(t:Addr) (as:List Addr) (ts:List bZ),σ=[some (.ref pn),some (.ref k),some (.ref pw),some (.int c),some (.ref b),some (.ref pr),some (.str (S z.bag)),some (.ref pp),some (.int dn),some (.int ps),some (.bl ov),some (.ref J),some (.str (S (cU z dn))),some (.ref t),none,none]/\aD H2 G/\G t=some (.tup (as.map V.ref))/\fQ G as ts/\(ts=[]\/aak z.aF z.r z.w z.bi z.bj bs (cU z dn) ts),?_,?_⟩
  .calc(aj _ rL (bw J _ _ (.int x) rL rL (bH.of O) (aQ (j:=0) rL) (aX _ _ rL rL (by show (0:Int)<8;decide) (aJ _ _ rL rL (aj _ rL ?_)))));calc jP (λ_=>?_) (λ_=>(dW e [] [] rL (aD.refl _) e2 ⟨λa h=>(by cases h),rL⟩ (.inl rL)));show(aj _ rL (aj _ rL (aj _ rL (aj _ rL (aj _ rL (bw J _ _ (.int y) rL rL (bH.of O) (aQ (j:=1) rL) ⟨b,k,kd,pw,bs,ws,cU z dn,y,z.r,z.w,z.aF,z.aO,z.bi,z.bj,rL,hB.mv fG,BK.mv fG,fG _ _ Yd,w1,hwz,qi,λt as ts G s3 ht hL ho=>(dW t as ts rL s3 ht hL ho)⟩))))))
  intro σ G z;let⟨t,as,ts,rfl,s3,ht,hL,ho⟩:=z;let fU:=fG.trans s3;let hp3:=s3 _ _ O;calc(bf _ rL (zsz 0) (λe' he'=>?_));let I:aD G (upd G e' (HO.tup [])):=aD.upd he';let e4:upd G e' (HO.tup []) e'=some (.tup []):=aA;generalize upd G e' (HO.tup [])=H4 at I e4 ⊢;let iz:=fU.trans I;let Y:=I _ _ hp3;let hsg:∀t∈ts,rD t.2.2:=by
   rcases ho with h|h;.subst h;intro t h;cases h
   .show λt ht=>(h.xR t ht).2.2
  calc(cY 3 (.tup (ts.map dT)) (.tup []) qo (jC.K7 (I _ _ ht) (hL.mv I) hsg) (.tup (aU.of e4) .nil) (aj _ rL ?_));refine jP (λhne=>?_) (λ_=>?_)
  .rcases ho with h|h;.subst h;simp at hne
   calc(bf _ rL (zsz 2) (λp hp=>?_));let sp:=aD.upd hp (o:=HO.tup [V.str (S [108,97,121]),V.ref t]);show q p (.lay ts) _ (iz.trans sp) (aJ t as aA (sp _ _ (I _ _ ht)) ((hL.mv I).mv sp)) h
  calc(aj _ rL (bw J _ _ (.int u) rL rL (bH.of Y) (aQ (j:=2) rL) (aX _ _ rL rL (by show (0:Int)<7;decide) (aJ _ _ rL rL ?_))));let pass:1<=sizeLine/\∀p,H4 p=none->Q (.ref p) (upd H4 p (HO.tup [V.str (S [112,97,115,115])])):=⟨zsz 1,λp hp=>q p .pass _ (iz.trans (aD.upd hp)) aA True.intro⟩
  calc(aj _ rL (bw J _ _ (.int x) rL rL (bH.of Y) (aQ (j:=0) rL) (dG _ _ rL rL (by show (0:Int)<8;decide) rL (aj _ rL ?_))));calc jP (λ_=>pass) (λ_=>?_);calc(aj _ rL (bf (cU z dn) rL hz (aj _ rL (bf z.bag rL Yi (dN _ _ rL (aj _ rL (aJ _ _ rL rL (aj _ rL ?_))))))));calc jP (λ_=>pass) (λhm=>?_);let hm:=ka (oP.mpr hm);obtain⟨F,aeV⟩:∃F:Nat,1+u%7=(F:Int):=⟨(1+u%7).toNat,qi⟩
  let m1:1<=F:=qi;let m7:F<=7:=qi;let mr:F<=(cU z dn).length/\F<=z.bag.length:=by let hm:¬((if (z.bag.length:Int)<((cU z dn).length:Int) then (z.bag.length:Int) else ((cU z dn).length:Int))<1+u%7):=hm;rw[aeV]at hm;split at hm <;> lia
  let hpos:(0:Int)<((cU z dn).length:Int):=qi;obtain⟨B,hBy⟩:∃B:Nat,u/7%((cU z dn).length:Int)=(B:Int):=⟨(u/7%((cU z dn).length:Int)).toNat,by have:=dE (u/7) (show ((cU z dn).length:Int)≠0 by lia);lia⟩
  calc(aj _ rL (bw J _ _ (.int u) rL rL (bH.of Y) (aQ (j:=2) rL) (aX _ _ rL rL ⟨qo,qo⟩ (aj _ rL (bf (cU z dn) rL hz (aX _ _ rL rL hpos ?_))))));calc(aj _ rL (aj _ rL (aj _ rL (bf (cU z dn) rL hz (aj _ rL (aj _ rL (aj _ rL (bf (cU z dn) rL hz (aX _ _ rL rL ?_ (aj _ rL (aj _ rL (h_ _ rL ?_ (zsz 2) (λp hp=>?_)))))))))))));.rw[hBy,lB,oV,ba,am];show av (aM qi)
  .rw[hBy,lB,oV,aE,ba,am];show av (aM qi)
  let ec:iM (iM (cU z dn) (some (u/7%((cU z dn).length:Int))) none++iM (cU z dn) none (some (u/7%((cU z dn).length:Int)))) none (some (1+u%7))=((cU z dn).drop B++(cU z dn).take B).take F:=by rw[hBy,lB,oV,aeV,oV]
  let pe:(cU z dn).Perm (((cU z dn).drop B++(cU z dn).take B).take F++((cU z dn).drop B++(cU z dn).take B).drop F):=by rw[kD];calc List.Perm.trans ?_ List.perm_append_comm;rw[kD]
  let⟨m,hrm⟩:=Yg pe;let dB:(((cU z dn).drop B++(cU z dn).take B).take F).length=F:=by rw[am,aE,ba,am];lia
  let htl:∀c∈((cU z dn).drop B++(cU z dn).take B).take F,o8 c:=λc hc=>kt c (by
   rcases bv.mp (de hc) with z|z;.show eQ z
   .show de z)
  let sp:=aD.upd hp (o:=HO.tup [V.str (S [115,119,97,112]),V.str (S (iM (iM (cU z dn) (some (u/7%((cU z dn).length:Int))) none++iM (cU z dn) none (some (u/7%((cU z dn).length:Int)))) none (some (1+u%7))))]);refine q p (.swap (((cU z dn).drop B++(cU z dn).take B).take F)) _ (iz.trans sp) ?_ ⟨λz=>?_,qi,htl,⟨m,?_⟩,qi⟩
  .show upd H4 p _ p=_;rw[aA,<-ec];rfl
  .rw[z]at dB;simp at dB;lia
  .rw[<-Q9,X7 htl];show hrm
def Uv (ps:Nat):cP->Nat
 | .pass=>ps+1
 | _=>0
noncomputable def ovN (z z':Std)(ps dn:Nat):cP->Bool
 | .pass=>decide (2*z.racks.length<=ps+1)
 | .swap _=>false
 | .lay _=>decide (cU z' dn=[])&&decide (z'.bag=[])
def Pr {d:cP}:d.name=gb↔d=.pass:=by
 cases d with| lay ts=>show⟨λh=>absurd h (show ¬jy=gb by decide),λh=>nomatch h⟩| swap l=>show⟨λh=>absurd h (show ¬iV=gb by decide),λh=>nomatch h⟩| pass=>show⟨λ_=>rfl,λ_=>rfl⟩
def af6 {c:Nat}(h:rD c):qz [V.str (S [c]),V.str (S [63])] (if (!decide ([PyProof.Rows.lo1 c]=[c]))=true then 1 else 0)=some (.str (S [iG c])):=by
 unfold rD DW DR G7 at h;simp at h;unfold iG PyProof.Rows.lo1;by_cases j:65<=c/\c<=90
 .rw[if_pos j,if_pos j];have:¬[c+32]=[c]:=λz=>by simp at z
  rw[ag this];rfl
 .rw[if_neg j,if_neg j,al rfl];rfl
def ajP (n k:Nat):(if (n:Int)-(k:Int) > 0 then (n:Int)-(k:Int) else 0)=((n-k:Nat):Int):=by split <;> lia
def ab6 (C:Addr):Sp:=λvs H Q _=>∃(pn p pw pd:Addr) (z z':Std) (dn ps:Nat) (ov:Bool) (Z:Um) (G:Gm) (d:cP) (pt:Int),vs=[.ref pn,.ref p,.ref pd]/\qe C H pn z dn ps ov/\jc z/\yO C H p pw Z/\aah Z/\vo H pd d/\G.done.length=dn/\G.kvs=Z.kvs/\G.bn=Z.bn/\G.bm=Z.bm/\G.size=Z.size/\Does G z d pt z'/\
 ∀(t j:Addr) (H':Hp),aD H H'->H' t=some (.tup [.int pt,.ref j])->qe C H' j z' (dn+1) (Uv ps d) (ovN z z' ps dn d)->Q (.ref t) H'
def K8 {c:Nat}(h:o8 c):c<128:=by
 rcases h with e|e;.have:=e.2;lia
 .lia
open Classical in
def af7 {C f1:Addr}{eE:FuncData}(D:aP K mg "_law_next" Ke ["_law_now","_law_parts_here","_law_deed_here"])(bG:mg "len"=none)(fP:mg "list"=none)(iR:mg "sorted"=none)(o7:mg "int"=none)(yM:mg "max"=none)(cI:iy K C)(lQ:Meth K C "laid" f1)(lR:cA P w K mg base dJ 8 f1 eE ["self","laying"] (DY C))(lU:bR K eE ["self","laying"] [])(af8:cg P w K mg base "_law_taken" 1 ["_law_rack","_law_tiles_here"] X8)(adS:cg P w K mg base "_law_taken" 1 ["_law_rack","_law_tiles_here"] Ui)(zy:cg P w K mg base "points_of" 11 ["board","worths","bonus","laying"] (Z9 C)):cg P w K mg base "_law_next" 12 ["_law_now","_law_parts_here","_law_deed_here"] (ab6 C):=by
 calc D.dM gZ (λf bN A outer s H vs Q E hr h=>?_);let⟨pn,p,pw,pd,z,z',dn,ps,ov,Z,G,d,pt,rfl,NA,Zk,PA,PO,hd,hdn,ek,en,em,ez,hdo,q⟩:=h;let⟨b,pr,pp,hn,hB,I,hpp⟩:=NA.ex;let⟨b0,dk,pb,prr,hp,hB0,hdk,hpb,alb⟩:=PA.ex;let⟨nxs,hnm⟩:=X4 hd;let n1:=Zk.n1;let n4:=Zk.n4;let J:(Ts z.racks).length=z.racks.length:=aa _;let F:dn%z.racks.length<z.racks.length:=Nat.mod_lt _ n1;let erk:=Uu F;let⟨k7,kt⟩:=Zk.r7 _ (aS F);rw[<-erk]at k7 kt;let b6:=Zk.b6;let Yi:z.bag.length<=sizeLine:=av (aM qi);let etn:jO G z=dn%z.racks.length:=by unfold jO;rw[hdn]
 let emod:(dn:Int)%((Ts z.racks).length:Int)=((dn%z.racks.length:Nat):Int):=by rw[J];lia
 let eat:qz (Ts z.racks) ((dn:Int)%((Ts z.racks).length:Int))=some (.str (S (cU z dn))):=by rw[emod,erk];show aQ (oH (ac F))
 calc(aj _ (aB (gK (u9 aH (qC rL (cD (bJ (i:=3) gZ.nd rL (Or.inl rL)) (cD (bJ (i:=4) gZ.nd rL (Or.inl rL)) (cD (bJ (i:=5) gZ.nd rL (Or.inl rL)) (cD (bJ (i:=6) gZ.nd rL (Or.inl rL)) (cD (bJ (i:=7) gZ.nd rL (Or.inl rL)) (cD (bJ (i:=8) gZ.nd rL (Or.inl rL)) (cD (bJ (i:=9) gZ.nd rL (Or.inl rL)) oO)))))))))) (aB (gK (aV (i:=10) gZ.nd rL (Or.inl rL) (aL cj gQ (aY bY qr bG ay (ak cO aq))))) (aB (aV (i:=11) gZ.nd rL (Or.inl rL) au) (aB (cJ (b_ jQ (bh bD bF au (λ_ _=>rfl)) (bQ [112,97,115,115] qB) (bM _)) (aG (bC (cZ (ak au (ak (cZ (ak bT (ak cO (ak eO (ak fO (ak (aL cM gQ au) (ak (aL cM jZ au) (ak (fH FW (aL cM jZ au) (aL jj au (aY bY qr bG ay (ak cO aq))) (bM _)) aq)))))))) aq))))) bO) (aB (gK (cJ (b_ jQ (bh bD bF au (λ_ _=>rfl)) (bQ [115,119,97,112] qB) (bM _)) (aB (aV (i:=12) gZ.nd rL (Or.inl rL) (aL aaR (bI af8 hr.mono rL (ak (bh bD cO iu (λ_ _=>rfl)) (ak (bh bD bF au (λ_ _=>rfl)) aq))) (d_ (oh rL) qr fP dS (ak (dH qu eO fJ (dI (aY dO qr bG ay (ak (bh bD bF au (λ_ _=>rfl)) aq)))) aq)))) (aG (aV (i:=5) gZ.nd rL (Or.inl rL) (aL nG (dH qu eO (dI (aY dO qr bG ay (ak (bh bD bF au (λ_ _=>rfl)) aq))) fJ) (gC bp dA dC qZ (bQ [] qB) (ak (aY (vB rL) qr iR fS (ak (bh bD bF au (λ_ _=>rfl)) aq)) aq)))))) (aB (aV (i:=11) gZ.nd rL (Or.inl rL) (bI zy hr.mono rL (ak bT (ak (bh bD bA au (λ_ _=>rfl)) (ak (bh bD bA au (λ_ _=>rfl)) (ak (bh bD bF au (λ_ _=>rfl)) aq)))))) (aB (aV (i:=12) gZ.nd rL (Or.inl rL) (bI adS hr.mono rL (ak (bh bD cO iu (λ_ _=>rfl)) (ak (mQ (ns:=["_law_row","_law_column","_law_sign"]) rL (jY.of ["_law_now","_law_parts_here","_law_deed_here","_law_board","_law_racks","_law_bag","_law_sums","_law_done","_law_passed","_law_over","_law_here","_law_points","_law_left","_law_drawn"] [] qA) (iI (bh bD bF au (λ_ _=>rfl))) (λ_ _ _ _ _=>(pQ K rL (show (["_law_row","_law_column","_law_sign","_law_now","_law_parts_here","_law_deed_here","_law_board","_law_racks","_law_bag","_law_sums","_law_done","_law_passed","_law_over","_law_here","_law_points","_law_left","_law_drawn"]:List Str).Nodup by decide +kernel) rL rL rL qr qr qr)) (λ_ _ _ _ _=>fu) (λ_ _ _ _ _=>(bh (ac2 K) (iW (ak bF (ak (bQ [63] qB) aq))) (d_ Ob qr o7 kz (ak (fH JK (afB K bp ml mm Rx bF) bF (bM _)) aq)) (λ_ _=>rfl)))) aq)))) (aB (gK (aV (i:=13) gZ.nd rL (Or.inl rL) (dH qu eO fJ (dI (aY (N_ rL) qr yM PyProof.Rows.boot_max (ak au (ak (aL oM (bh bD bA au (λ_ _=>rfl)) (aY bY qr bG ay (ak nJ aq))) aq))))))) (aB (aV (i:=12) gZ.nd rL (Or.inl rL) (aL aaR nJ (d_ (oh rL) qr fP dS (ak u_ aq)))) (aB (aV (i:=5) gZ.nd rL (Or.inl rL) (dH qu eO (dI (aY dO qr bG ay (ak u_ aq))) fJ)) (aG (aV (i:=3) gZ.nd rL (Or.inl rL) (nH bT cI.cl lQ lR hr.mono lU .nil eG (ak (bh bD bF au (λ_ _=>rfl)) aq))))))))))) (aB (aV (i:=4) gZ.nd rL (Or.inl rL) (aL wL (aL wL (dH wM cO fJ (dI iu)) (cZ (ak (gC bp dA dC qZ (bQ [] qB) (ak (aY Dq qr iR fS (ak nJ aq)) aq)) aq))) (dH wM cO (dI (aL cM iu au)) fJ))) (aB (aV (i:=6) gZ.nd rL (Or.inl rL) (aL wL (aL wL (dH wM fO fJ (dI iu)) (cZ (ak (aL cM (bh bD fO iu (λ_ _=>rfl)) mz) aq))) (dH wM fO (dI (aL cM iu au)) fJ))) (aG (bC (cZ (ak mz (ak (cZ (ak bT (ak cO (ak eO (ak fO (ak (aL cM gQ au) (ak au (ak (jR (fH jQ (bh bD bF au (λ_ _=>rfl)) (bQ [108,97,121] qB) (bM _)) (jR (fH (zV hr.units) nJ (iW aq) (bM _)) (jA (fH jQ eO (bQ [] qB) (bM _))))) aq)))))))) aq)))))))))))) ?_);calc(aj (λσ H1=>H=H1/\σ=[some (.ref pn),some (.ref p),some (.ref pd),some (.ref b),some (.ref pr),some (.str (S z.bag)),some (.ref pp),some (.int dn),some (.int ps),some (.bl ov),none,none,none,none]) (aj _ rL (aX pn _ rL (aU.of hn) rL (dN _ _ rL (dN _ _ rL (dN _ _ rL (dN _ _ rL (dN _ _ rL (dN _ _ rL (aX _ _ rL rL rL rL))))))))) ?_);rintro σ H1 ⟨eH,rfl⟩;subst eH;calc(aj (λσ H2=>H=H2/\σ=[some (.ref pn),some (.ref p),some (.ref pd),some (.ref b),some (.ref pr),some (.str (S z.bag)),some (.ref pp),some (.int dn),some (.int ps),some (.bl ov),some (.int ((dn:Int)%((Ts z.racks).length:Int))),none,none,none]) (aj _ rL (aj _ rL (aJ pr _ rL (.inr (aU.of I)) (dG _ _ rL rL (by show (0:Int)<_;rw[J];lia) rL rL)))) ?_);rintro σ H2 ⟨eH,rfl⟩;subst eH;calc(aj _ rL (bw pd _ _ (.str (S d.name)) rL rL (aU.of hnm) (aQ (j:=0) rL) (aJ d.name gb rL rL (aj _ rL ?_))));by_cases Y:d=.pass
 .subst Y;rw[al (show cP.name .pass=gb from rL)];cases hdo;let eo:decide ((ps:Int)+1>=2*((Ts z.racks).length:Int))=decide (2*z.racks.length<=ps+1):=Gn (by rw[J];lia);calc cG (aj _ rL (aj _ rL (aj _ rL (aj _ rL (aj _ rL (aJ _ _ rL rL (aj _ rL (aJ _ _ rL rL (aj _ rL (aJ _ _ rL rL (aj _ rL (aJ pr _ rL (.inr (aU.of I)) (aX _ _ rL rL (.inl ⟨qo,qo⟩) (aX _ _ rL rL (zsz 7) (λp' hp'=>⟨zsz 2,λt ht=>?_⟩)))))))))))))));let s1:=aD.upd hp' (o:=HO.tup [V.ref b,V.ref pr,V.str (S z.bag),V.ref pp,V.int ((dn:Int)+1),V.int ((ps:Int)+1),V.bl (decide ((ps:Int)+1>=2*((Ts z.racks).length:Int)))]);let s2:=aD.upd ht (o:=HO.tup [V.int 0,V.ref p']);calc q t p' _ (s1.trans s2) aA ⟨b,pr,pp,s2 _ _ ?_,(hB.mv s1).mv s2,s2 _ _ (s1 _ _ I),s2 _ _ (s1 _ _ hpp)⟩;calc aA.trans ?_;show some (HO.tup [V.ref b,V.ref pr,V.str (S z.bag),V.ref pp,V.int ((dn:Int)+1),V.int ((ps:Int)+1),V.bl (decide ((ps:Int)+1>=2*((Ts z.racks).length:Int)))])=_;rw[eo];rfl
 rw[ag λe=>Y (Pr.mp e)];refine bW ⟨λσ H5=>∃(b' N:Addr) (us:List Nat) (Yj:Option V),σ=[some (.ref pn),some (.ref p),some (.ref pd),some (.ref b'),some (.ref pr),some (.str (S z'.bag)),some (.ref pp),some (.int dn),some (.int ps),some (.bl ov),some (.int ((dn:Int)%((Ts z.racks).length:Int))),some (.int pt),some (.ref N),Yj]/\aD H H5/\cX C H5 b' z'.r z'.w z'.aF z'.aO z'.bi z'.bj/\H5 N=some (.lst (Ts (us.map λc=>[c])))/\us.length<=60/\(∀c∈us,c<128)/\z'.racks=z.racks.set (dn%z.racks.length) (dZ us)/\z'.jB=z.jB.set (dn%z.racks.length) (z.jB.getD (dn%z.racks.length) 0+pt),?_,?_⟩
 .calc(aj _ rL (bw pd _ _ (.str (S d.name)) rL rL (aU.of hnm) (aQ (j:=0) rL) (aJ d.name iV rL rL (aj _ rL ?_))));cases hdo with
  | @swap l m ne h7 tl lf hb=>
   rw[al (show cP.name (.swap l)=iV from rL)];let hd:H pd=some (.tup [.str (S iV),.str (S l)]):=hd;let CK:l.length<=sizeLine:=av (aM qi);rw[etn]at lf;let O:xT (cU z dn) l=some m:=by rw[<-X7 tl,Q9];show lf
   let hml:=Uh O;calc cG (aj _ rL (aj _ rL (bw pr _ _ (.str (S (cU z dn))) rL rL (aU.of I) eat (aj _ rL (bw pd _ _ (.str (S l)) rL rL (aU.of hd) (aQ (j:=1) rL) (dW (cU z dn) l m rL qi qi O (λLf H1 s1 fLf hLf=>?_)))))));calc(aj _ rL (aj _ rL (bw pd _ _ (.str (S l)) rL rL (aU.of (s1 _ _ hd)) (aQ (j:=1) rL) (bf l rL CK (aj _ rL (bf z.bag rL Yi (bf (z.bag.take l.length) (by rw[oV]) (by rw[am];lia) (λM hM=>?_))))))));let s2:=aD.upd hM (o:=HO.lst (Ts ((z.bag.take l.length).map λc=>[c])));let e2:upd H1 M (HO.lst (Ts ((z.bag.take l.length).map λc=>[c]))) M=some (.lst (Ts ((z.bag.take l.length).map λc=>[c]))):=aA;generalize upd H1 M (HO.lst (Ts ((z.bag.take l.length).map λc=>[c])))=H2 at s2 e2 ⊢;calc(gH Lf M _ _ rL rL (s2 _ _ hLf) e2 ?_ (λN hN=>?_));.rw[aa,aa,aa,aa,am];show av (aM qi)
   let s3:=aD.upd hN (o:=HO.lst (Ts (m.map λc=>[c])++Ts ((z.bag.take l.length).map λc=>[c])));let e3:upd H2 N (HO.lst (Ts (m.map λc=>[c])++Ts ((z.bag.take l.length).map λc=>[c]))) N=some (.lst (Ts ((m++z.bag.take l.length).map λc=>[c]))):=by rw[aA];simp[Ts]
   generalize upd H2 N (HO.lst (Ts (m.map λc=>[c])++Ts ((z.bag.take l.length).map λc=>[c])))=H3 at s3 e3 ⊢;let fU:=(s1.trans s2).trans s3;calc(aj _ rL (aj _ rL (bw pd _ _ (.str (S l)) rL rL (aU.of (fU _ _ hd)) (aQ (j:=1) rL) (bf l rL CK (aj _ rL (h_ z.bag rL Yi rL (aj _ rL (bw pd _ _ (.str (S l)) rL rL (aU.of (fU _ _ hd)) (aQ (j:=1) rL) (bf l rL qi (λp2 us hp2 pm pw2=>?_))))))))));let s4:=aD.upd hp2 (o:=HO.lst (Ts (us.map λc=>[c])));calc(dG p2 (us.map λc=>[c]) rL rL (bH.of aA) ?_ ?_);.rw[nu,pm.length_eq];lia
   rw[xP (pm.map λc=>[c]) pw2];calc(aX _ (dZ l) rL rL ?_ ?_);.rw[lB,ba,jK];show av (aM qi)
   calc(nq b N (m++z.bag.take l.length) none ?_ (fU.trans s4) ((hB.mv fU).mv s4) (s4 _ _ e3) ?_ (λc hc=>?_) ?_ ?_);.rw[lB];rfl
   .rw[aE,am];lia
   .rcases bv.mp hc with y|y;.show K8 (kt c (Ae lf c y))
    .show K8 (Zk.bt c (de y))
   .show z.racks.set _ _=_;rw[etn,abO (List.Perm.append (kO m) (List.Perm.refl _))]
   .show z.jB=_;rw[Int.add_zero];let hip:dn%z.racks.length<z.jB.length:=by rw[Zk.pl];show F
    rw[ax,ac hip,Option.getD_some,List.set_getElem_self]
  | @lay ts l xR h0 h7 ri vd lf=>
   rw[ag (show ¬cP.name (.lay ts)=iV from (show ¬jy=iV by decide))];let⟨t,as,hd,ht,hL⟩:=hd;let hl1:=M4 hB.ok.w9 xR h0 ri (X3 vd);let hal:=hL.len;rw[etn]at lf;calc bW (aj _ rL (aj _ rL (bw p _ _ (.ref dk) rL rL (aU.of hp) (aQ (j:=2) rL) (aj _ rL (bw p _ _ (.ref pb) rL rL (aU.of hp) (aQ (j:=3) rL) (aj _ rL (bw pd _ _ (.ref t) rL rL (aU.of hd) (aQ (j:=1) rL) ⟨b,dk,pb,t,Z.kvs,Z.bn,Z.bm,as,ts,z.r,z.w,z.aF,z.aO,z.bi,z.bj,rL,hB,Rd.of hdk,PO.wd,PO.wb,hpb,ht,hL,xR,h0,h7,hl1,λH1 s1=>?_⟩)))))));refine(aj _ rL (aj _ rL (bw pr _ _ (.str (S (cU z dn))) rL rL (aU.of (s1 _ _ I)) eat (aj _ rL (bw pd _ _ (.ref t) rL rL (aU.of (s1 _ _ hd)) (aQ (j:=1) rL) (bf t rL ⟨_,aU.of (s1 _ _ ht)⟩ (λN hN=>lq (K:=K) (KT:=K) (a:=t) (f:=j6 [] 0) (tt:=mL) (xs:=as.map V.ref) (λn ys H6=>ys=Ts (ones ((ts.take n).map λt=>iG t.2.2))/\H6 N=some (.lst ys)/\aD H1 H6)
    (bV rL aA (aD.upd hN)) (λn ys H6 _ h=>aU.of (h.2.2 _ _ (s1 _ _ ht))) ?_ ?_)))))))
   .intro n x ys H6 hx z;let⟨rfl,tQ,rF⟩:=z;let hn':n<as.length:=by have:=(ah.mp hx).1;simpa using this
    let hnt:n<ts.length:=qi;rw[ck,ac hn']at hx;let hx:V.ref as[n]=x:=bo hx;let⟨_,ent⟩:=jV (hL.mv (s1.trans rF)) hnt;let hsg:=(xR _ (aS hnt)).2.2;calc vV hx.symm (aU.of ent) ?_;calc(bf _ rL (zsz 2) (λM hM=>?_));let s7:=aD.upd hM (o:=HO.lst [V.str (S [ts[n].2.2]),V.str (S [63])]);calc(bf _ rL rL (pR [ts[n].2.2] rL rL (by show 1<=1000;decide) (λc hc=>by rw[bc.mp hc];show hsg.lt) (aj _ rL (aJ [PyProof.Rows.lo1 ts[n].2.2] [ts[n].2.2] rL rL (.inr (aj _ rL ⟨M,_,_,.str (S [iG ts[n].2.2]),rL,rL,bH.of aA,af6 hsg,s7 _ _ tQ,?_,iU.mk (by rw[aa];show hn') (bV ?_ aA ((rF.trans s7).dX hN))⟩))))));.rw[aa,aa,aa,am];show aM qi
    .rw[show ts.take (n+1)=ts.take n++[ts[n]] by rw[c_,ac hnt];rfl];simp only[Ts,ones,bq];rfl
   intro ys H6 z;let⟨rfl,tQ,rF⟩:=z;rw[aa,hal,cp]at tQ;let O:xT (cU z dn) (ts.map λt=>iG t.2.2)=some l:=by rw[show (ts.map λt=>iG t.2.2)=(ts.map (·.2.2)).map iG by rw[f_];rfl,Q9];show lf
   let hll:=Uh O;let xO:=s1.trans rF;calc(gH (cU z dn) (ts.map (λt=>iG t.2.2)) l N rL tQ qi (by rw[aa];lia) O (λLf H7 s7 fLf hLf=>?_));let KJ:=xO.trans s7;let hLl:(Ts (l.map λc=>[c])).length=l.length:=by rw[aa,aa]
   let akH:iM z.bag none (some (if (Z.size:Int)-((Ts (l.map λc=>[c])).length:Int) > 0 then (Z.size:Int)-((Ts (l.map λc=>[c])).length:Int) else 0))=z.bag.take (Z.size-l.length):=by rw[hLl,ajP,oV]
   calc(aj (λσ H8=>H7=H8/\σ=[some (.ref pn),some (.ref p),some (.ref pd),some (.ref b),some (.ref pr),some (.str (S z.bag)),some (.ref pp),some (.int dn),some (.int ps),some (.bl ov),some (.int ((dn:Int)%((Ts z.racks).length:Int))),some (.int (Z8 z.aF z.aO Z.kvs ts Z.bn Z.bm)),some (.ref Lf),some (.str (S (z.bag.take (Z.size-l.length))))]) (aj _ rL (aj _ rL (bw p _ _ (.int Z.size) rL rL (aU.of (KJ _ _ hp)) (aQ (j:=4) rL) (aj _ rL (aJ Lf _ rL (.inl (bH.of hLf)) (aJ _ _ rL rL (dN _ _ rL (aj _ rL (h_ z.bag rL Yi rL (by rw[<-akH];rfl)))))))))) ?_);rintro σ H7' ⟨eH,rfl⟩;subst eH;let htk:(z.bag.take (Z.size-l.length)).length<=7:=by rw[am];have:=PO.s7;lia
   calc(aj _ rL (aj _ rL (bf (z.bag.take (Z.size-l.length)) rL qi (λM hM=>?_))));let s8:=aD.upd hM (o:=HO.lst (Ts ((z.bag.take (Z.size-l.length)).map λc=>[c])));let e8:upd H7 M (HO.lst (Ts ((z.bag.take (Z.size-l.length)).map λc=>[c]))) M=some (.lst (Ts ((z.bag.take (Z.size-l.length)).map λc=>[c]))):=aA;generalize upd H7 M (HO.lst (Ts ((z.bag.take (Z.size-l.length)).map λc=>[c])))=H8 at s8 e8 ⊢;calc(gH Lf M _ _ rL rL (s8 _ _ hLf) e8 ?_ (λN2 hN2=>?_));.rw[aa,aa,aa,aa];show av (aM qi)
   let s9:=aD.upd hN2 (o:=HO.lst (Ts (l.map λc=>[c])++Ts ((z.bag.take (Z.size-l.length)).map λc=>[c])));let e9:upd H8 N2 (HO.lst (Ts (l.map λc=>[c])++Ts ((z.bag.take (Z.size-l.length)).map λc=>[c]))) N2=some (.lst (Ts ((l++z.bag.take (Z.size-l.length)).map λc=>[c]))):=by rw[aA];simp[Ts]
   generalize upd H8 N2 (HO.lst (Ts (l.map λc=>[c])++Ts ((z.bag.take (Z.size-l.length)).map λc=>[c])))=H9 at s9 e9 ⊢;let Yk:=(KJ.trans s8).trans s9;let⟨bx,_,_,_,hbx,_⟩:=(hB.mv Yk).ex;calc(aj _ rL (aj _ rL (bf (z.bag.take (Z.size-l.length)) rL (av (aM qi)) (aj _ rL (bf z.bag rL Yi ?_)))));calc(aj _ rL (cY b bx _ rL hbx rL (aj _ rL (bw pd _ _ (.ref t) rL rL (aU.of (Yk _ _ hd)) (aQ (j:=1) rL) (Dw b t as ts z.r z.w z.aF z.aO z.bi z.bj rL (hB.mv Yk) (Yk _ _ ht) (hL.mv Yk) xR (λb' HA sA hb'=>?_))))));let akI:iM z.bag (some ((z.bag.take (Z.size-l.length)).length:Int)) none=z.bag.drop (Z.size-l.length):=by
    rw[lB,am];by_cases hh:Z.size-l.length<=z.bag.length;.rw[fF hh]
    .rw[kG qi,hJ (ai _),hJ qi]
   refine(nq b' N2 (l++z.bag.take (Z.size-l.length)) (some (.str (S (z.bag.take (Z.size-l.length))))) ?_ (Yk.trans sA) hb' (sA _ _ e9) ?_ (λc hc=>?_) ?_ ?_)
   .rw[akI,ek,en,em];show _=[_,_,_,_,_,some (V.str (S (z.bag.drop (G.size-(dZ l).length)))),_,_,_,_,_,_,_,_]
    rw[jK,ez];rfl
   .rw[aE];lia
   .rcases bv.mp hc with y|y;.show K8 (kt c (Ae lf c y))
    .show K8 (Zk.bt c (de y))
   .show z.racks.set _ (dZ (dZ l++z.bag.take (G.size-(dZ l).length)))=_;rw[etn,jK,ez,abO (List.Perm.append (kO l) (List.Perm.refl _))]
   .show z.jB.set _ _=_;rw[etn]
  | pass=>show absurd rL Y
 .intro σ H5 z;let⟨b',N,us,Yj,rfl,s5,hb5,yH,KC,ajQ,aiv,akJ⟩:=z;rw[emod];let aiw:=s5 _ _ I;calc(aj _ rL (aj _ rL (aj _ rL (aJ pr _ rL aiw (λp1 H6 s6 h6=>?_)))));let hi:dn%z.racks.length<(Ts z.racks).length:=by rw[J];show F
  rw[show fV (Ts z.racks) none (some ((dn%z.racks.length:Nat):Int))=(Ts z.racks).take (dn%z.racks.length) from M8 qi]at h6;calc⟨rL,aj _ rL (aX N (us.map λc=>[c]) rL (bH.of (s6 _ _ yH)) (by rw[aa];lia) (λq2 lY hq2 pm pw2=>?_))⟩;let s7:=aD.upd hq2 (o:=HO.lst (Ts lY));calc(dG q2 lY rL rL (bH.of aA) ?_ ?_);.rw[xP pm pw2,jK];lia
  rw[xP pm pw2];generalize upd H6 q2 (HO.lst (Ts lY))=H7 at s7 ⊢;calc⟨zsz 1,λp2 n2=>?_⟩;let e8:upd H7 p2 (HO.tup [V.str (S (dZ us))]) p2=some (.tup [V.str (S (dZ us))]):=aA;let s8:aD H7 (upd H7 p2 (HO.tup [V.str (S (dZ us))])):=aD.upd n2;generalize upd H7 p2 (HO.tup [V.str (S (dZ us))])=H8 at e8 s8 ⊢;let s68:=s7.trans s8;calc(nq p1 p2 _ _ rL rL (aU.of (s68 _ _ h6)) (aU.of e8) ?_ (λ_=>e8) (λy=>absurd y qk) (λp3 H9 s9 h9=>?_));.rw[am];show av (aM (by simp;lia))
  let s59:=(s6.trans s68).trans s9;calc(aj _ rL (aj _ rL (aJ _ _ rL rL (aj _ rL (aJ pr _ rL (s59 _ _ aiw) (λp4 HA sA hA=>?_))))));rw[show fV (Ts z.racks) (some (((dn%z.racks.length:Nat):Int)+1)) none=(Ts z.racks).drop (dn%z.racks.length+1) from Ed (a:=dn%z.racks.length+1) qi]at hA;calc(nq p3 p4 _ _ rL rL (aU.of (sA _ _ h9)) (aU.of hA) ?_ (λy=>by simp at y) (λ_ _=>sA _ _ h9) (λEh HB sB Iu=>?_));.rw[aE,am,ba,J];show av (aM (by simp;lia))
  let adO:HB Eh=some (.tup (Ts z'.racks)):=by rw[Iu,aiv,<-KR,iF,if_pos hi];simp
  let s5B:=(s59.trans sA).trans sB;let adT:=s5B _ _ (s5 _ _ hpp);let hpl:(z.jB.map V.int).length=z.racks.length:=by rw[aa,Zk.pl]
  let hip:dn%z.racks.length<(z.jB.map V.int).length:=by rw[hpl];show F
  let aix:dn%z.racks.length<z.jB.length:=by rw[Zk.pl];show F
  calc(aj _ rL (aj _ rL (aj _ rL (aJ pp _ rL adT (λr1 HC sC hC=>?_)))));rw[show fV (z.jB.map V.int) none (some ((dn%z.racks.length:Nat):Int))=(z.jB.map V.int).take (dn%z.racks.length) from M8 qi]at hC;calc(aj _ rL (aj _ rL (bw pp _ _ (.int z.jB[dn%z.racks.length]) rL rL (aU.of (sC _ _ adT)) (aQ (by rw[ck,ac aix];rfl)) (aj _ rL (aX _ _ rL rL (zsz 1) (λr2 nr2=>?_))))));let eD:upd HC r2 (HO.tup [V.int (z.jB[dn%z.racks.length]+pt)]) r2=some (.tup [V.int (z.jB[dn%z.racks.length]+pt)]):=aA;let sD:aD HC (upd HC r2 (HO.tup [V.int (z.jB[dn%z.racks.length]+pt)])):=aD.upd nr2;generalize upd HC r2 (HO.tup [V.int (z.jB[dn%z.racks.length]+pt)])=HD at eD sD ⊢;calc(nq r1 r2 _ _ rL rL (aU.of (sD _ _ hC)) (aU.of eD) ?_ (λ_=>eD) (λy=>absurd y qk) (λr3 HE sE hE=>?_));.rw[am];show av (aM (by simp;lia))
  let sBE:=(sC.trans sD).trans sE;calc(aj _ rL (aj _ rL (aJ _ _ rL rL (aj _ rL (aJ pp _ rL (sBE _ _ adT) (λr4 HF sF hF=>?_))))));rw[show fV (z.jB.map V.int) (some (((dn%z.racks.length:Nat):Int)+1)) none=(z.jB.map V.int).drop (dn%z.racks.length+1) from Ed (a:=dn%z.racks.length+1) qi]at hF;calc(nq r3 r4 _ _ rL rL (aU.of (sF _ _ hE)) (aU.of hF) ?_ (λy=>by simp at y) (λ_ _=>sF _ _ hE) (λKY HG sG zp=>?_));.rw[aE,am,ba,hpl];show av (aM (by simp;lia))
  let TY:z.jB.getD (dn%z.racks.length) 0=z.jB[dn%z.racks.length]:=by rw[ax,ac aix];rfl
  let Ek:HG KY=some (.tup (z'.jB.map V.int)):=by rw[zp,akJ,TY,<-TX,iF,if_pos hip];simp
  let sBG:=(sBE.trans sF).trans sG;let s5G:=s5B.trans sBG;let s0G:=s5.trans s5G;let fin:∀(HI:Hp) (o:Bool),aD HG HI->o=ovN z z' ps dn d->7<=sizeLine/\∀p',HI p'=none->2<=sizeLine/\∀t,upd HI p' (HO.tup [V.ref b',V.ref Eh,V.str (S z'.bag),V.ref KY,V.int ((dn:Int)+1),V.int 0,V.bl o]) t=none->Q (.ref t) (upd (upd HI p' (HO.tup [V.ref b',V.ref Eh,V.str (S z'.bag),V.ref KY,V.int ((dn:Int)+1),V.int 0,V.bl o])) t (HO.tup [V.int pt,V.ref p'])):=by
   rintro HI o sI rfl;calc⟨zsz 7,λp' hp'=>⟨zsz 2,λt ht=>?_⟩⟩;let t1:=aD.upd hp' (o:=HO.tup [V.ref b',V.ref Eh,V.str (S z'.bag),V.ref KY,V.int ((dn:Int)+1),V.int 0,V.bl (ovN z z' ps dn d)]);let t2:=aD.upd ht (o:=HO.tup [V.int pt,V.ref p']);let e0:Uv ps d=0:=by
    cases d with| lay _=>rfl| swap _=>rfl| pass=>show absurd rL Y
   calc q t p' _ (((s0G.trans sI).trans t1).trans t2) aA ⟨b',Eh,KY,?_,((((hb5.mv s5G).mv sI).mv t1).mv t2),t2 _ _ (t1 _ _ (sI _ _ (sBG _ _ adO))),t2 _ _ (t1 _ _ (sI _ _ Ek))⟩;rw[e0];show t2 _ _ aA
  calc(aj _ rL (aj _ rL (aj _ rL (aj _ rL (aj _ rL (aj _ rL (aJ _ _ rL rL (aj _ rL (bw pd _ _ (.str (S d.name)) rL rL (aU.of (s0G _ _ hnm)) (aQ (j:=0) rL) (aJ d.name jy rL rL (aj _ rL ?_)))))))))));let aiy:cU z' dn=dZ us:=by unfold cU;rw[aiv,fb,ax,ke F];rfl
  cases d with
  | pass=>show absurd rL Y
  | swap l=>rw[ag (show ¬cP.name (.swap l)=jy from (show ¬iV=jy by decide))];show bW (fin HG false (aD.refl _) rL)
  | lay ts=>
   rw[al (show cP.name (.lay ts)=jy from rL)];calc cG (bf _ rL (zsz 0) (λEe hEe=>?_));let sH:=aD.upd hEe (o:=HO.lst []);let eH:upd HG Ee (HO.lst []) Ee=some (.lst []):=aA;generalize upd HG Ee (HO.lst [])=HH at sH eH ⊢;refine(cY 2 (.lst ((us.map λc=>[c]).map Dt.str)) (.lst []) qo (.lst (bH.of (sH _ _ (s5G _ _ yH))) (dY.tG λl hl=>?_)) (.lst (bH.of eH) .nil) (aj _ rL ?_))
   .let⟨c,hc,rfl⟩:=be.mp hl;show λc' h'=>by rw[bc.mp h'];show ajQ c hc
   by_cases hue:us=[]
   .subst hue;rw[al (show Dt.lst (List.map Dt.str (List.map (λc=>[c]) []))=Dt.lst [] from rL)];calc cG (aj _ rL (aJ z'.bag [] rL rL ?_));calc fin HH _ sH ?_;show _=(decide (cU z' dn=[])&&decide (z'.bag=[]))
    rw[aiy,al (show dZ []=[] from gI.mp (jK [])),mw]
   .rw[ag (λy=>hue (by injection y with y;simpa using y))];calc bW (fin HH false sH ?_);show _=(decide (cU z' dn=[])&&decide (z'.bag=[]))
    rw[aiy,ag (λy=>hue (by have:=jK us;rw[y]at this;show gI.mp this.symm)),nV]
def ajR {c:Nat}(h:CJ c):c<128:=by
 rcases h with e|e;.lia
 .show e.lt
def ajS {c:Nat}(h:Kg c):c<128:=(show ∀c∈MK,c<128 by decide) c h
def brD (aF aO:AB)(i j:Nat):Dt:=.tup [.tup (aF.map Dt.str),.tup (aO.map Dt.str),.tup [.int i,.int j]]
def jC.brd {H:Hp}{t pr pm pb:Addr}{r w:Nat}{aF aO:AB}{i j:Nat}(ht:H t=some (.tup [.ref pr,.ref pm,.ref pb]))(h1:H pr=some (.tup (Ts aF)))(h2:H pm=some (.tup (Ts aO)))(h3:H pb=some (.tup [.int i,.int j]))(B:R6 r w aF aO i j):jC K H 3 (brD aF aO i j) (.ref t):=.tup (aU.of ht) (.cons (.tup (aU.of h1) (dY.tG λl hl c D=>ajR (B.cr l hl c D))) (.cons (.tup (aU.of h2) (dY.tG λl hl c D=>ajS (B.cm l hl c D))) (.cons (.tup (aU.of h3) (.cons (.int _) (.cons (.int _) .nil))) .nil)))
theorem dY.ints {H:Hp}:∀{is:List Int},dY K H 1 (is.map Dt.int) (is.map V.int)
 | []=>.nil
 | _::_=>.cons (.int _) dY.ints
def Iw (C CS CB CG:Addr):Sp:=λvs H Q _=>∃(g pn ps pd:Addr) (G:Gm) (zs:List Std) (z:Std) (k:Nat),vs=[.ref g,.ref pn]/\fD C CS CB CG H g ps pd G/\G.sts=zs++[z]/\jc z/\(∀l∈G.done,∀c∈l,c<128)/\G.done.length<=500/\qe C H pn z G.done.length k (kh G z)/\∀H',aD H H'->Q (.bl true) H'
open Classical in
def ab7 {C CS CB CG f1 f2 f3 f4 f5 f6:Addr}{eE fd2 nY vO K9 K_:FuncData}(D:aP K mg "_law_stands" Bk ["_law_game","_law_now"])(bG:mg "len"=none)(bL:mg "isinstance"=none)(pG:mg "bool"=none)(I:iy K C)(Y:o9 K CG)(Iz:Meth K CG "board_now" f1)(IK:cA P w K mg base dJ 1 f1 eE ["self"] (tE C CS CB CG (abS C)))(IV:bR K eE ["self"] [])(lV:Meth K CG "racks_now" f2)(lW:cA P w K mg base dJ 1 f2 fd2 ["self"] (tE C CS CB CG KZ))(lX:bR K fd2 ["self"] [])(uw:Meth K CG "bag_now" f3)(ux:cA P w K mg base dJ 1 f3 nY ["self"] (tE C CS CB CG adF))(uy:bR K nY ["self"] [])(GJ:Meth K CG "points_now" f4)(GP:cA P w K mg base dJ 1 f4 vO ["self"] (tE C CS CB CG ain))(GQ:bR K vO ["self"] [])(pY:Meth K CG "is_over" f5)(pZ:cA P w K mg base dJ 4 f5 K9 ["self"] (T7 C CS CB CG))(qb:bR K K9 ["self"] [])(zq:Meth K CG "turn" f6)(zu:cA P w K mg base dJ 2 f6 K_ ["self"] (Nf C CS CB CG))(zx:bR K K_ ["self"] []):cg P w K mg base "_law_stands" 5 ["_law_game","_law_now"] (Iw C CS CB CG):=by
 calc D.dM mF (λf bN A outer s H vs Q E F h=>?_);let⟨g,pn,ps,pd,G,zs,z,k,rfl,A0,hz,Z,O,h5,NA,q⟩:=h;let⟨dx,_,_,_,_,hg,_⟩:=A0.ex;obtain⟨b,pr,pp,hn,⟨⟨bx,br,bm,bb,hb,hbr,hbm,hbb⟩,B⟩,hpr,hpp⟩:=NA.ex;let n1:=Z.n1;let hrl:(Ts z.racks).length=z.racks.length:=aa _;calc(aj _ (aB (gK (u9 bA (qC rL (cD (bJ (i:=2) mF.nd rL (Or.inl rL)) (cD (bJ (i:=3) mF.nd rL (Or.inl rL)) (cD (bJ (i:=4) mF.nd rL (Or.inl rL)) (cD (bJ (i:=5) mF.nd rL (Or.inl rL)) (cD (bJ (i:=6) mF.nd rL (Or.inl rL)) (cD (bJ (i:=7) mF.nd rL (Or.inl rL)) (cD (bJ (i:=8) mF.nd rL (Or.inl rL)) oO)))))))))) (aB (aV (i:=9) mF.nd rL (Or.inl rL) (gF aH Y.cl Iz IK F.mono IV .nil eG)) (aB (cJ (b_ (Dp F.units) (cZ (ak (bK j4 rL) (ak (bK j4 rL) (ak (bK j4 rL) aq)))) (cZ (ak (bK bF rL) (ak (bK bF rL) (ak (bK bF rL) aq)))) (bM _)) (aG (bC iZ)) bO) (aB (cJ (QW.qt (mq (b_ (Dp F.units) (gF aH Y.cl lV lW F.mono lX .nil eG) bT (bM _)) (mq (b_ JK (gF aH Y.cl uw ux F.mono uy .nil eG) cO (bM _)) (lG (b_ (Dp F.units) (gF aH Y.cl GJ GP F.mono GQ .nil eG) eO (bM _)))))) (aG (bC iZ)) bO) (aB (cJ (QW.qt (mq (d7 (dR (aY gM qr bL cf (ak (gF aH Y.cl pY pZ F.mono qb .nil eG) (ak (lD (v:=.ty "bool") qr pG mi rL) aq))))) (lG (b_ FT (gF aH Y.cl pY pZ F.mono qb .nil eG) jZ (bM _))))) (aG (bC iZ)) bO) (aG (bC (fH jl (gF aH Y.cl zq zu F.mono zx .nil eG) (aL cj fO (aY bY qr bG ay (ak bT aq))) (bM _))))))))) ?_);calc(aj (λσ H1=>H=H1/\σ=[some (.ref g),some (.ref pn),some (.ref b),some (.ref pr),some (.str (S z.bag)),some (.ref pp),some (.int G.done.length),some (.int k),some (.bl (kh G z)),none]) (aj _ rL (aX pn _ rL (aU.of hn) rL (dN _ _ rL (dN _ _ rL (dN _ _ rL (dN _ _ rL (dN _ _ rL (dN _ _ rL (aX _ _ rL rL rL rL))))))))) ?_);rintro σ H1 ⟨eH,rfl⟩;subst eH;calc(aj _ rL (cY g dx _ rL hg rL (Bc g ps pd G zs z rL A0 hz (λb2 hb2=>?_))));obtain⟨⟨cx,cr,cm,cb,hc,Yb,hcm,hcb⟩,B2⟩:=hb2;calc(aj _ rL (cB b2 C cx _ _ rL hc I.cl I.nr rL (aj _ rL (cB b2 C cx _ _ rL hc I.cl I.nm rL (aj _ rL (yq b2 C cx _ _ rL hc I.cl I.nb rL (zsz 3) (λt1 ht1=>?_)))))));let s1:=aD.upd ht1 (o:=HO.tup [V.ref cr,V.ref cm,V.ref cb]);let e1:upd H t1 (HO.tup [V.ref cr,V.ref cm,V.ref cb]) t1=some (.tup [V.ref cr,V.ref cm,V.ref cb]):=aA;generalize upd H t1 (HO.tup [V.ref cr,V.ref cm,V.ref cb])=H1 at s1 e1 ⊢;let hb1:=s1 _ _ hb;calc(aj _ rL (cB b C bx _ _ rL hb1 I.cl I.nr rL (aj _ rL (cB b C bx _ _ rL hb1 I.cl I.nm rL (aj _ rL (yq b C bx _ _ rL hb1 I.cl I.nb rL (zsz 3) (λt2 O5=>?_)))))));let s2:=aD.upd O5 (o:=HO.tup [V.ref br,V.ref bm,V.ref bb]);let e2:upd H1 t2 (HO.tup [V.ref br,V.ref bm,V.ref bb]) t2=some (.tup [V.ref br,V.ref bm,V.ref bb]):=aA;generalize upd H1 t2 (HO.tup [V.ref br,V.ref bm,V.ref bb])=H2 at s2 e2 ⊢;let j:=s1.trans s2;calc(cY 3 (brD z.aF z.aO z.bi z.bj) (brD z.aF z.aO z.bi z.bj) qo (jC.brd (s2 _ _ e1) (j _ _ Yb) (j _ _ hcm) (j _ _ hcb) B2) (jC.brd e2 (j _ _ hbr) (j _ _ hbm) (j _ _ hbb) B) (aj _ rL ?_));rw[al rfl];let A2:=A0.mv j;let J:=j _ _ hg;calc bW (aj _ rL (cY g dx _ rL J rL (Bc g ps pd G zs z rL A2 hz (λq1 hq1=>?_))));let aiz:∀l∈z.racks,∀c∈l,c<128:=λl hl c hc=>K8 ((Z.r7 l hl).2 c hc);calc(aj _ rL (cY 2 (.tup (z.racks.map Dt.str)) (.tup (z.racks.map Dt.str)) qo (.tup (aU.of hq1) (dY.tG aiz)) (.tup (aU.of (j _ _ hpr)) (dY.tG aiz)) (aj _ rL ?_)));rw[al rfl];calc bW (aj _ rL (cY g dx _ rL J rL (Bc g ps pd G zs z rL A2 hz (aj _ rL (aJ z.bag z.bag rL rL (aj _ rL ?_))))));rw[al rfl];calc bW (aj _ rL (cY g dx _ rL J rL (Bc g ps pd G zs z rL A2 hz (λq2 hq2=>?_))));calc(aj _ rL (cY 2 (.tup (z.jB.map Dt.int)) (.tup (z.jB.map Dt.int)) qo (.tup (aU.of hq2) dY.ints) (.tup (aU.of (j _ _ hpp)) dY.ints) (aj _ rL ?_)));rw[al rfl];calc bW (aj _ rL (cY g dx _ rL J rL (Bf g ps pd G zs z rL A2 hz Z O h5 (λH3 s3=>?_))));let fU:=j.trans s3;calc(gG _ _ _ true rL (.bl _) qA (aj true rL (bW (aj _ rL (cY g dx _ rL (fU _ _ hg) rL (Bf g ps pd G zs z rL (A0.mv fU) hz Z O h5 (λH4 s4=>?_)))))));let iz:=fU.trans s4;calc(bf _ rL rL (aj _ rL ?_));rw[al rfl];calc bW (aj _ rL (cY g dx _ rL (iz _ _ hg) rL (QX g ps pd G zs z rL (A0.mv iz) hz Z (aj _ rL (aj _ rL (aJ pr _ rL (.inr (aU.of (iz _ _ hpr))) (dG _ _ rL rL (by show (0:Int)<_;rw[hrl];lia) rL ?_)))))));let e:((G.done.length%z.racks.length:Nat):Int)=(G.done.length:Int)%((Ts z.racks).length:Int):=by rw[hrl];lia
 let fin:=q H4 iz;rw[<-al (congrArg V.int e)]at fin;show fin
def dj (G:Gm)(zs:List Std)(ds:List cP):Gm:={G with sts:=zs,done:=ds.map cP.name}
inductive Path (G:Gm) (z0:Std):List cP->List Std->Prop
 | nil:Path G z0 [] [z0]
 | snoc {ds:List cP} {zs:List Std} {z z':Std} {d:cP} {pt:Int} (h:Path G z0 ds (zs++[z])) (ov:kh (dj G [] ds) z=false) (dd:Does (dj G [] ds) z d pt z'):Path G z0 (ds++[d]) (zs++[z]++[z'])
def Does.sts {G:Gm}{a b:List Std}{ds:List cP}{z z':Std}{d:cP}{pt:Int}(h:Does (dj G a ds) z d pt z'):Does (dj G b ds) z d pt z':=by
 cases h with| lay h1 h2 h3 h4 h5 h6=>show Does.lay (G:=dj G b ds) h1 h2 h3 h4 h5 h6| swap h1 h2 h3 h4 h5=>show Does.swap (G:=dj G b ds) h1 h2 h3 h4 h5| pass=>show .pass
def Path.len {G:Gm}{z0:Std}{ds:List cP}{zs:List Std}(h:Path G z0 ds zs):zs.length=ds.length+1:=by
 induction h with| nil=>rfl| snoc h ov dd ih=>rw[aE,ih,aE];rfl
def Does.racks {G:Gm}{z z':Std}{d:cP}{pt:Int}(h:Does G z d pt z'):z'.racks.length=z.racks.length:=by
 cases h with| lay=>show fb| swap=>show fb| pass=>rfl
def Yl {z:Std}{l m:List Nat}{i:Nat}(Z:jc z)(hl:l.length<=7)(hm:∀c∈l,o8 c):∀k∈z.racks.set i l,k.length<=7/\∀c∈k,o8 c:=λk j=>by
 rcases fN j with e|e;.show Z.r7 k e
 .rw[e];show⟨hl,hm⟩
def Ym {z:Std}(Z:jc z){i:Nat}:(z.racks.getD i []).length<=7/\∀c∈z.racks.getD i [],o8 c:=by
 rw[ax];cases e:z.racks[i]? with| none=>show⟨fe _,λc h=>by cases h⟩| some l=>show Z.r7 l (bu e)
def Does.ok {G:Gm}{z z':Std}{d:cP}{pt:Int}(h:Does G z d pt z')(Z:jc z)(hs:G.size<=7):jc z':=by
 let F:=h.racks;cases h with
 | @lay ts l xR h0 h7 ri vd lf=>
  let⟨k7,I⟩:=Ym Z (i:=jO G z);let J:=Ad lf;let j:=Ae lf;calc⟨by rw[F];show Z.n1,by rw[F];show Z.n4,Yl (m:=[]) Z ?_ λc D=>?_,?_,λc D=>Z.bt c (eQ D),?_⟩;.rw[jK,aE,jK,am];lia
  .rcases bv.mp ((kO _).mem_iff.mp D) with y|y;.show I c (j c ((kO _).mem_iff.mp y))
   .show Z.bt c (de y)
  .show (z.bag.drop _).length<=60;have:=Z.b6;rw[ba];lia
  .show (z.jB.set _ _).length=(z.racks.set _ _).length;rw[fb,fb];show Z.pl
 | @swap l m ne h7 tl lf hb=>
  let⟨k7,I⟩:=Ym Z (i:=jO G z);let J:=Ad lf;let j:=Ae lf;calc⟨by rw[F];show Z.n1,by rw[F];show Z.n4,Yl (m:=[]) Z ?_ λc D=>?_,?_,λc D=>?_,?_⟩;.rw[jK,aE,jK,am];lia
  .rcases bv.mp ((kO _).mem_iff.mp D) with y|y;.show I c (j c ((kO _).mem_iff.mp y))
   .show Z.bt c (de y)
  .show (z.bag.drop _++dZ _).length<=60;have:=Z.b6;rw[aE,ba,jK];lia
  .rcases bv.mp D with y|y;.show Z.bt c (eQ y)
   .show tl c ((kO _).mem_iff.mp y)
  .show z.jB.length=(z.racks.set _ _).length;rw[fb];show Z.pl
 | pass=>show Z
def Path.ok {G:Gm}{z0:Std}{ds:List cP}{zs:List Std}(h:Path G z0 ds zs)(Z:jc z0)(hs:G.size<=7):∀z∈zs,jc z:=by
 induction h with
 | nil=>intro z h;rw[bc.mp h];show Z
 | snoc h ov dd ih=>
  intro y hy;rcases bv.mp hy with e|e;.show ih y e
  .rw[bc.mp e];show dd.ok (ih _ qk) hs
def tp (ds:List cP):Nat:=ds.foldl Uv 0
def Nk (ds:List cP)(d:cP):tp (ds++[d])=Uv (tp ds) d:=by unfold tp;rw[List.foldl_append];rfl
def adU {α:Type}{ns:List α}{m:Nat}{x:α}:ns.drop (ns.length-m)=List.replicate m x↔List.replicate m x <:+ ns:=by
 constructor
 .intro h;rw[<-h];show List.drop_suffix _ _
 .intro h;have:=List.suffix_iff_eq_drop.mp h;rw[cE]at this;show this.symm
theorem ab8:∀(n:Nat) (ds:List cP) (m:Nat),ds.length=n->(List.replicate m gb <:+ ds.map cP.name↔m<=tp ds)
 | 0,ds,m,hn=>by
  have:ds=[]:=gI.mp hn;subst this;show _ <:+ []↔m<=0;rw[List.suffix_nil];constructor;.intro h;have:=congrArg List.length h;simp at this;lia
  .intro h;rw[Nat.le_zero.mp h];rfl
 | n+1,ds,m,hn=>by
  let j:ds≠[]:=λe=>by subst e;simp at hn
  let e:=gV j;let hl:ds.dropLast.length=n:=by rw[nv,hn];rfl
  generalize ds.dropLast=es at e hl;generalize ds.getLast j=d at e;subst e;rw[bq,Nk];show _ <:+ es.map cP.name++[d.name]↔_;rw[List.suffix_concat_iff];cases m with
  | zero=>show⟨λ_=>fe _,λ_=>.inl rL⟩
  | succ m=>
   let D:=ab8 n es m hl;constructor
   .rintro(h|⟨t,h1,h2⟩);.simp at h
    .rw[kM]at h1;let⟨h3,h4⟩:=List.append_inj' h1 rfl;injection h4 with h4;let hd:=Pr.mp h4.symm;subst hd;rw[<-h3]at h2;show m+1<=tp es+1;show gS (D.mp h2)
   .intro h;cases d with| pass=>show .inr (aj _ kM (D.mpr (Nat.le_of_succ_le_succ h)))| lay ts=>show absurd h (Nat.not_succ_le_zero _)| swap l=>show absurd h (Nat.not_succ_le_zero _)
def ab9 {α:Type}(l:List α)(x:α):(l++[x]).drop ((l++[x]).length-1)=[x]:=by rw[aE,my,Nat.add_sub_cancel,List.drop_left]
def adV {G:Gm}{z:Std}(h:1<=z.racks.length):kh (dj G [] []) z=false:=by
 unfold kh;rw[ag,ag];.rfl
 .intro e;show absurd e (by show ¬([]:AB)=_;simp)
 .intro e;have:=congrArg List.length e;rw[cE]at this;let j:(dj G [] []).done=[]:=rfl;rw[j]at this;simp at this;lia
def ab_ {G:Gm}{z z':Std}{ds:List cP}{d:cP}{pt:Int}(h:Does (dj G [] ds) z d pt z')(h1:1<=z.racks.length):kh (dj G [] (ds++[d])) z'=ovN z z' (tp ds) ds.length d:=by
 let I:=h.racks;let j:(dj G [] (ds++[d])).done=ds.map cP.name++[d.name]:=bq;let D:decide ((ds.map cP.name++[d.name]).drop ((ds.map cP.name++[d.name]).length-2*z'.racks.length)=List.replicate (2*z'.racks.length) gb)=decide (2*z.racks.length<=Uv (tp ds) d):=by calc Gn (adU.trans ?_);rw[I,<-Nk,<-ab8 _ (ds++[d]) _ rL,bq];rfl
 unfold kh;rw[j,D,ab9];cases d with
 | pass=>rw[ag (show ¬[cP.name .pass]=[jy] by decide),nV,Bool.or_false];cases h;rfl
 | swap l=>rw[ag (show ¬[cP.name (.swap l)]=[jy] from (show ¬[iV]=[jy] by decide)),nV,Bool.or_false];show ag (by show ¬_<=0;lia)
 | lay ts=>
  rw[al (show [cP.name (.lay ts)]=[jy] from rL),mw,ag (show ¬2*z.racks.length<=Uv (tp ds) (.lay ts) by show ¬_<=0;lia),Bool.false_or];show _=(decide (cU z' ds.length=[])&&decide (z'.bag=[]))
  let F:yN (dj G [] (ds++[.lay ts])) z'=ds.length%z'.racks.length:=by unfold yN;rw[j,aE,aa,my,show ((ds.length+1:Nat):Int)-1=(ds.length:Int) by lia];lia
  rw[F,Bool.and_comm];rfl
def Pu {G:Gm}{z:Std}{bs:AB}{ds:List cP}{d:cP}(h:ab5 z ds.length bs d)(hb:∀x,x∈bs↔x∈G.ws):∃pt z',Does (dj G [] ds) z d pt z':=by
 let j:jO (dj G [] ds) z=ds.length%z.racks.length:=by show (ds.map cP.name).length%_=_;rw[aa]
 cases d with
 | lay ts=>let⟨l,hl⟩:=ajO h.vd;show⟨_,_,.lay (G:=dj G [] ds) h.xR h.h0 h.h7 h.ri (by rw[j];show Ut hb h.vd) (l:=l) (by rw[j];show hl)⟩
 | swap l=>obtain⟨h1,h2,h3,⟨m,hm⟩,h5⟩:=h;show⟨_,_,.swap (G:=dj G [] ds) h1 h2 h3 (m:=m) (by rw[j];show hm) h5⟩
 | pass=>show⟨_,_,.pass⟩
def tk1 {α:Type}{l:List α}{i:Nat}{x:α}(h:l[i]?=some x):l.take (i+1)=l.take i++[x]:=by rw[c_,h];rfl
def Kl (H H':Hp):Prop:=∀a o,H a=some o->(∀xs,o≠HO.lst xs)->H' a=some o
def Kl.of {H H':Hp}(s:aD H H'):Kl H H':=λa o h _=>s a o h
def Kl.trans {H H1 j:Hp}(s:Kl H H1)(t:Kl H1 j):Kl H j:=λa o h n=>t a o (s a o h n) n
def vN.kl {ps pd:Addr}{H H':Hp}{xs ys:List V}(s:vN ps pd H H')(h1:H ps=some (.lst xs))(h2:H pd=some (.lst ys)):Kl H H':=λa o h n=>s a o h (jW h1 h n) (jW h2 h n)
def Kl.up {H:Hp}{L:Addr}{xs ys:List V}(h:H L=some (.lst xs)):Kl H (upd H L (.lst ys)):=λa o e n=>by rw[aZ (jW h e n)];show e
def cX.kl {C:Addr}{H H':Hp}{p:Addr}{r w:Nat}{aF aO:AB}{i j:Nat}(B:cX C H p r w aF aO i j)(k:Kl H H'):cX C H' p r w aF aO i j:=by obtain⟨⟨dx,pr,pm,pb,a,b,c,d⟩,o⟩:=B;show⟨(gG dx pr pm pb (k _ _ a (λ_ z=>nomatch z)) (k _ _ b (λ_ z=>nomatch z)) (k _ _ c (λ_ z=>nomatch z)) (k _ _ d (λ_ z=>nomatch z))),o⟩
def iJ.kl {C:Addr}{H H':Hp}{p d:Addr}{ws:AB}(B:iJ C H p d ws)(k:Kl H H'):iJ C H' p d ws:=⟨let ⟨dx,e⟩:=B.ob;⟨dx,k _ _ e (λ_ z=>nomatch z)⟩,k _ _ B.dc (λ_ z=>nomatch z),B.nd,B.az⟩
def qe.kl {C:Addr}{H H':Hp}{p:Addr}{z:Std}{dn ps:Nat}{ov:Bool}(A:qe C H p z dn ps ov)(k:Kl H H'):qe C H' p z dn ps ov:=by let⟨b,pr,pp,h1,h2,h3,h4⟩:=A.ex;show⟨b,pr,pp,k _ _ h1 (λ_ z=>nomatch z),h2.kl k,k _ _ h3 (λ_ z=>nomatch z),k _ _ h4 (λ_ z=>nomatch z)⟩
theorem vo.kl {H H':Hp}{p:Addr}(k:Kl H H'):∀{d:cP},vo H p d->vo H' p d
 | .lay _,⟨t,as,h1,h2,h3⟩=>(aJ t as (k _ _ h1 (λ_ z=>nomatch z)) (k _ _ h2 (λ_ z=>nomatch z)) (h3.Km λa xs e=>k _ _ e (λ_ z=>nomatch z)))
 | .swap _,h=>k _ _ h (λ_ z=>nomatch z)
 | .pass,h=>k _ _ h (λ_ z=>nomatch z)
def yO.kl {C:Addr}{H H':Hp}{p pw:Addr}{Z:Um}(A:yO C H p pw Z)(k:Kl H H')(h:H' pw=some (.lst (Ts Z.ws))):yO C H' p pw Z:=by let⟨b,d,pb,pr,h1,h2,h3,h4,h5⟩:=A.ex;show⟨(bw b d pb pr (k _ _ h1 (λ_ z=>nomatch z)) (h2.kl k) (k _ _ h3 (λ_ z=>nomatch z)) (k _ _ h4 (λ_ z=>nomatch z)) (k _ _ h5 (λ_ z=>nomatch z))),h⟩
def g_.kl {C CS:Addr}{H H':Hp}{p:Addr}{z:Std}(A:g_ C CS H p z)(k:Kl H H'):g_ C CS H' p z:=by let⟨dx,b,pr,pp,h1,h2,h3,h4⟩:=A.ex;show⟨dx,b,pr,pp,k _ _ h1 (λ_ z=>nomatch z),h2.kl k,k _ _ h3 (λ_ z=>nomatch z),k _ _ h4 (λ_ z=>nomatch z)⟩
def fD.kl {C CS CB CG:Addr}{H H':Hp}{g ps pd:Addr}{G:Gm}(A:fD C CS CB CG H g ps pd G)(k:Kl H H')(h1:H' ps=H ps)(h2:H' pd=H pd):fD C CS CB CG H' g ps pd G:=by obtain⟨⟨dx,j,kd,d,pb,a1,a2,a3,a4⟩,⟨as,a5,a6⟩,a7⟩:=A;show⟨(Ge dx j kd d pb (k _ _ a1 (λ_ z=>nomatch z)) (a2.kl k) (k _ _ a3 (λ_ z=>nomatch z)) (k _ _ a4 (λ_ z=>nomatch z))),(aj as (h1.trans a5) ⟨a6.len,λi a z e1 e2=>(a6.at_ i a z e1 e2).kl k⟩),h2.trans a7⟩
def Yn {G:Gm}{zs:List Std}{ds:List cP}{z:Std}{d:cP}:{dj G zs ds with sts:=(dj G zs ds).sts++[z],done:=(dj G zs ds).done++[d.name]}=dj G (zs++[z]) (ds++[d]):=by unfold dj;simp
structure yP (G:Gm):Prop where
 wd:WD G.kvs
 wb:WB 1000000 G.kvs
 sz:G.size<=7
def xU {ds:List cP}:∀l∈ds.map cP.name,∀c∈l,c<128:=λl hl c j=>by let⟨d,_,rfl⟩:=be.mp hl;show adG d c j
def yP.ok {G:Gm}(F:yP G){zs:List Std}{ds:List cP}(h1:ds.length<=100)(h2:zs.length<=101):aio (dj G zs ds):=⟨xU,by show (ds.map cP.name).length<=400;rw[aa];lia,by show zs.length<=500;lia,F.wd,F.wb,F.sz⟩
def Yo (C CS CB CG:Addr):Sp:=λvs H Q _=>∃(g ps pd:Addr) (G:Gm) (z0:Std) (zs:List Std),vs=[.ref g]/\fD C CS CB CG H g ps pd G/\G.sts=z0::zs/\jc z0/\G.ws.length<64/\
 ∀(g2 j D:Addr) (Y:AB) (H':Hp),aD H H'->H j=none->H D=none->(∀y,y∈Y↔y∈G.ws)->Y.length<64->fD C CS CB CG H' g2 j D {G with ws:=Y}->Q (.ref g2) H'
def acd {ws bs:AB}(h1:ws.Nodup)(h2:bs.Nodup)(h:∀y,y∈ws↔y∈bs):ws.length=bs.length:=((List.perm_ext_iff_of_nodup h1 h2).mpr h).length_eq
def Uw {C CS CB CG f f0:Addr}{fd eV:FuncData}(F:fj K "twin" "Game.twin" mY f fd)(T:o9 K CG)(TS:qI K CS)(fP:mg "list"=none)(Gp:mg "Game"=some (.ref CG))(Ux:Mk K CG f0)(Uy:cA P w K mg base dJ 7 f0 eV ["self","board","book","worths","bonus","size","racks","bag"] (Nh C CS CB CG))(Uz:bR K eV ["self","board","book","worths","bonus","size","racks","bag"] []):cA P w K mg base dJ 9 f fd ["self"] (Yo C CS CB CG):=by
 calc F.dM xq (λbN A outer s H vs Q E hr h=>?_);let⟨g,ps,pd,G,z0,zs,rfl,A0,hz,Z,h64,q⟩:=h;obtain⟨⟨dx,k,kd,d,pb,h1,h2,h3,h4⟩,⟨as,h5,h6⟩,h7⟩:=A0;let hal:=h6.len;rw[hz]at hal
 match as,hal with
 | a0::as',_=>
  let⟨dy,b,pr,pp,e1,e2,e3,e4⟩:=(h6.at_ 0 a0 z0 rL (by rw[hz];rfl)).ex;calc(aj _ (aB (aV (i:=1) xq.nd rL (Or.inl rL) (bh cW (bK aH rL) au (λ_ _=>rfl))) (aB (aV (i:=2) xq.nd rL (Or.inl rL) (pP Ux Uy hr.mono rL Gp Uz .nil eG (ak (bK bA rL) (ak (bK aH rL) (ak (bK aH rL) (ak (bK aH rL) (ak (bK aH rL) (ak (bK bA rL) (ak (bK bA rL) aq))))))))) (aB (kY bF (d_ rM qr fP dS (ak (bK aH rL) aq)) rL) (aB (kY bF (d_ rM qr fP dS (ak (bK aH rL) aq)) rL) (aG (bC bF)))))) ?_);calc(aj _ rL (cB g CG dx _ _ rL h1 T.cl T.ns rL (bw ps _ _ (.ref a0) rL rL (bH.of h5) (aQ (j:=0) rL) ?_)));calc(aj _ rL (cB a0 CS dy _ _ rL e1 TS.cl TS.nb rL (aj _ rL (cB g CG dx _ _ rL h1 T.cl T.nk rL (aj _ rL (cB g CG dx _ _ rL h1 T.cl T.nw rL (aj _ rL (cB g CG dx _ _ rL h1 T.cl T.nn rL (aj _ rL (cB g CG dx _ _ rL h1 T.cl T.nz rL (aj _ rL (cB a0 CS dy _ _ rL e1 TS.cl TS.nr rL (aj _ rL (cB a0 CS dy _ _ rL e1 TS.cl TS.ng rL (λg2 gx n1 n2 n3=>?_)))))))))))))));let sG:aD H (upd (upd H gx (HO.own g2)) g2 (HO.ins CG gx [])):=λx o h=>by rw[aZ (aN h n1),aZ (aN h n2)];show h
  calc⟨g2,gx,b,k,kd,d,pb,pr,G.ws,G.kvs,G.bn,G.bm,G.size,z0.r,z0.w,z0.aF,z0.aO,z0.bi,z0.bj,z0.racks,z0.bag,rL,aA,e2.mv sG,h2.mv sG,h64,sG _ _ h3,sG _ _ h4,sG _ _ e3,Z.n1,Z.n4,(λl hl=>by have:=(Z.r7 l hl).1;lia),λps0 pd0 lY H2 kp hm fps Yp A2=>⟨rL,?_⟩⟩;let s2:aD H H2:=λx o h=>kp x o (sG x o h) (aN h n1);obtain⟨⟨J,k2,kd2,d2,Y,c1,c2,c3,c4⟩,_,_⟩:=A2;calc(aj _ rL (cB g CG dx _ _ rL (s2 _ _ h1) T.cl T.ns rL (aJ ps _ rL (.inl (bH.of (s2 _ _ h5))) (λD f2=>?_))));let s3:=aD.upd f2 (o:=HO.lst ((a0::as').map V.ref));let O:upd H2 D (HO.lst ((a0::as').map V.ref)) D=some (.lst ((a0::as').map V.ref)):=aA;let akK:H D=none:=by
   cases e:H D with| none=>rfl| some o=>rw[s2 _ _ e]at f2;cases f2
  generalize upd H2 D (HO.lst ((a0::as').map V.ref))=H3 at s3 O ⊢;let c1':=s3 _ _ c1;calc(aj _ rL (gH g2 CG J _ rL c1' T.cl T.ns (by show 6<1000;decide) ?_));generalize hX:upd H3 g2 (HO.ins CG J (iD "stands" (V.ref D) _))=H4;let g4:H4 g2=some (.ins CG J [("book",.ref k2),("worths",.ref d2),("bonus",.ref Y),("size",.int G.size),("stands",.ref D),("done",.ref pd0)]):=by rw[<-hX];show aA
  let k4:∀x o,H3 x=some o->x≠g2->H4 x=some o:=λx o h n=>by rw[<-hX,aZ n];show h
  let s4:aD H H4:=λx o h=>k4 x o (s3 _ _ (s2 _ _ h)) (aN h n1);calc(aj _ rL (cB g CG dx _ _ rL (s4 _ _ h1) T.cl T.nd rL (aJ pd _ rL (.inl (bH.of (s4 _ _ h7))) (λI f5=>?_))));let s5:=aD.upd f5 (o:=HO.lst (Ts G.done));let e5:upd H4 I (HO.lst (Ts G.done)) I=some (.lst (Ts G.done)):=aA;let akL:H I=none:=by
   cases e:H I with| none=>rfl| some o=>rw[s4 _ _ e]at f5;cases f5
  generalize upd H4 I (HO.lst (Ts G.done))=H5 at s5 e5 ⊢;calc(aj _ rL (gH g2 CG J _ rL (s5 _ _ g4) T.cl T.nd (by show 6<1000;decide) ?_));generalize hY:upd H5 g2 (HO.ins CG J (iD "done" (V.ref I) _))=H6;let g6:H6 g2=some (.ins CG J [("book",.ref k2),("worths",.ref d2),("bonus",.ref Y),("size",.int G.size),("stands",.ref D),("done",.ref I)]):=by rw[<-hY];show aA
  let k6:∀x o,H5 x=some o->x≠g2->H6 x=some o:=λx o h n=>by rw[<-hY,aZ n];show h
  let kk:∀x o,H2 x=some o->x≠g2->H6 x=some o:=λx o h n=>k6 x o (s5 _ _ (k4 x o (s3 _ _ h) n)) n;let s6:aD H H6:=λx o h=>kk x o (s2 _ _ h) (aN h n1);let pg:D≠g2:=oX O c1' λz=>nomatch z;let dg:I≠g2:=oX e5 (s5 _ _ g4) λz=>nomatch z;let⟨kx,hk2⟩:=c2.ob;let kg:k2≠g2:=oX hk2 c1 λz=>by injection z with _ _ z;injection z with z _;injection z with z _;show absurd z qo
  refine(aj _ rL (q g2 D I lY H6 s6 akK akL hm (by rw[acd c2.nd h2.nd hm];show h64) ⟨(Ge J k2 kd2 d2 Y g6 ⟨⟨kx,kk _ _ hk2 kg⟩,kk _ _ c2.dc (oX c2.dc c1 λz=>nomatch z),c2.nd,c2.az⟩ (kk _ _ c3 (oX c3 c1 λz=>nomatch z)) (kk _ _ c4 (oX c4 c1 λz=>nomatch z))),(aj (a0::as') (k6 _ _ (s5 _ _ (k4 _ _ O pg)) pg) (h6.mv s6)),k6 _ _ e5 dg⟩))
structure zA (C:Addr)(H:Hp)(G:Gm)(ns:List Addr)(zs:List Std)(ds:List cP):Prop where
 len:ns.length=zs.length
 at_:∀(i:Nat) (a:Addr) (z:Std),ns[i]?=some a->zs[i]?=some z->qe C H a z i (tp (ds.take i)) (kh (dj G [] (ds.take i)) z)
def zA.kl {C:Addr}{H H':Hp}{G:Gm}{ns:List Addr}{zs:List Std}{ds:List cP}(h:zA C H G ns zs ds)(k:Kl H H'):zA C H' G ns zs ds:=⟨h.len,λi a z h1 h2=>(h.at_ i a z h1 h2).kl k⟩
def zA.snoc {C:Addr}{H:Hp}{G:Gm}{ns:List Addr}{zs:List Std}{ds:List cP}{a:Addr}{z:Std}{d:cP}(h:zA C H G ns zs ds)(hl:zs.length=ds.length+1)(g:qe C H a z (ds.length+1) (tp (ds++[d])) (kh (dj G [] (ds++[d])) z)):zA C H G (ns++[a]) (zs++[z]) (ds++[d]):=by
 let hn:=h.len;calc⟨by rw[aE,aE,hn];rfl,λi b y e1 e2=>?_⟩;by_cases hi:i<ns.length
 .rw[cS hi]at e1;rw[cS (by rw[<-hn];show hi)]at e2;rw[List.take_append_of_le_length qi];show h.at_ i b y e1 e2
 .rw[cz qi]at e1;rw[cz (by rw[<-hn];lia),<-hn]at e2;let h0:i-ns.length=0:=by have:=(ah.mp e1).1;simp at this;lia
  rw[h0]at e1 e2;cases e1;cases e2;let e:i=ds.length+1:=qi;subst e;rw[ce qk];show g
def Yq {α β:Type}{l:List α}{m:List β}{x:β}(h:l.length=(m++[x]).length):∃k y,l=k++[y]/\k.length=m.length:=by
 let hl:l.length=m.length+1:=by rw[h];simp
 let j:l≠[]:=λe=>by subst e;simp at hl
 show(dN l.dropLast (l.getLast j) ((gV j).symm) (by rw[nv,hl];rfl))
theorem Path.z0 {G:Gm}{z0:Std}{ds:List cP}{zs:List Std}(h:Path G z0 ds zs):zs[0]?=some z0:=by
 induction h with| nil=>rfl| snoc h ov dd ih=>have:=h.len;rw[cS qi];show ih
theorem Does.ws {G:Gm}{Y:AB}{ds:List cP}{z z':Std}{d:cP}{pt:Int}(e:∀x,x∈G.ws↔x∈Y)(h:Does (dj G [] ds) z d pt z'):Does (dj {G with ws:=Y} [] ds) z d pt z':=by
 cases h with| lay h1 h2 h3 h4 h5 h6=>show Does.lay (G:=dj {G with ws:=Y} [] ds) h1 h2 h3 h4 (Ut e h5) h6| swap h1 h2 h3 h4 h5=>show Does.swap (G:=dj {G with ws:=Y} [] ds) h1 h2 h3 h4 h5| pass=>show .pass
theorem Path.ws {G:Gm}{Y:AB}{z0:Std}{ds:List cP}{zs:List Std}(e:∀x,x∈G.ws↔x∈Y)(h:Path G z0 ds zs):Path {G with ws:=Y} z0 ds zs:=by
 induction h with| nil=>show .nil| snoc h ov dd ih=>show .snoc ih ov (dd.ws e)
def Yr (C CS CB CG:Addr):Sp:=λvs H Q _=>∃(g j ps pd:Addr) (G:Gm) (z0:Std) (ds:List cP) (zs:List Std) (ns:List Addr),vs=[.ref g,.ref j]/\fD C CS CB CG H g ps pd (dj G zs ds)/\H j=some (.lst (ns.map V.ref))/\zA C H G ns zs ds/\Path G z0 ds zs/\jc z0/\G.size<=7/\ds.length<=90/\j≠ps/\j≠pd/\∀H',vN ps pd H H'->Q (.bl true) H'
def Wn {C CS CB CG f2:Addr}{fd2:FuncData}(D:aP K mg "_law_back" Kf ["_law_game","_law_stood"])(bG:mg "len"=none)(d8:mg "range"=none)(cV:o9 K CG)(Wo:Meth K CG "back" f2)(Wq:cA P w K mg base dJ 1 f2 fd2 ["self"] (abT C CS CB CG))(Ws:bR K fd2 ["self"] [])(uE:cg P w K mg base "_law_stands" 5 ["_law_game","_law_now"] (Iw C CS CB CG)):cg P w K mg base "_law_back" 6 ["_law_game","_law_stood"] (Yr C CS CB CG):=by
 calc D.dM Xc (λf bN A outer s H vs Q E hr h=>?_);let⟨g,Ls,ps,pd,G,z0,ds,zs,ns,rfl,A0,J,NL,PH,Z0,hsz,hdi,n1,I,q⟩:=h;let CK:=PH.len;let hnl:=NL.len;let sok:=PH.ok Z0 hsz;let hLl:(ns.map V.ref).length=ds.length+1:=by rw[aa,hnl,CK]
 let⟨_,Nm,_⟩:=A0.st;calc(aj _ (aB (fX cK rL (abm qr d8 (ak (aL oM (aY bY qr bG ay (ak bA aq)) au) (ak (k_ jk au) (ak (k_ jk au) aq)))) (bJ (i:=2) Xc.nd rL (Or.inl rL)) (aB (dz (gF aH cV.cl Wo Wq hr.mono Ws .nil eG)) (aG (cJ (d7 (dR (bI uE hr.mono rL (ak aH (ak (bh cW bA bF (λ_ _=>rfl)) aq))))) (aG (bC iZ)) bO)))) (aG (bC iZ))) ?_);calc(aj _ rL (aJ Ls _ rL (.inl (bH.of J)) (aJ _ _ rL rL (aj _ rL (aj _ rL (bf ds.length (by rw[hLl];show [V.int _,_,_]++[]=_;rw[show (((ds.length+1:Nat):Int)-2)=(ds.length:Int)-1 by lia];rfl) qi ?_))))));refine Zr (λj σ O=>∃v2:Option V,σ=[some (.ref g),some (.ref Ls),v2]/\vN ps pd H O/\fD C CS CB CG O g ps pd (dj G (zs.take (ds.length-j+1)) (ds.take (ds.length-j))))
  (bf none rL (λa o h _ _=>h) ?_) ?_ ?_
 .rw[Nat.sub_zero,cp,ce qi];show A0
 .intro j σ O hj z;let⟨v2,rfl,kp,Z⟩:=z;obtain⟨t,ht⟩:∃t,ds.length-j=t+1:=⟨ds.length-j-1,qi⟩
  rw[ht]at Z;let⟨gy,_,_,_,_,hg9,_⟩:=Z.ex;let t1:t+1<zs.length:=qi;let t2:t<ds.length:=qi;let t0:t<zs.length:=qi;let hdt:((ds.take (t+1)).map cP.name)=(ds.take t).map cP.name++[ds[t].name]:=by rw[tk1 (ac t2),bq];rfl
  calc(aj _ rL (cY g gy _ rL hg9 rL ⟨g,ps,pd,_,zs.take (t+1),zs[t+1],(ds.take t).map cP.name,ds[t].name,rL,Z,tk1 (ac t1),hdt,xU,(by show ((ds.take (t+1)).map cP.name).length<=500;rw[aa,am];lia),λHA kA Y=>?_⟩));let Y:fD C CS CB CG HA g ps pd (dj G (zs.take (t+1)) (ds.take t)):=Y;let F:vN ps pd H HA:=λa o h n1 I=>kA _ _ (kp a o h n1 I) n1 I;let hlA:=F _ _ J n1 I;let tn:t<ns.length:=qi
  let NAt:=(NL.at_ t ns[t] zs[t] (ac tn) (ac t0)).kl (F.kl Nm A0.dn);let C_:(dj G (zs.take (t+1)) (ds.take t)).done.length=t:=by show ((ds.take t).map cP.name).length=t;rw[aa,am];lia
  refine(aj _ rL (aj _ rL (aj _ rL (bw Ls _ _ (.ref ns[t]) rL rL (bH.of hlA) ?_ (J6 g (ns[t]) ps pd (dj G (zs.take (t+1)) (ds.take t)) (zs.take t) (zs[t]) (tp (ds.take t)) rL Y (tk1 (ac t0)) (sok _ (aS t0)) xU (by rw[C_];lia) (by rw[C_];show NAt) (λHB sB=>(aj _ rL (bW ?_))))))))
  .rw[show ((ds.length:Int)-1+(j:Int)*(-1))=(t:Int) by lia];show aQ (by rw[ck,ac tn];rfl)
  .calc(bf _ rL (λa o h n1 I=>sB _ _ (F a o h n1 I)) ?_);rw[show ds.length-(j+1)=t by lia];show Y.mv sB
 .intro σ O z;let⟨v2,rfl,kp,Z⟩:=z;show q O kp
structure Sd where
 g:Addr
 ps:Addr
 pd:Addr
 L:Addr
 G:Gm
structure Apart (s t:Sd):Prop where
 a1:t.ps≠s.ps
 a2:t.ps≠s.pd
 a3:t.ps≠s.L
 b1:t.pd≠s.ps
 b2:t.pd≠s.pd
 b3:t.pd≠s.L
 c1:t.L≠s.ps
 c2:t.L≠s.pd
 c3:t.L≠s.L
def Apart.symm {s t:Sd}(h:Apart s t):Apart t s:=⟨h.a1.symm,h.b1.symm,h.c1.symm,h.a2.symm,h.b2.symm,h.c2.symm,h.a3.symm,h.b3.symm,h.c3.symm⟩
def Keep (s:Sd)(H H':Hp):Prop:=∀a o,H a=some o->a≠s.ps->a≠s.pd->a≠s.L->H' a=some o
structure gU (C CS CB CG:Addr)(H:Hp)(s:Sd)(z0:Std)(n:Nat):Prop where
 ex:∃ds zs ns,fD C CS CB CG H s.g s.ps s.pd (dj s.G zs ds)/\H s.L=some (.lst (ns.map V.ref))/\zA C H s.G ns zs ds/\Path s.G z0 ds zs/\ds.length<=n
 d1:s.L≠s.ps
 d2:s.L≠s.pd
def gU.lists {C CS CB CG:Addr}{H:Hp}{s:Sd}{z0:Std}{n:Nat}(I:gU C CS CB CG H s z0 n):(∃xs,H s.ps=some (.lst xs))/\(∃xs,H s.pd=some (.lst xs))/\∃xs,H s.L=some (.lst xs):=by let⟨ds,zs,ns,A,h,_⟩:=I.ex;let⟨_,h1,_⟩:=A.st;show(bV ⟨_,h1⟩ ⟨_,A.dn⟩ ⟨_,h⟩)
def gU.kl {C CS CB CG:Addr}{H H':Hp}{s:Sd}{z0:Std}{n:Nat}(I:gU C CS CB CG H s z0 n)(k:Keep s H H'):Kl H H':=λa o h m=>by obtain⟨⟨_,h1⟩,⟨_,h2⟩,⟨_,h3⟩⟩:=I.lists;show k a o h (jW h1 h m) (jW h2 h m) (jW h3 h m)
def gU.mv {C CS CB CG:Addr}{H H':Hp}{s:Sd}{z0:Std}{n m:Nat}(I:gU C CS CB CG H s z0 n)(k:Kl H H')(h1:∀o,H s.ps=some o->H' s.ps=some o)(h2:∀o,H s.pd=some o->H' s.pd=some o)(h3:∀o,H s.L=some o->H' s.L=some o)(hn:n<=m):gU C CS CB CG H' s z0 m:=by let⟨ds,zs,ns,A,h,N,P,hl⟩:=I.ex;let⟨_,e1,_⟩:=A.st;show⟨(dW ds zs ns (A.kl k ((h1 _ e1).trans e1.symm) ((h2 _ A.dn).trans A.dn.symm)) (h3 _ h) (N.kl k) P qi),I.d1,I.d2⟩
def gU.same {C CS CB CG:Addr}{H H':Hp}{s:Sd}{z0:Std}{n:Nat}(I:gU C CS CB CG H s z0 n)(k:aD H H'):gU C CS CB CG H' s z0 n:=I.mv (Kl.of k) (λ_ h=>k _ _ h) (λ_ h=>k _ _ h) (λ_ h=>k _ _ h) (ai _)
def gU.keep {C CS CB CG:Addr}{H H':Hp}{s t:Sd}{z0:Std}{n m:Nat}(I:gU C CS CB CG H t z0 n)(J:gU C CS CB CG H s z0 m)(a:Apart s t)(k:Keep s H H'){l:Nat}(hl:n<=l):gU C CS CB CG H' t z0 l:=I.mv (J.kl k) (λ_ h=>k _ _ h a.a1 a.a2 a.a3) (λ_ h=>k _ _ h a.b1 a.b2 a.b3) (λ_ h=>k _ _ h a.c1 a.c2 a.c3) hl
structure Gq (C CS CB CG:Addr)(H:Hp)(s:Sd)(z0:Std)(n:Nat)(ds:List cP)(zs:List Std)(z:Std)(ns:List Addr)(a:Addr):Prop where
 ga:fD C CS CB CG H s.g s.ps s.pd (dj s.G (zs++[z]) ds)
 ls:H s.L=some (.lst ((ns++[a]).map V.ref))
 nl:zA C H s.G (ns++[a]) (zs++[z]) ds
 ph:Path s.G z0 ds (zs++[z])
 hl:ds.length<=n
 d1:s.L≠s.ps
 d2:s.L≠s.pd
 na:qe C H a z ds.length (tp ds) (kh (dj s.G [] ds) z)
def gU.now {C CS CB CG:Addr}{H:Hp}{s:Sd}{z0:Std}{n:Nat}(I:gU C CS CB CG H s z0 n):∃ds zs z ns a,Gq C CS CB CG H s z0 n ds zs z ns a:=by let⟨ds,zs,ns,A,h,N,P,hl⟩:=I.ex;let J:=P.len;let⟨D,z,rfl,j⟩:=Yq (l:=zs) (m:=ds) (x:=cP.pass) (by rw[J];simp);let⟨F,a,rfl,G⟩:=Yq N.len;have:=N.at_ ds.length a z (by rw[cz qi,G,j,nI];rfl) (by rw[cz qi,j,nI];rfl);rw[cp]at this;show⟨ds,D,z,F,a,A,h,N,P,hl,I.d1,I.d2,this⟩
def Gq.step {C CS CB CG:Addr}{H H1 j:Hp}{s:Sd}{z0:Std}{n:Nat}{ds:List cP}{zs:List Std}{z z':Std}{ns:List Addr}{a D:Addr}{d:cP}{pt:Int}(I:Gq C CS CB CG H s z0 n ds zs z ns a)(Z:jc z0)(hs:s.G.size<=7)(k:vN s.ps s.pd H H1)(A:fD C CS CB CG H1 s.g s.ps s.pd (dj s.G (zs++[z]++[z']) (ds++[d])))(s2:aD H1 j)(ov:kh (dj s.G [] ds) z=false)(dd:Does (dj s.G [] ds) z d pt z')(J:qe C j D z' (ds.length+1) (Uv (tp ds) d) (ovN z z' (tp ds) ds.length d)):Keep s H (upd j s.L (.lst ((ns++[a]).map V.ref++[.ref D])))/\gU C CS CB CG (upd j s.L (.lst ((ns++[a]).map V.ref++[.ref D]))) s z0 (n+1):=by let O:jc z:=I.ph.ok Z hs z qk;let⟨_,e1,_⟩:=I.ga.st;let G:=(k.kl e1 I.ga.dn).trans (Kl.of s2);let l2:=s2 _ _ (k _ _ I.ls I.d1 I.d2);let F:Kl j (upd j s.L (.lst ((ns++[a]).map V.ref++[.ref D]))):=Kl.up l2;calc⟨λx o h m1 m2 m3=>by rw[aZ m3];show s2 _ _ (k x o h m1 m2),(dW (ds++[d]) (zs++[z]++[z']) (ns++[a]++[D]) ((A.mv s2).kl F (aZ I.d1.symm) (aZ I.d2.symm)) (by rw[aA];simp) ?_ (.snoc I.ph ov dd) (by rw[aE];show gS I.hl)),I.d1,I.d2⟩;calc((I.nl.kl G).snoc I.ph.len ?_).kl F;rw[Nk,ab_ dd O.n1];show J
def Gq.same {C CS CB CG:Addr}{H H':Hp}{s:Sd}{z0:Std}{n:Nat}{ds:List cP}{zs:List Std}{z:Std}{ns:List Addr}{a:Addr}(I:Gq C CS CB CG H s z0 n ds zs z ns a)(k:aD H H'):Gq C CS CB CG H' s z0 n ds zs z ns a:=⟨I.ga.mv k,k _ _ I.ls,I.nl.kl (Kl.of k),I.ph,I.hl,I.d1,I.d2,I.na.kl (Kl.of k)⟩
def pick (j s1 s2:Sd):Nat->Sd
 | 0=>j
 | 1=>s1
 | _=>s2
theorem UG {p:Nat->Prop}(h0:p 0)(h1:p 1)(h2:p 2):∀i,i<3->p i
 | 0,_=>h0
 | 1,_=>h1
 | 2,_=>h2
 | i+3,h=>absurd h qi
theorem lt2 {p:Nat->Prop}(h0:p 0)(h1:p 1):∀i,i<2->p i
 | 0,_=>h0
 | 1,_=>h1
 | i+2,h=>absurd h qi
def aiB {C CS CB CG f f0 f1 f2 f3:Addr}{fd eV eE fd2 nY:FuncData}(F:fj K "law" "law" Q0 f fd)(bG:mg "len"=none)(d8:mg "range"=none)(fP:mg "list"=none)(bL:mg "isinstance"=none)(cV:o9 K CG)(IG:aa_ K CG)(Ng:mg "Book"=some (.ref CB))(T9:Mk K CB f0)(T_:cA P w K mg base dJ 3 f0 eV ["self","words"] (S9 K CB))(Ua:bR K eV ["self","words"] [])(Gp:mg "Game"=some (.ref CG))(Ux:Mk K CG f1)(Uy:cA P w K mg base dJ 7 f1 eE ["self","board","book","worths","bonus","size","racks","bag"] (Nh C CS CB CG))(Uz:bR K eE ["self","board","book","worths","bonus","size","racks","bag"] [])(Hl:Meth K CG "twin" f2)(Ho:cA P w K mg base dJ 9 f2 fd2 ["self"] (Yo C CS CB CG))(Hq:bR K fd2 ["self"] [])(Px:Meth K CG "do" f3)(Py:cA P w K mg base dJ 16 f3 nY ["self","deed"] (aip C CS CB CG))(Pz:bR K nY ["self","deed"] [])(af9:cg P w K mg base "_law_parts" 7 ["_law_script"] (Uq K C))(af_:cg P w K mg base "_law_begun" 1 ["_law_parts_here"] (Ye C))(ace:cg P w K mg base "_law_deed" 18 ["_law_now","_law_book","_law_words_here","_law_cell"] (Yh C CB))(acf:cg P w K mg base "_law_next" 12 ["_law_now","_law_parts_here","_law_deed_here"] (ab6 C))(uE:cg P w K mg base "_law_stands" 5 ["_law_game","_law_now"] (Iw C CS CB CG))(UJ:cg P w K mg base "_law_back" 6 ["_law_game","_law_stood"] (Yr C CS CB CG)):cA P w K mg base dJ 20 f fd ["_law_script"] (QJ K):=by
 calc F.dM kZ (λbN A outer s H vs Q E hr h=>?_);let⟨a,cells,rfl,hS,h63,q⟩:=h;calc(aj _ (aB (aV (i:=1) kZ.nd rL (Or.inl rL) (bI af9 hr.mono rL (ak aH aq))) (aB (aV (i:=2) kZ.nd rL (Or.inl rL) (pP T9 T_ hr.mono rL Ng Ua .nil eG (ak (bh bD bA au (λ_ _=>rfl)) aq))) (aB (aV (i:=3) kZ.nd rL (Or.inl rL) (pP Ux Uy hr.mono rL Gp Uz .nil eG (ak (bh bD bA au (λ_ _=>rfl)) (ak bF (ak (bh bD bA au (λ_ _=>rfl)) (ak (bh bD bA au (λ_ _=>rfl)) (ak (bh bD bA au (λ_ _=>rfl)) (ak (bh bD bA au (λ_ _=>rfl)) (ak (bh bD bA au (λ_ _=>rfl)) aq))))))))) (aB (aV (i:=4) kZ.nd rL (Or.inl rL) (iW (ak (bI af_ hr.mono rL (ak bA aq)) aq))) (aB (fX cK rL (oR (dH tY aH (dI au) (dI au))) (bJ (i:=5) kZ.nd rL (Or.inl rL)) (aG (gK (cJ (d7 (dR (bh bD (bh cW cO (k_ jk au) (λ_ _=>rfl)) au (λ_ _=>rfl)))) (aB (aV (i:=6) kZ.nd rL (Or.inl rL) (bI ace hr.mono rL (ak (bh cW cO (k_ jk au) (λ_ _=>rfl)) (ak bF (ak (bh bD bA au (λ_ _=>rfl)) (ak eO aq)))))) (aB (dz (nH bT cV.cl Px Py hr.mono Pz .nil eG (ak fO aq))) (aG (dz (gC bE dr du jh cO (ak (bh bD (bI acf hr.mono rL (ak (bh cW cO (k_ jk au) (λ_ _=>rfl)) (ak bA (ak fO aq)))) au (λ_ _=>rfl)) aq)))))) bO)))) (aB (aV (i:=7) kZ.nd rL (Or.inl rL) (gF bT cV.cl Hl Ho hr.mono Hq .nil eG)) (aB (aV (i:=8) kZ.nd rL (Or.inl rL) (gF gQ cV.cl Hl Ho hr.mono Hq .nil eG)) (aB (cJ (QW.qt (mq (d7 (dR (aY RL qr bL cf (ak gQ (ak (zU (v:=.ref _) qr Gp rL) aq))))) (lG (d7 (dR (bI uE hr.mono rL (ak gQ (ak (bh cW cO (k_ jk au) (λ_ _=>rfl)) aq)))))))) (aG (bC iZ)) bO) (aB (aV (i:=9) kZ.nd rL (Or.inl rL) (iW (ak bT (ak gQ aq)))) (aB (aV (i:=10) kZ.nd rL (Or.inl rL) (iW (ak (d_ rM qr fP dS (ak cO aq)) (ak (d_ rM qr fP dS (ak cO aq)) aq)))) (aB (fX cK rL (o_ qr d8 (ak (aY bY qr bG ay (ak (dH tY aH (dI au) (dI au)) aq)) aq)) (bJ (i:=11) kZ.nd rL (Or.inl rL)) (aB (aV (i:=12) kZ.nd rL (Or.inl rL) (aL cj (aL cM mz (bh cW aH (aL cM au mz) (λ_ _=>rfl))) au)) (aB (aV (i:=13) kZ.nd rL (Or.inl rL) (bh cW (bh cW iu nJ (λ_ _=>rfl)) (k_ jk au) (λ_ _=>rfl))) (aB (gK (cJ (d7 (dR (bh bD u_ au (λ_ _=>rfl)))) (aB (aV (i:=6) kZ.nd rL (Or.inl rL) (bI ace hr.mono rL (ak u_ (ak bF (ak (bh bD bA au (λ_ _=>rfl)) (ak (aL cQ (bh cW aH (aL cM au mz) (λ_ _=>rfl)) au) aq)))))) (aB (dz (nH (bh cW j4 nJ (λ_ _=>rfl)) cV.cl Px Py hr.mono Pz .nil eG (ak fO aq))) (aG (dz (gC bE dr du jh (bh cW iu nJ (λ_ _=>rfl)) (ak (bh bD (bI acf hr.mono rL (ak u_ (ak bA (ak fO aq)))) au (λ_ _=>rfl)) aq)))))) bO)) (aG (fX cK rL (o_ qr d8 (ak au aq)) (bJ (i:=14) kZ.nd rL (Or.inl rL)) (aG (cJ (d7 (dR (bI uE hr.mono rL (ak (bh cW j4 (qv 14) (λ_ _=>rfl)) (ak (bh cW (bh cW iu (qv 14) (λ_ _=>rfl)) (k_ jk au) (λ_ _=>rfl)) aq))))) (aG (bC iZ)) bO)))))))) (aB (cJ (QW.qt (mq (d7 (dR (bI UJ hr.mono rL (ak bT (ak (bh cW iu au (λ_ _=>rfl)) aq))))) (mq (d7 (dR (bI uE hr.mono rL (ak gQ (ak (bh cW (bh cW iu au (λ_ _=>rfl)) (k_ jk au) (λ_ _=>rfl)) aq))))) (lG (d7 (dR (bI uE hr.mono rL (ak jZ (ak (bh cW cO (k_ jk au) (λ_ _=>rfl)) aq))))))))) (aG (bC iZ)) bO) (aG (bC (jR (bI UJ hr.mono rL (ak gQ (ak (bh cW iu au (λ_ _=>rfl)) aq))) (jA (bI UJ hr.mono rL (ak jZ (ak cO aq))))))))))))))))))) ?_);calc(aj _ rL (aJ a cells rL hS (λpp pw Z H1 s1 fpw PA PO=>?_)));let⟨b0,dk,pbn,prk,hpp,hB0,hdk,akN,akO⟩:=PA.ex;let w2:=PO.w2;calc(aj _ rL (bw pp _ _ (.ref pw) rL rL (aU.of hpp) (aQ (j:=1) rL) (λk kx nk1 nk2 nk3=>?_)));let sK:aD H1 (upd (upd H1 kx (HO.own k)) k (HO.ins CB kx [])):=λx o h=>by rw[aZ (aN h nk1),aZ (aN h nk2)];show h
 calc(gH k kx pw Z.ws rL aA (.inl (bH.of (sK _ _ PA.wl))) PO.wz qi (λkd bs H2 fkd BK hbs Sh kp2=>⟨rL,?_⟩));let s2:aD H1 H2:=λx o h=>kp2 x o (sK x o h) (aN h nk1);let Ek:=s2 _ _ hpp;calc(aj _ rL (bw pp _ _ (.ref b0) rL rL (aU.of Ek) (aQ (j:=0) rL) (aj _ rL (aj _ rL (bw pp _ _ (.ref dk) rL rL (aU.of Ek) (aQ (j:=2) rL) (aj _ rL (bw pp _ _ (.ref pbn) rL rL (aU.of Ek) (aQ (j:=3) rL) (aj _ rL (bw pp _ _ (.int Z.size) rL rL (aU.of Ek) (aQ (j:=4) rL) (aj _ rL (bw pp _ _ (.ref prk) rL rL (aU.of Ek) (aQ (j:=5) rL) (aj _ rL (bw pp _ _ (.str (S Z.bag)) rL rL (aU.of Ek) (aQ (j:=6) rL) (λg gx ng1 ng2 ng3=>?_))))))))))))));let sG:aD H2 (upd (upd H2 gx (HO.own g)) g (HO.ins CG gx [])):=λx o h=>by rw[aZ (aN h ng1),aZ (aN h ng2)];show h
 let s1G:=s2.trans sG;calc⟨g,gx,b0,k,kd,dk,pbn,prk,bs,Z.kvs,Z.bn,Z.bm,Z.size,Z.r,Z.w,Z.aF,Z.aO,Z.bi,Z.bj,Z.racks,Z.bag,rL,aA,hB0.mv s1G,BK.mv sG,qi,s1G _ _ hdk,s1G _ _ akN,s1G _ _ akO,PO.n1,PO.n4,(λl hl=>by have:=(PO.r7 l hl).1;have:=PO.s7;lia),λps pd lY H3 kp3 hm fps Yp A3=>⟨rL,?_⟩⟩;let s3:aD H2 H3:=λx o h=>kp3 x o (sG x o h) (aN h ng1);let A3:fD C CS CB CG H3 g ps pd (dj ⟨[],[],lY,Z.kvs,Z.bn,Z.bm,Z.size⟩ [beg Z] []):=A3;let GF:yP ⟨[],[],lY,Z.kvs,Z.bn,Z.bm,Z.size⟩:=⟨PO.wd,PO.wb,PO.s7⟩
 obtain⟨G,ek,en,em,ez,ew,A3,GF⟩:∃G:Gm,G.kvs=Z.kvs/\G.bn=Z.bn/\G.bm=Z.bm/\G.size=Z.size/\G.ws=lY/\fD C CS CB CG H3 g ps pd (dj G [beg Z] [])/\yP G:=⟨_,rL,rL,rL,rL,rL,A3,GF⟩
 let hbw:∀x,x∈bs↔x∈G.ws:=λx=>by rw[ew];show(hm x).symm
 let akP:G.ws.length<64:=by let⟨_,_,_,_,_,_,c2,_⟩:=A3.ex;have:=acd c2.nd BK.nd λy=>(hbw y).symm;show this ▸ (by lia:bs.length<64)
 let Z0:jc (beg Z):=by let z7:=PO.s7;calc⟨by show 1<=(Z.racks.map dZ).length;rw[aa];show PO.n1,by show (Z.racks.map dZ).length<=4;rw[aa];show PO.n4,λl hl=>?_,PO.b6,PO.bt,by show (List.replicate _ _).length=(Z.racks.map dZ).length;rw[aa,cE]⟩;let⟨m,hm,rfl⟩:=be.mp hl;let⟨h1,h2⟩:=PO.r7 m hm;show⟨by rw[jK];lia,λc hc=>h2 c ((kO m).mem_iff.mp hc)⟩
 let CZ:=s2.trans s3;let PA3:yO C H3 pp pw Z:=PA.kl (Kl.of CZ) (CZ _ _ PA.wl);calc(aj _ rL (cY pp pw Z rL PA3 PO (λbn H4 s4 NA0=>⟨zsz 1,λY hLs=>?_⟩)));let s5:=aD.upd hLs (o:=HO.lst [V.ref bn]);let e5:upd H4 Y (HO.lst [V.ref bn]) Y=some (.lst ([bn].map V.ref)):=aA;generalize upd H4 Y (HO.lst [V.ref bn])=H5 at s5 e5 ⊢;let s35:=s4.trans s5;let vM:=(s1.trans CZ).trans s35;calc(aj _ rL (aj _ rL (aj _ rL (aJ a _ rL (vM.seq hS) (λZc hZc=>?_)))));let s6:=aD.upd hZc (o:=HO.lst (fV (cells.map V.int) (some 4) (some 9)));let e6:upd H5 Zc (HO.lst (fV (cells.map V.int) (some 4) (some 9))) Zc=some (.lst (fV (cells.map V.int) (some 4) (some 9))):=aA;generalize upd H5 Zc (HO.lst (fV (cells.map V.int) (some 4) (some 9)))=H6 at s6 e6 ⊢;let s36:=s35.trans s6;let xO:=vM.trans s6;let⟨_,aiC,_⟩:=A3.st;let aiD:=A3.dn;let d1:Y≠ps:=(aN (s4 _ _ aiC) hLs).symm;let d2:Y≠pd:=(aN (s4 _ _ aiD) hLs).symm;let zn1:Zc≠ps:=(aN (s35 _ _ aiC) hZc).symm;let zn2:Zc≠pd:=(aN (s35 _ _ aiD) hZc).symm;let zn3:Zc≠Y:=(aN e5 hZc).symm;let wl2:=s2 _ _ PA.wl;let wn1:pw≠ps:=aN (sG _ _ wl2) fps;let wn2:pw≠pd:=aN (sG _ _ wl2) Yp;let wn3:pw≠Y:=aN (s4 _ _ (s3 _ _ wl2)) hLs;let PA6:yO C H6 pp pw Z:=PA3.kl (Kl.of s36) (s36 _ _ PA3.wl);let BK6:iJ CB H6 k kd bs:=(BK.mv s3).mv s36;let I6:gU C CS CB CG H6 ⟨g,ps,pd,Y,G⟩ (beg Z) 0:=by
  calc⟨(dW [] [beg Z] [bn] (A3.mv s36) (s6 _ _ e5) ⟨rL,λi b z h1 h2=>?_⟩ (.nil) (ai _)),d1,d2⟩;cases i with
  | zero=>cases h1;cases h2;rw[List.take_nil,adV Z0.n1];show NA0.kl (Kl.of (s5.trans s6))
  | succ i=>simp at h1
 let hcl:(fV (cells.map V.int) (some 4) (some 9)).length<=63:=by unfold fV;rw[am,ba,aa];lia
 refine(bf Zc rL ⟨_,bH.of e6⟩ (n8 (K:=K) (a:=Zc) (xs:=fV (cells.map V.int) (some 4) (some 9)) (λi σ H7=>∃(v5 v6:Option V),σ=[some (.ref a),some (.ref pp),some (.ref k),some (.ref g),some (.ref Y),v5,v6,none,none,none,none,none,none,none,none]/\Keep ⟨g,ps,pd,Y,G⟩ H6 H7/\gU C CS CB CG H7 ⟨g,ps,pd,Y,G⟩ (beg Z) i)
  (aJ none none rL (λ_ _ h _ _ _=>h) I6) (λi σ H7 _ h=>?_) ?_ ?_))
 .let⟨_,_,_,kp,_⟩:=h;show bH.of (kp _ _ e6 zn1 zn2 zn3)
 .intro i x σ H7 hx z;let⟨v5,v6,rfl,kp,I⟩:=z;let hic:=(ah.mp hx).1;let⟨c,_,rfl⟩:=be.mp (eQ (de (bu hx)));let⟨ds,zs,z,ns,n,N⟩:=I.now;let El:jc z:=N.ph.ok Z0 GF.sz z qk;let hdi:=N.hl;let CK:=N.ph.len;let kl7:=I6.kl kp;let xV:=kp _ _ PA6.wl wn1 wn2 wn3;let PA7:=PA6.kl kl7 xV;let⟨_,_,_,_,akQ,_⟩:=PA7.ex;let⟨_,_,_,hn7,_⟩:=N.na.ex;calc⟨λσ H8=>∃(v5 v6:Option V),σ=[some (.ref a),some (.ref pp),some (.ref k),some (.ref g),some (.ref Y),v5,v6,none,none,none,none,none,none,none,none]/\Keep ⟨g,ps,pd,Y,G⟩ H6 H8/\gU C CS CB CG H8 ⟨g,ps,pd,Y,G⟩ (beg Z) (i+1),?_,λσ H8 h=>h⟩;calc(aj _ rL (aj _ rL (bw Y _ _ (.ref n) rL rL (bH.of N.ls) jL (bw n _ _ (.bl (kh (dj G [] ds) z)) rL rL (aU.of hn7) (aQ (j:=6) rL) (aj _ rL ?_)))));cases hov:kh (dj G [] ds) z with| true=>show bW (aJ _ _ rL kp (I.mv (Kl.of (aD.refl _)) (λ_ h=>h) (λ_ h=>h) (λ_ h=>h) (gX _)))| false=>calc cG (aj _ rL (aj _ rL (bw Y _ _ (.ref n) rL rL (bH.of N.ls) jL (aj _ rL (aj _ rL (bw pp _ _ (.ref pw) rL rL (aU.of akQ) (aQ (j:=1) rL) (aj _ rL ⟨n,k,kd,pw,bs,Z.ws,c,z,ds.length,tp ds,_,rL,N.na,El,BK6.kl kl7,xV,by have:=PO.w1;lia,PO.wz,λe d HA sA hd hok=>?_⟩)))))));let⟨pt,z',dd⟩:=Pu (G:=G) hok hbw;let NA:=N.same sA;let⟨gz,_,_,_,_,hgA,_⟩:=NA.ga.ex;let⟨_,adW,_⟩:=NA.ga.st;let C_:(dj G [] ds).done.length=ds.length:=aa _;calc(aj _ rL (cY g gz _ rL hgA rL (aj _ rL (JZ g e ps pd (dj G (zs++[z]) ds) zs z z' d pt rL NA.ga rL El (GF.ok qi qi) hd hov dd.sts (λHC kC AC=>?_)))));rw[Yn]at AC;let UL:=kC.kl adW NA.ga.dn;let l1:=kC _ _ NA.ls d1 d2;let adX:=kC _ _ (sA _ _ xV) wn1 wn2;calc(bf _ rL (.inl ⟨rL,_,bH.of l1⟩) (aj _ rL (aj _ rL (bw Y _ _ (.ref n) rL rL (bH.of l1) jL (aj _ rL (aj _ rL ⟨n,pp,pw,e,z,z',ds.length,tp ds,_,Z,dj G [] ds,d,pt,rL,NA.na.kl UL,El,PA7.kl ((Kl.of sA).trans UL) adX,PO,hd.kl UL,C_,ek,en,em,ez,dd,λt n' HD sD ht NA'=>(bw t _ _ (.ref n') rL rL (aU.of ht) (aQ (j:=1) rL) (dW Y _ (.ref n') rL rL (sD _ _ l1) (aM (by rw[aa];have:=N.nl.len;lia)) ?_))⟩))))));let⟨kS,IS⟩:=NA.step Z0 GF.sz kC AC sD hov dd NA';show(aJ _ _ rL (λx o h m1 m2 m3=>kS _ _ (sA _ _ (kp x o h m1 m2 m3)) m1 m2 m3) IS)
 intro σ H7 z;let⟨v5,v6,rfl,kp7,I⟩:=z;let⟨ds,zs,z,ns,n,N⟩:=I.now;let hdi:=N.hl;let El:jc z:=N.ph.ok Z0 GF.sz z qk;let kl7:=I6.kl kp7;let xV:=kp7 _ _ PA6.wl wn1 wn2 wn3;let PA7:=PA6.kl kl7 xV;let BK7:=BK6.kl kl7;let hz0:=N.ph.z0;obtain⟨zs',hzs⟩:∃zs',zs++[z]=beg Z::zs':=by
  cases e:zs++[z] with| nil=>simp at e| cons y ys=>rw[e]at hz0;cases hz0;show⟨ys,rL⟩
 let⟨gz,_,_,_,_,hg7,_⟩:=N.ga.ex;let⟨_,Np,_⟩:=N.ga.st;let Nq:=N.ga.dn;calc(aj _ rL (cY g gz _ rL hg7 rL ⟨g,ps,pd,_,beg Z,zs',rL,N.ga,hzs,Z0,akP,λg2 ps2 qm wt H8 s8 f2 f2' hw2 hl2 A8=>?_⟩));let A8:fD C CS CB CG H8 g2 ps2 qm (dj {G with ws:=wt} (zs++[z]) ds):=A8;let hw2:∀y,y∈wt↔y∈G.ws:=hw2;let⟨gz2,_,_,_,_,hg8,_⟩:=A8.ex;let⟨_,Nm,_⟩:=A8.st;let aal:=A8.dn;calc(aj _ rL (cY g2 gz2 _ rL hg8 rL ⟨g2,ps2,qm,_,beg Z,zs',rL,A8,hzs,Z0,hl2,λg3 UW U0 wu H9 s9 f3 Ys hw3 hl3 A9=>?_⟩));let A9:fD C CS CB CG H9 g3 UW U0 (dj {G with ws:=wu} (zs++[z]) ds):=A9;let hw3:∀y,y∈wu↔y∈wt:=hw3;let⟨_,akR,_⟩:=A9.st;let akS:=A9.dn;let s79:=s8.trans s9;let C_:(dj G (zs++[z]) ds).done.length=ds.length:=aa _;calc(aj _ rL (gG (.ref g2) CG (.ref CG) true rL (.ins (s9 _ _ hg8) cV.cl IG.ha IG.hn IG.ht IG.hm) IG.ki (aj true rL (bW (aj _ rL (aj _ rL (aj _ rL (bw Y _ _ (.ref n) rL rL (bH.of (s79 _ _ N.ls)) jL (J6 g2 n ps2 qm (dj {G with ws:=wt} (zs++[z]) ds) zs z (tp ds) rL (A8.mv s9) rL El xU (by show ((dj G (zs++[z]) ds).done).length<=500;rw[C_];lia) (by show qe C H9 n z ((dj G (zs++[z]) ds).done).length (tp ds) (kh (dj G [] ds) z);rw[C_];show N.na.kl (Kl.of s79)) (λHa sa=>(aj _ rL (bW ?_))))))))))));let s7a:=s79.trans sa;let s8a:=s9.trans sa;calc(aj _ rL (bf _ rL (zsz 2) (λLp hLp=>?_)));let sb:=aD.upd hLp (o:=HO.lst [V.ref g,V.ref g2]);let eb:upd Ha Lp (HO.lst [V.ref g,V.ref g2]) Lp=some (.lst [V.ref g,V.ref g2]):=aA;generalize upd Ha Lp (HO.lst [V.ref g,V.ref g2])=Hb at sb eb ⊢;let PB:=s7a.trans sb;calc(aj _ rL (aJ Y _ rL (.inl (bH.of (PB _ _ N.ls))) (λLa hLa=>?_)));let sc:=aD.upd hLa (o:=HO.lst ((ns++[n]).map V.ref));let ec:upd Hb La (HO.lst ((ns++[n]).map V.ref)) La=some (.lst ((ns++[n]).map V.ref)):=aA;generalize upd Hb La (HO.lst ((ns++[n]).map V.ref))=Hc at sc ec ⊢;let s7c:=PB.trans sc;calc(aj _ rL (aJ Y _ rL (.inl (bH.of (s7c _ _ N.ls))) (λLb hLb=>?_)));let sd:=aD.upd hLb (o:=HO.lst ((ns++[n]).map V.ref));let ed:upd Hc Lb (HO.lst ((ns++[n]).map V.ref)) Lb=some (.lst ((ns++[n]).map V.ref)):=aA;generalize upd Hc Lb (HO.lst ((ns++[n]).map V.ref))=Hd at sd ed ⊢;calc⟨zsz 2,λLq hLq=>?_⟩;let se:=aD.upd hLq (o:=HO.lst [V.ref La,V.ref Lb]);let ee:upd Hd Lq (HO.lst [V.ref La,V.ref Lb]) Lq=some (.lst [V.ref La,V.ref Lb]):=aA;generalize upd Hd Lq (HO.lst [V.ref La,V.ref Lb])=He at se ee ⊢;let s7d:=s7c.trans sd;let PJ:=s7d.trans se;let sbd:=(sb.trans sc).trans sd;let s8b:=s8a.trans sb;let s9b:=sa.trans sb;let p2a:ps2≠ps:=(aN Np f2).symm;let p2b:ps2≠pd:=(aN Nq f2).symm;let p2c:ps2≠Y:=(aN N.ls f2).symm;let q2a:qm≠ps:=(aN Np f2').symm;let q2b:qm≠pd:=(aN Nq f2').symm;let q2c:qm≠Y:=(aN N.ls f2').symm;let p3a:UW≠ps:=(aN (s8 _ _ Np) f3).symm;let p3b:UW≠pd:=(aN (s8 _ _ Nq) f3).symm;let p3d:UW≠ps2:=(aN Nm f3).symm;let p3e:UW≠qm:=(aN aal f3).symm;let p3c:UW≠Y:=(aN (s8 _ _ N.ls) f3).symm;let q3a:U0≠ps:=(aN (s8 _ _ Np) Ys).symm;let q3b:U0≠pd:=(aN (s8 _ _ Nq) Ys).symm;let q3d:U0≠ps2:=(aN Nm Ys).symm;let q3e:U0≠qm:=(aN aal Ys).symm;let q3c:U0≠Y:=(aN (s8 _ _ N.ls) Ys).symm;let Hr:∀{x:Addr} {o:HO},Hb x=some o->x≠La:=λh=>aN h hLa;let Hs:∀{x:Addr} {o:HO},Hb x=some o->x≠Lb:=λh=>aN (sc _ _ h) hLb;let lab:La≠Lb:=aN ec hLb;let Yt:∀{x:Addr} {o:HO},Hd x=some o->x≠Lq:=λh=>aN h hLq;let bps:=PB _ _ Np;let bpd:=PB _ _ Nq;let adY:=s8b _ _ Nm;let adZ:=s8b _ _ aal;let aiE:=s9b _ _ akR;let aiF:=s9b _ _ akS;let bLs:=PB _ _ N.ls;let lpN:∀{x:Addr} {o:HO},Ha x=some o->x≠Lp:=λh=>aN h hLp;let aps:=s7a _ _ Np;let apd:=s7a _ _ Nq;let akT:=s8a _ _ Nm;let akU:=s8a _ _ aal;let aLs:=s7a _ _ N.ls;obtain⟨O,Ld⟩:∃O:Sd,O=⟨g,ps,pd,La,G⟩:=⟨_,rL⟩
 obtain⟨D,Le⟩:∃D:Sd,D=⟨g2,ps2,qm,Lb,{G with ws:=wt}⟩:=⟨_,rL⟩
 obtain⟨J,Yu⟩:∃J:Sd,J=⟨g3,UW,U0,Y,{G with ws:=wu}⟩:=⟨_,rL⟩
 let ad0:Apart O D:=by rw[Ld,Le];show⟨p2a,p2b,Hr adY,q2a,q2b,Hr adZ,(Hs bps).symm,(Hs bpd).symm,lab.symm⟩
 let ad1:Apart O J:=by rw[Ld,Yu];show⟨p3a,p3b,Hr aiE,q3a,q3b,Hr aiF,d1,d2,Hr bLs⟩
 let ad2:Apart D J:=by rw[Le,Yu];show⟨p3d,p3e,Hs aiE,q3d,q3e,Hs aiF,p2c.symm,q2c.symm,Hs bLs⟩
 let ap:∀i,i<3->∀j,j<3->i≠j->Apart (pick O D J i) (pick O D J j):=UG (UG (λh=>absurd rL h) (λ_=>ad0) (λ_=>ad1)) (UG (λ_=>ad0.symm) (λh=>absurd rL h) (λ_=>ad2)) (UG (λ_=>ad1.symm) (λ_=>ad2.symm) (λh=>absurd rL h))
 let klw:∀(wv:AB),(∀y,y∈G.ws↔y∈wv)->zA C He {G with ws:=wv} (ns++[n]) (zs++[z]) ds/\Path {G with ws:=wv} (beg Z) ds (zs++[z]):=λwv h=>⟨⟨(N.nl.kl (Kl.of PJ)).len,(N.nl.kl (Kl.of PJ)).at_⟩,N.ph.ws h⟩
 let J0:gU C CS CB CG He O (beg Z) 63:=by rw[Ld];show⟨(dW ds (zs++[z]) (ns++[n]) (N.ga.mv PJ) (se _ _ (sd _ _ ec)) (N.nl.kl (Kl.of PJ)) N.ph qi),(Hr bps).symm,(Hr bpd).symm⟩
 let J1:gU C CS CB CG He D (beg Z) 63:=by rw[Le];let⟨k1,k2⟩:=klw wt λy=>(hw2 y).symm;show⟨(dW ds (zs++[z]) (ns++[n]) ((A8.mv s8b).mv ((sc.trans sd).trans se)) (se _ _ ed) k1 k2 qi),(Hs adY).symm,(Hs adZ).symm⟩
 let J2:gU C CS CB CG He J (beg Z) 63:=by
  rw[Yu];let⟨k1,k2⟩:=klw wu λy=>by rw[hw3 y,hw2 y]
  show⟨(dW ds (zs++[z]) (ns++[n]) ((A9.mv s9b).mv ((sc.trans sd).trans se)) (PJ _ _ N.ls) k1 k2 qi),p3c.symm,q3c.symm⟩
 let JJ:∀i,i<3->gU C CS CB CG He (pick O D J i) (beg Z) 63:=UG J0 J1 J2;let gf:∀i,i<3->yP (pick O D J i).G/\(pick O D J i).G.kvs=Z.kvs/\(pick O D J i).G.bn=Z.bn/\(pick O D J i).G.bm=Z.bm/\(pick O D J i).G.size=Z.size/\∀x,x∈bs↔x∈(pick O D J i).G.ws:=by
  refine UG ?_ ?_ ?_
  .show yP O.G/\_;rw[show pick O D J 0=O from rL,Ld];show⟨GF,ek,en,em,ez,hbw⟩
  .show yP D.G/\_;rw[show pick O D J 1=D from rL,Le];show⟨⟨GF.wd,GF.wb,GF.sz⟩,ek,en,em,ez,λx=>by rw[hbw x];show(hw2 x).symm⟩
  .show yP J.G/\_;rw[show pick O D J 2=J from rL,Yu];show⟨⟨GF.wd,GF.wb,GF.sz⟩,ek,en,em,ez,λx=>by rw[hbw x,<-hw2 x];show(hw3 x).symm⟩
 let s0e:aD H He:=by
  let t6:aD H H7:=λx o h=>kp7 _ _ (xO _ _ h) (λz=>?_) (λz=>?_) (λz=>?_)
  .show t6.trans PJ
  .subst z;rw[sG _ _ (s2 _ _ (s1 _ _ h))]at fps;cases fps
  .subst z;rw[sG _ _ (s2 _ _ (s1 _ _ h))]at Yp;cases Yp
  .subst z;rw[((s1.trans CZ).trans s4) _ _ h]at hLs;cases hLs
 let frs:∀i,i<3->∀x o,H x=some o->x≠(pick O D J i).ps/\x≠(pick O D J i).pd/\x≠(pick O D J i).L:=by
  let t2:=(s1.trans s2).trans sG;let t7:aD H H7:=λx o h=>kp7 _ _ (xO _ _ h) (aN (t2 _ _ h) fps) (aN (t2 _ _ h) Yp) (aN (((s1.trans CZ).trans s4) _ _ h) hLs);refine UG (λx o h=>?_) (λx o h=>?_) (λx o h=>?_)
  .rw[show pick O D J 0=O from rL,Ld];show(bV (aN (t2 _ _ h) fps) (aN (t2 _ _ h) Yp) (Hr (PB _ _ (t7 _ _ h))))
  .rw[show pick O D J 1=D from rL,Le];show(bV (aN (t7 _ _ h) f2) (aN (t7 _ _ h) f2') (Hs (PB _ _ (t7 _ _ h))))
  .rw[show pick O D J 2=J from rL,Yu];show(bV (aN (s8 _ _ (t7 _ _ h)) f3) (aN (s8 _ _ (t7 _ _ h)) Ys) (aN (((s1.trans CZ).trans s4) _ _ h) hLs))
 let alc:=PJ _ _ xV;let stn:∀i,i<2->(pw≠(pick O D J i).ps/\pw≠(pick O D J i).pd/\pw≠(pick O D J i).L)/\(Lp≠(pick O D J i).ps/\Lp≠(pick O D J i).pd/\Lp≠(pick O D J i).L)/\(Lq≠(pick O D J i).ps/\Lq≠(pick O D J i).pd/\Lq≠(pick O D J i).L):=by
  let bpw:=PB _ _ xV;refine lt2 ?_ ?_
  .rw[show pick O D J 0=O from rL,Ld];show(bV (bV wn1 wn2 (Hr bpw)) (bV ((lpN aps).symm) ((lpN apd).symm) (Hr eb)) (bV ((Yt (sd _ _ (sc _ _ bps))).symm) ((Yt (sd _ _ (sc _ _ bpd))).symm) ((Yt (sd _ _ ec)).symm)))
  .rw[show pick O D J 1=D from rL,Le];show(bV (bV (aN xV f2) (aN xV f2') (Hs bpw)) (bV ((lpN akT).symm) ((lpN akU).symm) (Hs eb)) (bV ((Yt (sd _ _ (sc _ _ adY))).symm) ((Yt (sd _ _ (sc _ _ adZ))).symm) ((Yt ed).symm)))
 let aiG:∀i:Nat,i<2->qz [V.ref g,V.ref g2] (i:Int)=some (.ref (pick O D J i).g):=lt2 (by rw[show pick O D J 0=O from rL,Ld];rfl) (by rw[show pick O D J 1=D from rL,Le];rfl);let aiH:∀i:Nat,i<2->qz [V.ref La,V.ref Lb] (i:Int)=some (.ref (pick O D J i).L):=lt2 (by rw[show pick O D J 0=O from rL,Ld];rfl) (by rw[show pick O D J 1=D from rL,Le];rfl);calc(aj _ rL (aj _ rL (aj _ rL (aJ a _ rL (s0e.seq hS) (λZd hZd=>?_)))));let sf:=aD.upd hZd (o:=HO.lst (fV (cells.map V.int) (some 9) (some 14)));let hM:∀j,j<(fV (cells.map V.int) (some 9) (some 14)).length->9+j<cells.length/\j<5:=λj hj=>by unfold fV at hj;rw[am,ba,show HT.dw (cells.map V.int).length 0 (some 9)=min 9 (cells.map V.int).length from HT.jX _ _ 9,show HT.dw (cells.map V.int).length (cells.map V.int).length (some 14)=min 14 (cells.map V.int).length from HT.jX _ _ 14,aa]at hj;lia
 refine(aJ Zd _ rL (.inl (bH.of aA)) (h_ _ rL qi ?_ ?_))
 .have:(fV (cells.map V.int) (some 9) (some 14)).length<=63:=by
   unfold fV;rw[am,ba,aa];lia
  lia
 rw[eI];generalize upd He Zd (HO.lst (fV (cells.map V.int) (some 9) (some 14)))=Hf at sf ⊢;let s7f:=PJ.trans sf;let PAf:=PA7.kl (Kl.of s7f) (s7f _ _ xV);let BKf:=BK7.mv s7f;refine mj (lo:=0) (λj σ HG=>∃(v5 v6 v11 v12 Yj Yv:Option V),σ=[some (.ref a),some (.ref pp),some (.ref k),some (.ref g),some (.ref Y),v5,v6,some (.ref g2),some (.ref g3),some (.ref Lp),some (.ref Lq),v11,v12,Yj,Yv]/\aD H HG/\Kl Hf HG/\HG pw=some (.lst (Ts Z.ws))/\HG Lp=some (.lst [.ref g,.ref g2])/\HG Lq=some (.lst [.ref La,.ref Lb])/\∀i,i<3->gU C CS CB CG HG (pick O D J i) (beg Z) (63+j))
  (Bf v5 v6 none none none none rL (s0e.trans sf) (λ_ _ h _=>h) (s7f _ _ xV) (sf _ _ (se _ _ (sd _ _ (sc _ _ eb)))) (sf _ _ ee) (λi hi=>(JJ i hi).same sf)) ?_ ?_
 .intro j σ HG hj z;let⟨v5,v6,v11,v12,Yj,Yv,rfl,sHG,klG,Nr,aam,IW,U3⟩:=z;let⟨hj9,hj5⟩:=hM j hj;let hat:qz (cells.map V.int) ((9:Int)+(0+(j:Int)))=some (.int cells[9+j]):=by
   rw[show (9:Int)+(0+(j:Int))=((9+j:Nat):Int) by lia];show aQ (by rw[ck,ac hj9];rfl)
  calc(aj _ rL (aj _ rL (aj _ rL (aJ _ _ rL rL (bw a _ _ (.int cells[9+j]) rL rL (sHG.seq hS) hat (aJ _ _ rL rL (aX _ _ rL rL (by show (0:Int)<2;decide) ?_)))))));obtain⟨t,ht,t2⟩:∃t:Nat,(0+(j:Int)+cells[9+j])%2=(t:Int)/\t<2:=(aj (((0+(j:Int)+cells[9+j])%2).toNat) qi qi)
  let t3:t<3:=qi;let gp:=aiG t t2;let gq:=aiH t t2;let⟨gft,ekt,ent,emt,ezt,hbt⟩:=gf t t3;obtain⟨⟨w1,w2',w3⟩,⟨u1,u2,u3⟩,⟨x1,x2,x3⟩⟩:=stn t t2;let It:=U3 t t3;let xM:=ap t t3;let frt:=frs t t3;generalize hst:pick O D J t=st at gp gq gft ekt ent emt ezt hbt w1 w2' w3 u1 u2 u3 x1 x2 x3 It xM frt;let⟨ds,zs,z,ns,n,N⟩:=It.now;let hdi:=N.hl;let CK:=N.ph.len;let El:jc z:=N.ph.ok Z0 gft.sz z qk;let⟨_,_,_,hnG,_⟩:=N.na.ex;calc(aj _ rL (aj _ rL (bw Lq _ _ (.ref st.L) rL rL (bH.of IW) (by rw[ht];show gq) (aj _ rL (bw st.L _ _ (.ref n) rL rL (bH.of N.ls) jL ?_)))));refine⟨λσ HH=>∃(v6:Option V),σ=[some (.ref a),some (.ref pp),some (.ref k),some (.ref g),some (.ref Y),v5,v6,some (.ref g2),some (.ref g3),some (.ref Lp),some (.ref Lq),some (.int (0+(j:Int))),some (.int ((0+(j:Int)+cells[9+j])%2)),some (.ref n),Yv]/\aD H HH/\Kl Hf HH/\HH pw=some (.lst (Ts Z.ws))/\HH Lp=some (.lst [.ref g,.ref g2])/\HH Lq=some (.lst [.ref La,.ref Lb])/\∀i,i<3->gU C CS CB CG HH (pick O D J i) (beg Z) (63+j+1),?_,?_⟩
  .calc(aj _ rL (bw n _ _ (.bl (kh (dj st.G [] ds) z)) rL rL (aU.of hnG) (aQ (j:=6) rL) (aj _ rL ?_)));cases hov:kh (dj st.G [] ds) z with
   | true=>show bW ⟨_,rL,sHG,klG,Nr,aam,IW,λi hi=>(U3 i hi).mv (Kl.of (aD.refl _)) (λ_ h=>h) (λ_ h=>h) (λ_ h=>h) (gX _)⟩
   | false=>
    let PAG:=PAf.kl klG Nr;let⟨_,_,_,_,akV,_⟩:=PAG.ex;calc cG (aj _ rL (aj _ rL (aj _ rL (bw pp _ _ (.ref pw) rL rL (aU.of akV) (aQ (j:=1) rL) (aj _ rL (aj _ rL (aJ _ _ rL rL (bw a _ _ (.int cells[9+j]) rL rL (sHG.seq hS) hat (aX _ _ rL rL ⟨qo,qo⟩ ⟨n,k,kd,pw,bs,Z.ws,_,z,ds.length,tp ds,_,rL,N.na,El,BKf.kl klG,Nr,by have:=PO.w1;lia,PO.wz,λe d HA sA hd hok=>?_⟩)))))))));let⟨pt,z',dd⟩:=Pu (G:=st.G) hok hbt;let NA:=N.same sA;let⟨gz,_,_,_,_,hgA,_⟩:=NA.ga.ex;let⟨_,adW,_⟩:=NA.ga.st;let C_:(dj st.G [] ds).done.length=ds.length:=aa _;calc(aj _ rL (aj _ rL (bw Lp _ _ (.ref st.g) rL rL (bH.of (sA _ _ aam)) (by rw[ht];show gp) (cY st.g gz _ rL hgA rL (aj _ rL (JZ st.g e st.ps st.pd (dj st.G (zs++[z]) ds) zs z z' d pt rL NA.ga rL El (gft.ok qi qi) hd hov dd.sts (λHC kC AC=>?_)))))));rw[Yn]at AC;let UL:=kC.kl adW NA.ga.dn;let l1:=kC _ _ NA.ls NA.d1 NA.d2;let adX:=kC _ _ (sA _ _ Nr) w1 w2';let akW:=kC _ _ (sA _ _ IW) x1 x2;calc(aj _ rL (aj _ rL (gH Lq _ _ (.ref st.L) rL rL (bH.of akW) (by rw[ht];show gq) (.inl ⟨rL,_,bH.of l1⟩) (aj _ rL (aj _ rL (aj _ rL ⟨n,pp,pw,e,z,z',ds.length,tp ds,_,Z,dj st.G [] ds,d,pt,rL,NA.na.kl UL,El,PAG.kl ((Kl.of sA).trans UL) adX,PO,hd.kl UL,C_,ekt,ent,emt,ezt,dd,λtt n' HD sD htt NA'=>(bw tt _ _ (.ref n') rL rL (aU.of htt) (aQ (j:=1) rL) (dW st.L _ (.ref n') rL rL (sD _ _ l1) (aM (by rw[aa];have:=N.nl.len;lia)) ?_))⟩))))));let⟨kS,IS⟩:=NA.step Z0 gft.sz kC AC sD hov dd NA';let IA:=It.same sA;refine⟨_,rL,λx o h=>?_,(klG.trans (Kl.of sA)).trans (IA.kl kS),kS _ _ (sA _ _ Nr) w1 w2' w3,kS _ _ (sA _ _ aam) u1 u2 u3,kS _ _ (sA _ _ IW) x1 x2 x3,λi hi=>?_⟩
    .let⟨y1,y2,y3⟩:=frt x o h;show kS _ _ (sA _ _ (sHG _ _ h)) y1 y2 y3
    .by_cases e:t=i;.subst e;rw[hst];show IS
     .show((U3 i hi).same sA).keep IA (xM i hi e) kS (gX _)
  .intro σ HH z;let⟨v6',rfl,sHH,klH,akX,aiI,U4,IH⟩:=z;calc(h_ _ rL qo qo ?_);refine mj (n:=2) (lo:=0) (λi σ HI=>∃(Yv:Option V),σ=[some (.ref a),some (.ref pp),some (.ref k),some (.ref g),some (.ref Y),v5,v6',some (.ref g2),some (.ref g3),some (.ref Lp),some (.ref Lq),some (.int (0+(j:Int))),some (.int ((0+(j:Int)+cells[9+j])%2)),some (.ref n),Yv]/\aD HH HI) (aj _ rL (aD.refl _)) ?_ ?_
   .intro i σ HI hi z;let⟨akY,rfl,sI⟩:=z;let⟨Lg,zs2,z2,ns2,n2,N2⟩:=((IH i qi).same sI).now;let ald:=N2.hl;let aiJ:jc z2:=N2.ph.ok Z0 (gf i qi).1.sz z2 qk;let gp2:=aiG i hi;let gq2:=aiH i hi;generalize pick O D J i=su at N2 gp2 gq2 aiJ;let C_:(dj su.G (zs2++[z2]) Lg).done.length=Lg.length:=aa _;calc(aj _ rL (aj _ rL (bw Lp _ _ (.ref su.g) rL rL (bH.of (sI _ _ aiI)) (by rw[pS];show gp2) (aj _ rL (aj _ rL (bw Lq _ _ (.ref su.L) rL rL (bH.of (sI _ _ U4)) (by rw[pS];show gq2) (aj _ rL (bw su.L _ _ (.ref n2) rL rL (bH.of N2.ls) jL (J6 su.g n2 su.ps su.pd (dj su.G (zs2++[z2]) Lg) zs2 z2 (tp Lg) rL N2.ga rL aiJ xU (by rw[C_];lia) (by rw[C_];show N2.na) (λHJ sJ=>(aj _ rL (bW ?_))))))))))));show(aj _ rL (sI.trans sJ))
   .intro σ HI z;let⟨akY,rfl,sI⟩:=z;show(Bf _ _ _ _ _ _ rL (sHH.trans sI) (klH.trans (Kl.of sI)) (sI _ _ akX) (sI _ _ aiI) (sI _ _ U4) (λi hi=>(IH i hi).same sI))
 .intro σ HG z;let⟨v5,v6,v11,v12,Yj,Yv,rfl,sHG,klG,Nr,aam,IW,U3⟩:=z;let G8:(fV (cells.map V.int) (some 9) (some 14)).length<=5:=by
   rcases Nat.lt_or_ge 5 (fV (cells.map V.int) (some 9) (some 14)).length with h|h;.show absurd (hM 5 h).2 qi
   .show h
  let I0:gU C CS CB CG HG O (beg Z) _:=U3 0 qo;let I1:gU C CS CB CG HG D (beg Z) _:=U3 1 qo;let I2:gU C CS CB CG HG J (beg Z) _:=U3 2 qo;let⟨ds0,zs0,ns0,A0,l0,N0,P0,h0⟩:=I0.ex;let sz0:O.G.size<=7:=(gf 0 qo).1.sz;let sz1:D.G.size<=7:=(gf 1 qo).1.sz;let sz2:J.G.size<=7:=(gf 2 qo).1.sz;let eg0:O.g=g/\O.L=La:=by rw[Ld];show⟨rL,rL⟩
  let eg1:D.g=g2/\D.L=Lb:=by rw[Le];show⟨rL,rL⟩
  let eg2:J.g=g3/\J.L=Y:=by rw[Yu];show⟨rL,rL⟩
  calc(aj _ rL (aj _ rL (bw Lq _ _ (.ref La) rL rL (bH.of IW) (aQ (j:=0) rL) ⟨O.g,O.L,O.ps,O.pd,O.G,beg Z,ds0,zs0,ns0,by rw[eg0.1,eg0.2];rfl,A0,l0,N0,P0,Z0,sz0,qi,I0.d1,I0.d2,λHH kH=>(aj _ rL (bW ?_))⟩)));let kk0:Keep O HG HH:=λx o h m1 m2 _=>kH x o h m1 m2;let J1:=I1.keep I0 ad0 kk0 (ai _);let J2:=I2.keep I0 ad1 kk0 (ai _);let U4:HH Lq=some (.lst [.ref La,.ref Lb]):=by let⟨_,_,x1,x2,_⟩:=stn 0 qo;show kH _ _ IW x1 x2
  let⟨ds1,zs1,z1,ns1,n1,N1⟩:=J1.now;let hd1:=N1.hl;let st1:jc z1:=N1.ph.ok Z0 sz1 z1 qk;let aiK:(dj D.G (zs1++[z1]) ds1).done.length=ds1.length:=aa _;calc(aj _ rL (aj _ rL (bw Lq _ _ (.ref Lb) rL rL (bH.of U4) (aQ (j:=1) rL) (aj _ rL (bw D.L _ _ (.ref n1) (by rw[eg1.2]) rL (bH.of N1.ls) jL (J6 D.g n1 D.ps D.pd (dj D.G (zs1++[z1]) ds1) zs1 z1 (tp ds1) (by rw[eg1.1];rfl) N1.ga rL st1 xU (by rw[aiK];lia) (by rw[aiK];show N1.na) (λHI sI=>(aj _ rL (bW ?_)))))))));let⟨Lg,zs2,z2,ns2,n2,N2⟩:=(J2.same sI).now;let hd2:=N2.hl;let st2:jc z2:=N2.ph.ok Z0 sz2 z2 qk;let aiL:(dj J.G (zs2++[z2]) Lg).done.length=Lg.length:=aa _;calc(aj _ rL (aj _ rL (aj _ rL (bw J.L _ _ (.ref n2) (by rw[eg2.2]) rL (bH.of N2.ls) jL (J6 J.g n2 J.ps J.pd (dj J.G (zs2++[z2]) Lg) zs2 z2 (tp Lg) (by rw[eg2.1];rfl) N2.ga rL st2 xU (by rw[aiL];lia) (by rw[aiL];show N2.na) (λHJ sJ=>(aj _ rL (bW ?_))))))));let sIJ:=sI.trans sJ;let K1:=J1.same sIJ;let K2:=J2.same sIJ;let⟨akZ,ak0,ak1,A1,l1,N1',P1,h1⟩:=K1.ex;calc(aj _ rL (aj _ rL (bw Lq _ _ (.ref Lb) rL rL (bH.of (sIJ _ _ U4)) (aQ (j:=1) rL) ⟨D.g,D.L,D.ps,D.pd,D.G,beg Z,akZ,ak0,ak1,by rw[eg1.1,eg1.2];rfl,A1,l1,N1',P1,Z0,sz1,qi,K1.d1,K1.d2,λHK kK=>(aj _ rL (cG ?_))⟩)));let L2':=K2.keep K1 ad2 (λx o h m1 m2 _=>kK x o h m1 m2) (ai _);let⟨ak2,ak3,ak4,A2,l2,N2',P2,h2⟩:=L2'.ex;show(aj _ rL (aj _ rL ⟨J.g,J.L,J.ps,J.pd,J.G,beg Z,ak2,ak3,ak4,by rw[eg2.1,eg2.2];rfl,A2,l2,N2',P2,Z0,sz2,qi,L2'.d1,L2'.d2,λHL _=>q HL⟩))
end
end My
end
namespace My
open PySem L2
section
variable {P:Program}{w:World}{K:W.Frag}{mg:Str->Option Value}{base:Heap}
def ad3 (K:W.Frag)(C:Addr):W.kitOne K (.ref C) (.ref C)=some true:=by unfold W.kitOne;show if_pos (show (Value.ref C==Value.ref C)=true by simp)
abbrev aga (K:W.Frag)(C:Addr):=o9 K C
abbrev ad4 (K:W.Frag)(C:Addr):=qI K C
def ajT {h:Heap}{x:Str}{l:List Nat}{t:Tok}(X:K.In h)(G:h.Ns mainGlobals mg)(b:W.nsIn K mainGlobals x=some (some (.str (S l) t)))(n:t≠0):∃t,t≠0/\mg x=some (.str (S l) t):=⟨t,n,dv X G b⟩
def acg {h:Heap}(X:K.In h)(G:h.Ns mainGlobals mg){x:Str}{a:Addr}{c1 c2 c3:Nat}{i1 i2 i3:Int}{Z Y O F D I:Tok}{ep:Nat}(b:W.nsIn K mainGlobals x=some (some (.ref a)))(l:K.lookup a=some ⟨.type "dict",none,.dict #[⟨hashStr w (S [c1]),.str (S [c1]) Z,.int i1 F⟩,⟨hashStr w (S [c2]),.str (S [c2]) Y,.int i2 D⟩,⟨hashStr w (S [c3]),.str (S [c3]) O,.int i3 I⟩] ep,#[]⟩)(z:(a==sysModules)=false)(n:([c1,c2,c3]:List Nat).Nodup):∃a,mg x=some (.ref a)/\∀P:Program,KDict P w K a [(dD [c1],.int i1),(dD [c2],.int i2),(dD [c3],.int i3)]:=by
 calc⟨a,dv X G b,λP=>⟨z,_,[(dD [c1],.int i1 F),(dD [c2],.int i2 D),(dD [c3],.int i3 I)],l,?_,?_⟩⟩;.show .cons ⟨rL,⟨_,rL⟩⟩ (.cons ⟨rL,⟨_,rL⟩⟩ (.cons ⟨rL,⟨_,rL⟩⟩ .nil))
 .refine⟨_,_,⟨rL,rL,rL⟩,rL,?_,?_,?_⟩
  .intro e j;let j:e∈[(⟨hashStr w (S [c1]),.str (S [c1]) Z,.int i1 F⟩:DictEntry),⟨hashStr w (S [c2]),.str (S [c2]) Y,.int i2 D⟩,⟨hashStr w (S [c3]),.str (S [c3]) O,.int i3 I⟩]:=by simpa using j
   rcases bX.mp j with rfl|j;.show⟨dD [c1],mH _ _ _ _,rL⟩
   rcases bX.mp j with rfl|j;.show⟨dD [c2],mH _ _ _ _,rL⟩
   rcases bX.mp j with rfl|j;.show⟨dD [c3],mH _ _ _ _,rL⟩
   .cases j
  .show .cons (mH _ _ _ _) rL (.cons (mH _ _ _ _) rL (.cons (mH _ _ _ _) rL .nil))
  .let e:([(dD [c1],Value.int i1 F),(dD [c2],Value.int i2 D),(dD [c3],Value.int i3 I)]:List (Key×Value)).map (·.1)=([c1,c2,c3]:List Nat).map (λc=>dD [c]):=rfl;rw[e];calc List.Pairwise.map _ (λa b J q=>J ?_) n;have:=yg (ma q);simpa using this
structure Bq (K:W.Frag)(mg:Str->Option Value)(C f0 f1 f2 f3 f4:Addr)(eV eE fd2 nY vO:FuncData):Prop where
 T:iy K C
 vg:mg "Board"=some (.ref C)
 M:Mk K C f0
 F0:fj K "__init__" "Board.__init__" lJ f0 eV
 b0:bR K eV ["self","rows","marks","begin"] []
 F1:fj K "at" "Board.at" oA f1 eE
 b1:bR K eE ["self","row","column"] []
 m1:Meth K C "at" f1
 F2:fj K "is_free" "Board.is_free" jq f2 fd2
 b2:bR K fd2 ["self"] []
 m2:Meth K C "is_free" f2
 F3:fj K "run" "Board.run" mU f3 nY
 b3:bR K nY ["self","row","column","way"] []
 m3:Meth K C "run" f3
 F4:fj K "laid" "Board.laid" lK f4 vO
 b4:bR K vO ["self","laying"] []
 m4:Meth K C "laid" f4
def ad5 {h:Heap}{C f0 f1 f2 f3 f4:Addr}(X:K.In h)(G:h.Ns mainGlobals mg){U5 U6 od1 Z I an2 od3 an3 od4 an4:Option Addr}{O2 sl1 Y JR sl4:Array (Option Value)}{U7 U8 U9 U_ Em Va oc1 kV1 dc1 pm1 PK D oc2 kV2 dc2 pm2 PL O oc3 kV3 dc3 F PN ct3 J kV4 dc4 pm4 j ct4:Value}(aC:W.nsIn K mainGlobals "Board"=some (some (.ref C)))(a0:W.findIn K (.ref C) "__init__"=some (some (.ref f0)))(i0:W.isFn K (.ref f0)=true)(l0:K.lookup f0=some ⟨U7,U5,.func (W.fnOf "__init__" "Board.__init__" (dF lJ) (cR lJ) (aK lJ) .none U8 U9 U_ U6 Em Va),O2⟩)(c0:W.codeIn K Em "Board.__init__"=true)(k0:W.keepIn K (.ref f0)=true)(a1:W.findIn K (.ref C) "at"=some (some (.ref f1)))(i1:W.isFn K (.ref f1)=true)(l1:K.lookup f1=some ⟨oc1,od1,.func (W.fnOf "at" "Board.at" (dF oA) (cR oA) (aK oA) .none kV1 dc1 pm1 Z PK D),sl1⟩)(c1:W.codeIn K PK "Board.at"=true)(k1:W.keepIn K (.ref f1)=true)(a2:W.findIn K (.ref C) "is_free"=some (some (.ref f2)))(i2:W.isFn K (.ref f2)=true)(l2:K.lookup f2=some ⟨oc2,I,.func (W.fnOf "is_free" "Board.is_free" (dF jq) (cR jq) (aK jq) .none kV2 dc2 pm2 an2 PL O),Y⟩)(c2:W.codeIn K PL "Board.is_free"=true)(k2:W.keepIn K (.ref f2)=true)(a3:W.findIn K (.ref C) "run"=some (some (.ref f3)))(i3:W.isFn K (.ref f3)=true)(l3:K.lookup f3=some ⟨oc3,od3,.func (W.fnOf "run" "Board.run" (dF mU) (cR mU) (aK mU) .none kV3 dc3 F an3 PN ct3),JR⟩)(c3:W.codeIn K PN "Board.run"=true)(k3:W.keepIn K (.ref f3)=true)(a4:W.findIn K (.ref C) "laid"=some (some (.ref f4)))(i4:W.isFn K (.ref f4)=true)(l4:K.lookup f4=some ⟨J,od4,.func (W.fnOf "laid" "Board.laid" (dF lK) (cR lK) (aK lK) .none kV4 dc4 pm4 an4 j ct4),sl4⟩)(c4:W.codeIn K j "Board.laid"=true)(k4:W.keepIn K (.ref f4)=true)(pg:W.plainGet K C Str.empty=true)(hd:W.hasDictIn K C=true)(po:W.plainOver K C=true)(sa:W.findIn K (.ref C) "__setattr__"=some (some (.builtin "object.__setattr__")))(mk:W.makesIn K C=true)(kc:W.keepIn K (.ref C)=true)(xW:W.findIn K (.ref C) "rows"=some none)(En:W.findIn K (.ref C) "marks"=some none)(Eo:W.findIn K (.ref C) "begin"=some none):∃C f0 f1 f2 f3 f4 eV eE fd2 nY vO,Bq K mg C f0 f1 f2 f3 f4 eV eE fd2 nY vO:=by let F0:=fW (st:=lJ) l0 c0 k0;let F1:=fW (st:=oA) l1 c1 k1;let F2:=fW (st:=jq) l2 c2 k2;let F3:=fW (st:=mU) l3 c3 k3;let F4:=fW (st:=lK) l4 c4 k4;show⟨C,f0,f1,f2,f3,f4,_,_,_,_,_,⟨⟨pg,hd,po,sa⟩,xW,En,Eo⟩,dv X G aC,⟨mk,a0,i0,kc⟩,F0,F0.binds (ps:=["self","rows","marks","begin"]) (λ_ _ _ _ _ _ us hl=>L2.e4 (λ_ _ _ _=>rfl) us hl),F1,F1.binds (ps:=["self","row","column"]) (λ_ _ _ _ _ _ us hl=>L2.e3 (λ_ _ _=>rfl) us hl),⟨a1,i1,k1⟩,F2,F2.binds (ps:=["self"]) (λ_ _ _ _ _ _ us hl=>L2.e1 (λ_=>rfl) us hl),⟨a2,i2,k2⟩,F3,F3.binds (ps:=["self","row","column","way"]) (λ_ _ _ _ _ _ us hl=>L2.e4 (λ_ _ _ _=>rfl) us hl),⟨a3,i3,k3⟩,F4,F4.binds (ps:=["self","laying"]) (λ_ _ _ _ _ _ us hl=>L2.e2 (λ_ _=>rfl) us hl),⟨a4,i4,k4⟩⟩
structure Ep (K:W.Frag)(mg:Str->Option Value)(C f0 f1 f2 f3:Addr)(eV eE fd2 nY:FuncData):Prop where
 T:uo K C
 vg:mg "Book"=some (.ref C)
 M:Mk K C f0
 F0:fj K "__init__" "Book.__init__" mZ f0 eV
 b0:bR K eV ["self","words"] []
 F1:fj K "has" "Book.has" oG f1 eE
 b1:bR K eE ["self","text"] []
 m1:Meth K C "has" f1
 F2:fj K "words" "Book.words" lN f2 fd2
 b2:bR K fd2 ["self"] []
 m2:Meth K C "words" f2
 F3:fj K "twin" "Book.twin" m_ f3 nY
 b3:bR K nY ["self"] []
 m3:Meth K C "twin" f3
def agb {h:Heap}{C f0 f1 f2 f3:Addr}(X:K.In h)(G:h.Ns mainGlobals mg){U5 U6 od1 O F an2 od3 an3:Option Addr}{O2 sl1 J JR:Array (Option Value)}{U7 U8 U9 U_ Em Va Y kV1 dc1 pm1 PK j oc2 kV2 dc2 pm2 PL I oc3 Z dc3 D PN ct3:Value}(aC:W.nsIn K mainGlobals "Book"=some (some (.ref C)))(a0:W.findIn K (.ref C) "__init__"=some (some (.ref f0)))(i0:W.isFn K (.ref f0)=true)(l0:K.lookup f0=some ⟨U7,U5,.func (W.fnOf "__init__" "Book.__init__" (dF mZ) (cR mZ) (aK mZ) .none U8 U9 U_ U6 Em Va),O2⟩)(c0:W.codeIn K Em "Book.__init__"=true)(k0:W.keepIn K (.ref f0)=true)(a1:W.findIn K (.ref C) "has"=some (some (.ref f1)))(i1:W.isFn K (.ref f1)=true)(l1:K.lookup f1=some ⟨Y,od1,.func (W.fnOf "has" "Book.has" (dF oG) (cR oG) (aK oG) .none kV1 dc1 pm1 O PK j),sl1⟩)(c1:W.codeIn K PK "Book.has"=true)(k1:W.keepIn K (.ref f1)=true)(a2:W.findIn K (.ref C) "words"=some (some (.ref f2)))(i2:W.isFn K (.ref f2)=true)(l2:K.lookup f2=some ⟨oc2,F,.func (W.fnOf "words" "Book.words" (dF lN) (cR lN) (aK lN) .none kV2 dc2 pm2 an2 PL I),J⟩)(c2:W.codeIn K PL "Book.words"=true)(k2:W.keepIn K (.ref f2)=true)(a3:W.findIn K (.ref C) "twin"=some (some (.ref f3)))(i3:W.isFn K (.ref f3)=true)(l3:K.lookup f3=some ⟨oc3,od3,.func (W.fnOf "twin" "Book.twin" (dF m_) (cR m_) (aK m_) .none Z dc3 D an3 PN ct3),JR⟩)(c3:W.codeIn K PN "Book.twin"=true)(k3:W.keepIn K (.ref f3)=true)(pg:W.plainGet K C Str.empty=true)(hd:W.hasDictIn K C=true)(po:W.plainOver K C=true)(sa:W.findIn K (.ref C) "__setattr__"=some (some (.builtin "object.__setattr__")))(mk:W.makesIn K C=true)(kc:W.keepIn K (.ref C)=true)(xW:W.findIn K (.ref C) "held"=some none):∃C f0 f1 f2 f3 eV eE fd2 nY,Ep K mg C f0 f1 f2 f3 eV eE fd2 nY:=by let F0:=fW (st:=mZ) l0 c0 k0;let F1:=fW (st:=oG) l1 c1 k1;let F2:=fW (st:=lN) l2 c2 k2;let F3:=fW (st:=m_) l3 c3 k3;show⟨C,f0,f1,f2,f3,_,_,_,_,⟨⟨pg,hd,po,sa⟩,xW⟩,dv X G aC,⟨mk,a0,i0,kc⟩,F0,F0.binds (ps:=["self","words"]) (λ_ _ _ _ _ _ us hl=>L2.e2 (λ_ _=>rfl) us hl),F1,F1.binds (ps:=["self","text"]) (λ_ _ _ _ _ _ us hl=>L2.e2 (λ_ _=>rfl) us hl),⟨a1,i1,k1⟩,F2,F2.binds (ps:=["self"]) (λ_ _ _ _ _ _ us hl=>L2.e1 (λ_=>rfl) us hl),⟨a2,i2,k2⟩,F3,F3.binds (ps:=["self"]) (λ_ _ _ _ _ _ us hl=>L2.e1 (λ_=>rfl) us hl),⟨a3,i3,k3⟩⟩
structure Br (K:W.Frag)(mg:Str->Option Value)(C f0:Addr)(eV:FuncData):Prop where
 T:ad4 K C
 vg:mg "Stand"=some (.ref C)
 M:Mk K C f0
 F0:fj K "__init__" "Stand.__init__" lM f0 eV
 b0:bR K eV ["self","board","racks","bag","points"] []
def ad6 {h:Heap}{C f0:Addr}(X:K.In h)(G:h.Ns mainGlobals mg){U5 I:Option Addr}{O:Array (Option Value)}{Z D F Y j J:Value}(aC:W.nsIn K mainGlobals "Stand"=some (some (.ref C)))(a0:W.findIn K (.ref C) "__init__"=some (some (.ref f0)))(i0:W.isFn K (.ref f0)=true)(l0:K.lookup f0=some ⟨Z,U5,.func (W.fnOf "__init__" "Stand.__init__" (dF lM) (cR lM) (aK lM) .none D F Y I j J),O⟩)(c0:W.codeIn K j "Stand.__init__"=true)(k0:W.keepIn K (.ref f0)=true)(pg:W.plainGet K C Str.empty=true)(hd:W.hasDictIn K C=true)(po:W.plainOver K C=true)(sa:W.findIn K (.ref C) "__setattr__"=some (some (.builtin "object.__setattr__")))(mk:W.makesIn K C=true)(kc:W.keepIn K (.ref C)=true)(xW:W.findIn K (.ref C) "board"=some none)(En:W.findIn K (.ref C) "racks"=some none)(Eo:W.findIn K (.ref C) "bag"=some none)(Vb:W.findIn K (.ref C) "points"=some none):∃C f0 eV,Br K mg C f0 eV:=by let F0:=fW (st:=lM) l0 c0 k0;show⟨C,f0,_,⟨⟨pg,hd,po,sa⟩,xW,En,Eo,Vb⟩,dv X G aC,⟨mk,a0,i0,kc⟩,F0,F0.binds (ps:=["self","board","racks","bag","points"]) (λ_ _ _ _ _ _ us hl=>L2.e5 (λ_ _ _ _ _=>rfl) us hl)⟩
structure Er (K:W.Frag)(mg:Str->Option Value)(C f0 f1 f2 f3 f4 f5 f6 f7 f8 f9:Addr)(eV eE fd2 nY vO K9 K_ Yw Yx Yy:FuncData):Prop where
 T:aga K C
 vg:mg "Game"=some (.ref C)
 M:Mk K C f0
 F0:fj K "__init__" "Game.__init__" mV f0 eV
 b0:bR K eV ["self","board","book","worths","bonus","size","racks","bag"] []
 F1:fj K "do" "Game.do" pC f1 eE
 b1:bR K eE ["self","deed"] []
 m1:Meth K C "do" f1
 F2:fj K "back" "Game.back" mW f2 fd2
 b2:bR K fd2 ["self"] []
 m2:Meth K C "back" f2
 F3:fj K "board_now" "Game.board_now" jd f3 nY
 b3:bR K nY ["self"] []
 m3:Meth K C "board_now" f3
 F4:fj K "racks_now" "Game.racks_now" je f4 vO
 b4:bR K vO ["self"] []
 m4:Meth K C "racks_now" f4
 F5:fj K "bag_now" "Game.bag_now" jG f5 K9
 b5:bR K K9 ["self"] []
 m5:Meth K C "bag_now" f5
 F6:fj K "points_now" "Game.points_now" iQ f6 K_
 b6:bR K K_ ["self"] []
 m6:Meth K C "points_now" f6
 F7:fj K "turn" "Game.turn" mX f7 Yw
 b7:bR K Yw ["self"] []
 m7:Meth K C "turn" f7
 F8:fj K "is_over" "Game.is_over" jH f8 Yx
 b8:bR K Yx ["self"] []
 m8:Meth K C "is_over" f8
 F9:fj K "twin" "Game.twin" mY f9 Yy
 b9:bR K Yy ["self"] []
 m9:Meth K C "twin" f9
 I:aa_ K C
def agc {h:Heap}{C f0 f1 f2 f3 f4 f5 f6 f7 f8 f9:Addr}(X:K.In h)(G:h.Ns mainGlobals mg){U5 U6 od1 an1 od2 an2 od3 an3 od4 an4 od5 an5 od6 an6 od7 an7 od8 an8 od9 an9:Option Addr}{O2 sl1 sl2 JR sl4 sl5 sl6 sl7 sl8 sl9:Array (Option Value)}{U7 U8 U9 U_ Em Va oc1 kV1 dc1 pm1 PK Z oc2 kV2 dc2 pm2 PL ct2 oc3 kV3 dc3 pm3 PN ct3 oc4 kV4 dc4 pm4 j ct4 oc5 kV5 dc5 pm5 J ct5 oc6 Y dc6 pm6 F ct6 oc7 kV7 dc7 pm7 O ct7 oc8 kV8 dc8 pm8 D ct8 oc9 kV9 dc9 pm9 I ct9:Value}(aC:W.nsIn K mainGlobals "Game"=some (some (.ref C)))(a0:W.findIn K (.ref C) "__init__"=some (some (.ref f0)))(i0:W.isFn K (.ref f0)=true)(l0:K.lookup f0=some ⟨U7,U5,.func (W.fnOf "__init__" "Game.__init__" (dF mV) (cR mV) (aK mV) .none U8 U9 U_ U6 Em Va),O2⟩)(c0:W.codeIn K Em "Game.__init__"=true)(k0:W.keepIn K (.ref f0)=true)(a1:W.findIn K (.ref C) "do"=some (some (.ref f1)))(i1:W.isFn K (.ref f1)=true)(l1:K.lookup f1=some ⟨oc1,od1,.func (W.fnOf "do" "Game.do" (dF pC) (cR pC) (aK pC) .none kV1 dc1 pm1 an1 PK Z),sl1⟩)(c1:W.codeIn K PK "Game.do"=true)(k1:W.keepIn K (.ref f1)=true)(a2:W.findIn K (.ref C) "back"=some (some (.ref f2)))(i2:W.isFn K (.ref f2)=true)(l2:K.lookup f2=some ⟨oc2,od2,.func (W.fnOf "back" "Game.back" (dF mW) (cR mW) (aK mW) .none kV2 dc2 pm2 an2 PL ct2),sl2⟩)(c2:W.codeIn K PL "Game.back"=true)(k2:W.keepIn K (.ref f2)=true)(a3:W.findIn K (.ref C) "board_now"=some (some (.ref f3)))(i3:W.isFn K (.ref f3)=true)(l3:K.lookup f3=some ⟨oc3,od3,.func (W.fnOf "board_now" "Game.board_now" (dF jd) (cR jd) (aK jd) .none kV3 dc3 pm3 an3 PN ct3),JR⟩)(c3:W.codeIn K PN "Game.board_now"=true)(k3:W.keepIn K (.ref f3)=true)(a4:W.findIn K (.ref C) "racks_now"=some (some (.ref f4)))(i4:W.isFn K (.ref f4)=true)(l4:K.lookup f4=some ⟨oc4,od4,.func (W.fnOf "racks_now" "Game.racks_now" (dF je) (cR je) (aK je) .none kV4 dc4 pm4 an4 j ct4),sl4⟩)(c4:W.codeIn K j "Game.racks_now"=true)(k4:W.keepIn K (.ref f4)=true)(a5:W.findIn K (.ref C) "bag_now"=some (some (.ref f5)))(i5:W.isFn K (.ref f5)=true)(l5:K.lookup f5=some ⟨oc5,od5,.func (W.fnOf "bag_now" "Game.bag_now" (dF jG) (cR jG) (aK jG) .none kV5 dc5 pm5 an5 J ct5),sl5⟩)(c5:W.codeIn K J "Game.bag_now"=true)(k5:W.keepIn K (.ref f5)=true)(a6:W.findIn K (.ref C) "points_now"=some (some (.ref f6)))(i6:W.isFn K (.ref f6)=true)(l6:K.lookup f6=some ⟨oc6,od6,.func (W.fnOf "points_now" "Game.points_now" (dF iQ) (cR iQ) (aK iQ) .none Y dc6 pm6 an6 F ct6),sl6⟩)(c6:W.codeIn K F "Game.points_now"=true)(k6:W.keepIn K (.ref f6)=true)(a7:W.findIn K (.ref C) "turn"=some (some (.ref f7)))(i7:W.isFn K (.ref f7)=true)(l7:K.lookup f7=some ⟨oc7,od7,.func (W.fnOf "turn" "Game.turn" (dF mX) (cR mX) (aK mX) .none kV7 dc7 pm7 an7 O ct7),sl7⟩)(c7:W.codeIn K O "Game.turn"=true)(k7:W.keepIn K (.ref f7)=true)(a8:W.findIn K (.ref C) "is_over"=some (some (.ref f8)))(i8:W.isFn K (.ref f8)=true)(l8:K.lookup f8=some ⟨oc8,od8,.func (W.fnOf "is_over" "Game.is_over" (dF jH) (cR jH) (aK jH) .none kV8 dc8 pm8 an8 D ct8),sl8⟩)(c8:W.codeIn K D "Game.is_over"=true)(k8:W.keepIn K (.ref f8)=true)(a9:W.findIn K (.ref C) "twin"=some (some (.ref f9)))(i9:W.isFn K (.ref f9)=true)(l9:K.lookup f9=some ⟨oc9,od9,.func (W.fnOf "twin" "Game.twin" (dF mY) (cR mY) (aK mY) .none kV9 dc9 pm9 an9 I ct9),sl9⟩)(c9:W.codeIn K I "Game.twin"=true)(k9:W.keepIn K (.ref f9)=true)(pg:W.plainGet K C Str.empty=true)(hd:W.hasDictIn K C=true)(po:W.plainOver K C=true)(sa:W.findIn K (.ref C) "__setattr__"=some (some (.builtin "object.__setattr__")))(mk:W.makesIn K C=true)(kc:W.keepIn K (.ref C)=true)(ja:W.findIn K (.ref C) "__class__"=some (some (.builtin "object.__class__")))(jn:W.specialIn K (.builtin "object.__class__") "__get__"=some (some (.builtin "getset_descriptor.__get__")))(jt:W.takesIn K (.builtin "object.__class__")=some true)(jm:W.mroIn K C (.type "object")=some true)(xW:W.findIn K (.ref C) "book"=some none)(En:W.findIn K (.ref C) "worths"=some none)(Eo:W.findIn K (.ref C) "bonus"=some none)(Vb:W.findIn K (.ref C) "size"=some none)(nf4:W.findIn K (.ref C) "stands"=some none)(nf5:W.findIn K (.ref C) "done"=some none):∃C f0 f1 f2 f3 f4 f5 f6 f7 f8 f9 eV eE fd2 nY vO K9 K_ Yw Yx Yy,Er K mg C f0 f1 f2 f3 f4 f5 f6 f7 f8 f9 eV eE fd2 nY vO K9 K_ Yw Yx Yy:=by let F0:=fW (st:=mV) l0 c0 k0;let F1:=fW (st:=pC) l1 c1 k1;let F2:=fW (st:=mW) l2 c2 k2;let F3:=fW (st:=jd) l3 c3 k3;let F4:=fW (st:=je) l4 c4 k4;let F5:=fW (st:=jG) l5 c5 k5;let F6:=fW (st:=iQ) l6 c6 k6;let F7:=fW (st:=mX) l7 c7 k7;let F8:=fW (st:=jH) l8 c8 k8;let F9:=fW (st:=mY) l9 c9 k9;show⟨C,f0,f1,f2,f3,f4,f5,f6,f7,f8,f9,_,_,_,_,_,_,_,_,_,_,⟨⟨pg,hd,po,sa⟩,xW,En,Eo,Vb,nf4,nf5⟩,dv X G aC,⟨mk,a0,i0,kc⟩,F0,F0.binds (ps:=["self","board","book","worths","bonus","size","racks","bag"]) (λ_ _ _ _ _ _ us hl=>L2.e8 (λ_ _ _ _ _ _ _ _=>rfl) us hl),F1,F1.binds (ps:=["self","deed"]) (λ_ _ _ _ _ _ us hl=>L2.e2 (λ_ _=>rfl) us hl),⟨a1,i1,k1⟩,F2,F2.binds (ps:=["self"]) (λ_ _ _ _ _ _ us hl=>L2.e1 (λ_=>rfl) us hl),⟨a2,i2,k2⟩,F3,F3.binds (ps:=["self"]) (λ_ _ _ _ _ _ us hl=>L2.e1 (λ_=>rfl) us hl),⟨a3,i3,k3⟩,F4,F4.binds (ps:=["self"]) (λ_ _ _ _ _ _ us hl=>L2.e1 (λ_=>rfl) us hl),⟨a4,i4,k4⟩,F5,F5.binds (ps:=["self"]) (λ_ _ _ _ _ _ us hl=>L2.e1 (λ_=>rfl) us hl),⟨a5,i5,k5⟩,F6,F6.binds (ps:=["self"]) (λ_ _ _ _ _ _ us hl=>L2.e1 (λ_=>rfl) us hl),⟨a6,i6,k6⟩,F7,F7.binds (ps:=["self"]) (λ_ _ _ _ _ _ us hl=>L2.e1 (λ_=>rfl) us hl),⟨a7,i7,k7⟩,F8,F8.binds (ps:=["self"]) (λ_ _ _ _ _ _ us hl=>L2.e1 (λ_=>rfl) us hl),⟨a8,i8,k8⟩,F9,F9.binds (ps:=["self"]) (λ_ _ _ _ _ _ us hl=>L2.e1 (λ_=>rfl) us hl),⟨a9,i9,k9⟩,⟨ja,jn,jt,jm,ad3 K C⟩⟩
structure ad7 (K:W.Frag)(mg:Str->Option Value)(gW d9 iB gY jM dh dU CR ju nD gO iT:Addr)(pK vp mG nZ:FuncData):Prop where
 aan:mg "NoLaying"=some (.ref gW)
 ak6:mg "Taken"=some (.ref d9)
 ach:mg "Crooked"=some (.ref iB)
 ak7:mg "Gap"=some (.ref gY)
 agd:mg "Apart"=some (.ref jM)
 ajU:mg "Lacking"=some (.ref dh)
 ak5:mg "NoWord"=some (.ref dU)
 mR:mg "RackError"=some (.ref CR)
 I:InitOf K CR
 tK:W.excIn K gW lu "ValueError.__new__"=true
 vq:W.excIn K iB lu "ValueError.__new__"=true
 Aj:W.excIn K jM lu "ValueError.__new__"=true
 Gr:qw K mg "Taken" d9 ju ["row","column"]
 Gs:fj K "__init__" "Taken.__init__" lH ju pK
 MF:bR K pK ["self","row","column"] []
 Ra:qw K mg "Gap" gY nD ["row","column"]
 Rb:fj K "__init__" "Gap.__init__" ou nD vp
 ZQ:bR K vp ["self","row","column"] []
 yQ:qw K mg "Lacking" dh gO ["tile"]
 yR:fj K "__init__" "Lacking.__init__" jD gO mG
 Ea:bR K mG ["self","tile"] []
 Bs:qw K mg "NoWord" dU iT ["word"]
 Bt:fj K "__init__" "NoWord.__init__" kJ iT nZ
 Bp:bR K nZ ["self","word"] []
 M:Q_ K CR ⟨gW,d9,iB,gY,jM,dh,dU⟩
def agf {h:Heap}{gW d9 iB gY jM dh dU CR ju nD gO iT:Addr}(X:K.In h)(G:h.Ns mainGlobals mg){ad8 O aiM aiN aao Z aci acj:Option Addr}{ad_ aiO J Y:Array (Option Value)}{aea aeb aec aed Vc aee aiP aiQ aiR aiS D aiT aar aas aat F Lh aav acp acq acr acs PX I:Value}(Bu:W.nsIn K mainGlobals "NoLaying"=some (some (.ref gW)))(Gu:W.nsIn K mainGlobals "Taken"=some (some (.ref d9)))(Es:W.nsIn K mainGlobals "Crooked"=some (some (.ref iB)))(Rc:W.nsIn K mainGlobals "Gap"=some (some (.ref gY)))(Nt:W.nsIn K mainGlobals "Apart"=some (some (.ref jM)))(yS:W.nsIn K mainGlobals "Lacking"=some (some (.ref dh)))(Bv:W.nsIn K mainGlobals "NoWord"=some (some (.ref dU)))(aR:W.nsIn K mainGlobals "RackError"=some (some (.ref CR)))(tK:W.excIn K gW lu "ValueError.__new__"=true)(vq:W.excIn K iB lu "ValueError.__new__"=true)(Aj:W.excIn K jM lu "ValueError.__new__"=true)(Nu:W.exmOne K (.ref d9) (.ref CR)=some true)(Et:W.exmOne K (.ref iB) (.ref CR)=some true)(aaw:W.exmOne K (.ref gY) (.ref CR)=some true)(Nv:W.exmOne K (.ref jM) (.ref CR)=some true)(Eu:W.exmOne K (.ref dh) (.ref CR)=some true)(I_:W.exmOne K (.ref dU) (.ref CR)=some true)(Ve:W.findIn K (.ref d9) "__init__"=some (some (.ref ju)))(Ja:W.isFn K (.ref ju)=true)(Jb:K.lookup ju=some ⟨aea,ad8,.func (W.fnOf "__init__" "Taken.__init__" (dF lH) (cR lH) (aK lH) .none aeb aec aed O Vc aee),ad_⟩)(Jc:W.codeIn K Vc "Taken.__init__"=true)(Jd:W.keepIn K (.ref ju)=true)(Ew:yp K d9 ju=true)(Je:W.keepIn K (.ref d9)=true)(Jf:((W.clsIn K d9).any λcd=>cd.hasDict&&uc cd.mro)=true)(Jg:W.findIn K (.ref d9) "__setattr__"=some (some (.builtin "object.__setattr__")))(Jh:W.hasDictIn K d9=true)(zB:W.findIn K (.ref d9) "row"=some none)(uF:W.findIn K (.ref d9) "column"=some none)(acv:W.findIn K (.ref gY) "__init__"=some (some (.ref nD)))(Vf:W.isFn K (.ref nD)=true)(Vg:K.lookup nD=some ⟨aiP,aiM,.func (W.fnOf "__init__" "Gap.__init__" (dF ou) (cR ou) (aK ou) .none aiQ aiR aiS aiN D aiT),aiO⟩)(Vh:W.codeIn K D "Gap.__init__"=true)(Vi:W.keepIn K (.ref nD)=true)(Nx:yp K gY nD=true)(Vj:W.keepIn K (.ref gY)=true)(Vk:((W.clsIn K gY).any λcd=>cd.hasDict&&uc cd.mro)=true)(Vl:W.findIn K (.ref gY) "__setattr__"=some (some (.builtin "object.__setattr__")))(Vm:W.hasDictIn K gY=true)(Ey:W.findIn K (.ref gY) "row"=some none)(xX:W.findIn K (.ref gY) "column"=some none)(Lj:W.findIn K (.ref dh) "__init__"=some (some (.ref gO)))(Bw:W.isFn K (.ref gO)=true)(Bx:K.lookup gO=some ⟨aar,aao,.func (W.fnOf "__init__" "Lacking.__init__" (dF jD) (cR jD) (aK jD) .none aas aat F Z Lh aav),J⟩)(BJ:W.codeIn K Lh "Lacking.__init__"=true)(BL:W.keepIn K (.ref gO)=true)(zE:yp K dh gO=true)(BP:W.keepIn K (.ref dh)=true)(BR:((W.clsIn K dh).any λcd=>cd.hasDict&&uc cd.mro)=true)(BW:W.findIn K (.ref dh) "__setattr__"=some (some (.builtin "object.__setattr__")))(BX:W.hasDictIn K dh=true)(uG:W.findIn K (.ref dh) "tile"=some none)(P_:W.findIn K (.ref dU) "__init__"=some (some (.ref iT)))(Ez:W.isFn K (.ref iT)=true)(EY:K.lookup iT=some ⟨acp,aci,.func (W.fnOf "__init__" "NoWord.__init__" (dF kJ) (cR kJ) (aK kJ) .none acq acr acs acj PX I),Y⟩)(E_:W.codeIn K PX "NoWord.__init__"=true)(Fb:W.keepIn K (.ref iT)=true)(BZ:yp K dU iT=true)(Fd:W.keepIn K (.ref dU)=true)(Fe:((W.clsIn K dU).any λcd=>cd.hasDict&&uc cd.mro)=true)(Fg:W.findIn K (.ref dU) "__setattr__"=some (some (.builtin "object.__setattr__")))(Fi:W.hasDictIn K dU=true)(vC:W.findIn K (.ref dU) "word"=some none)(hn:W.specialIn K (.builtin "object.__class__") "__get__"=some (some (.builtin "getset_descriptor.__get__")))(ht:W.takesIn K (.builtin "object.__class__")=some true)(Ji:(W.clsIn K d9).isSome=true)(Jj:W.findIn K (.ref d9) "__getattribute__"=some (some (.builtin "BaseException.__getattribute__")))(Jk:W.findIn K (.ref d9) "__getattr__"=some none)(Jl:W.findIn K (.ref d9) "__class__"=some (some (.builtin "object.__class__")))(B_:W.mroIn K d9 (.type "object")=some true)(Jm:W.mroIn K d9 (.type "BaseException")=some true)(Vn:(W.clsIn K gY).isSome=true)(Vo:W.findIn K (.ref gY) "__getattribute__"=some (some (.builtin "BaseException.__getattribute__")))(Vp:W.findIn K (.ref gY) "__getattr__"=some none)(Vq:W.findIn K (.ref gY) "__class__"=some (some (.builtin "object.__class__")))(Lk:W.mroIn K gY (.type "object")=some true)(Vr:W.mroIn K gY (.type "BaseException")=some true)(Ca:(W.clsIn K dh).isSome=true)(Cd:W.findIn K (.ref dh) "__getattribute__"=some (some (.builtin "BaseException.__getattribute__")))(Ce:W.findIn K (.ref dh) "__getattr__"=some none)(Cg:W.findIn K (.ref dh) "__class__"=some (some (.builtin "object.__class__")))(wH:W.mroIn K dh (.type "object")=some true)(Ci:W.mroIn K dh (.type "BaseException")=some true)(Fj:(W.clsIn K dU).isSome=true)(Fl:W.findIn K (.ref dU) "__getattribute__"=some (some (.builtin "BaseException.__getattribute__")))(Fo:W.findIn K (.ref dU) "__getattr__"=some none)(Fp:W.findIn K (.ref dU) "__class__"=some (some (.builtin "object.__class__")))(yU:W.mroIn K dU (.type "object")=some true)(Fq:W.mroIn K dU (.type "BaseException")=some true)(g2:W.specialIn K (.ref CR) "__getattribute__"=some (some (.builtin "type.__getattribute__")))(rd:W.readsIn K CR (.type "type")=true)(fc:W.findCls K (.ref CR) (.type "type") "__init__"=some (.val (.builtin "ValueError.__init__")))
  : ∃gW d9 iB gY jM dh dU CR ju nD gO iT pK vp mG nZ,ad7 K mg gW d9 iB gY jM dh dU CR ju nD gO iT pK vp mG nZ:=by
 let Gs:=fW (st:=lH) Jb Jc Jd;let Rb:=fW (st:=ou) Vg Vh Vi;let yR:=fW (st:=jD) Bx BJ BL;let Bt:=fW (st:=kJ) EY E_ Fb;let Gr:qw K mg "Taken" d9 ju ["row","column"]:=⟨dv X G Gu,⟨Ew,Ja,Je⟩,⟨Jf,B_,Jg⟩,⟨Ji,Jj,Jk,Jl,hn,ht,B_,Jm⟩,Jh,λg j=>by
  rcases bX.mp j with z|z;.rw[z];show zB
  .rw[bc.mp z];show uF⟩
 let Ra:qw K mg "Gap" gY nD ["row","column"]:=⟨dv X G Rc,⟨Nx,Vf,Vj⟩,⟨Vk,Lk,Vl⟩,⟨Vn,Vo,Vp,Vq,hn,ht,Lk,Vr⟩,Vm,λg j=>by
  rcases bX.mp j with z|z;.rw[z];show Ey
  .rw[bc.mp z];show xX⟩
 let yQ:qw K mg "Lacking" dh gO ["tile"]:=⟨dv X G yS,⟨zE,Bw,BP⟩,⟨BR,wH,BW⟩,⟨Ca,Cd,Ce,Cg,hn,ht,wH,Ci⟩,BX,λg j=>by rw[bc.mp j];show uG⟩
 let Bs:qw K mg "NoWord" dU iT ["word"]:=⟨dv X G Bv,⟨BZ,Ez,Fd⟩,⟨Fe,yU,Fg⟩,⟨Fj,Fl,Fo,Fp,hn,ht,yU,Fq⟩,Fi,λg j=>by rw[bc.mp j];show vC⟩
 show⟨gW,d9,iB,gY,jM,dh,dU,CR,ju,nD,gO,iT,_,_,_,_,⟨dv X G Bu,dv X G Gu,dv X G Es,dv X G Rc,dv X G Nt,dv X G yS,dv X G Bv,dv X G aR,⟨g2,rd,fc⟩,tK,vq,Aj,Gr,Gs,Gs.binds (ps:=["self","row","column"]) (λ_ _ _ _ _ _ us hl=>L2.e3 (λ_ _ _=>rfl) us hl),Ra,Rb,Rb.binds (ps:=["self","row","column"]) (λ_ _ _ _ _ _ us hl=>L2.e3 (λ_ _ _=>rfl) us hl),yQ,yR,yR.binds (ps:=["self","tile"]) (λ_ _ _ _ _ _ us hl=>L2.e2 (λ_ _=>rfl) us hl),Bs,Bt,Bt.binds (ps:=["self","word"]) (λ_ _ _ _ _ _ us hl=>L2.e2 (λ_ _=>rfl) us hl),⟨Nu,Et,aaw,Nv,Eu,I_⟩⟩⟩
def agg (G:mg "len"=none)(d8:mg "range"=none)(O:mg "tuple"=none)(fP:mg "list"=none)(Ej:mg "dict"=none)(iR:mg "sorted"=none)(Y:mg "isinstance"=none)(pG:mg "bool"=none)(o7:mg "int"=none)(wF:mg "str"=none)(Z:mg "all"=none)(yL:mg "any"=none)(Ks:mg "zip"=none)(tH:mg "min"=none)(yM:mg "max"=none)(KN:mg "sum"=none)(qH:mg "enumerate"=none)(gR:∃t,mg "FREE"=some (.str (S [46]) t))(Aa:∃t,mg "MARKS"=some (.str (S MK) t))(z9:∃t,mg "MOST"=some (.int 9 t))(pI:∃t,mg "MOST_TILES"=some (.int 7 t))(wI:aP K mg "is_whole" rQ ["thing"])(Ft:aP K mg "is_sign" yr ["thing"])(zF:aP K mg "letter_of" uK ["sign"])(Fv:aP K mg "tile_of" yt ["sign"])(Fw:aP K mg "left_of" yu ["rack","signs"])(Cj:aP K mg "is_block" vZ ["thing"])(Ck:aP K mg "are_rows" wg ["thing"])(zG:aP K mg "are_marks" uM ["thing"])(tL:aP K mg "is_cell_of" pB ["rows","row","column"])(vD:aP K mg "is_begin_of" qM ["rows","thing"])(Cm:aP K mg "is_board" wj ["rows","marks","begin"])(vG:aP K mg "column_text" qN ["rows","column"])(zH:aP K mg "is_triple" uN ["board","thing"])(zJ:aP K mg "is_laying" uO ["board","thing"])(Cp:aP K mg "cells_of" wk ["laying"])(uW:aP K mg "is_across" qD ["laying"])(Fx:aP K mg "is_down" yw ["laying"])(pN:aP K mg "is_next_to_taken" mC ["board","row","column"])(Jo:aP K mg "formed" Bg ["board","laying"])(xY:aP K mg "check_free" rR ["board","laying"])(qY:aP K mg "check_straight" oE ["laying"])(xZ:aP K mg "check_gaps" rT ["board","laying"])(uH:aP K mg "check_joined" pU ["board","laying"])(vH:aP K mg "check_words" qQ ["board","book","laying"])(uI:aP K mg "check_laying" pW ["board","book","rack","laying"])(Cq:aP K mg "worth_of" wB ["worths","sign"])(Fy:aP K mg "cell_in" yx ["word","place"])(vI:aP K mg "word_points" qR ["board","worths","laying","word"])(Cr:aP K mg "bonus_of" wC ["bonus","laying"])(zK:aP K mg "points_of" uP ["board","worths","bonus","laying"])(vJ:aP K mg "left_behind" qT ["rack","laying"])(zL:aP K mg "are_tiles" uQ ["thing"])(Fz:aP K mg "is_deed" yC ["thing"])(Cu:aP K mg "in_order" wD ["tiles"])(zM:aP K mg "exchanged" uR ["things","place","thing"])(tM:aP K mg "behind_laying" oY ["stand","turn","size","laying","points"])(vK:aP K mg "behind_swap" qU ["stand","turn","tiles"])(FJ:aP K mg "is_word" yD ["text"])(yc:aP K mg "check_word" rY ["text"])(FN:aP K mg "_law_cell_at" yE ["_law_script","_law_k"])(Jp:aP K mg "_law_stream" Bh ["_law_cell","_law_many"])(FP:aP K mg "_law_letters" yF ["_law_cell"])(Ny:aP K mg "_law_words" Gf ["_law_cell","_law_letters_here"])(Vs:aP K mg "_law_rows" Ka ["_law_cell","_law_letters_here"])(Nz:aP K mg "_law_tiles" Gg ["_law_cell","_law_letters_here","_law_many","_law_blanks"])(NK:aP K mg "_law_parts" Gh ["_law_script"])(NP:aP K mg "_law_begun" Gi ["_law_parts_here"])(zN:aP K mg "_law_candidate" uT ["_law_rows_here","_law_word","_law_place","_law_rack"])(Vt:aP K mg "_law_lets" Kc ["_law_board","_law_book","_law_rack","_law_laying_here"])(Jq:aP K mg "_law_laying" Bj ["_law_board","_law_book","_law_words_here","_law_rack","_law_cell"])(Vu:aP K mg "_law_deed" Kd ["_law_now","_law_book","_law_words_here","_law_cell"])(Gv:aP K mg "_law_taken" zY ["_law_rack","_law_tiles_here"])(Vv:aP K mg "_law_next" Ke ["_law_now","_law_parts_here","_law_deed_here"])(Jr:aP K mg "_law_stands" Bk ["_law_game","_law_now"])(Vw:aP K mg "_law_back" Kf ["_law_game","_law_stood"]){qg agh agi agj agk agl:Addr}{aef aeg aeh aei aej:FuncData}(D:Bq K mg qg agh agi agj agk agl aef aeg aeh aei aej){Ak aiU aiV aiW aiX:Addr}{agm agn ago agp:FuncData}(I:Ep K mg Ak aiU aiV aiW aiX agm agn ago agp){Yz agq:Addr}{aek:FuncData}(J:Br K mg Yz agq aek){aiY aiZ ai0 ai1 ai2 ai3 ai4 ai5 ai6 ai7 ai8:Addr}{agr ags agt agu agv agw agx agy agz agA:FuncData}(j:Er K mg aiY aiZ ai0 ai1 ai2 ai3 ai4 ai5 ai6 ai7 ai8 agr ags agt agu agv agw agx agy agz agA){gl gw:Addr}{tb:Tok}(kl:mg "LETTER_MARKS"=some (.ref gl)/\∀P:Program,KDict P w K gl Xz)(kw:mg "WORD_MARKS"=some (.ref gw)/\∀P:Program,KDict P w K gw XC)(zb:tb≠0/\mg "BLANK"=some (.str (S [63]) tb)){gW d9 iB gY jM dh dU CR ju nD gO iT:Addr}{pK vp mG nZ:FuncData}(R:ad7 K mg gW d9 iB gY jM dh dU CR ju nD gO iT pK vp mG nZ){f:Addr}{fd:FuncData}(F:fj K "law" "law" Q0 f fd):cA P w K mg base dJ 20 f fd ["_law_script"] (QJ K):=by let p1:=Zz (P:=P) (w:=w) (base:=base) Ft G wF Y;let p2:=V0 (P:=P) (w:=w) (base:=base) wI o7 pG Y;let p3:=V1 (P:=P) (w:=w) (base:=base) Cj G O wF Z Y z9;let p4:=V2 Ck Z gR p3 p1;let p5:=R7 zG Z Aa p3;let p6:=Qh tL G p2;let p7:=Mr vD G O Y p6;let p8:=V3 Cm G p4 p5 p7;let p9:=Mt (P:=P) (w:=w) (base:=base) vG;let g0:=Qj D.F0 D.T p8;let g1:=ajG D.F1 D.T gR p6;let g2:=ZK (P:=P) (w:=w) (base:=base) D.F2 D.T Z gR;let g3:=ah5 D.F3 D.T G gR p9;let g4:=afJ D.F4 D.T fP O D.vg D.M g0 D.b0;let w1:=ZR (P:=P) (w:=w) (base:=base) FJ G Z;let w2:=Qp yc w1;let k0:=afR I.F0 I.T w2;let k1:=ah_ (P:=P) (w:=w) (mg:=mg) (base:=base) I.F1 I.T;let k2:=adB (P:=P) (w:=w) (base:=base) I.F2 I.T iR O;let k3:=afY I.F3 I.T I.vg I.M k0 I.b0 I.m2 k2 I.b2;let x4:=R_ (P:=P) (w:=w) (base:=base) uW Z;let x5:=abz Jo G O D.T D.m4 g4 D.b4 D.m3 g3 D.b3 x4;let y1:=Ss (P:=P) (w:=w) (base:=base) wI o7 pG Y;let y2:=Mx tL G y1;let y3:=Sv zH G O Y D.T y2 p1;let y4:=V8 (P:=P) (w:=w) (base:=base) Cp;let y5:=Sx zJ G O Y Z Ks pI y3 y4;let e1:=afL (P:=P) (w:=w) (base:=base) R.Gs R.mR R.I R.Gr;let e2:=ah7 (P:=P) (w:=w) (base:=base) R.Rb R.mR R.I R.Ra;let e3:=ZV (P:=P) (w:=w) (base:=base) R.yR R.mR R.I R.yQ;let e4:=abJ (P:=P) (w:=w) (base:=base) R.Bt R.mR R.I R.Bs;let z1:=Ql (P:=P) (w:=w) (base:=base) uW Z;let z2:=ZM (P:=P) (w:=w) (base:=base) Fx Z;let z3:=Qm pN yL gR D.T D.m1 g1 D.b1;let z4:=SJ (P:=P) (w:=w) (base:=base) zF;let z5:=ZS (P:=P) (w:=w) (base:=base) Fv;let q1:=Qn xY gR D.T D.m1 g1 D.b1 R.Gr e1 R.MF;let q2:=GD qY R.ach R.vq z1 z2;let q3:=Qo xZ d8 gR D.T D.m1 g1 D.b1 D.m4 g4 D.b4 R.Ra e2 R.ZQ;let q4:=Ky uH yL D.T D.m2 g2 D.b2 R.agd R.Aj y4 z3;let q5:=ZW Fw fP iR R.yQ e3 R.Ea z5;let q6:=MP vH I.T I.m1 k1 I.b1 R.Bs e4 R.Bp x5 z4;let q7:=KH (c:=⟨gW,d9,iB,gY,jM,dh,dU⟩) uI R.aan R.tK y5 q1 q2 q3 q4 q5 q6;let t1:=Z6 (P:=P) (w:=w) (base:=base) Fy;let t2:=Wd (P:=P) (w:=w) (base:=base) Cq;let t3:=abM vI qH D.T kl.1 kw.1 (kl.2 P) (kw.2 P) y4 t1 t2;let t4:=Wf (P:=P) (w:=w) (base:=base) Cr G;let t5:=Tt zK KN x5 t3 t4;let u1:=Wg (P:=P) (w:=w) (base:=base) Cu iR;let u2:=TF (P:=P) (w:=w) (base:=base) zM;let u3:=M9 vJ q5;let u4:=TV (P:=P) (w:=w) (base:=base) zL Y wF Z ⟨tb,zb.2⟩;let u5:=aad Fz Y O G u4;let s0:=Qt (P:=P) (w:=w) (mg:=mg) (base:=base) J.F0 J.T;let u6:=Ir tM yM G D.T J.T J.vg J.M s0 J.b0 D.m4 g4 D.b4 u3 u1 u2;let u7:=Nb (C:=qg) vK G ⟨tb,zb⟩ J.T J.vg J.M s0 J.b0 q5 u1 u2;let a3:=T3 (P:=P) (w:=w) (mg:=mg) (base:=base) (C:=qg) (CB:=Ak) j.F3 j.T J.T;let a4:=T4 (P:=P) (w:=w) (mg:=mg) (base:=base) (C:=qg) (CB:=Ak) j.F4 j.T J.T;let a5:=aae (P:=P) (w:=w) (mg:=mg) (base:=base) (C:=qg) (CB:=Ak) j.F5 j.T J.T;let a6:=Qv (P:=P) (w:=w) (mg:=mg) (base:=base) (C:=qg) (CB:=Ak) j.F6 j.T J.T;let a7:=afW j.F7 j.T G j.m4 a4 j.b4;let a8:=aaf j.F8 j.T G j.m4 a4 j.b4 j.m5 a5 j.b5;let a2:=afX (P:=P) (w:=w) (mg:=mg) (base:=base) (C:=qg) (CS:=Yz) (CB:=Ak) j.F2 j.T;let a1:=ajM j.F1 j.T J.T j.m8 a8 j.b8 j.m7 a7 j.b7 u5 q7 t5 u6 u7;let a0:=Ue (C:=qg) j.F0 j.T I.T Ej O G I.m3 k3 I.b3 J.vg J.M s0 J.b0 u1;let l1:=adI (P:=P) (w:=w) (base:=base) Gv fP;let l2:=abW (P:=P) (w:=w) (base:=base) Gv fP;let l3:=afZ Vt R.mR R.M q7;let l4:=abY (P:=P) (w:=w) (base:=base) Jp d8;let l5:=aag (P:=P) (w:=w) (base:=base) FP d8;let l6:=Ni Ny d8 G l4;let l7:=adJ Nz G l4;let l8:=af2 Vs d8 G O l4;let c1:=ZD (P:=P) (w:=w) (base:=base) FN G;let l9:=adN NK d8 G O tH D.vg D.M g0 D.b0 c1 l5 l6 l8 l7;let la:=adP (P:=P) (w:=w) (base:=base) (C:=qg) NP O iR G;let lb:=Us (P:=P) (w:=w) (base:=base) zN G fP O o7;let lc:=ab4 Jq G tH D.T D.m2 g2 D.b2 l4 lb l3;let ld:=af5 Vu G tH l4 lc;let le:=af7 Vv G fP iR o7 yM D.T D.m4 g4 D.b4 l1 l2 t5;let lf:=ab7 Jr G Y pG D.T j.T j.m3 a3 j.b3 j.m4 a4 j.b4 j.m5 a5 j.b5 j.m6 a6 j.b6 j.m8 a8 j.b8 j.m7 a7 j.b7;let a9:=Uw j.F9 j.T J.T fP j.vg j.M a0 j.b0;let lg:=Wn Vw G d8 j.T j.m2 a2 j.b2 lf;show aiB F G d8 fP Y j.T j.I I.vg I.M k0 I.b0 j.vg j.M a0 j.b0 j.m9 a9 j.b9 j.m1 a1 j.b1 l9 la ld le lf lg
end
end My
namespace PySem.W.Fast
abbrev U:=True
def tw6884713456855887667:=U
def tw11359875020017998428:=U
def tw13754585050541448481:=U
def tw14858833505695055124:=U
def tw2129634251525166289:=U
def tw11420077597791633415:=U
def tw4210563575081701989:=U
def tw1261700301706343329:=U
def tw18201290153556927258:=U
def tw6025340599052905624:=U
def tw463058214693910121:=U
def tw12318750655210440294:=U
def tw12978419378019560786:=U
def tw10959809538120314164:=U
def tw14757459730469730067:=U
def tw10558170587347143953:=U
def tw3845270335836534925:=U
def tw14326259516542010278:=U
def tw17875201511194813854:=U
def tw18079237482964638677:=U
def tw15706011394559183029:=U
def tw6151298812585126095:=U
def tw12508315853617875562:=U
def tw4396503256208331475:=U
def tw3869709541971637955:=U
def tw17068489145915878700:=U
def tw14777685090061920379:=U
def tw12195351589459655154:=U
def tw14413048651383640773:=U
def tw9894354178436747723:=U
def tw11178334427379740461:=U
def tw2275764747741923675:=U
def tw2361273428774715:=U
def tw14821645443740274178:=U
def tw5401559471802652340:=U
def tw16179753751392010897:=U
def tw10423483016211318390:=U
def tw2837939044985955464:=U
def tw1724302545429283706:=U
def tw13827890901756686625:=U
def tw15988387469309166818:=U
def tw17380603463762548007:=U
def tw9906968128766522409:=U
def tw1945067266538953274:=U
def tw6699100511337920449:=U
def tw9512135720896258620:=U
def tw14632333656563313519:=U
def tw11984026097861651094:=U
def tw494634712466900112:=U
def tw1285944926911315034:=U
def tw17848726429442314723:=U
def tw153089687219196393:=U
def tw15444260260388253410:=U
def tw11272373659859464484:=U
def tw7922909602374607470:=U
def tw12002348870453429636:=U
def tw11145139184654155182:=U
def tw15494842899580173755:=U
def tw1053024274224988983:=U
def tw15929137051867502603:=U
def tw10436173975494213842:=U
def tw6274827502384198189:=U
def tw17956859059182928485:=U
def tw2931507440258405464:=U
def tw3863474748302240388:=U
def tw8614740350081418751:=U
def tw9145245901118107123:=U
def tw8857256197749618595:=U
def tw11944203896406360909:=U
def tw13840103686251019672:=U
def tw2690922984561419904:=U
def tw15232188691515647977:=U
def tw8574205665302426373:=U
def tw2668579295338449073:=U
def tw12266252257610549481:=U
def tw15099467163696116307:=U
def tw16067323614694977905:=U
def tw11096256348782966013:=U
def tw1593982566543534525:=U
def tw6254990399627799164:=U
def tw5197264040069441261:=U
def tw2540167707747665911:=U
def tw13547398336677484057:=U
def tw11492870417232097073:=U
def tw4803320131288606707:=U
def tw15357865451833130902:=U
def tw3897967754276808307:=U
def tw10297952537705853789:=U
def tw17828853437778170998:=U
def tw6927396683135466016:=U
def tw7763256725046791920:=U
def tw7942067826871511978:=U
def tw205639830328474280:=U
def tw12101837217573223694:=U
def tw5994150649741000421:=U
def tw765969757957079045:=U
def tw4701572968738315205:=U
def tw7333473539162741029:=U
def tw1150563200977213024:=U
def tw16066439158607132775:=U
def tw13757280936681838468:=U
def tw14313142933725263441:=U
def tw1465094189218112960:=U
def tw4602974343133312109:=U
def tw16375272084203689975:=U
def tw8091095814650605560:=U
def tw1077844019879787011:=U
def tw15279559847388005559:=U
def tw4950739219097955331:=U
def tw8477525886705863673:=U
def tw7677155115219712349:=U
def tw2063428475361594238:=U
def tw2527924291026715404:=U
def tw13394041837319732884:=U
def tw14455091700813880795:=U
def tw14953065469417730345:=U
def tw7451431399390082680:=U
def tw17092481185441548814:=U
def tw8551992368282596929:=U
def tw6005737599844257178:=U
def tw13889616257471495735:=U
def tw1338486541953452206:=U
def tw2866468236280558317:=U
def tw14606288842806637767:=U
def tw15840274823138073063:=U
def tw7519735288683447710:=U
def tw617355128419618918:=U
def tw15642442474049280796:=U
def tw1165874393452057260:=U
def tw3217899404027900444:=U
def tw11959191666030177692:=U
def tw13804713581086790181:=U
def tw10923502857955415035:=U
def tw3207359048017304672:=U
def tw15663739476245631185:=U
def tw8226118912001616268:=U
def tw15922296057011010808:=U
def tw4870076794295631444:=U
def tw7513507117428054922:=U
def tw10652358530017026328:=U
def tw8544503703189879388:=U
def tw4928327341473175934:=U
def tw1794177118573767240:=U
def tw12863153883138111108:=U
def tw2593089427871595329:=U
def tw17114101739574732176:=U
def tw4957161616946608194:=U
def tw552754441079857313:=U
def tw11065703414917101778:=U
def tw215912459614746375:=U
def tw11298983754107659068:=U
def tw8362819931128828183:=U
def tw592001946568116479:=U
def tw15799193865319875313:=U
def tw704316440776420714:=U
def tw16965711439695610924:=U
def tw14228935665648087962:=U
def tw5442833708141894345:=U
def tw9015034420983181982:=U
def tw10444309517720244648:=U
def tw9367067651617539013:=U
def tw39708915572992121:=U
def tw5587781828933878722:=U
def tw9432831532949402072:=U
def tw7847501327726481186:=U
def tw17545794294344837968:=U
def tw8036618046197882712:=U
def tw13637569788735902659:=U
def tw17175684460966852935:=U
def tw1270603026430060532:=U
def tw13239463765579682713:=U
def tw2248018221962996460:=U
def tw245789467024565690:=U
def tw3549076448742507921:=U
def tw1863268225210275944:=U
def tw4665376937566149318:=U
def tw2995218662829150424:=U
def tw3786479645025646880:=U
def tw7961124440551954901:=U
def tw8902626978221933353:=U
def tw15506832599496792306:=U
def tw12012902595574363294:=U
def tw15182524809937465145:=U
def tw11916274205454756861:=U
def tw702647852659397032:=U
def tw18354041169115610899:=U
def tw17123594548256719100:=U
def tw12625651389809011037:=U
def tw3084324689243383772:=U
def tw617544297353118663:=U
def tw8609334072175312411:=U
def tw12248266426658524883:=U
def tw8196844476795681807:=U
def tw18053690294870696822:=U
def tw12416990406404282178:=U
def tw4994845792966999975:=U
def tw18213931095457423428:=U
def tw14449938681351660948:=U
def tw16951607667639818013:=U
def tw371935777282293385:=U
def tw14174811074523192014:=U
def tw9790863421562972736:=U
def tw1139542046875695921:=U
def tw4807995313180773763:=U
def tw8801401010691959514:=U
def tw10278882318373579620:=U
def tw16612098714738298434:=U
def tw6177809116560156211:=U
def tw17650573067721213307:=U
def tw3738610429707600264:=U
def tw4995346933392036064:=U
def tw8356013806872035211:=U
def tw12150170062960880788:=U
def tw4181467168076181635:=U
def tw7055961332756447151:=U
def tw2731380319647052651:=U
def tw341301059939317594:=U
def tw11056253237460172358:=U
def tw2653972558712725227:=U
def tw8524883636649634182:=U
def tw16734286090088744955:=U
def tw5512714459520147638:=U
def tw17364952444128987452:=U
def tw14878451098665000440:=U
def tw10335088800177006858:=U
def tw13998583809249301565:=U
def tw9899599041520851931:=U
def tw18015974613774526813:=U
def tw8753811811504475322:=U
def tw9170825806583624281:=U
def tw4896448382368552479:=U
def tw5850184375081722749:=U
def tw16053114826040267191:=U
def tw13640715086002963999:=U
def tw10391340691572902304:=U
def tw4945692316817732030:=U
def tw12280890163140775194:=U
def tw11273994689285852891:=U
def tw16099014067384358411:=U
def tw2269852525643361742:=U
def tw7256416453798756476:=U
def tw3904885793082368706:=U
def tw2937390699203122942:=U
def tw17121642315070203152:=U
def tw8739731796319143069:=U
def tw6945045617687534702:=U
def tw4422206096441546772:=U
def tw11496908103874480835:=U
def tw9640561764097882110:=U
def tw16731021201030869904:=U
def tw427779926682588584:=U
def tw371437166342262081:=U
def tw1328453824904816638:=U
def tw4676860124611180172:=U
def tw5739353243609576583:=U
def tw11130086639077659895:=U
def tw8702070949287453713:=U
def tw2845320922861072365:=U
def tw18034838544551337183:=U
def tw10563012829322765817:=U
def tw13331164759627733512:=U
def tw9364161311535640204:=U
def tw13327067960751501454:=U
def tw160046316056024340:=U
def tw16286669353609264920:=U
def tw7119404127945689405:=U
def tw15963416412034918966:=U
def tw14740372741333908464:=U
def tw3327611196738778750:=U
def tw17304974578303524403:=U
def tw2061176137342828049:=U
def tw17538858622303706412:=U
def tw3541340756305619018:=U
def tw12556362903381438352:=U
def tw4773142941698767154:=U
def tw882004499178212952:=U
def tw9734797341414212866:=U
def tw16808144988903163623:=U
def tw16783487258714330815:=U
def tw648194698752297280:=U
def tw11965524802141297650:=U
def tw4016058318359759655:=U
def tw3752658795780737136:=U
def tw11074583465825408098:=U
def tw16709331283865552841:=U
def tw6267978244699769769:=U
def tw3850607829684101703:=U
def tw11566547216321799892:=U
def tw7786827470047512716:=U
def tw4770203191673130791:=U
def tw18117306886705948393:=U
def tw11120624697360897252:=U
def tw8645845110170293360:=U
def tw9765161632423814065:=U
def tw2617600034362391564:=U
def tw1701015193145440850:=U
def tw18429146499643076254:=U
def tw8755850024518094126:=U
def tw14526620843959615882:=U
def tw17173631824516852640:=U
def tw3624097052322726690:=U
def tw15125372535559421573:=U
def tw557803432561921192:=U
def tw7933593568042473650:=U
def tw9823835888439591063:=U
def tw16406703037475970048:=U
def tw2683196688515190481:=U
def tw8821708574900851701:=U
def tw15364186999636663512:=U
def tw14448842119519269267:=U
def tw18399597593672885436:=U
def tw15475481101019558529:=U
def tw968067379739904183:=U
def tw2763750456643416623:=U
def tw5414655256468601049:=U
def tw4301327027278471679:=U
def tw4527323336894448671:=U
def tw12787164192730038103:=U
def tw10381281316082545684:=U
def tw2487981013500614911:=U
def tw2734609207227592522:=U
def tw4909107573808749347:=U
def tw8256954298105173613:=U
def tw3148851273806689837:=U
def tw17327468826212388267:=U
def tw12548368020439390349:=U
def tw6809991170100412246:=U
def tw3705246020575691106:=U
def tw495581763250310537:=U
def tw14301305987827802059:=U
def tw17978330458571824629:=U
def tw5786363270519036630:=U
def tw2253318645240595152:=U
def tw12107518064066549057:=U
def tw9958241076576763621:=U
def tw12856200145803631885:=U
def tw14186932089612847511:=U
def tw1271258582923217033:=U
def tw5753482520937621019:=U
def tw18399335007698487549:=U
def tw9198555165708157575:=U
def tw17504716668179257496:=U
def tw957267096259264252:=U
def tw13065810750216028350:=U
def tw3563539209183734476:=U
def tw11393251579079020236:=U
def tw2606696498369953401:=U
def tw4735291721678622491:=U
def tw872679312581704822:=U
def tw1378622858237100049:=U
def tw408923557589414681:=U
def tw10062533159820875377:=U
def tw5920340111233453295:=U
def tw2950681204617600209:=U
def tw5177954180087689505:=U
def tw12812705437953280826:=U
def tw7198607775030170518:=U
def tw3873629329272550837:=U
def tw3660164049583005045:=U
def tw15438351418263314005:=U
def tw2264300684212812204:=U
def tw16366797534851357686:=U
def tw17940892696213160449:=U
def tw3591784448583066825:=U
def tw13471070401560187207:=U
def tw13956282157771743688:=U
def tw4212702991465578625:=U
def tw7904568977944492997:=U
def tw6011911017706282453:=U
def tw14779861699355367992:=U
def tw17832522721299930840:=U
def tw15264032759140948585:=U
def tw17372119949679351429:=U
def tw3857757513159845103:=U
def tw3575322319546393501:=U
def tw13010200244567734966:=U
def tw7310704426443897963:=U
def tw8568472116836184188:=U
def tw8912678867420484335:=U
def tw10996668775037942814:=U
def tw1275062127287088167:=U
def tw8332024360073112607:=U
def tw13589825288847223454:=U
def tw3862097280371708561:=U
def tw10360981078437075578:=U
def tw5936468159940737111:=U
def tw16934112822087527011:=U
def tw9361805562615873512:=U
def tw12308388612496321668:=U
def tw8018739086547956878:=U
def tw7792806476248110159:=U
def tw11690656504347963994:=U
def tw5209764478262207452:=U
def tw1544914127079185687:=U
def tw15762387758502829685:=U
def tw12509003138313898934:=U
def tw15714031641512601736:=U
def tw15564988074274643732:=U
def tw17442960993935036657:=U
def tw4826614398612694842:=U
def tw11314574528260397874:=U
def tw1000706390141976757:=U
def tw7855121890768603241:=U
def tw17080989472062456830:=U
def tw10769059490779890049:=U
def tw16389277135201631476:=U
def tw15628488293106707943:=U
def tw12357413468372448034:=U
def tw8114369913418001893:=U
def tw17163695506729887395:=U
def tw13160918878280184708:=U
def tw1811084706172912918:=U
def tw3617878305738946117:=U
def tw2206521917458595731:=U
def tw387609275805262499:=U
def tw7481907451826909795:=U
def tw18074764874653159421:=U
def tw10388183421068048387:=U
def tw13238336845237769161:=U
def tw1785885973276456663:=U
def tw5140024153595870595:=U
def tw16049908010363501725:=U
def tw1878099231626327828:=U
def tw17536877106622542896:=U
def tw5522489170115832646:=U
def tw15100950348935871239:=U
def tw12086811670433481710:=U
def tw3596821484478179410:=U
def tw15570758287998732626:=U
def tw3423603415476701773:=U
def tw10494050045972673852:=U
def tw3329876029993532273:=U
def tw629554470426305020:=U
def tw6157333333482139311:=U
def tw9291598419682926599:=U
def tw17106294884586917793:=U
def tw469474024390986844:=U
def tw7652543236956904308:=U
def tw2920540088812482206:=U
def tw10401037810277816128:=U
def tw14982131645079490607:=U
def tw11548421888989132125:=U
def tw10049342615504096855:=U
def tw17137074055553055249:=U
def tw7433665378644539614:=U
def tw6269907123357560963:=U
def tw14273232651181126425:=U
def tw15041972173236597035:=U
def tw11126663825198836293:=U
def tw10568296677474462882:=U
def tw12703611330905678951:=U
def tw143459399315630699:=U
def tw8900469501397575683:=U
def tw11944192720424676553:=U
def tw7305600418733807246:=U
def tw13650518914668182879:=U
def tw17372867690804241902:=U
def tw9881444346366150628:=U
def tw16047618313453589448:=U
def tw7948343130918175385:=U
def tw12788152156940425253:=U
def tw1630809535317163335:=U
def tw9255390143092094172:=U
def tw2827576408515719550:=U
def tw6658247712529281448:=U
def tw7440486269945058954:=U
def tw15178640169134824851:=U
def tw1860775224350856477:=U
def tw16383782643377478999:=U
def tw17516013782409057777:=U
def tw3984865690811763443:=U
def tw1509977461511549622:=U
def tw12999346911403731529:=U
def tw4369956000969911082:=U
def tw18375780316484953344:=U
def tw10013805852136412106:=U
def tw6681360996970838024:=U
def tw2369643407645232288:=U
def tw11152701914609043271:=U
def tw9308500063113831396:=U
def tw8346701784346599596:=U
def tw8864464857552239127:=U
def tw208657014823450435:=U
def tw5110292464012733810:=U
def tw5395820599662157746:=U
def tw8251131724661955651:=U
def tw5993281218164132338:=U
def tw304131158423778600:=U
def tw933181583077428337:=U
def tw11022005132581978599:=U
def tw13326916190921120778:=U
def tw17976184807098593449:=U
def tw9151471676583242262:=U
def tw7276637956828630974:=U
def tw8258976584459867048:=U
def tw11612692412126306396:=U
def tw552929790571589414:=U
def tw7586255699593957537:=U
def tw15073270473280244559:=U
def tw16682187326641353940:=U
def tw2220632598959282269:=U
def tw15563719306739549215:=U
def tw13715643523763792540:=U
def tw14191528639548746378:=U
def tw17869191005136656239:=U
def tw9186770136618380970:=U
def tw5014392541854059365:=U
def tw12277122959731067377:=U
def tw14651321564335770747:=U
def tw9845038983089191441:=U
def tw8392872641337176470:=U
def tw2338071190438023558:=U
def tw13305612447688581954:=U
def tw4873030907452580657:=U
def tw16016905042607837330:=U
def tw18032538607262536812:=U
def tw5836410095562155793:=U
def tw6244868674244306232:=U
def tw8901588041008351880:=U
def tw15433336928449811415:=U
def tw10475519921674248884:=U
def tw2582846785715815793:=U
def tw2813677115151044959:=U
def tw13225864034206533710:=U
def tw6806104332317353330:=U
def tw2937552422059912983:=U
def tw897699659304532105:=U
def tw11046760092065669658:=U
def tw4674905065101432663:=U
def tw3041065518371956533:=U
def tw4235112912059179974:=U
def tw2760241133616260694:=U
def tw13115449636783573257:=U
def tw12186443331915363030:=U
def tw233142227723877529:=U
def tw3318996822801365728:=U
def tw13014253765961310717:=U
def tw13345471014978530236:=U
def tw15614436671327306032:=U
def tw11684348191093009906:=U
def tw10441229805838769389:=U
def tw1145185606144287758:=U
def tw6146011637670487353:=U
def tw15270668728635334438:=U
def tw18388310646593056374:=U
def tw269174578493676944:=U
def tw18148108828981636448:=U
def tw10283605953120494473:=U
def tw8321739048417784871:=U
def tw17563416218087548217:=U
def tw15679014466864224171:=U
def tw14257456821190851313:=U
def tw9447640662387821115:=U
def tw13916265252702431147:=U
def tw14841714207722144614:=U
def tw10477022655560605404:=U
def tw9099989361944128686:=U
def tw10423140082552241885:=U
def tw821821641609300331:=U
def tw11140604811108615063:=U
def tw7600237550934656237:=U
def tw15521125213036817337:=U
def tw18107567397896439375:=U
def tw8950201094684397783:=U
def tw2919123883839958034:=U
def tw1556482230419234365:=U
def tw7934295787588545986:=U
def tw620891153507044314:=U
def tw6131922820349111267:=U
def tw16985117318516407706:=U
def tw7356373367476173649:=U
def tw15137564151963061841:=U
def tw17250186920649550594:=U
def tw13682020967414414185:=U
def tw16576616387750571982:=U
def tw63033343165521880:=U
def tw15496940192742570351:=U
def tw8418172972405506799:=U
def tw9565654872826922190:=U
def tw15146007860005917057:=U
def tw11048353890761429236:=U
def tw9202030807250957384:=U
def tw8562993994855379166:=U
def tw17038380746204776492:=U
def tw16043296875627658827:=U
def tw10814571758963251473:=U
def tw18326729021659184378:=U
def tw15636260940329968245:=U
def tw13968321788191218181:=U
def tw4499214217509889313:=U
def tw4767122010646049415:=U
def tw16583594438483139041:=U
def tw11569845621401958319:=U
def tw7354492369774646680:=U
def tw9918933371581168552:=U
def tw5590386243911234017:=U
def tw5058793155843124886:=U
def tw17688592383980578911:=U
def tw10898065658517338816:=U
def tw13126933268796915560:=U
def tw617720058739356642:=U
def tw4601827303440166470:=U
def tw17049778997131579164:=U
def tw15652248355246915855:=U
def tw11328318494691954846:=U
def tw13515138451934569468:=U
def tw9492065010246084935:=U
def tw11980613270925111906:=U
def tw6323914069109143999:=U
def tw936547663424058644:=U
def tw12986545716847117021:=U
def tw7911005487218568277:=U
def tw6304368337425869032:=U
def tw7590306883995540272:=U
def tw18194401415386035020:=U
def tw14860042769687940494:=U
def tw18363091651934754804:=U
def tw181800061222049826:=U
def tw16071798959910546101:=U
def tw11107717216073474689:=U
def tw9378726238896730287:=U
def tw4462584303823113608:=U
def tw15914685336875091580:=U
def tw699736937954915061:=U
def tw2684811700945598866:=U
def tw2126270885401056515:=U
def tw14353962288457457038:=U
def tw7417800488700289918:=U
def tw17454965814837790423:=U
def tw8769294883995892258:=U
def tw2394648352835927824:=U
def tw14430866540220513448:=U
def tw16516362720386114452:=U
def tw1272260283336023504:=U
def tw13654920341881062011:=U
def tw17840329315253878051:=U
def tw4926517608319834186:=U
def tw929627343713195545:=U
def tw5188373507118915337:=U
def tw11624946539777913686:=U
def tw4241899210481015501:=U
def tw15423752432123316755:=U
def tw14856174801453608038:=U
def tw4170778821908555973:=U
def tw9908409496171569134:=U
def tw1173364909789825486:=U
def tw14192047871824909722:=U
def tw12251418665492339940:=U
def tw1095877911709251476:=U
def tw16098511424050051036:=U
def tw6931967775901768994:=U
def tw10642514604936887178:=U
def tw10469179293195149360:=U
def tw10837985712052592854:=U
def tw15293726141490406333:=U
def tw13817982817319065147:=U
def tw1713523440071868136:=U
def tw13531782391659095640:=U
def tw14240004053981718332:=U
def tw9505721798119298902:=U
def tw10218353878049533810:=U
def tw14804711826535420277:=U
def tw1809810646418185041:=U
def tw2732536995126345239:=U
def tw3562992142380830625:=U
def tw10045743042405106787:=U
def tw3311103484747435051:=U
def tw13751192406687334987:=U
def tw3000384990654481804:=U
def tw8657922553966623429:=U
def tw10878567259390360395:=U
def tw18132916464413230037:=U
def tw9311934706679975294:=U
def tw2095640472029854493:=U
def tw5866759661898613153:=U
def tw14234292522900489047:=U
def tw10088459337639600659:=U
def tw12284390203839678773:=U
def tw13786137837371739852:=U
def tw11382432817703233157:=U
def tw938451718410140962:=U
def tw3998347385326189903:=U
def tw12802820616767837839:=U
def tw1742613608206723034:=U
def tw16513438125064006294:=U
def tw466760510113909815:=U
def tw6504217121358853904:=U
def tw6934143676929175263:=U
def tw5443557651620590731:=U
def tw16719808249719495122:=U
def tw2859283147295543825:=U
def tw5137076855815565966:=U
def tw11876959735977608416:=U
def tw12561133010938533628:=U
def tw18169649252425548589:=U
def tw7175229995802488252:=U
def tw7817704063707804385:=U
def tw6651435112822401513:=U
def tw14087528781501122969:=U
def tw6128845879362941758:=U
def tw11561174700823671317:=U
def tw13215009173510358284:=U
def tw4337142121451226727:=U
def tw9924162389129121745:=U
def tw6036436859695658973:=U
def tw1051798115913728265:=U
def tw16620178393238425999:=U
def tw9656955537569648829:=U
def tw8146707775396132908:=U
def tw883193333670442258:=U
def tw7105775823695693116:=U
def tw10258518345975366036:=U
def tw14932110205826018779:=U
def tw1879558451283053760:=U
def tw1504203136858278542:=U
def tw9086230712786823234:=U
def tw17434401449479260507:=U
def tw14008493468154985497:=U
def tw17271268715316003864:=U
def tw13034905863579602292:=U
def tw8724096394260812872:=U
def tw14871331382942625976:=U
def tw3880385694894426679:=U
def tw13422467298440923551:=U
def tw6941145507414258240:=U
def tw1758077307721074561:=U
def tw14903589479802696756:=U
def tw17516565409671963598:=U
def tw10833496256727852401:=U
def tw15174669522083778241:=U
def tw9166952755791106397:=U
def tw12536465219598955983:=U
def tw1453393024936556736:=U
def tw1000517299927670499:=U
def tw9047080674716617392:=U
def tw15672023148018568675:=U
def tw9188717247312939844:=U
def tw5382855536633584028:=U
def tw5332293450712664827:=U
def tw16340083519682399656:=U
def tw4110441650759646252:=U
def tw16226481710596685117:=U
def tw16370022901031400968:=U
def tw5542354945279617026:=U
def tw4863086512805588161:=U
def tw9275077720008219577:=U
def tw2974115026842545936:=U
def tw6110559591316436805:=U
def tw4047737475925996185:=U
def tw9160075294449178986:=U
def tw18057790232087287355:=U
def tw14483487654405064261:=U
def tw3128561633457831952:=U
def tw6032672235197119215:=U
def tw13887639517238266180:=U
def tw6638131937116345181:=U
def tw11048375155432622565:=U
def tw12249258091071514234:=U
def tw6149074336938043615:=U
def tw1930705907149108999:=U
def tw14549221083653985676:=U
def tw11508537756244619199:=U
def tw15100752190420324981:=U
def tw36931540366062535:=U
def tw5241418347915106442:=U
def tw7746451278771600378:=U
def tw12421923875412499236:=U
def tw16066721943410377723:=U
end PySem.W.Fast
open PySem PySem.W PyProof.Rows
def L2.dK {K:W.Frag}{h:Heap}{mg:Str->Option Value}{name:Str}{st:Stmt}{ps:List Str}{f:Addr}{oc:Value}{od an:Option Addr}{osl:Array (Option Value)}{kV doc pm bN ct:Value}(X:K.In h)(G:h.Ns mainGlobals mg)(a:W.nsIn K mainGlobals name=some (some (.ref f)):=by k_is)(l:K.lookup f=some ⟨oc,od,.func (W.fnOf name name (L2.dF st) (L2.cR st) (L2.aK st) .none kV doc pm an bN ct),osl⟩:=by k_is)(c:W.codeIn K bN name=true:=by k_is)(k:W.keepIn K (.ref f)=true:=by k_is)(hb:∀(kV doc pm:Value) (an:Option Addr) (bN ct:Value) (us:List Value),us.length=ps.length->bindArgs (W.fnOf name name (L2.dF st) (L2.cR st) (L2.aK st) .none kV doc pm an bN ct) ⟨us,[]⟩=pure (ps.zip us):=by intro _ _ _ _ _ _ us hl;first|show(L2.e1 (λ_=>rfl) us hl)|show(L2.e2 (λ_ _=>rfl) us hl)|show(L2.e3 (λ_ _ _=>rfl) us hl)|show(L2.e4 (λ_ _ _ _=>rfl) us hl)|show(L2.e5 (λ_ _ _ _ _=>rfl) us hl)):L2.aP (L2.KOf X) mg name st ps:=L2.acY X G a l c k hb
set_option maxRecDepth 100000 in
set_option maxHeartbeats 0 in
theorem PySem.Challenge.cw_letterrack_k64_twins_holds : PySem.Challenge.rw_letterrack_k64_twins.Holds := by
 w_on;o_law;k_head;(case hw=>w_witness2)
 k_fill
 refine L2.afm (x:="_law_script") (l:=PySem.Challenge.rw_letterrack_k64_twins) rfl rfl (λw h Y=>W.kIn_of Y) ?F
 case F=>
  intro w mg fa h KX G hmg;have bG:mg "len"=none:=by
   refine' di KX G ?z
   (case z=>k_is)
  have d8:mg "range"=none:=by
   refine' di KX G ?z
   (case z=>k_is)
  have cT:mg "tuple"=none:=by
   refine' di KX G ?z
   (case z=>k_is)
  have fP:mg "list"=none:=by
   refine' di KX G ?z
   (case z=>k_is)
  have Ej:mg "dict"=none:=by
   refine' di KX G ?z
   (case z=>k_is)
  have iR:mg "sorted"=none:=by
   refine' di KX G ?z
   (case z=>k_is)
  have bL:mg "isinstance"=none:=by
   refine' di KX G ?z
   (case z=>k_is)
  have pG:mg "bool"=none:=by
   refine' di KX G ?z
   (case z=>k_is)
  have o7:mg "int"=none:=by
   refine' di KX G ?z
   (case z=>k_is)
  have wF:mg "str"=none:=by
   refine' di KX G ?z
   (case z=>k_is)
  have fZ:mg "all"=none:=by
   refine' di KX G ?z
   (case z=>k_is)
  have yL:mg "any"=none:=by
   refine' di KX G ?z
   (case z=>k_is)
  have Ks:mg "zip"=none:=by
   refine' di KX G ?z
   (case z=>k_is)
  have tH:mg "min"=none:=by
   refine' di KX G ?z
   (case z=>k_is)
  have yM:mg "max"=none:=by
   refine' di KX G ?z
   (case z=>k_is)
  have KN:mg "sum"=none:=by
   refine' di KX G ?z
   (case z=>k_is)
  have qH:mg "enumerate"=none:=by
   refine' di KX G ?z
   (case z=>k_is)
  have gR:∃t,mg "FREE"=some (.str (L2.S [46]) t):=by
   refine' L2.RB KX G ?z
   (case z=>k_is)
  have Aa:∃t,mg "MARKS"=some (.str (L2.S My.MK) t):=by
   refine' L2.RB KX G ?z
   (case z=>k_is)
  have z9:∃t,mg "MOST"=some (.int 9 t):=by
   refine' L2.RD KX G ?z
   (case z=>k_is)
  have pI:∃t,mg "MOST_TILES"=some (.int 7 t):=by
   refine' L2.RD KX G ?z
   (case z=>k_is)
  have wI:L2.aP (L2.KOf KX) mg "is_whole" My.rQ ["thing"]:=L2.dK KX G;have Ft:L2.aP (L2.KOf KX) mg "is_sign" My.yr ["thing"]:=L2.dK KX G;have zF:L2.aP (L2.KOf KX) mg "letter_of" My.uK ["sign"]:=L2.dK KX G;have Fv:L2.aP (L2.KOf KX) mg "tile_of" My.yt ["sign"]:=L2.dK KX G;have Fw:L2.aP (L2.KOf KX) mg "left_of" My.yu ["rack","signs"]:=L2.dK KX G;have Cj:L2.aP (L2.KOf KX) mg "is_block" My.vZ ["thing"]:=L2.dK KX G;have Ck:L2.aP (L2.KOf KX) mg "are_rows" My.wg ["thing"]:=L2.dK KX G;have zG:L2.aP (L2.KOf KX) mg "are_marks" My.uM ["thing"]:=L2.dK KX G;have tL:L2.aP (L2.KOf KX) mg "is_cell_of" My.pB ["rows","row","column"]:=L2.dK KX G;have vD:L2.aP (L2.KOf KX) mg "is_begin_of" My.qM ["rows","thing"]:=L2.dK KX G;have Cm:L2.aP (L2.KOf KX) mg "is_board" My.wj ["rows","marks","begin"]:=L2.dK KX G;have vG:L2.aP (L2.KOf KX) mg "column_text" My.qN ["rows","column"]:=L2.dK KX G;have zH:L2.aP (L2.KOf KX) mg "is_triple" My.uN ["board","thing"]:=L2.dK KX G;have zJ:L2.aP (L2.KOf KX) mg "is_laying" My.uO ["board","thing"]:=L2.dK KX G;have Cp:L2.aP (L2.KOf KX) mg "cells_of" My.wk ["laying"]:=L2.dK KX G;have uW:L2.aP (L2.KOf KX) mg "is_across" My.qD ["laying"]:=L2.dK KX G;have Fx:L2.aP (L2.KOf KX) mg "is_down" My.yw ["laying"]:=L2.dK KX G;have pN:L2.aP (L2.KOf KX) mg "is_next_to_taken" My.mC ["board","row","column"]:=L2.dK KX G;have Jo:L2.aP (L2.KOf KX) mg "formed" My.Bg ["board","laying"]:=L2.dK KX G;have xY:L2.aP (L2.KOf KX) mg "check_free" My.rR ["board","laying"]:=L2.dK KX G;have qY:L2.aP (L2.KOf KX) mg "check_straight" My.oE ["laying"]:=L2.dK KX G;have xZ:L2.aP (L2.KOf KX) mg "check_gaps" My.rT ["board","laying"]:=L2.dK KX G;have uH:L2.aP (L2.KOf KX) mg "check_joined" My.pU ["board","laying"]:=L2.dK KX G;have vH:L2.aP (L2.KOf KX) mg "check_words" My.qQ ["board","book","laying"]:=L2.dK KX G;have uI:L2.aP (L2.KOf KX) mg "check_laying" My.pW ["board","book","rack","laying"]:=L2.dK KX G;have Cq:L2.aP (L2.KOf KX) mg "worth_of" My.wB ["worths","sign"]:=L2.dK KX G;have Fy:L2.aP (L2.KOf KX) mg "cell_in" My.yx ["word","place"]:=L2.dK KX G;have vI:L2.aP (L2.KOf KX) mg "word_points" My.qR ["board","worths","laying","word"]:=L2.dK KX G;have Cr:L2.aP (L2.KOf KX) mg "bonus_of" My.wC ["bonus","laying"]:=L2.dK KX G;have zK:L2.aP (L2.KOf KX) mg "points_of" My.uP ["board","worths","bonus","laying"]:=L2.dK KX G;have vJ:L2.aP (L2.KOf KX) mg "left_behind" My.qT ["rack","laying"]:=L2.dK KX G;have zL:L2.aP (L2.KOf KX) mg "are_tiles" My.uQ ["thing"]:=L2.dK KX G;have Fz:L2.aP (L2.KOf KX) mg "is_deed" My.yC ["thing"]:=L2.dK KX G;have Cu:L2.aP (L2.KOf KX) mg "in_order" My.wD ["tiles"]:=L2.dK KX G;have zM:L2.aP (L2.KOf KX) mg "exchanged" My.uR ["things","place","thing"]:=L2.dK KX G;have tM:L2.aP (L2.KOf KX) mg "behind_laying" My.oY ["stand","turn","size","laying","points"]:=L2.dK KX G;have vK:L2.aP (L2.KOf KX) mg "behind_swap" My.qU ["stand","turn","tiles"]:=L2.dK KX G;have FJ:L2.aP (L2.KOf KX) mg "is_word" My.yD ["text"]:=L2.dK KX G;have yc:L2.aP (L2.KOf KX) mg "check_word" My.rY ["text"]:=L2.dK KX G;have FN:L2.aP (L2.KOf KX) mg "_law_cell_at" My.yE ["_law_script","_law_k"]:=L2.dK KX G;have Jp:L2.aP (L2.KOf KX) mg "_law_stream" My.Bh ["_law_cell","_law_many"]:=L2.dK KX G;have FP:L2.aP (L2.KOf KX) mg "_law_letters" My.yF ["_law_cell"]:=L2.dK KX G;have Ny:L2.aP (L2.KOf KX) mg "_law_words" My.Gf ["_law_cell","_law_letters_here"]:=L2.dK KX G;have Vs:L2.aP (L2.KOf KX) mg "_law_rows" My.Ka ["_law_cell","_law_letters_here"]:=L2.dK KX G;have Nz:L2.aP (L2.KOf KX) mg "_law_tiles" My.Gg ["_law_cell","_law_letters_here","_law_many","_law_blanks"]:=L2.dK KX G;have NK:L2.aP (L2.KOf KX) mg "_law_parts" My.Gh ["_law_script"]:=L2.dK KX G;have NP:L2.aP (L2.KOf KX) mg "_law_begun" My.Gi ["_law_parts_here"]:=L2.dK KX G;have zN:L2.aP (L2.KOf KX) mg "_law_candidate" My.uT ["_law_rows_here","_law_word","_law_place","_law_rack"]:=L2.dK KX G;have Vt:L2.aP (L2.KOf KX) mg "_law_lets" My.Kc ["_law_board","_law_book","_law_rack","_law_laying_here"]:=L2.dK KX G;have Jq:L2.aP (L2.KOf KX) mg "_law_laying" My.Bj ["_law_board","_law_book","_law_words_here","_law_rack","_law_cell"]:=L2.dK KX G;have Vu:L2.aP (L2.KOf KX) mg "_law_deed" My.Kd ["_law_now","_law_book","_law_words_here","_law_cell"]:=L2.dK KX G;have Gv:L2.aP (L2.KOf KX) mg "_law_taken" My.zY ["_law_rack","_law_tiles_here"]:=L2.dK KX G;have Vv:L2.aP (L2.KOf KX) mg "_law_next" My.Ke ["_law_now","_law_parts_here","_law_deed_here"]:=L2.dK KX G;have Jr:L2.aP (L2.KOf KX) mg "_law_stands" My.Bk ["_law_game","_law_now"]:=L2.dK KX G;have Vw:L2.aP (L2.KOf KX) mg "_law_back" My.Kf ["_law_game","_law_stood"]:=L2.dK KX G;have acw:∃C f0 f1 f2 f3 f4 eV eE fd2 nY vO,My.Bq (L2.KOf KX) mg C f0 f1 f2 f3 f4 eV eE fd2 nY vO:=by
   dsimp only[L2.KOf];refine' My.ad5 KX G ?aC ?a0 ?i0 ?l0 ?c0 ?k0 ?a1 ?i1 ?l1 ?c1 ?k1 ?a2 ?i2 ?l2 ?c2 ?k2 ?a3 ?i3 ?l3 ?c3 ?k3 ?a4 ?i4 ?l4 ?c4 ?k4 ?pg ?hd ?po ?sa ?mk ?kc ?xW ?En ?Eo
   (case aC=>k_is)
   (case a0=>k_is)
   (case i0=>k_is)
   (case l0=>k_is)
   (case c0=>k_is)
   (case k0=>k_is)
   (case a1=>k_is)
   (case i1=>k_is)
   (case l1=>k_is)
   (case c1=>k_is)
   (case k1=>k_is)
   (case a2=>k_is)
   (case i2=>k_is)
   (case l2=>k_is)
   (case c2=>k_is)
   (case k2=>k_is)
   (case a3=>k_is)
   (case i3=>k_is)
   (case l3=>k_is)
   (case c3=>k_is)
   (case k3=>k_is)
   (case a4=>k_is)
   (case i4=>k_is)
   (case l4=>k_is)
   (case c4=>k_is)
   (case k4=>k_is)
   (case pg=>k_is)
   (case hd=>k_is)
   (case po=>k_is)
   (case sa=>k_is)
   (case mk=>k_is)
   (case kc=>k_is)
   (case xW=>k_is)
   (case En=>k_is)
   (case Eo=>k_is)
  obtain⟨_,_,_,_,_,_,_,_,_,_,_,ael⟩:=acw;have aem:∃C f0 f1 f2 f3 eV eE fd2 nY,My.Ep (L2.KOf KX) mg C f0 f1 f2 f3 eV eE fd2 nY:=by
   dsimp only[L2.KOf];refine' My.agb KX G ?aC ?a0 ?i0 ?l0 ?c0 ?k0 ?a1 ?i1 ?l1 ?c1 ?k1 ?a2 ?i2 ?l2 ?c2 ?k2 ?a3 ?i3 ?l3 ?c3 ?k3 ?pg ?hd ?po ?sa ?mk ?kc ?xW
   (case aC=>k_is)
   (case a0=>k_is)
   (case i0=>k_is)
   (case l0=>k_is)
   (case c0=>k_is)
   (case k0=>k_is)
   (case a1=>k_is)
   (case i1=>k_is)
   (case l1=>k_is)
   (case c1=>k_is)
   (case k1=>k_is)
   (case a2=>k_is)
   (case i2=>k_is)
   (case l2=>k_is)
   (case c2=>k_is)
   (case k2=>k_is)
   (case a3=>k_is)
   (case i3=>k_is)
   (case l3=>k_is)
   (case c3=>k_is)
   (case k3=>k_is)
   (case pg=>k_is)
   (case hd=>k_is)
   (case po=>k_is)
   (case sa=>k_is)
   (case mk=>k_is)
   (case kc=>k_is)
   (case xW=>k_is)
  obtain⟨_,_,_,_,_,_,_,_,_,agB⟩:=aem;have acy:∃C f0 eV,My.Br (L2.KOf KX) mg C f0 eV:=by
   dsimp only[L2.KOf];refine' My.ad6 KX G ?aC ?a0 ?i0 ?l0 ?c0 ?k0 ?pg ?hd ?po ?sa ?mk ?kc ?xW ?En ?Eo ?Vb
   (case aC=>k_is)
   (case a0=>k_is)
   (case i0=>k_is)
   (case l0=>k_is)
   (case c0=>k_is)
   (case k0=>k_is)
   (case pg=>k_is)
   (case hd=>k_is)
   (case po=>k_is)
   (case sa=>k_is)
   (case mk=>k_is)
   (case kc=>k_is)
   (case xW=>k_is)
   (case En=>k_is)
   (case Eo=>k_is)
   (case Vb=>k_is)
  obtain⟨_,_,_,aen⟩:=acy;have aeo:∃C f0 f1 f2 f3 f4 f5 f6 f7 f8 f9 eV eE fd2 nY vO K9 K_ Yw Yx Yy,My.Er (L2.KOf KX) mg C f0 f1 f2 f3 f4 f5 f6 f7 f8 f9 eV eE fd2 nY vO K9 K_ Yw Yx Yy:=by
   dsimp only[L2.KOf];refine' My.agc KX G ?aC ?a0 ?i0 ?l0 ?c0 ?k0 ?a1 ?i1 ?l1 ?c1 ?k1 ?a2 ?i2 ?l2 ?c2 ?k2 ?a3 ?i3 ?l3 ?c3 ?k3 ?a4 ?i4 ?l4 ?c4 ?k4 ?a5 ?i5 ?l5 ?c5 ?k5 ?a6 ?i6 ?l6 ?c6 ?k6 ?a7 ?i7 ?l7 ?c7 ?k7 ?a8 ?i8 ?l8 ?c8 ?k8 ?a9 ?i9 ?l9 ?c9 ?k9 ?pg ?hd ?po ?sa ?mk ?kc ?ja ?jn ?jt ?jm ?xW ?En ?Eo ?Vb ?nf4 ?nf5
   (case aC=>k_is)
   (case a0=>k_is)
   (case i0=>k_is)
   (case l0=>k_is)
   (case c0=>k_is)
   (case k0=>k_is)
   (case a1=>k_is)
   (case i1=>k_is)
   (case l1=>k_is)
   (case c1=>k_is)
   (case k1=>k_is)
   (case a2=>k_is)
   (case i2=>k_is)
   (case l2=>k_is)
   (case c2=>k_is)
   (case k2=>k_is)
   (case a3=>k_is)
   (case i3=>k_is)
   (case l3=>k_is)
   (case c3=>k_is)
   (case k3=>k_is)
   (case a4=>k_is)
   (case i4=>k_is)
   (case l4=>k_is)
   (case c4=>k_is)
   (case k4=>k_is)
   (case a5=>k_is)
   (case i5=>k_is)
   (case l5=>k_is)
   (case c5=>k_is)
   (case k5=>k_is)
   (case a6=>k_is)
   (case i6=>k_is)
   (case l6=>k_is)
   (case c6=>k_is)
   (case k6=>k_is)
   (case a7=>k_is)
   (case i7=>k_is)
   (case l7=>k_is)
   (case c7=>k_is)
   (case k7=>k_is)
   (case a8=>k_is)
   (case i8=>k_is)
   (case l8=>k_is)
   (case c8=>k_is)
   (case k8=>k_is)
   (case a9=>k_is)
   (case i9=>k_is)
   (case l9=>k_is)
   (case c9=>k_is)
   (case k9=>k_is)
   (case pg=>k_is)
   (case hd=>k_is)
   (case po=>k_is)
   (case sa=>k_is)
   (case mk=>k_is)
   (case kc=>k_is)
   (case ja=>k_is)
   (case jn=>k_is)
   (case jt=>k_is)
   (case jm=>k_is)
   (case xW=>k_is)
   (case En=>k_is)
   (case Eo=>k_is)
   (case Vb=>k_is)
   (case nf4=>k_is)
   (case nf5=>k_is)
  obtain⟨_,_,_,_,_,_,_,_,_,_,_,_,_,_,_,_,_,_,_,_,_,agC⟩:=aeo;have xkl:∃a,mg "LETTER_MARKS"=some (.ref a)/\∀P:Program,L2.KDict P w (L2.KOf KX) a My.Xz:=by
   try dsimp only[L2.KOf]
   refine' My.acg KX G ?b ?l ?z ?n
   (case b=>k_is)
   (case l=>k_is)
   (case z=>rfl)
   (case n=>decide)
  obtain⟨_,kl⟩:=xkl;have xkw:∃a,mg "WORD_MARKS"=some (.ref a)/\∀P:Program,L2.KDict P w (L2.KOf KX) a My.XC:=by
   try dsimp only[L2.KOf]
   refine' My.acg KX G ?b ?l ?z ?n
   (case b=>k_is)
   (case l=>k_is)
   (case z=>rfl)
   (case n=>decide)
  obtain⟨_,kw⟩:=xkw;have xzb:∃t:Tok,t≠0/\mg "BLANK"=some (.str (L2.S [63]) t):=by
   try dsimp only[L2.KOf]
   refine' My.ajT KX G ?b ?n
   (case b=>k_is)
   (case n=>decide)
  obtain⟨_,zb⟩:=xzb;have xer:∃gW d9 iB gY jM dh dU CR ju nD gO iT pK vp mG nZ,My.ad7 (L2.KOf KX) mg gW d9 iB gY jM dh dU CR ju nD gO iT pK vp mG nZ:=by
   try dsimp only[L2.KOf]
   refine' My.agf KX G ?Bu ?Gu ?Es ?Rc ?Nt ?yS ?Bv ?aR ?tK ?vq ?Aj ?Nu ?Et ?aaw ?Nv ?Eu ?I_ ?Ve ?Ja ?Jb ?Jc ?Jd ?Ew ?Je ?Jf ?Jg ?Jh ?zB ?uF ?acv ?Vf ?Vg ?Vh ?Vi ?Nx ?Vj ?Vk ?Vl ?Vm ?Ey ?xX ?Lj ?Bw ?Bx ?BJ ?BL ?zE ?BP ?BR ?BW ?BX ?uG ?P_ ?Ez ?EY ?E_ ?Fb ?BZ ?Fd ?Fe ?Fg ?Fi ?vC ?hn ?ht ?Ji ?Jj ?Jk ?Jl ?B_ ?Jm ?Vn ?Vo ?Vp ?Vq ?Lk ?Vr ?Ca ?Cd ?Ce ?Cg ?wH ?Ci ?Fj ?Fl ?Fo ?Fp ?yU ?Fq ?g2 ?rd ?fc
   (case Bu=>k_is)
   (case Gu=>k_is)
   (case Es=>k_is)
   (case Rc=>k_is)
   (case Nt=>k_is)
   (case yS=>k_is)
   (case Bv=>k_is)
   (case aR=>k_is)
   (case tK=>k_exc)
   (case vq=>k_exc)
   (case Aj=>k_exc)
   (case Nu=>kernel_rfl)
   (case Et=>kernel_rfl)
   (case aaw=>kernel_rfl)
   (case Nv=>kernel_rfl)
   (case Eu=>kernel_rfl)
   (case I_=>kernel_rfl)
   (case Ve=>k_is)
   (case Ja=>k_is)
   (case Jb=>k_is)
   (case Jc=>k_is)
   (case Jd=>k_is)
   (case Ew=>kernel_rfl)
   (case Je=>k_is)
   (case Jf=>kernel_rfl)
   (case Jg=>k_is)
   (case Jh=>k_is)
   (case zB=>k_is)
   (case uF=>k_is)
   (case acv=>k_is)
   (case Vf=>k_is)
   (case Vg=>k_is)
   (case Vh=>k_is)
   (case Vi=>k_is)
   (case Nx=>kernel_rfl)
   (case Vj=>k_is)
   (case Vk=>kernel_rfl)
   (case Vl=>k_is)
   (case Vm=>k_is)
   (case Ey=>k_is)
   (case xX=>k_is)
   (case Lj=>k_is)
   (case Bw=>k_is)
   (case Bx=>k_is)
   (case BJ=>k_is)
   (case BL=>k_is)
   (case zE=>kernel_rfl)
   (case BP=>k_is)
   (case BR=>kernel_rfl)
   (case BW=>k_is)
   (case BX=>k_is)
   (case uG=>k_is)
   (case P_=>k_is)
   (case Ez=>k_is)
   (case EY=>k_is)
   (case E_=>k_is)
   (case Fb=>k_is)
   (case BZ=>kernel_rfl)
   (case Fd=>k_is)
   (case Fe=>kernel_rfl)
   (case Fg=>k_is)
   (case Fi=>k_is)
   (case vC=>k_is)
   (case hn=>k_is)
   (case ht=>k_is)
   (case Ji=>kernel_rfl)
   (case Jj=>k_is)
   (case Jk=>k_is)
   (case Jl=>k_is)
   (case B_=>k_is)
   (case Jm=>k_is)
   (case Vn=>kernel_rfl)
   (case Vo=>k_is)
   (case Vp=>k_is)
   (case Vq=>k_is)
   (case Lk=>k_is)
   (case Vr=>k_is)
   (case Ca=>kernel_rfl)
   (case Cd=>k_is)
   (case Ce=>k_is)
   (case Cg=>k_is)
   (case wH=>k_is)
   (case Ci=>k_is)
   (case Fj=>kernel_rfl)
   (case Fl=>k_is)
   (case Fo=>k_is)
   (case Fp=>k_is)
   (case yU=>k_is)
   (case Fq=>k_is)
   (case g2=>k_is)
   (case rd=>k_is)
   (case fc=>k_is)
  obtain⟨_,_,_,_,_,_,_,_,_,_,_,_,_,_,_,_,er⟩:=xer;have lw:∃fd:FuncData,L2.fj (L2.KOf KX) "law" "law" My.Q0 fa fd/\∀(s:Shared) (v:Value),BindsTo s fd ⟨[v],[]⟩ [("_law_script",v)]:=by
   dsimp only[L2.KOf];refine' L2.ahB KX G hmg ?a ?l ?c ?k ?b
   case a|l|c|k=>k_is
   (case b=>exact λ_ _ _ _ _ _ _=>rfl)
  obtain⟨fd,F,hb⟩:=lw;exact⟨fd,hb,λbase _ _=>My.agg bG d8 cT fP Ej iR bL pG o7 wF fZ yL Ks tH yM KN qH gR Aa z9 pI wI Ft zF Fv Fw Cj Ck zG tL vD Cm vG zH zJ Cp uW Fx pN Jo xY qY xZ uH vH uI Cq Fy vI Cr zK vJ zL Fz Cu zM tM vK FJ yc FN Jp FP Ny Vs Nz NK NP zN Vt Jq Vu Gv Vv Jr Vw ael agB aen agC kl kw zb er F⟩

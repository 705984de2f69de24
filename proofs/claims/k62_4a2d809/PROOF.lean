import PyProof.Rows.All
import Wide.All
import OpenK.AllK
import Wide.FinOn
import Lean
import PyProof.EqAt
import PyProof.EqKinds
import PyProof.TupleCall
import KE.KRevIter
import PyProof.JoinWalk
import PyProof.CollectIter
import KE.KDictSum
import KE.KSortTup
import OpenK.KRaise
import PyProof.StationsW
import OpenK.KOwn
import KE.KTryMore
import KE.KIsNot
import PyProof.NsDelKeeps
import KE.KIsAll
import PyProof.ExcArgs
import PyProof.ListMulRoad
import PyProof.Rows.SeqMore
import PyProof.FactsAll.tuple_2
import PyProof.ExcInit
import OpenK.KCls
import PyProof.WalkInts
import PyProof.SeqI3
import KE.KIntText
import KE.KEqDict
import KE.KDictOf
import PyProof.Rows.SetFrom
import PyProof.FitsReplace
import PySem.Challenge.RW_letterrack_k62_games_that_are_over
set_option Elab.async false
set_option linter.all false
set_option maxRecDepth 100000
set_option maxHeartbeats 4000000

set_option bootstrap.genMatcherCode false
theorem ZzN {G:Prop}(h:¬¬G):G:=Classical.byContradiction h
theorem rL {α:Sort _}{a:α}:a=a:=rfl
theorem Zzx2{q:A->B->Prop}{G:Prop}(h:∃a b,q a b)(f:∀a b,q a b->G):G:=Exists.elim h λa h=>Exists.elim h (f a)
theorem Zzx3{q:A->B->C->Prop}{G:Prop}(h:∃a b c,q a b c)(f:∀a b c,q a b c->G):G:=Exists.elim h λa h=>Zzx2 h (f a)
theorem Zzx4{q:A->B->C->D->Prop}{G:Prop}(h:∃a b c d,q a b c d)(f:∀a b c d,q a b c d->G):G:=Exists.elim h λa h=>Zzx3 h (f a)
theorem Zzx5{q:A->B->C->D->E->Prop}{G:Prop}(h:∃a b c d e,q a b c d e)(f:∀a b c d e,q a b c d e->G):G:=Exists.elim h λa h=>Zzx4 h (f a)
theorem Zzx7{q:A->B->C->D->E->I->J->Prop}{G:Prop}(h:∃a b c d e i j,q a b c d e i j)(f:∀a b c d e i j,q a b c d e i j->G):G:=Exists.elim h λa h=>Exists.elim h λb h=>Zzx5 h (f a b)
theorem Zzx10{q:A->B->C->D->E->I->J->K->L->M->Prop}{G:Prop}(h:∃a b c d e i j k l m,q a b c d e i j k l m)(f:∀a b c d e i j k l m,q a b c d e i j k l m->G):G:=Exists.elim h λa h=>Exists.elim h λb h=>Exists.elim h λc h=>Zzx7 h (f a b c)
theorem Zzx14{q:A->B->C->D->E->I->J->K->L->M->N->O->P->R->Prop}{G:Prop}(h:∃a b c d e i j k l m n o p r,q a b c d e i j k l m n o p r)(f:∀a b c d e i j k l m n o p r,q a b c d e i j k l m n o p r->G):G:=Exists.elim h λa h=>Exists.elim h λb h=>Exists.elim h λc h=>Exists.elim h λd h=>Zzx10 h (f a b c d)
local macro_rules|`(tactic|show $e)=>`(tactic|first|exact $e|change $e)
local macro_rules|`(tactic|calc $e:term)=>`(tactic|refine $e)
local macro_rules|`(tactic|let $x:ident := $e)=>`(tactic|have $x:ident := $e)|`(tactic|let $x:ident : $t := $e)=>`(tactic|have $x:ident : $t := $e)
open Lean in
local macro_rules|`(tactic|let ⟨$ts,*⟩ := $h)=>do
 let a:=ts.getElems
 let ps<-a.mapM λt=>if t.raw.isIdent then `(Parser.Tactic.rcasesPatLo|$(⟨t⟩):ident) else `(Parser.Tactic.rcasesPatLo|_)
 let n:=(a.pop.toList.takeWhile λt=>t.raw.getId != `rfl).length
 let mut t<-`(tactic|rcases $h:term with ⟨$ps,*⟩)
 for k in [2, 3, 4, 5, 7, 10, 14] do
  if k<=n then
   let m<-if k+1==a.size&&a.back!.raw.getId != `rfl then `(tactic|intro $a*) else `(tactic|(intro $(a[:k].toArray)* z;rcases z with ⟨$(ps[k:].toArray),*⟩))
   t<-`(tactic|first|(refine $(mkIdent (.mkSimple s!"Zzx{k}")) $h ?_;(try clear $(⟨h⟩));$m:tactic)|$t:tactic)
 `(tactic|(refine ZzN λn=>?_;$t:tactic<;>refine n ?_<;>clear n))
section
variable{p:Prop}
def p_(h:p:=by lia):p:=h
def qa(h:p:=by simp):p:=h
def qc(h:p:=by decide):p:=h
def qf(h:p:=by rfl):p:=h
def qh(h:p:=by kernel_rfl):p:=h
def qi(h:p:=by decide +kernel):p:=h
def qk(h:p:=by first | lia | ((try dsimp only);lia)):p:=h
def qo(h:p:=by size_fits):p:=h
end
def zsz (n:Nat)(h:n<=1000:=by decide):n<=PySem.sizeLine:=Nat.le_trans h qc
abbrev aa:=@List.length_map
abbrev ac:=@List.getElem?_eq_getElem
abbrev ae:=@PySem.wpAny_bind
abbrev af:=@PySem.Heap.get?_push_of_some
abbrev ag:=@decide_eq_false
abbrev ah:=@List.getElem?_eq_some_iff
abbrev ai:=@decide_eq_true
abbrev al:=@Nat.le_refl
abbrev am:=@Nat.le_of_lt
abbrev ap:=@List.length_take
abbrev av:=@List.length_append
abbrev aw:=@PySem.wpAny_pure
abbrev ax:=@PySem.boot_len
abbrev ay:=@List.getD_eq_getElem?_getD
abbrev aE:=@PyProof.Rows.boot_isinstance
abbrev aI:=@PySem.Heap.lt_size
abbrev aS:=@List.getElem_mem
abbrev a_:=@List.mem_singleton
abbrev ba:=@PySem.Heap.get?_push_size
abbrev bc:=@List.size_toArray
abbrev bd:=@List.length_drop
abbrev be:=@List.mem_map
abbrev bo:=@Option.some.inj
abbrev bp:=@PySem.F.plainAttrs_str
abbrev bq:=@List.mem_append
abbrev bu:=@List.map_append
abbrev bv:=@List.mem_of_getElem?
abbrev bz:=@List.mem_cons_of_mem
abbrev bE:=@Nat.le_trans
abbrev bP:=@Bool.false_ne_true
abbrev bS:=@PySem.F.plainAttrs_list
abbrev bX:=@List.mem_cons
abbrev ce:=@List.length_replicate
abbrev cf:=@PySem.W.mg_of
abbrev ck:=@List.getElem?_map
abbrev cn:=@Nat.ne_of_lt
abbrev cp:=@Bool.and_eq_true
abbrev cq:=@List.mem_cons_self
abbrev cv:=@List.take_of_length_le
abbrev cw:=@List.map_cons
abbrev cy:=@Int.toNat_of_nonneg
abbrev cz:=@List.take_length
abbrev cE:=@PySem.PassesOwn.never
abbrev cK:=@Nat.lt_of_lt_of_le
abbrev cS:=@PySem.W.mg_none_of
abbrev c9:=@PyProof.Rows.boot_tuple
abbrev c_:=@List.mem_of_mem_take
abbrev de:=@List.take_add_one
abbrev df:=@List.getElem?_append_right
abbrev di:=@List.getElem?_append_left
abbrev dq:=@PySem.F.slot_str_join
abbrev dr:=@PySem.F.type_str_join
abbrev du:=@Int.emod_nonneg
abbrev dv:=@Option.map_eq_some_iff
abbrev dA:=@PySem.F.slot_list_append
abbrev dC:=@PySem.F.type_list_append
abbrev dE:=@List.length_cons
abbrev dL:=@List.append_nil
abbrev dP:=@Int.emod_lt_of_pos
abbrev dS:=@List.replicate_succ
abbrev ed:=@List.mem_append_right
abbrev eh:=@Int.toNat_natCast
abbrev ej:=@of_decide_eq_true
abbrev eI:=@PySem.wpAny_mono
abbrev eJ:=@List.mem_of_mem_drop
abbrev eK:=@PyProof.Rows.callWith_type1
abbrev eQ:=@Nat.zero_le
abbrev eW:=@List.length_set
abbrev e_:=@PySem.wpAny_truthy_bool
abbrev fb:=@List.flatten_cons
abbrev fe:=@PySem.Heap.size_push
abbrev fg:=@PySem.W.kia_one
abbrev fh:=@PySem.wpAny_field
abbrev fi:=@PySem.Calls.spliced_cons
abbrev fk:=@List.all_eq_true
abbrev fm:=@Nat.lt_irrefl
abbrev fo:=@PyProof.Rows.slot_tuple_getitem
abbrev fq:=@PySem.Heap.get?_update_other
abbrev ft:=@PyProof.Rows.boot_list
abbrev fw:=@Array.length_toList
abbrev fz:=@List.map_congr_left
abbrev fA:=@Nat.min_eq_left
abbrev fE:=@List.mem_or_eq_of_mem_set
abbrev fF:=@Bool.false_eq_true
abbrev fN:=@PyProof.Rows.boot_sorted
abbrev fR:=@List.map_map
abbrev fS:=@PySem.wpAny_holding
abbrev f_:=@Array.getElem?_eq_some_iff
abbrev gc:=@PySem.F.excBase_ValueError
abbrev gd:=@List.lookup_cons
abbrev gf:=@Ne.symm
abbrev gg:=@Nat.mul_le_mul
abbrev gh:=@List.drop_eq_getElem_cons
abbrev gm:=@Option.isSome_iff_exists
abbrev gp:=@List.find?_cons
abbrev gr:=@List.forIn_cons
abbrev gt:=@List.replicate_succ'
abbrev gu:=@PySem.wpAny_newObj_type
abbrev gv:=@List.length_eq_zero_iff
abbrev gI:=@List.mem_range
abbrev gL:=@Nat.lt_succ_self
abbrev gN:=@Nat.succ_le_succ
abbrev gS:=@PySem.wpAny_call_entry
abbrev gT:=@List.dropLast_concat_getLast
abbrev gV:=@PySem.wpAny_call
abbrev gX:=@PySem.Calls.callWith_builtin
abbrev g9:=@List.drop_of_length_le
abbrev hJ:=@PySem.wpAny_Call_Name_kw
abbrev hV:=@of_decide_eq_false
abbrev ia:=@PySem.wpAny_passesOwn
abbrev ib:=@Bool.eq_iff_iff
abbrev ic:=@List.nodup_cons
abbrev ie:=@PySem.Heap.get?_update_self
abbrev ii:=@PySem.F.slot_dict_get
abbrev ij:=@List.cons_lt_cons_iff
abbrev ik:=@PySem.wpAny_pyIter_list
abbrev im:=@PySem.Calls.spliced_nil
abbrev io:=@PySem.StrLaws.subAt_one
abbrev ip:=@PySem.wpAny_loadPart_at
abbrev iq:=@PySem.Calls.evalArgs_plain
abbrev ir:=@List.mem_iff_getElem
abbrev iA:=@List.pairwise_iff_getElem
abbrev iE:=@List.set_eq_take_append_cons_drop
abbrev iF:=@Nat.le_of_eq
abbrev iL:=@PySem.codeAny_mono
abbrev iN:=@PySem.F.slot_list_remove
abbrev iO:=@PySem.F.type_list_remove
abbrev iP:=@PySem.mem_of_lookup
abbrev iS:=@Array.getElem?_setIfInBounds_ne
abbrev iX:=@PySem.wpAny_callSpecial?_slot
abbrev i9:=@List.eraseIdx_cons_succ
abbrev ja:=@Int.eq_ofNat_of_zero_le
abbrev jb:=@PySem.W.callWith_K
abbrev jn:=@PySem.SeqAt.EqAt.int_int
abbrev jp:=@Nat.lt_of_le_of_lt
abbrev js:=@PySem.wpAny_loadPart'
abbrev jv:=@PySem.wpAny_setField_rec
abbrev jI:=@List.getElem?_set_self
abbrev jS:=@PySem.F.slot_tuple_mul
abbrev j3:=@PyProof.Rows.boot_bool
abbrev ka:=@PySem.PassesOwn.leaving
abbrev ke:=@Nat.ne_of_gt
abbrev kf:=@List.drop_zero
abbrev ki:=@PySem.Obj.isFreed_of_fields
abbrev km:=@PySem.F.slot_int_rmul
abbrev kn:=@PySem.wpAny_seqItems
abbrev ko:=@PyProof.Rows.boot_int
abbrev kq:=@List.take_append_drop
abbrev kr:=@List.getElem?_set_ne
abbrev ku:=@Nat.min_eq_right
abbrev kz:=@List.not_mem_nil
abbrev kD:=@List.any_cons
abbrev kH:=@Nat.le_succ
abbrev kK:=@List.map_id
abbrev kL:=@List.filterMap_cons
abbrev kM:=@List.mem_filter
abbrev kN:=@PySem.wpAny_binaryOp_repeat_ref
abbrev kP:=@Option.map_some
abbrev kQ:=@PySem.F.args_tuple_add_2
abbrev kR:=@PySem.wpAny_tupleItemsOf
abbrev kS:=@Nat.sub_self
abbrev kU:=@Nat.eq_zero_or_pos
abbrev kX:=@List.erase_sublist
abbrev k9:=@Int.mul_le_mul
abbrev lh:=@PySem.Heap.IsList.at
abbrev lj:=@PySem.F.entry_tuple_add
abbrev lm:=@PySem.F.args_dict_get_3
abbrev lv:=@Nat.add_sub_cancel_left
abbrev lx:=@Nat.lt_succ_of_lt
abbrev ly:=@Bool.eq_false_iff
abbrev lI:=@Sum.inr.inj
abbrev lL:=@PyProof.noPylong_small
abbrev lP:=@PySem.F.slot_tuple_add
abbrev lS:=@PySem.F.entry_dict_get
abbrev lT:=@PySem.wpAny_nextOf_list_item
abbrev l_:=@PySem.F.slot_str_lower
abbrev ma:=@PySem.F.type_str_lower
abbrev md:=@PySem.wpAny_standAt
abbrev me:=@Bool.not_true
abbrev mf:=@Bool.true_and
abbrev mh:=@List.drop_length
abbrev mi:=@List.length_singleton
abbrev ml:=@PyProof.Rows.boot_str
abbrev mm:=@PyProof.Rows.boot_min
abbrev mn:=@List.mem_append_left
abbrev mo:=@PySem.wpAny_Name
abbrev mw:=@PySem.wpAny_execs_nil
abbrev mx:=@PyProof.Rows.callWith_builtin1
abbrev my:=@Int.ofNat_lt
abbrev mB:=@List.foldl_cons
abbrev mE:=@List.length_dropLast
abbrev mI:=@List.length_nil
abbrev mM:=@PySem.F.slot_tuple_lt
abbrev mP:=@PySem.codeAny_call_builtin
abbrev mS:=@PySem.wpAny_updateSeq_pair
abbrev mT:=@PySem.F.slot_zip_next
abbrev nc:=@List.map_set
abbrev nv:=@Nat.mul_le_mul_right
abbrev ny:=@PySem.W.plainGet_of
abbrev nB:=@Bool.false_and
abbrev nE:=@PySem.wpAny_loadPart
abbrev nI:=@PySem.wpAny_setField
abbrev nK:=@PySem.wpAny_pyIter_range
abbrev nL:=@List.mem_filterMap
abbrev nS:=@PySem.Obj.data_mapFields
abbrev nV:=@List.getElem?_drop
abbrev nX:=@Int.fdiv_eq_ediv_of_nonneg
abbrev n5:=@List.sum_cons
abbrev n9:=@List.takeWhile_cons_of_pos
abbrev og:=@PySem.wpAny_attempt
abbrev om:=@PySem.F.excAttr_ValueError
abbrev on:=@PySem.wpAny_onRaise
abbrev oq:=@Int.ofNat.inj
abbrev ot:=@List.map_drop
abbrev ow:=@PySem.Within.cons
abbrev oy:=@List.append_assoc
abbrev oz:=@Function.comp_def
abbrev oB:=@PySem.wpAny_rule
abbrev oC:=@Array.getElem?_eq_getElem
abbrev oP:=@List.getLast?_eq_getElem?
abbrev oQ:=@List.getElem?_zip_eq_some
abbrev oS:=@Nat.succ_mul
abbrev o0:=@List.cons_append
abbrev ph:=@List.map_nil
abbrev pi:=@Array.toList_inj
abbrev pj:=@List.of_mem_zip
abbrev pk:=@Bool.or_eq_true
abbrev pE:=@Int.le_refl
abbrev pS:=@List.forIn_nil
abbrev pV:=@List.nodup_nil
abbrev AB:=List (List Nat)
abbrev AF:=PySem.Value->PySem.Shared->Prop
abbrev AH:=List (PySem.Addr×PySem.Obj)
noncomputable section
namespace L2
open PySem
def DQ (h:Runs M Γ p t fs s e s'):s.toks<=s'.toks:=by
 induction h with| done|raise|yield=>show al _| fresh _ ih=>show bE (kH _) ih| again _ _ ih|rule _ ih|«at» _ ih|load _ _ ih|update _ _ ih|loadIfAlive _ ih|point _ ih|alloc _ ih|ask _ ih|choose _ _ ih|os _ ih|handled _ ih|genState _ _ ih|stack _ ih|thread _ ih|newGen _ ih=>show ih| call _ _ ih1 ih2=>show bE ih1 ih2| callSusp _ ih=>show ih| resumeFresh _ _ _ _ ih1 ih2=>show bE ih1 ih2| resumeSuspended _ _ _ _ ih1 ih2=>show bE ih1 ih2| resumeJustStarted _ _ _ ih=>show ih| resumeThrowFresh _ _ ih=>show ih| resumeRunning _ _ ih=>show ih| resumeFinished _ _ ih=>show ih| segRet _ _ ih1 ih2=>show bE ih1 ih2| segGen _ _ ih1 ih2=>show bE ih1 ih2| segSuspOut _ _ ih=>show ih| segSuspGen _ _ _ _ ih1 ih2=>show bE ih1 ih2
def Zi (h:Wakes M Γ p g r s res s'):s.toks<=s'.toks:=by
 unfold Wakes at h;split at h;.show h.elim
 .split at h
  .let⟨e,s1,j,_,_,rfl⟩:=h;let z:=DQ j;show z
  .let⟨_,rfl⟩:=h;show al _
  .let⟨_,rfl⟩:=h;show al _
 .let⟨e,s1,j,_,_,rfl⟩:=h;let z:=DQ j;show z
 .let⟨_,rfl⟩:=h;show al _
 .let⟨_,rfl⟩:=h;show al _
def aj2 {α:Type}{M:Model}{Γ:Ctx}(t:Sem α)(n:Nat){Q:α->Pos->Shared->Prop}{E:Value->Pos->Shared->Prop}(p:Pos)(s:Shared)(hn:n<=s.toks)(h:Sem.wp M Γ t (λa p s=>n<=s.toks->Q a p s) (λe p s=>n<=s.toks->E e p s) p s):Sem.wp M Γ t Q E p s:=by
 revert h
 induction t generalizing p s with| pure x=>show λh=>h hn| raise v=>show λh=>h hn| unsupported|finish|yield|fork|await|register=>show id| fresh k ih=>show ih _ _ _ (bE hn (kH _))| rule _ k ih|«at» _ k ih|alloc _ k ih|loadIfAlive _ k ih|point _ k ih|ask k ih|os _ _ k ih|handled _ k ih|newGen _ k ih|stack k ih|thread k ih=>show ih _ _ _ hn| load a _ k ih|genState a k ih=>show λ⟨o,F,h⟩=>⟨o,F,ih _ _ _ hn h⟩| update a _ f k ih|choose _ _ k ih=>show λ⟨ha,h⟩=>⟨ha,ih _ _ _ hn h⟩| call c h g l k ih=>show λ⟨r,s',j,D⟩=>⟨r,s',j,ih _ _ _ (bE hn (DQ j)) D⟩| resume g r l k ih=>show λ⟨res,s',hw,h⟩=>⟨res,s',hw,ih _ _ _ (bE hn (Zi hw)) h⟩
def R_ {α:Type}{t:Sem α}{Q:α->Shared->Prop}{s:Shared}(h:wpAny M A t (λa s'=>s.toks<=s'.toks->Q a s') (λe s'=>s.toks<=s'.toks->E e s') s):wpAny M A t Q E s:=λΓ p hΓ=>aj2 t s.toks p s (al _) (h Γ p hΓ)
end L2
namespace L2
open PySem PySem.Spec PyProof.Rows
abbrev Key:=Sum Int Str
def Bo:Key->Value->Bool
 | .inl k,v=>Value.isInt k v
 | .inr x,v=>Value.isStrOf x v
def akP (w:World):Key->Int
 | .inl k=>hashInt k
 | .inr x=>hashStr w x
theorem jm:∀{k:Key} {v:Value},Bo k v=true->(∃i t,k=Sum.inl i/\v=Value.int i t)\/(∃x t,k=Sum.inr x/\v=Value.str x t)
 | .inl i,v,h=>by let⟨t,e⟩:=Value.isInt_shape (k:=i) (v:=v) h;show .inl ⟨i,t,rL,e⟩
 | .inr x,v,h=>by let⟨t,e⟩:=Value.isStrOf_shape (x:=x) (v:=v) h;show .inr ⟨x,t,rL,e⟩
def aaX (i)(t:Tok):Bo (.inl i) (.int i t)=true:=by simp[Bo,Value.isInt]
def aaY (x)(t:Tok):Bo (.inr x) (.str x t)=true:=by simp[Bo,Value.isStrOf]
def ahp (a b):decide ((Sum.inl a:Key)=Sum.inl b)=(a==b):=by
 by_cases e:a=b;.subst e;simp
 .let h:¬(Sum.inl a:Key)=Sum.inl b:=λq=>e (Sum.inl.inj q)
  rw[ag h];show(beq_eq_false_iff_ne.mpr e).symm
def ahq (a b):decide ((Sum.inr a:Key)=Sum.inr b)=decide (a=b):=by
 by_cases e:a=b;.subst e;simp
 .let h:¬(Sum.inr a:Key)=Sum.inr b:=λq=>e (lI q)
  rw[ag h,ag e]
def ahr (a)(b):decide ((Sum.inl a:Key)=Sum.inr b)=false:=ag (λq=>nomatch q)
def ahs (a)(b):decide ((Sum.inr a:Key)=Sum.inl b)=false:=ag (λq=>nomatch q)
noncomputable def iD (prog:Program)(w:World):PySem.KeyKind prog w Key where
 is:=Bo
 hash:=akP w
 inj:=λv a b ha hb=>by
  rcases jm ha with⟨i,t,rfl,rfl⟩|⟨x,t,rfl,rfl⟩
  .rcases jm hb with⟨j,u,rfl,e⟩|⟨y,u,rfl,e⟩
   .injection e with e1 _;rw[e1]
   .show nomatch e
  .rcases jm hb with⟨j,u,rfl,e⟩|⟨y,u,rfl,e⟩;.show nomatch e
   .injection e with e1 _;rw[e1]
 byValue:=λk v h=>by rcases jm h with⟨i,t,rfl,rfl⟩|⟨x,t,rfl,rfl⟩ <;> rfl
 pyHash:=λD h=>by
  rcases jm D with⟨i,t,rfl,rfl⟩|⟨x,t,rfl,rfl⟩;.show wpAny_pyHash_int h
  .show wpAny_pyHash_str h
 eqBool:=λF D h=>by
  rcases jm F with⟨i,t,rfl,rfl⟩|⟨x,t,rfl,rfl⟩
  .rcases jm D with⟨j,u,rfl,rfl⟩|⟨y,u,rfl,rfl⟩;.rw[ahp]at h;show wpAny_eqBool_int h
   .rw[ahr]at h;show SeqAt.EqAt.int_str i t y u _ _ _ _ h
  .rcases jm D with⟨j,u,rfl,rfl⟩|⟨y,u,rfl,rfl⟩;.rw[ahs]at h;show SeqAt.EqAt.str_int x t j u _ _ _ _ h
   .rw[ahq]at h;show wpAny_eqBool_str h
 «strs»:=λk x t v h=>by
  rcases jm h with⟨i,u,rfl,e⟩|⟨y,u,rfl,e⟩;.show nomatch e
  .injection e with e1 _;subst e1;cases v <;> rfl
def Wv (prog)(w)(i)(t:Tok):(iD prog w).is (.inl i) (.int i t)=true:=aaX i t
def mQ (prog)(w)(x)(t:Tok):(iD prog w).is (.inr x) (.str x t)=true:=aaY x t
inductive V where
 | non|bl (b:Bool)|int (i:Int)|str (x:Str)|Dr (b:Array UInt8)|flt (b:UInt64)|ref (a:Addr)|ty (n:String)
 deriving DecidableEq
def cR:V->Value->Prop
 | .non,u=>u=Value.none
 | .bl b,u=>u=Value.bool b
 | .int i,u=>∃t,u=Value.int i t
 | .str x,u=>∃t,u=Value.str x t
 | .Dr b,u=>∃t,u=Value.bytes b t
 | .flt b,u=>∃t,u=Value.float b t
 | .ref a,u=>u=Value.ref a
 | .ty n,u=>u=Value.type n
abbrev Vals:List V->List Value->Prop:=Paired cR
def Vals.length (r:Vals xs us):xs.length=us.length:=Paired.length r
theorem Vals.get:∀{xs:List V} {us:List Value} {i:Nat} {x:V},Vals xs us->xs[i]?=some x->∃u,us[i]?=some u/\cR x u
 | _,_,_,_,.nil,e=>by simp at e
 | _,_,0,_,.cons r _,e=>by simp at e;subst e;show⟨_,rL,r⟩
 | _,_,i+1,x,.cons _ t,e=>by let⟨u,h1,h2⟩:=Vals.get (i:=i) (x:=x) t (by simpa using e);show⟨u,by simpa using h1,h2⟩
theorem Vals.set (r:cR x u):∀{xs:List V} {us:List Value} (i:Nat),Vals xs us->Vals (xs.set i x) (us.set i u)
 | _,_,_,.nil=>.nil
 | _,_,0,.cons _ t=>.cons r t
 | _,_,i+1,.cons q t=>.cons q (Vals.set r i t)
theorem Vals.append:∀{xs ys:List V} {us ws:List Value},Vals xs us->Vals ys ws->Vals (xs++ys) (us++ws)
 | _,_,_,_,.nil,s=>s
 | _,_,_,_,.cons r t,s=>.cons r (Vals.append t s)
theorem Vals.take:∀{xs:List V} {us:List Value} (n:Nat),Vals xs us->Vals (xs.take n) (us.take n)
 | _,_,0,_=>.nil
 | _,_,_+1,.nil=>.nil
 | _,_,n+1,.cons r t=>.cons r (Vals.take n t)
theorem Vals.drop:∀{xs:List V} {us:List Value} (n:Nat),Vals xs us->Vals (xs.drop n) (us.drop n)
 | _,_,0,r=>r
 | _,_,_+1,.nil=>.nil
 | _,_,n+1,.cons _ t=>Vals.drop n t
def nR:Option V->Option Value->Prop
 | some v,some u=>cR v u
 | none,none=>True
 | _,_=>False
def KV {κ:Type}:List (κ×V)->List (κ×Value)->Prop:=Paired λ(p:κ×V) (q:κ×Value)=>p.1=q.1/\cR p.2 q.2
def kV:Key->V
 | .inl i=>.int i
 | .inr x=>.str x
inductive HO where
 | lst (xs:List V)
 | tup (xs:List V)
 | dK (kvs:List (Key×V))|dT (kvs:List (List Key×V))
 | set (S:Int->Bool) (n:Nat)
 | ins (C dx:Addr) (fs:List (Str×V))
 | own (x:Addr)
 | xd (fs:List (Str×V))
 | met (f x:Addr)
 | rng (lo hi:Int)
 | qG (o:Obj) (u:HO)
 | Pj (ps:Array Value)
 | ext (φ:Heap->Prop)
abbrev Hp:=Addr->Option HO
def upd (H:Hp)(a:Addr)(o:HO):Hp:=λb=>if b=a then some o else H b
def au:upd H a o a=some o:=by unfold upd;rw[if_pos rfl]
def aZ (h:b≠a):upd H a o b=H b:=by unfold upd;rw[if_neg h]
def Xk:upd (upd H a o) a u=upd H a u:=by funext b;unfold upd;split <;> rfl
def yC {H:Hp}{a b:Addr}{o u:HO}(h:H a=some o)(h':H b=some u)(d:o≠u):a≠b:=by intro e;subst e;rw[h]at h';show d (bo h')
def bF {H:Hp}{a b:Addr}{o:HO}(h:H a=some o)(h':H b=none):a≠b:=by intro e;subst e;rw[h]at h';cases h'
section
variable (P:Program)(w:World)
def gJ (H:Hp)(h:Heap)(a:Addr):HO->Prop
 | .lst xs=>xs.length<=sizeLine/\∃(its:List Value) (n:Nat),Vals xs its/\h.get? a=some {cls:=.type "list",data:=.seq its.toArray n}
 | .tup xs=>xs.length<=sizeLine/\∃its:List Value,Vals xs its/\IsTup h a its.toArray
 | .dK kvs=>kvs.length<=sizeLine/\(a==sysModules)=false/\∃vs,KV kvs vs/\h.DictOf (iD P w) a vs
 | .dT kvs=>kvs.length<=sizeLine/\(a==sysModules)=false/\∃xs:List (List Key×Addr×Value),
   Paired (λ(p:List Key×V) (q:List Key×Addr×Value)=>p.1=q.1/\H q.2.1=some (.tup (p.1.map kV))/\cR p.2 q.2.2) kvs xs/\
   ∃o es ep,h.get? a=some o/\o.ExactDict/\o.data=.dict es ep/\es.toList=xs.map (entryOfKey (tupleKind (iD P w)))/\(xs.map (·.1)).Nodup
 | .set S n=>h.SetOf (intKind P w) a S n
 | .ins C dx fs=>H dx=some (.own a)/\fs.length<=1000/\dx≠a/\h.get? a=some (W.instObj C dx)/\
   ∃mA,h.Ns1 dx mA/\(∀f,nR (fs.lookup f) (mA f))/\PySem.Within mA (fs.map (·.1))
 | .own _=>∃o,h.get? a=some o
 | .xd fs=>∃mA,h.Ns1 a mA/\∀f,nR (fs.lookup f) (mA f)
 | .rng lo hi=>∃t u v,h.get? a=some {cls:=.type "range",data:=.fields #[.int lo t,.int hi u,.int 1 v]}
 | .qG o u=>h.get? a=some o/\gJ H h a u
 | .Pj ps=>h.get? a=some {cls:=.none,data:=.fields ps}
 | .met f x=>h.get? a=some (W.methodObj (.ref f) (.ref x))
 | .ext φ=>φ h/\(∃o,h.get? a=some o)/\∀h1 h2:Heap,φ h1->(∀o,h1.get? a=some o->h2.get? a=some o)->φ h2
def lD (H:Hp)(h:Heap):Prop:=∀a o,H a=some o->gJ P w H h a o
end
section
variable {P:Program}{w:World}{H H':Hp}{h h':Heap}{a:Addr}{o:HO}
def gJ.lt (x:gJ P w H h a o):a<h.objs.size:=by
 cases o with
 | lst xs=>let⟨_,_,_,_,e⟩:=x;show aI e
 | tup xs=>let⟨_,_,_,p⟩:=x;show p.lt
 | dK kvs=>let⟨_,_,_,_,o,_,_,e,_⟩:=x;show aI e
 | dT kvs=>let⟨_,_,_,_,o,_,_,e,_⟩:=x;show aI e
 | set S n=>let⟨o,_,_,_,e,_⟩:=x;show aI e
 | ins C dx fs=>let⟨_,_,_,e,_⟩:=x;show aI e
 | own y=>let⟨_,e⟩:=x;show aI e
 | xd fs=>obtain⟨_,⟨_,_,_,e,_⟩,_⟩:=x;show aI e
 | rng lo hi=>let⟨_,_,_,e⟩:=x;show aI e
 | qG ob u=>let⟨e,_⟩:=x;show aI e
 | Pj ps=>show aI (show h.get? a=some _ from x)
 | met f y=>show aI (show h.get? a=some _ from x)
 | ext φ=>obtain⟨_,⟨_,e⟩,_⟩:=x;show aI e
theorem Paired.ac6 {α β:Type}{F G:α->β->Prop}:∀{j:List α} {D:List β},Paired F j D->(∀a b,F a b->G a b)->Paired G j D
 | _,_,.nil,_=>.nil
 | _,_,.cons r t,f=>.cons (f _ _ r) (Paired.ac6 t f)
def gJ.stay (x:gJ P w H h a o)(k:∀b u,(b=a\/H b=some (.own a))->h.get? b=some u->h'.get? b=some u)(j:∀b,H b=some (.own a)->H' b=some (.own a))(ht:∀b xs,H b=some (.tup xs)->H' b=some (.tup xs)):gJ P w H' h' a o:=by
 induction o with
 | lst xs=>let⟨z,its,n,r,e⟩:=x;show⟨z,its,n,r,k _ _ (.inl rL) e⟩
 | tup xs=>let⟨z,its,r,ob,e,c⟩:=x;show⟨z,its,r,ob,k _ _ (.inl rL) e,c⟩
 | dK kvs=>let⟨z,y,vs,r,ob,es,ep,e,c⟩:=x;show⟨z,y,vs,r,ob,es,ep,k _ _ (.inl rL) e,c⟩
 | dT kvs=>let⟨z,y,xs,r,ob,es,ep,e,c⟩:=x;show⟨z,y,xs,Paired.ac6 r λp q z=>⟨z.1,ht _ _ z.2.1,z.2.2⟩,ob,es,ep,k _ _ (.inl rL) e,c⟩
 | set S n=>let⟨ob,es,ep,t,e,c⟩:=x;show⟨ob,es,ep,t,k _ _ (.inl rL) e,c⟩
 | ins C dx fs=>obtain⟨d,z,ne,e,mA,⟨od,es,ep,e2,c⟩,r⟩:=x;show⟨j _ d,z,ne,k _ _ (.inl rL) e,mA,⟨od,es,ep,k _ _ (.inr d) e2,c⟩,r⟩
 | own y=>let⟨ob,e⟩:=x;show⟨ob,k _ _ (.inl rL) e⟩
 | xd fs=>obtain⟨mA,⟨od,es,ep,e,c⟩,r⟩:=x;show⟨mA,⟨od,es,ep,k _ _ (.inl rL) e,c⟩,r⟩
 | rng lo hi=>let⟨t,u,v,e⟩:=x;show⟨t,u,v,k _ _ (.inl rL) e⟩
 | qG ob u ih=>let⟨e,q⟩:=x;show⟨k _ _ (.inl rL) e,ih q⟩
 | Pj ps=>have e:h.get? a=some {cls:=.none,data:=.fields ps}:=x;show h'.get? a=some {cls:=.none,data:=.fields ps};show k a _ (.inl rL) e
 | met f y=>have e:h.get? a=some (W.methodObj (.ref f) (.ref y)):=x;show h'.get? a=some (W.methodObj (.ref f) (.ref y));show k a _ (.inl rL) e
 | ext φ=>obtain⟨p,⟨o,e⟩,st⟩:=x;show⟨st _ _ p λo q=>k _ _ (.inl rL) q,⟨o,k _ _ (.inl rL) e⟩,st⟩
def lD.lt (x:lD P w H h)(e:H a=some o):a<h.objs.size:=(x a o e).lt
def lD.fresh (x:lD P w H h)(e:h.objs.size<=a):H a=none:=by
 cases q:H a with| none=>rfl| some u=>show absurd (cK (x.lt q) e) (fm _)
def lD.kept (x:lD P w H h)(k:∀b u,h.get? b=some u->h'.get? b=some u):lD P w H h':=λa o e=>(x a o e).stay (λb u _ q=>k b u q) (λ_ q=>q) λ_ _ q=>q
def lD.laid (x:lD P w H h)(k:∀b u,h.get? b=some u->h'.get? b=some u)(hp:h.objs.size<=a)(new:gJ P w (upd H a o) h' a o):lD P w (upd H a o) h':=λb u e=>by
 let hn:=x.fresh hp;by_cases hb:b=a;.subst hb;rw[au]at e;cases e;show new
 .rw[aZ hb]at e;show(x b u e).stay (λc v _ q=>k c v q) (λc q=>by rw[aZ (bF q hn)];show q) λc xs q=>by rw[aZ (bF q hn)];show q
end
def Rd (H:Hp)(a:Addr)(u:HO):Prop:=H a=some u\/∃o,H a=some (.qG o u)
def Rd.of (h:H a=some u):Rd H a u:=.inl h
def Rd.ok (r:Rd H a u)(x:lD P w H h):gJ P w H h a u:=by
 rcases r with r|⟨o,r⟩;.show x a u r
 .let⟨_,q⟩:=x a _ r;show q
def Mut:Option HO->Prop
 | some (.lst _)=>True
 | some (.dK _)=>True
 | some (.dT _)=>True
 | some (.set _ _)=>True
 | some (.ins _ _ _)=>True
 | some (.ext _)=>True
 | _=>False
section
variable {P:Program}{w:World}{H:Hp}{h h':Heap}{x e:Addr}{o':HO}
def lD.write (ok:lD P w H h)(F:Mut (H x))(Y:e=x\/H e=some (.own x))(k:∀b u,b≠e->h.get? b=some u->h'.get? b=some u)(J:∃u,h'.get? e=some u)(new:gJ P w (upd H x o') h' x o'):lD P w (upd H x o') h':=λb u q=>by
 let D:∀c y,H c=some (.own y)->c≠x:=λc y r z=>by subst z;rw[r]at F;show F
 let I:∀c xs,H c=some (.tup xs)->c≠x:=λc xs r z=>by subst z;rw[r]at F;show F
 by_cases hb:b=x;.subst hb;rw[au]at q;cases q;show new
 .rw[aZ hb]at q;by_cases j:b=e
  .let O:H b=some (.own x):=by
    rcases Y with z|z;.show absurd (j.trans z) hb
    .rw[j];show z
   rw[q]at O;cases O;let⟨v,Z⟩:=J;show⟨v,by rw[j];show Z⟩
  .refine(ok b u q).stay (λc v G r=>k c v ?_ r) (λc r=>by rw[aZ (D c b r)];show r) λc xs r=>by rw[aZ (I c xs r)];show r
   rcases G with rfl|G;.show j
   .rintro rfl;rcases Y with z|z;.show D c b G z
    .rw[G]at z;cases z;show hb rfl
end
structure Un (fs ex:List Addr)(H H':Hp)(h h':Heap):Prop where
 keep:∀b o,h.get? b=some o->H b=none->b∉fs->b∉ex->h'.get? b=some o
 slot:∀b o,h.get? b=some o->H b=none->b∈fs->b∉ex->∃sl,h'.get? b=some {o with slots:=sl}
 free:∀b o,h.get? b=some o->H b=none->b∉ex->H' b=none
 there:∀b o,h.get? b=some o->b∉ex->∃o',h'.get? b=some o'
 tups:∀b xs,H b=some (.tup xs)->H' b=some (.tup xs)
 qz:∀b o u,H b=some (.qG o u)->H' b=some (.qG o u)
 q_:∀b ps,H b=some (.Pj ps)->∃more,H' b=some (.Pj (ps++more))
section
variable {fs ex:List Addr}{H H1:Hp}{h h1 h':Heap}{a x e:Addr}{o:HO}
def Un.any (u:Un fs ex H H1 h h1)(q:h.get? b=some ob)(n:H b=none)(hx:b∉ex):∃sl,h1.get? b=some {ob with slots:=sl}:=by
 by_cases hb:b∈fs;.show u.slot b ob q n hb hx
 .show⟨ob.slots,u.keep b ob q n hb hx⟩
def Un.kept (k:∀b u,h.get? b=some u->h'.get? b=some u):Un fs ex H H h h':=⟨λb ob q _ _ _=>k b ob q,λb ob q _ _ _=>⟨ob.slots,k b ob q⟩,λ_ _ _ n _=>n,λb ob q _=>⟨ob,k b ob q⟩,λ_ _ q=>q,λ_ _ _ q=>q,λ_ ps q=>⟨#[],by rw[q];simp⟩⟩
def Un.refl:Un fs ex H H h h:=Un.kept λ_ _ q=>q
def Un.laid (k:∀b u,h.get? b=some u->h'.get? b=some u)(hp:h.objs.size<=a)(hn:H a=none):Un fs ex H (upd H a o) h h' where
 keep:=λb u q _ _ _=>k b u q
 slot:=λb u q _ _ _=>⟨u.slots,k b u q⟩
 free:=λb u q n _=>by rw[aZ (cn (cK (aI q) hp))];show n
 there:=λb u q _=>⟨u,k b u q⟩
 tups:=λb xs q=>by rw[aZ (bF q hn)];show q
 qz:=λb u xs q=>by rw[aZ (bF q hn)];show q
 q_:=λb ps q=>⟨#[],by rw[aZ (bF q hn),q];simp⟩
def Un.write (D:Mut (H x))(G:e=x\/H e=some (.own x))(k:∀b u,b≠e->h.get? b=some u->h'.get? b=some u)(F:∃u,h'.get? e=some u):Un fs ex H (upd H x o) h h':=by
 let hx:∀b,H b=none->b≠x:=λb n z=>by subst z;rw[n]at D;show D
 let hb:∀b,H b=none->b≠e:=λb n z=>by
  subst z;rcases G with r|r;.show hx b n r
  .rw[n]at r;cases r
 let hm:∀b u,H b=some u->¬Mut (some u)->b≠x:=λb u q nm z=>by subst z;rw[q]at D;show nm D
 refine⟨λb u q n _ _=>k b u (hb b n) q,λb u q n _ _=>⟨u.slots,k b u (hb b n) q⟩,λb u q n _=>by rw[aZ (hx b n)];show n,λb u q _=>?_,
  λb xs q=>by rw[aZ (hm b _ q λz=>z)];show q,λb u xs q=>by rw[aZ (hm b _ q λz=>z)];show q,λb ps q=>⟨#[],by rw[aZ (hm b _ q λz=>z),q];simp⟩⟩
 by_cases j:b=e;.subst j;show F
 .show⟨u,k b u j q⟩
end
def Pk (h:Heap)(H:Hp):List Addr:=(List.range h.objs.size).filter λa=>(H a).isSome
def Bp (h:Heap)(H:Hp):Heap:=W.hideAll h (Pk h H)
def aaZ (h)(H):(Bp h H).objs.size=h.objs.size:=W.hideAll_size _ _
def ac7 {h:Heap}(e:h.get? b=some o)(n:H b=none):(Bp h H).get? b=some o:=
 W.hideAll_get _ e λhm=>by let q:(H b).isSome=true:=(kM.mp hm).2;rw[n]at q;simp at q
def afD (e:(Bp h H).get? b=some o):h.get? b=some o/\H b=none:=by
 let j:h.get? b=some o:=W.of_hideAll (Pk h H) e;calc⟨j,?_⟩;cases q:H b with| none=>rfl| some x=>have hm:b∈Pk h H:=kM.mpr ⟨gI.mpr (aI j),by simp[q]⟩;let z:(Bp h H).get? b=none:=W.hideAll_none (Pk h H) hm;rw[z]at e;cases e
structure Mod (K:W.Frag)(mg:Str->Option Value)(base:Heap):Prop where
 Ia:K.In base
 glob:base.Ns mainGlobals mg
 blt:∃mb,base.Ns builtinsNs mb/\∀x:Str,x≠"__name__"->mb x=bootBuiltins x
 nolimit:base.NoLimit
structure Cx where
 prog:Program
 w:World
 K:W.Frag
 mg:Str->Option Value
 base:Heap
 A:Around
 N:List Str
 s₀:Shared
 H₀:Hp
 env:Env
 outer:List Env
 stack:List Env
 ex:List Addr
 fn:Str->Bool
 calm:Bool
 pn:List (Addr×Obj)
 xe:Value->Shared->Prop
def frs (l:List Env):List Addr:=l.filterMap (·.frame)
abbrev Cx.fs (X:Cx):List Addr:=frs X.outer
def Xl (sc:Scope)(x:Str):Prop:=sc.names.lookup x=some .local\/sc.names.lookup x=some .cell\/sc.names.lookup x=some .free
def Loc (sc:Scope)(x:Str):Prop:=sc.names.lookup x=some .local\/sc.names.lookup x=some .cell
def Look (env:Env)(h:Heap)(m:Str->Option Value)(x:Str)(u:Value):Prop:=(env.kindOf x=some .local/\m x=some u)\/((env.kindOf x=some .cell\/env.kindOf x=some .free)/\∃c,env.cells.lookup x=some c/\h.IsCell c (some u))
structure Cx.Ok (X:Cx):Prop where
 mod:Mod X.K X.mg X.base
 kind:X.env.scope.kind=.function
 glob:X.env.globals=mainGlobals
 blt:X.env.builtins=builtinsNs
 above:X.s₀.heap.objs.size<=X.env.locals
 inj:∀x y c,X.env.cells.lookup x=some c->X.env.cells.lookup y=some c->x=y
 has:∀x,(X.env.kindOf x=some .cell\/X.env.kindOf x=some .free)->∃c,X.env.cells.lookup x=some c
 cab:∀x c,X.fn x=true->X.env.cells.lookup x=some c->X.s₀.heap.objs.size<=c
 hd:X.calm=true->X.A.handled=none
 frames:X.A.frames=some X.stack
 stk:X.stack=X.outer\/(X.stack=X.env::X.outer/\X.env.frame=some X.env.locals)
 exf:∀b∈X.ex,b≠X.env.locals/\∀x c,X.env.cells.lookup x=some c->c≠b
 bs:∀b o,X.base.get? b=some o->X.s₀.heap.get? b=some o/\X.H₀ b=none
 Ds:X.base.objs.size<=X.s₀.heap.objs.size
 DR:∀b o,X.base.get? b=some o->b∉X.ex
 Iz:∀b∈X.ex,b∉X.fs
 qC:X.s₀.heap.FunFrames X.base X.outer
 DW:∀b∈X.fs,X.H₀ b=none
structure aV (X:Cx)(ao:AH)(σ:List (Option V))(H:Hp)(s:Shared):Prop where
 ok:X.Ok
 os:s.os=X.s₀.os
 bare:AllBare s.gens
 base:Un X.fs X.ex X.H₀ H X.s₀.heap s.heap
 loc:∃m,s.heap.Ns X.env.locals m/\∀(i:Nat) (x:Str) (v:V),X.N[i]?=some x->σ[i]?=some (some v)->Xl X.env.scope x->∃u,cR v u/\Look X.env s.heap m x u
 cell:∀x c,X.env.cells.lookup x=some c->∃v,s.heap.IsCell c v
 free:H X.env.locals=none
 nF:∀x c,X.env.cells.lookup x=some c->H c=none
 pin:∀p∈X.pn++ao,s.heap.get? p.1=some p.2/\H p.1=none/\p.1≠X.env.locals/\p.1∉X.fs/\∀v,p.2.data≠.cell v
 hok:lD X.prog X.w H s.heap
 len:σ.length=X.N.length
section
variable {X:Cx}{ao:AH}{σ:List (Option V)}{H H':Hp}{s:Shared}{h':Heap}
def Cx.Ok.akR (ok:X.Ok)(e:X.base.get? b=some o):b∉X.fs:=λhb=>by have:=(ok.qC.mem hb).1;rw[e]at this;cases this
def aV.bs (I:aV X ao σ H s):∀b o,X.base.get? b=some o->s.heap.get? b=some o/\H b=none:=λb o e=>⟨I.base.keep b o (I.ok.bs b o e).1 (I.ok.bs b o e).2 (I.ok.akR e) (I.ok.DR b o e),I.base.free b o (I.ok.bs b o e).1 (I.ok.bs b o e).2 (I.ok.DR b o e)⟩
def aV.bk (I:aV X ao σ H s):∀b o,X.base.get? b=some o->s.heap.get? b=some o:=λb o e=>(I.bs b o e).1
def aV.mod (I:aV X ao σ H s):Mod X.K X.mg X.base:=I.ok.mod
def aV.iV (I:aV X ao σ H s):X.K.In s.heap:=I.ok.mod.Ia.keeps I.bk
def aV.lt (I:aV X ao σ H s):X.env.locals<s.heap.objs.size:=let ⟨_,hn,_⟩:=I.loc;hn.lt
def aV.sz (I:aV X ao σ H s):X.s₀.heap.objs.size<=s.heap.objs.size:=bE I.ok.above (am I.lt)
def aV.akS (I:aV X ao σ H s){a:Addr}(h:s.heap.objs.size<=a):a∉X.fs:=λhb=>by let⟨_,o,j,_⟩:=I.ok.qC.mem hb;show absurd (cK (aI j) (bE I.sz h)) (fm _)
def aV.Ib (I:aV X ao σ H s):∀x c,X.env.cells.lookup x=some c->c≠X.env.locals:=λx c e z=>by let⟨v,o,F,hd⟩:=I.cell x c e;obtain⟨m,⟨o',es,ep,j,D,_⟩,_⟩:=I.loc;rw[z,j]at F;cases F;rw[D]at hd;cases hd
def aV.qC (I:aV X ao σ H s):s.heap.FunFrames X.base X.outer:=by
 let all:∀(l:List Env),(∀b∈frs l,b∈X.fs)->X.s₀.heap.FunFrames X.base l->s.heap.FunFrames X.base l:=by
  intro l
  induction l with| nil=>intro _ _;trivial| cons env r ih=>intro hs hl;obtain⟨G,⟨L,o,j,hn,F,hd⟩,J⟩:=hl;let D:L∈X.fs:=hs L (by unfold frs;rw[kL,j];show cq);let⟨sl,e⟩:=I.base.slot L o F (I.ok.DW L D) D λz=>I.ok.Iz L z D;show⟨G,⟨L,_,j,hn,e,hd⟩,ih (λb hb=>hs b (by unfold frs;rw[kL,j];show bz _ hb)) J⟩
 show all X.outer (λ_ hb=>hb) I.ok.qC
def aV.stack (I:aV X ao σ H s):s.heap.FunFrames X.base X.stack:=by
 rcases I.ok.stk with e|⟨e,j⟩;.rw[e];show I.qC
 .rw[e];let⟨m,hn,_⟩:=I.loc;calc .cons (by rw[I.ok.kind];decide) j hn ?_ I.qC;show Heap.get?_none_of_le (bE I.ok.Ds I.ok.above)
def aV.Km (I:aV X ao σ H s):∀b∈frs X.stack,b∈X.env.locals::X.fs:=λb hb=>by
 rcases I.ok.stk with e|⟨e,j⟩;.rw[e]at hb;show bz _ hb
 .rw[e]at hb;unfold frs at hb;rw[kL,j]at hb;show hb
def aV.Af (I:aV X ao σ H s):∀b∈frs X.stack,H b=none:=λb hb=>by
 rcases bX.mp (I.Km b hb) with e|hb;.rw[e];show I.free
 .let⟨_,o,j,_⟩:=I.ok.qC.mem hb;show I.base.free b o j (I.ok.DW b hb) λz=>I.ok.Iz b z hb
def aV.step {g':Array GenState}{t':Nat}{d':Drawn}{ch:List Addr}(I:aV X ao σ H s)(F:∀b∈ch,(b∈X.ex\/X.s₀.heap.objs.size<=b)/\b≠X.env.locals/\(∀x c,X.env.cells.lookup x=some c->c≠b)/\∀p∈X.pn++ao,p.1≠b)(keep:∀b o,b≠X.env.locals->b∉X.fs->b∉ch->s.heap.get? b=some o->H b=none->h'.get? b=some o)(slot:∀b o,b≠X.env.locals->b∈X.fs->b∉ch->s.heap.get? b=some o->H b=none->∃sl,h'.get? b=some {o with slots:=sl})(free:∀b o,b∉ch->s.heap.get? b=some o->H b=none->H' b=none)(there:∀b o,b∉ch->s.heap.get? b=some o->∃o',h'.get? b=some o')(tups:∀b xs,H b=some (.tup xs)->H' b=some (.tup xs))(qz:∀b o u,H b=some (.qG o u)->H' b=some (.qG o u))(q_:∀b ps,H b=some (.Pj ps)->∃more,H' b=some (.Pj (ps++more)))(ns:∀m,s.heap.Ns X.env.locals m->h'.Ns X.env.locals m)(hok:lD X.prog X.w H' h')(hg:AllBare g'):aV X ao σ H' {s with heap:=h',gens:=g',drawn:=d',toks:=t' }:=by
 let J:∀b o,X.s₀.heap.get? b=some o->b≠X.env.locals:=λb o e=>cn (cK (aI e) I.ok.above);let O:∀b o,X.s₀.heap.get? b=some o->b∉X.ex->b∉ch:=λb o e hx hb=>by
  rcases(F b hb).1 with z|z;.show hx z
  .show absurd (cK (aI e) z) (fm _)
 let j:∀x c,X.env.cells.lookup x=some c->∀v,s.heap.IsCell c v->h'.IsCell c v:=λx c e v ⟨o,G,hd⟩=>by
  let D:c∉ch:=λz=>(F c z).2.2.1 x c e rfl;by_cases Z:c∈X.fs
  .let⟨sl,q⟩:=slot c o (I.Ib x c e) Z D G (I.nF x c e);show⟨_,q,hd⟩
  .show⟨o,keep c o (I.Ib x c e) Z D G (I.nF x c e),hd⟩
 calc⟨I.ok,I.os,hg,⟨λb o e n hb hx=>?_,λb o e n hb hx=>?_,λb o e n hx=>?_,λb o e hx=>?_,λb xs e=>tups b xs (I.base.tups b xs e),λb o xs e=>qz b o xs (I.base.qz b o xs e),λb ps e=>?_⟩,?_,λx c e=>?_,?_,λx c e=>?_,λp hp=>?_,hok,I.len⟩;.show keep b o (J b o e) hb (O b o e hx) (I.base.keep b o e n hb hx) (I.base.free b o e n hx)
 .let⟨sl,e1⟩:=I.base.slot b o e n hb hx;let⟨Y,e2⟩:=slot b _ (J b o e) hb (O b o e hx) e1 (I.base.free b o e n hx);show⟨Y,e2⟩
 .let⟨o',e1⟩:=I.base.there b o e hx;show free b o' (O b o e hx) e1 (I.base.free b o e n hx)
 .let⟨o',e1⟩:=I.base.there b o e hx;show there b o' (O b o e hx) e1
 .let⟨m1,e1⟩:=I.base.q_ b ps e;let⟨m2,e2⟩:=q_ b _ e1;show⟨m1++m2,by rw[e2,Array.append_assoc]⟩
 .let⟨m,hn,hl⟩:=I.loc;calc⟨m,ns m hn,λi x v e1 e2 e3=>?_⟩;let⟨u,r,l⟩:=hl i x v e1 e2 e3;calc⟨u,r,?_⟩;rcases l with l|⟨k,c,e,z⟩;.show .inl l
  .show .inr ⟨k,c,e,j x c e _ z⟩
 .let⟨v,z⟩:=I.cell x c e;show⟨v,j x c e v z⟩
 .obtain⟨m,⟨o,_,_,G,_⟩,_⟩:=I.loc;show free _ o (λz=>(F _ z).2.1 rL) G I.free
 .let⟨v,o,G,hd⟩:=I.cell x c e;show free c o (λz=>(F c z).2.2.1 x c e rL) G (I.nF x c e)
 .let⟨e,n,ne,nf,d⟩:=I.pin p hp;let D:p.1∉ch:=λz=>(F p.1 z).2.2.2 p hp rfl;show⟨keep p.1 p.2 ne nf D e n,free p.1 p.2 D e n,ne,nf,d⟩
def aV.un (I:aV X ao σ H s)(u:Un X.fs [] H H' s.heap h')(hok:lD X.prog X.w H' h'):aV X ao σ H' {s with heap:=h',toks:=t' }:=by
 obtain⟨m,⟨o,es,ep,G,r⟩,_⟩:=id I.loc;let⟨sl,O⟩:=u.any G I.free qa;show I.step (g':=s.gens) (d':=s.drawn) (ch:=[]) (λ_ z=>nomatch z) (λb o _ hb _ e n=>u.keep b o e n hb qa) (λb o _ hb _ e n=>u.slot b o e n hb qa) (λb o _ e n=>u.free b o e n qa) (λb o _ e=>u.there b o e qa) u.tups u.qz u.q_ (λY hm=>by let⟨o',D,F,j,J⟩:=hm;rw[G]at j;cases j;show⟨_,D,F,O,J⟩) hok I.bare
def aV.call (I:aV X ao σ H s)(u:Un (frs X.stack) ch H H' s.heap h')(hok:lD X.prog X.w H' h')(hg:AllBare g')(F:∀b∈ch,(b∈X.ex\/X.s₀.heap.objs.size<=b)/\b≠X.env.locals/\(∀x c,X.env.cells.lookup x=some c->c≠b)/\∀p∈X.pn++ao,p.1≠b):aV X ao σ H' {s with heap:=h',gens:=g',drawn:=d',toks:=t' }:=by
 obtain⟨m,⟨o,es,ep,Y,r⟩,_⟩:=id I.loc;let⟨sl,J⟩:=u.any Y I.free λz=>(F _ z).2.1 rfl;show I.step (ch:=ch) F (λb o J hb j e n=>u.keep b o e n (λz=>(bX.mp (I.Km b z)).elim J hb) j) (λb o _ _ j e n=>u.any e n j) (λb o j e n=>u.free b o e n j) (λb o j e=>u.there b o e j) u.tups u.qz u.q_ (λm' hm=>by let⟨o',G,O,D,Z⟩:=hm;rw[Y]at D;cases D;show⟨_,G,O,J,Z⟩) hok hg
def aV.turned (I:aV X ao σ H s)(k:∀b o,b≠it->s.heap.get? b=some o->h'.get? b=some o)(hn:H it=none)(F:it≠X.env.locals)(h1:it∈X.ex\/X.s₀.heap.objs.size<=it)(h2:∀x c,X.env.cells.lookup x=some c->c≠it)(h3:∀p∈X.pn++ao,p.1≠it):aV X ao σ H {s with heap:=h',toks:=t' }:=by
 let D:∀b u,H b=some u->b≠it:=λb u e z=>by rw[z,hn]at e;cases e
 refine I.step (g':=s.gens) (d':=s.drawn) (ch:=[it]) (λb hb=>?_) (λb o _ _ j e _=>k b o (λz=>j (by simp[z])) e) (λb o _ _ j e _=>⟨o.slots,k b o (λz=>j (by simp[z])) e⟩) (λ_ _ _ _ n=>n)
  (λb o j e=>⟨o,k b o (λz=>j (by simp[z])) e⟩) (λ_ _ e=>e) (λ_ _ _ e=>e) (λb ps e=>⟨#[],by rw[e];simp⟩) (λm hm=>?_) (λb u e=>?_) I.bare
 .let e:b=it:=by simpa using hb
  subst e;show⟨h1,F,h2,h3⟩
 .let⟨o,es,ep,G,r⟩:=hm;show⟨o,es,ep,k _ o (gf F) G,r⟩
 .refine(I.hok b u e).stay (λc v j q=>k c v ?_ q) (λ_ q=>q) λ_ _ q=>q
  rcases j with z|z;.rw[z];show D b u e
  .show D c _ z
def aV.tok (I:aV X ao σ H s)(t):aV X ao σ H {s with toks:=t}:=I.un (h':=s.heap) (t':=t) Un.refl I.hok
def aV.kept (I:aV X ao σ H s)(k:∀b u,s.heap.get? b=some u->h'.get? b=some u):aV X ao σ H {s with heap:=h',toks:=t' }:=I.un (Un.kept k) (I.hok.kept k)
def aV.laid {a:Addr}{o:HO}{t':Nat}(I:aV X ao σ H s)(k:∀b u,s.heap.get? b=some u->h'.get? b=some u)(hp:s.heap.objs.size<=a)(new:gJ X.prog X.w (upd H a o) h' a o):aV X ao σ (upd H a o) {s with heap:=h',toks:=t' }:=I.un (Un.laid k hp (I.hok.fresh hp)) (I.hok.laid k hp new)
def aV.write (I:aV X ao σ H s)(D:Mut (H x))(F:e=x\/H e=some (.own x))(k:∀b u,b≠e->s.heap.get? b=some u->h'.get? b=some u)(j:∃u,h'.get? e=some u)(new:gJ X.prog X.w (upd H x o) h' x o):aV X ao σ (upd H x o) {s with heap:=h',toks:=t' }:=I.un (Un.write D F k j) (I.hok.write D F k j new)
def aV.Xm (I:aV X ao σ H s)(h:∀p∈G6,s.heap.get? p.1=some p.2/\H p.1=none/\p.1≠X.env.locals/\p.1∉X.fs/\∀v,p.2.data≠.cell v):aV X G6 σ H s:=⟨I.ok,I.os,I.bare,I.base,I.loc,I.cell,I.free,I.nF,λp hp=>(bq.mp hp).elim (λz=>I.pin p (mn _ z)) (h p),I.hok,I.len⟩
def IK {N:List Str}(D:N.Nodup){i j:Nat}{x:Str}(a:N[i]?=some x)(b:N[j]?=some x):i=j:=by let⟨h1,e1⟩:=ah.mp a;let⟨h2,e2⟩:=ah.mp b;show(List.getElem_inj D).mp (e1.trans e2.symm)
def Pq (I:aV X ao σ H s)(hN:X.N.Nodup)(hi:X.N[i]?=some x)(hx:Loc X.env.scope x)(r:cR v u)(h:∀s',aV X ao (σ.set i (some v)) H s'->(∃a,Heap.SameBut a s.heap s'.heap/\(a=X.env.locals\/X.env.cells.lookup x=some a))->(∃m,s'.heap.Ns X.env.locals m/\Look X.env s'.heap m x u)->Q () s')(hf:X.fn x=true\/X.env.scope.names.lookup x=some .local:=by first|show .inl rfl|show .inr rfl|assumption):wpAny M A (storeName X.env x u) Q E s:=by
 let⟨m,hn,hl⟩:=id I.loc;let hcls:(X.env.scope.kind == .class||(X.env.scope.kind == .module&&X.env.locals != X.env.globals))=false:=by rw[I.ok.kind];rfl
 let hiσ:i<σ.length:=by rw[I.len];show(ah.mp hi).1
 let Ib:=I.Ib;let F:∀{a:Addr} {h':Heap},(∃o,s.heap.get? a=some o/\H a=none)->Heap.SameBut a s.heap h'->lD X.prog X.w H h':=λ{a h'} ha hs b ob e=>by
  let⟨_,_,G⟩:=ha;calc(I.hok b ob e).stay (λc w' D q=>(hs.2 c ?_).trans q) (λ_ q=>q) λ_ _ q=>q;rintro rfl;rcases D with rfl|D
  .rw[G]at e;cases e
  .rw[G]at D;cases D
 rcases hx with hk|hk
 .calc wpAny_storeName_local hk hn (λh' hn' hs=>?_) hcls;let⟨oL,_,_,hoL,_⟩:=id hn;calc h _ ⟨I.ok,I.os,I.bare,⟨λb o e n hb hx=>?_,λb o e n hb hx=>?_,I.base.free,λb o e hx=>?_,I.base.tups,I.base.qz,I.base.q_⟩,⟨_,hn',λj y v' e1 e2 e3=>?_⟩,λy c e=>?_,I.free,I.nF,λp hp=>?_,F ⟨oL,hoL,I.free⟩ hs,by simpa using I.len⟩ ⟨_,hs,.inl rL⟩ ⟨_,hn',.inl ⟨hk,qa⟩⟩;.show(hs.2 b (cn (cK (aI e) I.ok.above))).trans (I.base.keep b o e n hb hx)
  .let⟨sl,e1⟩:=I.base.slot b o e n hb hx;show⟨sl,(hs.2 b (cn (cK (aI e) I.ok.above))).trans e1⟩
  .let⟨o',e1⟩:=I.base.there b o e hx;show⟨o',(hs.2 b (cn (cK (aI e) I.ok.above))).trans e1⟩
  .by_cases J:j=i
   .subst J;rw[hi]at e1;cases e1;rw[jI hiσ]at e2;cases e2;show⟨u,r,.inl ⟨hk,qa⟩⟩
   .rw[kr (gf J)]at e2;let⟨u',r',q⟩:=hl j y v' e1 e2 e3;calc⟨u',r',?_⟩;rcases q with⟨k,e⟩|⟨k,c,e,z⟩
    .calc .inl ⟨k,?_⟩;have:y≠x:=λe=>J (IK hN e1 (e ▸ hi));simp[this,e]
    .show .inr ⟨k,c,e,z.sameBut hs (Ib y c e)⟩
  .let⟨w',z⟩:=I.cell y c e;show⟨w',z.sameBut hs (Ib y c e)⟩
  .let⟨e,n,ne,nf,d⟩:=I.pin p hp;show⟨(hs.2 p.1 ne).trans e,n,ne,nf,d⟩
 .let Y:X.fn x=true:=by
   rcases hf with z|z;.show z
   .rw[z]at hk;cases hk
  let⟨c,D⟩:=I.ok.has x (.inl hk);let⟨w',z⟩:=I.cell x c D;calc wpAny_storeName_cell I.ok.kind hk D z (λh' O hs=>?_);let⟨oc,hoc,akT⟩:=id z;calc h {s with heap:=h' } ⟨I.ok,I.os,I.bare,⟨λb o e n hb hx=>?_,λb o e n hb hx=>?_,I.base.free,λb o e hx=>?_,I.base.tups,I.base.qz,I.base.q_⟩,⟨m,hn.sameBut hs (gf (Ib x c D)),λj y v' e1 e2 e3=>?_⟩,λy c' e=>?_,I.free,I.nF,λp hp=>?_,F ⟨oc,hoc,I.nF x c D⟩ hs,by simpa using I.len⟩ ⟨c,hs,.inr D⟩ ⟨m,hn.sameBut hs (gf (Ib x c D)),.inr ⟨.inl hk,c,D,O⟩⟩;.show(hs.2 b (cn (cK (aI e) (I.ok.cab x c Y D)))).trans (I.base.keep b o e n hb hx)
  .let⟨sl,e1⟩:=I.base.slot b o e n hb hx;show⟨sl,(hs.2 b (cn (cK (aI e) (I.ok.cab x c Y D)))).trans e1⟩
  .let⟨o',e1⟩:=I.base.there b o e hx;show⟨o',(hs.2 b (cn (cK (aI e) (I.ok.cab x c Y D)))).trans e1⟩
  .by_cases J:j=i
   .subst J;rw[hi]at e1;cases e1;rw[jI hiσ]at e2;cases e2;show⟨u,r,.inr ⟨.inl hk,c,D,O⟩⟩
   .rw[kr (gf J)]at e2;let⟨u',r',q⟩:=hl j y v' e1 e2 e3;calc⟨u',r',?_⟩;rcases q with q|⟨k,c',e,z'⟩;.show .inl q
    .calc .inr ⟨k,c',e,z'.sameBut hs ?_⟩;rintro rfl;show J (IK hN e1 (I.ok.inj _ _ _ e D ▸ hi))
  .by_cases Z:c'=c;.subst Z;show⟨_,O⟩
   .let⟨w2,z2⟩:=I.cell y c' e;show⟨w2,z2.sameBut hs Z⟩
  .let⟨e,n,ne,nf,d⟩:=I.pin p hp;calc⟨(hs.2 p.1 ?_).trans e,n,ne,nf,d⟩;intro q;rw[q,hoc]at e;let q':oc=p.2:=bo e;show d w' (by rw[<-q'];show akT)
def IV (I:aV X ao σ H s)(F:X.N.Nodup)(hi:X.N[i]?=some x)(hx:Loc X.env.scope x)(r:cR v u)(h:∀s',aV X ao (σ.set i (some v)) H s'->Q () s')(D:X.fn x=true\/X.env.scope.names.lookup x=some .local:=by first|show .inl rfl|show .inr rfl|assumption):wpAny M A (storeName X.env x u) Q E s:=Pq I F hi hx r (λs' j _ _=>h s' j) D
def aV.call' {s':Shared}(I:aV X ao σ H s)(D:s'.os=s.os)(u:Un (frs X.stack) ch H H' s.heap s'.heap)(hok:lD X.prog X.w H' s'.heap)(F:AllBare s'.gens)(j:∀b∈ch,(b∈X.ex\/X.s₀.heap.objs.size<=b)/\b≠X.env.locals/\(∀x c,X.env.cells.lookup x=some c->c≠b)/\∀p∈X.pn++ao,p.1≠b):aV X ao σ H' s':=by let⟨h',g',d',t',o'⟩:=s';let e:o'=s.os:=D;subst e;show I.call (g':=g') (t':=t') (d':=d') u hok F j
end
abbrev XK:=Value->Option Addr->Hp->Prop
abbrev St:=List (Option V)
abbrev VK:=V->Hp->Prop
abbrev TE:=St->Hp->VK->Prop
abbrev TT:=St->Hp->(Bool->Hp->Prop)->Prop
abbrev TA:=St->Hp->(List V->Hp->Prop)->Prop
structure Ends where
 nx:St->Hp->Prop
 rt:VK
 bk:St->Hp->Prop:=λ_ _=>False
 ct:St->Hp->Prop:=λ_ _=>False
abbrev TS:=Ends->St->Hp->Prop
def EP (X:Cx)(ao:AH)(σ:St)(Q:VK)(u:Value)(s':Shared):Prop:=∃v H',aV X ao σ H' s'/\cR v u/\Q v H'
def TP (X:Cx)(ao:AH)(σ:St)(Q:Bool->Hp->Prop)(b:Bool)(s':Shared):Prop:=∃H',aV X ao σ H' s'/\Q b H'
def AP (X:Cx)(ao:AH)(σ:St)(Q:List V->Hp->Prop)(us:List Value)(s':Shared):Prop:=∃vs H',aV X ao σ H' s'/\Vals vs us/\Q vs H'
def SP (X:Cx)(ao:AH)(D:Ends)(f:Flow)(s':Shared):Prop:=match f with| .next=>∃σ' H',aV X ao σ' H' s'/\D.nx σ' H'| .brk=>∃σ' H',aV X ao σ' H' s'/\D.bk σ' H'| .cont=>∃σ' H',aV X ao σ' H' s'/\D.ct σ' H'| .ret u=>∃v σ' H',aV X ao σ' H' s'/\cR v u/\D.rt v H'
def PE (X:Cx)(e:Expr)(t:TE):Prop:=∀(ao:AH) (s:Shared) (σ:St) (H:Hp) (Q:VK),aV X ao σ H s->t σ H Q->wpAny (model X.prog X.w) X.A (eval e X.env) (EP X ao σ Q) X.xe s
def PT (X:Cx)(e:Expr)(t:TT):Prop:=∀(ao:AH) (s:Shared) (σ:St) (H:Hp) (Q:Bool->Hp->Prop),aV X ao σ H s->t σ H Q->wpAny (model X.prog X.w) X.A (isTrue e X.env (eval e X.env)) (TP X ao σ Q) X.xe s
def PW (X:Cx)(e:Expr)(t:TT):Prop:=∀(j:Sem Value) (ao:AH) (s:Shared) (σ:St) (H:Hp) (Q:Bool->Hp->Prop),aV X ao σ H s->t σ H Q->wpAny (model X.prog X.w) X.A (isTrue e X.env j) (TP X ao σ Q) X.xe s
def PW.pt (h:PW X e t):PT X e t:=h _
def PA (X:Cx)(es:List Expr)(t:TA):Prop:=∀(pos:Pos) (ao:AH) (s:Shared) (σ:St) (H:Hp) (Q:List V->Hp->Prop),aV X ao σ H s->t σ H Q->wpAny (model X.prog X.w) X.A (spliced (backTo pos (starEach es X.env))) (AP X ao σ Q) X.xe s
def PS (X:Cx)(st:Stmt)(t:TS):Prop:=∀(ao:AH) (s:Shared) (σ:St) (H:Hp) (D:Ends),aV X ao σ H s->t D σ H->wpAny (model X.prog X.w) X.A (exec st X.env) (SP X ao D) X.xe s
def vX (X:Cx)(st:List Stmt)(t:TS):Prop:=∀(ao:AH) (s:Shared) (σ:St) (H:Hp) (D:Ends),aV X ao σ H s->t D σ H->wpAny (model X.prog X.w) X.A (execs st X.env) (SP X ao D) X.xe s
def cH {α:Type}{t:Sem α}{Q j:α->Shared->Prop}(h:wpAny M A t Q E s)(D:∀a s,Q a s->j a s):wpAny M A t j E s:=eI h D λ_ _ x=>x
section
variable {X:Cx}
def Zj (i:Nat):TE:=λσ H Q=>∃v,σ[i]?=some (some v)/\Q v H
def tC (v:V):TE:=λ_ H Q=>Q v H
def ahu {i:Nat}{x:Str}{pos:Pos}(O:X.N[i]?=some x)(Y:Xl X.env.scope x)(hd:(x==("__debug__":Str))=false:=by decide)(G:(x==("__classdict__":Str))=false:=by decide):PE X (.Name x pos) (Zj i):=by
 intro ao s σ H Q I h;let⟨v,e,h⟩:=h;let⟨m,hn,hl⟩:=I.loc;let⟨u,r,l⟩:=hl i x v O e Y;let D:EP X ao σ Q u s:=⟨v,H,I,r,h⟩
 rcases l with⟨F,hm⟩|⟨F,c,J,j⟩;.show mo (wpAny_loadName_local I.ok.kind F hn hm D) hd
 .rcases F with F|F;.show mo (wpAny_loadName_cell I.ok.kind F J j D) hd
  .show mo (wpAny_loadName_free I.ok.kind F J j D G) hd
def ahv {i j pos}:PE X (.Constant (.int i) j pos) (tC (.int i)):=λ_ _ _ H _ I h=>wpAny_Constant_int ⟨.int i,H,I.tok _,⟨_,rL⟩,h⟩
def aj3 {b j pos}:PE X (.Constant (.bool b) j pos) (tC (.bl b)):=λ_ _ _ H _ I h=>Constant_bool ⟨.bl b,H,I,rL,h⟩
def ahw {j pos}:PE X (.Constant .none j pos) (tC .non):=λ_ _ _ H _ I h=>Constant_none ⟨.non,H,I,rL,h⟩
def ahx {x j pos}:PE X (.Constant (.str x) j pos) (tC (.str x)):=λ_ _ _ H _ I h=>Calls.Constant_str ⟨.str x,H,I.tok _,⟨_,rL⟩,h⟩
def Gl (X:Cx)(x:Str):Prop:=X.env.kindOf x=some .globalImplicit
def o8 {E:AF}{ao:AH}{s:Shared}{σ:St}{H:Hp}{x:Str}{u:Value}{pos:Pos}{Q:AF}(I:aV X ao σ H s)(j:Gl X x)(hm:X.mg x=some u)(h:Q u s)(hd:(x==("__debug__":Str))=false:=by decide):wpAny (model X.prog X.w) X.A (eval (.Name x pos) X.env) Q E s:=Calls.Name_function_global I.ok.kind j (Calls.loadGlobal_global (by rw[I.ok.glob];show I.mod.glob.keeps I.bk) hm h) hd
def rM {E:AF}{ao:AH}{s:Shared}{σ:St}{H:Hp}{x:Str}{u:Value}{pos:Pos}{Q:AF}(I:aV X ao σ H s)(D:Gl X x)(hm:X.mg x=none)(j:bootBuiltins x=some u)(h:Q u s)(hn:x≠"__name__":=by decide)(hd:(x==("__debug__":Str))=false:=by decide):wpAny (model X.prog X.w) X.A (eval (.Name x pos) X.env) Q E s:=by let⟨mb,h1,h2⟩:=I.mod.blt;show Calls.Name_function_global I.ok.kind D (Calls.loadGlobal_builtin (by rw[I.ok.glob];show I.mod.glob.keeps I.bk) hm (by rw[I.ok.blt];show h1.keeps I.bk) ((h2 x hn).trans j) h) hd
def afE (j:Gl X x)(hm:X.mg x=some u)(r:cR v u)(hd:(x==("__debug__":Str))=false:=by decide):PE X (.Name x pos) (tC v):=λ_ _ _ H _ I h=>o8 I j hm ⟨v,H,I,r,h⟩ hd
def afF {x:Str}{v:V}{u:Value}{pos:Pos}(D:Gl X x)(hm:X.mg x=none)(j:bootBuiltins x=some u)(r:cR v u)(hn:x≠"__name__":=by decide)(hd:(x==("__debug__":Str))=false:=by decide):PE X (.Name x pos) (tC v):=λ_ _ _ H _ I h=>rM I D hm j ⟨v,H,I,r,h⟩ hn hd
variable {a b:Expr}{ta tb:TE}{pos:Pos}
def PC (X:Cx)(op:CmpOp)(a b:Expr)(t:TE):Prop:=∀(ao:AH) (s:Shared) (σ:St) (H:Hp) (Q:VK),aV X ao σ H s->t σ H Q->
  wpAny (model X.prog X.w) X.A (eval a X.env) (λv j=>wpAny (model X.prog X.w) X.A (eval b X.env) (λu D=>wpAny (model X.prog X.w) X.A (compareOp op v u) (EP X ao σ Q) X.xe D) X.xe j) X.xe s
def tB (t:TE):TT:=λσ H Q=>t σ H λx H1=>∃c,x=.bl c/\Q c H1
def ahy (h:PC X op a b t)(h1:behindInMarks op b=false:=by first|show ac8 _ qc qc|rfl):PE X (.Compare a [op] [b] pos) t:=λao s σ H Q I hw=>wpAny_Compare1 (h ao s σ H Q I hw) h1
def ahz (h:PE X e t)(G:∀j,isTrue e X.env j=(do let v <- j;standAt e.pos;holding [v] (truthy v)):=by intro _;rfl):PT X e (tB t):=by intro ao s σ H Q I hw;calc isTrue_plain (cH (h ao s σ H _ I hw) λv s1 D=>?_) (G _);let⟨x,H1,F,r1,q1⟩:=D;let⟨d,rfl,q⟩:=q1;cases r1;show e_ ⟨H1,F,q⟩
variable {tA qH:TT}{rest:List Expr}
def ahA (t u:TT):TT:=λσ H Q=>t σ H λc H1=>if c=true then u σ H1 Q else Q false H1
def tOr (t u:TT):TT:=λσ H Q=>t σ H λc H1=>if c=true then Q true H1 else u σ H1 Q
def ahB (t:TT):TT:=λσ H Q=>t σ H λc H1=>Q (!c) H1
def afG (ha:PT X a tA):PW X (.BoolOp .And [a] pos) tA:=by
 intro j ao s σ H Q I h;calc isTrue_and (cH (ha ao s σ H Q I h) λc s1 e=>?_);cases c with| true=>show isTrue_and_nil e| false=>show e
def ahC (ha:PT X a tA):PW X (.BoolOp .Or [a] pos) tA:=by
 intro j ao s σ H Q I h;calc isTrue_or (cH (ha ao s σ H Q I h) λc s1 e=>?_);cases c with| false=>show isTrue_or_nil e| true=>show e
def ahD (ha:PT X a tA)(hb:PW X (.BoolOp .And (b::rest) pos) qH):PW X (.BoolOp .And (a::b::rest) pos) (ahA tA qH):=by
 intro D ao s σ H Q I h;calc isTrue_and (cH (ha ao s σ H _ I h) λc s1 F=>?_);let⟨H1,j,q1⟩:=F;cases c with| true=>show hb D ao s1 σ H1 Q j q1| false=>show⟨H1,j,q1⟩
def aj4 (ha:PT X a tA)(hb:PW X (.BoolOp .Or (b::rest) pos) qH):PW X (.BoolOp .Or (a::b::rest) pos) (tOr tA qH):=by
 intro D ao s σ H Q I h;calc isTrue_or (cH (ha ao s σ H _ I h) λc s1 F=>?_);let⟨H1,j,q1⟩:=F;cases c with| true=>show⟨H1,j,q1⟩| false=>show hb D ao s1 σ H1 Q j q1
def ahE (ha:PT X a tA):PT X (.UnaryOp .Not a pos) (ahB tA):=by intro ao s σ H Q I h;show isTrue_not (ha ao s σ H (λc H1=>Q (!c) H1) I h)
def ae7 (ta tb:TE):TE:=λσ H Q=>ta σ H λx H1=>∃c,x=.bl c/\if c=true then tb σ H1 Q else Q (.bl false) H1
def ahF (ta tb:TE):TE:=λσ H Q=>ta σ H λx H1=>∃c,x=.bl c/\if c=true then Q (.bl true) H1 else tb σ H1 Q
def ae8 (ta:TE):TE:=λσ H Q=>ta σ H λx H1=>∃c,x=.bl c/\Q (.bl (!c)) H1
def ahG {op}(h:PE X a t):PE X (.BoolOp op [a] pos) t:=λao s σ H Q I hw=>BoolOp_one (h ao s σ H Q I hw)
def ahH (ha:PE X a ta)(hb:PE X (.BoolOp .And (b::rest) pos) tb):PE X (.BoolOp .And (a::b::rest) pos) (ae7 ta tb):=by
 intro ao s σ H Q I h;calc BoolOp_and (cH (ha ao s σ H _ I h) λv s1 D=>?_);let⟨x,H1,j,r1,q1⟩:=D;let⟨c,rfl,q1⟩:=q1;cases r1;calc e_ ?_;cases c with| true=>show hb ao s1 σ H1 Q j q1| false=>show⟨.bl false,H1,j,rL,q1⟩
def aj5 (ha:PE X a ta)(hb:PE X (.BoolOp .Or (b::rest) pos) tb):PE X (.BoolOp .Or (a::b::rest) pos) (ahF ta tb):=by
 intro ao s σ H Q I h;calc BoolOp_or (cH (ha ao s σ H _ I h) λv s1 D=>?_);let⟨x,H1,j,r1,q1⟩:=D;let⟨c,rfl,q1⟩:=q1;cases r1;calc e_ ?_;cases c with| false=>show hb ao s1 σ H1 Q j q1| true=>show⟨.bl true,H1,j,rL,q1⟩
def ahI (ha:PE X a ta):PE X (.UnaryOp .Not a pos) (ae8 ta):=by intro ao s σ H Q I h;calc UnaryOp_ (cH (ha ao s σ H _ I h) λv s1 j=>?_);let⟨x,H1,D,r1,q1⟩:=j;let⟨c,rfl,q1⟩:=q1;cases r1;show not_of (e_ ⟨.bl (!c),H1,D,rL,q1⟩)
def tIf (t:TT)(ta tb:TE):TE:=λσ H Q=>t σ H λc H1=>if c=true then ta σ H1 Q else tb σ H1 Q
def ac9 (F:PT X c tA)(ha:PE X a ta)(hb:PE X b tb):PE X (.IfExp c a b pos) (tIf tA ta tb):=by
 intro ao s σ H Q I h;calc wpAny_IfExp (cH (F ao s σ H _ I h) λd s1 D=>?_);let⟨H1,j,q1⟩:=D;cases d with| true=>show ha ao s1 σ H1 Q j q1| false=>show hb ao s1 σ H1 Q j q1
end
def bJ (K:W.Frag)(H:Hp)(a:Addr)(xs:List V):Prop:=Rd H a (.lst xs)\/
  ∃(o:Obj) (its:Array Value) (n:Nat),K.lookup a=some o/\o.cls=.type "list"/\o.dict=none/\o.data=.seq its n/\its.size<=sizeLine/\Vals xs its.toList
def aU (K:W.Frag)(H:Hp)(a:Addr)(xs:List V):Prop:=Rd H a (.tup xs)\/
  ∃(o:Obj) (its:Array Value) (n:Nat),K.lookup a=some o/\o.cls=.type "tuple"/\o.data=.seq its n/\its.size<=sizeLine/\Vals xs its.toList
noncomputable def akU:Value->Option V
 | .none=>some .non
 | .bool b=>some (.bl b)
 | .int i _=>some (.int i)
 | .str x _=>some (.str x)
 | .bytes b _=>some (.Dr b)
 | .float b _=>some (.flt b)
 | .ref a=>some (.ref a)
 | .type n=>some (.ty n)
 | _=>none
def cR.abs (r:cR x u):akU u=some x:=by
 cases x with
 | non=>cases r;rfl
 | bl _=>cases r;rfl
 | int _=>let⟨t,rfl⟩:=r;rfl
 | str _=>let⟨t,rfl⟩:=r;rfl
 | Dr _=>let⟨t,rfl⟩:=r;rfl
 | flt _=>let⟨t,rfl⟩:=r;rfl
 | ref _=>cases r;rfl
 | ty _=>cases r;rfl
def cR.inj (r:cR x u)(q:cR y u):x=y:=bo (r.abs.symm.trans q.abs)
theorem Vals.inj:∀{xs ys:List V} {us:List Value},Vals xs us->Vals ys us->xs=ys
 | _,_,_,.nil,.nil=>rfl
 | _,_,_,.cons r t,.cons r' t'=>by rw[r.inj r',Vals.inj t t']
section
variable {X:Cx}{ao:AH}{σ:St}{H:Hp}{s:Shared}{a:Addr}{xs ys:List V}
def bJ.of {K:W.Frag}(h:H a=some (.lst xs)):bJ K H a xs:=.inl (.inl h)
def aU.of {K:W.Frag}(h:H a=some (.tup xs)):aU K H a xs:=.inl (.inl h)
def aV.list (I:aV X ao σ H s)(h:bJ X.K H a xs):∃its:List Value,Vals xs its/\PlainL s.heap a its.toArray/\xs.length<=sizeLine:=by
 rcases h with h|⟨o,its,n,j,D,hd,hs,hz,r⟩
 .let⟨z,its,n,r,e⟩:=h.ok I.hok;show⟨its,r,⟨_,n,e,rL,rL,rL⟩,z⟩
 .calc⟨its.toList,r,⟨o,n,I.iV a o j,D,hd,by simpa using hs⟩,?_⟩;let e:=r.length;simp only[fw]at e;lia
def aV.tuple (I:aV X ao σ H s)(h:aU X.K H a xs):∃its:List Value,Vals xs its/\IsTup s.heap a its.toArray/\xs.length<=sizeLine:=by
 rcases h with h|⟨o,its,n,j,D,hs,hz,r⟩
 .let⟨z,its,r,p⟩:=h.ok I.hok;show⟨its,r,p,z⟩
 .calc⟨its.toList,r,⟨o,I.iV a o j,D,n,by simpa using hs⟩,?_⟩;let e:=r.length;simp only[fw]at e;lia
def aV.IW (I:aV X ao σ H s)(h:bJ X.K H a xs)(h':bJ X.K H a ys):xs=ys:=by
 obtain⟨its,r,⟨o,n,e,_,_,d⟩,_⟩:=I.list h;obtain⟨its',D,⟨o',F,j,_,_,d'⟩,_⟩:=I.list h';rw[e]at j;cases j;rw[d]at d';injection d' with d1 _;have:its=its':=by simpa using congrArg Array.toList d1
 subst this;show r.inj D
def aV.aa0 (I:aV X ao σ H s)(h:aU X.K H a xs)(h':aU X.K H a ys):xs=ys:=by
 obtain⟨its,r,⟨o,e,_,n,d⟩,_⟩:=I.tuple h;obtain⟨its',D,⟨o',j,_,F,d'⟩,_⟩:=I.tuple h';rw[e]at j;cases j;rw[d]at d';injection d' with d1 _;have:its=its':=by simpa using congrArg Array.toList d1
 subst this;show r.inj D
end
abbrev Cx.wish (X:Cx)(E:AF):Cx:={X with xe:=E}
abbrev Cx.Sd (X:Cx):Cx:=X.wish λ_ _=>False
def Cx.Ok.wish {X:Cx}(ok:X.Ok)(E:AF):(X.wish E).Ok:=⟨ok.mod,ok.kind,ok.glob,ok.blt,ok.above,ok.inj,ok.has,ok.cab,ok.hd,ok.frames,ok.stk,ok.exf,ok.bs,ok.Ds,ok.DR,ok.Iz,ok.qC,ok.DW⟩
def Cx.Ok.uZ {X:Cx}(ok:(X.wish E).Ok):X.Ok:=⟨ok.mod,ok.kind,ok.glob,ok.blt,ok.above,ok.inj,ok.has,ok.cab,ok.hd,ok.frames,ok.stk,ok.exf,ok.bs,ok.Ds,ok.DR,ok.Iz,ok.qC,ok.DW⟩
section
variable {X:Cx}{ao:AH}{σ:St}{H:Hp}{s:Shared}{E:AF}
def aV.wish (I:aV X ao σ H s)(E:AF):aV (X.wish E) ao σ H s:=⟨I.ok.wish E,I.os,I.bare,I.base,I.loc,I.cell,I.free,I.nF,I.pin,I.hok,I.len⟩
def aV.uZ (I:aV (X.wish E) ao σ H s):aV X ao σ H s:=⟨I.ok.uZ,I.os,I.bare,I.base,I.loc,I.cell,I.free,I.nF,I.pin,I.hok,I.len⟩
def SP.uZ (h:SP (X.wish E) ao D f s'):SP X ao D f s':=by
 cases f with
 | next=>let⟨σ',H',I,q⟩:=h;show⟨σ',H',I.uZ,q⟩
 | brk=>let⟨σ',H',I,q⟩:=h;show⟨σ',H',I.uZ,q⟩
 | cont=>let⟨σ',H',I,q⟩:=h;show⟨σ',H',I.uZ,q⟩
 | ret u=>let⟨v,σ',H',I,r,q⟩:=h;show⟨v,σ',H',I.uZ,r,q⟩
def vX.Sd {st:List Stmt}(h:vX X.Sd st t):vX X st t:=λao s σ H D I hw=>eI (h ao s σ H D (I.wish _) hw) (λ_ _ q=>q.uZ) λ_ _ z=>False.elim z
end
section
variable {X:Cx}{st:Stmt}{rest:List Stmt}{t u:TS}{e:Expr}{te:TE}{pos:Pos}
def ae9:TS:=λD σ H=>D.nx σ H
def ahJ (t u:TS):TS:=λD σ H=>t {D with nx:=u D} σ H
def afH:vX X [] ae9:=λ_ _ σ H _ I h=>mw ⟨σ,H,I,h⟩
def ac_ (h1:PS X st t)(h2:vX X rest u):vX X (st::rest) (ahJ t u):=by
 intro ao s σ H D I h;calc wpAny_execs_cons (cH (h1 ao s σ H {D with nx:=u D} I h) λf s1 q=>?_);cases f with
 | next=>let⟨σ',H',j,q⟩:=q;show h2 ao s1 σ' H' D j q
 | ret v=>show q
 | brk=>show q
 | cont=>show q
def afI (h1:PS X st t):vX X [st] t:=by
 intro ao s σ H D I h;calc wpAny_execs_cons (cH (h1 ao s σ H D I h) λf s1 q=>?_);cases f with| next=>show mw q| ret v=>show q| brk=>show q| cont=>show q
def aV.quiet {ao:AH}{σ:St}{H:Hp}{s:Shared}(I:aV X ao σ H s):interactive X.env=false:=by simp[interactive,I.ok.kind]
def ae_ (te:TE):TS:=λD σ H=>te σ H λ_ H1=>D.nx σ H1
def afJ (j:PE X e te)(hs:swapsWith e none pos.line X.env=pure false:=by rfl):PS X (.Expr e pos) (ae_ te):=by intro ao s σ H D I h;show wpAny_Expr_any (cH (j ao s σ H _ I h) λv s1 ⟨x,H1,F,r1,q1⟩=>⟨σ,H1,F,q1⟩) I.quiet hs
def ahK (te:TE):TS:=λD σ H=>te σ H D.rt
def ahL (j:PE X e te):PS X (.Return (some e) pos) (ahK te):=by intro ao s σ H D I h;show wpAny_Return_some (cH (j ao s σ H _ I h) λv s1 ⟨x,H1,F,r1,q1⟩=>⟨x,σ,H1,F,r1,q1⟩)
def ahM (c:TT)(t u:TS):TS:=λD σ H=>c σ H λb H1=>if b=true then t D σ H1 else u D σ H1
def aj6 (G:PT X c tc)(ha:vX X a t)(hb:vX X b u):PS X (.If c a b pos) (ahM tc t u):=by
 intro ao s σ H D I h;calc wpAny_If (cH (G ao s σ H _ I h) λd s1 F=>?_);let⟨H1,j,q1⟩:=F;cases d with| true=>show ha ao s1 σ H1 D j q1| false=>show hb ao s1 σ H1 D j q1
def aa1:TS:=λ_ _ _=>False
def aa2:vX X sts aa1:=λ_ _ _ _ _ _ h=>h.elim
end
abbrev TG:=V->St->Hp->(St->Hp->Prop)->Prop
abbrev Pr:=List V->St->Hp->(St->Hp->Prop)->Prop
def PG (X:Cx)(j:Expr)(t:TG):Prop:=∀(ao:AH) (s:Shared) (σ:St) (H:Hp) (v:V) (u:Value) (Q:St->Hp->Prop),aV X ao σ H s->cR v u->t v σ H Q->
  wpAny (model X.prog X.w) X.A (assign j X.env u) (λ_ s'=>∃σ' H',aV X ao σ' H' s'/\Q σ' H') X.xe s
def PGs (X:Cx)(ts:List Expr)(t:Pr):Prop:=∀(ao:AH) (s:Shared) (σ:St) (H:Hp) (vs:List V) (us:List Value) (Q:St->Hp->Prop),aV X ao σ H s->Vals vs us->t vs σ H Q->
  wpAny (model X.prog X.w) X.A (assignInOrder ((assignEach ts X.env).map (·.2)) us) (λ_ s'=>∃σ' H',aV X ao σ' H' s'/\Q σ' H') X.xe s
abbrev ahN:=V->V->V->Hp->(Hp->Prop)->Prop
def ada (X:Cx)(t:ahN):Prop:=∀(ao:AH) (s:Shared) (σ:St) (H:Hp) (o i v:V) (ov j u:Value) (Q:Hp->Prop),aV X ao σ H s->cR o ov->cR i j->cR v u->t o i v H Q->
  wpAny (model X.prog X.w) X.A (setItem ov j u) (λ_ s'=>∃H',aV X ao σ H' s'/\Q H') X.xe s
section
variable {X:Cx}{pos:Pos}
def rN (i:Nat):TG:=λv σ H Q=>Q (σ.set i (some v)) H
def tY (F:X.N.Nodup)(hi:X.N[i]?=some x)(hx:Loc X.env.scope x)(D:X.fn x=true\/X.env.scope.names.lookup x=some .local:=by first|show .inl rfl|show .inr rfl|assumption):PG X (.Name x pos) (rN i):=by intro ao s σ H v u Q I r h;show wpAny_assign_Name (IV I F hi hx r (λs' j=>⟨_,H,j,h⟩) D)
def Zm:Pr:=λvs σ H Q=>vs=[]/\Q σ H
def Bq (t:TG)(u:Pr):Pr:=λvs σ H Q=>∃v r,vs=v::r/\t v σ H λσ' H'=>u r σ' H' Q
def M5:PGs X [] Zm:=by intro ao s σ H vs us Q I r h;let⟨e,h⟩:=h;subst e;cases r;show assignInOrder_nil ⟨σ,H,I,h⟩
def tZ (h1:PG X e t)(h2:PGs X es u)(hs:(assignEach (e::es) X.env).map (·.2)=assign e X.env::(assignEach es X.env).map (·.2):=by rfl):PGs X (e::es) (Bq t u):=by
 intro ao s σ H vs us Q I r h;let⟨v,F,e1,h⟩:=h;subst e1;cases r with| cons r rr=>rw[hs];calc assignInOrder_cons (cH (h1 ao s σ H _ _ _ I r h) λ_ s1 j=>?_);let⟨σ1,H1,D,q1⟩:=j;show h2 ao s1 σ1 H1 _ _ Q D rr q1
def Zn (K:W.Frag)(n:Nat)(t:Pr):TG:=λv σ H Q=>∃a xs,v=.ref a/\aU K H a xs/\xs.length=n/\t xs σ H Q
def Sg {es:List Expr}{k:Nat}{t:Pr}{n:Nat}(J:X.calm=true)(h:PGs X es t)(hn:(assignEach es X.env).length=n:=by rfl)(j:(assignEach es X.env).findIdx? (·.1)=none:=by rfl):PG X (.Tuple es k pos) (Zn X.K n t):=by intro ao s σ H v u Q I r hw;let⟨a,xs,e1,F,hl,hw⟩:=hw;subst e1;cases r;let⟨its,D,ht,hz⟩:=I.tuple F;calc assign_Tuple_tuple (I.ok.hd J) ht (by simp[hn,<-hl,D.length]) j λh' hx=>?_;let G:aV X ao σ H {s with heap:=h' }:=I.kept (t':=s.toks) λb o e=>hx b o (cn (aI e)) e;show h ao _ σ H xs _ Q G (by simpa using D) hw
def ahO (to ti:TE)(t:ahN):TG:=λv σ H Q=>to σ H λo H1=>ti σ H1 λi D=>t o i v D λj=>Q σ j
def ahP (J:PE X o to)(hi:PE X i ti)(hs:ada X t)(ha:∀v,assign (.Subscript o i pos) X.env v=(do
   let ov <- holding [v] (eval o X.env)
   let j <- holding [v,ov] (eval i X.env)
   standAt pos
   holding [v,ov,j] (setItem ov j v)
   release [v,ov,j] []):=by intro _;rfl):PG X (.Subscript o i pos) (ahO to ti t):=by
 intro ao s σ H v u Q I r h;rw[ha];calc ae (fS (cH (J ao s σ H _ I h) λov s1 D=>?_));let⟨x,H1,F,r1,q1⟩:=D;calc ae (fS (cH (hi ao s1 σ H1 _ F q1) λj s2 D=>?_));let⟨y,H2,Y,G,q2⟩:=D;calc ae (md (ae (fS (cH (hs ao s2 σ H2 x y v ov j u _ Y r1 G r q2) λ_ s3 D=>?_))));let⟨O,Z,q3⟩:=D;show wpAny_release ⟨σ,O,Z,q3⟩
def M6 (te:TE)(g:TG):TS:=λD σ H=>te σ H λx H1=>g x σ H1 D.nx
def ahQ (G:PE X e te)(J:PG X tg g)(hs:swapsWithSole [tg] e pos.line X.env=pure false:=by rfl)(hw:swappedStores [tg] e X.env=pure none:=by rfl)(h1:(assignEach [tg] X.env).map (·.2)=[assign tg X.env]:=by rfl):PS X (.Assign [tg] e pos) (M6 te g):=by intro ao s σ H D I h;calc wpAny_Assign_stores (cH (G ao s σ H _ I h) λv s1 j=>?_) hs hw;let⟨x,H1,F,r1,q1⟩:=j;rw[h1];show cH (J ao s1 σ H1 x v _ F r1 q1) λ_ s2 q=>q
def ahR (J:X.N.Nodup)(hi:X.N[i]?=some x)(hx:Loc X.env.scope x)(Y:PE X e te)(hs:swapsWith e (some (.Name x pos')) pos.line X.env=pure false:=by rfl)(G:X.fn x=true\/X.env.scope.names.lookup x=some .local:=by first|show .inl rfl|show .inr rfl|assumption):PS X (.Assign [.Name x pos'] e pos) (M6 te (rN i)):=by intro ao s σ H D I h;calc wpAny_Assign_Name (cH (Y ao s σ H _ I h) λv s1 j=>?_) hs;let⟨y,H1,F,r1,q1⟩:=j;show IV F J hi hx r1 (λs2 O=>⟨_,H1,O,q1⟩) G
def Sh (c:TT)(tb:TS):TS:=λD σ H=>∃W:Nat->St->Hp->Prop,(∃m,W m σ H)/\∀m σ H,W m σ H->
 c σ H λb H1=>if b=true then ∃N:St->Hp->Prop,(∀σ' H',N σ' H'->∃j,j<m/\W j σ' H')/\tb {D with nx:=N,ct:=N,bk:=D.nx} σ H1 else D.nx σ H1
def adb (hp:PassesOwn (model X.prog X.w) X.A X.env X.xe)(hc:PT X c tc)(hb:vX X body tb):PS X (.While c body [] pos) (Sh tc tb):=by
 intro ao s σ H D I h;obtain⟨W,⟨m0,w0⟩,turn⟩:=h;calc wpAny_While (codeAny_whileLoop (λn s'=>∃σ' H',aV X ao σ' H' s'/\W n σ' H') ?_ m0 ⟨σ,H,I,w0⟩);intro n s1 z;let⟨σ1,H1,I1,w1⟩:=z;calc ia hp (cH (hc ao s1 σ1 H1 _ I1 (turn n σ1 H1 w1)) λb s2 zz=>?_);let⟨H2,Z,q2⟩:=zz;cases b with
 | true=>
  let⟨N,Y,q2⟩:=q2;rw[if_pos rfl];calc ia hp (cH (hb ao s2 σ1 H2 _ Z q2) λf s3 q3=>?_);cases f with
  | next=>let⟨σ3,j,F,O⟩:=q3;let⟨J,hm,G⟩:=Y σ3 j O;show⟨J,hm,σ3,j,F,G⟩
  | cont=>let⟨σ3,j,F,O⟩:=q3;let⟨J,hm,G⟩:=Y σ3 j O;show⟨J,hm,σ3,j,F,G⟩
  | brk=>show q3
  | ret v=>show q3
 | false=>rw[if_neg bP];show mw ⟨σ1,H2,Z,q2⟩
end
structure It where
 go:Nat->Hp->Prop
 Ko:Nat->Hp->V->Hp->Prop
 stop:Nat->Hp->Prop
def vM (X:Cx)(ao:AH)(H:Hp)(b:Addr):Prop:=H b=none/\b≠X.env.locals/\b∉X.fs/\(b∈X.ex\/X.s₀.heap.objs.size<=b)/\(∀x c,X.env.cells.lookup x=some c->c≠b)/\∀p∈X.pn++ao,p.1≠b
def aV.zy {X:Cx}{ao:AH}{σ:St}{H H':Hp}{s:Shared}{b:Addr}(I:aV X ao σ H s)(hb:s.heap.objs.size<=b)(hn:H' b=none):vM X ao H' b:=by
 refine⟨hn,ke (cK I.lt hb),I.akS hb,.inr (bE I.sz hb),λx c e z=>?_,λp hp z=>?_⟩
 .let⟨v,q⟩:=I.cell x c e;show absurd (cK q.lt (by rw[z];show hb)) (fm _)
 .show absurd (cK (aI (I.pin p hp).1) (by rw[z];show hb)) (fm _)
structure Turn (P:Program)(w:World)(K:W.Frag)(tg:Expr)(J:It)(fp:List Addr)(it:Addr)(tn:Nat->Heap->Prop):Prop where
 mem:it∈fp
 obj:∀i h,tn i h->∀b∈fp,∃o,h.get? b=some o/\∀v,o.data≠.cell v
 keep:∀i h h',tn i h->(∀b∈fp,∀o,h.get? b=some o->h'.get? b=some o)->tn i h'
 item:∀(X:Cx),X.prog=P->X.w=w->X.K=K->X.calm=true->∀(i:Nat) (ao:AH) (s:Shared) (σ:St) (H:Hp) (E:AF),aV X ao σ H s->(∀b∈fp,vM X ao H b)->tn i s.heap->J.go i H->
  wpAny (model P w) X.A (pyNext (.ref it)) (λr s1=>∃u,r=some u/\
   wpAny (model P w) X.A (letOwnedTupleGo tg (.ref it) u) (λ_ s2=>∃x H',aV X ao σ H' s2/\cR x u/\J.Ko i H x H'/\tn (i+1) s2.heap/\∀b∈fp,H' b=none) E s1) E s
 done:∀(X:Cx),X.prog=P->X.w=w->X.K=K->X.calm=true->∀(i:Nat) (ao:AH) (s:Shared) (σ:St) (H:Hp) (E:AF),aV X ao σ H s->(∀b∈fp,vM X ao H b)->tn i s.heap->J.stop i H->
  wpAny (model P w) X.A (pyNext (.ref it)) (λr s1=>r=none/\aV X ao σ H s1) E s
 self:∀(A:Around) (i:Nat) (s:Shared) (Q:AF) (E:AF),tn i s.heap->Q (.ref it) s->wpAny (model P w) A (pyIter (.ref it)) Q E s
abbrev TI:=St->Hp->(It->Hp->Prop)->Prop
def PIE (X:Cx)(ao:AH)(σ:St)(tg:Expr)(R:It->Hp->Prop)(j:Value)(s2:Shared):Prop:=∃(it:Addr) (fp:List Addr) (tn:Nat->Heap->Prop) (J:It) (H':Hp),j=.ref it/\aV X ao σ H' s2/\Turn X.prog X.w X.K tg J fp it tn/\tn 0 s2.heap/\(∀b∈fp,vM X ao H' b)/\R J H'
def PI (X:Cx)(tg iter:Expr)(wi:TI):Prop:=∀(ao:AH) (s:Shared) (σ:St) (H:Hp) (R:It->Hp->Prop),aV X ao σ H s->wi σ H R->
  wpAny (model X.prog X.w) X.A (eval iter X.env) (λv s1=>wpAny (model X.prog X.w) X.A (pyIter v) (PIE X ao σ tg R) X.xe s1) X.xe s
def Kp {s : Shared}(D : s.heap.get? it = some o)(F : o.cls = .type n)(hd : o.data = .fields vs)(hn : ["enumerate", "zip", "dict_itemiterator", "dict_reverseitemiterator", "odict_iterator", "itertools.zip_longest", "itertools.pairwise"].contains n = false)(j : Q () s) : wpAny M A (letOwnedTupleGo tg (.ref it) u) Q E s := by
  unfold letOwnedTupleGo;cases tg <;> first
    | show aw j
    | (cases u <;> first
        | show aw j
        | (refine ae (wpAny_load D ?_)
           rw[F, hd];show wpAny M A (if (["enumerate", "zip", "dict_itemiterator", "dict_reverseitemiterator", "odict_iterator", "itertools.zip_longest", "itertools.pairwise"].contains n&&vs[0]? == some (rawInt _)) = true then _ else _) Q E s;rw[if_neg (by intro h; rw[hn, nB]at h; cases h)];show aw j))
abbrev ItS (Sq:Hp->List V->Prop):It:=⟨λi H=>∃xs x,Sq H xs/\xs[i]?=some x,λi H x H'=>H'=H/\∀xs,Sq H xs->xs[i]?=some x,λi H=>∃xs,Sq H xs/\xs.length<=i⟩
def Itl (K:W.Frag)(a:Addr):It:=ItS λH=>bJ K H a
def Itt (K:W.Frag)(a:Addr):It:=ItS λH=>aU K H a
def Itr (lo:Int)(n:Nat):It:=⟨λi _=>i<n,λi H x H'=>H'=H/\x=.int (lo+i),λi _=>n<=i⟩
def aa3 {P:Program}{w:World}{K:W.Frag}{tg:Expr}(a it:Addr):Turn P w K tg (Itl K a) [it] it (λi h=>h.IsListIter it a i) where
 mem:=by simp
 obj:=λi h st b hb=>by
  let e:b=it:=by simpa using hb
  subst e;let⟨o,e,c,d⟩:=st;show⟨o,e,λv z=>by rw[d]at z;cases z⟩
 keep:=λi h h' st k=>st.at λo e=>k it qa o e
 item:=by intro X G hw O Z i ao s σ H E I F st Y;subst G hw O;let⟨xs,x,D,hx⟩:=Y;let⟨its,J,p,hz⟩:=I.list D;let⟨u,hu,ru⟩:=J.get hx;let⟨f0,f1,f2,f3,f4,f5⟩:=F it qa;calc wpAny_pyNext_list_item st p.isList (x:=u) (by simpa using hu) λh' j sb=>?_;let I1:aV X ao σ H {s with heap:=h' }:=I.turned (t':=s.toks) (λb o hb e=>(sb.2 b hb).trans e) f0 f1 f3 f4 f5;let⟨o,e,c,d⟩:=id j;show⟨u,rL,Kp (s:={s with heap:=h' }) e c d qc ⟨x,H,I1,ru,⟨rL,λys hy=>by rw[I.IW hy D];show hx⟩,j,λb hb=>(F b hb).1⟩⟩
 done:=by intro X G hw O Z i ao s σ H E I F st Y;subst G hw O;let⟨xs,D,hx⟩:=Y;let⟨its,J,p,hz⟩:=I.list D;let⟨f0,f1,f2,f3,f4,f5⟩:=F it qa;let hl:=J.length;show wpAny_pyNext_list_end (I.ok.hd Z) st p.isList (by simp;simp_all) λh' eb=>⟨rL,I.turned (t':=s.toks) (λb o hb e=>eb b o hb e) f0 f1 f3 f4 f5⟩
 self:=λ_ _ _ _ _ st h=>wpAny_pyIter_listiter st h
def Zo {P:Program}{w:World}{K:W.Frag}{tg:Expr}(a it:Addr):Turn P w K tg (Itt K a) [it] it (λi h=>h.IsTupleIter it a i) where
 mem:=by simp
 obj:=λi h st b hb=>by
  let e:b=it:=by simpa using hb
  subst e;let⟨o,e,c,d⟩:=st;show⟨o,e,λv z=>by rw[d]at z;cases z⟩
 keep:=λi h h' st k=>st.at λo e=>k it qa o e
 item:=by intro X G hw O Z i ao s σ H E I F st Y;subst G hw O;let⟨xs,x,D,hx⟩:=Y;let⟨its,J,p,hz⟩:=I.tuple D;let⟨u,hu,ru⟩:=J.get hx;let⟨f0,f1,f2,f3,f4,f5⟩:=F it qa;calc wpAny_pyNext_tuple_item st (show s.heap.IsTuple a its.toArray from p) (x:=u) (by simpa using hu) λh' j sb=>?_;let I1:aV X ao σ H {s with heap:=h' }:=I.turned (t':=s.toks) (λb o hb e=>(sb.2 b hb).trans e) f0 f1 f3 f4 f5;let⟨o,e,c,d⟩:=id j;show⟨u,rL,Kp (s:={s with heap:=h' }) e c d qc ⟨x,H,I1,ru,⟨rL,λys hy=>by rw[I.aa0 hy D];show hx⟩,j,λb hb=>(F b hb).1⟩⟩
 done:=by intro X G hw O Z i ao s σ H E I F st Y;subst G hw O;let⟨xs,D,hx⟩:=Y;let⟨its,J,p,hz⟩:=I.tuple D;let⟨f0,f1,f2,f3,f4,f5⟩:=F it qa;let hl:=J.length;show wpAny_pyNext_tuple_end (I.ok.hd Z) st (show s.heap.IsTuple a its.toArray from p) (by simp;lia) λh' eb=>⟨rL,I.turned (t':=s.toks) (λb o hb e=>eb b o hb e) f0 f1 f3 f4 f5⟩
 self:=λ_ _ _ _ _ st h=>wpAny_pyIter_tupleiter st h
def Zq {P:Program}{w:World}{K:W.Frag}{tg:Expr}(it:Addr)(lo:Int)(n:Nat):Turn P w K tg (Itr lo n) [it] it (λi h=>IsRangeIter h it (lo+(i:Nat)*1) ((n:Int)-(i:Nat)) 1) where
 mem:=by simp
 obj:=λi h st b hb=>by
  let e:b=it:=by simpa using hb
  subst e;show⟨_,st,λv z=>by let z':Data.fields _=Data.cell v:=z;cases z'⟩
 keep:=λi h h' st k=>k it qa _ st
 item:=by intro X G hw J F i ao s σ H E I D st O;subst G hw J;let⟨f0,f1,f2,f3,f4,f5⟩:=D it qa;let W:=Walks.range (prog:=X.prog) (w:=X.w) (I.ok.hd F) it lo 1 n;calc W.item i s _ _ O st λv h' tk Z j kk=>?_;let⟨t,rfl⟩:=Z;let Y:aV X ao σ H {s with heap:=h',toks:=tk}:=I.turned (λb o hb e=>kk b o (by simpa using hb) e) f0 f1 f3 f4 f5;calc⟨_,rL,Kp (s:={s with heap:=h',toks:=tk}) (n:="range_iterator") j rL rL qc ⟨.int (lo+i),H,Y,⟨t,?_⟩,⟨rL,rL⟩,j,λb hb=>(D b hb).1⟩⟩;rw[Int.mul_one]
 done:=by intro X G hw J F i ao s σ H E I D st O;subst G hw J;let⟨f0,f1,f2,f3,f4,f5⟩:=D it qa;show wpAny_pyNext_range_end (I.ok.hd F) st (by have:n<=i:=O;lia) λh' eb=>⟨rL,I.turned (t':=s.toks) (λb o hb e=>eb b o hb e) f0 f1 f3 f4 f5⟩
 self:=λ_ _ _ _ _ st h=>wpAny_pyIter_rangeiter st h
section
variable {X:Cx}{tg:Expr}
def afa (K:W.Frag)(tl:TE):TI:=λσ H R=>tl σ H λx H1=>∃a,x=.ref a/\(∃xs,bJ K H1 a xs)/\R (Itl K a) H1
def ahS (K:W.Frag)(tl:TE):TI:=λσ H R=>tl σ H λx H1=>∃a,x=.ref a/\(∃xs,aU K H1 a xs)/\R (Itt K a) H1
def afK (hl:PE X l tl):PI X tg l (afa X.K tl):=by
 intro ao s σ H R I h;calc cH (hl ao s σ H _ I h) λv s1 F=>?_;let⟨x,H1,j,r1,q1⟩:=F;obtain⟨a,e,⟨xs,D⟩,q⟩:=q1;subst e;cases r1;let⟨its,G,p,hz⟩:=j.list D;calc ik p.isList ?_;calc⟨s1.heap.objs.size,[s1.heap.objs.size],_,_,H1,rL,j.kept (t':=s1.toks) λb o e=>af _ e,aa3 a _,⟨_,ba _ rL,rL,rL⟩,λb hb=>?_,q⟩;let e:b=s1.heap.objs.size:=by simpa using hb
 subst e;show j.zy (al _) (j.hok.fresh (al _))
def ahT (hl:PE X l tl):PI X tg l (ahS X.K tl):=by
 intro ao s σ H R I h;calc cH (hl ao s σ H _ I h) λv s1 F=>?_;let⟨x,H1,j,r1,q1⟩:=F;obtain⟨a,e,⟨xs,D⟩,q⟩:=q1;subst e;cases r1;let⟨its,G,p,hz⟩:=j.tuple D;calc wpAny_pyIter_tuple (show s1.heap.IsTuple a its.toArray from p) ?_;calc⟨s1.heap.objs.size,[s1.heap.objs.size],_,_,H1,rL,j.kept (t':=s1.toks) λb o e=>af _ e,Zo a _,⟨_,ba _ rL,rL,rL⟩,λb hb=>?_,q⟩;let e:b=s1.heap.objs.size:=by simpa using hb
 subst e;show j.zy (al _) (j.hok.fresh (al _))
def Ss {ao:AH}{σ:St}{H:Hp}{s:Shared}{R:It->Hp->Prop}{E:AF}{lo hi:Int}{t u v:Tok}{tk:Nat}(I:aV X ao σ H s)(h1:-(2^62)<=lo)(h2:lo<2^62)(h3:-(2^62)<=hi)(h4:hi<2^62)(q:R (Itr lo (hi-lo).toNat) H):wpAny (model X.prog X.w) X.A (pyIter (.ref s.heap.objs.size)) (PIE X ao σ tg R) E {s with heap:=s.heap.push {cls:=.type "range",data:=.fields #[.int lo t,.int hi u,.int 1 v]},toks:=tk}:=by
 calc nK (IsRange.new ..) (small_one h1 h2 h3 h4) ?_;let j:aV X ao σ H {s with heap:=s.heap.push {cls:=.type "range",data:=.fields #[.int lo t,.int hi u,.int 1 v]},toks:=tk}:=I.kept λb o e=>af _ e;refine⟨(s.heap.push {cls:=.type "range",data:=.fields #[.int lo t,.int hi u,.int 1 v]}).objs.size,[(s.heap.push {cls:=.type "range",data:=.fields #[.int lo t,.int hi u,.int 1 v]}).objs.size],_,_,H,rL,
  j.kept (t':=tk) λb o e=>af _ e,Zq _ lo (hi-lo).toNat,?_,λb hb=>?_,q⟩
 .let e1:lo+((0:Nat):Int)*1=lo:=qa;let e2:(((hi-lo).toNat:Nat):Int)-((0:Nat):Int)=Builtin.Range.rangeSize lo hi 1:=by rw[rangeSize_one];split <;> grind
  show IsRangeIter _ _ (lo+((0:Nat):Int)*1) ((((hi-lo).toNat:Nat):Int)-((0:Nat):Int)) 1;rw[e1,e2];show ba _ rfl
 .let e:b=(s.heap.push {cls:=.type "range",data:=.fields #[.int lo t,.int hi u,.int 1 v]}).objs.size:=by simpa using hb
  subst e;show j.zy (al _) (j.hok.fresh (al _))
def afb (ta:TA):TI:=λσ H R=>ta σ H λvs H1=>∃j:Int,vs=[.int j]/\-(2^62)<=j/\j<2^62/\R (Itr 0 j.toNat) H1
def afc (ta:TA):TI:=λσ H R=>ta σ H λvs H1=>∃i j:Int,vs=[.int i,.int j]/\(-(2^62)<=i/\i<2^62/\-(2^62)<=j/\j<2^62)/\R (Itr i (j-i).toNat) H1
def aa4 (G:Gl X "range")(hm:X.mg "range"=none)(ha:PA X [a] ta)(hs:starEach [a] X.env=[(false,eval a X.env)]:=by rfl):PI X tg (.Call (.Name "range" p) [a] [] pos) (afb ta):=by
 intro ao s σ H R I h;calc Call_ (rM I G hm boot_range (eK (cH (ha pos ao s σ H _ I h) λus s1 D=>?_) hs rL));let⟨vs,H1,F,r1,q1⟩:=D;let⟨j,e,q1,q2,q⟩:=q1;subst e;cases r1 with| cons r rr=>cases rr;let⟨t,rfl⟩:=r;show call_range_1 (Ss F p_ p_ q1 q2 (by simpa using q))
def aa5 {a b:Expr}{ta:TA}{p pos:Pos}(J:Gl X "range")(hm:X.mg "range"=none)(ha:PA X [a,b] ta)(hs:starEach [a,b] X.env=[(false,eval a X.env),(false,eval b X.env)]:=by rfl)(D:starEach [b] X.env=[(false,eval b X.env)]:=by rfl):PI X tg (.Call (.Name "range" p) [a,b] [] pos) (afc ta):=by
 intro ao s σ H R I h;calc Call_ (rM I J hm boot_range (eK (cH (ha pos ao s σ H _ I h) λus s1 F=>?_) (by rw[hs,D]) (by rw[D];rfl)));let⟨vs,H1,G,r1,q1⟩:=F;obtain⟨i,j,e,⟨q1,q2,q3,q4⟩,q⟩:=q1;subst e;cases r1 with
 | cons r rr=>
  cases rr with| cons r' rr=>cases rr;let⟨t,rfl⟩:=r;let⟨t',rfl⟩:=r';show call_range_2 (Ss G q1 q2 q3 q4 q)
abbrev M7 (J:It)(g:TG)(tb:TS)(D:Ends)(σ:St)(H:Hp):Prop:=∃W:Nat->Nat->St->Hp->Prop,(∃m,W 0 m σ H)/\∀i m σ H,W i m σ H->
 (J.stop i H/\D.nx σ H)\/(J.go i H/\∃N:St->Hp->Prop,(∀σ' H',N σ' H'->∃m',m'<m/\W (i+1) m' σ' H')/\∀x H',J.Ko i H x H'->g x σ H' λσ2 H2=>tb {D with nx:=N,ct:=N,bk:=D.nx} σ2 H2)
def ahU (wi:TI)(g:TG)(tb:TS):TS:=λD σ H=>wi σ H λJ H1=>M7 J g tb D σ H1
def Zr {J:It}{g:TG}{tb:TS}{D:Ends}{σ:St}{H:Hp}(n:Nat)(F:Nat->St->Hp->Prop)(h0:F 0 σ H)(G:∀i σ H,i<n->F i σ H->J.go i H/\∀x H',J.Ko i H x H'->g x σ H' λσ2 Y=>tb {D with nx:=F (i+1),ct:=F (i+1),bk:=D.nx} σ2 Y)(O:∀σ H,F n σ H->J.stop n H/\D.nx σ H):M7 J g tb D σ H:=by
 calc⟨λi m σ H=>m=n-i/\i<=n/\F i σ H,⟨n,qa,eQ _,h0⟩,?_⟩;intro i m σ H z;let⟨rfl,hi,p⟩:=z;by_cases j:i<n;.show .inr ⟨(G i σ H j p).1,F (i+1),λσ' H' I=>⟨n-(i+1),Nat.sub_lt_sub_left j (gL _),rL,j,I⟩,(G i σ H j p).2⟩
 .let e:i=n:=p_;subst e;show .inl (O σ H p)
def afd {F:Hp->List V->Prop}{xs:List V}{g:TG}{tb:TS}{D:Ends}{σ:St}{H:Hp}(j:Nat->St->Hp->Prop)(h0:j 0 σ H)(hl:∀i σ H,i<=xs.length->j i σ H->F H xs)(hs:∀i x σ H,xs[i]?=some x->j i σ H->g x σ H λσ2 G=>tb {D with nx:=j (i+1),ct:=j (i+1),bk:=D.nx} σ2 G)(hd:∀σ H,j xs.length σ H->D.nx σ H):M7 (ItS F) g tb D σ H:=Zr xs.length j h0 (λi σ H h p=>⟨⟨xs,xs[i],hl i σ H (am h) p,by simp[h]⟩,λx H' ⟨e,y⟩=>by subst e;show hs i x σ _ (y xs (hl i σ _ (am h) p)) p⟩) λσ H p=>⟨⟨xs,hl _ σ H (al _) p,al _⟩,hd σ H p⟩
def DX (fp:List Addr)(h:Heap):List (Addr×Obj):=fp.filterMap λb=>(h.get? b).map λo=>(b,o)
def wk {h:Heap}(hb:b∈fp)(e:h.get? b=some o):(b,o)∈DX fp h:=nL.mpr ⟨b,hb,by rw[e];rfl⟩
def aa6 (hp:p∈DX fp h):p.1∈fp/\h.get? p.1=some p.2:=by
 let⟨b,hb,e⟩:=nL.mp hp;cases q:h.get? b with
 | none=>rw[q]at e;cases e
 | some o=>rw[q]at e;let j:(b,o)=p:=bo e;subst j;show⟨hb,q⟩
def aV.pinned {ao:AH}{σ:St}{H:Hp}{s:Shared}{fp:List Addr}(I:aV X ao σ H s)(D:∀b∈fp,vM X ao H b)(F:∀b∈fp,∃o,s.heap.get? b=some o/\∀v,o.data≠.cell v):aV X (ao++DX fp s.heap) σ H s:=
 I.Xm λp hp=>(bq.mp hp).elim (λz=>I.pin p (ed _ z)) λz=>by let⟨hb,e⟩:=aa6 z;let⟨f0,f1,f2,_⟩:=D p.1 hb;let⟨o,j,d⟩:=F p.1 hb;rw[e]at j;cases j;show⟨e,f0,f1,f2,d⟩
def aV.xu {ao pl:AH}{σ:St}{H:Hp}{s:Shared}(I:aV X (ao++pl) σ H s):aV X ao σ H s:=I.Xm λp hp=>I.pin p (ed _ (mn _ hp))
def ahV (hp:PassesOwn (model X.prog X.w) X.A X.env X.xe)(hc:X.calm=true)(hi:PI X tg iter wi)(hg:PG X tg g)(hb:vX X body tb)(hs:∀x,foldedSetIterable iter X.env x=pure x:=by intro _;rfl):PS X (.For tg iter body [] pos) (ahU wi g tb):=by
 intro ao s σ H D I h;calc wpAny_For (cH (hi ao s σ H _ I h) λv s1 h1=>cH h1 λitv s2 h2=>?_) hs;obtain⟨it,fp,tn,J,H2,e,I2,T,st2,f2,W,⟨m0,w0⟩,turn⟩:=h2;subst e;let G:∀{H':Hp},(∀b∈fp,H' b=none)->∀b∈fp,vM X ao H' b:=λhn b hb=>⟨hn b hb,(f2 b hb).2⟩
 calc codeAny_forLoop_any (λn s'=>∃i σ' H',aV X ao σ' H' s'/\tn i s'.heap/\(∀b∈fp,H' b=none)/\W i n σ' H') ?_ m0 ⟨0,σ,H2,I2,st2,λb hb=>(f2 b hb).1,w0⟩;intro n s3 z;let⟨i,σ3,H3,I3,Z,fr3,w3⟩:=z;rcases turn i n σ3 H3 w3 with⟨stop,qn⟩|⟨go,N,hN,step⟩
 .calc ia hp (cH (T.done X rL rL rL hc i ao s3 σ3 H3 X.xe I3 (G fr3) Z stop) λr s4 ⟨hr,I4⟩=>?_);subst hr;show mw ⟨σ3,H3,I4,qn⟩
 .calc ia hp (cH (T.item X rL rL rL hc i ao s3 σ3 H3 X.xe I3 (G fr3) Z go) λr s4 zz=>?_);let⟨u,hr,h4⟩:=zz;subst hr;calc ia hp (cH h4 λ_ s5 zz=>?_);let⟨x,H5,I5,r5,y5,Y,fr5⟩:=zz;let I5':=I5.pinned (G fr5) (T.obj _ _ Y);calc ia hp (cH (hg _ s5 σ3 H5 x u _ I5' r5 (step x H5 y5)) λ_ s6 zz=>?_);let⟨σ6,H6,I6,q6⟩:=zz;calc ia hp (cH (hb _ s6 σ6 H6 _ I6 q6) λf s7 q7=>?_);let O:∀{σ7:St} {F:Hp},aV X (ao++DX fp s5.heap) σ7 F s7->N σ7 F->∃m,m<n/\∃i σ' H',aV X ao σ' H' s7/\tn i s7.heap/\(∀b∈fp,H' b=none)/\W i m σ' H':=λ{σ7 F} j n7=>by
   let⟨m',hm,w7⟩:=hN σ7 F n7;calc⟨m',hm,i+1,σ7,F,j.xu,T.keep _ _ _ Y λb hb o e=>(j.pin (b,o) (ed _ (ed _ (wk hb e)))).1,λb hb=>?_,w7⟩;let⟨o,e,d⟩:=T.obj _ _ Y b hb;show(j.pin (b,o) (ed _ (ed _ (wk hb e)))).2.1
  cases f with
  | next=>let⟨σ7,F,j,n7⟩:=q7;show O j n7
  | cont=>let⟨σ7,F,j,n7⟩:=q7;show O j n7
  | brk=>let⟨σ7,F,j,q7⟩:=q7;show⟨σ7,F,j.xu,q7⟩
  | ret v=>let⟨x7,σ7,F,j,r7,q7⟩:=q7;show⟨x7,σ7,F,j.xu,r7,q7⟩
end
def mU {K:W.Frag}{a:Addr}:=@afd λH=>bJ K H a
def G7 {K:W.Frag}{a:Addr}:=@afd λH=>aU K H a
def pQ {lo:Int}{n:Nat}{g:TG}{tb:TS}{D:Ends}{σ:St}{H:Hp}(j:Nat->St->Hp->Prop)(h0:j 0 σ H)(hs:∀i σ H,i<n->j i σ H->g (.int (lo+i)) σ H λσ2 F=>tb {D with nx:=j (i+1),ct:=j (i+1),bk:=D.nx} σ2 F)(hd:∀σ H,j n σ H->D.nx σ H):M7 (Itr lo n) g tb D σ H:=Zr n j h0 (λi σ H h p=>⟨h,λx H' y=>by let⟨rfl,rfl⟩:=y;show hs i σ _ h p⟩) λσ H p=>⟨al _,hd σ H p⟩
def ade (j:St->Hp->Prop)(μ:St->Hp->Nat)(h0:j σ H)(hs:∀σ H,j σ H->c σ H λb H1=>if b=true then tb {D with nx:=λσ' H'=>j σ' H'/\μ σ' H'<μ σ H,ct:=λσ' H'=>j σ' H'/\μ σ' H'<μ σ H,bk:=D.nx} σ H1 else D.nx σ H1)
  (mono:∀σ H Q F,(∀b H1,Q b H1->F b H1)->c σ H Q->c σ H F):Sh c tb D σ H:=by
 calc⟨λm σ H=>m=μ σ H/\j σ H,⟨_,rL,h0⟩,?_⟩;rintro m σ H ⟨rfl,p⟩;calc mono σ H _ _ (λb H1 q=>?_) (hs σ H p);cases b with| true=>show⟨_,λσ' H' ⟨G,l⟩=>⟨_,l,rL,G⟩,q⟩| false=>show q
abbrev R2:=V->V->Hp->VK->Prop
def gK (X:Cx)(f:Value->Value->Sem Value)(r:R2):Prop:=∀(ao:AH) (s:Shared) (σ:St) (H:Hp) (x y:V) (v u:Value) (Q:VK),aV X ao σ H s->cR x v->cR y u->r x y H Q->
  wpAny (model X.prog X.w) X.A (f v u) (EP X ao σ Q) X.xe s
def UnR (X:Cx)(f:Value->Sem Value)(r:V->Hp->VK->Prop):Prop:=∀(ao:AH) (s:Shared) (σ:St) (H:Hp) (x:V) (v:Value) (Q:VK),aV X ao σ H s->cR x v->r x H Q->
  wpAny (model X.prog X.w) X.A (f v) (EP X ao σ Q) X.xe s
def jc (X:Cx)(f:Value)(r:List V->Hp->VK->Prop):Prop:=∀(ao:AH) (s:Shared) (σ:St) (H:Hp) (xs:List V) (us:List Value) (Q:VK),aV X ao σ H s->Vals xs us->r xs H Q->
  wpAny (model X.prog X.w) X.A (call f us) (EP X ao σ Q) X.xe s
def Ie (r:R2)(ta tb:TE):TE:=λσ H Q=>ta σ H λx H1=>tb σ H1 λy j=>r x y j Q
def tUn (r:V->Hp->VK->Prop)(ta:TE):TE:=λσ H Q=>ta σ H λx H1=>r x H1 Q
def rI (C:Int->Int->Prop)(g:Int->Int->V):R2:=λx y H Q=>∃i j,x=.int i/\y=.int j/\C i j/\Q (g i j) H
def Pu (g:Int->Int->V):R2:=λx y H Q=>∃i j,x=.int i/\y=.int j/\Q (g i j) H
def rU (g:Int->V):V->Hp->VK->Prop:=λx H Q=>∃i,x=.int i/\Q (g i) H
section
variable {X:Cx}{a b:Expr}{ta tb:TE}{pos:Pos}
def adf (ha:PE X a ta)(hb:PE X b tb){ao:AH}{s:Shared}{σ:St}{H:Hp}{R:V->V->Hp->Prop}(I:aV X ao σ H s)(h:ta σ H λx H1=>tb σ H1 λy j=>R x y j){Q:AF}{f:Value->Value->Sem Value}(G:∀v u s2 x y j,aV X ao σ j s2->cR x v->cR y u->R x y j->wpAny (model X.prog X.w) X.A (f v u) Q X.xe s2):wpAny (model X.prog X.w) X.A (eval a X.env) (λv Z=>wpAny (model X.prog X.w) X.A (eval b X.env) (λu Y=>wpAny (model X.prog X.w) X.A (f v u) Q X.xe Y) X.xe Z) X.xe s:=by calc cH (ha ao s σ H _ I h) λv s1 D=>?_;let⟨x,H1,F,r1,q1⟩:=D;calc cH (hb ao s1 σ H1 _ F q1) λu s2 D=>?_;let⟨y,j,O,J,q2⟩:=D;show G v u s2 x y j O r1 J q2
def aj7 (j:gK X (binaryOp op) r)(ha:PE X a ta)(hb:PE X b tb):PE X (.BinOp a op b pos) (Ie r ta tb):=by intro ao s σ H Q I h;show wpAny_BinOp (adf ha hb I h λv u s2 x y J D G F q=>j ao s2 σ J x y v u Q D G F q)
def aj8 (j:UnR X (unaryOp op) r)(ha:PE X a ta):PE X (.UnaryOp op a pos) (tUn r ta):=by intro ao s σ H Q I h;show UnaryOp_ (cH (ha ao s σ H _ I h) λv s1 ⟨x,H1,D,r1,q1⟩=>j ao s1 σ H1 x v Q D r1 q1)
def opI {f:Value->Value->Sem Value}{C:Int->Int->Prop}{g:Int->Int->Int}(D:∀(i j:Int) (t u:Tok) (s:Shared) (Q:AF) (E:AF),C i j->Q (.int (g i j) s.toks) {s with toks:=s.toks+1}->wpAny (model X.prog X.w) X.A (f (.int i t) (.int j u)) Q E s):gK X f (rI C λi j=>.int (g i j)):=by intro ao s σ H x y v u Q I J G h;let⟨i,j,rfl,rfl,F,q⟩:=h;let⟨t,rfl⟩:=J;let⟨t',rfl⟩:=G;show D i j t t' s _ _ F ⟨.int (g i j),H,I.tok _,⟨_,rL⟩,q⟩
def ahW {f:Value->Value->Sem Value}{g:Int->Int->Int}(D:∀(i j:Int) (t u:Tok) (s:Shared) (Q:AF) (E:AF),Q (.int (g i j) s.toks) {s with toks:=s.toks+1}->wpAny (model X.prog X.w) X.A (f (.int i t) (.int j u)) Q E s):gK X f (Pu λi j=>.int (g i j)):=by intro ao s σ H x y v u Q I G F h;let⟨i,j,rfl,rfl,q⟩:=h;let⟨t,rfl⟩:=G;let⟨t',rfl⟩:=F;show D i j t t' s _ _ ⟨.int (g i j),H,I.tok _,⟨_,rL⟩,q⟩
def Zt {f:Value->Value->Sem Value}{g:Int->Int->Bool}(D:∀(i j:Int) (t u:Tok) (s:Shared) (Q:AF) (E:AF),Q (.bool (g i j)) s->wpAny (model X.prog X.w) X.A (f (.int i t) (.int j u)) Q E s):gK X f (Pu λi j=>.bl (g i j)):=by intro ao s σ H x y v u Q I G F h;let⟨i,j,rfl,rfl,q⟩:=h;let⟨t,rfl⟩:=G;let⟨t',rfl⟩:=F;show D i j t t' s _ _ ⟨.bl (g i j),H,I,rL,q⟩
def akV (i j:Int):Prop:=0<j/\j<1073741824
def akW (i j:Int):Prop:=0<=j/\j<=1000000/\i.natAbs<2^64
def Zu (i j:Int):Prop:=(-(2^64)<i/\i<2^64)\/(-(2^64)<j/\j<2^64)
def Zu.ok (h:Zu i j):IntMulOk i j:=by
 rcases h with⟨h1,h2⟩|⟨h1,h2⟩;.show .of_left (intBits_le_64 h1 h2)
 .show .of_right (intBits_le_64 h1 h2)
def cW:gK X (binaryOp .Add) (Pu λi j=>.int (i+j)):=ahW λ_ _ _ _ _ _ _ q=>add_int q
def oZ:gK X (binaryOp .Sub) (Pu λi j=>.int (i-j)):=ahW λ_ _ _ _ _ _ _ q=>sub_int q
def jo:gK X (binaryOp .Mult) (rI Zu λi j=>.int (i*j)):=opI λ_ _ _ _ _ _ _ D q=>mul_int q D.ok
def cV:gK X (binaryOp .FloorDiv) (rI akV λi j=>.int (i/j)):=opI λi j _ _ _ _ _ D q=>by let h1:(0:Int)<j:=D.1;let h2:j<1073741824:=D.2;show floordiv_int p_ (by rw[nX i (Int.le_of_lt h1)];show q) (.inl (lL (by grind)))
def cu:gK X (binaryOp .Mod) (rI (λ_ j=>0<j) λi j=>.int (i%j)):=opI λi j _ _ _ _ _ D q=>by let h1:(0:Int)<j:=D;show mod_int' p_ (by rw[Int.fmod_eq_emod_of_nonneg i p_];show q)
def Sv:gK X (binaryOp .Pow) (rI akW λi j=>.int (i^j.toNat)):=opI λ_ _ _ _ _ _ _ D q=>pow_int_small D.1 D.2.1 D.2.2 q
def unI {f:Value->Sem Value}{g:Int->Int}(j:∀(i:Int) (t:Tok) (s:Shared) (Q:AF) (E:AF),Q (.int (g i) s.toks) {s with toks:=s.toks+1}->wpAny (model X.prog X.w) X.A (f (.int i t)) Q E s):UnR X f (rU λi=>.int (g i)):=by intro ao s σ H x v Q I D h;let⟨i,rfl,q⟩:=h;let⟨t,rfl⟩:=D;show j i t s _ _ ⟨.int (g i),H,I.tok _,⟨_,rL⟩,q⟩
def lF:UnR X (unaryOp .USub) (rU λi=>.int (-i)):=unI λ_ _ _ _ _ q=>neg_int q
end
noncomputable def ahX:V->V->Bool
 | .non,.non=>true|.non,.int _=>true|.int _,.non=>true|.non,.bl _=>true|.bl _,.non=>true|.non,.str _=>true|.str _,.non=>true
 | .int _,.int _=>true|.bl _,.bl _=>true|.str _,.str _=>true|.Dr _,.Dr _=>true
 | .int _,.str _=>true|.str _,.int _=>true|.bl _,.str _=>true|.str _,.bl _=>true
 | _,_=>false
def rEq:R2:=λx y H Q=>ahX x y=true/\Q (.bl (decide (x=y))) H
def rNe:R2:=λx y H Q=>ahX x y=true/\Q (.bl (!decide (x=y))) H
def Xn:decide (V.int i=V.int j)=(i==j):=by rw[ib];simp
def aa7:decide (V.bl i=V.bl j)=(i==j):=by rw[ib];simp
def Xo:decide (V.str i=V.str j)=(i==j):=by rw[ib];simp
def Xp:decide (V.Dr i=V.Dr j)=(i.toList==j.toList):=by rw[ib];cases i;cases j;simp
section
variable {X:Cx}{a b c:Expr}{ta tb tc:TE}{pos:Pos}
def eU {ao:AH}{σ:St}{H:Hp}{s:Shared}{Q:VK}{k j:Bool}(I:aV X ao σ H s)(q:Q (.bl k) H)(e:k=j):EP X ao σ Q (.bool j) s:=by subst e;show⟨.bl k,H,I,rL,q⟩
def jk:gK X (compareOp .Eq) rEq:=by
 intro ao s σ H x y v u Q I F D h;let⟨hs,q⟩:=h;cases x with
 | non=>
  cases F;cases y with
  | non=>cases D;show PySem.EqNone.eq_none_none (eU I q qa)
  | bl j=>cases D;show PySem.EqNone.eq_none_bool (eU I q qa)
  | int j=>let⟨t',rfl⟩:=D;show PySem.EqNone.eq_none_int (eU I q qa)
  | str j=>let⟨t',rfl⟩:=D;show PySem.EqNone.eq_none_str (eU I q qa)
  | _=>show absurd (show false=true from hs) bP
 | bl i=>
  cases F;cases y with
  | non=>cases D;show PySem.EqNone.eq_bool_none (eU I q qa)
  | bl j=>cases D;show eq_bool (eU I q aa7)
  | str j=>let⟨t',rfl⟩:=D;show PySem.EqMixed.eq_bool_str (eU I q qa)
  | _=>show absurd (show false=true from hs) bP
 | int i=>
  let⟨t,rfl⟩:=F;cases y with
  | non=>cases D;show PySem.EqNone.eq_int_none (eU I q qa)
  | int j=>let⟨t',rfl⟩:=D;show eq_int (eU I q Xn)
  | str j=>let⟨t',rfl⟩:=D;show PySem.EqMixed.eq_int_str (eU I q qa)
  | _=>show absurd (show false=true from hs) bP
 | str i=>
  let⟨t,rfl⟩:=F;cases y with
  | non=>cases D;show PySem.EqNone.eq_str_none (eU I q qa)
  | bl j=>cases D;show PySem.EqMixed.eq_str_bool (eU I q qa)
  | int j=>let⟨t',rfl⟩:=D;show PySem.EqMixed.eq_str_int (eU I q qa)
  | str j=>let⟨t',rfl⟩:=D;show eq_str (eU I q Xo)
  | _=>show absurd (show false=true from hs) bP
 | Dr i=>
  let⟨t,rfl⟩:=F;cases y with
  | Dr j=>let⟨t',rfl⟩:=D;show W.eq_bytes (eU I q Xp)
  | _=>show absurd (show false=true from hs) bP
 | _=>cases y <;> show absurd (show false=true from hs) bP
def Br:gK X (compareOp .NotEq) rNe:=by
 intro ao s σ H x y v u Q I F D h;let⟨hs,q⟩:=h;cases x with
 | non=>
  cases F;cases y with
  | non=>cases D;show PySem.EqNone.ne_none_none (eU I q qa)
  | bl j=>cases D;show PySem.EqNone.ne_none_bool (eU I q qa)
  | int j=>let⟨t',rfl⟩:=D;show PySem.EqNone.ne_none_int (eU I q qa)
  | str j=>let⟨t',rfl⟩:=D;show PySem.EqNone.ne_none_str (eU I q qa)
  | _=>show absurd (show false=true from hs) bP
 | bl i=>
  cases F;cases y with
  | non=>cases D;show PySem.EqNone.ne_bool_none (eU I q qa)
  | bl j=>cases D;show ne_bool (eU I q (congrArg not aa7))
  | str j=>let⟨t',rfl⟩:=D;show PySem.EqMixed.ne_bool_str (eU I q qa)
  | _=>show absurd (show false=true from hs) bP
 | int i=>
  let⟨t,rfl⟩:=F;cases y with
  | non=>cases D;show PySem.EqNone.ne_int_none (eU I q qa)
  | int j=>let⟨t',rfl⟩:=D;show ne_int (eU I q (congrArg not Xn))
  | str j=>let⟨t',rfl⟩:=D;show PySem.EqMixed.ne_int_str (eU I q qa)
  | _=>show absurd (show false=true from hs) bP
 | str i=>
  let⟨t,rfl⟩:=F;cases y with
  | non=>cases D;show PySem.EqNone.ne_str_none (eU I q qa)
  | bl j=>cases D;show PySem.EqMixed.ne_str_bool (eU I q qa)
  | int j=>let⟨t',rfl⟩:=D;show PySem.EqMixed.ne_str_int (eU I q qa)
  | str j=>let⟨t',rfl⟩:=D;show ne_str (eU I q (congrArg not Xo))
  | _=>show absurd (show false=true from hs) bP
 | Dr i=>
  let⟨t,rfl⟩:=F;cases y with
  | Dr j=>let⟨t',rfl⟩:=D;show W.ne_bytes (eU I q (congrArg not Xp))
  | _=>show absurd (show false=true from hs) bP
 | _=>cases y <;> show absurd (show false=true from hs) bP
def wu:gK X (compareOp .Lt) (Pu λi j=>.bl (decide (i<j))):=Zt λ_ _ _ _ _ _ _ q=>lt_int q
def qO:gK X (compareOp .LtE) (Pu λi j=>.bl (decide (i<=j))):=Zt λ_ _ _ _ _ _ _ q=>le_int q
def aj9:gK X (compareOp .Gt) (Pu λi j=>.bl (decide (j<i))):=Zt λ_ _ _ _ _ _ _ q=>gt_int q
def G8:gK X (compareOp .GtE) (Pu λi j=>.bl (decide (j<=i))):=Zt λ_ _ _ _ _ _ _ q=>ge_int q
def aa8:gK X (compareOp .In) (λx y H Q=>∃i j,x=.str i/\y=.str j/\Q (.bl (!(Builtin.Str.occurrences j i 0 j.length 1).isEmpty)) H):=by intro ao s σ H x y v u Q I F D h;let⟨i,j,rfl,rfl,q⟩:=h;let⟨t,rfl⟩:=F;let⟨t',rfl⟩:=D;show in_str (eU I q rL)
def afL:gK X (compareOp .IsNot) (λx y H Q=>y=.non/\Q (.bl (!decide (x=.non))) H):=by
 intro ao s σ H x y v u Q I j D h;let⟨rfl,q⟩:=h;cases D;calc isnot_none_gen (eU I q ?_);cases x <;> first| (cases j;rfl)| (let⟨t,rfl⟩:=j;rfl)
def bM (b)(h:op≠.In:=by decide)(h2:op≠.NotIn:=by decide):behindInMarks op b=false:=by
 let e1:(op==CmpOp.In)=false:=by cases op <;> first|rfl|show absurd rL h
 let e2:(op==CmpOp.NotIn)=false:=by cases op <;> first|rfl|show absurd rL h2
 cases b <;> simp[behindInMarks,e1,e2]
def afM (j:gK X (compareOp op) r)(ha:PE X a ta)(hb:PE X b tb)(hm:behindInMarks op b=false):PE X (.Compare a [op] [b] pos) (Ie r ta tb):=by intro ao s σ H Q I h;show wpAny_Compare1 (adf ha hb I h λv u s2 x y J D G F q=>j ao s2 σ J x y v u Q D G F q) hm
def Rz (t:TE):TT:=λσ H Q=>t σ H λx H'=>∃k,x=.bl k/\Q k H'
def afN (F:gK X (compareOp op) r)(ha:PE X a ta)(hb:PE X b tb)(hm:behindInMarks op b=false):PT X (.Compare a [op] [b] pos) (Rz (Ie r ta tb)):=by
 intro ao s σ H Q I h;refine wpAny_isTrue_Compare1 (cH (ha ao s σ H _ I h) λv s1 ⟨x,H1,j,r1,q1⟩=>cH (hb ao s1 σ H1 _ j q1) λu s2 ⟨y,Z,J,D,q2⟩=>cH (F ao s2 σ Z x y v u _ J r1 D q2) λc s3 ⟨z,G,Y,O,k,e,q3⟩=>?_) hm
 subst e;cases O;show e_ ⟨G,Y,q3⟩
def DY (r F:R2)(ta tb tc:TE):TE:=λσ H Q=>ta σ H λx H1=>tb σ H1 λy G=>r x y G λz j=>∃k,z=.bl k/\
 (if k=true then tc σ j λI D=>F y I D Q else Q (.bl false) j)
def adg (ho:gK X (compareOp op) r)(j:gK X (compareOp op') r')(ha:PE X a ta)(hb:PE X b tb)(Y:PE X c tc)(hm:lastMarks [op,op'] [b,c]=false:=by with_unfolding_all rfl):PE X (.Compare a [op,op'] [b,c] pos) (DY r r' ta tb tc):=by
 intro ao s σ H Q I h;refine Compare_chain (cH (ha ao s σ H _ I h) λv s1 ⟨x,H1,O,r1,q1⟩=>chain_link (cH (hb ao s1 σ H1 _ O q1) λu s2 ⟨y,H2,I2,D,q2⟩=>cH (ho ao s2 σ H2 x y v u _ I2 r1 D q2) λd s3 ⟨z,F,G,r3,k,e,q3⟩=>?_)) hm
 subst e;cases r3;calc e_ ?_;cases k with| false=>show ite_ff ⟨.bl false,F,G,rL,q3⟩| true=>show ite_tt (chain_last (cH (Y ao s3 σ F _ G q3) λw' Z ⟨z',J,I4,r4,q4⟩=>j ao Z σ J y z' u w' Q I4 D r4 q4))
def adh (ho:gK X (compareOp op) r)(D:gK X (compareOp op') r')(ha:PE X a ta)(hb:PE X b tb)(hc:PE X c tc)(hm:lastMarks [op,op'] [b,c]=false:=by with_unfolding_all rfl):PT X (.Compare a [op,op'] [b,c] pos) (Rz (DY r r' ta tb tc)):=by
 intro ao s σ H Q I h;refine isTrue_chain (cH (ha ao s σ H _ I h) λv s1 ⟨x,H1,Z,r1,q1⟩=>test_link (cH (hb ao s1 σ H1 _ Z q1) λu s2 ⟨y,H2,I2,F,q2⟩=>cH (ho ao s2 σ H2 x y v u _ I2 r1 F q2) λd s3 ⟨z,G,J,r3,k,e,q3⟩=>?_)) hm
 subst e;cases r3;calc e_ ?_;cases k with
 | false=>let⟨k',e',Y⟩:=q3;cases e';show ite_ff ⟨G,J,Y⟩
 | true=>calc ite_tt (test_last (cH (hc ao s3 σ G _ J q3) λw' s4 j=>?_));let⟨z',O,I4,r4,q4⟩:=j;calc cH (D ao s4 σ O y z' u w' _ I4 F r4 q4) λd' s5 j=>?_;let⟨z2,H5,I5,r5,k2,e2,q5⟩:=j;subst e2;cases r5;show e_ ⟨H5,I5,q5⟩
def Ag:(sizeLine:Nat)<2^63:=by rw[sizeLine_eq];decide
def Zv:gK X (binaryOp .Add) (λx y H Q=>∃i j,x=.str i/\y=.str j/\i.length+j.length<=sizeLine/\Q (.str (i++j)) H):=by intro ao s σ H x y v u Q I F D h;let⟨i,j,rfl,rfl,hz,q⟩:=h;let⟨t,rfl⟩:=F;let⟨t',rfl⟩:=D;show add_str (λt' tk=>⟨.str (i++j),H,I.tok _,⟨_,rL⟩,q⟩) hz
def vals1 (r:Vals [x] us):∃u,us=[u]/\cR x u:=by
 cases r with| cons r1 r2=>cases r2;show⟨_,rL,r1⟩
def vals2 (r:Vals [x,y] us):∃u j,us=[u,j]/\cR x u/\cR y j:=by
 cases r with
 | cons r1 r2=>
  cases r2 with| cons r3 r4=>cases r4;show⟨_,_,rL,r1,r3⟩
def Px (F:X.calm=true):jc X (.builtin "max") (λxs H Q=>∃i j,xs=[.int i,.int j]/\Q (.int (if j > i then j else i)) H):=by
 intro ao s σ H xs us Q I r h;let⟨i,j,rfl,q⟩:=h;obtain⟨u,G,rfl,⟨t,rfl⟩,⟨t',rfl⟩⟩:=vals2 r;refine max_two_ints (I.ok.hd F) λh' tk k=>⟨_,H,I.kept k,?_,q⟩
 by_cases D:j > i;.rw[if_pos D,if_pos D];show⟨_,rL⟩
 .rw[if_neg D,if_neg D];show⟨_,rL⟩
def Py (F:X.calm=true):jc X (.builtin "min") (λxs H Q=>∃i j,xs=[.int i,.int j]/\Q (.int (if j<i then j else i)) H):=by
 intro ao s σ H xs us Q I r h;let⟨i,j,rfl,q⟩:=h;obtain⟨u,G,rfl,⟨t,rfl⟩,⟨t',rfl⟩⟩:=vals2 r;refine min_two_ints (I.ok.hd F) λh' tk k=>⟨_,H,I.kept k,?_,q⟩
 by_cases D:j<i;.rw[if_pos D,if_pos D];show⟨_,rL⟩
 .rw[if_neg D,if_neg D];show⟨_,rL⟩
def Pz:jc X (.type "int") (λxs H Q=>(∃i,xs=[.int i]/\Q (.int i) H)\/∃k,xs=[.bl k]/\Q (.int (if k then 1 else 0)) H):=by
 intro ao s σ H xs us Q I r h;rcases h with⟨i,rfl,q⟩|⟨k,rfl,q⟩
 .let⟨u,rfl,t,rfl⟩:=vals1 r;show call_int_int ⟨.int i,H,I,⟨_,rL⟩,q⟩
 .let⟨u,rfl,r1⟩:=vals1 r;cases r1;show call_int_bool ⟨.int (if k then 1 else 0),H,I.tok _,⟨_,rL⟩,q⟩
end
structure I_ (h:Heap)(x dx C:Addr)(mA:Str->Option Value):Prop where
 obj:h.get? x=some (W.instObj C dx)
 ns:h.Ns1 dx mA
 ne:dx≠x
def aa9 {h:Heap}(n:h.Ns1 dx mA):∃od,h.get? dx=some od/\∀name,W.lookIn name od=some (mA name):=by
 let⟨o,es,ep,D,hd,F,_,hm⟩:=n;calc⟨o,D,λname=>?_⟩;let e:=hm name;unfold nsFind findBy at e;rw[<-Array.find?_toList]at e;unfold W.lookIn;rw[hd];dsimp only;split
 .rename_i y q;rw[q]at e;show congrArg some e
 .rename_i q;rw[q]at e;let a:es.toList.any (·.refKey)=false:=by
   rw[List.any_eq_false];intro y hy;let⟨z,t,j⟩:=F y (Array.mem_toList_iff.mp hy);simp[DictEntry.refKey,j]
  let G:¬es.toList.any (·.refKey)=true:=by rw[a];show bP
  rw[if_neg G];show congrArg some e
def I_.look (I:I_ h x dx C mA):∃od,W.InstAt h x (W.instObj C dx) C (some od)/\∀name,W.lookIn name od=some (mA name):=let ⟨od,ho,hl⟩:=aa9 I.ns
 ⟨od,⟨I.obj,rL,rL,ho⟩,hl⟩
section
variable {prog:Program}{w:World}{A:Around}{E:AF}{s:Shared}{K:W.Frag}{x dx C f:Addr}{mA:Str->Option Value}{name:Str}{v:Value}
def get_map (X:K.In s.heap)(I:I_ s.heap x dx C mA)(F:W.plainGet K C name=true)(G:W.hasDictIn K C=true)(ha:W.findIn K (.ref C) name=some none)(D:mA name=some v)(j:W.handedIn v=true)(h:Q v {s with toks:=s.toks+1}):wpAny (model prog w) A (getAttr (.ref x) name expr) Q E s:=by let⟨od,J,hl⟩:=I.look;show W.get_value X J (ny F).1 (W.findObj_own G ha rL (by rw[hl,D])) j h
def adi (X:K.In s.heap)(I:I_ s.heap x dx C mA)(j:W.plainGet K C name=true)(F:W.findIn K (.ref C) name=some (some (.ref f)))(ht:W.isFn K (.ref f)=true)(D:mA name=none)(h:Q (.ref f,[.ref x]) s):wpAny (model prog w) A (getMethod (.ref x) name pl) Q E s:=by let⟨od,J,hl⟩:=I.look;show W.method_fn X J (ny j).1 (ny j).2 F (beq_iff_eq.mp ht) (by show (W.lookIn name od).map (·.isSome)=some false;rw[hl,D];rfl) h
def afO (X:K.In s.heap)(I:I_ s.heap x dx C mA)(hs:W.findIn K (.ref C) "__setattr__"=some (some (.builtin "object.__setattr__")))(hp:W.plainOver K C=true)(ht:W.takerIn K C name=some none)(hh:W.hasDictIn K C=true)(hw:PySem.Within mA ns)(hsz:ns.length<=sizeLine)(h:∀h',I_ h' x dx C (λy=>if y=name then some v else mA y)->Heap.SameBut dx s.heap h'->Q () {s with heap:=h',toks:=s.toks+2}):wpAny (model prog w) A (setAttr (.ref x) name v) Q E s:=by let⟨od,J,hl⟩:=I.look;calc W.set_plain X J hs (W.osa_open (s:={s with toks:=s.toks+1}) (r:=none) X J hp ht λb=>?_);let⟨cd,Z,O⟩:=W.any_some hh;let hx:s.heap.get? x=some ⟨.ref C,some dx,.plain,#[]⟩:=I.obj;calc ae (aw (ae (ae (nE hx (ae (W.Looks.here (s:={s with toks:=s.toks+1}) (W.looks_clsIn X Z) ?_))))));rw[O];calc aw (a:=some dx) (ae (aw (ae ?_)));calc wpAny_nsSet1 (s:={s with toks:=s.toks+1}) I.ns λh' j D=>?_;let⟨oD,esD,epD,Y,F,G⟩:=j.count (ow name v hw);calc ae (wpAny_lookBehind Y (by rw[F];show pastItsLine_dict (bE G (by rw[dE];show gN hsz))) ?_);show aw (h _ ⟨(D.2 _ (gf I.ne)).trans I.obj,j,I.ne⟩ D)
def adk (X:K.In s.heap)(hm:W.makesIn K C=true)(hi:W.findIn K (.ref C) "__init__"=some (some (.ref f)))(j:W.typeIn K (.ref f)=some (.type "function"))(h:codeAny (model prog w) (A.under (.builtin "type.__call__" ⟨.ref C::vs,kw⟩)) (.call (.ref f) ⟨.ref (s.heap.objs.size+1)::vs,kw⟩) (W.InitBack (s.heap.objs.size+1) R) {s with heap:=(s.heap.push W.emptyDict).push (W.instObj C s.heap.objs.size)}):codeAny (model prog w) A (.call (.ref C) ⟨vs,kw⟩) R s:=by let⟨D,g,d,t,os⟩:=s;show W.make_core (W.makes_of X hm) (W.looks_findIn X hi) (λself=>W.bind_fn X self j) (.inl rL) h
end
noncomputable def iZ (f:Str)(v:V):List (Str×V)->List (Str×V)
 | []=>[(f,v)]
 | (g,x)::r=>if g=f then (g,v)::r else (g,x)::iZ f v r
theorem zA (f g)(v):∀fs:List (Str×V),(iZ f v fs).lookup g=if g=f then some v else fs.lookup g
 | []=>by
  show List.lookup g [(f,v)]=_;by_cases h:g=f
  .let hb:(g==f)=true:=beq_iff_eq.mpr h;simp only[List.lookup,hb,if_pos h]
  .let hb:(g==f)=false:=beq_eq_false_iff_ne.mpr h;simp only[List.lookup,hb,if_neg h]
 | (k,x)::r=>by
  let D:=zA f g v r;rw[show iZ f v ((k,x)::r)=(if k=f then (k,v)::r else (k,x)::iZ f v r) from rfl];by_cases j:k=f
  .rw[if_pos j];by_cases h:g=k
   .let hb:(g==k)=true:=beq_iff_eq.mpr h;simp only[List.lookup,hb,if_pos (h.trans j)]
   .let hb:(g==k)=false:=beq_eq_false_iff_ne.mpr h;simp only[List.lookup,hb,if_neg (λe:g=f=>h (e.trans j.symm))]
  .rw[if_neg j];by_cases h:g=k
   .let hb:(g==k)=true:=beq_iff_eq.mpr h;simp only[List.lookup,hb,if_neg (λe:g=f=>j (h.symm.trans e))]
   .let hb:(g==k)=false:=beq_eq_false_iff_ne.mpr h;simp only[List.lookup,hb];show D
theorem u9 (f)(v):∀fs:List (Str×V),f∈(iZ f v fs).map (·.1)/\∀g,g∈fs.map (·.1)->g∈(iZ f v fs).map (·.1)
 | []=>⟨by simp[iZ],λg h=>by simp at h⟩
 | (k,x)::r=>by
  let⟨i1,i2⟩:=u9 f v r;rw[show iZ f v ((k,x)::r)=(if k=f then (k,v)::r else (k,x)::iZ f v r) from rfl];by_cases j:k=f
  .rw[if_pos j];subst j;show⟨qa,λg h=>by simpa using h⟩
  .rw[if_neg j];refine⟨?_,λg h=>?_⟩
   .rw[cw];show bz _ i1
   .rw[cw]at h ⊢;rcases bX.mp h with e|e;.show bX.mpr (.inl e)
    .show bz _ (i2 g e)
theorem zB (f)(v):∀fs:List (Str×V),(iZ f v fs).length<=fs.length+1
 | []=>by simp[iZ]
 | (k,x)::r=>by
  let D:=zB f v r;rw[show iZ f v ((k,x)::r)=(if k=f then (k,v)::r else (k,x)::iZ f v r) from rfl];by_cases j:k=f;.rw[if_pos j,dE,dE];lia
  .rw[if_neg j,dE,dE];show gN D
def nR.some_of (r:nR (some v) o):∃u,o=some u/\cR v u:=by
 cases o with| none=>show(show False from r).elim| some u=>show⟨u,rL,r⟩
def nR.none_of (r:nR none o):o=none:=by
 cases o with| none=>rfl| some u=>show(show False from r).elim
def PB (r:cR v u):W.handedIn u=true:=by
 cases v with
 | non=>cases(show u=Value.none from r);rfl
 | bl b=>cases(show u=Value.bool b from r);rfl
 | int i=>let⟨t,e⟩:=(show ∃t,u=Value.int i t from r);cases e;rfl
 | str x=>let⟨t,e⟩:=(show ∃t,u=Value.str x t from r);cases e;rfl
 | Dr b=>let⟨t,e⟩:=(show ∃t,u=Value.bytes b t from r);cases e;rfl
 | flt b=>let⟨t,e⟩:=(show ∃t,u=Value.float b t from r);cases e;rfl
 | ref a=>cases(show u=Value.ref a from r);rfl
 | ty n=>cases(show u=Value.type n from r);rfl
section
variable {P:Program}{w:World}{H:Hp}{h:Heap}{a C dx:Addr}{fs:List (Str×V)}
def Ah (hok:lD P w H h)(e:H a=some (.ins C dx fs)):∃mA,I_ h a dx C mA/\(∀f,nR (fs.lookup f) (mA f))/\PySem.Within mA (fs.map (·.1))/\fs.length<=1000/\H dx=some (.own a):=by
 let⟨d,z,ne,ob,mA,n,r,q⟩:=(show gJ P w H h a (.ins C dx fs) from hok a _ e)
 show⟨mA,⟨ob,n,ne⟩,r,q,z,d⟩
end
structure Cls (K:W.Frag)(C:Addr):Prop where
 pg:W.plainGet K C Str.empty=true
 hd:W.hasDictIn K C=true
 po:W.plainOver K C=true
 sa:W.findIn K (.ref C) "__setattr__"=some (some (.builtin "object.__setattr__"))
def Cls.get {K:W.Frag}(c:Cls K C)(f:Str):W.plainGet K C f=true:=c.pg
def jh (K:W.Frag)(C:Addr)(f:Str):Prop:=W.findIn K (.ref C) f=some none
def jh.taker {K:W.Frag}{f:Str}(n:jh K C f):W.takerIn K C f=some none:=by unfold W.takerIn;rw[show W.findIn K (.ref C) f=some none from n];rfl
structure Meth (K:W.Frag)(C:Addr)(m:Str)(f:Addr):Prop where
 at_:W.findIn K (.ref C) m=some (some (.ref f))
 fn:W.isFn K (.ref f)=true
 kp:W.keepIn K (.ref f)=true
section
variable {X:Cx}{ao:AH}{σ:St}{H:Hp}{s:Shared}{a C dx:Addr}{fs:List (Str×V)}{f:Str}{v:V}{A:Around}{E:AF}
def Zw (I:aV X ao σ H s)(e:H a=some (.ins C dx fs))(c:Cls X.K C)(n:jh X.K C f)(l:fs.lookup f=some v)(h:∀u s',aV X ao σ H s'->cR v u->Q u s'):wpAny (model X.prog X.w) A (getAttr (.ref a) f b) Q E s:=by let⟨mA,O,r,_,_,_⟩:=Ah I.hok e;let⟨u,D,j⟩:=nR.some_of (v:=v) (o:=mA f) (by rw[<-l];show r f);show get_map I.iV O (c.get f) c.hd n D (PB j) (h u _ (I.tok _) j)
def wB (I:aV X ao σ H s)(e:H a=some (.ins C dx fs))(c:Cls X.K C)(k:Meth X.K C m g)(l:fs.lookup m=none)(h:Q (.ref g,[.ref a]) s):wpAny (model X.prog X.w) A (getMethod (.ref a) m pl) Q E s:=by let⟨mA,O,r,_,_,_⟩:=Ah I.hok e;let hn:mA m=none:=nR.none_of (by rw[<-l];show r m);show adi I.iV O (c.get m) k.at_ k.fn hn h
def Zx (I:aV X ao σ H s)(e:H a=some (.ins C dx fs))(c:Cls X.K C)(n:jh X.K C f)(hl:fs.length<1000)(G:cR y u)(h:∀s',aV X ao σ (upd H a (.ins C dx (iZ f y fs))) s'->Q () s'):wpAny (model X.prog X.w) A (setAttr (.ref a) f u) Q E s:=by
 let⟨mA,O,r,wi,_,D⟩:=Ah I.hok e;let hz:(fs.map (·.1)).length<=sizeLine:=by rw[aa,sizeLine_eq];lia
 calc afO I.iV O c.sa c.po n.taker c.hd wi hz λh' j F=>h _ ?_;let hd:∃o,h'.get? dx=some o:=let ⟨o,_,_,e',_⟩:=j.ns;⟨o,e'⟩
 calc I.write (x:=a) (e:=dx) (by rw[e];show True.intro) (.inr D) (λb q hb z=>(F.2 b hb).trans z) hd ?_;calc⟨by rw[aZ O.ne];show D,?_,O.ne,j.obj,_,j.ns,λg=>?_,λg J=>?_⟩;.have:=zB f y fs;lia
 .show nR ((iZ f y fs).lookup g) (if g=f then some u else mA g);rw[zA];by_cases q:g=f;.rw[if_pos q,if_pos q];show G
  .rw[if_neg q,if_neg q];show r g
 .by_cases q:g=f;.rw[q];show(u9 f y fs).1
  .calc(u9 f y fs).2 g (wi g λz=>J ?_);show (if g=f then some u else mA g)=none;rw[if_neg q];show z
def aV.made (I:aV X ao σ H s):aV X ao σ (upd (upd H s.heap.objs.size (.own (s.heap.objs.size+1))) (s.heap.objs.size+1) (.ins C s.heap.objs.size [])) {s with heap:=(s.heap.push W.emptyDict).push (W.instObj C s.heap.objs.size)}:=by
 let e1:(s.heap.push W.emptyDict).get? s.heap.objs.size=some W.emptyDict:=ba s.heap rfl;let e2:((s.heap.push W.emptyDict).push (W.instObj C s.heap.objs.size)).get? (s.heap.objs.size+1)=some (W.instObj C s.heap.objs.size):=by
  have:=ba (s.heap.push W.emptyDict) (o:=W.instObj C s.heap.objs.size) rfl
  rwa [fe]at this
 let e3:(s.heap.push W.emptyDict).Ns s.heap.objs.size (λ_=>none):=⟨W.emptyDict,#[],_,e1,rL,(λe D=>absurd D qa),λ_=>rfl⟩
 let j:=I.laid (a:=s.heap.objs.size) (o:=.own (s.heap.objs.size+1)) (h':=s.heap.push W.emptyDict) (t':=s.toks) (λb u q=>af _ q) (al _) ⟨_,e1⟩;calc j.laid (a:=s.heap.objs.size+1) (o:=.ins C s.heap.objs.size []) (t':=s.toks) (λb u q=>af _ q) (iF (fe _ _)) ?_;let ne:s.heap.objs.size≠s.heap.objs.size+1:=cn (gL _);refine⟨by rw[aZ ne,au],eQ _,ne,e2,λ_=>none,(Heap.Ns1.of_empty e3).at λo q=>af _ q,λ_=>True.intro,λy hy=>absurd rL hy⟩
def Xq (hb:attributeBase e f env (eval e env)=eval e env)(h:wpAny (model prog w) A (eval e env) (λo j=>wpAny (model prog w) A (getAttr o f true) Q E j) E s):wpAny (model prog w) A (eval (.Attribute e f pos) env) Q E s:=Attribute_any_ h (by rw[arm_eval_Attribute,hb])
end
def Zy (K:W.Frag)(ta:TE)(f:Str):TE:=λσ H Q=>ta σ H λx H1=>∃a C dx fs v,x=.ref a/\H1 a=some (.ins C dx fs)/\Cls K C/\jh K C f/\fs.lookup f=some v/\Q v H1
def ahY (K:W.Frag)(ta tv:TE)(f:Str):TS:=λD σ H=>tv σ H λy H1=>ta σ H1 λx j=>∃a C dx fs,x=.ref a/\j a=some (.ins C dx fs)/\Cls K C/\jh K C f/\fs.length<1000/\
 D.nx σ (upd j a (.ins C dx (iZ f y fs)))
section
variable {X:Cx}{o e value:Expr}{f:Str}{pos pos':Pos}{ta tv:TE}
variable {ao:AH}{σ:St}{H:Hp}{s:Shared}{A:Around}{E Q:AF}{c:Value}{b:Bool}
def ahZ (Y:PE X e ta)(hb:attributeBase e f X.env (eval e X.env)=eval e X.env):PE X (.Attribute e f pos) (Zy X.K ta f):=by intro ao s σ H Q I h;calc Xq hb (cH (Y ao s σ H _ I h) λu s1 D=>?_);let⟨x,H1,j,O,a,C,dx,fs,v,ex,J,c,n,l,q⟩:=D;subst ex;obtain rfl:u=Value.ref a:=O;show Zw j J c n l λZ s2 G F=>⟨v,H1,G,F,q⟩
def ah0 (ha:PE X o ta)(G:PE X value tv)(hs:swapsWith value (some (.Attribute o f pos')) pos.line X.env=pure false):PS X (.Assign [.Attribute o f pos'] value pos) (ahY X.K ta tv f):=by intro ao s σ H D I h;calc plainObj_wpAny_Assign_Attribute (cH (G ao s σ H _ I h) λu s1 j=>?_) hs;let⟨y,H1,F,Z,q⟩:=j;calc cH (ha ao s1 σ H1 _ F q) λov s2 j=>?_;let⟨x,H2,J,rx,a,C,dx,fs,ex,Y,c,n,l,q2⟩:=j;subst ex;obtain rfl:ov=Value.ref a:=rx;show Zx J Y c n l Z λs3 O=>⟨σ,_,O,q2⟩
inductive nU (K:W.Frag) (H:Hp):V->Value->Prop where
 | non:nU K H .non (.type "NoneType")
 | bl (x:Bool):nU K H (.bl x) (.type "bool")
 | int (i:Int):nU K H (.int i) (.type "int")
 | str (x:Str):nU K H (.str x) (.type "str")
 | flt (x:UInt64):nU K H (.flt x) (.type "float")
 | lst {a:Addr} {xs:List V} (e:H a=some (.lst xs)):nU K H (.ref a) (.type "list")
 | qG {a:Addr} {o:Obj} {xs:List V} (e:H a=some (.qG o (.lst xs))):nU K H (.ref a) (.type "list")
 | tup {a:Addr} {xs:List V} (e:H a=some (.tup xs)):nU K H (.ref a) (.type "tuple")
 | dK {a:Addr} {kvs:List (Key×V)} (e:H a=some (.dK kvs)):nU K H (.ref a) (.type "dict")
 | dT {a:Addr} {kvs:List (List Key×V)} (e:H a=some (.dT kvs)):nU K H (.ref a) (.type "dict")
 | ins {a C dx:Addr} {fs:List (Str×V)} (e:H a=some (.ins C dx fs)) (cl:Cls K C) (ha:W.findIn K (.ref C) "__class__"=some (some (.builtin "object.__class__")))
   (hn:W.specialIn K (.builtin "object.__class__") "__get__"=some (some (.builtin "getset_descriptor.__get__"))) (htk:W.takesIn K (.builtin "object.__class__")=some true)
   (hm:W.mroIn K C (.type "object")=some true):nU K H (.ref a) (.ref C)
def aa_ (I:aV X ao σ H s)(j:cR x u)(ty:nU X.K H x t)(e:W.kitOne X.K t c=some b)(h:∀tk,Q (.bool b) {s with toks:=tk}):wpAny (model X.prog X.w) A (call (.builtin "isinstance") [u,c]) Q E s:=by
 cases ty with
 | non=>cases(show u=Value.none from j);show fg W.kitx_none I.iV True.intro e (λz=>nomatch z) h
 | bl y=>cases(show u=Value.bool y from j);show fg W.kitx_bool I.iV True.intro e (λz=>nomatch z) h
 | int i=>let⟨t,q⟩:=(show ∃t,u=Value.int i t from j);cases q;show fg W.kitx_int I.iV True.intro e (λz=>nomatch z) h
 | str y=>let⟨t,q⟩:=(show ∃t,u=Value.str y t from j);cases q;show fg W.kitx_str I.iV True.intro e (λz=>nomatch z) h
 | flt y=>let⟨t,q⟩:=(show ∃t,u=Value.float y t from j);cases q;show fg W.kitx_float I.iV True.intro e (λz=>nomatch z) h
 | @lst a xs ea=>
  cases(show u=Value.ref a from j);let⟨_,_,n,_,h1⟩:=(show gJ X.prog X.w H s.heap a (.lst xs) from I.hok a _ ea)
  show fg W.kitx_list I.iV ⟨_,h1,rL⟩ e (λz=>nomatch z) h
 | @qG a ob xs ea=>
  cases(show u=Value.ref a from j);let⟨_,_,_,n,_,h1⟩:=(show gJ X.prog X.w H s.heap a (.qG ob (.lst xs)) from I.hok a _ ea)
  show fg W.kitx_list I.iV ⟨_,h1,rL⟩ e (λz=>nomatch z) h
 | @tup a xs ea=>
  cases(show u=Value.ref a from j);let⟨_,_,_,p⟩:=(show gJ X.prog X.w H s.heap a (.tup xs) from I.hok a _ ea)
  let⟨o,h1,h2,_⟩:=p;show fg W.kitx_tuple I.iV ⟨o,h1,h2⟩ e (λz=>nomatch z) h
 | @dK a kvs ea=>
  cases(show u=Value.ref a from j);let⟨_,_,vs,_,p⟩:=(show gJ X.prog X.w H s.heap a (.dK kvs) from I.hok a _ ea)
  let⟨o,es,ep,h1,h2,_⟩:=p;show fg W.kitx_dict I.iV ⟨o,h1,h2.1⟩ e (λz=>nomatch z) h
 | @dT a kvs ea=>
  cases(show u=Value.ref a from j);let⟨_,_,xs,_,o,es,ep,h1,h2,_⟩:=(show gJ X.prog X.w H s.heap a (.dT kvs) from I.hok a _ ea)
  show fg W.kitx_dict I.iV ⟨o,h1,h2.1⟩ e (λz=>nomatch z) h
 | @ins a C dx fs ea cl ha hn htk hm=>cases(show u=Value.ref a from j);let⟨mA,O,_⟩:=Ah I.hok ea;let⟨od,J,_⟩:=O.look;show fg (W.kitx_own (cl.get _) cl.hd ha hn htk hm) I.iV J e (λz=>nomatch z) h
end
structure fZ (k:Nat)(A:Around):Prop where
 hd:A.handled=none
 dp:A.depth+3*k+5<recursionLimit
 un:A.units+16*k+200<cLine
def fZ.mono (r:fZ k A)(h:j<=k:=by decide):fZ j A:=⟨r.hd,by have:=r.dp;lia,by have:=r.un;lia⟩
def fZ.deeper (r:fZ (k+1) A)(env):fZ k (A.deeper env):=⟨r.hd,by have:=r.dp;show A.depth+1+3*k+5<_;lia,by have:=r.un;show A.units+3+16*k+200<_;lia⟩
def Zz {A:Around}:(A.under (.builtin "type.__call__" ⟨.ref C::us,kw⟩)).depth=A.depth+1:=by first|rfl|simp[Around.under,Code.weight,Code.isCreation,Code.isGuard,Code.isCaller,Code.frames,Code.isFrame,guardIds]
def ZC {A:Around}:(A.under (.builtin "type.__call__" ⟨.ref C::us,kw⟩)).units=A.units+1:=by first|rfl|simp[Around.under,Code.cUnits,Code.frames,Code.isFrame]
def fZ.make (r:fZ (k+1) A)(C)(us)(kw):fZ k (A.under (.builtin "type.__call__" ⟨.ref C::us,kw⟩)):=⟨r.hd,by have:=r.dp;rw[Zz];(simp_all;lia),by have:=r.un;rw[ZC];(simp_all;lia)⟩
def fZ.depth (r:fZ k A):A.depth<recursionLimit:=by have:=r.dp;lia
def fZ.units (r:fZ k A):A.units+64<cLine:=by have:=r.un;lia
def fZ.Sw (r:fZ k A):A.units<cLine:=by have:=r.un;lia
def zE:TA:=λ_ H Q=>Q [] H
def wC (ta:TE)(tr:TA):TA:=λσ H Q=>ta σ H λx H1=>tr σ H1 λxs j=>Q (x::xs) j
section
variable {X:Cx}{e:Expr}{es:List Expr}{te:TE}{t:TA}{pos:Pos}
def ah1:PA X [] zE:=λ_ _ _ _ H Q I h=>im ⟨[],H,I,.nil,h⟩
def afP (ha:PE X e te)(O:PA X es t)(hs:starEach (e::es) X.env=(false,eval e X.env)::starEach es X.env:=by rfl):PA X (e::es) (wC te t):=by intro pos ao s σ H Q I h;rw[hs];show wpAny _ _ (spliced ((false,eval e X.env)::backTo pos (starEach es X.env))) _ _ s;calc fi (cH (ha ao s σ H _ I h) λu s1 j=>?_);let⟨x,H1,D,r1,q1⟩:=j;show cH (O pos ao s1 σ H1 _ D q1) λus s2 ⟨xs,J,G,F,q2⟩=>⟨x::xs,J,G,.cons r1 F,q2⟩
def ah2 (t:TA):TE:=λσ H Q=>t σ H λxs H1=>xs.length<=sizeLine/\∀p,H1 p=none->Q (.ref p) (upd H1 p (.tup xs))
def ah3 (t:TA):TE:=λσ H Q=>t σ H λxs H1=>xs.length<=sizeLine/\∀p,H1 p=none->Q (.ref p) (upd H1 p (.lst xs))
def ah4 {x1}(h:PA X es t):PE X (.Tuple es x1 pos) (ah2 t):=by intro ao s σ H Q I D;calc wpAny_Tuple_spliced (cH (h pos ao s σ H _ I D) λus s1 ⟨xs,H1,j,r,z,q⟩=>⟨by rw[<-r.length];show z,?_⟩);let F:H1 s1.heap.objs.size=none:=j.hok.fresh (al _);calc⟨.ref s1.heap.objs.size,upd H1 s1.heap.objs.size (.tup xs),j.laid (t':=s1.toks) (λb u e=>af _ e) (al _) ?_,rL,q _ F⟩;show⟨z,us,r,⟨_,ba _ rL,rL,_,rL⟩⟩
def ah5 (h:PA X es t):PE X (.List es pos) (ah3 t):=by intro ao s σ H Q I D;calc wpAny_List_spliced (cH (h pos ao s σ H _ I D) λus s1 ⟨xs,H1,j,r,z,q⟩=>⟨by rw[<-r.length];show z,?_⟩);let F:H1 s1.heap.objs.size=none:=j.hok.fresh (al _);calc⟨.ref s1.heap.objs.size,upd H1 s1.heap.objs.size (.lst xs),j.laid (t':=s1.toks) (λb u e=>af _ e) (al _) ?_,rL,q _ F⟩;show⟨z,us,0,r,ba _ rL⟩
end
abbrev Sp:=List V->Hp->VK->XK->Prop
abbrev u_:=List Env->Hp->Shared->XK->Value->Shared->Prop
structure Ja (P:Program)(w:World)(K:W.Frag)(mg:Str->Option Value)(base:Heap)(A:Around)(outer:List Env)(s:Shared)(H:Hp):Prop where
 frames:A.frames=some outer
 mod:Mod K mg base
 bs:∀b o,base.get? b=some o->s.heap.get? b=some o/\H b=none
 Ds:base.objs.size<=s.heap.objs.size
 qC:s.heap.FunFrames base outer
 DW:∀b∈frs outer,H b=none
 hok:lD P w H s.heap
 bare:AllBare s.gens
def CE (outer:List Env)(P:Program)(w:World)(H:Hp)(s:Shared)(Q:VK)(u:Value)(s':Shared):Prop:=∃v H',s'.os=s.os/\AllBare s'.gens/\Un (frs outer) [] H H' s.heap s'.heap/\lD P w H' s'.heap/\cR v u/\Q v H'
def CR (CX:u_)(outer:List Env)(P:Program)(w:World)(H:Hp)(s:Shared)(Q:VK)(E:XK)(r:Result)(s':Shared):Prop:=match r with| .ok (.ret u)=>CE outer P w H s Q u s'| .ok _=>False| .error e=>CX outer H s E e s'
structure cj (P:Program)(w:World)(K:W.Frag)(mg:Str->Option Value)(base:Heap)(CX:u_)(k:Nat)(f:Addr)(fd:FuncData)(ps:List Str)(sp:Sp):Prop where
 len:∀vs H Q E,sp vs H Q E->vs.length=ps.length
 run:∀(A:Around) (outer:List Env) (s:Shared) (H:Hp) (args:Args) (us:List Value) (vs:List V) (Q:VK) (E:XK),fZ k A->Ja P w K mg base A outer s H->BindsTo s fd args (ps.zip us)->Vals vs us->sp vs H Q E->
  codeAny (model P w) A (.call (.ref f) args) (CR CX outer P w H s Q E) s
def Ja.make {K:W.Frag}{mg:Str->Option Value}{outer:List Env}(e:Ja P w K mg base A outer s H)(C:Addr)(us:List Value)(j:List (Str×Value)):Ja P w K mg base (A.under (.builtin "type.__call__" ⟨.ref C::us,j⟩)) outer s H:=⟨by first|show e.frames|(simpa [Around.under,Code.envs,Code.isFrame,pushEnvs] using e.frames),e.mod,e.bs,e.Ds,e.qC,e.DW,e.hok,e.bare⟩
section
variable {X:Cx}{ao:AH}{σ:St}{H:Hp}{s s':Shared}
def aV.env0 (I:aV X ao σ H s):Ja X.prog X.w X.K X.mg X.base X.A X.stack s H:=⟨I.ok.frames,I.ok.mod,I.bs,bE I.ok.Ds I.sz,I.stack,I.Af,I.hok,I.bare⟩
def aV.after (I:aV X ao σ H s)(h:CE X.stack X.prog X.w H s Q u s'):EP X ao σ Q u s':=by let⟨v,H',os,bare,un,hok,r,q⟩:=h;let⟨D,g,d,t,j⟩:=s';obtain rfl:j=s.os:=os;show⟨v,H',I.call (h':=D) (g':=g) (d':=d) (t':=t) (ch:=[]) un hok bare (λb z=>absurd z qa),r,q⟩
end
def ZD (sp:Sp)(lG:List V)(E:XK)(t:TA):TE:=λσ H Q=>t σ H λvs H1=>sp (vs++lG) H1 Q E
def RB (C:Addr)(m:Str)(sp:Sp)(lG:List V)(E:XK)(ta:TE)(t:TA):TE:=λσ H Q=>ta σ H λx H1=>∃a dx fs,x=.ref a/\H1 a=some (.ins C dx fs)/\fs.lookup m=none/\
 t σ H1 λvs j=>sp (x::(vs++lG)) j Q E
def afe (C:Addr)(sp:Sp)(lG:List V)(E:XK)(t:TA):TE:=λσ H Q=>t σ H λvs H1=>∀x dx,H1 x=none->H1 dx=none->dx≠x->
 sp (.ref x::(vs++lG)) (upd (upd H1 dx (.own x)) x (.ins C dx [])) (λv j=>v=.non/\Q (.ref x) j) E
def bT (K:W.Frag)(fd:FuncData)(ps:List Str)(ds:List Value):Prop:=∀(s:Shared) (us:List Value),K.In s.heap->(us++ds).length=ps.length->BindsTo s fd ⟨us,[]⟩ (ps.zip (us++ds))
def bT.all {K:W.Frag}{ps:List Str}(h:∀us:List Value,us.length=ps.length->bindArgs fd ⟨us,[]⟩=pure (ps.zip us)):bT K fd ps []:=λs us _ hl=>by rw[dL]at hl ⊢;show .of_eq (h us hl)
def Passes (CX:u_)(X:Cx)(E:XK):Prop:=∀(ao:AH) (σ:St) (H:Hp) (s:Shared) (e:Value) (s':Shared),aV X ao σ H s->CX X.stack H s E e s'->X.xe e s'
section
variable {X:Cx}{CX:u_}{k:Nat}{f C:Addr}{fd:FuncData}{ps:List Str}{sp:Sp}{lG:List V}{ds:List Value}{E:XK}{x m:Str}{p pos apos:Pos}{e o:Expr}{es:List Expr}{ta:TE}{t:TA}
def Sx {ao:AH}{σ:St}{H:Hp}{s:Shared}{Q:VK}{us:List Value}{vs:List V}(F:cj X.prog X.w X.K X.mg X.base CX k f fd ps sp)(G:fZ k X.A)(hb:bT X.K fd ps ds)(hd:Vals lG ds)(hx:Passes CX X E)(I:aV X ao σ H s)(r:Vals vs us)(h:sp (vs++lG) H Q E):wpAny (model X.prog X.w) X.A (call (.ref f) us) (EP X ao σ Q) X.xe s:=by
 let D:Vals (vs++lG) (us++ds):=r.append hd;let hl:(us++ds).length=ps.length:=by rw[<-D.length];show F.len _ _ _ _ h
 calc gV (iL (F.run X.A X.stack s H ⟨us,[]⟩ (us++ds) (vs++lG) Q E G I.env0 (hb s us I.iV hl) D h) λr s' j=>?_);cases r with
 | error e=>show hx ao σ H s e s' I j
 | ok fl=>
  cases fl with| ret u=>show I.after j| next=>show False.elim j| brk=>show False.elim j| cont=>show False.elim j
def afQ (F:cj X.prog X.w X.K X.mg X.base CX k f fd ps sp)(J:fZ k X.A)(Z:Gl X x)(hm:X.mg x=some (.ref f))(O:W.keepIn X.K (.ref f)=true)(hb:bT X.K fd ps ds)(hd:Vals lG ds)(hx:Passes CX X E)(ha:PA X (e::es) t)(D:(x==("__debug__":Str))=false:=by decide)(Y:starEach (e::es) X.env=(false,eval e X.env)::starEach es X.env:=by rfl)(j:(backTo pos (starEach es X.env)).any (·.1)=false:=by rfl):PE X (.Call (.Name x p) (e::es) [] pos) (ZD sp lG E t):=by intro ao s σ H Q I h;calc hJ (o8 I Z hm ?_ D);calc jb (h₀:=X.base) I.ok.mod.Ia O (cH (ha pos ao s σ H _ I h) λus s1 ⟨vs,H1,G,r,q⟩=>⟨G.iV,?_⟩) Y j;show Sx F J hb hd hx G r q
def afR {pl:Sem Bool}(he:PE X o ta)(c:Cls X.K C)(hm:Meth X.K C m f)(F:cj X.prog X.w X.K X.mg X.base CX k f fd ps sp)(hr:fZ k X.A)(hb:bT X.K fd ps ds)(hd:Vals lG ds)(hx:Passes CX X E)(ha:PA X (e::es) t)(D:starEach (e::es) X.env=(false,eval e X.env)::starEach es X.env:=by rfl)(j:(backTo pos (starEach es X.env)).any (·.1)=false:=by rfl)(ht:eval (.Call (.Attribute o m apos) (e::es) [] pos) X.env=(do
   let ov <- eval o X.env
   standAt apos.atName
   let (f,first) <- holding [ov] (getMethod ov m pl)
   callWith pos f first (backTo pos (starEach (e::es) X.env)) (backToKw pos (keywordEach [] X.env))):=by rfl) :
  PE X (.Call (.Attribute o m apos) (e::es) [] pos) (RB C m sp lG E ta t):=by
 intro ao s σ H Q I h;calc W.methodCall_KW (pl:=pl) (cH (he ao s σ H _ I h) λu s1 O=>?_) ht;let⟨x,H1,G,Z,a,dx,fs,ex,Y,l,q⟩:=O;subst ex;obtain rfl:u=Value.ref a:=Z;calc wB G Y c hm l ?_;calc jb (first:=[.ref a]) (h₀:=X.base) I.ok.mod.Ia hm.kp (cH (ha pos ao s1 σ H1 _ G q) λus s2 ⟨vs,H2,J,r,q2⟩=>⟨J.iV,?_⟩) D j;show Sx (us:=.ref a::us) (vs:=.ref a::vs) F hr hb hd hx J (.cons rL r) q2
def adl (O:PE X o ta)(c:Cls X.K C)(hm:Meth X.K C m f)(F:cj X.prog X.w X.K X.mg X.base CX k f fd ps sp)(Y:fZ k X.A)(hb:bT X.K fd ps ds)(hd:Vals lG ds)(hx:Passes CX X E)(ht:eval (.Call (.Attribute o m apos) [] [] pos) X.env=(do
   let ov <- eval o X.env
   standAt apos.atName
   let (f,first) <- holding [ov] (getMethod ov m pl)
   callWith pos f first (backTo pos (starEach [] X.env)) (backToKw pos (keywordEach [] X.env))):=by rfl) :
  PE X (.Call (.Attribute o m apos) [] [] pos) (RB C m sp lG E ta zE):=by
 intro ao s σ H Q I h;calc W.methodCall_KW (pl:=pl) (cH (O ao s σ H _ I h) λu s1 D=>?_) ht;let⟨x,H1,j,J,a,dx,fs,ex,G,l,q⟩:=D;subst ex;obtain rfl:u=Value.ref a:=J;calc wB j G c hm l ?_;show W.callWith_K0 (first:=[.ref a]) j.iV hm.kp (Sx (us:=[.ref a]) (vs:=[.ref a]) F Y hb hd hx j (.cons rL .nil) q)
structure Mk (K:W.Frag)(C f:Addr):Prop where
 makes:W.makesIn K C=true
 init:W.findIn K (.ref C) "__init__"=some (some (.ref f))
 fn:W.isFn K (.ref f)=true
 kp:W.keepIn K (.ref C)=true
def adn {ao:AH}{σ:St}{H:Hp}{s:Shared}{Q:VK}{us:List Value}{vs:List V}(M:Mk X.K C f)(F:cj X.prog X.w X.K X.mg X.base CX k f fd ps sp)(Y:fZ (k+1) X.A)(hb:bT X.K fd ps ds)(hd:Vals lG ds)(hx:Passes CX X E)(I:aV X ao σ H s)(r:Vals vs us)(h:∀x dx,H x=none->H dx=none->dx≠x->sp (.ref x::(vs++lG)) (upd (upd H dx (.own x)) x (.ins C dx [])) (λv H2=>v=.non/\Q (.ref x) H2) E):wpAny (model X.prog X.w) X.A (call (.ref C) us) (EP X ao σ Q) X.xe s:=by
 let G:=h (s.heap.objs.size+1) s.heap.objs.size (I.hok.fresh (kH _)) (I.hok.fresh (al _)) (cn (gL _));let D:=aV.made (C:=C) I;let J:Vals (V.ref (s.heap.objs.size+1)::(vs++lG)) (Value.ref (s.heap.objs.size+1)::(us++ds)):=.cons rL (r.append hd);let hl:(Value.ref (s.heap.objs.size+1)::us++ds).length=ps.length:=by let e:=J.length;rw[F.len _ _ _ _ G]at e;show e.symm
 refine gV (adk (f:=f) I.iV M.makes M.init (beq_iff_eq.mp M.fn) (iL (F.run _ X.stack _ _ ⟨Value.ref (s.heap.objs.size+1)::us,[]⟩ (Value.ref (s.heap.objs.size+1)::(us++ds)) _ _ E (Y.make C us [])
  (D.env0.make C us []) (hb _ (Value.ref (s.heap.objs.size+1)::us) D.iV hl) J G) λr s' j=>?_))
 cases r with
 | error e=>show hx ao σ _ _ e s' D j
 | ok fl=>
  cases fl with
  | ret u=>let⟨v,H',I3,Z,O,q3⟩:=D.after j;subst O;show⟨Z,⟨V.ref (s.heap.objs.size+1),H',I3,rL,q3⟩⟩
  | next=>show False.elim j
  | brk=>show False.elim j
  | cont=>show False.elim j
def afS (M:Mk X.K C f)(F:cj X.prog X.w X.K X.mg X.base CX k f fd ps sp)(J:fZ (k+1) X.A)(Y:Gl X x)(hm:X.mg x=some (.ref C))(hb:bT X.K fd ps ds)(hd:Vals lG ds)(hx:Passes CX X E)(ha:PA X (e::es) t)(D:(x==("__debug__":Str))=false:=by decide)(O:starEach (e::es) X.env=(false,eval e X.env)::starEach es X.env:=by rfl)(j:(backTo pos (starEach es X.env)).any (·.1)=false:=by rfl):PE X (.Call (.Name x p) (e::es) [] pos) (afe C sp lG E t):=by intro ao s σ H Q I h;calc hJ (o8 I Y hm ?_ D);calc jb (h₀:=X.base) I.ok.mod.Ia M.kp (cH (ha pos ao s σ H _ I h) λus s1 ⟨vs,H1,G,r,q⟩=>⟨G.iV,?_⟩) O j;show adn M F J hb hd hx G r q
end
structure bB (N P:List Str)(sc:Scope):Prop where
 kind:sc.kind=.function:=by rfl
 co:sc.isCoroutine=false:=by rfl
 gen:sc.isGenerator=false:=by rfl
 nd:N.Nodup:=by decide +kernel
 pre:N.take P.length=P:=by rfl
 par:∀x∈P,sc.names.lookup x=some .local\/sc.names.lookup x=some .cell:=by decide +kernel
 ah6:∀y∈sc.names,y.2≠.free:=by decide +kernel
theorem PJ {kindOf:Str->Option NameKind}{x:Str}:∀{binds:List (Str×Value)} {m:Str->Option Value},(∀v,(x,v)∉binds)->bindL kindOf binds m x=m x
 | [],_,_=>rfl
 | (n,v)::r,m,h=>by
  unfold bindL;rw[PJ λw hw=>h w (bz _ hw)];split
  .have:x≠n:=by rintro rfl;show h v cq
   simp[this]
  .rfl
theorem PK {kindOf:Str->Option NameKind}{x:Str}:∀{binds:List (Str×Value)} {m:Str->Option Value},(∀v,(x,v)∉binds)->bindC kindOf binds m x=m x
 | [],_,_=>rfl
 | (n,v)::r,m,h=>by
  unfold bindC;rw[PK λw hw=>h w (bz _ hw)];split;.rfl
  .have:x≠n:=by rintro rfl;show h v cq
   simp[this]
theorem PL {kindOf:Str->Option NameKind}{x:Str}:∀{P:List Str} {vs:List Value} {i:Nat} {m:Str->Option Value},P.Nodup->P[i]?=some x->vs[i]?=some v->kindOf x=some .local->
  bindL kindOf (P.zip vs) m x=some v
 | [],_,_,_,_,h,_,_=>by simp at h
 | _::_,[],_,_,_,_,h,_=>by simp at h
 | p::P,w::vs,0,m,nd,h1,h2,hk=>by simp at h1 h2;subst h1;subst h2;show bindL kindOf ((p,w)::P.zip vs) m p=_;unfold bindL;rw[PJ λv j=>(ic.mp nd).1 (pj j).1,if_pos hk];simp
 | p::P,w::vs,i+1,m,nd,h1,h2,hk=>by show bindL kindOf ((p,w)::P.zip vs) m x=_;unfold bindL;show PL (i:=i) (ic.mp nd).2 (by simpa using h1) (by simpa using h2) hk
theorem PN {kindOf:Str->Option NameKind}{x:Str}:∀{P:List Str} {vs:List Value} {i:Nat} {m:Str->Option Value},P.Nodup->P[i]?=some x->vs[i]?=some v->kindOf x≠some .local->
  bindC kindOf (P.zip vs) m x=some v
 | [],_,_,_,_,h,_,_=>by simp at h
 | _::_,[],_,_,_,_,h,_=>by simp at h
 | p::P,w::vs,0,m,nd,h1,h2,hk=>by simp at h1 h2;subst h1;subst h2;show bindC kindOf ((p,w)::P.zip vs) m p=_;unfold bindC;rw[PK λv j=>(ic.mp nd).1 (pj j).1,if_neg hk];simp
 | p::P,w::vs,i+1,m,nd,h1,h2,hk=>by show bindC kindOf ((p,w)::P.zip vs) m x=_;unfold bindC;show PN (i:=i) (ic.mp nd).2 (by simpa using h1) (by simpa using h2) hk
def start (N:List Str)(vs:List V):St:=vs.map some++List.replicate (N.length-vs.length) none
noncomputable def t_ (CX:u_)(P:Program)(w:World)(K:W.Frag)(mg:Str->Option Value)(base:Heap)(N:List Str)(qual:Str)(scope:Scope)(f:Addr)(cd:Value)(A:Around)(outer:List Env)(s:Shared)(H:Hp)(E:XK):Cx where
 prog:=P
 w:=w
 K:=K
 mg:=mg
 base:=base
 A:=A.deeper (envOfC qual scope s.heap.objs.size f cd)
 N:=N
 s₀:=s
 H₀:=H
 env:=envOfC qual scope s.heap.objs.size f cd
 outer:=outer
 stack:=envOfC qual scope s.heap.objs.size f cd::outer
 ex:=[]
 calm:=true
 fn:=λ_=>true
 pn:=[]
 xe:=λe s'=>wpAny (model P w) (A.deeper (envOfC qual scope s.heap.objs.size f cd)) (leaving (envOfC qual scope s.heap.objs.size f cd) e) (λ_ j=>CX outer H s E e j) (λD j=>CX outer H s E D j) s'
def Sy {sc:Scope}(h:sc.names.lookup x=some .cell):∃c,(cellsFrom n sc.names []).lookup x=some c:=by let q:=W.cellsFrom_some sc.names n [] (.inl h);show gm.mp q
def abb {CX:u_}{K:W.Frag}{mg:Str->Option Value}{N ps:List Str}{qual:Str}{scope:Scope}{A:Around}{outer:List Env}{E:XK}{vs:List V}(S:bB N ps scope)(hd:A.handled=none)(j:Ja P w K mg base A outer s H)(hl:vs.length=ps.length)(r:Vals vs us)(x:InCallC s s.heap.objs.size (bindL (envOfC qual scope s.heap.objs.size f cd).kindOf (ps.zip us) λ_=>none) (cellsFrom (s.heap.objs.size+1) scope.names []) (bindC (envOfC qual scope s.heap.objs.size f cd).kindOf (ps.zip us) λ_=>none) s1):aV (t_ CX P w K mg base N qual scope f cd A outer s H E) [] (start N vs) H s1:=by
 let J:ps.length<=N.length:=by have:=congrArg List.length S.pre;rw[ap]at this;lia
 let⟨h1,tk,rfl,G⟩:=x.done;let D:∀b:Addr,b∉(t_ CX P w K mg base N qual scope f cd A outer s H E).ex:=λb z=>absurd (show b∈([]:List Addr) from z) qa;refine⟨⟨j.mod,S.kind,rL,rL,al _,λy z c h1 h2=>?_,λy hy=>?_,λy c _ h=>?_,λ_=>hd,Around.frames_deeper j.frames,.inr ⟨rL,rL⟩,λb z=>absurd z (D b),j.bs,j.Ds,λb _ _=>D b,λb z=>absurd z (D b),j.qC,j.DW⟩,
  rfl,j.bare,Un.kept G,⟨_,x.toInCall.ns,λi y v h1 h2 h3=>?_⟩,λy c h=>⟨_,x.cell y c h⟩,j.hok.fresh (al _),λy c h=>?_,λp hp=>absurd (show p∈([]:AH) from hp) qa,j.hok.kept G,?_⟩
 .show name_of_addr x.apart (iP h1) (iP h2)
 .let hy:scope.names.lookup y=some .cell\/scope.names.lookup y=some .free:=hy;rcases hy with hy|hy;.show Sy hy
  .show absurd rL (S.ah6 _ (iP hy))
 .show am (x.above y c (iP h))
 .let hi:i<vs.length:=by
   unfold start at h2;by_cases hi:i<vs.length;.show hi
   .rw[df (by simpa using hi)]at h2;rw[List.getElem?_replicate]at h2;split at h2 <;> cases h2
  let ha:vs[i]?=some v:=by
   unfold start at h2;rw[di (by simpa using hi),ck]at h2;cases e:vs[i]? with
   | none=>rw[e]at h2;cases h2
   | some a=>rw[e]at h2;cases h2;rfl
  let⟨u,I,O⟩:=r.get ha;let hp:ps[i]?=some y:=by rw[<-S.pre,List.getElem?_take_of_lt (by simp_all)];show h1
  let F:ps.Nodup:=by rw[<-S.pre];show S.nd.sublist (List.take_sublist _ _)
  calc⟨u,O,?_⟩;rcases S.par y (bv hp) with k|k;.show .inl ⟨k,PL F hp I k⟩
  .let⟨c,e⟩:=Sy (n:=s.heap.objs.size+1) k;calc .inr ⟨.inl k,c,e,?_⟩;let q:=x.cell y c e;rw[PN F hp I (by show scope.names.lookup y≠_;rw[k];decide)]at q;show q
 .show j.hok.fresh (am (x.above y c (iP h)))
 .unfold start;show _=N.length;rw[av,aa,ce];simp_all
def afg {CX:u_}{P:Program}{w:World}{K:W.Frag}{mg:Str->Option Value}{base:Heap}{k:Nat}{f:Addr}{name qual:Str}{j:Arguments}{body:List Stmt}{scope:Scope}{dV kV doc pm bO ct oc:Value}{an od:Option Addr}{osl:Array (Option Value)}{N ps:List Str}{sp:Sp}(lk:K.lookup f=some ⟨oc,od,.func (W.fnOf name qual j body scope dV kV doc pm an bO ct),osl⟩)(Z:W.codeIn K bO qual=true)(S:bB N ps scope)(len:∀vs H Q E,sp vs H Q E->vs.length=ps.length)(F:∀(A:Around) (outer:List Env) (s:Shared) (H:Hp) (vs:List V) (Q:VK) (E:XK),fZ k (A.deeper (envOfC qual scope s.heap.objs.size f bO))->sp vs H Q E->
   ∃t,vX (t_ CX P w K mg base N qual scope f bO A outer s H E) body t/\t {nx:=λ_ H'=>Q .non H',rt:=Q} (start N vs) H) :
  cj P w K mg base CX (k+1) f (W.fnOf name qual j body scope dV kV doc pm an bO ct) ps sp:=by
 calc⟨len,λA outer s H args us vs Q E hr O hb r Y=>?_⟩;let hl:=len _ _ _ _ Y;let KX:K.In s.heap:=O.mod.Ia.keeps λb o e=>(O.bs b o e).1;let lim:s.heap.NoLimit:=O.mod.nolimit.keeps λb o e=>(O.bs b o e).1;let D:∀y∈ps.zip us,scope.names.lookup y.1=some .local\/(scope.names.lookup y.1=some .cell/\((cellsFrom (s.heap.objs.size+1) scope.names []).lookup y.1).isSome=true):=λ⟨n,v⟩ hy=>by
  rcases S.par n (pj hy).1 with q|q;.show .inl q
  .show .inr ⟨q,W.cellsFrom_some _ _ _ (.inl q)⟩
 calc codeAny_call_function hr.depth (KX _ _ lk) rL S.co S.gen rL (W.codeRec_of KX Z) (hb _ _ _ _ ?_);calc wpAny_newFunctionEnv_cells S.kind D λenv he s1 x=>?_;subst he;calc⟨lim.keeps x.toInCall.keep,codeAny_func ?_⟩;let⟨t,ht,hq⟩:=F A outer s H vs Q E (hr.deeper _) Y;let I:aV (t_ CX P w K mg base N qual scope f bO A outer s H E) [] (start N vs) H s1:=abb S hr.hd O hl r x;calc eI (ht [] s1 (start N vs) H _ I hq) (λfl s' hs=>?_) λe s' hs=>hs;let G:∀{σ':St} {H':Hp} {v:V} {u:Value},aV (t_ CX P w K mg base N qual scope f bO A outer s H E) [] σ' H' s'->cR v u->Q v H'->CE outer P w H s Q u s':=λ{σ' H' v u} J rv q=>⟨v,H',J.os,J.bare,J.base,J.hok,rv,q⟩
 cases fl with
 | ret u=>let⟨v,σ',H',J,rv,q⟩:=hs;show G J rv q
 | next=>let⟨σ',H',J,q⟩:=hs;show G (v:=V.non) (u:=Value.none) J rL q
 | brk=>let⟨_,_,_,q⟩:=hs;show False.elim q
 | cont=>let⟨_,_,_,q⟩:=hs;show False.elim q
section
variable {X:Cx}{x:Str}{p pos:Pos}{e:Expr}{es:List Expr}{t:TA}{id T:String}{r:List V->Hp->VK->Prop}
def tCB (r:List V->Hp->VK->Prop)(t:TA):TE:=λσ H Q=>t σ H λvs H1=>r vs H1 Q
def ado (G:jc X (.builtin id) r)(Y:Gl X x)(hm:X.mg x=none)(J:bootBuiltins x=some (.builtin id))(ha:PA X (e::es) t)(hn:x≠"__name__":=by decide)(D:(x==("__debug__":Str))=false:=by decide)(O:starEach (e::es) X.env=(false,eval e X.env)::starEach es X.env:=by rfl)(j:(backTo pos (starEach es X.env)).any (·.1)=false:=by rfl):PE X (.Call (.Name x p) (e::es) [] pos) (tCB r t):=by intro ao s σ H Q I h;calc hJ (rM I Y hm J ?_ hn D);show mx (cH (ha pos ao s σ H _ I h) λus s1 ⟨vs,H1,F,r1,q1⟩=>G ao s1 σ H1 vs us Q F r1 q1) O j
def abd (G:jc X (.type T) r)(Y:Gl X x)(hm:X.mg x=none)(J:bootBuiltins x=some (.type T))(ha:PA X (e::es) t)(hn:x≠"__name__":=by decide)(D:(x==("__debug__":Str))=false:=by decide)(O:starEach (e::es) X.env=(false,eval e X.env)::starEach es X.env:=by rfl)(j:(backTo pos (starEach es X.env)).any (·.1)=false:=by rfl):PE X (.Call (.Name x p) (e::es) [] pos) (tCB r t):=by intro ao s σ H Q I h;calc hJ (rM I Y hm J ?_ hn D);show eK (cH (ha pos ao s σ H _ I h) λus s1 ⟨vs,H1,F,r1,q1⟩=>G ao s1 σ H1 vs us Q F r1 q1) O j
end
end L2
namespace HT
open PySem PyProof.Rows
section
variable {prog:Program}{w:World}{A:Around}{E:AF}{s:Shared}
def afT {vs ws:List Value}(ht:IsTup s.heap t vs.toArray)(hb:IsTup s.heap b ws.toArray)(hv:vs≠[])(h1:ws=[]->Q (.ref t) s)(h2:ws≠[]->Q (.ref s.heap.objs.size) {s with heap:=s.heap.push {cls:=.type "tuple",data:=.seq (vs++ws).toArray} })(hsz:vs.length+ws.length<=sizeLine):wpAny (model prog w) A (binaryOp .Add (.ref t) (.ref b)) Q E s:=by
 obtain⟨⟨cls,dd,data,sl⟩,J,Y,n,hd⟩:=id ht;obtain⟨⟨Z,D,O,I⟩,j,F,n2,G⟩:=id hb;simp only at Y hd F G;subst Y hd F G;let e:vs.toArray++ws.toArray=(vs++ws).toArray:=qa;by_cases hw:ws=[]
 .show concat_meets ⟨_,J,rL⟩ ⟨_,j,rL⟩ noFill_tuple_add seq_tuple_add lP lj (kQ _ _)
   (tuple_addW1 t b vs.toArray ws.toArray n n2 dd D sl I (by simpa using hv) (by simp[hw])) ⟨J,j,h1 hw⟩
 .refine concat_meets ⟨_,J,rL⟩ ⟨_,j,rL⟩ noFill_tuple_add seq_tuple_add lP lj (kQ _ _)
   (tuple_addW2 t b vs.toArray ws.toArray n n2 dd D sl I (by simpa using hv) (by simpa using hw) (by rw[bc,bc];show hsz)) ⟨J,j,?_⟩
  rw[e];show h2 hw
def dB (n d:Nat):Option Int->Nat
 | none=>d
 | some v=>if v<0 then (v+(n:Int)).toNat else min v.toNat n
def uc (n d):dB n d none=d:=rfl
def mj (n d k:Nat):dB n d (some (k:Int))=min k n:=by show (if (k:Int)<0 then ((k:Int)+(n:Int)).toNat else min (k:Int).toNat n)=min k n;rw[if_neg p_,eh]
def abe (n d)(hd:d<=n)(o):dB n d o<=n:=by
 cases o with
 | none=>show hd
 | some v=>
  show (if v<0 then (v+(n:Int)).toNat else min v.toNat n)<=n;by_cases j:v<0;.rw[if_pos j];lia
  .rw[if_neg j];show Nat.min_le_right _ _
def M8 (v:Int)(n d:Nat):(if v<0 then max (v+(n:Int)) 0 else min v (n:Int))=((dB n d (some v):Nat):Int):=by
 show (if v<0 then max (v+(n:Int)) 0 else min v (n:Int))=(((if v<0 then (v+(n:Int)).toNat else min v.toNat n):Nat):Int)
 by_cases j:v<0;.simp only[if_pos j];lia
 .simp only[if_neg j];grind
def ZF (lo hi:Option Int)(n:Nat):Builtin.Slice.sliceAdjust lo hi 1 (n:Int)=(((dB n 0 lo:Nat):Int),((dB n n hi:Nat):Int)):=by
 let h1:¬((1:Int)<0):=p_;unfold Builtin.Slice.sliceAdjust;simp only[h1,if_false];refine Prod.ext ?_ ?_
 .cases lo with| none=>rfl| some v=>show M8 v n 0
 .cases hi with| none=>rfl| some v=>show M8 v n n
def ZG (i j:Nat):Builtin.Slice.slicePlaces (i:Int) (j:Int) 1=j-i:=by unfold Builtin.Slice.slicePlaces;let h1:(1:Int) > 0:=p_;simp only[h1,if_true,Int.ediv_one];split <;> simp_all
def Kq (p:IsPart v o)(h:Q o s):wpAny (model prog w) A (Builtin.Slice.slicePartIndex v) Q E s:=by
 cases p with| none=>show slicePart_none h| int i t=>show slicePart_int h
def xG {sl:Addr}{F G:Value}{lo hi:Option Int}{n:Nat}{Q:Int×Int×Nat->Shared->Prop}(hs:s.heap.IsSliceOf sl F G .none)(pl:IsPart F lo)(J:IsPart G hi)(h:Q (((dB n 0 lo:Nat):Int),1,dB n n hi-dB n 0 lo) s):wpAny (model prog w) A (Builtin.Slice.sliceApplied (.ref sl) (pure (n:Int))) Q E s:=by let⟨os,j,I,D⟩:=id hs;unfold Builtin.Slice.sliceApplied Builtin.Slice.sliceFields;calc ae (ae (fh j D (x:=F) rL (ae (fh j D (x:=G) rL (ae (fh j D (x:=.none) rL (aw ?_)))))));calc ae (slicePart_none ?_);show wpAny _ _ (if ((1:Int)==0)=true then _ else _) _ _ s;rw[if_neg qc];calc ae (Kq pl (ae (Kq J (ae (aw ?_)))));show wpAny _ _ (match Builtin.Slice.sliceAdjust lo hi 1 (n:Int) with|(lo,hi)=>pure (lo,(1:Int),Builtin.Slice.slicePlaces lo hi 1)) _ _ s;rw[ZF lo hi n];show wpAny _ _ (pure (((dB n 0 lo:Nat):Int),(1:Int),Builtin.Slice.slicePlaces ((dB n 0 lo:Nat):Int) ((dB n n hi:Nat):Int) 1)) _ _ s;rw[ZG];show aw h
def adp (xs:Array Value)(i k:Nat):((List.range k).filterMap λ(m:Nat)=>xs[((i:Int)+(m:Int)*1).toNat]?).toArray=((xs.toList.drop i).take k).toArray:=by
 let e:(λ(m:Nat)=>xs[((i:Int)+(m:Int)*1).toNat]?)=λm=>xs[i+m]?:=by
  funext m;have:((i:Int)+(m:Int)*1).toNat=i+m:=by lia
  rw[this]
 rw[e];have:=pick_run xs i k;rw[List.filterMap_map]at this;let e2:((λx=>xs[x]?) ∘ λx=>i+x)=λm=>xs[i+m]?:=rfl;rw[e2]at this;rw[this]
def Hx {lo hi:Option Int}(ht:IsTup s.heap t items)(hs:s.heap.IsSliceOf sl vl vu .none)(pl:IsPart vl lo)(J:IsPart vu hi)(hw:¬(dB items.size 0 lo=0/\dB items.size items.size hi=items.size))(h:Q (.ref s.heap.objs.size) {s with heap:=s.heap.push {cls:=.type "tuple",data:=.seq ((items.toList.drop (dB items.size 0 lo)).take (dB items.size items.size hi-dB items.size 0 lo)).toArray} })(hsz:items.size<=sizeLine):wpAny (model prog w) A (getItem (.ref t) (.ref sl)) Q E s:=by
 let D:sizeOk (.seq ((items.toList.drop (dB items.size 0 lo)).take (dB items.size items.size hi-dB items.size 0 lo)).toArray):=by show ((items.toList.drop (dB items.size 0 lo)).take (dB items.size items.size hi-dB items.size 0 lo)).toArray.size<=sizeLine;rw[bc,ap,bd,fw];lia
 let Y:dB items.size items.size hi<=items.size:=abe _ _ (al _) hi;let⟨os,I,j,O⟩:=id hs;let G:s.TypeIs (.ref sl) "slice":=⟨os,I,j⟩
 unfold getItem
 try with_reducible refine fS ?_
 first|refine ae (aw ?_)|skip
 calc ae (wpAny_sequenceKey ht.typeIs qc ?_);refine ae (iX (name:=Str.ofString "__getitem__") ht.typeIs fo
  (gS fo ht.typeIs entry_tuple_getitem ?_ (args_tuple_getitem _ _)))
 show wpAny _ _ (Builtin.Tuple.tupleItemsOf (.ref t) >>= _) _ _ s;calc ae (tupleItemsOf_ ht ?_);calc ae (wpAny_typeOf G ?_);rw[if_pos qc];calc ae (xG hs pl J ?_);let F:¬((((dB items.size 0 lo:Nat):Int)==0&&(1:Int)==1&&(dB items.size items.size hi-dB items.size 0 lo)==items.size)=true):=by intro q;rw[cp,cp]at q;let q1:((dB items.size 0 lo:Nat):Int)=0:=eq_of_beq q.1.1;let q2:dB items.size items.size hi-dB items.size 0 lo=items.size:=eq_of_beq q.2;show hw ⟨Iff.mp Int.ofNat_inj q1,by simp_all⟩
 show wpAny _ _ (if (((dB items.size 0 lo:Nat):Int)==0&&(1:Int)==1&&(dB items.size items.size hi-dB items.size 0 lo)==items.size)=true then _ else _) _ _ s;rw[if_neg F,adp]
 first| show ae (m:=Builtin.Tuple.tupleExact _) (gu (aw ⟨_,rL,aw h⟩) D)| show ae (m:=Builtin.Tuple.tupleExact _) (gu (ae (aw (aw ⟨_,rL,aw h⟩))) D)| show ae (ae (m:=Builtin.Tuple.tupleExact _) (gu (aw (aw ⟨_,rL,aw h⟩)) D))| show ae (ae (m:=Builtin.Tuple.tupleExact _) (gu (aw ⟨_,rL,aw h⟩) D))
end
end HT
namespace L2
open PySem PySem.Spec PyProof.Rows
abbrev TO:=St->Hp->(Option Int->Hp->Prop)->Prop
def PO (X:Cx)(e:Option Expr)(t:TO):Prop:=∀(ao:AH) (s:Shared) (σ:St) (H:Hp) (Q:Option Int->Hp->Prop),aV X ao σ H s->t σ H Q->
  wpAny (model X.prog X.w) X.A (evalPart e X.env) (λu s'=>∃o H',aV X ao σ H' s'/\IsPart u o/\Q o H') X.xe s
def Xr:TO:=λ_ H Q=>Q none H
def afh (t:TE):TO:=λσ H Q=>t σ H λx H1=>∃i,x=.int i/\Q (some i) H1
section
variable {X:Cx}{e:Expr}{te:TE}{lo hi:Option Expr}{tl th:TO}{pos p2:Pos}
def afU:PO X none Xr:=by intro ao s σ H Q I h;rw[evalPart_none];show aw ⟨none,H,I,.none,h⟩
def afV (h:PE X e te):PO X (some e) (afh te):=by intro ao s σ H Q I hw;rw[evalPart_some];calc cH (h ao s σ H _ I hw) λu s1 j=>?_;let⟨x,H1,D,r1,q1⟩:=j;let⟨i,rfl,q⟩:=q1;let⟨t,rfl⟩:=r1;show⟨some i,H1,D,.int i t,q⟩
def Xu (X:Cx)(r:V->Option Int->Option Int->Hp->VK->Prop):Prop:=∀(ao:AH) (s:Shared) (σ:St) (H:Hp) (x:V) (v j D:Value) (lo hi:Option Int) (sl:Addr) (Q:VK),aV X ao σ H s->cR x v->s.heap.IsSliceOf sl j D .none->IsPart j lo->IsPart D hi->r x lo hi H Q->
  ∃T id,typeLookup (.type T) "__getitem__"=pure (some (.builtin id))/\s.TypeIs v T/\wpAny (model X.prog X.w) X.A (getItem v (.ref sl)) (EP X ao σ Q) X.xe s
def tSl (r:V->Option Int->Option Int->Hp->VK->Prop)(te:TE)(tl th:TO):TE:=λσ H Q=>te σ H λx H1=>tl σ H1 λl D=>th σ D λu j=>r x l u j Q
def adq (hr:Xu X r)(he:PE X e te)(hl:PO X lo tl)(hu:PO X hi th):PE X (.Subscript e (.Slice lo hi none p2) pos) (tSl r te tl th):=by intro ao s σ H Q I h;calc Subscript_ (cH (he ao s σ H _ I h) λv s1 D=>?_);let⟨x,H1,Y,r1,q1⟩:=D;calc wpAny_Slice (cH (hl ao s1 σ H1 _ Y q1) λG s2 D=>?_);let⟨l,O,Z,pl,q2⟩:=D;calc cH (hu ao s2 σ O _ Z q2) λF j D=>?_;let⟨u,J,I3,pu,q3⟩:=D;rw[evalPart_none];calc aw ?_;let I4:aV X ao σ J {j with heap:=j.heap.push {cls:=.type "slice",data:=.fields #[G,F,.none]} }:=I3.kept (t':=j.toks) λb ob q=>af _ q;let⟨T,id,hT,ht,hg⟩:=hr ao {j with heap:=j.heap.push {cls:=.type "slice",data:=.fields #[G,F,.none]} } σ J x v G F l u j.heap.objs.size Q I4 r1 (Heap.IsSliceOf.new ..) pl pu q3;show wpAny (model X.prog X.w) X.A (subscriptTail e (.Slice lo hi none p2) v (.ref j.heap.objs.size)) (EP X ao σ Q) X.xe {j with heap:=j.heap.push {cls:=.type "slice",data:=.fields #[G,F,.none]} };show tail_any (ops:=[.ref j.heap.objs.size,v]) ht hT hg (by with_unfolding_all rfl)
noncomputable def iG (xs:List V)(lo hi:Option Int):List V:=(xs.drop (HT.dB xs.length 0 lo)).take (HT.dB xs.length xs.length hi-HT.dB xs.length 0 lo)
def Ig (xs)(lo hi):(iG xs lo hi).length<=xs.length:=by unfold iG;rw[ap,bd];lia
def Vals.Ai (r:Vals xs us):us=[]↔xs=[]:=by
 cases r with| nil=>simp| cons _ _=>simp
end
noncomputable def Du (n:Nat)(i:Int):Option Nat:=if 0<=i then (if i<n then some i.toNat else none) else if -(n:Int)<=i then some (i+n).toNat else none
def rO {α:Type}(xs:List α)(i:Int):Option α:=(Du xs.length i).bind λj=>xs[j]?
def Xv (h:Du n i=some j):seqIndex? i n=some j/\j<n/\-(n:Int)<=i/\i<n:=by
 unfold Du at h;by_cases h0:0<=i
 .rw[if_pos h0]at h;by_cases h1:i<n
  .rw[if_pos h1]at h;let e:i.toNat=j:=bo h;show⟨by rw[seqIndex_of h0 h1,e],p_,p_,h1⟩
  .rw[if_neg h1]at h;cases h
 .rw[if_neg h0]at h;by_cases h1:-(n:Int)<=i
  .rw[if_pos h1]at h;let e:(i+n).toNat=j:=bo h;show⟨by rw[seqIndex_neg p_ h1,e],p_,h1,p_⟩
  .rw[if_neg h1]at h;cases h
def M9 {α:Type}{xs:List α}{v:α}(h:rO xs i=some v):∃j,seqIndex? i xs.length=some j/\xs[j]?=some v/\j<xs.length/\-(xs.length:Int)<=i/\i<xs.length:=by
 unfold rO at h;cases e:Du xs.length i with
 | none=>rw[e]at h;cases h
 | some j=>rw[e]at h;let⟨h1,h2,h3,h4⟩:=Xv e;show⟨j,h1,h,h2,h3,h4⟩
def aP {α:Type}{xs:List α}{j:Nat}{v:α}(h:xs[j]?=some v):rO xs (j:Int)=some v:=by
 let D:j<xs.length:=(ah.mp h).1;let e:Du xs.length (j:Int)=some j:=by unfold Du;rw[if_pos p_,if_pos (Iff.mpr my D)];simp
 unfold rO;rw[e];show h
def Jb {α:Type}(xs:List α)(v:α):rO (xs++[v]) (-1)=some v:=by
 let hl:(xs++[v]).length=xs.length+1:=qa;let e:Du (xs++[v]).length (-1)=some xs.length:=by unfold Du;rw[hl,if_neg qc,if_pos p_];congr 1;simp +arith
 unfold rO;rw[e];show (xs++[v])[xs.length]?=some v;simp
def G9 (b:Expr):Prop:=∀o i,subscripted b false o i=operate [o,i] (getItem o i)
def Ih (X:Cx)(r:R2):Prop:=∀(value j:Expr) (ao:AH) (s:Shared) (σ:St) (H:Hp) (x y:V) (v u:Value) (Q:VK),aV X ao σ H s->cR x v->cR y u->r x y H Q->
  subscripted j false v u=operate [v,u] (getItem v u)->wpAny (model X.prog X.w) X.A (subscriptTail value j v u) (EP X ao σ Q) X.xe s
def yD (X:Cx)(id:String)(r:V->List V->Hp->VK->Prop):Prop:=∀(ao:AH) (s:Shared) (σ:St) (H:Hp) (x:V) (xs:List V) (v:Value) (us:List Value) (Q:VK),aV X ao σ H s->cR x v->Vals xs us->r x xs H Q->
  wpAny (model X.prog X.w) X.A (call (.builtin id) (v::us)) (EP X ao σ Q) X.xe s
section
variable {X:Cx}{a b:Expr}{ta tb:TE}{pos:Pos}
def aj_ (J:Ih X r)(ha:PE X a ta)(hb:PE X b tb)(hs:G9 b):PE X (.Subscript a b pos) (Ie r ta tb):=by intro ao s σ H Q I h;show Subscript_ (adf ha hb I h λv u s2 x y G j F D q=>J a b ao s2 σ G x y v u Q j F D q (hs _ _))
def ah7 (K:W.Frag):R2:=λx y H Q=>∃p xs i v,x=.ref p/\y=.int i/\bJ K H p xs/\rO xs i=some v/\Q v H
def ah8 (K:W.Frag):R2:=λx y H Q=>∃p xs i v,x=.ref p/\y=.int i/\aU K H p xs/\rO xs i=some v/\Q v H
def akX:R2:=λx y H Q=>∃z i c,x=.str z/\y=.int i/\z.length<=sizeLine/\rO z.cps.toList i=some c/\Q (.str ⟨#[c]⟩) H
def gH:Ih X (ah7 X.K):=by
 intro value G ao s σ H x y v u Q I rx Z h hs;let⟨p,xs,i,z,rfl,rfl,Y,he,q⟩:=h;cases rx;let⟨t,rfl⟩:=Z;let⟨its,r,pl,hz⟩:=I.list Y;let⟨j,h1,h2,h3,h4,h5⟩:=M9 he;let⟨w,O,J⟩:=r.get h2;let hl:=r.length;let hn:=Ag;let D:EP X ao σ Q w s:=⟨z,H,I,J,q⟩
 by_cases h0:0<=i
 .let F:i.toNat=j:=by
   rw[seqIndex_of h0 h5]at h1;show bo h1
  show item_listR pl.isList h0 p_ (by rw[F];simpa using O) D hs
 .let F:(i+(its.toArray.size:Int)).toNat=j:=by
   rw[seqIndex_neg p_ h4]at h1;rw[bc,<-hl];show bo h1
  show subscriptTail_builtinR (x:=w) pl.isList.typeIs slot_list_getitem.lookup
   (wpAny_getItem_list_neg (Q:=λr s'=>r=w/\EP X ao σ Q r s') pl.isList p_ (by rw[bc] <;> lia) p_ (by rw[F];simpa using O) ⟨rL,D⟩) hs
def bD:Ih X (ah8 X.K):=by
 intro value F ao s σ H x y v u Q I Z Y h hs;let⟨p,xs,i,z,rfl,rfl,J,he,q⟩:=h;cases Z;let⟨t,rfl⟩:=Y;let⟨its,r,pl,hz⟩:=I.tuple J;let⟨j,h1,h2,h3,h4,h5⟩:=M9 he;let⟨w,O,G⟩:=r.get h2;let hl:=r.length;let hn:=Ag;let D:EP X ao σ Q w s:=⟨z,H,I,G,q⟩
 show subscriptTail_builtinR (x:=w) pl.typeIs slot_tuple_getitem.lookup
  (getItem_tuple (j:=j) (Q:=λr s'=>r=w/\EP X ao σ Q r s') pl p_ p_ (by rw[bc,<-hl];show h1) (by simpa using O) ⟨rL,D⟩) hs
def ah9:Ih X akX:=by
 intro value D ao s σ H x y v u Q I G F h hs;let⟨z,i,c,rfl,rfl,hz,J,q⟩:=h;let⟨t,rfl⟩:=G;let⟨t',rfl⟩:=F;let⟨j,h1,h2,h3,h4,h5⟩:=M9 J;let hl:z.cps.toList.length=z.length:=by simp[Str.length]
 rw[hl]at h1 h4 h5;let hn:=Ag;show tail_any (typeIs_str s z t) slot_str_getitem.lookup (getItem_str (c:=c) (by
  let e1:decide (i < -(2^63:Int))=false:=ag p_;let e2:decide (i>=2^63)=false:=ag p_;rw[e1,e2,Bool.or_false]) (by rw[h1];simpa using h2) ⟨.str ⟨#[c]⟩,H,I.tok _,⟨_,rL⟩,q⟩) hs
def ZJ (its:List Value)(n j)(u):Obj.mapSeq (·.setIfInBounds j u) {cls:=.type "list",data:=.seq its.toArray n}={cls:=.type "list",data:=.seq (its.set j u).toArray n}:=by simp[Obj.mapSeq]
def aV.lst {ao:AH}{σ:St}{H:Hp}{s:Shared}{p:Addr}{xs:List V}(I:aV X ao σ H s)(h:H p=some (.lst xs)):∃(its:List Value) (n:Nat),Vals xs its/\s.heap.get? p=some {cls:=.type "list",data:=.seq its.toArray n}/\xs.length<=sizeLine:=by let⟨z,its,n,r,e⟩:=I.hok p _ h;show⟨its,n,r,e,z⟩
def aV.ah_ {ao:AH}{σ:St}{H:Hp}{s:Shared}{p:Addr}{xs ys:List V}{its its':List Value}{n j:Nat}{f:Obj->Obj}(I:aV X ao σ H s)(h:H p=some (.lst xs))(F:s.heap.get? p=some {cls:=.type "list",data:=.seq its.toArray n})(D:f {cls:=.type "list",data:=.seq its.toArray n}={cls:=.type "list",data:=.seq its'.toArray j })(r:Vals ys its')(hz:ys.length<=sizeLine)(t:Nat):aV X ao σ (upd H p (.lst ys)) {s with heap:=s.heap.update p f,toks:=t}:=by
 let e:(s.heap.update p f).get? p=some {cls:=.type "list",data:=.seq its'.toArray j }:=by rw[ie f F (by rw[D] <;> rfl),D]
 calc I.write (x:=p) (e:=p) (by rw[h];trivial) (.inl rL) (λb u hb q=>(fq _ _ (gf hb)).trans q) ⟨_,e⟩ ?_;show⟨hz,its',j,r,e⟩
def akb:V->V->V->Hp->(Hp->Prop)->Prop:=λo i v H Q=>∃p xs k j,o=.ref p/\i=.int k/\H p=some (.lst xs)/\Du xs.length k=some j/\Q (upd H p (.lst (xs.set j v)))
def set_list:ada X akb:=by
 intro ao s σ H o i v ov Z u Q I O ri Y h;let⟨p,xs,k,j,rfl,rfl,hp,J,q⟩:=h;cases O;let⟨t,rfl⟩:=ri;let⟨its,n,r,D,hz⟩:=I.lst hp;let⟨h1,h2,h3,h4⟩:=Xv J;let hl:=r.length;let hn:=Ag;let G:aV X ao σ (upd H p (.lst (xs.set j v))) {s with heap:=s.heap.update p (Obj.mapSeq (·.setIfInBounds j u))}:=I.ah_ hp D (ZJ its n j u) (r.set Y j) (by rw[eW];show hz) s.toks
 by_cases h0:0<=k
 .let F:k.toNat=j:=by
   rw[seqIndex_of h0 h4]at h1;show bo h1
  show W.ki_setAt D h0 p_ (by rw[bc,<-hl];show h4) (by rw[F];show⟨_,G,q⟩)
 .let F:(k+(its.toArray.size:Int)).toNat=j:=by
   rw[seqIndex_neg p_ h3]at h1;rw[bc,<-hl];show bo h1
  show W.ki_setBack D p_ (by rw[bc,<-hl];show h3) p_ (by rw[F];show⟨_,G,q⟩)
def SJ (lo hi)(n):(sliceBounds lo hi none n).1=((HT.dB n 0 lo:Nat):Int)/\(sliceBounds lo hi none n).2.1=((HT.dB n n hi:Nat):Int)/\(sliceBounds lo hi none n).2.2=1:=by
 refine⟨?_,?_,rL⟩
 .cases lo with
  | none=>simp[sliceBounds,HT.dB]
  | some i=>
   simp only[sliceBounds,HT.dB,Option.getD_none,show (1:Int) > 0 by decide,if_true];by_cases h:i<0
   .simp only[h,if_true] <;> grind
   .simp only[h,if_false] <;> grind
 .cases hi with
  | none=>simp[sliceBounds,HT.dB]
  | some i=>
   simp only[sliceBounds,HT.dB,Option.getD_none,show (1:Int) > 0 by decide,if_true];by_cases h:i<0
   .simp only[h,if_true] <;> lia
   .simp only[h,if_false] <;> lia
def Ra (its:List Value)(lo hi):slicePick its.toArray lo hi none=((its.drop (HT.dB its.length 0 lo)).take (HT.dB its.length its.length hi-HT.dB its.length 0 lo)).toArray:=by let⟨h1,h2,h3⟩:=SJ lo hi its.toArray.size;unfold slicePick;rw[h1,h2,h3];simp only[sliceRange_one,pick_run,bc] <;> rfl
def aia (K:W.Frag):V->Option Int->Option Int->Hp->VK->Prop:=λx lo hi H Q=>∃a xs,x=.ref a/\bJ K H a xs/\∀p,H p=none->Q (.ref p) (upd H p (.lst (iG xs lo hi)))
def wY:Xu X (aia X.K):=by intro ao s σ H x v G J lo hi sl Q I F hs pl D h;let⟨a,xs,rfl,hx,q⟩:=h;cases F;let⟨its,r,ht,hz⟩:=I.list hx;let j:=r.length;calc⟨"list",_,slot_list_getitem.lookup,ht.isList.typeIs,?_⟩;calc wpAny_getItem_list_slice ht.isList hs pl D .none qa ?_ (by rw[bc] <;> simp_all);rw[Ra,<-j];calc⟨.ref s.heap.objs.size,_,I.laid (t':=s.toks) (o:=.lst (iG xs lo hi)) (λb ob q=>af _ q) (al _) ?_,rL,q _ (I.hok.fresh (al _))⟩;show⟨bE (Ig xs lo hi) hz,_,0,(r.drop (HT.dB xs.length 0 lo)).take (HT.dB xs.length xs.length hi-HT.dB xs.length 0 lo),ba _ rL⟩
def wD:V->Bool
 | .non=>true
 | .bl _=>true
 | .int _=>true
 | .str _=>true
 | _=>false
noncomputable def D_:V->V->Bool
 | .non,.non=>true
 | .bl a,.bl b=>a==b
 | .bl a,.int b=>(if a then 1 else 0)==b
 | .int a,.bl b=>a==(if b then 1 else 0)
 | .int a,.int b=>a==b
 | .str a,.str b=>a==b
 | _,_=>false
def abf (D:cR y u)(j:cR x v)(G:wD y=true)(F:wD x=true):SeqAt.EqAt A s u v (D_ y x):=by
 cases y with
 | non=>
  cases D;cases x with
  | non=>cases j;show SeqAt.EqAt.same _
  | bl b=>cases j;show SeqAt.EqAt.none_bool b
  | int b=>let⟨t,rfl⟩:=j;show SeqAt.EqAt.none_int b t
  | str b=>let⟨t,rfl⟩:=j;show SeqAt.EqAt.none_str b t
  | _=>show absurd (show false=true from F) bP
 | bl a=>
  cases D;cases x with
  | non=>cases j;show SeqAt.EqAt.bool_none a
  | bl b=>cases j;show SeqAt.EqAt.bool_bool a b
  | int b=>let⟨t,rfl⟩:=j;show SeqAt.EqAt.bool_int a b t
  | str b=>let⟨t,rfl⟩:=j;show SeqAt.EqAt.bool_str a b t
  | _=>show absurd (show false=true from F) bP
 | int a=>
  let⟨t',rfl⟩:=D;cases x with
  | non=>cases j;show SeqAt.EqAt.int_none a t'
  | bl b=>cases j;show SeqAt.EqAt.int_bool a t' b
  | int b=>let⟨t,rfl⟩:=j;show jn a t' b t
  | str b=>let⟨t,rfl⟩:=j;show SeqAt.EqAt.int_str a t' b t
  | _=>show absurd (show false=true from F) bP
 | str a=>
  let⟨t',rfl⟩:=D;cases x with
  | non=>cases j;show SeqAt.EqAt.str_none a t'
  | bl b=>cases j;show SeqAt.EqAt.str_bool a t' b
  | int b=>let⟨t,rfl⟩:=j;show SeqAt.EqAt.str_int a t' b t
  | str b=>let⟨t,rfl⟩:=j;show SeqAt.EqAt.str_str a t' b t
  | _=>show absurd (show false=true from F) bP
 | _=>show absurd (show false=true from G) bP
noncomputable def Kr (x:V)(u:Value):Bool:=match u with| .none=>D_ .non x| .bool b=>D_ (.bl b) x| .int i _=>D_ (.int i) x| .str z _=>D_ (.str z) x| _=>false
def abg (r:cR y u)(f:wD y=true):Kr x u=D_ y x:=by
 cases y with
 | non=>cases r;rfl
 | bl b=>cases r;rfl
 | int i=>let⟨t,rfl⟩:=r;rfl
 | str z=>let⟨t,rfl⟩:=r;rfl
 | _=>show absurd (show false=true from f) bP
theorem M_:∀{xs:List V} {us:List Value},Vals xs us->xs.all wD=true->us.any (Kr x)=xs.any λy=>D_ y x
 | _,_,.nil,_=>rfl
 | y::xs,u::us,.cons r t,f=>by rw[List.all_cons,cp]at f;rw[kD,kD,abg r f.1,M_ t f.2]
theorem Jc (D:cR x v)(F:wD x=true):∀{xs:List V} {us:List Value},Vals xs us->xs.all wD=true->∀u∈us,SeqAt.EqAt A s u v (Kr x u)
 | _,_,.nil,_=>λu j=>by cases j
 | y::xs,u::us,.cons r t,f=>λG j=>by
  rw[List.all_cons,cp]at f;rcases bX.mp j with rfl|j;.rw[abg r f.1];show abf r D f.1 F
  .show Jc D F t f.2 G j
def inV (x:V)(xs:List V):Bool:=xs.any λy=>D_ y x
def rIn (K:W.Frag)(j:Bool):R2:=λx y H Q=>∃p xs,y=.ref p/\(bJ K H p xs\/aU K H p xs)/\wD x=true/\xs.all wD=true/\Q (.bl (if j then !inV x xs else inV x xs)) H
def xH:gK X (compareOp .NotIn) (rIn X.K true):=by
 intro ao s σ H x y v u Q I D G h;let⟨p,xs,rfl,j,F,fs,q⟩:=h;cases G;rcases j with j|j
 .let⟨its,r,pl,hz⟩:=I.list j;calc SeqAt.notIn_listAt (Kr x) pl.isList (λw hw=>Jc D F r fs w (by simpa using hw)) ⟨.bl _,H,I,rL,?_⟩;rw[show its.toArray.any (Kr x)=its.any (Kr x) by simp,M_ r fs];show q
 .let⟨its,r,pl,hz⟩:=I.tuple j;calc SeqAt.notIn_tupleAt (Kr x) pl (λw hw=>Jc D F r fs w (by simpa using hw)) ⟨.bl _,H,I,rL,?_⟩;rw[show its.toArray.any (Kr x)=its.any (Kr x) by simp,M_ r fs];show q
def bY:jc X (.builtin "len") (λxs H Q=>∃p ys,xs=[.ref p]/\(bJ X.K H p ys\/aU X.K H p ys)/\Q (.int ys.length) H):=by
 intro ao s σ H xs us Q I r h;let⟨p,ys,rfl,j,q⟩:=h;let⟨u,rfl,G⟩:=vals1 r;cases G;let hn:=Ag;rcases j with j|j
 .let⟨its,F,pl,hz⟩:=I.list j;let D:=F.length;show Calls.call_len_list pl.isList (by simp only[bc] <;> lia) ⟨.int ys.length,H,I.tok _,⟨s.toks+1,by rw[bc,D]⟩,q⟩
 .let⟨its,F,pl,hz⟩:=I.tuple j;let D:=F.length;show len_tuple pl (by simp only[bc] <;> lia) ⟨.int ys.length,H,I.tok _,⟨s.toks+1,by rw[bc,D]⟩,q⟩
def SM:jc X (.builtin "len") (λxs H Q=>∃z,xs=[.str z]/\z.length<=sizeLine/\Q (.int z.length) H):=by intro ao s σ H xs us Q I r h;let⟨z,rfl,hz,q⟩:=h;let⟨u,rfl,t,rfl⟩:=vals1 r;let hn:=Ag;show len_str p_ ⟨.int z.length,H,I.tok _,⟨_,rL⟩,q⟩
def jx:jc X (.type "tuple") (λxs H Q=>∃p ys,xs=[.ref p]/\((bJ X.K H p ys/\∀l,H l=none->Q (.ref l) (upd H l (.tup ys)))\/(aU X.K H p ys/\Q (.ref p) H))):=by
 intro ao s σ H xs us Q I r h;let⟨p,ys,rfl,h⟩:=h;let⟨u,rfl,J⟩:=vals1 r;cases J;rcases h with⟨j,q⟩|⟨j,q⟩
 .let⟨its,D,pl,hz⟩:=I.list j;let O:=D.length;calc call_tuple_list pl.isList (λh' kp=>?_) (by simp only[bc] <;> lia);let F:aV X ao σ H {s with heap:=h' }:=I.kept (t':=s.toks) kp;let G:aV X ao σ (upd H h'.objs.size (.tup ys)) {s with heap:=h'.push {cls:=.type "tuple",data:=.seq its.toArray} }:=
   F.laid (t':=s.toks) (λb o e=>af _ e) (al _) (show gJ X.prog X.w _ _ _ (.tup ys) from ⟨hz,its,D,IsTup.new _ _⟩)
  show⟨.ref h'.objs.size,_,G,rL,q _ (F.hok.fresh (al _))⟩
 .let⟨its,D,pl,hz⟩:=I.tuple j;show call_tuple_same pl ⟨.ref p,H,I,rL,q⟩
def tyV (K:W.Frag)(T:String)(x:V)(H:Hp):Prop:=match x with
 | .str _=>T="str"
 | .int _=>T="int"
 | .ref p=>(T="list"/\∃xs,bJ K H p xs)\/(T="tuple"/\∃o,K.lookup p=some o/\o.cls=.type "tuple"/\o.dict=none)\/
   (T="dict"/\((∃kvs,H p=some (.dK kvs))\/∃kvs,H p=some (.dT kvs)))\/(T="set"/\∃S n,H p=some (.set S n))
 | _=>False
def abh {ao:AH}{σ:St}{H:Hp}{s:Shared}{T:String}{x:V}{v:Value}(I:aV X ao σ H s)(r:cR x v)(ty:tyV X.K T x H):s.TypeIs v T/\∀a,v=.ref a->∃ob,s.heap.get? a=some ob/\ob.dict=none:=by
 cases x with
 | str z=>let⟨t,rfl⟩:=r;cases(show T="str" from ty);show⟨typeIs_str s z t,λ_ e=>nomatch e⟩
 | int i=>let⟨t,rfl⟩:=r;cases(show T="int" from ty);show⟨typeIs_int s i t,λ_ e=>nomatch e⟩
 | ref p=>
  cases r;rcases ty with⟨rfl,xs,D⟩|⟨rfl,o,j,F,hd⟩|⟨rfl,j⟩|⟨rfl,S,n,j⟩
  .let⟨its,_,pl,_⟩:=I.list D;calc⟨pl.isList.typeIs,λa e=>?_⟩;cases e;let⟨o,n,e,c,hd,_⟩:=pl;show⟨o,e,hd⟩
  .calc⟨⟨o,I.iV p o j,F⟩,λa e=>?_⟩;cases e;show⟨o,I.iV _ o j,hd⟩
  .let z:∃o,s.heap.get? p=some o/\o.ExactDict:=by
    rcases j with⟨kvs,j⟩|⟨kvs,j⟩
    .let⟨_,_,_,_,o,_,_,e,ex,_⟩:=I.hok p _ j;show⟨o,e,ex⟩
    .let⟨_,_,_,_,o,_,_,e,ex,_⟩:=I.hok p _ j;show⟨o,e,ex⟩
   let⟨o,e,ex⟩:=z;calc⟨⟨o,e,ex.1⟩,λa e2=>?_⟩;cases e2;show⟨o,e,ex.2.1⟩
  .let⟨o,_,_,_,e,ex,_⟩:=I.hok p _ j;calc⟨⟨o,e,ex.1⟩,λa e2=>?_⟩;cases e2;show⟨o,e,ex.2.1⟩
 | _=>show False.elim ty
def adt (K:W.Frag)(T:String)(r:V->List V->Hp->VK->Prop)(to:TE):TE:=λσ H Q=>to σ H λx H1=>tyV K T x H1/\r x [] H1 Q
def tBM (K:W.Frag)(T:String)(r:V->List V->Hp->VK->Prop)(to:TE)(t:TA):TE:=λσ H Q=>to σ H λx H1=>tyV K T x H1/\t σ H1 λxs j=>r x xs j Q
variable {o e:Expr}{es:List Expr}{to:TE}{t:TA}{name:Str}{apos cpos:Pos}{T id:String}{r:V->List V->Hp->VK->Prop}
def aib (Y:PlainAttrs T)(slot:Slot T name id)(F:typeOf (.builtin id)=pure (.type "method_descriptor"))(hm:yD X id r)(O:PE X o to)(D:attributeBase o name X.env (eval o X.env)=eval o X.env:=by rfl)(j:(apos.endLine==cpos.line)=true:=by rfl):PE X (.Call (.Attribute o name apos) [] [] cpos) (adt X.K T r to):=by intro ao s σ H Q I h;calc wpAny_Call_method0_late D j (cH (O ao s σ H _ I h) λv s1 J=>?_);let⟨x,H1,G,r1,ty,q1⟩:=J;let⟨h1,h2⟩:=abh G r1 ty;show⟨T,id,Y,slot,F,h1,h2,gX rL (PySem.evalArgs_none (hm ao s1 σ H1 x [] v [] Q G r1 .nil q1))⟩
def akc (pa:PlainAttrs T)(slot:Slot T name id)(J:typeOf (.builtin id)=pure (.type "method_descriptor"))(hm:yD X id r)(ho:PE X o to)(ha:PA X (e::es) t)(F:attributeBase o name X.env (eval o X.env)=eval o X.env:=by rfl)(G:((backTo cpos (starEach (e::es) X.env)).all (λx=>!x.1)&&(backToKw cpos (keywordEach [] X.env)).all (λx=>x.1.isSome)
   && decide ((e::es).length+([]:List Keyword).length+(if ([]:List Keyword).isEmpty then 0 else 1)<30))=true:=by rfl)
  (D:(apos.endLine==cpos.line)=true:=by rfl) (hs:starEach (e::es) X.env=(false,eval e X.env)::starEach es X.env:=by rfl) (j:(backTo cpos (starEach es X.env)).any (·.1)=false:=by rfl) :
  PE X (.Call (.Attribute o name apos) (e::es) [] cpos) (tBM X.K T r to t):=by
 intro ao s σ H Q I h;calc wpAny_Call_method_late F G D rL (cH (ho ao s σ H _ I h) λv s1 Z=>?_);let⟨x,H1,O,r1,ty,q1⟩:=Z;let⟨h1,h2⟩:=abh O r1 ty;calc⟨T,id,pa,slot,J,h1,h2,?_⟩;let Y:=ha cpos ao s1 σ H1 _ O q1;rw[hs]at Y ⊢;calc gX (by show (false||(backTo cpos (starEach es X.env)).any (·.1))=false;rw[j] <;> rfl) (iq ?_);show cH Y λus s2 ⟨vs,H2,I2,r2,q2⟩=>hm ao s2 σ H2 x vs v us Q I2 r1 r2 q2
end
def MtM (X:Cx)(id:String)(r:V->List V->Hp->VK->Prop):Prop:=∀(ao:AH) (s:Shared) (σ:St) (H:Hp) (x:V) (xs:List V) (v:Value) (us:List Value) (Q:VK),aV X ao σ H s->cR x v->Vals xs us->r x xs H Q->
  wpAny (model X.prog X.w) X.A (call (.builtin id) (v::us)) (EP X ao σ Q) X.xe s
theorem Vals.one:∀{x:V} {us:List Value},Vals [x] us->∃u,us=[u]/\cR x u
 | _,_,.cons r .nil=>⟨_,rL,r⟩
theorem Vals.zero:∀{us:List Value},Vals [] us->us=[]
 | _,.nil=>rfl
def Vals.dropLast (h:Vals xs us):Vals xs.dropLast us.dropLast:=by
 induction h with
 | nil=>show .nil
 | cons r t ih=>
  cases t with| nil=>show .nil| cons q t'=>show .cons r ih
theorem Vals.eraseIdx:∀{xs:List V} {us:List Value} (i:Nat),Vals xs us->Vals (xs.eraseIdx i) (us.eraseIdx i)
 | _,_,_,.nil=>.nil
 | _,_,0,.cons _ t=>t
 | _,_,i+1,.cons r t=>.cons r (Vals.eraseIdx i t)
theorem Vals.rep (h:Vals xs us):∀k:Nat,Vals (List.replicate k xs).flatten (List.replicate k us).flatten
 | 0=>.nil
 | k+1=>by rw[dS,dS,fb,fb];show Vals.append h (Vals.rep h k)
def ZK {α:Type}(l:List α):l.eraseIdx (l.length-1)=l.dropLast:=by
 induction l with
 | nil=>rfl
 | cons a r ih=>
  cases r with
  | nil=>rfl
  | cons b r=>
   let e:(a::b::r).length-1=((b::r).length-1)+1:=by let h1:(a::b::r).length=r.length+2:=rfl;let h2:(b::r).length=r.length+1:=rfl;show h2
   rw[e,i9,ih]
   all_goals rfl
theorem foldl_rep (its:List Value):∀(k:Nat) (j:List Value),
  List.foldl (λx1 D=>x1++D) j.toArray (List.replicate k its.toArray)=(j++(List.replicate k its).flatten).toArray
 | 0,j=>by simp
 | k+1,j=>by
  let e:j.toArray++its.toArray=(j++its).toArray:=qa;let e2:(j++its)++(List.replicate k its).flatten=j++(List.replicate (k+1) its).flatten:=by rw[dS,fb,oy]
  rw[<-e2,<-foldl_rep its k (j++its),<-e,dS,mB]
section
variable {X:Cx}{ao:AH}{σ:St}{H:Hp}{s:Shared}{l:Addr}{xs ys:List V}
def aV.ZL {its its':List Value}(I:aV X ao σ H s)(j:H l=some (.lst xs))(e:s.heap.get? l=some {cls:=.type "list",data:=.seq its.toArray n})(G:f its.toArray=its'.toArray)(F:Vals ys its')(hz:ys.length<=sizeLine):aV X ao σ (upd H l (.lst ys)) {s with heap:=s.heap.update l (Obj.mapSeq f),toks:=t' }:=by let q:=PySem.IsL.update e f;rw[G]at q;calc I.write (x:=l) (e:=l) (by rw[j];show trivial) (.inl rL) (λJ u hb D=>(fq s.heap (Obj.mapSeq f) (gf hb)).trans D) ⟨_,q⟩ ?_;show⟨hz,its',_,F,q⟩
def aV.adu (I:aV X ao σ H s)(j:Vals ys its)(hz:ys.length<=sizeLine):aV X ao σ (upd H s.heap.objs.size (.lst ys)) {s with heap:=s.heap.push {cls:=.type "list",data:=.seq its.toArray},toks:=t' }:=I.laid (λ_ _ q=>af _ q) (al _) ⟨hz,its,0,j,ba _ rL⟩
def aV.fresh (I:aV X ao σ H s):H s.heap.objs.size=none:=I.hok.fresh (al _)
def aV.Ea (I:aV X ao σ H s)(j:H l=some (.lst xs)):xs.length<=sizeLine/\∃(its:List Value) (n:Nat),Vals xs its/\xs.length=its.length/\s.heap.get? l=some {cls:=.type "list",data:=.seq its.toArray n}:=by let⟨z,its,n,r,e⟩:=I.hok l _ j;show⟨z,its,n,r,r.length,e⟩
def SN (h:n<=sizeLine):Builtin.List.listTooLong n=false:=by unfold Builtin.List.listTooLong;show ag p_
end
section
variable {X:Cx}
def afW:V->List V->Hp->VK->Prop:=λx vs H Q=>∃l xs y,x=.ref l/\vs=[y]/\H l=some (.lst xs)/\xs.length<sizeLine/\Q .non (upd H l (.lst (xs++[y])))
def jy:MtM X "list.append" afW:=by intro ao s σ H x vs v us Q I J G h;let⟨l,xs,y,rfl,rfl,j,hz,q⟩:=h;cases J;let⟨u,rfl,D⟩:=G.one;let⟨z,its,n,r,hl,e⟩:=I.Ea j;calc call_meets F.slot_list_append ⟨_,e,rL⟩ F.entry_list_append (F.args_list_append_2 _ _) (PySem.list_append l its.toArray n u (by rw[bc];simp_all)) ⟨e,?_⟩;calc⟨.non,_,I.ZL (its':=its++[u]) j e qa (r.append (.cons D .nil)) ?_,rL,q⟩;rw[av,mi];show hz
def afX:V->List V->Hp->VK->Prop:=λx vs H Q=>∃l b xs zs,x=.ref l/\vs=[.ref b]/\H l=some (.lst xs)/\H b=some (.lst zs)/\xs.length+zs.length<=sizeLine/\Q .non (upd H l (.lst (xs++zs)))
def abj:MtM X "list.extend" afX:=by
 intro ao s σ H x vs v us Q I rx rv h;let⟨l,b,xs,zs,rfl,rfl,D,G,hz,q⟩:=h;cases rx;let⟨u,rfl,O⟩:=rv.one;cases O;let⟨z,its,n,r,hl,e⟩:=I.Ea D;let⟨z2,j,n2,Y,Z,e2⟩:=I.Ea G;let hsz:its.toArray.size+j.toArray.size<=sizeLine:=by rw[bc,bc];simp_all
 let J:¬(!its.toArray.isEmpty&&Builtin.List.listTooLong (its.toArray.size+j.toArray.size))=true:=by rw[SN hsz,Bool.and_false];show bP
 refine call_meets F.slot_list_extend ⟨_,e,rL⟩ F.entry_list_extend (F.args_list_extend_2 _ _)
  (AutoSeq1.list_extend_list_list_0 l its.toArray n b j.toArray n2 J (by rw[bc];simp_all) (Nat.le_succ_of_le hsz)) ⟨e,e2,?_⟩
 calc⟨.non,_,I.ZL (its':=its++j) D e qa (r.append Y) ?_,rL,q⟩;rw[av];show hz
def akY:V->List V->Hp->VK->Prop:=λx vs H Q=>∃l xs y,x=.ref l/\vs=[]/\H l=some (.lst xs)/\xs[xs.length-1]?=some y/\Q y (upd H l (.lst xs.dropLast))
def abk:MtM X "list.pop" akY:=by
 intro ao s σ H x vs v us Q I Z O h;let⟨l,xs,y,rfl,rfl,G,hy,q⟩:=h;cases Z;let j:=O.zero;subst j;let⟨z,its,n,r,hl,e⟩:=I.Ea G;let⟨u,Y,J⟩:=r.get hy;let D:its.toArray[its.toArray.size-1]?=some u:=by show its.toArray[its.length-1]?=some u;rw[<-Array.getElem?_toList,<-hl];show Y
 calc call_meets F.slot_list_pop ⟨_,e,rL⟩ F.entry_list_pop (F.args_list_pop_1 _) (MeetsSeq.list_pop_last l its.toArray n u D (by rw[bc];simp_all)) ⟨e,?_⟩;refine⟨y,_,I.ZL (its':=its.dropLast) G e ?_ r.dropLast ?_,J,q⟩
 .show its.toArray.eraseIdxIfInBounds (its.toArray.size-1)=its.dropLast.toArray;rw[bc,List.eraseIdxIfInBounds_toArray,ZK]
 .rw[mE];show bE (Nat.sub_le _ _) z
def akZ:R2:=λx y H Q=>∃l b xs zs,x=.ref l/\y=.ref b/\H l=some (.lst xs)/\H b=some (.lst zs)/\xs.length+zs.length<=sizeLine/\∀p,H p=none->Q (.ref p) (upd H p (.lst (xs++zs)))
def SQ:gK X (binaryOp .Add) akZ:=by intro ao s σ H x y v u Q I Z Y h;let⟨l,b,xs,zs,rfl,rfl,J,D,hz,q⟩:=h;cases Z;cases Y;let⟨z,its,n,r,hl,e⟩:=I.Ea J;let⟨z2,j,n2,F,G,e2⟩:=I.Ea D;calc PySem.P.add_list e e2 ?_ (by rw[bc,bc];lia);let O:its.toArray++j.toArray=(its++j).toArray:=qa;rw[O];show⟨.ref _,_,I.adu (t':=s.toks) (r.append F) (by rw[av];lia),rL,q _ I.fresh⟩
def ak0:R2:=λx y H Q=>∃l k xs,x=.ref l/\y=.int k/\H l=some (.lst xs)/\-(2^63)<=k/\k<2^63/\xs.length*k.toNat<=sizeLine/\
 ∀p,H p=none->Q (.ref p) (upd H p (.lst (List.replicate k.toNat xs).flatten))
def len_rep {α:Type}(xs:List α)(k):(List.replicate k xs).flatten.length=k*xs.length:=by
 induction k with| zero=>simp| succ k ih=>rw[dS,fb,av,ih,oS,Nat.add_comm]
def abl:gK X (binaryOp .Mult) ak0:=by
 intro ao s σ H x y v u Q I rx ry h;let⟨l,k,xs,rfl,rfl,Z,h1,h2,hz,q⟩:=h;cases rx;let⟨t,rfl⟩:=ry;let⟨z,its,n,r,hl,e⟩:=I.Ea Z;let O:its.toArray.size*k.toNat<=sizeLine:=by rw[bc,<-hl];show hz
 let j:¬its.toArray.size*k.toNat > (2^63-1)/8:=by
  have:(sizeLine:Nat)<=(2^63-1)/8:=by decide
  lia
 let G:¬(!Builtin.List.listFitsIndex k)=true:=by rw[fitsIndex_both h1 h2];show bP
 let Y:¬Builtin.List.listTooLong (its.toArray.size*k.toNat)=true:=by rw[SN O];show bP
 let D:List.foldl (λx1 J=>x1++J) #[] (List.replicate (if its.toArray.isEmpty=true then 0 else k.toNat) its.toArray)=(List.replicate k.toNat its).flatten.toArray:=by
  let f0:∀m:Nat,List.foldl (λx1 J=>x1++J) #[] (List.replicate m its.toArray)=(List.replicate m its).flatten.toArray:=λm=>by have:=foldl_rep its m [];rw[List.nil_append]at this;show this
  rw[f0];cases its with| nil=>simp| cons a r'=>rw[if_neg qa]
 refine kN (T:="list") (U:="int") qc ⟨_,e,rL⟩ (λs'=>typeIs_int s' k t) noFill_list_mul F.fills_int_mul F.slot_int_rmul repeat_list F.slot_int_index.lookup
  (call_meets F.slot_int_rmul (typeIs_int s k t) F.entry_int_rmul (F.args_int_rmul_2 _ _) (int___rmul___int_list k t l its.toArray n)
   ⟨e,rL,⟨_,e,rL⟩,call_meets F.slot_list_mul ⟨_,e,rL⟩ F.entry_list_mul (F.args_list_mul_2 _ _) (AutoListH.list___mul___list_int_3 l its.toArray n k t G j Y) ⟨e,?_⟩⟩)
 rw[D];show⟨.ref _,_,I.adu (t':=s.toks) (r.rep k.toNat) (by rw[len_rep,Nat.mul_comm];show hz),rL,q _ I.fresh⟩
end
section
variable {κ:Type}[DecidableEq κ]
def gM (kvs:List (κ×V))(k:κ):Option V:=(kvs.find? λj=>decide (j.1=k)).map (·.2)
noncomputable def putK (kvs:List (κ×V))(k:κ)(v:V):List (κ×V):=if (kvs.any λj=>decide (j.1=k))=true then kvs.map (λj=>if j.1=k then (j.1,v) else j) else kvs++[(k,v)]
def j9 {p:κ×V}(e:p.1=k):gM (p::r) k=some p.2:=by simp[gM,gp,e]
def j_ {p:κ×V}(e:¬p.1=k):gM (p::r) k=gM r k:=by simp[gM,gp,e]
theorem ud (k:κ):∀kvs:List (κ×V),(kvs.any λj=>decide (j.1=k))=(gM kvs k).isSome
 | []=>rfl
 | p::r=>by
  rw[kD];by_cases e:p.1=k;.simp only[j9 e,ai e,Bool.true_or,Option.isSome_some]
  .rw[j_ e,ag e,Bool.false_or];show ud k r
theorem SX (k j:κ)(y):∀kvs:List (κ×V),gM (kvs.map λD=>if D.1=k then (D.1,y) else D) j=(gM kvs j).map λx=>if j=k then y else x
 | []=>rfl
 | p::r=>by
  let F:=SX k j y r;rw[cw];by_cases h:p.1=k
  .rw[if_pos h];by_cases e:p.1=j;.rw[j9 (p:=(p.1,y)) e,j9 e,kP,if_pos (e.symm.trans h)]
   .rw[j_ (p:=(p.1,y)) e,j_ e,F]
  .rw[if_neg h];by_cases e:p.1=j;.rw[j9 (p:=p) e,j9 e,kP,if_neg (λz=>h (e.trans z))]
   .rw[j_ (p:=p) e,j_ e,F]
theorem PX (k j:κ)(y):∀kvs:List (κ×V),gM kvs k=none->gM (kvs++[(k,y)]) j=if j=k then some y else gM kvs j
 | [],_=>by
  by_cases e:k=j;.rw[if_pos e.symm];show j9 (p:=(k,y)) e
  .rw[if_neg (λz=>e z.symm)];show j_ (p:=(k,y)) e
 | p::r,hn=>by
  rw[o0];let D:¬p.1=k:=λz=>by rw[j9 z]at hn;cases hn
  rw[j_ D]at hn;let F:=PX k j y r hn;by_cases e:p.1=j;.rw[j9 e,j9 e,if_neg (λz=>D (e.trans z))]
  .rw[j_ e,j_ e,F]
def adv (kvs:List (κ×V))(k j:κ)(y):gM (putK kvs k y) j=if j=k then some y else gM kvs j:=by
 unfold putK;by_cases a:(kvs.any λD=>decide (D.1=k))=true
 .rw[if_pos a,SX];rw[ud]at a;by_cases e:j=k
  .let⟨x,hx⟩:=gm.mp a;rw[if_pos e,e,hx,kP,if_pos rfl]
  .rw[if_neg e];cases gM kvs j with| none=>rfl| some x=>rw[kP,if_neg e]
 .rw[if_neg a];calc PX k j y kvs ?_;rw[ud]at a;cases q:gM kvs k with| none=>rfl| some x=>rw[q]at a;show(a rL).elim
def zF (kvs:List (κ×V))(k:κ)(v):(putK kvs k v).length<=kvs.length+1:=by
 unfold putK;split;.rw[aa];lia
 .rw[av,dE,mI];lia
def adw {kvs:List (κ×V)}{k:κ}(v:V)(h:gM kvs k=none):putK kvs k v=kvs++[(k,v)]:=by unfold putK;rw[ud,h];show if_neg qc
def nR.Eb (r:nR o u):o.isSome=u.isSome:=by
 cases o with
 | none=>cases u with| none=>rfl| some _=>show(show False from r).elim
 | some _=>cases u with| none=>show(show False from r).elim| some _=>rfl
def nR.getD (r:nR o u)(rd:cR d d'):cR (o.getD d) (u.getD d'):=by
 cases o with
 | none=>cases u with| none=>show rd| some _=>show(show False from r).elim
 | some _=>cases u with| none=>show(show False from r).elim| some _=>show r
def KV.val (r:KV kvs vs)(k:κ):nR (gM kvs k) (valueAt vs k):=by
 unfold KV at r
 induction r with
 | nil=>show True.intro
 | @cons p q ps qs h t ih=>
  let⟨h1,h2⟩:=h;by_cases e:p.1=k
  .let j:q.1=k:=h1.symm.trans e;let b:valueAt (q::qs) k=some q.2:=by simp[valueAt,gp,j]
   rw[j9 e,b];show h2
  .let j:¬q.1=k:=λz=>e (h1.trans z)
   let b:valueAt (q::qs) k=valueAt qs k:=by simp[valueAt,gp,j]
   rw[j_ e,b];show ih
def KV.any (r:KV kvs vs)(k:κ):(kvs.any λj=>decide (j.1=k))=vs.any λj=>decide (j.1=k):=by
 unfold KV at r
 induction r with| nil=>rfl| cons h t ih=>rw[kD,kD,ih,h.1]
def KV.repl (r:KV kvs vs)(k:κ)(D:cR y u):KV (kvs.map λj=>if j.1=k then (j.1,y) else j) (vs.map λj=>if j.1=k then (j.1,u) else j):=by
 unfold KV at r ⊢
 induction r with
 | nil=>show .nil
 | @cons p q ps qs h t ih=>
  rw[cw,cw];calc .cons ?_ ih;let⟨h1,h2⟩:=h;by_cases e:p.1=k;.rw[if_pos e,if_pos (h1.symm.trans e)];show⟨h1,D⟩
  .rw[if_neg e,if_neg (λz=>e (h1.trans z))];show⟨h1,h2⟩
def KV.put (r:KV kvs vs)(k:κ)(j:cR y u):KV (putK kvs k y) (stored vs k u):=by
 unfold putK stored;rw[r.any k];by_cases e:(vs.any λD=>decide (D.1=k))=true;.rw[if_pos e,if_pos e];show r.repl k j
 .rw[if_neg e,if_neg e];show Paired.snoc r ⟨rL,j⟩
def KV.keys {kvs:List (κ×V)}{vs:List (κ×Value)}(r:KV kvs vs):kvs.map (·.1)=vs.map (·.1):=by
 unfold KV at r
 induction r with| nil=>rfl| cons h t ih=>rw[cw,cw,ih,h.1]
def KV.length {kvs:List (κ×V)}{vs:List (κ×Value)}(r:KV kvs vs):kvs.length=vs.length:=Paired.length r
end
def Ku (r:cR (kV k) u):(iD P w).is k u=true:=by
 cases k with
 | inl i=>let⟨t,e⟩:=(show ∃t,u=Value.int i t from r);subst e;show Wv P w i t
 | inr x=>let⟨t,e⟩:=(show ∃t,u=Value.str x t from r);subst e;show mQ P w x t
theorem P0:∀{j:List Key} {us:List Value},Vals (j.map kV) us->ItemsAre (iD P w) j us
 | [],_,r=>by rw[ph]at r;cases r;show .nil
 | k::j,_,r=>by
  rw[cw]at r;cases r with| cons h t=>show .cons (Ku h) (P0 t)
abbrev KT (H:Hp):List (List Key×V)->List (List Key×Addr×Value)->Prop:=Paired λp q=>p.1=q.1/\H q.2.1=some (.tup (p.1.map kV))/\cR p.2 q.2.2
def KT.val (r:KT H kvs xs)(k:List Key):nR (gM kvs k) ((atKey xs k).map (·.2)):=by
 induction r with
 | nil=>show True.intro
 | @cons p q ps qs h t ih=>
  let⟨h1,_,h2⟩:=h;by_cases e:p.1=k
  .let j:q.1=k:=h1.symm.trans e;let b:atKey (q::qs) k=some q.2:=by simp[atKey,gp,j]
   rw[j9 e,b];show h2
  .let j:¬q.1=k:=λz=>e (h1.trans z)
   let b:atKey (q::qs) k=atKey qs k:=by simp[atKey,gp,j]
   rw[j_ e,b];show ih
def KT.repl (r:KT H kvs xs)(k:List Key)(D:cR y u):KT H (kvs.map λj=>if j.1=k then (j.1,y) else j) (xs.map (putAt k u)):=by
 induction r with
 | nil=>show .nil
 | @cons p q ps qs h t ih=>
  rw[cw,cw];calc .cons ?_ ih;let⟨h1,h2,h3⟩:=h;unfold putAt;by_cases e:p.1=k;.rw[if_pos e,if_pos (h1.symm.trans e)];show⟨h1,h2,D⟩
  .rw[if_neg e,if_neg (λz=>e (h1.trans z))];show⟨h1,h2,h3⟩
def KT.put (r:KT H kvs xs)(k:List Key)(hb:H b=some (.tup (k.map kV)))(j:cR y u):KT H (putK kvs k y) (storedH xs k b u):=by
 let e:(kvs.any λD=>decide (D.1=k))=(atKey xs k).isSome:=by rw[ud,(r.val k).Eb,Option.isSome_map]
 unfold putK storedH;rw[e];by_cases q:(atKey xs k).isSome=true;.rw[if_pos q,if_pos q];show r.repl k j
 .rw[if_neg q,if_neg q];show Paired.snoc r ⟨rL,hb,j⟩
def KT.keeps (r:KT H kvs xs)(ht:∀b ys,H b=some (.tup ys)->H' b=some (.tup ys)):KT H' kvs xs:=Paired.ac6 r λ_ _ z=>⟨z.1,ht _ _ z.2.1,z.2.2⟩
section
variable {P:Program}{w:World}{H:Hp}{h:Heap}{a:Addr}
def afi (ok:lD P w H h)(e:Rd H a u):gJ P w H h a u:=e.ok ok
def Kv (ok:lD P w H h)(e:Rd H a (.dK kvs)):kvs.length<=sizeLine/\(a==sysModules)=false/\∃vs,KV kvs vs/\h.DictOf (iD P w) a vs:=show gJ P w H h a (.dK kvs) from afi ok e
def ZM (ok:lD P w H h)(e:H a=some (.dK kvs)):kvs.length<=sizeLine/\(a==sysModules)=false/\∃vs,KV kvs vs/\h.DictOf (iD P w) a vs:=Kv ok (.inl e)
def Kw {j:List Key}(ok:lD P w H h)(e:H a=some (.tup (j.map kV))):(tupleKind (iD P w)).is h j a:=by
 let⟨_,its,r,o,h1,h2,n,h3⟩:=(show gJ P w H h a (.tup (j.map kV)) from ok a _ e)
 show⟨o,its.toArray,n,h1,h2,h3,by simpa using P0 r⟩
def RG (ok:lD P w H h)(e:Rd H a (.dT kvs)):kvs.length<=sizeLine/\(a==sysModules)=false/\
  ∃xs,KT H kvs xs/\h.DictOfH (tupleKind (iD P w)) a xs:=by
 let⟨z,y,xs,r,o,es,ep,h1,h2,h3,h4,h5⟩:=(show gJ P w H h a (.dT kvs) from afi ok e)
 calc⟨z,y,xs,r,o,es,ep,h1,h2,h3,h4,λx hx=>?_,h5⟩;let all:∀{l:List (List Key×V)} {m:List (List Key×Addr×Value)},KT H l m->∀x∈m,(tupleKind (iD P w)).is h x.1 x.2.1:=by
  intro l m q
  induction q with
  | nil=>intro x hx;show nomatch hx
  | @cons p q ps qs hq t ih=>
   intro x hx;rcases bX.mp hx with e|hx
   .subst e;show Kw ok (by rw[<-hq.1];show hq.2.1)
   .show ih x hx
 show all r x hx
def akd (ok:lD P w H h)(e:H a=some (.dT kvs)):kvs.length<=sizeLine/\(a==sysModules)=false/\
  ∃xs,KT H kvs xs/\h.DictOfH (tupleKind (iD P w)) a xs:=RG ok (.inl e)
end
def zG (H:Hp)(a:Addr)(y:V)(r:Option V):Prop:=(∃kvs k,Rd H a (.dK kvs)/\y=kV k/\r=gM kvs k)\/∃kvs k b,Rd H a (.dT kvs)/\y=.ref b/\H b=some (.tup (k.map kV))/\r=gM kvs k
def Jd (H:Hp)(a:Addr)(y v:V)(H':Hp):Prop:=(∃kvs k,H a=some (.dK kvs)/\y=kV k/\kvs.length<sizeLine/\H'=upd H a (.dK (putK kvs k v)))\/
 ∃kvs k b,H a=some (.dT kvs)/\y=.ref b/\H b=some (.tup (k.map kV))/\kvs.length<sizeLine/\H'=upd H a (.dT (putK kvs k v))
theorem zG.k {kvs:List (Key×V)}{k:Key}(e:H a=some (.dK kvs)):zG H a (kV k) (gM kvs k):=.inl ⟨kvs,k,.inl e,rL,rL⟩
theorem Jd.k {kvs:List (Key×V)}{k:Key}{v:V}(e:H a=some (.dK kvs))(hl:kvs.length<sizeLine):Jd H a (kV k) v (upd H a (.dK (putK kvs k v))):=.inl ⟨kvs,k,e,rL,hl,rL⟩
section
variable {X:Cx}{ao:AH}{σ:St}{H:Hp}{s:Shared}{a:Addr}{y v:V}{u r:Value}{o:Option V}{A:Around}{E:AF}
variable {kvs:List (Key×V)}
def aV.big (I:aV X ao σ H s):sysModules<s.heap.objs.size:=by let h:mainGlobals<s.heap.objs.size:=(I.mod.glob.keeps I.bk).lt;show Nat.lt_trans qc h
def ak1 (J:A.units+1<cLine)(I:aV X ao σ H s)(g:zG H a y o)(F:cR y u)(h:∀s',aV X ao σ H s'->Q (.bool o.isSome) s'):wpAny (model X.prog X.w) A (compareOp .In u (.ref a)) Q E s:=by
 rcases g with⟨kvs,k,e,D,l⟩|⟨kvs,k,b,e,D,G,l⟩
 .subst D;let⟨z,hd,vs,j,dd⟩:=Kv I.hok e;calc wpAny_in_of (Ku F) hd dd.mapOf ?_;rw[<-(j.val k).Eb,<-l];show h _ (I.tok _)
 .subst D;cases(show u=Value.ref b from F);let⟨z,hd,xs,j,dd⟩:=RG I.hok e;calc wpAny_in_heap (tupleKind_room_in1 J) (Kw I.hok G) hd dd ?_;let q:=(j.val k).Eb;rw[Option.isSome_map]at q;rw[<-q,<-l];show h _ (I.tok _)
def Xw (I:aV X ao σ H s)(j:Mut (H a))(hs:Heap.SameBut a s.heap h')(D:∃q,h'.get? a=some q)(new:gJ X.prog X.w (upd H a ob) h' a ob):aV X ao σ (upd H a ob) {s with heap:=h',toks:=t' }:=I.write (x:=a) (e:=a) j (.inl rL) (λb q hb z=>(hs.2 b hb).trans z) D new
def aic {h':Heap}{kvs:List (Key×V)}(z:kvs.length<=sizeLine)(hd:(a==sysModules)=false)(j:KV kvs vs)(dd:h'.DictOf (iD P w) a vs):gJ P w H' h' a (.dK kvs):=⟨z,hd,vs,j,dd⟩
def abm (hu:A.units+1<cLine)(I:aV X ao σ H s)(g:Jd H a y v H')(ry:cR y u)(Z:cR v r)(h:∀s',aV X ao σ H' s'->Q () s'):wpAny (model X.prog X.w) A (setItem (.ref a) u r) Q E s:=by
 rcases g with⟨kvs,k,e,G,l,J⟩|⟨kvs,k,b,e,G,Y,l,J⟩
 .subst G J;let⟨z,hd,vs,j,dd⟩:=ZM I.hok e;let hz:vs.length<=sizeLine:=by rw[<-j.length];show z
  let hl:(putK kvs k v).length<=sizeLine:=by have:=zF kvs k v;lia
  calc wpAny_setItem_pairs (hsz:=hz) (Ku ry) dd λh' D hs=>h _ ?_;let he:∃q,h'.get? a=some q:=let ⟨q,_,_,F,_⟩:=D;⟨q,F⟩
  show Xw I (by rw[e];show True.intro) hs he (aic hl hd (j.put k Z) D)
 .subst G J;cases(show u=Value.ref b from ry);let⟨z,hd,xs,j,dd⟩:=akd I.hok e;let hz:xs.length<=sizeLine:=by rw[<-Paired.length j];show z
  let hl:(putK kvs k v).length<=sizeLine:=by have:=zF kvs k v;lia
  calc wpAny_setItem_heap (hsz:=hz) (tupleKind_room_in1 hu) (Kw I.hok Y) dd λh' D hs=>h _ ?_;let⟨q,es,ep,F,h2,h3,h4,_,h5⟩:=D;calc Xw I (by rw[e];show True.intro) hs ⟨q,F⟩ ⟨hl,hd,_,(j.put k Y Z).keeps λc ys O=>?_,q,es,ep,F,h2,h3,h4,h5⟩;rw[aZ (yC O e (λz=>nomatch z))];show O
def ake (I:aV X ao σ H s)(e:Rd H a (.dK kvs))(h:∀t s',aV X ao σ H s'->Q (.int kvs.length t) s'):wpAny (model X.prog X.w) A (call (.builtin "len") [.ref a]) Q E s:=by let⟨z,hd,vs,j,dd⟩:=Kv I.hok e;calc call_len_dict hd dd (by rw[<-j.length];rw[sizeLine_eq]at z;lia) ?_;rw[<-j.length];show h _ _ (I.tok _)
end
def aie (ty td:TE):TE:=λσ H Q=>ty σ H λy H1=>td σ H1 λx j=>∃a o,x=.ref a/\zG j a y o/\Q (.bl o.isSome) j
def afj (td ty tv:TE):TS:=λD σ H=>tv σ H λv H1=>td σ H1 λx F=>ty σ F λy G=>∃a j,x=.ref a/\Jd G a y v j/\D.nx σ j
section
variable {X:Cx}{o i value:Expr}{pos pos':Pos}{td ty tv:TE}
def aif (O:X.A.units+1<cLine)(hi:PE X i ty)(F:PE X o td):PC X .In i o (aie ty td):=by intro ao s σ H Q I h;calc cH (hi ao s σ H _ I h) λiv s1 j=>?_;let⟨y,H1,D,Y,q1⟩:=j;calc cH (F ao s1 σ H1 _ D q1) λu s2 j=>?_;let⟨x,H2,G,Z,a,ov,ex,g,q2⟩:=j;subst ex;obtain rfl:u=Value.ref a:=Z;show ak1 O G g Y λs3 J=>⟨.bl ov.isSome,H2,J,rL,q2⟩
def afY (hu:X.A.units+1<cLine)(O:PE X o td)(hi:PE X i ty)(J:PE X value tv)(hs:swapsWith value (some (.Subscript o i pos')) pos.line X.env=pure false):PS X (.Assign [.Subscript o i pos'] value pos) (afj td ty tv):=by intro ao s σ H D I h;calc wpAny_Assign_Subscript (cH (J ao s σ H _ I h) λr s1 j=>?_) hs;let⟨v,H1,G,rv,q1⟩:=j;calc cH (O ao s1 σ H1 _ G q1) λu s2 j=>?_;let⟨x,H2,Y,rx,q2⟩:=j;calc cH (hi ao s2 σ H2 _ Y q2) λiv s3 j=>?_;let⟨y,H3,I3,ry,a,F,ex,g,q3⟩:=j;subst ex;obtain rfl:u=Value.ref a:=rx;show abm hu I3 g ry rv λs4 Z=>⟨σ,F,Z,q3⟩
end
def adx (h:Heap)(hb:sysModules<h.objs.size):gJ P w H (h.push {cls:=.type "dict",data:=.dict #[]}) h.objs.size (.dK []):=⟨eQ _,beq_eq_false_iff_ne.mpr (gf (cn hb)),[],.nil,Heap.DictOf.new h⟩
def abn:TE:=λ_ H Q=>∀p,H p=none->Q (.ref p) (upd H p (.dK []))
section
variable {X:Cx}{pos:Pos}
def ady:PE X (.Dict [] [] pos) abn:=λao s σ H Q I h=>wpAny_Dict_empty ⟨.ref s.heap.objs.size,_,I.laid (a:=s.heap.objs.size) (o:=.dK []) (t':=s.toks) (λ_ _ q=>af _ q) (al _) (adx s.heap I.big),rL,h _ (I.hok.fresh (al _))⟩
end
structure M2 (X:Cx)(o:Expr)(m:Str)(apos:Pos)(e f:Expr)(cpos:Pos):Prop where
 base:attributeBase o m X.env (eval o X.env)=eval o X.env
 few:((backTo cpos (starEach [e,f] X.env)).all (λx=>!x.1)&&(backToKw cpos (keywordEach [] X.env)).all (λx=>x.1.isSome)
  && decide (([e,f]:List Expr).length+([]:List Keyword).length+(if ([]:List Keyword).isEmpty then 0 else 1)<30))=true
 line:(apos.endLine==cpos.line)=true
 trees:backTo cpos (starEach [e,f] X.env)=[(false,eval e X.env),(false,eval f X.env)]
def IsD (H:Hp)(a:Addr):Prop:=(∃kvs,Rd H a (.dK kvs))\/∃kvs,Rd H a (.dT kvs)
def aii {X:Cx}{ao:AH}{σ:St}{H:Hp}{s:Shared}{a:Addr}(I:aV X ao σ H s)(d:IsD H a):s.TypeIs (.ref a) "dict"/\(∀b,Value.ref a=.ref b->∃ob,s.heap.get? b=some ob/\ob.dict=none)/\(a==sysModules)=false:=by
 rcases d with⟨kvs,e⟩|⟨kvs,e⟩
 .let⟨_,hd,vs,_,dd⟩:=Kv I.hok e;calc⟨dd.typeIs,λb q=>?_,hd⟩;cases q;let⟨ob,_,_,h1,h2,_⟩:=dd;show⟨ob,h1,h2.2.1⟩
 .let⟨_,hd,xs,_,dd⟩:=RG I.hok e;calc⟨dd.typeIs,λb q=>?_,hd⟩;cases q;let⟨ob,_,_,h1,h2,_⟩:=dd;show⟨ob,h1,h2.2.1⟩
section
variable {X:Cx}{ao:AH}{σ:St}{H:Hp}{s:Shared}{a:Addr}{y d:V}{u r:Value}{o:Option V}{A:Around}{E:AF}
def aij (O:A.units+1<cLine)(I:aV X ao σ H s)(g:zG H a y o)(G:cR y u)(rd:cR d r)(h:∀F s',aV X ao σ H s'->cR (o.getD d) F->Q F s'):wpAny (model X.prog X.w) A (call (.builtin "dict.get") [.ref a,u,r]) Q E s:=by
 rcases g with⟨kvs,k,e,D,l⟩|⟨kvs,k,b,e,D,J,l⟩
 .subst D;let⟨z,hd,vs,j,dd⟩:=Kv I.hok e;calc call_meetsIn ii dd.typeIs lS (lm _ _ _) (meets_dict_get_default (iD X.prog X.w) a (Ku G) hd r) ⟨_,dd.mapOf,h _ _ (I.tok _) ?_⟩;rw[l];show(j.val k).getD rd
 .subst D;cases(show u=Value.ref b from G);let⟨z,hd,xs,j,dd⟩:=RG I.hok e;calc call_meetsIn ii dd.typeIs lS (lm _ _ _) (meetsH_dict_get_default (tupleKind (iD X.prog X.w)) a b hd r) ⟨tupleKind_room_in1 O,k,xs,Kw I.hok J,dd,h _ _ (I.tok _) ?_⟩;rw[l];show(j.val k).getD rd
end
def abo (td ty tx:TE):TE:=λσ H Q=>td σ H λx H1=>∃a,x=.ref a/\IsD H1 a/\ty σ H1 λy D=>tx σ D λz j=>∃o,zG j a y o/\Q (o.getD z) j
section
variable {X:Cx}{o e f:Expr}{apos cpos:Pos}{td ty tx:TE}
def adz (hu:X.A.units+1<cLine)(J:PE X o td)(he:PE X e ty)(G:PE X f tx)(m:M2 X o "get" apos e f cpos):PE X (.Call (.Attribute o "get" apos) [e,f] [] cpos) (abo td ty tx):=by
 intro ao s σ H Q I h;calc wpAny_Call_method m.base m.few m.line PySem.F.plainAttrs_dict ii PySem.F.type_dict_get (cH (J ao s σ H _ I h) λu s1 ⟨x,H1,D,rx,a,ex,d,q1⟩=>?_);subst ex;obtain rfl:u=Value.ref a:=rx;let⟨F,t2,_⟩:=aii D d;calc⟨F,t2,?_⟩;rw[m.trees];refine gX rL (iq (fi (cH (he ao s1 σ H1 _ D q1) λiv s2 ⟨y,H2,Y,ry,q2⟩=>fi (cH (G ao s2 σ H2 _ Y q2) λfv s3 ⟨z,O,I3,Z,ov,g,q3⟩=>im ?_))))
 show aij hu I3 g ry Z λw' s4 I4 j=>⟨_,O,I4,j,q3⟩
end
end L2
namespace Att
open PySem PySem.W PySem.Calls PyProof.Rows
def Ky:∀(ns:List Int) (vs:List Value),WellAll P h vs (ns.map WData.int)->IntsAre vs ns:=by
 intro ns
 induction ns with
 | nil=>intro vs w;rw[ph]at w;cases w;show .nil
 | cons n ns ih=>
  intro vs w;rw[cw]at w;cases w with| cons a b=>cases a;show .cons _ _ (ih _ b)
def abp {l:OpenLaw}(hn:l.most=some n)(j:l.row.toRowW.claim.pre args=true)(D:WellAll P h vals args):∃a vs ns,vals=[Value.ref a]/\args=[WData.list (ns.map WData.int)]/\h.get? a=some {cls:=.type "list",data:=.seq vs.toArray}/\IntsAre vs ns/\ns.length<=n:=by
 let F:WShape.hasAll [] args [.list .int]=true:=(pre_splitW j).1;let G:l.pre.holds [] {args:=args}=true:=(pre_splitW j).2;let⟨d,r,rfl,h1,h2⟩:=hasAllW_cons F;obtain rfl:=hasAllW_nil h2;let⟨xs,rfl,h3⟩:=hasW_list h1;let⟨ns,rfl⟩:=items_int h3;let J:ns.length<=n:=by
  unfold OpenLaw.pre at G;let h4:(WTm.not (.lt (.lit (.int (n:Int))) (.len (.arg 0)))).holds [] {args:=[.list (ns.map .int)]}=true:=by let h4:=(holds_andW G).1;rw[hn]at h4;show h4
  let h5:=condW_of h4 (w_not (w_lt w_lit (w_len_list (w_arg rL))));rw[aa]at h5;calc Nat.le_of_not_lt λq=>?_;let I:(n:Int)<((ns.length:Nat):Int):=Iff.mpr my q
  first| (rw[ai I]at h5;show absurd h5 qc)| (simp at h5;lia)
 cases D with
 | cons w1 w2=>
  cases w2;cases w1 with| list ho hall=>show⟨_,_,ns,rL,rL,ho,Ky ns _ hall,J⟩
def abq (l:OpenLaw)(args:List WData):l.row.toRowW.claim.post args (.bool true) args=true:=postW_of (r:=l.row.toRowW) (X:=(true==true))
  (show WShape.has [] (.bool true) .bool=true by first|rfl|decide|simp[WShape.has,WShape.arms,WShape.armsAll])
  (show (WTm.eq .res (.lit (.bool true))).value [] {args:=args,res:=some (.bool true),after:=args}=some (.bool (true==true)) from w_eq_bool (w_res rL) w_lit) rfl
def Ww {l:OpenLaw}{d:DefRec}(hn:l.most=some n)(hdf:d.params.defaults=[])(call:∀(w:World) (s₀ j:Shared) (mg mb:Str->Option Value) (F:Addr) (o:Obj) (pm cd doc:Value) (a:Addr) (vs:List Value) (ns:List Int),
   Ground q loose [] XP w s₀ mg mb j.heap->YP w j.heap->
   j.heap.get? F=some o->o.data=.func (docDef d.name d.params d.body d.scope pm cd doc)->j.heap.CodeRec cd d.name->mg d.name=some (.ref F)->
   j.heap.get? a=some {cls:=.type "list",data:=.seq vs.toArray}->IntsAre vs ns->ns.length<=n->j.gens=#[]->
   codeAny (model l.prog w) callerA (.call (.ref F) ⟨[.ref a],[]⟩) (λr s'=>r=.ok (.ret (.bool true))/\OldK j.heap s'.heap/\s'.os=j.os/\AllBare s'.gens) j) :
  WalkO q loose XP YP l.row.toRowW d [] (λf vs=>PySem.call f vs):=by
 intro w s₀ j mg mb G Y F o pm cd doc dV kV ho hd Z hD O hg args vals as J hlay hrd hwl hlo;obtain rfl:dV=.none:=Dflts.none hD hdf;obtain rfl:kV=.none:=Dflts.noKw hD;let⟨a,vs,ns,rfl,rfl,I,D,dI⟩:=abp hn J hwl;calc enter_call (iL (call w s₀ j mg mb F o pm cd doc a vs ns G Y ho (fd_plain hd) Z O I D dI hg) λr s' hq=>?_);let⟨rfl,h2,h3,h4⟩:=hq;show⟨.inl ⟨.bool true,.bool true,[],rL,λ_=>rfl,.bool true,abq l _,λ_=>⟨List.Pairwise.nil,λ_ hm=>(nomatch hm)⟩⟩,h2,h3,h4⟩
end Att
namespace L2
open PySem PySem.Spec PyProof.Rows
theorem P_:∀{vs:List Value} {ns:List Int},IntsAre vs ns->Vals (ns.map V.int) vs
 | _,_,.nil=>.nil
 | _,_,.cons n t h=>.cons ⟨t,rL⟩ (P_ h)
def Only (H:Hp):Prop:=∀b,H b=none\/∃o xs,H b=some (.qG o (.lst xs))
def adA {K:W.Frag}{j:Shared}{vs:List Value}(KX:K.In j.heap)(Y:j.heap.Ns mainGlobals mg)(hb:j.heap.Ns builtinsNs mb)(hbb:∀x:Str,x≠"__name__"->mb x=bootBuiltins x)(O:j.heap.NoLimit)(hg:j.gens=#[])(ha:j.heap.get? a=some {cls:=.type "list",data:=.seq vs.toArray})(hi:IntsAre vs ns)(hl:ns.length<=sizeLine)(hr:fZ k callerA)(F:∀base:Heap,K.In base->base.Ns mainGlobals mg->cj P w K mg base CX k fa fd [x] sp)(I:∀(s:Shared) (u:Value),BindsTo s fd ⟨[u],[]⟩ [(x,u)])(hsp:∀H:Hp,Only H->bJ K H a (ns.map V.int)->sp [.ref a] H (λv _=>v=.bl true) λ_ _ _=>False)(hCX:∀H e s',CX [] H j (λ_ _ _=>False) e s'->False):codeAny (model P w) callerA (.call (.ref fa) ⟨[.ref a],[]⟩) (λr s'=>r=.ok (.ret (.bool true))/\OldK j.heap s'.heap/\s'.os=j.os/\AllBare s'.gens) j:=by
 let rv:=P_ hi;let Z:=hi.length;let G:∀H:Hp,Only H->bJ K H a (ns.map V.int)->lD P w H j.heap->(∀b,H b≠none->b=a)->(H a≠none->K.lookup a=none)->
   codeAny (model P w) callerA (.call (.ref fa) ⟨[.ref a],[]⟩) (λr s'=>r=.ok (.ret (.bool true))/\OldK j.heap s'.heap/\s'.os=j.os/\AllBare s'.gens) j:=by
  intro H hO hS hok hA hK;let Xx:∀{b:Addr} {o:Obj},j.heap.get? b=some o->H b=none->(Bp j.heap H).get? b=some o:=λe n=>ac7 e n;let noA:∀{b:Addr} {o:Obj} {es:Array DictEntry} {ep:Nat},j.heap.get? b=some o->o.data=.dict es ep->H b=none:=λ{b o es ep} e d=>by
   cases q:H b with| none=>rfl| some u=>have e':b=a:=hA b (by rw[q];simp);subst e';rw[ha]at e;cases e;let d':Data.seq vs.toArray _=Data.dict es ep:=d;cases d'
  let D:∀{b:Addr} {m:Str->Option Value},j.heap.Ns b m->(Bp j.heap H).Ns b m:=λ{b m} ⟨o,es,ep,e,d,r⟩=>⟨o,es,ep,Xx e (noA e d),d,r⟩
  let J:K.In (Bp j.heap H):=λb o e=>Xx (KX b o e) (by
   cases q:H b with
   | none=>rfl
   | some u=>have e':b=a:=hA b (by rw[q];simp);subst e';rw[hK (by rw[q];simp)]at e;cases e)
  let hM:Mod K mg (Bp j.heap H):=⟨J,D Y,⟨mb,D hb,hbb⟩,let ⟨mc,h1,h2⟩:=O;⟨mc,D h1,h2⟩⟩
  let e0:Ja P w K mg (Bp j.heap H) callerA [] j H:=⟨rL,hM,λb o e=>afD e,iF (aaZ _ _),trivial,λb hb=>absurd (show b∈([]:List Addr) from hb) qa,hok,.of_eq hg⟩
  calc iL ((F _ J (D Y)).run callerA [] j H ⟨[.ref a],[]⟩ [.ref a] [.ref a] _ _ hr e0 (I j (.ref a)) (.cons rL .nil) (hsp H hO hS)) λr s' h=>?_;cases r with
  | error e=>show(hCX H e s' h).elim
  | ok fl=>
   cases fl with
   | next=>show False.elim h
   | brk=>show False.elim h
   | cont=>show False.elim h
   | ret u=>
    let⟨v,H',os,bare,un,hok',r',q⟩:=h;let q':v=.bl true:=q;subst q';obtain rfl:u=Value.bool true:=r';calc⟨rL,OldK.of_keep λb o e=>?_,os,bare⟩;cases q:H b with
    | none=>show un.keep b o e q (by intro z;show absurd (show b∈([]:List Addr) from z) qa) qa
    | some u=>
     rcases hO b with z|⟨ob,xs,z⟩;.rw[q]at z;cases z
     .let z2:=un.qz b ob _ z;let⟨e1,_⟩:=hok b _ z;let⟨e2,_⟩:=hok' b _ z2;rw[e]at e1;cases e1;show e2
 cases hk:K.lookup a with
 | some o=>have e:=KX a o hk;rw[ha]at e;cases e;refine G (λ_=>none) (λ_=>.inl rL) (.inr ⟨_,vs.toArray,_,hk,rL,rL,rL,by rw[bc,Z];show hl,by simpa using rv⟩) (λb u z=>by let z':(none:Option HO)=some u:=z;cases z') (λb z=>absurd rL z) λz=>absurd rL z
 | none=>
  refine G (λb=>if b=a then some (.qG {cls:=.type "list",data:=.seq vs.toArray} (.lst (ns.map V.int))) else none) (λb=>?_) (.inl (.inr ⟨{cls:=.type "list",data:=.seq vs.toArray},if_pos rL⟩)) (λb u z=>?_) (λb z=>?_) λ_=>hk
  .by_cases hb:b=a;.show .inr ⟨_,_,if_pos hb⟩
   .show .inl (if_neg hb)
  .by_cases hb:b=a
   .let z':=(if_pos hb).symm.trans z;cases z';subst hb;show⟨ha,by rw[aa];show hl,vs,_,rv,ha⟩
   .let z':=(if_neg hb).symm.trans z;cases z'
  .by_cases hb:b=a;.show hb
   .show absurd (if_neg hb) z
abbrev KOf {K:W.Frag}{h:Heap}(_:K.In h):W.Frag:=K
def afZ {l:W.OpenLaw}{n k:Nat}{D:List Str}{XP:(Str->Option Value)->Heap->Prop}{YP:World->Heap->Prop}{d:DefRec}{K:Params->W.Frag}{CX:World->u_}{sp:World->Sp}{x:Str}(hn:l.most=some n)(O:n<=sizeLine)(hdf:d.params.defaults=[])(hr:fZ k callerA)(hY:∀(w:World) (h:Heap),YP w h->(K w.params).In h)(F:∀(w:World) (mg:Str->Option Value) (J:Addr) (h:Heap),(K w.params).In h->h.Ns mainGlobals mg->mg d.name=some (.ref J)->
   ∃fd:FuncData,(∀(s:Shared) (u:Value),BindsTo s fd ⟨[u],[]⟩ [(x,u)])/\
    ∀base:Heap,(K w.params).In base->base.Ns mainGlobals mg->cj l.prog w (K w.params) mg base (CX w) k J fd [x] (sp w))
  (hsp:∀(w:World) (H:Hp) (a:Addr) (ns:List Int),ns.length<=n->Only H->bJ (K w.params) H a (ns.map V.int)->sp w [.ref a] H (λv _=>v=.bl true) λ_ _ _=>False)
  (hCX:∀(w:World) (H:Hp) (s:Shared) (e:Value) (s':Shared),CX w [] H s (λ_ _ _=>False) e s'->False) :
  W.WalkO q D XP YP l.row.toRowW d [] (λf vs=>PySem.call f vs):=by
 calc Att.Ww hn hdf λw s₀ s₁ mg mb J o pm cd doc a vs ns G Y ho hd hcd Z I j dI hg=>?_;let KX:=hY w _ Y;let⟨fd,hb,hF⟩:=F w mg J _ KX G.T.g Z;show adA KX G.T.g G.T.b G.T.builtins G.T.nolimit hg I j (bE dI O) hr hF hb (λH hO hS=>hsp w H a ns dI hO hS) λH e s'=>hCX w H s₁ e s'
def inClass (s:Stmt)(j:Nat):Stmt:=match s with| .ClassDef _ _ _ body _ _ _ _ _ _ _=>body.getD j (.Pass ⟨0,0,0,0⟩)| _=>.Pass ⟨0,0,0,0⟩
noncomputable def dJ (s:Stmt):Arguments:=match s with| .FunctionDef _ a _ _ _ _ _ _ _ _=>a| _=>{posonlyargs:=[],args:=[],vararg:=none,kwonlyargs:=[],kw_defaults:=[],kwarg:=none,defaults:=[]}
def cX (s:Stmt):List Stmt:=match s with| .FunctionDef _ _ b _ _ _ _ _ _ _=>b| _=>[]
noncomputable def aJ (s:Stmt):Scope:=match s with| .FunctionDef _ _ _ _ _ _ sc _ _ _=>sc| _=>{kind:=.function,names:=[],isGenerator:=false,isCoroutine:=false}
abbrev dN:u_:=λ_ _ _ _ _ _=>False
abbrev E0:XK:=λ_ _ _=>False
def eY:Passes dN X E0:=λ_ _ _ _ _ _ _ h=>h.elim
structure fG (K:W.Frag)(x qual:Str)(st:Stmt)(f:Addr)(fd:FuncData):Prop where
 ex:∃(oc:Value) (od:Option Addr) (kV doc pm:Value) (an:Option Addr) (bO ct:Value) (osl:Array (Option Value)),
  fd=W.fnOf x qual (dJ st) (cX st) (aJ st) .none kV doc pm an bO ct/\K.lookup f=some ⟨oc,od,.func fd,osl⟩/\W.codeIn K bO qual=true
 kp:W.keepIn K (.ref f)=true
section
variable {P:Program}{w:World}{K:W.Frag}{mg:Str->Option Value}{base:Heap}
def fG.ok {x qual:Str}{st:Stmt}{N ps:List Str}{k:Nat}{sp:Sp}(F:fG K x qual st f fd)(S:bB N ps (aJ st))(len:∀vs H Q E,sp vs H Q E->vs.length=ps.length)(j:∀(bO:Value) (A:Around) (outer:List Env) (s:Shared) (H:Hp) (vs:List V) (Q:VK) (E:XK),fZ k (A.deeper (envOfC qual (aJ st) s.heap.objs.size f bO))->sp vs H Q E->
   ∃t,vX (t_ dN P w K mg base N qual (aJ st) f bO A outer s H E).Sd (cX st) t/\t {nx:=λ_ H'=>Q .non H',rt:=Q} (start N vs) H):cj P w K mg base dN (k+1) f fd ps sp:=by
 let⟨oc,od,kV,doc,pm,an,bO,ct,osl,rfl,lk,D⟩:=F.ex;calc afg lk D S len λA outer s H vs Q E I G=>?_;let⟨t,h,q⟩:=j bO A outer s H vs Q E I G;show⟨t,h.Sd,q⟩
def fG.binds {x qual:Str}{st:Stmt}{ps:List Str}(F:fG K x qual st f fd)(h:∀(kV doc pm:Value) (an:Option Addr) (bO ct:Value) (us:List Value),us.length=ps.length->bindArgs (W.fnOf x qual (dJ st) (cX st) (aJ st) .none kV doc pm an bO ct) ⟨us,[]⟩=pure (ps.zip us)):bT K fd ps []:=by let⟨oc,od,kV,doc,pm,an,bO,ct,osl,rfl,lk,j⟩:=F.ex;show .all (h kV doc pm an bO ct)
def gF {x qual:Str}{st:Stmt}{f:Addr}{oc:Value}{od an:Option Addr}{osl:Array (Option Value)}{kV doc pm bO ct:Value}(l:K.lookup f=some ⟨oc,od,.func (W.fnOf x qual (dJ st) (cX st) (aJ st) .none kV doc pm an bO ct),osl⟩)(c:W.codeIn K bO qual=true)(k:W.keepIn K (.ref f)=true):fG K x qual st f (W.fnOf x qual (dJ st) (cX st) (aJ st) .none kV doc pm an bO ct):=⟨⟨oc,od,kV,doc,pm,an,bO,ct,osl,rL,l,c⟩,k⟩
end
def RJ (j:fZ k A):A.units+1<cLine:=jp (Nat.add_le_add_left (by decide:1<=64) _) j.units
def aM (h:n<=1000):n<sizeLine:=jp h qc
section
variable {X:Cx}
def pv (i:Nat){x:Str}{pos:Pos}(F:X.N[i]?=some x:=by rfl)(D:Xl X.env.scope x:=by first|show Or.inl rfl|show Or.inr (Or.inl rL)|show Or.inr (Or.inr rL))(hd:(x==("__debug__":Str))=false:=by decide)(j:(x==("__classdict__":Str))=false:=by decide):PE X (.Name x pos) (Zj i):=ahu F D hd j
end
def bR {A B:Prop}(h:B):if false=true then A else B:=by rw[if_neg bP];show h
def cA {A B:Prop}(h:A):if true=true then A else B:=by rw[if_pos rfl];show h
def jP {c A B:Prop} [Decidable c] (h1:c->A)(h2:¬c->B):if c then A else B:=by
 by_cases h:c
 .rw[if_pos h];show h1 h
 .rw[if_neg h];show h2 h
def RK {c A B:Prop} [Decidable c] (j:c)(h:B):if (!decide c)=true then A else B:=by rw[ai j];show bR h
def aD (H H':Hp):Prop:=∀b o,H b=some o->H' b=some o
def aD.refl (H):aD H H:=λ_ _ h=>h
def aD.trans (a:aD H H1)(b:aD H1 H2):aD H H2:=λc o h=>b c o (a c o h)
def aD.free (e:aD H H')(h:H' l=Option.none):H l=Option.none:=by
 cases q:H l with| none=>rfl| some o=>rw[e l o q]at h;cases h
def aD.seq {K:W.Frag}{xs:List V}(e:aD H H')(h:bJ K H a xs):bJ K H' a xs:=by
 rcases h with(h|⟨o,h⟩)|h;.show .inl (.inl (e _ _ h))
 .show .inl (.inr ⟨o,e _ _ h⟩)
 .show .inr h
section
variable {X:Cx}
def abr:jc X (.builtin "len") (λxs H Q=>∃a kvs,xs=[V.ref a]/\H a=some (.dK kvs)/\Q (.int kvs.length) H):=by intro ao s σ H xs us Q I r h;let⟨a,kvs,rfl,ha,q⟩:=h;let⟨u,rfl,D⟩:=vals1 r;cases D;show ake I (.inl ha) λt s' j=>⟨.int kvs.length,H,j,⟨t,rL⟩,q⟩
end
section
variable {κ:Type}[DecidableEq κ]
theorem Xy:∀{l:List κ} {k:κ},l.Nodup->¬k∈l->(l++[k]).Nodup
 | [],k,_,_=>by simp
 | a::r,k,h,hk=>by
  let⟨h1,h2⟩:=ic.mp h;show (a::(r++[k])).Nodup;calc ic.mpr ⟨λm=>?_,Xy h2 λm=>hk (bX.mpr (Or.inr m))⟩;rcases bq.mp m with q|q;.show h1 q
  .show hk (bX.mpr (Or.inl (a_.mp q).symm))
end
noncomputable def blk (X:Cx)(scope:Scope)(cl:List (Str×Addr))(C:Addr)(x:Str)(s₀:Shared)(H₀:Hp)(fp:List Addr):Cx:={X with N:=x::X.N,s₀:=s₀,H₀:=H₀,env:=compEnvC scope cl C X.env,outer:=X.stack,ex:=fp,fn:=λ_=>false,pn:=[],xe:=λ_ _=>False}
structure jz (X:Cx)(scope:Scope)(x:Str):Prop where
 kind:scope.kind=.function
 Kz:∀y∈scope.names,y.2≠.cell
 names:∀y∈scope.names,y.2=.local->scope.names.lookup y.1=some .local
 hx:scope.names.lookup x=some .local
 free:∀y∈scope.names,y.2=.free->X.env.kindOf y.1=some .cell\/X.env.kindOf y.1=some .free
 out:∀y∈X.N,scope.names.lookup y≠some .local
 nd:X.N.Nodup
noncomputable def Xz (sc:Scope)(N:List Str)(scope:Scope)(x:Str):Bool:=scope.kind == .function&&scope.names.all (λy=>y.2 != .cell)&&scope.names.all (λy=>y.2 != .local||scope.names.lookup y.1==some .local)&&scope.names.lookup x==some .local &&
 scope.names.all (λy=>y.2 != .free||sc.names.lookup y.1==some .cell||sc.names.lookup y.1==some .free)&&N.all (λy=>scope.names.lookup y != some .local)
def jz.of {X:Cx}(D:X.N.Nodup)(h:Xz X.env.scope X.N scope x=true):jz X scope x:=by
 unfold Xz at h;simp only[cp,fk,pk,bne_iff_ne,beq_iff_eq,ne_eq]at h;obtain⟨⟨⟨⟨⟨h1,h2⟩,h3⟩,h4⟩,h5⟩,j⟩:=h;calc⟨h1,λy hy=>h2 y hy,λy hy e=>(h3 y hy).resolve_left λz=>z e,h4,λy hy e=>?_,λy hy=>j y hy,D⟩;rcases h5 y hy with(z|z)|z;.show absurd e z
 .show .inl z
 .show .inr z
theorem mV {α:Type}:∀{l:List (Str×α)} {x:Str} {a:α},l.lookup x=some a->(x,a)∈l
 | [],_,_,h=>by simp at h
 | (y,b)::r,x,a,h=>by
  rw[gd]at h;split at h
  .rename_i e;let j:x=y:=by simpa using e
   cases h;subst j;show cq
  .show bz _ (mV h)
theorem Bs {env:Env}:∀(names:List (Str×NameKind)),(∀y∈names,y.2=.free->∃c,env.cells.lookup y.1=some c)->∀j:List (Str×Addr),(∀n c,j.lookup n=some c->env.cells.lookup n=some c)->
  ∃cl,(forIn names j (λ(p:Str×NameKind) (cs:List (Str×Addr))=>if (p.2==NameKind.free)=true then (do let a <- cellOf env p.1;pure (ForInStep.yield ((p.1,a)::cs))) else (pure (ForInStep.yield cs):Sem _)):Sem (List (Str×Addr)))=pure cl/\
   (∀n c,cl.lookup n=some c->env.cells.lookup n=some c)/\(∀n,(∃c,j.lookup n=some c)->∃c,cl.lookup n=some c)/\∀n,(n,NameKind.free)∈names->∃c,cl.lookup n=some c
 | [],_,j,ha=>⟨j,qa,ha,λ_ h=>h,λ_ h=>by simp at h⟩
 | (n,k)::r,hf,j,ha=>by
  let O:∀y∈r,y.2=.free->∃c,env.cells.lookup y.1=some c:=λy hy=>hf y (bz _ hy);by_cases I:k=.free
  .subst I;let⟨c,J⟩:=hf (n,.free) cq rfl;let⟨cl,e,h1,h2,h3⟩:=Bs r O ((n,c)::j) (λD G h=>by
    rw[gd]at h;split at h
    .rename_i q;let Y:D=n:=by simpa using q
     cases h;subst Y;show J
    .show ha D G h)
   refine⟨cl,?_,h1,λD h=>h2 D ?_,λD h=>?_⟩
   .rw[gr];simp only[beq_self_eq_true,if_true];let e2:cellOf env n=pure c:=by unfold cellOf;rw[J]
    rw[e2];simp only[pure_bind];show e
   .let⟨G,F⟩:=h;rw[gd];split;.show⟨c,rL⟩
    .show⟨G,F⟩
   .rcases bX.mp h with q|q
    .calc h2 D ⟨c,?_⟩;cases q;rw[gd,beq_self_eq_true]
    .show h3 D q
  .let hb:(k==NameKind.free)=false:=by simpa using I
   let⟨cl,e,h1,h2,h3⟩:=Bs r O j ha;refine⟨cl,?_,h1,h2,λD h=>?_⟩
   .rw[gr];simp only[hb,fF,if_false,pure_bind];show e
   .rcases bX.mp h with q|q;.cases q;show absurd rL I
    .show h3 D q
theorem lg {env:Env}:∀{names:List (Str×NameKind)} {x:Str} {k:NameKind},
  (names.map λ(n,k)=>if (k==NameKind.free&&env.scope.kind == .function&&env.kindOf n==some .cell) then (n,NameKind.cell) else (n,k)).lookup x=some k->names.lookup x=some k\/(k=.cell/\names.lookup x=some .free)
 | [],_,_,h=>by simp at h
 | (n,j)::r,x,k,h=>by
  let F:=@lg env r x k;let h':List.lookup x ((if (j==NameKind.free&&env.scope.kind == .function&&env.kindOf n==some .cell)=true then (n,NameKind.cell) else (n,j))::_)=some k:=h;by_cases D:(j==NameKind.free&&env.scope.kind == .function&&env.kindOf n==some .cell)=true
  .rw[if_pos D]at h';cases hx:x==n with
   | true=>
    simp only[gd,hx]at h' ⊢;cases h';have:j=.free:=by simp at D;show D.1.1
    show .inr ⟨rL,by rw[this]⟩
   | false=>simp only[gd,hx]at h' ⊢;show F h'
  .rw[if_neg D]at h';cases hx:x==n with| true=>simp only[gd,hx]at h' ⊢;show .inl h'| false=>simp only[gd,hx]at h' ⊢;show F h'
def ZP (I:Nat->Shared->Prop)(turn:∀n s,I n s->wpAny (model prog w) A (pyNext it) (λr D=>match r with
   | none=>R (.ok .next) D
   | some v=>wpAny (model prog w) A (letOwnedTupleGo target it v) (λ_ s₀=>wpAny (model prog w) A (assign target env v) (λ_ J=>
     wpAny (model prog w) A (forIn ifs true λc r=>if r=true then do let ok <- isTrue c env (eval c env);pure (ForInStep.yield ok) else pure (ForInStep.yield r)) (λok j=>
      if ok=true then wpAny (model prog w) A (eval elt env) (λx G=>wpAny (model prog w) A (call (.builtin "list.append") [acc,x]) (λ_ Y=>∃m,m<n/\I m Y) (λ_ _=>False) G) (λ_ _=>False) j
      else ∃m,m<n/\I m j) (λ_ _=>False) J) (λ_ _=>False) s₀) (λ_ _=>False) D) (λ_ _=>False) s)
  (n) (h:I n s) :
  codeAny (model prog w) A (.compLoop (.ListComp elt [⟨target,iter,ifs,0⟩] scope pos) 0 it acc env) R s:=by
 calc codeAny_loop rL I (λn s hI=>?_) n h;show wpAny _ A ((compTurn (.ListComp elt [⟨target,iter,ifs,0⟩] scope pos) 0 it acc env).onRaise (λx=>do noteFrame x env;theTreesLotGoes x)) _ _ s;calc wpAny_noted ?_;rw[compTurn_list];calc ae (md (ae (eI (turn n s hI) (λr D O=>?_) λ_ _ h'=>h'.elim)));cases r with
 | none=>show aw O
 | some v=>
  calc ae (eI O (λ_ s₀ h₀=>?_) λ_ _ h'=>h'.elim);calc ae (eI h₀ (λ_ J Z=>ae (eI Z (λok j F=>?_) λ_ _ h'=>h'.elim)) λ_ _ h'=>h'.elim);cases ok with| false=>show aw ⟨rL,F⟩| true=>show ae (ae (eI F (λx G h₄=>ae (eI h₄ (λ_ Y h₅=>aw (aw ⟨rL,h₅⟩)) λ_ _ h'=>h'.elim)) λ_ _ h'=>h'.elim))
def XC (X:Cx)(ifs:List Expr)(t:TT):Prop:=∀(ao:AH) (s:Shared) (σ:St) (H:Hp) (Q:Bool->Hp->Prop),aV X ao σ H s->t σ H Q->
  wpAny (model X.prog X.w) X.A (forIn ifs true λc r=>if r=true then do let ok <- isTrue c X.env (eval c X.env);pure (ForInStep.yield ok) else pure (ForInStep.yield r)) (TP X ao σ Q) X.xe s
def mW:TT:=λ_ H Q=>Q true H
def af0:XC X [] mW:=λ_ _ _ H _ I h=>wpAny_tests_nil ⟨H,I,h⟩
def iW (n i:Nat)(P:Prop):Prop:=∃j,j<n-i/\j=n-(i+1)/\i+1<=n/\P
abbrev Nf (n i:Nat)(D:Addr)(ys:List V)(P:List V->Hp->Prop)(y:V)(H3:Hp):Prop:=H3 D=some (.lst ys)/\ys.length<sizeLine/\iW n i (P (ys++[y]) (upd H3 D (.lst (ys++[y]))))
abbrev Ec (J:It)(D:Addr)(H:Hp)(R:Hp->Prop)(B:V->Hp->VK->(Hp->Prop)->Prop):Prop:=∃W:Nat->Nat->List V->Hp->Prop,(∃m,W 0 m [] (upd H D (.lst [])))/\
 ∀i m ys H,W i m ys H->(J.stop i H/\R H)\/(J.go i H/\∀x H',J.Ko i H x H'->B x H' (λy H3=>H3 D=some (.lst ys)/\ys.length<sizeLine/\∃m',m'<m/\W (i+1) m' (ys++[y]) (upd H3 D (.lst (ys++[y])))) λH2=>∃m',m'<m/\W (i+1) m' ys H2)
def adB {J:It}{D:Addr}{H:Hp}{R:Hp->Prop}{B:V->Hp->VK->(Hp->Prop)->Prop}(n:Nat)(j:Nat->List V->Hp->Prop)(h0:j 0 [] (upd H D (.lst [])))(O:∀i ys H,i<n->j i ys H->J.go i H/\∀x H',J.Ko i H x H'->B x H' (Nf n i D ys (j (i+1))) λI=>iW n i (j (i+1) ys I))(G:∀ys H,j n ys H->J.stop n H/\R H):Ec J D H R B:=by
 calc⟨λi m ys H=>m=n-i/\i<=n/\j i ys H,⟨n,qa,eQ _,h0⟩,?_⟩;intro i m ys H z;let⟨rfl,hi,p⟩:=z;by_cases F:i<n;.show .inr (O i ys H F p)
 .let e:i=n:=p_;subst e;show .inl (G ys H p)
def RL {F:Hp->List V->Prop}{B:V->Hp->VK->(Hp->Prop)->Prop}{xs:List V}{D:Addr}{H:Hp}{R:Hp->Prop}(j:Nat->List V->Hp->Prop)(h0:j 0 [] (upd H D (.lst [])))(hl:∀i ys H,i<=xs.length->j i ys H->F H xs)(hs:∀i x ys H,xs[i]?=some x->j i ys H->B x H (Nf xs.length i D ys (j (i+1))) λG=>iW xs.length i (j (i+1) ys G))(hd:∀ys H,j xs.length ys H->R H):Ec (ItS F) D H R B:=adB xs.length j h0 (λi ys H h p=>⟨⟨xs,xs[i],hl i ys H (am h) p,by simp[h]⟩,λx H' ⟨e,y⟩=>by subst e;show hs i x ys _ (y xs (hl i ys _ (am h) p)) p⟩) λys H p=>⟨⟨xs,hl _ ys H (al _) p,al _⟩,hd ys H p⟩
abbrev ZQ (σ:St)(tt:TT)(te:TE)(x:V)(H:Hp)(k:VK)(l:Hp->Prop):Prop:=tt (some x::σ) H λb H2=>if b=true then te (some x::σ) H2 k else l H2
def afk (wi:TI)(tt:TT)(te:TE):TE:=λσ H Q=>wi σ H λJ H1=>∀D,H1 D=none->Ec J D H1 (Q (.ref D)) (ZQ σ tt te)
noncomputable def iw (X:Cx)(scope:Scope)(cl:List (Str×Addr))(C:Addr)(N:List Str)(s₀:Shared)(H₀:Hp)(fp:List Addr):Cx:={X with N:=N,s₀:=s₀,H₀:=H₀,env:=compEnvC scope cl C X.env,outer:=X.stack,ex:=fp,fn:=λ_=>false,pn:=[],xe:=λ_ _=>False}
structure jX (X:Cx)(scope:Scope)(ns N2:List Str)(f:St->St):Prop where
 kind:scope.kind=.function
 Kz:∀y∈scope.names,y.2≠.cell
 names:∀y∈scope.names,y.2=.local->scope.names.lookup y.1=some .local
 free:∀y∈scope.names,y.2=.free->X.env.kindOf y.1=some .cell\/X.env.kindOf y.1=some .free
 ak2:∀σ:St,(f σ).length=σ.length
 ak3:N2.length=X.N.length
 out:∀(σ:St) (i:Nat) (y:Str) (v:V),N2[i]?=some y->(f σ)[i]?=some (some v)->X.N[i]?=some y/\σ[i]?=some (some v)/\scope.names.lookup y≠some .local
def Qa (X:Cx)(tg:Expr)(k:Nat)(TP:V->Hp->(St->Prop)->Prop):Prop:=∀(ao:AH) (s:Shared) (pre rest:St) (H:Hp) (v:V) (u:Value) (Q:St->Prop),pre.length=k->aV X ao (pre++rest) H s->cR v u->TP v H Q->
  wpAny (model X.prog X.w) X.A (assign tg X.env u) (λ_ s'=>∃j,j.length=k/\aV X ao (j++rest) H s'/\Q j) (λ_ _=>False) s
def TgB (TP:V->Hp->(St->Prop)->Prop)(f:St->St)(σ:St)(tt:TT)(te:TE)(x:V)(H:Hp)(k:VK)(l:Hp->Prop):Prop:=TP x H λpre=>tt (pre++f σ) H λb j=>if b=true then te (pre++f σ) j k else l j
def Ed (f:St->St)(k:Nat)(wi:TI)(TP:V->Hp->(St->Prop)->Prop)(tt:TT)(te:TE):TE:=λσ H Q=>wi σ H λJ H1=>∀D,H1 D=none->Ec J D H1 (Q (.ref D)) (TgB TP f σ tt te)
def Ef {X:Cx}{elt iter tg:Expr}{ns N2:List Str}{f:St->St}{TP:V->Hp->(St->Prop)->Prop}{ifs:List Expr}{scope:Scope}{pos:Pos}{wi:TI}{tt:TT}{te:TE}(hc:X.calm=true)(ok:jX X scope ns N2 f)(hi:PI X tg iter wi)(hg:∀cl C s₀ H₀ fp,Qa (iw X scope cl C (ns++N2) s₀ H₀ fp) tg ns.length TP)(ht:∀cl C s₀ H₀ fp,XC (iw X scope cl C (ns++N2) s₀ H₀ fp) ifs tt)(he:∀cl C s₀ H₀ fp,PE (iw X scope cl C (ns++N2) s₀ H₀ fp) elt te)(hs:∀x,foldedSetIterable iter X.env x=pure x:=by intro _;rfl){use:Option (Value->Sem Unit)}{RR:AF}{p1:Pos}{ao:AH}{s:Shared}{σ:St}{H:Hp}{Q:V->Hp->Prop}(I:aV X ao σ H s)(h:Ed f ns.length wi TP tt te σ H Q)(fin:∀(D C:Addr) (H4:Hp) (s5:Shared) (m:Str->Option Value),s5.heap.Ns C m->(∀h',Heap.SameBut C s5.heap h'->aV X ao σ H4 {s5 with heap:=h' })->vM X ao H4 C->Q (.ref D) H4->compPost (model X.prog X.w) X.A X.xe use RR (.ref D) C (.ok .next) s5):wpAny (model X.prog X.w) X.A (comprehension (.ListComp elt [⟨tg,iter,ifs,0⟩] scope pos) scope X.env p1 (newList []) false (eval iter X.env) use) RR X.xe s:=by
 let⟨cl,hcl,j,_,hall⟩:=Bs (env:=X.env) scope.names (λy hy e=>I.ok.has y.1 (ok.free y hy e)) [] (λ_ _ z=>by simp at z);let hclos:closureFor scope X.env=pure cl:=by unfold closureFor;simp only[bind_pure];show hcl
 calc wpAny_comprehension_free (use:=use) (E:=X.xe) (cl:=cl) rL hs hclos ok.kind ok.names (cH (hi ao s σ H _ I h) λv s1 h1=>cH h1 λitv s2 h2=>?_);let⟨it,fp,tn,J,H2,e,I2,T,st2,f2,R⟩:=h2;subst e;obtain⟨W,⟨m0,w0⟩,turn⟩:=R s2.heap.objs.size I2.fresh;calc gu (wpAny_newFunctionEnv ok.Kz (by intro y hy;simp at hy) (λh₁ hns₁ hsb₁=>?_) ok.kind);dsimp only at hns₁ hsb₁ ⊢;let F:aV X ao σ (upd H2 s2.heap.objs.size (.lst [])) {s2 with heap:=s2.heap.push {cls:=.type "list",data:=.seq ([]:List Value).toArray} }:=I2.adu (t':=s2.toks) (ys:=[]) (its:=[]) .nil (eQ _);generalize hH3:upd H2 s2.heap.objs.size (HO.lst [])=H3 at *
 generalize hs3:s2.heap.push {cls:=.type "list",data:=.seq ([]:List Value).toArray}=hp3 at *
 generalize hD:s2.heap.objs.size=D at *
 generalize hC:hp3.objs.size=C at *
 let hDC:D<C:=by rw[<-hC,<-hs3,fe,hD];show gL _
 let Y:∀b o,hp3.get? b=some o->h₁.get? b=some o:=λb o e=>(hsb₁.2 b (by rw[<-hC];show cn (aI e))).trans (af _ e);let fpl:∀b∈fp,b<C:=λb hb=>by let⟨o,e,_⟩:=T.obj _ _ st2 b hb;rw[<-hC,<-hs3,fe];show lx (aI e)
 let f3:∀b∈fp,vM X ao H3 b:=λb hb=>by let⟨o,e,_⟩:=T.obj _ _ st2 b hb;calc⟨?_,(f2 b hb).2⟩;rw[<-hH3,aZ (by rw[<-hD];show cn (aI e))];show(f2 b hb).1
 let aik:∀b∈fp,b∉frs X.stack:=λb hb z=>by
  let⟨_,g1,g2,_⟩:=f3 b hb;rcases bX.mp (F.Km b z) with q|q;.show g1 q
  .show g2 q
 let YOk:(iw X scope cl C (ns++N2) {s2 with heap:=hp3} H3 fp).Ok:=by
  calc⟨I.ok.mod,?_,I.ok.glob,I.ok.blt,iF hC,?_,?_,?_,I.ok.hd,I.ok.frames,.inl rL,?_,?_,?_,?_,?_,?_,?_⟩;.show ok.kind
  .show λa b c h1 h2=>I.ok.inj a b c (j a c h1) (j b c h2)
  .intro a ha;calc hall a ?_;rcases ha with z|z
   .rcases lg (env:=X.env) z with q|⟨_,q⟩;.show absurd rL (ok.Kz _ (mV q))
    .show mV q
   .rcases lg (env:=X.env) z with q|⟨q,_⟩;.show mV q
    .cases q
  .intro a c hf;cases hf
  .intro b hb;refine⟨cn (fpl b hb),λa c h1=>(f3 b hb).2.2.2.2.1 a c (j a c h1)⟩
  .show F.bs
  .show bE I.ok.Ds F.sz
  .intro b o e hb;rcases(f3 b hb).2.2.2.1 with z|z;.show I.ok.DR b o e z
   .show absurd (cK (aI e) (bE I.ok.Ds z)) (fm _)
  .show aik
  .show F.stack
  .show F.Af
 let Y0:aV (iw X scope cl C (ns++N2) {s2 with heap:=hp3} H3 fp) [] (List.replicate ns.length none++f σ) H3 {s2 with heap:=h₁,toks:=s2.toks+([]:List (Str×Value)).length}:=by
  refine⟨YOk,rL,F.bare,Un.kept Y,⟨_,hns₁,?_⟩,?_,?_,?_,λp hp=>by simp[iw]at hp,F.hok.kept Y,?_⟩
  .intro i y v e1 e2 e3;by_cases fJ:i<ns.length
   .rw[di (by rw[ce];show fJ),List.getElem?_replicate,if_pos fJ]at e2;simp at e2
   .obtain⟨i,rfl⟩:∃k,i=ns.length+k:=⟨i-ns.length,by simp_all⟩
    let e1a:(ns++N2)[ns.length+i]?=some y:=e1;rw[df p_,lv]at e1a;rw[df (by rw[ce];lia),ce,lv]at e2;let⟨e1',e2',hout⟩:=ok.out σ i y v e1a e2;let Z:(y,NameKind.free)∈scope.names:=by
     let key:∀k,(relabel scope X.env).names.lookup y=some k->k≠.local->k=.cell\/k=.free->(y,NameKind.free)∈scope.names:=λk q n hk=>by
      rcases lg (env:=X.env) q with z|⟨_,z⟩
      .rcases hk with rfl|rfl;.show absurd rL (ok.Kz _ (mV z))
       .show mV z
      .show mV z
     rcases e3 with z|z|z
     .rcases lg (env:=X.env) z with q|⟨q,_⟩;.show absurd q hout
      .cases q
     .show key _ z qc (.inl rL)
     .show key _ z qc (.inr rL)
    let hk:=ok.free _ Z rfl;let⟨m,hn,hl⟩:=F.loc;let⟨u,r,q⟩:=hl i y v e1' e2' (by rcases hk with z|z;show .inr (.inl z);show .inr (.inr z));refine⟨u,r,.inr ⟨?_,?_⟩⟩
    .rcases e3 with z|z|z
     .rcases lg (env:=X.env) z with q|⟨q,_⟩;.show absurd q hout
      .cases q
     .show .inl z
     .show .inr z
    .rcases q with⟨z,_⟩|⟨_,c,hc',hcell⟩
     .rcases hk with q|q <;> (rw[z]at q;cases q)
     .let⟨c',hc2⟩:=hall y Z;have:c'=c:=by have:=j y c' hc2;rw[hc']at this;show(bo this).symm
      subst this;let⟨o,ho,hd⟩:=hcell;show⟨c',hc2,o,Y _ _ ho,hd⟩
  .intro a c h1;let⟨v,o,ho,hd⟩:=F.cell a c (j a c h1);show⟨v,o,Y _ _ ho,hd⟩
  .show H3 C=none;show F.hok.fresh (iF hC)
  .show λa c h1=>F.nF a c (j a c h1)
  .show (List.replicate ns.length none++f σ).length=(ns++N2).length;rw[av,av,ce,ok.ak2,I.len,ok.ak3]
 let back:∀(s':Shared) (v:St) (H':Hp) (h':Heap),aV (iw X scope cl C (ns++N2) {s2 with heap:=hp3} H3 fp) [] v H' s'->Heap.SameBut C s'.heap h'->(∀b∈fp,H' b=none)->aV X ao σ H' {s' with heap:=h' }:=by
  intro s' v H' h' I' sb fr;let Pn:∀b o,hp3.get? b=some o->b≠C:=λb o e=>by rw[<-hC];show cn (aI e)
  let U:Un (frs X.stack) fp H3 H' hp3 s'.heap:=I'.base;refine F.call' (ch:=fp) (H':=H') (s':={s' with heap:=h' }) I'.os ⟨λb o e n h1 h2=>(sb.2 b (Pn b o e)).trans (U.keep b o e n h1 h2),λb o e n h1 h2=>?_,U.free,λb o e h2=>?_,U.tups,U.qz,U.q_⟩ (λb ob e=>?_) I'.bare λb hb=>?_
  .let⟨sl,q⟩:=U.slot b o e n h1 h2;show⟨sl,(sb.2 b (Pn b o e)).trans q⟩
  .let⟨o',q⟩:=U.there b o e h2;show⟨o',(sb.2 b (Pn b o e)).trans q⟩
  .let fC:H' C=none:=I'.free;calc(I'.hok b ob e).stay (λc w' hc q=>(sb.2 c ?_).trans q) (λ_ q=>q) λ_ _ q=>q;rintro rfl;rcases hc with rfl|hc
   .rw[fC]at e;cases e
   .rw[fC]at hc;cases hc
  .let⟨_,g1,_,g3,g4,g5⟩:=f3 b hb;show⟨g3,g1,g4,g5⟩
 let G:∀{H':Hp},(∀b∈fp,H' b=none)->∀b∈fp,vM (iw X scope cl C (ns++N2) {s2 with heap:=hp3} H3 fp) [] H' b:=λhn b hb=>⟨hn b hb,cn (fpl b hb),aik b hb,.inl hb,λa c h1=>(f3 b hb).2.2.2.2.1 a c (j a c h1),λp hp=>by simp[iw]at hp⟩
 let st₁:tn 0 h₁:=T.keep _ _ _ st2 λb _ o e=>Y b o (by rw[<-hs3];show af _ e);let loop:codeAny (model X.prog X.w) X.A (.compLoop (.ListComp elt [⟨tg,iter,ifs,0⟩] scope pos) 0 (.ref it) (.ref D) (compEnvC scope cl C X.env)) (compPost (model X.prog X.w) X.A X.xe use RR (.ref D) C)
   {s2 with heap:=h₁,toks:=s2.toks+([]:List (Str×Value)).length}:=by
  calc ZP (λn s'=>∃i v ys H',v.length=ns.length/\aV (iw X scope cl C (ns++N2) {s2 with heap:=hp3} H3 fp) [] (v++f σ) H' s'/\tn i s'.heap/\(∀b∈fp,H' b=none)/\W i n ys H') ?_ m0 ⟨0,List.replicate ns.length none,[],H3,ce,Y0,st₁,λb hb=>(f3 b hb).1,w0⟩;intro n s4 z;let⟨i,v,ys,H4,hv4,I4,st4,fr4,w4⟩:=z;rcases turn i n ys H4 w4 with⟨stop,qn⟩|⟨go,step⟩
  .refine cH (T.done (iw X scope cl C (ns++N2) {s2 with heap:=hp3} H3 fp) rL rL rL hc i [] s4 (v++f σ) H4 _ I4 (G fr4) st4 stop) λr s5 ⟨hr,I5⟩=>?_
   subst hr;let⟨m,hn,_⟩:=id I5.loc;show fin D C H4 s5 m hn (λh' sb=>back s5 (v++f σ) H4 h' I5 sb fr4) ⟨I5.free,(F.zy (H':=H3) (iF hC) (F.hok.fresh (iF hC))).2⟩ qn
  .calc cH (T.item (iw X scope cl C (ns++N2) {s2 with heap:=hp3} H3 fp) rL rL rL hc i [] s4 (v++f σ) H4 _ I4 (G fr4) st4 go) λr s5 O=>?_;let⟨u,hr,h5⟩:=O
   subst hr;calc cH h5 λ_ s6 O=>?_;let⟨y,H6,I6,r6,y6,st6,fr6⟩:=O;let I6':=I6.pinned (G fr6) (T.obj _ _ st6);calc cH (hg cl C {s2 with heap:=hp3} H3 fp _ s6 v (f σ) H6 y u _ hv4 I6' r6 (step y H6 y6)) λ_ s7 O=>?_;let⟨pre,hpre,I7',q7⟩:=O;calc cH (ht cl C {s2 with heap:=hp3} H3 fp _ s7 _ H6 _ I7' q7) λb s8 O=>?_;let⟨H8,I8,q8⟩:=O;let abt:∀{σ':St} {H':Hp} {s':Shared},aV (iw X scope cl C (ns++N2) {s2 with heap:=hp3} H3 fp) ([]++DX fp s6.heap) σ' H' s'->tn (i+1) s'.heap/\∀b∈fp,H' b=none:=λ{σ' H' s'} I9=>by calc⟨T.keep _ _ _ st6 λb hb o e=>(I9.pin (b,o) (ed _ (ed _ (wk hb e)))).1,λb hb=>?_⟩;let⟨o,e,d⟩:=T.obj _ _ st6 b hb;show(I9.pin (b,o) (ed _ (ed _ (wk hb e)))).2.1
   cases b with
   | false=>let⟨m',hm,w'⟩:=q8;let⟨k1,k2⟩:=abt I8;show⟨m',hm,i+1,pre,ys,H8,hpre,I8.xu,k1,k2,w'⟩
   | true=>have q8':te (pre++f σ) H8 _:=q8;show wpAny _ _ (eval elt _) _ _ _;calc cH (he cl C {s2 with heap:=hp3} H3 fp _ s8 _ H8 _ I8 q8') λz s9 O=>?_;let⟨zv,H9,I9,r9,hD9,hz9,m',hm,w'⟩:=O;calc cH (jy (X:=iw X scope cl C (ns++N2) {s2 with heap:=hp3} H3 fp) _ s9 _ H9 (.ref D) [zv] (.ref D) [z] (λ_ H'=>H'=upd H9 D (.lst (ys++[zv]))) I9 rL (.cons r9 .nil) ⟨D,ys,zv,rL,rL,hD9,hz9,rL⟩) λ_ s10 O=>?_;let⟨_,H10,I10,_,e10⟩:=O;subst e10;let⟨k1,k2⟩:=abt I10;show⟨m',hm,i+1,pre,ys++[zv],_,hpre,I10.xu,k1,k2,w'⟩
 show codeAny_compStart_list loop (T.self X.A 0 _ _ _ st₁ loop)
def Ng {scope:Scope}{N:List Str}(F:N.Nodup)(h0:N[0]?=some x)(hx:scope.names.lookup x=some .local):Qa (iw X scope cl C N s₀ H₀ fp) (.Name x pos) 1 (λv _ Q=>Q [some v]):=by intro ao s pre rest H v u Q hp I r q;let⟨G,rfl⟩:=List.length_eq_one_iff.mp hp;calc cH (tY (X:=iw X scope cl C N s₀ H₀ fp) (i:=0) F h0 (.inl (lookup_relabel_local hx)) (.inr (lookup_relabel_local hx)) ao s _ H v u (λσ' H'=>H'=H/\σ'=some v::rest) I r ⟨rL,rL⟩) λ_ s' D=>?_;let⟨σ',H',j,e1,e2⟩:=D;subst e1 e2;show⟨[some v],rL,j,q⟩
def af2 {X:Cx}(F:X.calm=true)(ok:jz X scope x)(hi:PI X (.Name x px) iter wi)(ht:∀cl C s₀ H₀ fp,XC (blk X scope cl C x s₀ H₀ fp) ifs tt)(O:∀cl C s₀ H₀ fp,PE (blk X scope cl C x s₀ H₀ fp) elt te)(hs:∀x,foldedSetIterable iter X.env x=pure x:=by intro _;rfl):PE X (.ListComp elt [⟨.Name x px,iter,ifs,0⟩] scope pos) (afk wi tt te):=λao s σ H Q I h=>by
 let e:∀cl C s₀ H₀ fp,iw X scope cl C ([x]++X.N) s₀ H₀ fp=blk X scope cl C x s₀ H₀ fp:=λ_ _ _ _ _=>rfl;let nd:([x]++X.N).Nodup:=ic.mpr ⟨λz=>ok.out x z ok.hx,ok.nd⟩;let G:jX X scope [x] X.N id:=⟨ok.kind,ok.Kz,ok.names,ok.free,λ_=>rfl,rL,λσ i y v e1 e2=>⟨e1,e2,ok.out y (bv e1)⟩⟩
 rw[eval_ListComp];show Ef F G hi (λcl C s₀ H₀ fp=>Ng nd rL ok.hx) (λcl C s₀ H₀ fp=>ht cl C s₀ H₀ fp) (λcl C s₀ H₀ fp=>O cl C s₀ H₀ fp) hs I h λD C j Y m hn bk _ q=>⟨m,hn,λh' J=>⟨.ref D,j,bk h' J,rL,q⟩⟩
def iW.mk {P:Prop}(h:i<n)(p:P):iW n i P:=⟨_,Nat.sub_lt_sub_left h (gL _),rL,h,p⟩
def abu {K:W.Frag}{a D:Addr}{xs:List V}{te:TE}{σ:St}{H:Hp}{R:Hp->Prop}(j:Nat->List V->Hp->Prop)(h0:j 0 [] (upd H D (.lst [])))(hl:∀i ys H,i<=xs.length->j i ys H->bJ K H a xs)(hs:∀i x ys H,xs[i]?=some x->j i ys H->te (some x::σ) H (Nf xs.length i D ys (j (i+1))))(hd:∀ys H,j xs.length ys H->R H):Ec (Itl K a) D H R (ZQ σ mW te):=RL j h0 hl hs hd
def S (l:List Nat):Str:=⟨l.toArray⟩
def afl (l):(S l).cps.toList=l:=rfl
def rP (l):(S l).length=l.length:=rfl
def yE (h:S a=S b):a=b:=congrArg (λs:Str=>s.cps.toList) h
def ail (z:Str):S z.cps.toList=z:=by cases z;rfl
def akf (a b):S a++S b=S (a++b):=by
 show (⟨a.toArray++b.toArray⟩:Str)=⟨(a++b).toArray⟩
 simp
def afm (a b):decide (V.str (S a)=V.str (S b))=decide (a=b):=by
 by_cases e:a=b;.subst e;simp
 .rw[ag e,ag];intro z;injection z with z;show e (yE z)
section
variable {X:Cx}{a b c e o:Expr}{pos:Pos}
def af3 (l){j pos}(h:x=S l):PE X (.Constant (.str x) j pos) (tC (.str (S l))):=by rw[h];show ahx
def akg:R2:=λx y H Q=>∃i j,x=.str (S i)/\y=.str (S j)/\i.length+j.length<=sizeLine/\Q (.str (S (i++j))) H
def mq:gK X (binaryOp .Add) akg:=by intro ao s σ H x y v u Q I F D h;let⟨i,j,rfl,rfl,hz,q⟩:=h;show Zv ao s σ H _ _ v u Q I F D ⟨S i,S j,rL,rL,hz,by rw[akf];show q⟩
def akh:R2:=λx y H Q=>∃l i c,x=.str (S l)/\y=.int i/\l.length<=sizeLine/\rO l i=some c/\Q (.str (S [c])) H
def Bt:Ih X akh:=by intro value j ao s σ H x y v u Q I G F h hs;let⟨l,i,c,rfl,rfl,hz,D,q⟩:=h;show ah9 value j ao s σ H _ _ v u Q I G F ⟨S l,i,c,rL,rL,hz,D,q⟩ hs
def aki:List V->Hp->VK->Prop:=λxs H Q=>∃l,xs=[.str (S l)]/\l.length<=sizeLine/\Q (.int l.length) H
def dO:jc X (.builtin "len") aki:=by intro ao s σ H xs us Q I r h;let⟨l,rfl,hz,q⟩:=h;show SM ao s σ H _ us Q I r ⟨S l,rL,hz,q⟩
def ak4:R2:=λx y H Q=>∃i j,x=.str (S i)/\y=.str (S j)/\Q (.bl (decide (i=j))) H
def jq:gK X (compareOp .Eq) ak4:=by intro ao s σ H x y v u Q I F D h;let⟨i,j,rfl,rfl,q⟩:=h;show jk ao s σ H _ _ v u Q I F D ⟨rL,by rw[afm];show q⟩
def ak5:R2:=λx y H Q=>∃i j,x=.str (S i)/\y=.str (S j)/\Q (.bl (!decide (i=j))) H
def KC:gK X (compareOp .NotEq) ak5:=by intro ao s σ H x y v u Q I F D h;let⟨i,j,rfl,rfl,q⟩:=h;show Br ao s σ H _ _ v u Q I F D ⟨rL,by rw[afm];show q⟩
def ak6:R2:=λx y H Q=>∃c l,x=.str (S [c])/\y=.str (S l)/\Q (.bl (decide (c∈l))) H
def ain:gK X (compareOp .In) ak6:=by
 intro ao s σ H x y v u Q I D j h;let⟨c,l,rfl,rfl,q⟩:=h;show aa8 ao s σ H _ _ v u Q I D j ⟨S [c],S l,rL,rL,by
  let e:=StrLaws.found_one (S l) c;rw[afl]at e;rw[show (S [c])=(⟨#[c]⟩:Str) from rL,e];show q⟩
noncomputable def iM (l:List Nat)(lo hi:Option Int):List Nat:=(l.drop (HT.dB l.length 0 lo)).take (HT.dB l.length l.length hi-HT.dB l.length 0 lo)
def XF (lo hi)(n):Builtin.Str.strSliceIndices lo hi 1 n=(List.range (HT.dB n n hi-HT.dB n 0 lo)).map (λk=>HT.dB n 0 lo+k):=by
 let D:∀(v:Int) (d:Nat),max (0:Int) (min (if v<0 then v+(n:Int) else v) (n:Int))=((HT.dB n d (some v):Nat):Int):=λv d=>by rw[<-HT.M8];split <;> grind
 let F:∀a b:Nat,sliceRange (a:Int) (b:Int) 1=(List.range (b-a)).map (λk=>a+k):=λa b=>by
  simp only[sliceRange,show ((1:Int) > 0)=True from by simp,if_true];by_cases G:(a:Int)<b
  .let e3:(((b:Int)-a+1-1)/1).toNat=b-a:=by first|simp|(simp;done)|(simp;lia)
   simp only[G,if_true,e3];calc fz λk _=>?_;lia
  .have:b-a=0:=by simp_all
   simp[G,this]
 unfold Builtin.Str.strSliceIndices;simp only[show ((1:Int) > 0)=True from by simp,if_true];cases lo with
 | none=>
  cases hi with| none=>show F 0 n| some j=>dsimp only;rw[D j n];show F 0 _
 | some i=>
  cases hi with| none=>dsimp only;rw[D i 0];show F _ n| some j=>dsimp only;rw[D i 0,D j n];show F _ _
def abv (l)(lo hi):Txt.slice (S l) lo hi=S (iM l lo hi):=by
 let G:HT.dB l.length l.length hi<=l.length:=HT.abe _ _ (al _) _;let D:((Builtin.Str.strSliceIndices lo hi 1 (S l).length).filterMap ((S l).cps[·]?))=iM l lo hi:=by
  rw[XF];let h:=StrLaws.picks l (HT.dB l.length l.length hi-HT.dB l.length 0 lo) (HT.dB l.length 0 lo);unfold iM;by_cases F:HT.dB l.length 0 lo<=HT.dB l.length l.length hi
  .let h2:=h (by simp_all);rw[rP];simpa [S] using h2
  .let e:HT.dB l.length l.length hi-HT.dB l.length 0 lo=0:=Nat.sub_eq_zero_of_le p_;rw[rP,e];simp
 unfold Txt.slice;split
 .rename_i F;let I:(Builtin.Str.strSliceIndices lo hi 1 (S l).length).length=l.length:=by
   simp at F;simpa [rP] using F
  let j:HT.dB l.length l.length hi-HT.dB l.length 0 lo=l.length:=by rw[XF,rP]at I;simpa using I
  let h0:HT.dB l.length 0 lo=0\/l.length=0:=p_;let e:iM l lo hi=l:=by
   unfold iM;rw[j];rcases h0 with z|z;.rw[z];simp
   .have:l=[]:=gv.mp z;subst this;simp
  rw[e]
 .rw[D];rfl
def ak7:V->Option Int->Option Int->Hp->VK->Prop:=λx lo hi H Q=>∃l,x=.str (S l)/\l.length<=sizeLine/\Q (.str (S (iM l lo hi))) H
def part_of {o:Option Int}(p:IsPart v o):∃l:Option (Int×Tok),v=partValue l/\l.map (·.1)=o:=by
 cases p with| none=>show⟨none,rL,rL⟩| int i t=>show⟨some (i,t),rL,rL⟩
def qD:Xu X ak7:=by intro ao s σ H x v O Y lo hi sl Q I J hs pl D h;let⟨l,rfl,hz,q⟩:=h;let⟨t,rfl⟩:=J;let⟨p1,rfl,rfl⟩:=part_of pl;let⟨p2,rfl,rfl⟩:=part_of D;calc⟨"str",_,F.slot_str_getitem.lookup,typeIs_str _ _ _,?_⟩;calc wpAny_getItem_str_slice (l:=p1) (u:=p2) (st:=none) hs rL ?_;let e:=abv l (p1.map (·.1)) (p2.map (·.1));let j:(Txt.slice (S l) (p1.map (·.1)) (p2.map (·.1))).length<=sizeLine:=bE (Txt.slice_le _ _ _) hz;calc post_val_or_str ⟨j,λt' k=>?_⟩;let G:(if ((Option.map (λx:Int×Tok=>x.1) none).getD 1==1&&(slicePicked (S l) p1 p2 none).length==(S l).length)=true then S l else ⟨((slicePicked (S l) p1 p2 none).filterMap ((S l).cps[·]?)).toArray⟩)=S (iM l (p1.map (·.1)) (p2.map (·.1))):=e;show⟨.str (S (iM l (p1.map (·.1)) (p2.map (·.1)))),H,I.tok _,⟨t',congrArg (λz=>Value.str z t') G⟩,q⟩
abbrev Ts (ls:AB):List V:=ls.map λl=>V.str (S l)
def afn (K:W.Frag):List V->Hp->VK->Prop:=λxs H Q=>∃x n t b,xs=[x,.ty n]/\nU K H x t/\W.kitOne K t (.type n)=some b/\Q (.bl b) H
def fU:jc X (.builtin "isinstance") (afn X.K):=by intro ao s σ H xs us Q I r h;let⟨x,n,t,b,rfl,ty,k,q⟩:=h;let⟨u,D,rfl,r1,j⟩:=vals2 r;cases j;show aa_ I r1 ty k λtk=>⟨.bl b,H,I.tok tk,rL,q⟩
def akj:R2:=λx y H Q=>∃l n,x=.str (S l)/\y=.int (n:Nat)/\1<=n/\n<1000/\l.length<1000/\Q (.str (S (List.replicate n l).flatten)) H
theorem S5 (l:List Nat):∀(n:Nat) (j:Array Nat),((List.replicate n l.toArray).foldl (· ++ ·) j).toList=j.toList++(List.replicate n l).flatten
 | 0,j=>by simp
 | n+1,j=>by rw[dS,mB,S5 l n,dS];simp
def af4:gK X (binaryOp .Mult) akj:=by
 intro ao s σ H x y v u Q I O J h;let⟨l,n,rfl,rfl,h1,h2,h3,q⟩:=h;let⟨t,rfl⟩:=O;let⟨t',rfl⟩:=J;let j:l.length*n<=1000*1000:=gg (am h3) (am h2);let D:(1000*1000:Nat)<=sizeLine:=by decide
 calc PySem.P.mul_str ?_ ?_ ?_ ?_;.rw[ag qa,ag p_];rfl
 .intro _ _;let e:(2^63-1:Int)/(n:Int)>=1000:=by
   calc Int.le_ediv_of_mul_le (Iff.mpr my h1) ?_;have:(1000:Int)*(n:Int)<=1000*1000:=by lia
   lia
  rw[rP];lia
 .intro _ _;show decide (_ > _)=false;rw[ag];rw[rP,eh];lia
 .rw[if_neg p_];let F:(⟨(List.replicate (n:Int).toNat (S l).cps).foldl (· ++ ·) #[]⟩:Str)=S (List.replicate n l).flatten:=by
   let e:=S5 l n #[];rw[eh];unfold S;congr 1;apply pi.mp;simpa using e
  rw[F];split
  .rename_i G;let e:(List.replicate n l).flatten=l:=by
    simp at G;rcases G with z|z
    .have:n=1:=by lia
     subst this;simp
    .have:l=[]:=by simpa [S,Str.length] using z
     subst this;simp
   rw[e]at q;show⟨.str (S l),H,I,⟨t,rL⟩,q⟩
  .calc⟨?_,.str (S (List.replicate n l).flatten),H,I.tok _,⟨_,rL⟩,q⟩;rw[rP,len_rep,Nat.mul_comm];show bE j D
def XH (ls:AB):Txt.join (S []) (ls.map S)=S ls.flatten:=by
 unfold Txt.join Builtin.Str.glued;let D:∀(ls:AB) (j:Array Nat),((ls.map S).foldl (λj p=>j++(S []).cps++p.cps) j).toList=j.toList++ls.flatten:=by
  intro ls
  induction ls with| nil=>intro j;simp| cons l r ih=>intro j;rw[cw,mB,ih];simp[S]
 unfold S;congr 1;apply pi.mp;cases ls with| nil=>rfl| cons l r=>have:=D r (S l).cps;let e:(List.map S (l::r)).drop 1=List.map S r:=rfl;show (((List.map S (l::r)).drop 1).foldl _ (S l).cps).toList=_;rw[e];show this.trans (by simp[S])
def rJoin (K:W.Frag):V->List V->Hp->VK->Prop:=λx vs H Q=>∃p ls,x=.str (S [])/\vs=[.ref p]/\bJ K H p (Ts ls)/\ls.flatten.length<=1000/\Q (.str (S ls.flatten)) H
theorem G_:∀{ls:AB} {us:List Value},Vals (Ts ls) us->StrsAre us (ls.map S)
 | [],_,.nil=>.nil
 | l::r,_,.cons q t=>by let⟨t',rfl⟩:=q;show .cons (S l) t' (G_ t)
def XJ (ls:AB):((ls.map S).map (·.length)).sum=ls.flatten.length:=by
 induction ls with| nil=>rfl| cons l r ih=>rw[cw,cw,n5,ih,fb,av,rP]
def rC:yD X "str.join" (rJoin X.K):=by
 intro ao s σ H x vs v us Q I G F h;let⟨p,ls,rfl,rfl,j,hz,q⟩:=h;let⟨t,rfl⟩:=G;let⟨u,rfl,D⟩:=vals1 F;cases D;let⟨its,r,pl,_⟩:=I.list j;refine join_list pl.isList (ys:=ls.map S) (by simpa using G_ r) ?_ λt' k=>?_
 .rw[XJ];show _+_*0<=_;lia
 .show⟨.str (S ls.flatten),H,I.tok k,⟨t',congrArg (λz=>Value.str z t') (XH ls)⟩,q⟩
end
structure aN (K:W.Frag)(mg:Str->Option Value)(name:Str)(st:Stmt)(ps:List Str):Prop where
 ex:∃f fd,fG K name name st f fd/\bT K fd ps []/\mg name=some (.ref f)
structure bW (P:Program)(w:World)(K:W.Frag)(mg:Str->Option Value)(base:Heap)(name:Str)(k:Nat)(ps:List Str)(sp:Sp):Prop where
 ex:∃f fd,cj P w K mg base dN k f fd ps sp/\bT K fd ps []/\mg name=some (.ref f)/\W.keepIn K (.ref f)=true
def aN.ok {K:W.Frag}{mg:Str->Option Value}{name:Str}{st:Stmt}{N ps:List Str}{k:Nat}{sp:Sp}(D:aN K mg name st ps)(S:bB N ps (aJ st))(len:∀vs H Q E,sp vs H Q E->vs.length=ps.length)(j:∀(f:Addr) (bO:Value) (A:Around) (outer:List Env) (s:Shared) (H:Hp) (vs:List V) (Q:VK) (E:XK),fZ k (A.deeper (envOfC name (aJ st) s.heap.objs.size f bO))->sp vs H Q E->
   ∃t,vX (t_ dN P w K mg base N name (aJ st) f bO A outer s H E).Sd (cX st) t/\t {nx:=λ_ H'=>Q .non H',rt:=Q} (start N vs) H):bW P w K mg base name (k+1) ps sp:=by
 let⟨f,fd,F,b,g⟩:=D.ex;show⟨f,fd,F.ok S len (j f),b,g,F.kp⟩
section
variable {X:Cx}{x:Str}{p pos:Pos}{e:Expr}{es:List Expr}{t:TA}
def aio (D:bW X.prog X.w X.K X.mg X.base x k ps sp)(I:fZ k X.A)(J:Gl X x)(ha:PA X (e::es) t)(j:(x==("__debug__":Str))=false:=by decide)(hs:starEach (e::es) X.env=(false,eval e X.env)::starEach es X.env:=by rfl)(F:(backTo pos (starEach es X.env)).any (·.1)=false:=by rfl):PE X (.Call (.Name x p) (e::es) [] pos) (ZD sp [] E0 t):=by let⟨f,fd,G,b,g,kp⟩:=D.ex;show afQ G I J g kp b .nil eY ha j hs F
end
theorem aD.upd (h:H p=none):aD H (upd H p o):=λb o' e=>by rw[aZ (bF e h)];show e
def aD.dY (s:aD H H')(h:H p=none):aD H (L2.upd H' p o):=λb o' e=>by rw[aZ (bF e h)];show s b o' e
def adC {K:W.Frag}{h:Heap}{mg:Str->Option Value}{name:Str}{st:Stmt}{ps:List Str}{f:Addr}{oc:Value}{od an:Option Addr}{osl:Array (Option Value)}{kV doc pm bO ct:Value}(X:K.In h)(G:h.Ns mainGlobals mg)(a:W.nsIn K mainGlobals name=some (some (.ref f)))(l:K.lookup f=some ⟨oc,od,.func (W.fnOf name name (dJ st) (cX st) (aJ st) .none kV doc pm an bO ct),osl⟩)(c:W.codeIn K bO name=true)(k:W.keepIn K (.ref f)=true)(hb:∀(kV doc pm:Value) (an:Option Addr) (bO ct:Value) (us:List Value),us.length=ps.length->bindArgs (W.fnOf name name (dJ st) (cX st) (aJ st) .none kV doc pm an bO ct) ⟨us,[]⟩=pure (ps.zip us)):aN K mg name st ps:=⟨f,_,gF l c k,(gF l c k).binds hb,cf X G a⟩
def aip {K:W.Frag}{h:Heap}{mg:Str->Option Value}{st:Stmt}{x:Str}{f D:Addr}{oc:Value}{od an:Option Addr}{osl:Array (Option Value)}{kV doc pm bO ct:Value}(X:K.In h)(G:h.Ns mainGlobals mg)(j:mg "law"=some (.ref D))(a:W.nsIn K mainGlobals "law"=some (some (.ref f)))(l:K.lookup f=some ⟨oc,od,.func (W.fnOf "law" "law" (dJ st) (cX st) (aJ st) .none kV doc pm an bO ct),osl⟩)(c:W.codeIn K bO "law"=true)(k:W.keepIn K (.ref f)=true)(hb:∀(kV doc pm:Value) (an:Option Addr) (bO ct v:Value),bindArgs (W.fnOf "law" "law" (dJ st) (cX st) (aJ st) .none kV doc pm an bO ct) ⟨[v],[]⟩=pure [(x,v)]):∃fd:FuncData,fG K "law" "law" st D fd/\∀(s:Shared) (v:Value),BindsTo s fd ⟨[v],[]⟩ [(x,v)]:=by let e:=j.symm.trans (cf X G a);cases e;show⟨_,gF l c k,λs v=>.of_eq (hb kV doc pm an bO ct v)⟩
def RM (K:W.Frag):Sp:=λvs H Q _=>∃(a:Addr) (ns:List Int),vs=[.ref a]/\bJ K H a (ns.map V.int)/\ns.length<=63/\∀H',Q (.bl true) H'
def af5 {x:Str}{l:W.OpenLaw}{j:List Str}{J:(Str->Option Value)->Heap->Prop}{Y:World->Heap->Prop}{d:DefRec}{K:Params->W.Frag}(hn:l.most=some 63)(D:d.params.defaults=[])(I:∀(w:World) (h:Heap),Y w h->(K w.params).In h)(F:∀(w:World) (mg:Str->Option Value) (G:Addr) (h:Heap),(K w.params).In h->h.Ns mainGlobals mg->mg d.name=some (.ref G)->
   ∃fd:FuncData,(∀(s:Shared) (u:Value),BindsTo s fd ⟨[u],[]⟩ [(x,u)])/\∀base:Heap,(K w.params).In base->base.Ns mainGlobals mg->cj l.prog w (K w.params) mg base dN 20 G fd [x] (RM (K w.params))) :
  W.WalkO q j J Y l.row.toRowW d [] (λf vs=>PySem.call f vs):=
 L2.afZ (n:=63) (k:=20) (x:=x) (CX:=λ_=>dN) (sp:=λw=>RM (K w.params)) hn qc D ⟨rL,qc,qc⟩ I F (λ_ _ a ns hl _ O=>⟨a,ns,rL,O,hl,λ_=>rfl⟩) λ_ _ _ _ _ z=>z
namespace RV
end RV
structure QE (X:Cx)(e:Expr)(t:TE):Prop where
 out:PE X e t
structure QT (X:Cx)(e:Expr)(t:TT):Prop where
 out:PT X e t
structure QW (X:Cx)(e:Expr)(t:TT):Prop where
 out:PW X e t
structure QA (X:Cx)(es:List Expr)(t:TA):Prop where
 out:PA X es t
structure QS (X:Cx)(st:Stmt)(t:TS):Prop where
 out:PS X st t
structure rQ (X:Cx)(st:List Stmt)(t:TS):Prop where
 out:vX X st t
structure QG (X:Cx)(e:Expr)(t:TG):Prop where
 out:PG X e t
structure QGs (X:Cx)(es:List Expr)(t:Pr):Prop where
 out:PGs X es t
structure QI (X:Cx)(tg iter:Expr)(wi:TI):Prop where
 out:PI X tg iter wi
structure QO (X:Cx)(e:Option Expr)(t:TO):Prop where
 out:PO X e t
structure QC (X:Cx)(op:CmpOp)(a b:Expr)(t:TE):Prop where
 out:PC X op a b t
structure QTs (X:Cx)(ifs:List Expr)(t:TT):Prop where
 out:XC X ifs t
def QW.qt (h:QW X e t):QT X e t:=⟨h.out.pt⟩
section
variable {X:Cx}{st:Stmt}{rest:List Stmt}{t u:TS}
variable {pos:Pos}
variable {e:Expr}{te:TE}
def bN  : rQ X [] ae9:=⟨afH⟩
def aB (h1:QS X st t)(h2:rQ X rest u):rQ X (st::rest) (ahJ t u):=⟨ac_ h1.out h2.out⟩
def aG (h1:QS X st t):rQ X [st] t:=⟨afI h1.out⟩
def cD (j:QT X c tc)(ha:rQ X a t)(hb:rQ X b u):QS X (.If c a b pos) (ahM tc t u):=⟨aj6 j.out ha.out hb.out⟩
def bC (j:QE X e te):QS X (.Return (some e) pos) (ahK te):=⟨ahL j.out⟩
def dF (j:QE X e te)(hs:swapsWith e none pos.line X.env=pure false:=by rfl):QS X (.Expr e pos) (ae_ te):=⟨afJ j.out hs⟩
end
section
variable {X:Cx}{tg:Expr}
def gG (hp:PassesOwn (model X.prog X.w) X.A X.env X.xe)(j:X.calm=true)(hi:QI X tg iter wi)(D:QG X tg g)(hb:rQ X body tb)(hs:∀x,foldedSetIterable iter X.env x=pure x:=by intro _;rfl):QS X (.For tg iter body [] pos) (ahU wi g tb):=⟨ahV hp j hi.out D.out hb.out hs⟩
end
section
variable {X:Cx}{o value:Expr}{f:Str}{pos pos':Pos}{ta tv:TE}
def adD (hp:PassesOwn (model X.prog X.w) X.A X.env X.xe)(j:QT X c tc)(hb:rQ X body tb):QS X (.While c body [] pos) (Sh tc tb):=⟨adb hp j.out hb.out⟩
def aW (F:X.N.Nodup)(hi:X.N[i]?=some x)(hx:Loc X.env.scope x)(j:QE X e te)(hs:swapsWith e (some (.Name x pos')) pos.line X.env=pure false:=by rfl)(D:X.fn x=true\/X.env.scope.names.lookup x=some .local:=by first|show .inl rfl|show .inr rfl|assumption):QS X (.Assign [.Name x pos'] e pos) (M6 te (rN i)):=⟨ahR F hi hx j.out hs D⟩
def mC:rQ X sts aa1:=⟨aa2⟩
def mD (ha:QE X o ta)(j:QE X value tv)(hs:swapsWith value (some (.Attribute o f pos')) pos.line X.env=pure false):QS X (.Assign [.Attribute o f pos'] value pos) (ahY X.K ta tv f):=⟨ah0 ha.out j.out hs⟩
def vf (j:QE X e te)(D:QG X tg g)(hs:swapsWithSole [tg] e pos.line X.env=pure false:=by rfl)(hw:swappedStores [tg] e X.env=pure none:=by rfl)(h1:(assignEach [tg] X.env).map (·.2)=[assign tg X.env]:=by rfl):QS X (.Assign [tg] e pos) (M6 te g):=⟨ahQ j.out D.out hs hw h1⟩
def bQ (j:X.N.Nodup)(hi:X.N[i]?=some x)(hx:Loc X.env.scope x)(D:X.fn x=true\/X.env.scope.names.lookup x=some .local:=by first|show .inl rfl|show .inr rfl|assumption):QG X (.Name x pos) (rN i):=⟨tY j hi hx D⟩
def qI {es:List Expr}{k:Nat}{t:Pr}{n:Nat}(D:X.calm=true)(h:QGs X es t)(hn:(assignEach es X.env).length=n:=by rfl)(j:(assignEach es X.env).findIdx? (·.1)=none:=by rfl):QG X (.Tuple es k pos) (Zn X.K n t):=⟨Sg D h.out hn j⟩
def o9  : QGs X [] Zm:=⟨M5⟩
def cG (h1:QG X e t)(h2:QGs X es u)(hs:(assignEach (e::es) X.env).map (·.2)=assign e X.env::(assignEach es X.env).map (·.2):=by rfl):QGs X (e::es) (Bq t u):=⟨tZ h1.out h2.out hs⟩
end
section
variable {X:Cx}
def aA {i j pos}:QE X (.Constant (.int i) j pos) (tC (.int i)):=⟨ahv⟩
def eO {b j pos}:QE X (.Constant (.bool b) j pos) (tC (.bl b)):=⟨aj3⟩
def abw {j pos}:QE X (.Constant .none j pos) (tC .non):=⟨ahw⟩
end
section
variable {X:Cx}{a b c:Expr}{ta tb tc:TE}{pos:Pos}
variable {tA:TT}
variable {qH:TT}{rest:List Expr}
def aL (j:gK X (binaryOp op) r)(ha:QE X a ta)(hb:QE X b tb):QE X (.BinOp a op b pos) (Ie r ta tb):=⟨aj7 j ha.out hb.out⟩
def oJ (j:UnR X (unaryOp op) r)(ha:QE X a ta):QE X (.UnaryOp op a pos) (tUn r ta):=⟨aj8 j ha.out⟩
def d8 (j:gK X (compareOp op) r)(ha:QE X a ta)(hb:QE X b tb)(hm:behindInMarks op b=false):QE X (.Compare a [op] [b] pos) (Ie r ta tb):=⟨afM j ha.out hb.out hm⟩
def bV (j:gK X (compareOp op) r)(ha:QE X a ta)(hb:QE X b tb)(hm:behindInMarks op b=false):QT X (.Compare a [op] [b] pos) (Rz (Ie r ta tb)):=⟨afN j ha.out hb.out hm⟩
def mX (D:gK X (compareOp op) r)(j:gK X (compareOp op') r')(ha:QE X a ta)(hb:QE X b tb)(F:QE X c tc)(hm:lastMarks [op,op'] [b,c]=false:=by with_unfolding_all rfl):QE X (.Compare a [op,op'] [b,c] pos) (DY r r' ta tb tc):=⟨adg D j ha.out hb.out F.out hm⟩
def Bu (D:gK X (compareOp op) r)(j:gK X (compareOp op') r')(ha:QE X a ta)(hb:QE X b tb)(F:QE X c tc)(hm:lastMarks [op,op'] [b,c]=false:=by with_unfolding_all rfl):QT X (.Compare a [op,op'] [b,c] pos) (Rz (DY r r' ta tb tc)):=⟨adh D j ha.out hb.out F.out hm⟩
def cZ (h:QE X e t)(D:∀j,isTrue e X.env j=(do let v <- j;standAt e.pos;holding [v] (truthy v)):=by intro _;rfl):QT X e (tB t):=⟨ahz h.out D⟩
def dW (ha:QT X a tA):QT X (.UnaryOp .Not a pos) (ahB tA):=⟨ahE ha.out⟩
def Aj (ha:QT X a tA)(hb:QW X (.BoolOp .And (b::rest) pos) qH):QW X (.BoolOp .And (a::b::rest) pos) (ahA tA qH):=⟨ahD ha.out hb.out⟩
def Hf (ha:QT X a tA):QW X (.BoolOp .And [a] pos) tA:=⟨afG ha.out⟩
def jY (ha:QT X a tA)(hb:QW X (.BoolOp .Or (b::rest) pos) qH):QW X (.BoolOp .Or (a::b::rest) pos) (tOr tA qH):=⟨aj4 ha.out hb.out⟩
def jQ (ha:QT X a tA):QW X (.BoolOp .Or [a] pos) tA:=⟨ahC ha.out⟩
def jA (ha:QE X a ta)(hb:QE X (.BoolOp .And (b::rest) pos) tb):QE X (.BoolOp .And (a::b::rest) pos) (ae7 ta tb):=⟨ahH ha.out hb.out⟩
def KD (ha:QE X a ta)(hb:QE X (.BoolOp .Or (b::rest) pos) tb):QE X (.BoolOp .Or (a::b::rest) pos) (ahF ta tb):=⟨aj5 ha.out hb.out⟩
def ji {op}(h:QE X a t):QE X (.BoolOp op [a] pos) t:=⟨ahG h.out⟩
def abx (ha:QE X a ta):QE X (.UnaryOp .Not a pos) (ae8 ta):=⟨ahI ha.out⟩
def oK (j:QT X c tA)(ha:QE X a ta)(hb:QE X b tb):QE X (.IfExp c a b pos) (tIf tA ta tb):=⟨ac9 j.out ha.out hb.out⟩
def bh (j:Ih X r)(ha:QE X a ta)(hb:QE X b tb)(hs:G9 b):QE X (.Subscript a b pos) (Ie r ta tb):=⟨aj_ j ha.out hb.out hs⟩
end
section
variable {X:Cx}{e:Expr}{te:TE}{lo hi:Option Expr}{tl th:TO}{pos p2:Pos}
variable {es:List Expr}{t:TA}
variable {x:Str}{p:Pos}{id:String}{r:List V->Hp->VK->Prop}
variable {T:String}
def dR {r:V->Option Int->Option Int->Hp->VK->Prop}(F:Xu X r)(D:QE X e te)(hl:QO X lo tl)(j:QO X hi th):QE X (.Subscript e (.Slice lo hi none p2) pos) (tSl r te tl th):=⟨adq F D.out hl.out j.out⟩
def fO  : QO X none Xr:=⟨afU⟩
def dX (h:QE X e te):QO X (some e) (afh te):=⟨afV h.out⟩
def fW (h:QA X es t):QE X (.List es pos) (ah3 t):=⟨ah5 h.out⟩
def cL {x1}(h:QA X es t):QE X (.Tuple es x1 pos) (ah2 t):=⟨ah4 h.out⟩
def aq  : QA X [] zE:=⟨ah1⟩
def ak (ha:QE X e te)(j:QA X es t)(hs:starEach (e::es) X.env=(false,eval e X.env)::starEach es X.env:=by rfl):QA X (e::es) (wC te t):=⟨afP ha.out j.out hs⟩
def aQ (G:jc X (.builtin id) r)(J:Gl X x)(hm:X.mg x=none)(F:bootBuiltins x=some (.builtin id))(ha:QA X (e::es) t)(hn:x≠"__name__":=by decide)(j:(x==("__debug__":Str))=false:=by decide)(I:starEach (e::es) X.env=(false,eval e X.env)::starEach es X.env:=by rfl)(D:(backTo pos (starEach es X.env)).any (·.1)=false:=by rfl):QE X (.Call (.Name x p) (e::es) [] pos) (tCB r t):=⟨ado G J hm F ha.out hn j I D⟩
def f9 (G:jc X (.type T) r)(J:Gl X x)(hm:X.mg x=none)(F:bootBuiltins x=some (.type T))(ha:QA X (e::es) t)(hn:x≠"__name__":=by decide)(j:(x==("__debug__":Str))=false:=by decide)(I:starEach (e::es) X.env=(false,eval e X.env)::starEach es X.env:=by rfl)(D:(backTo pos (starEach es X.env)).any (·.1)=false:=by rfl):QE X (.Call (.Name x p) (e::es) [] pos) (tCB r t):=⟨abd G J hm F ha.out hn j I D⟩
end
section
variable {X:Cx}{o e:Expr}{es:List Expr}{to:TE}{t:TA}{name:Str}{apos cpos:Pos}{T id:String}{r:V->List V->Hp->VK->Prop}
variable {tg:Expr}
def gP (O:PlainAttrs T)(slot:Slot T name id)(I:typeOf (.builtin id)=pure (.type "method_descriptor"))(hm:yD X id r)(J:QE X o to)(ha:QA X (e::es) t)(F:attributeBase o name X.env (eval o X.env)=eval o X.env:=by rfl)(G:((backTo cpos (starEach (e::es) X.env)).all (λx=>!x.1)&&(backToKw cpos (keywordEach [] X.env)).all (λx=>x.1.isSome)
   && decide ((e::es).length+([]:List Keyword).length+(if ([]:List Keyword).isEmpty then 0 else 1)<30))=true:=by rfl) (D:(apos.endLine==cpos.line)=true:=by rfl) (hs:starEach (e::es) X.env=(false,eval e X.env)::starEach es X.env:=by rfl) (j:(backTo cpos (starEach es X.env)).any (·.1)=false:=by rfl):QE X (.Call (.Attribute o name apos) (e::es) [] cpos) (tBM X.K T r to t):=
 ⟨akc O slot I hm J.out ha.out F G D hs j⟩
def xJ (I:PlainAttrs T)(slot:Slot T name id)(F:typeOf (.builtin id)=pure (.type "method_descriptor"))(hm:yD X id r)(G:QE X o to)(D:attributeBase o name X.env (eval o X.env)=eval o X.env:=by rfl)(j:(apos.endLine==cpos.line)=true:=by rfl):QE X (.Call (.Attribute o name apos) [] [] cpos) (adt X.K T r to):=⟨aib I slot F hm G.out D j⟩
def jj {x:Str}{v:V}{u:Value}{pos:Pos}(D:Gl X x)(hm:X.mg x=none)(j:bootBuiltins x=some u)(r:cR v u)(hn:x≠"__name__":=by decide)(hd:(x==("__debug__":Str))=false:=by decide):QE X (.Name x pos) (tC v):=⟨afF D hm j r hn hd⟩
def lq (j:Gl X x)(hm:X.mg x=some u)(r:cR v u)(hd:(x==("__debug__":Str))=false:=by decide):QE X (.Name x pos) (tC v):=⟨afE j hm r hd⟩
def nW (hl:QE X l tl):QI X tg l (afa X.K tl):=⟨afK hl.out⟩
def iI (hl:QE X l tl):QI X tg l (ahS X.K tl):=⟨ahT hl.out⟩
def vg (j:Gl X "range")(hm:X.mg "range"=none)(ha:QA X [a] ta)(hs:starEach [a] X.env=[(false,eval a X.env)]:=by rfl):QI X tg (.Call (.Name "range" p) [a] [] pos) (afb ta):=⟨aa4 j hm ha.out hs⟩
def Qc {a b:Expr}{ta:TA}{p pos:Pos}(D:Gl X "range")(hm:X.mg "range"=none)(ha:QA X [a,b] ta)(hs:starEach [a,b] X.env=[(false,eval a X.env),(false,eval b X.env)]:=by rfl)(j:starEach [b] X.env=[(false,eval b X.env)]:=by rfl):QI X tg (.Call (.Name "range" p) [a,b] [] pos) (afc ta):=⟨aa5 D hm ha.out hs j⟩
end
section
variable {X:Cx}{e:Expr}{f:Str}{pos:Pos}{ta:TE}
def bZ (j:QE X e ta)(hb:attributeBase e f X.env (eval e X.env)=eval e X.env):QE X (.Attribute e f pos) (Zy X.K ta f):=⟨ahZ j.out hb⟩
end
section
variable {X:Cx}{CX:u_}{k:Nat}{f C:Addr}{fd:FuncData}{ps:List Str}{sp:Sp}{lG:List V}{ds:List Value}{E:XK}{m:Str}{pos apos:Pos}{e o:Expr}{es:List Expr}{ta:TE}{t:TA}
variable {x:Str}{p:Pos}
variable {i:Expr}{td ty:TE}
variable {value:Expr}{tv:TE}{pos':Pos}
def nY {pl:Sem Bool}(G:QE X o ta)(c:Cls X.K C)(hm:Meth X.K C m f)(F:cj X.prog X.w X.K X.mg X.base CX k f fd ps sp)(I:fZ k X.A)(hb:bT X.K fd ps ds)(hd:Vals lG ds)(hx:Passes CX X E)(ha:QA X (e::es) t)(D:starEach (e::es) X.env=(false,eval e X.env)::starEach es X.env:=by rfl)(j:(backTo pos (starEach es X.env)).any (·.1)=false:=by rfl)(ht:eval (.Call (.Attribute o m apos) (e::es) [] pos) X.env=(do
   let ov <- eval o X.env
   standAt apos.atName
   let (f,first) <- holding [ov] (getMethod ov m pl)
   callWith pos f first (backTo pos (starEach (e::es) X.env)) (backToKw pos (keywordEach [] X.env))):=by rfl):QE X (.Call (.Attribute o m apos) (e::es) [] pos) (RB C m sp lG E ta t):=
 ⟨afR G.out c hm F I hb hd hx ha.out D j ht⟩
def gR (j:QE X o ta)(c:Cls X.K C)(hm:Meth X.K C m f)(F:cj X.prog X.w X.K X.mg X.base CX k f fd ps sp)(D:fZ k X.A)(hb:bT X.K fd ps ds)(hd:Vals lG ds)(hx:Passes CX X E)(ht:eval (.Call (.Attribute o m apos) [] [] pos) X.env=(do
   let ov <- eval o X.env
   standAt apos.atName
   let (f,first) <- holding [ov] (getMethod ov m pl)
   callWith pos f first (backTo pos (starEach [] X.env)) (backToKw pos (keywordEach [] X.env))):=by rfl):QE X (.Call (.Attribute o m apos) [] [] pos) (RB C m sp lG E ta zE):=
 ⟨adl j.out c hm F D hb hd hx ht⟩
def rD (M:Mk X.K C f)(F:cj X.prog X.w X.K X.mg X.base CX k f fd ps sp)(G:fZ (k+1) X.A)(J:Gl X x)(hm:X.mg x=some (.ref C))(hb:bT X.K fd ps ds)(hd:Vals lG ds)(hx:Passes CX X E)(ha:QA X (e::es) t)(j:(x==("__debug__":Str))=false:=by decide)(I:starEach (e::es) X.env=(false,eval e X.env)::starEach es X.env:=by rfl)(D:(backTo pos (starEach es X.env)).any (·.1)=false:=by rfl):QE X (.Call (.Name x p) (e::es) [] pos) (afe C sp lG E t):=⟨afS M F G J hm hb hd hx ha.out j I D⟩
def S6  : QE X (.Dict [] [] pos) abn:=⟨ady⟩
def aiq (j:X.A.units+1<cLine)(hi:QE X i ty)(D:QE X o td):QC X .In i o (aie ty td):=⟨aif j hi.out D.out⟩
def XM (j:X.A.units+1<cLine)(F:QE X o td)(hi:QE X i ty)(D:QE X value tv)(hs:swapsWith value (some (.Subscript o i pos')) pos.line X.env=pure false):QS X (.Assign [.Subscript o i pos'] value pos) (afj td ty tv):=⟨afY j F.out hi.out D.out hs⟩
end
section
variable {X:Cx}{a b:Expr}{pos:Pos}
def air (h:QC X op a b t)(h1:behindInMarks op b=false:=by first|show ac8 _ qc qc|rfl):QE X (.Compare a [op] [b] pos) t:=⟨ahy h.out h1⟩
def qv (i:Nat){x:Str}{pos:Pos}(F:X.N[i]?=some x:=by rfl)(D:Xl X.env.scope x:=by first|show Or.inl rfl|show Or.inr (Or.inl rL)|show Or.inr (Or.inr rL))(hd:(x==("__debug__":Str))=false:=by decide)(j:(x==("__classdict__":Str))=false:=by decide):QE X (.Name x pos) (Zj i):=⟨pv i F D hd j⟩
def aH {X:Cx}{x:Str}{pos:Pos}:=@qv X 0 x pos
def bf {X:Cx}{x:Str}{pos:Pos}:=@qv X 1 x pos
def bG {X:Cx}{x:Str}{pos:Pos}:=@qv X 2 x pos
def bL {X:Cx}{x:Str}{pos:Pos}:=@qv X 3 x pos
def cP {X:Cx}{x:Str}{pos:Pos}:=@qv X 4 x pos
def d9 {X:Cx}{x:Str}{pos:Pos}:=@qv X 5 x pos
def gb {X:Cx}{x:Str}{pos:Pos}:=@qv X 6 x pos
def jr {X:Cx}{x:Str}{pos:Pos}:=@qv X 7 x pos
def lY {X:Cx}{x:Str}{pos:Pos}:=@qv X 8 x pos
def lZ {X:Cx}{x:Str}{pos:Pos}:=@qv X 9 x pos
def jR {X:Cx}{x:Str}{pos:Pos}:=@qv X 10 x pos
def pR {X:Cx}{x:Str}{pos:Pos}:=@qv X 11 x pos
def qJ {X:Cx}{x:Str}{pos:Pos}:=@qv X 12 x pos
def fH:QTs X [] mW:=⟨af0⟩
end
section
variable {X:Cx}
def bI (l){j pos}(h:x=S l):QE X (.Constant (.str x) j pos) (tC (.str (S l))):=⟨af3 l h⟩
end
section
variable {X:Cx}{x:Str}{p pos:Pos}{e:Expr}{es:List Expr}{t:TA}
def bK (D:bW X.prog X.w X.K X.mg X.base x k ps sp)(G:fZ k X.A)(I:Gl X x)(ha:QA X (e::es) t)(j:(x==("__debug__":Str))=false:=by decide)(hs:starEach (e::es) X.env=(false,eval e X.env)::starEach es X.env:=by rfl)(F:(backTo pos (starEach es X.env)).any (·.1)=false:=by rfl):QE X (.Call (.Name x p) (e::es) [] pos) (ZD sp [] E0 t):=⟨aio D G I ha.out j hs F⟩
end
def jZ {X:Cx}(j:X.calm=true)(ok:jz X scope x)(hi:QI X (.Name x px) iter wi)(ht:∀cl C s₀ H₀ fp,QTs (blk X scope cl C x s₀ H₀ fp) ifs tt)(D:∀cl C s₀ H₀ fp,QE (blk X scope cl C x s₀ H₀ fp) elt te)(hs:∀x,foldedSetIterable iter X.env x=pure x:=by intro _;rfl):QE X (.ListComp elt [⟨.Name x px,iter,ifs,0⟩] scope pos) (afk wi tt te):=⟨af2 j ok hi.out (λcl C s₀ H₀ fp=>(ht cl C s₀ H₀ fp).out) (λcl C s₀ H₀ fp=>(D cl C s₀ H₀ fp).out) hs⟩
def rfg {as:List Addr}{n:Nat}{x:V}(h:(as.map V.ref)[n]?=some x):∃h:n<as.length,V.ref as[n]=x:=by
 let hn:n<as.length:=by have:=(ah.mp h).1;simpa using this
 rw[ck,ac hn]at h;show⟨hn,bo h⟩
def aN.dD {K:W.Frag}{mg:Str->Option Value}{name:Str}{st:Stmt}{N ps:List Str}{k:Nat}{sp:Sp}(D:aN K mg name st ps)(S:bB N ps (aJ st))(j:∀(f:Addr) (bO:Value) (A:Around) (outer:List Env) (s:Shared) (H:Hp) (vs:List V) (Q:VK) (E:XK),fZ k (A.deeper (envOfC name (aJ st) s.heap.objs.size f bO))->sp vs H Q E->
   ∃t,rQ (t_ dN P w K mg base N name (aJ st) f bO A outer s H E).Sd (cX st) t/\t {nx:=λ_ H'=>Q .non H',rt:=Q} (start N vs) H) (len:∀vs H Q E,sp vs H Q E->vs.length=ps.length:=by intro _ _ _ _ h;repeat (first|(let⟨rfl,_⟩:=h;rfl)|let⟨_,h⟩:=h)):bW P w K mg base name (k+1) ps sp:=
 D.ok S len λf bO A outer s H vs Q E F h=>let ⟨t,a,b⟩:=j f bO A outer s H vs Q E F h;⟨t,a.out,b⟩
def fG.dD {K:W.Frag}{mg:Str->Option Value}{x qual:Str}{st:Stmt}{N ps:List Str}{k:Nat}{sp:Sp}(F:fG K x qual st f fd)(S:bB N ps (aJ st))(j:∀(bO:Value) (A:Around) (outer:List Env) (s:Shared) (H:Hp) (vs:List V) (Q:VK) (E:XK),fZ k (A.deeper (envOfC qual (aJ st) s.heap.objs.size f bO))->sp vs H Q E->
   ∃t,rQ (t_ dN P w K mg base N qual (aJ st) f bO A outer s H E).Sd (cX st) t/\t {nx:=λ_ H'=>Q .non H',rt:=Q} (start N vs) H) (len:∀vs H Q E,sp vs H Q E->vs.length=ps.length:=by intro _ _ _ _ h;repeat (first|(let⟨rfl,_⟩:=h;rfl)|let⟨_,h⟩:=h)):cj P w K mg base dN (k+1) f fd ps sp:=
 F.ok S len λbO A outer s H vs Q E D h=>let ⟨t,a,b⟩:=j bO A outer s H vs Q E D h;⟨t,a.out,b⟩
section
variable {prog:Program}{w:World}{A:Around}{E:AF}{s:Shared}
def KH (I:wpAny (model prog w) A.in1 (collect v) (λvs s1=>∃O,StrsAre vs O/\vs.length<64/\
   ∀(h':Heap) (G:List Value) (j:List Str) (e:Nat),(∀b o,s1.heap.get? b=some o->h'.get? b=some o)->h'.get? s1.heap.objs.size=some (seqObj "list" G.toArray e)->StrsAre G j->j.Perm O->sortedS j=true->
    Q (.ref s1.heap.objs.size) {s1 with heap:=h' }) E s):wpAny (model prog w) A (call (.builtin "sorted") [v]) Q E s:=by
 calc Calls.call_function_entry kind_sorted plain_sorted entry_sorted (args_sorted1 _) ?_;unfold Builtin.«sorted»;calc ae (m:=checkCount "sorted" 1 1 _) (aw ?_);calc ae (cH I λvs s1 ⟨O,Y,J,h⟩=>?_);calc ae (wpAny_newList ?_);let D:(s1.heap.push (seqObj "list" vs.toArray 0)).get? s1.heap.objs.size=some (seqObj "list" vs.toArray 0):=ba _ rfl;refine ae (fS (gS slot_list_sort (s:={s1 with heap:=s1.heap.push (seqObj "list" vs.toArray 0)}) ⟨_,D,rL⟩ entry_list_sort
  (list_sort_treeK (s:={s1 with heap:=s1.heap.push (seqObj "list" vs.toArray 0)}) strKind_oneLt D Y.keysOf (λv₁ v₂ rest e=>keyKind_strs (by rw[<-e];show Y)) J λF hp hs=>⟨_,rL,?_⟩) (args_list_sort _)))
 let⟨j,h1,h2,h3⟩:=sorted_out_str Y hp hs;let⟨e,Z⟩:=sortedHeap_at (vs:=vs) (out:=(arrOf F).map (·.2)) D;calc aw ⟨_,rL,h _ ((arrOf F).map (·.2)).toList j e (λb o z=>?_) (by rw[Array.toArray_toList];show Z) h1 h2 h3⟩;let hb:b<s1.heap.objs.size:=aI z;rw[sortedHeap_old (cn hb) (by rw[fe];show lx hb)];show af _ z
end
def adE (h:ItemsOf (SignAt x) vs x.cps.size):StrsAre vs.toList (x.cps.toList.map λc=>(⟨#[c]⟩:Str)):=by
 let F:∀(l:List Value) (m:List Nat),l.length=m.length->(∀(j:Nat) v,l[j]?=some v->∃c u,m[j]?=some c/\v=.str ⟨#[c]⟩ u)->StrsAre l (m.map λc=>(⟨#[c]⟩:Str)):=by
  intro l
  induction l with
  | nil=>
   intro m hl _;cases m with| nil=>show .nil| cons c r=>simp at hl
  | cons a r ih=>
   intro m hl G;cases m with
   | nil=>simp at hl
   | cons c m=>
    let⟨J,u,e,rfl⟩:=G 0 a rfl;let I:c=J:=by simpa using e
    subst I;show .cons _ u (ih m (by simpa using hl) λj v D=>G (j+1) v D)
 calc F _ _ (by simpa using h.1) λj v D=>?_;let⟨c,u,e1,e2⟩:=h.2 j v (by simpa using D);show⟨c,u,by simpa using e1,e2⟩
section
theorem rR:∀{j:List Str} {us:List Value},StrsAre us j->Vals (j.map V.str) us
 | _,_,.nil=>.nil
 | _,_,.cons x t r=>.cons ⟨t,rL⟩ (rR r)
end
def Its (l:List Nat):It:=⟨λi _=>i<l.length,λi H x H'=>H'=H/\∃c,l[i]?=some c/\x=.str (S [c]),λi _=>l.length<=i⟩
def adF {P:Program}{w:World}{K:W.Frag}{tg:Expr}{ty:String}(D:ty="str_ascii_iterator"\/ty="str_iterator")(l:List Nat)(t:Tok)(it:Addr):Turn P w K tg (Its l) [it] it (λi h=>i<=l.length/\h.IsStrIter it ty (S l) t i) where
 mem:=by simp
 obj:=λi h st b hb=>by
  let e:b=it:=by simpa using hb
  subst e;let⟨_,o,e,c,d⟩:=st;show⟨o,e,λv z=>by rw[d]at z;cases z⟩
 keep:=λi h h' st k=>⟨st.1,let ⟨o,ho,r⟩:=st.2;⟨o,k it qa o ho,r⟩⟩
 item:=by
  intro X hP hw hK J i ao s σ H E I Z st hg;subst hP hw hK;let⟨f0,f1,f2,f3,f4,f5⟩:=Z it qa;let O:i<(S l).cps.size:=hg;let G:∀(v:Value) (h':Heap) (tk:Nat),SignAt (S l) i v->h'.IsStrIter it ty (S l) t (i+1)->(∀b o,b∉[it]->s.heap.get? b=some o->h'.get? b=some o)->
    ∃u,some v=some u/\wpAny (model X.prog X.w) X.A (letOwnedTupleGo tg (.ref it) u) (λ_ s2=>∃x H',aV X ao σ H' s2/\cR x u/\(Its l).Ko i H x H'/\(i+1<=l.length/\s2.heap.IsStrIter it ty (S l) t (i+1))/\∀b∈[it],H' b=none) E {s with heap:=h',toks:=tk}:=by
   intro v h' tk Y j F;let⟨c,u,hc',rfl⟩:=Y;let I1:aV X ao σ H {s with heap:=h',toks:=tk}:=I.turned (λb o hb e=>F b o (by simpa using hb) e) f0 f1 f3 f4 f5;let⟨o,e,c2,d2⟩:=id j;refine⟨_,rL,Kp (s:={s with heap:=h',toks:=tk}) e c2 d2 (by rcases D with rfl|rfl <;> decide) ⟨.str (S [c]),H,I1,⟨u,rL⟩,⟨rL,c,by simpa [S] using hc',rL⟩,⟨hg,j⟩,λb hb=>(Z b hb).1⟩⟩
  rcases D with rfl|rfl;.show(Walks.strAscii (prog:=X.prog) (w:=X.w) (I.ok.hd J) it (S l) t).item i s _ _ O st.2 λv h' tk Y j F=>G v h' tk Y j F
  .show(Walks.strWide (prog:=X.prog) (w:=X.w) (I.ok.hd J) it (S l) t).item i s _ _ O st.2 λv h' tk Y j F=>G v h' tk Y j F
 done:=by
  intro X hP hw hK J i ao s σ H E I Z st hg;subst hP hw hK;let⟨f0,f1,f2,f3,f4,f5⟩:=Z it qa;let hi:i=(S l).cps.size:=Nat.le_antisymm st.1 hg;let j:=st.2;rw[hi]at j;rcases D with rfl|rfl
  .show(Walks.strAscii (prog:=X.prog) (w:=X.w) (I.ok.hd J) it (S l) t).done s _ _ j λh' tk F=>⟨rL,I.turned (λb o hb e=>F b o (by simpa using hb) e) f0 f1 f3 f4 f5⟩
  .show(Walks.strWide (prog:=X.prog) (w:=X.w) (I.ok.hd J) it (S l) t).done s _ _ j λh' tk F=>⟨rL,I.turned (λb o hb e=>F b o (by simpa using hb) e) f0 f1 f3 f4 f5⟩
 self:=λA i s Q E st h=>by
  rcases D with rfl|rfl;.show wpAny_pyIter_striter_ascii st.2 h
  .show wpAny_pyIter_striter_wide st.2 h
def aby {a b c:List Nat}(h1:¬b<a)(h2:¬c<b):¬c<a:=by let j:a<=b:=h1;let D:b<=c:=h2;show List.le_trans j D
theorem Qd:∀(r:List Str) (p:Str),risingS p r=true->(∀x∈r,¬x.cps.toList<p.cps.toList)/\(r.map λy=>y.cps.toList).Pairwise (λa b=>decide (b<a)=false)
 | [],_,_=>⟨λ_ h=>by simp at h,List.Pairwise.nil⟩
 | y::r,p,h=>by
  rw[risingS,cp]at h;let h0:¬y.cps.toList<p.cps.toList:=by have:=h.1;simpa [ltCps_eq] using this
  let⟨h1,h2⟩:=Qd r y h.2;refine⟨λx hx=>?_,?_⟩
  .rcases bX.mp hx with e|e;.rw[e];show h0
   .show aby h0 (h1 x e)
  .rw[cw];calc List.Pairwise.cons (λb hb=>?_) h2;let⟨x,hx,rfl⟩:=be.mp hb;show ag (h1 x hx)
def Eh (ss)(h:sortedS ss=true):(ss.map λy=>y.cps.toList).Pairwise (λa b=>decide (b<a)=false):=by
 cases ss with| nil=>show List.Pairwise.nil| cons x r=>let⟨h1,h2⟩:=Qd r x h;rw[cw];calc List.Pairwise.cons (λb hb=>?_) h2;let⟨y,hy,rfl⟩:=be.mp hb;show ag (h1 y hy)
section
variable {X:Cx}{tg:Expr}
def ak9 (tl:TE):TI:=λσ H R=>tl σ H λx H1=>∃l,x=.str (S l)/\R (Its l) H1
def rT (hl:QE X l tl):QI X tg l (ak9 tl):=⟨by
 intro ao s σ H R I h;calc cH (hl.out ao s σ H _ I h) λv s1 F=>?_;let⟨x,H1,j,r1,q1⟩:=F;let⟨l,e,q⟩:=q1;subst e;let⟨t,rfl⟩:=r1;calc wpAny_pyIter_strU ?_;let D:strIterType (S l)="str_ascii_iterator"\/strIterType (S l)="str_iterator":=by unfold strIterType;split <;> simp
 calc⟨s1.heap.objs.size,[s1.heap.objs.size],_,_,H1,rL,j.kept (t':=s1.toks) λb o e=>af _ e,adF D l t _,⟨eQ _,_,ba _ rL,rL,rL⟩,λb hb=>?_,q⟩;let e:b=s1.heap.objs.size:=by simpa using hb
 subst e;show j.zy (al _) (j.hok.fresh (al _))⟩
def xK {l:List Nat}{D:Addr}{te:TE}{σ:St}{H:Hp}{R:Hp->Prop}(j:Nat->List V->Hp->Prop)(h0:j 0 [] (upd H D (.lst [])))(hs:∀i c ys H,l[i]?=some c->j i ys H->te (some (.str (S [c]))::σ) H (Nf l.length i D ys (j (i+1))))(hd:∀ys H,j l.length ys H->R H):Ec (Its l) D H R (ZQ σ mW te):=adB l.length j h0 (λi ys H h p=>⟨h,λx H' y=>by let⟨rfl,c,F,rfl⟩:=y;show hs i c ys _ F p⟩) λys H p=>⟨al _,hd ys H p⟩
def kh (hc:X.calm=true):jc X (.builtin "all") (λxs H Q=>∃(p:Addr) (bs:List Bool),xs=[.ref p]/\bJ X.K H p (bs.map V.bl)/\Q (.bl (bs.all id)) H):=by
 intro ao s σ H xs us Q I r h;let⟨p,bs,rfl,hq,q⟩:=h;let⟨u,rfl,J⟩:=vals1 r;cases J;let⟨its,O,pl,hz⟩:=I.list hq;let G:p≠s.heap.objs.size:=by let⟨o,ho,_⟩:=pl.isList;show cn (aI ho)
 let hb:∀(i:Nat) (v:Value),its[i]?=some v->v=.bool (bs.getD i true):=λi v j=>by
  let F:=O.length;let hi:i<bs.length:=by have:=(ah.mp j).1;simp at F;simp_all
  let⟨u,hu,J⟩:=O.get (i:=i) (x:=.bl bs[i]) (by simp[hi]);rw[j]at hu;cases hu;cases J;simp[List.getD,hi]
 calc call_all_walk (ik pl.isList ?_);refine⟨s.heap.objs.size,_,_,_,_,_,λi=>bs.getD i true,rL,Walks.list (A:=X.A.in1) (I.ok.hd hc) s.heap.objs.size p G its.toArray,⟨⟨_,ba _ rL,rL,rL⟩,pl.isList.at λo e=>af _ e⟩,?_,λh' tk kk=>?_⟩
 .intro i v s' Q' E' j D;let e:=hb i v (by simpa using j);subst e;show e_ D
 .let I1:aV X ao σ H {s with heap:=h',toks:=tk}:=I.kept λb o e=>kk b o (by
   intro hm;have:b=s.heap.objs.size:=by simpa using hm
   subst this;show absurd (aI e) (fm _)) (af _ e)
  calc⟨.bl (bs.all id),H,I1,?_,q⟩;show Value.bool _=Value.bool _;let F:its.toArray.size=bs.length:=by have:=O.length;simp at this;simp[this]
  rw[F];congr 1;let Y:∀bs:List Bool,(List.range bs.length).all (λi=>bs.getD i true)=bs.all id:=λbs=>by
   rw[ib,fk,fk];constructor
   .intro h x hx;let⟨i,hi,rfl⟩:=ir.mp hx;have:=h i (gI.mpr hi);simpa [List.getD,hi] using this
   .intro h i hi;let Z:=gI.mp hi;have:=h bs[i] (aS _);simpa [List.getD,Z] using this
  show Y bs
def adG:R2:=λx y H Q=>∃i j,x=.str (S i)/\y=.str (S j)/\Q (.bl (!decide (j<i))) H
def o7:gK X (compareOp .LtE) adG:=by intro ao s σ H x y v u Q I F D h;let⟨i,j,rfl,rfl,q⟩:=h;let⟨t,rfl⟩:=F;let⟨t',rfl⟩:=D;show PySem.P.le_str ⟨.bl _,H,I,rL,q⟩
abbrev dz (l:List Nat):Key:=Sum.inr (S l)
def S7 (hc:X.calm=true):jc X (.builtin "sorted") (λxs H Q=>∃(d:Addr) (kvs:List (Key×V)) (ws:AB),xs=[.ref d]/\H d=some (.dK kvs)/\kvs.map (·.1)=ws.map dz/\ws.length<64/\
  ∀(p:Addr) (O:AB),H p=none->O.Perm ws->O.Pairwise (λa b=>decide (b<a)=false)->Q (.ref p) (upd H p (.lst (Ts O)))):=by
 intro ao s σ H xs us Q I r h;let⟨d,kvs,ws,rfl,hd,hk,h64,q⟩:=h;let⟨u,rfl,ru⟩:=vals1 r;cases ru;let⟨hz,lo,vs,Z,dd⟩:=ZM I.hok hd;let⟨ep,hat⟩:=dd.dictAt;let hkv:=KV.keys Z;let J:vs.length=ws.length:=by let h1:=KV.length Z;let h2:=congrArg List.length hk;simp at h2;lia
 calc KH (W.kdu_collect (A:=X.A.in1) (W.kdl_dict (knd:=iD X.prog X.w) (kvs:=vs) (ep:=ep) lo) (I.ok.hd hc) hat (by rw[J];show am (aM p_)) λh' tk acc kk F=>?_);let hS:StrsAre acc.toList (ws.map S):=by
  let key:∀(l:List Value) (m:AB),l.length=m.length->(∀(j:Nat) v,l[j]?=some v->∃c,m[j]?=some c/\∃u,v=.str (S c) u)->StrsAre l (m.map S):=by
   intro l
   induction l with
   | nil=>intro m hl _;cases m with|nil=>show .nil|cons c r=>simp at hl
   | cons a r ih=>
    intro m hl hv;cases m with
    | nil=>simp at hl
    | cons c m=>
     let⟨c',e,u,rfl⟩:=hv 0 a rfl;let e':c=c':=by simpa using e
     subst e';show .cons _ u (ih m (by simpa using hl) λj v hj=>hv (j+1) v hj)
  calc key _ _ (by rw[fw,F.1,J]) λj v hj=>?_;let⟨k,x,hx,hi⟩:=F.2 j v (by simpa using hj);let G:(ws.map dz)[j]?=some k:=by rw[<-hk,hkv,ck,hx];rfl
  rw[ck]at G;cases hw:ws[j]? with
  | none=>rw[hw]at G;cases G
  | some c=>
   rw[hw]at G;let e:dz c=k:=by simpa using G
   subst e;calc⟨c,rL,?_⟩;rcases jm (show Bo (Sum.inr (S c)) v=true from hi) with⟨i,t,e1,_⟩|⟨y,t,e1,e2⟩;.cases e1
   .cases e1;show⟨t,e2⟩
 let I1:aV X ao σ H {s with heap:=h',toks:=tk}:=I.kept kk;calc⟨_,hS,by rw[fw,F.1,J];show h64,λh2 Y D e k2 he hS' pm so=>?_⟩;let es:D=(D.map λy=>y.cps.toList).map S:=by rw[fR];calc(kK _).symm.trans (fz λy _=>?_);show(ail y).symm
 let Qe:(D.map λy=>y.cps.toList).Perm ws:=by have:=pm.map λy:Str=>y.cps.toList;rw[fR]at this;let e:((λy:Str=>y.cps.toList) ∘ S)=id:=rfl;rw[e,kK]at this;show this
 let hv:Vals (Ts (D.map λy=>y.cps.toList)) Y:=by have:=rR hS';rw[es]at this;simpa [Ts,oz] using this
 let hl:(Ts (D.map λy=>y.cps.toList)).length<=sizeLine:=by rw[aa,Qe.length_eq];show am (aM p_)
 refine⟨.ref h'.objs.size,_,I1.laid (o:=.lst _) (t':=tk) k2 (al _) ⟨hl,Y,e,hv,he⟩,rL,q _ _ I1.fresh Qe (Eh D so)⟩
def QI.or (h1:QI X tg iter w1)(h2:QI X tg iter w2):QI X tg iter (λσ H R=>w1 σ H R\/w2 σ H R):=⟨λao s σ H R I h=>by
 rcases h with h|h;.show h1.out ao s σ H R I h
 .show h2.out ao s σ H R I h⟩
end
def bJ.keep {K:W.Frag}{xs:List V}(k:∀b o,H b=some o->b≠p->H' b=some o)(hp:∀o,H p=some o->(∀ys,o≠.lst ys)/\∀u ys,o≠.qG u (.lst ys))(h:bJ K H a xs):bJ K H' a xs:=by
 rcases h with(h|⟨o,h⟩)|h;.show .inl (.inl (k _ _ h λe=>(hp _ (e ▸ h)).1 _ rL))
 .show .inl (.inr ⟨o,k _ _ h λe=>(hp _ (e ▸ h)).2 _ _ rL⟩)
 .show .inr h
def aU.keep {K:W.Frag}{xs:List V}(k:∀b o,H b=some o->b≠p->H' b=some o)(hp:∀o,H p=some o->(∀ys,o≠.tup ys)/\∀u ys,o≠.qG u (.tup ys))(h:aU K H a xs):aU K H' a xs:=by
 rcases h with(h|⟨o,h⟩)|h;.show .inl (.inl (k _ _ h λe=>(hp _ (e ▸ h)).1 _ rL))
 .show .inl (.inr ⟨o,k _ _ h λe=>(hp _ (e ▸ h)).2 _ _ rL⟩)
 .show .inr h
end L2
namespace L2
open PySem PySem.Spec PyProof.Rows PySem.W
def af6:List V->Hp->VK->Prop:=λxs H Q=>∃l,xs=[.str (S l)]/\l.length<64/\∀(p:Addr) (j:List Nat),H p=none->j.Perm l->(j.map λc=>[c]).Pairwise (λa b=>decide (b<a)=false)->Q (.ref p) (upd H p (.lst (Ts (j.map λc=>[c]))))
section
variable {X:Cx}
def vN (hc:X.calm=true):jc X (.builtin "sorted") af6:=by
 intro ao s σ H xs us Q I r h;let⟨l,rfl,O,q⟩:=h;let⟨u,rfl,ru⟩:=vals1 r;let⟨t,rfl⟩:=ru;let hz:(S l).cps.size<=sizeLine:=by show l.length<=sizeLine;show am (aM p_)
 calc KH (wpAny_collect_str (A:=X.A.in1) (I.ok.hd hc) (S l) t (λs1 acc k1 k2 k3 k4 D=>?_) hz);let hS:=adE D;calc⟨_,hS,?_,λh' F j e kk he G pm J=>?_⟩;.rw[fw,D.1];show O
 let Z:aV X ao σ H s1:=by let I5:=I.kept (h':=s1.heap) (t':=s1.toks) k1;let⟨h',g',d',t'',o'⟩:=s1;simp only at k2 k3 k4;subst k2 k3 k4;show I5
 let Y:(j.map λy=>y.cps.toList.headD 0).Perm l:=by have:=pm.map λy:Str=>y.cps.toList.headD 0;rw[fR]at this;let e:((λy:Str=>y.cps.toList.headD 0) ∘ λc=>(⟨#[c]⟩:Str))=id:=rfl;rw[e,kK,afl]at this;show this
 let es:j=(j.map λy=>y.cps.toList.headD 0).map λc=>(⟨#[c]⟩:Str):=by rw[fR];calc(kK _).symm.trans (fz λy hy=>?_);let⟨c,_,rfl⟩:=be.mp (pm.mem_iff.mp hy);rfl
 let hn:H s1.heap.objs.size=none:=Z.fresh;let hv:Vals (Ts ((j.map λy=>y.cps.toList.headD 0).map λc=>[c])) F:=by have:=rR G;rw[es]at this;simpa [Ts,S,oz] using this
 let hl:(Ts ((j.map λy=>y.cps.toList.headD 0).map λc=>[c])).length<=sizeLine:=by rw[aa,aa,Y.length_eq];show am (aM p_)
 calc⟨.ref s1.heap.objs.size,_,Z.laid (o:=.lst _) (t':=s1.toks) kk (al _) ⟨hl,F,e,hv,he⟩,rL,q _ _ hn Y ?_⟩;let pw:=Eh j J;rw[es,fR]at pw;show pw
end
end L2
namespace L2
open PySem PySem.Spec PyProof.Rows
section
variable {X:Cx}
def akk (i j:Int):Prop:=0<j/\j.natAbs.log2<9000
def Je:gK X (binaryOp .FloorDiv) (rI akk λi j=>.int (i/j)):=opI λi j _ _ _ _ _ D q=>by let e:i.fdiv j=i/j:=nX _ (Int.le_of_lt D.1);rw[<-e]at q;show floordiv_int (Int.ne_of_gt D.1) q (.inl (PyProof.noPylong_of_log2 D.2))
def ak_:V->List V->Hp->VK->Prop:=λx vs H Q=>∃l,x=.str (S l)/\vs=[]/\l.length<=1000/\(∀c∈l,c<128)/\Q (.str (S (l.map up1))) H
def abz:yD X "str.upper" ak_:=by
 intro ao s σ H x vs v us Q I J G h;let⟨l,rfl,rfl,hz,ha,q⟩:=h;let⟨t,rfl⟩:=J;let D:=G.zero;subst D;let j:Builtin.Str.tooLong (Txt.upper (S l)).length=false:=fit_upper (by rw[rP];lia);calc call_gives F.slot_str_upper (typeIs_str s _ t) F.entry_str_upper (F.args_str_upper_1 _) (gives_str_upper (S l) t j) ⟨fit_le j,?_⟩;let e:Txt.upper (S l)=S (l.map up1):=by rw[upper_ascii (x:=S l) ha];simp[S]
 show⟨.str (S (l.map up1)),H,I.tok _,⟨s.toks,congrArg (λz=>Value.str z s.toks) e⟩,q⟩
def ala:V->List V->Hp->VK->Prop:=λx vs H Q=>∃l,x=.str (S l)/\vs=[]/\l.length<=1000/\(∀c∈l,c<128)/\Q (.str (S (l.map lo1))) H
def S8:yD X "str.lower" ala:=by
 intro ao s σ H x vs v us Q I J G h;let⟨l,rfl,rfl,hz,ha,q⟩:=h;let⟨t,rfl⟩:=J;let D:=G.zero;subst D;let j:Builtin.Str.tooLong (Txt.lower (S l)).length=false:=fit_lower (by rw[rP];lia);calc call_gives F.slot_str_lower (typeIs_str s _ t) F.entry_str_lower (F.args_str_lower_1 _) (gives_str_lower (S l) t j) ⟨fit_le j,?_⟩;let e:Txt.lower (S l)=S (l.map lo1):=by rw[lower_ascii (x:=S l) ha];simp[S]
 show⟨.str (S (l.map lo1)),H,I.tok _,⟨s.toks,congrArg (λz=>Value.str z s.toks) e⟩,q⟩
end
def Hg {l:List Nat}{g:TG}{tb:TS}{D:Ends}{σ:St}{H:Hp}(j:Nat->St->Hp->Prop)(h0:j 0 σ H)(hs:∀i c σ H,l[i]?=some c->j i σ H->g (.str (S [c])) σ H λσ2 G=>tb {D with nx:=j (i+1),ct:=j (i+1),bk:=D.nx} σ2 G)(hd:∀σ H,j l.length σ H->D.nx σ H):M7 (Its l) g tb D σ H:=Zr l.length j h0 (λi σ H h p=>⟨h,λx H' y=>by let⟨rfl,c,F,rfl⟩:=y;show hs i c σ _ F p⟩) λσ H p=>⟨al _,hd σ H p⟩
def AL:List Nat:=(List.range 26).map (97 + ·)
def wZ {α:Type}{xs:List α}(hn:xs.length=n)(h:0<n)(c):∃v,rO xs (c%(n:Int))=some v/\v∈xs:=by
 let h0:0<=c%(n:Int):=du _ p_;let h1:c%(n:Int)<n:=dP _ (Iff.mpr my h);obtain⟨k,hk⟩:∃k:Nat,c%(n:Int)=(k:Int):=⟨(c%(n:Int)).toNat,p_⟩
 rw[hk];let hl:k<xs.length:=by simp_all
 show⟨xs[k],aP (by simp[hl]),aS _⟩
inductive Dt where
 | non|int (i:Int)|str (l:List Nat)|tup (ds:List Dt)|lst (ds:List Dt)
mutual
def toP:Dt->PyData
 | .non=>.none
 | .int i=>.int i
 | .str l=>.str (S l)
 | .tup ds=>.tuple (nZ ds)
 | .lst ds=>.list (nZ ds)
def nZ:List Dt->List PyData
 | []=>[]
 | d::ds=>toP d::nZ ds
end
mutual
theorem ZR:∀d e:Dt,PyData.eqv (toP d) (toP e)=true↔d=e
 | .non,.non=>by simp[toP,PyData.eqv]
 | .non,.int _=>by simp[toP,PyData.eqv]
 | .non,.str _=>by simp[toP,PyData.eqv]
 | .non,.tup _=>by simp[toP,PyData.eqv]
 | .non,.lst _=>by simp[toP,PyData.eqv]
 | .int _,.non=>by simp[toP,PyData.eqv]
 | .int _,.int _=>by simp[toP,PyData.eqv]
 | .int _,.str _=>by simp[toP,PyData.eqv]
 | .int _,.tup _=>by simp[toP,PyData.eqv]
 | .int _,.lst _=>by simp[toP,PyData.eqv]
 | .str _,.non=>by simp[toP,PyData.eqv]
 | .str _,.int _=>by simp[toP,PyData.eqv]
 | .str a,.str b=>by simp only[toP,PyData.eqv,beq_iff_eq,Dt.str.injEq];show⟨yE,λz=>by rw[z]⟩
 | .str _,.tup _=>by simp[toP,PyData.eqv]
 | .str _,.lst _=>by simp[toP,PyData.eqv]
 | .tup _,.non=>by simp[toP,PyData.eqv]
 | .tup _,.int _=>by simp[toP,PyData.eqv]
 | .tup _,.str _=>by simp[toP,PyData.eqv]
 | .tup ds,.tup es=>by simp only[toP,PyData.eqv,Dt.tup.injEq];show S9 ds es
 | .tup _,.lst _=>by simp[toP,PyData.eqv]
 | .lst _,.non=>by simp[toP,PyData.eqv]
 | .lst _,.int _=>by simp[toP,PyData.eqv]
 | .lst _,.str _=>by simp[toP,PyData.eqv]
 | .lst _,.tup _=>by simp[toP,PyData.eqv]
 | .lst ds,.lst es=>by simp only[toP,PyData.eqv,Dt.lst.injEq];show S9 ds es
theorem S9:∀ds es:List Dt,PyData.eqvAll (nZ ds) (nZ es)=true↔ds=es
 | [],[]=>by simp[nZ,PyData.eqvAll]
 | [],_::_=>by simp[nZ,PyData.eqvAll]
 | _::_,[]=>by simp[nZ,PyData.eqvAll]
 | d::ds,e::es=>by simp only[nZ,PyData.eqvAll,cp,List.cons.injEq];rw[ZR d e,S9 ds es]
end
open Classical in
def Nh (d e:Dt):PyData.eqv (toP d) (toP e)=decide (d=e):=by
 by_cases h:d=e;.rw[ai h];show(ZR d e).mpr h
 .rw[ag h];cases z:PyData.eqv (toP d) (toP e) with| false=>rfl| true=>show absurd ((ZR d e).mp z) h
mutual
inductive jC (K:W.Frag) (H:Hp):Nat->Dt->V->Prop
 | non {n}:jC K H n .non .non
 | int {n} (i:Int):jC K H n (.int i) (.int i)
 | str {n} (l:List Nat) (h:∀c∈l,c<128):jC K H n (.str l) (.str (S l))
 | tup {n a ds xs} (h:aU K H a xs) (hs:dZ K H n ds xs):jC K H (n+1) (.tup ds) (.ref a)
 | lst {n a ds xs} (h:bJ K H a xs) (hs:dZ K H n ds xs):jC K H (n+1) (.lst ds) (.ref a)
inductive dZ (K:W.Frag) (H:Hp):Nat->List Dt->List V->Prop
 | nil {n}:dZ K H n [] []
 | cons {n d ds x xs} (h:jC K H n d x) (hs:dZ K H n ds xs):dZ K H n (d::ds) (x::xs)
end
def af7 (h:∀c∈l,c<128):PyData.strOk (S l)=true:=by unfold PyData.strOk;show l.toArray.all _=true;rw[Array.all_eq_true_iff_forall_mem];intro x hx;have:=h x (by simpa using hx);show ai p_
mutual
theorem jC.lay {K:W.Frag}:∀{n:Nat} {d:Dt} {x:V},jC K H n d x->(toP d).canLay0=true/\(toP d).depth<=n
 | _,_,_,.non=>by simp[toP,PyData.canLay0,PyData.depth]
 | _,_,_,.int _=>by simp[toP,PyData.canLay0,PyData.depth]
 | _,_,_,.str l h=>by simp only[toP,PyData.canLay0,PyData.depth];show⟨af7 h,eQ _⟩
 | _,_,_,.tup _ hs=>by simp only[toP,PyData.canLay0,PyData.depth];have:=hs.lay;show⟨this.1,gN this.2⟩
 | _,_,_,.lst _ hs=>by simp only[toP,PyData.canLay0,PyData.depth];have:=hs.lay;show⟨this.1,gN this.2⟩
theorem dZ.lay {K:W.Frag}:∀{n:Nat} {ds:List Dt} {xs:List V},dZ K H n ds xs->PyData.canLayAll0 (nZ ds)=true/\PyData.depthAll (nZ ds)<=n
 | _,_,_,.nil=>by simp[nZ,PyData.canLayAll0,PyData.depthAll]
 | _,_,_,.cons h hs=>by let a:=h.lay;let b:=hs.lay;simp only[nZ,PyData.canLayAll0,PyData.depthAll,cp];show⟨⟨a.1,b.1⟩,Nat.max_le.mpr ⟨a.2,b.2⟩⟩
end
mutual
theorem jC.same {K:W.Frag}(j:aD H H')(st:∀a xs,aU K H a xs->aU K H' a xs):∀{n:Nat} {d:Dt} {x:V},jC K H n d x->jC K H' n d x
 | _,_,_,.non=>.non
 | _,_,_,.int i=>.int i
 | _,_,_,.str l h=>.str l h
 | _,_,_,.tup h hs=>.tup (st _ _ h) (hs.same j st)
 | _,_,_,.lst h hs=>.lst (j.seq h) (hs.same j st)
theorem dZ.same {K:W.Frag}(j:aD H H')(st:∀a xs,aU K H a xs->aU K H' a xs):∀{n:Nat} {ds:List Dt} {xs:List V},dZ K H n ds xs->dZ K H' n ds xs
 | _,_,_,.nil=>.nil
 | _,_,_,.cons h hs=>.cons (h.same j st) (hs.same j st)
end
section
variable {X:Cx}
mutual
theorem jC.reads {ao:AH}{σ:St}{H:Hp}{s:Shared}(I:aV X ao σ H s):∀{n:Nat} {d:Dt} {x:V} {u:Value},jC X.K H n d x->cR x u->∃as,Reads s.heap u (toP d) as
 | _,_,_,u,.non,r=>by cases r;show⟨[],by rw[toP];show .none⟩
 | _,_,_,u,.int i,r=>by let⟨t,rfl⟩:=r;show⟨[],by rw[toP];show .int i t⟩
 | _,_,_,u,.str l h,r=>by let⟨t,rfl⟩:=r;show⟨[],by rw[toP];show .str _ t⟩
 | _,_,_,u,.tup h hs,r=>by cases r;let⟨its,F,pl,_⟩:=I.tuple h;let⟨as,G⟩:=hs.reads I F;let⟨o,D,j,n,hd⟩:=pl;show⟨as,by rw[toP];show .tuple D j hd (by simpa using G)⟩
 | _,_,_,u,.lst h hs,r=>by cases r;let⟨its,F,pl,_⟩:=I.list h;let⟨as,G⟩:=hs.reads I F;let⟨o,D,j,n,hd⟩:=pl.isList;show⟨_::as,by rw[toP];show .list D j hd (by simpa using G)⟩
theorem dZ.reads {ao:AH}{σ:St}{H:Hp}{s:Shared}(I:aV X ao σ H s):∀{n:Nat} {ds:List Dt} {xs:List V} {us:List Value},dZ X.K H n ds xs->Vals xs us->∃as,ReadsAll s.heap us (nZ ds) as
 | _,_,_,us,.nil,r=>by cases r;show⟨[],by rw[nZ];show .nil⟩
 | _,_,_,us,.cons h hs,r=>by
  cases r with| cons q t=>let⟨as,a⟩:=h.reads I q;let⟨bs,b⟩:=hs.reads I t;show⟨as++bs,by rw[nZ];show .cons a b⟩
end
def jC.shaped {K:W.Frag}{n:Nat}{d:Dt}{x:V}(h:jC K H n d x)(hn:n<=64):SeqAt.shaped (toP d)=true:=by unfold SeqAt.shaped;rw[h.lay.1,ai (bE h.lay.2 hn)];rfl
open Classical in
def ais (K:W.Frag)(j:Bool):R2:=λx y H Q=>∃n d e,n<=64/\jC K H n d x/\jC K H n e y/\Q (.bl (if j then !decide (d=e) else decide (d=e))) H
def vh (D:X.A.units+64<cLine):gK X (compareOp .Eq) (ais X.K false):=by intro ao s σ H x y v u Q I O F h;let⟨n,d,e,hn,hd,j,q⟩:=h;let⟨as,J⟩:=hd.reads I O;let⟨bs,G⟩:=j.reads I F;calc SeqAt.compareEq_shaped J G (hd.shaped hn) (j.shaped hn) D ⟨.bl _,H,I,rL,?_⟩;rw[Nh];show q
def Ei (D:X.A.units+64<cLine):gK X (compareOp .NotEq) (ais X.K true):=by intro ao s σ H x y v u Q I O F h;let⟨n,d,e,hn,hd,j,q⟩:=h;let⟨as,J⟩:=hd.reads I O;let⟨bs,G⟩:=j.reads I F;calc SeqAt.compareNe_shaped J G (hd.shaped hn) (j.shaped hn) D ⟨.bl _,H,I,rL,?_⟩;rw[Nh];show q
def ait (K:W.Frag):V->List V->Hp->VK->Prop:=λx vs H Q=>∃p ls,x=.str (S [])/\vs=[.ref p]/\aU K H p (Ts ls)/\ls.flatten.length<=1000/\Q (.str (S ls.flatten)) H
def Jf:yD X "str.join" (ait X.K):=by
 intro ao s σ H x vs v us Q I G F h;let⟨p,ls,rfl,rfl,j,hz,q⟩:=h;let⟨t,rfl⟩:=G;let⟨u,rfl,D⟩:=vals1 F;cases D;let⟨its,r,pl,_⟩:=I.tuple j;refine join_tuple pl (ys:=ls.map S) (by simpa using G_ r) ?_ λt' k=>?_
 .rw[XJ];show _+_*0<=_;lia
 .show⟨.str (S ls.flatten),H,I.tok k,⟨t',congrArg (λz=>Value.str z t') (XH ls)⟩,q⟩
def Bv (lo c:Int)(n:Nat):It:=⟨λi _=>i<n,λi H x H'=>H'=H/\x=.int (lo+i*c),λi _=>n<=i⟩
def Ii {P:Program}{w:World}{K:W.Frag}{tg:Expr}(it:Addr)(lo c:Int)(n:Nat):Turn P w K tg (Bv lo c n) [it] it (λi h=>IsRangeIter h it (lo+(i:Nat)*c) ((n:Int)-(i:Nat)) c) where
 mem:=by simp
 obj:=λi h st b hb=>by
  let e:b=it:=by simpa using hb
  subst e;show⟨_,st,λv z=>by let z':Data.fields _=Data.cell v:=z;cases z'⟩
 keep:=λi h h' st k=>k it qa _ st
 item:=by intro X G hw J F i ao s σ H E I D st O;subst G hw J;let⟨f0,f1,f2,f3,f4,f5⟩:=D it qa;let W:=Walks.range (prog:=X.prog) (w:=X.w) (I.ok.hd F) it lo c n;calc W.item i s _ _ O st λv h' tk Z j kk=>?_;let⟨t,rfl⟩:=Z;let Y:aV X ao σ H {s with heap:=h',toks:=tk}:=I.turned (λb o hb e=>kk b o (by simpa using hb) e) f0 f1 f3 f4 f5;show⟨_,rL,Kp (s:={s with heap:=h',toks:=tk}) (n:="range_iterator") j rL rL qc ⟨.int (lo+i*c),H,Y,⟨t,rL⟩,⟨rL,rL⟩,j,λb hb=>(D b hb).1⟩⟩
 done:=by intro X G hw J F i ao s σ H E I D st O;subst G hw J;let⟨f0,f1,f2,f3,f4,f5⟩:=D it qa;show wpAny_pyNext_range_end (I.ok.hd F) st (by have:n<=i:=O;lia) λh' eb=>⟨rL,I.turned (t':=s.toks) (λb o hb e=>eb b o hb e) f0 f1 f3 f4 f5⟩
 self:=λ_ _ _ _ _ st h=>wpAny_pyIter_rangeiter st h
variable {tg:Expr}
def akl (ta:TA):TI:=λσ H R=>ta σ H λvs H1=>∃r c:Nat,vs=[.int 0,.int ((r*c:Nat):Int),.int (c:Int)]/\1<=r/\r<=9/\1<=c/\c<=9/\R (Bv 0 c r) H1
def aiu:∀r c:Fin 10,1<=r.val->1<=c.val->Builtin.Range.small 0 ((r.val*c.val:Nat):Int) (c.val:Int)=true/\Builtin.Range.rangeSize 0 ((r.val*c.val:Nat):Int) (c.val:Int)=(r.val:Int):=by decide +kernel
def abA {a b c:Expr}{ta:TA}{p pos:Pos}(hg:Gl X "range")(hm:X.mg "range"=none)(ha:QA X [a,b,c] ta)(hs:starEach [a,b,c] X.env=[(false,eval a X.env),(false,eval b X.env),(false,eval c X.env)]:=by rfl)(j:starEach [b,c] X.env=[(false,eval b X.env),(false,eval c X.env)]:=by rfl):QI X tg (.Call (.Name "range" p) [a,b,c] [] pos) (akl ta):=⟨by
 intro ao s σ H R I h;calc Call_ (rM I hg hm boot_range (eK (cH (ha.out pos ao s σ H _ I h) λus s1 Y=>?_) (by rw[hs,j]) (by rw[j];rfl)));let⟨vs,H1,Z,r1,q1⟩:=Y;let⟨r,c,e,q1,q2,q3,q4,q⟩:=q1;subst e;cases r1 with
 | cons r1 rr=>
  cases rr with
  | cons r2 rr=>
   cases rr with
   | cons r3 rr=>
    cases rr;let⟨D,rfl⟩:=r1;let⟨F,rfl⟩:=r2;let⟨G,rfl⟩:=r3;let⟨O,sz⟩:=aiu ⟨r,Nat.lt_succ_of_le q2⟩ ⟨c,p_⟩ q1 q3;calc call_range_3 p_ ?_ (.inl (lL (by simp_all;lia)));calc nK (IsRange.new ..) O ?_;let J:aV X ao σ H1 {s1 with heap:=s1.heap.push {cls:=.type "range",data:=.fields #[.int 0 D,.int ((r*c:Nat):Int) F,.int (c:Int) G]},toks:=s1.toks}:=Z.kept λb o e=>af _ e;refine⟨(s1.heap.push {cls:=.type "range",data:=.fields #[.int 0 D,.int ((r*c:Nat):Int) F,.int (c:Int) G]}).objs.size,[(s1.heap.push {cls:=.type "range",data:=.fields #[.int 0 D,.int ((r*c:Nat):Int) F,.int (c:Int) G]}).objs.size],_,_,H1,rL,
     J.kept (t':=s1.toks) λb o e=>af _ e,Ii _ 0 (c:Int) r,?_,λb hb=>?_,q⟩
    .let e1:(0:Int)+((0:Nat):Int)*(c:Int)=0:=qa;let e2:(r:Int)-((0:Nat):Int)=Builtin.Range.rangeSize 0 ((r*c:Nat):Int) (c:Int):=by rw[sz];simp
     show IsRangeIter _ _ ((0:Int)+((0:Nat):Int)*(c:Int)) ((r:Int)-((0:Nat):Int)) (c:Int);rw[e1,e2];show ba _ rfl
    .let e:b=(s1.heap.push {cls:=.type "range",data:=.fields #[.int 0 D,.int ((r*c:Nat):Int) F,.int (c:Int) G]}).objs.size:=by simpa using hb
     subst e;show J.zy (al _) (J.hok.fresh (al _))⟩
end
def Wx {lo c:Int}{n:Nat}{D:Addr}{te:TE}{σ:St}{H:Hp}{R:Hp->Prop}(j:Nat->List V->Hp->Prop)(h0:j 0 [] (upd H D (.lst [])))(hs:∀i ys H,i<n->j i ys H->te (some (.int (lo+i*c))::σ) H λy F=>F D=some (.lst ys)/\ys.length<sizeLine/\iW n i (j (i+1) (ys++[y]) (upd F D (.lst (ys++[y])))))(hd:∀ys H,j n ys H->R H):∃W:Nat->Nat->List V->Hp->Prop,(∃m,W 0 m [] (upd H D (.lst [])))/\
   ∀i m ys H,W i m ys H->((Bv lo c n).stop i H/\R H)\/((Bv lo c n).go i H/\∀x H',(Bv lo c n).Ko i H x H'->mW (some x::σ) H' λb J=>
    if b=true then te (some x::σ) J λy F=>F D=some (.lst ys)/\ys.length<sizeLine/\∃I,I<m/\W (i+1) I (ys++[y]) (upd F D (.lst (ys++[y])))
    else ∃I,I<m/\W (i+1) I ys J):=by
 calc⟨λi m ys H=>m=n-i/\i<=n/\j i ys H,⟨n,qa,eQ _,h0⟩,?_⟩;intro i m ys H z;let⟨rfl,hi,p⟩:=z;by_cases G:i<n
 .calc .inr ⟨G,λx H' y=>?_⟩;let⟨e,y⟩:=y;subst e y;show hs i ys H' G p
 .let e:i=n:=p_;subst e;show .inl ⟨al _,hd ys H p⟩
def rm {K:W.Frag}{a D:Addr}{xs:List V}{te:TE}{σ:St}{H:Hp}{R:Hp->Prop}(j:Nat->List V->Hp->Prop)(h0:j 0 [] (upd H D (.lst [])))(hl:∀i ys H,i<=xs.length->j i ys H->aU K H a xs)(hs:∀i x ys H,xs[i]?=some x->j i ys H->te (some x::σ) H (Nf xs.length i D ys (j (i+1))))(hd:∀ys H,j xs.length ys H->R H):Ec (Itt K a) D H R (ZQ σ mW te):=RL j h0 hl hs hd
section
variable {X:Cx}{x:Str}{pos:Pos}
def uL (j:Gl X x)(hm:∃t,X.mg x=some (.str (S l) t))(hd:(x==("__debug__":Str))=false:=by decide):QE X (.Name x pos) (tC (.str (S l))):=let ⟨t,e⟩:=hm;lq j e ⟨t,rL⟩ hd
def ZS (j:Gl X x)(hm:∃t,X.mg x=some (.int i t))(hd:(x==("__debug__":Str))=false:=by decide):QE X (.Name x pos) (tC (.int i)):=let ⟨t,e⟩:=hm;lq j e ⟨t,rL⟩ hd
def S_ (j:QE X o to)(hi:QE X i ti)(hs:ada X t)(ha:∀v,assign (.Subscript o i pos) X.env v=(do
   let ov <- holding [v] (eval o X.env)
   let iv <- holding [v,ov] (eval i X.env)
   standAt pos
   holding [v,ov,iv] (setItem ov iv v)
   release [v,ov,iv] []):=by intro _;rfl):QG X (.Subscript o i pos) (ahO to ti t):=⟨ahP j.out hi.out hs ha⟩
end
def jT:bootBuiltins "all"=some (.builtin "all"):=by decide +kernel
def Qf:bootBuiltins "any"=some (.builtin "any"):=by decide +kernel
def Tc {K:W.Frag}(X:K.In h)(G:h.Ns mainGlobals mg)(a:W.nsIn K mainGlobals x=some (some (.str (S l) t))):∃t,mg x=some (.str (S l) t):=⟨t,cf X G a⟩
def Td {K:W.Frag}(X:K.In h)(G:h.Ns mainGlobals mg)(a:W.nsIn K mainGlobals x=some (some (.int i t))):∃t,mg x=some (.int i t):=⟨t,cf X G a⟩
section
variable {X:Cx}
def adH (K:W.Frag)  (h:X.K=K:=by rfl):Ih X (ah7 K):=by subst h;show gH
def rE (K:W.Frag)  (h:X.K=K:=by rfl):Ih X (ah8 K):=by subst h;show bD
def adI (K:W.Frag)  (h:X.K=K:=by rfl):Xu X (aia K):=by subst h;show wY
def Tf (K:W.Frag)  (h:X.K=K:=by rfl):jc X (.builtin "isinstance") (afn K):=by subst h;show fU
def Jg (K:W.Frag)  (h:X.K=K:=by rfl):yD X "str.join" (rJoin K):=by subst h;show rC
def Tg {name:Str}{apos cpos:Pos}{T id:String}(K:W.Frag)(O:PlainAttrs T)(slot:Slot T name id)(I:typeOf (.builtin id)=pure (.type "method_descriptor"))(hm:yD X id r)(J:QE X o to)(ha:QA X (e::es) t)(F:attributeBase o name X.env (eval o X.env)=eval o X.env:=by rfl)(G:((backTo cpos (starEach (e::es) X.env)).all (λx=>!x.1)&&(backToKw cpos (keywordEach [] X.env)).all (λx=>x.1.isSome)
   && decide ((e::es).length+([]:List Keyword).length+(if ([]:List Keyword).isEmpty then 0 else 1)<30))=true:=by rfl) (D:(apos.endLine==cpos.line)=true:=by rfl) (hs:starEach (e::es) X.env=(false,eval e X.env)::starEach es X.env:=by rfl) (j:(backTo cpos (starEach es X.env)).any (·.1)=false:=by rfl) (h:X.K=K:=by rfl):QE X (.Call (.Attribute o name apos) (e::es) [] cpos) (tBM K T r to t):=by subst h;show gP O slot I hm J ha F G D hs j
end
def jM (l:List Nat):List Nat:=l.takeWhile λc=>c != 46
def jd (l:List Nat):List Nat:=(l.reverse.takeWhile λc=>c != 46).reverse
theorem Jh:∀{l:List Nat} {i:Nat},l[i]?=some 46->(∀k,k<i->l[k]?≠some 46)->jM l=l.take i
 | [],i,h,_=>by simp at h
 | c::l,0,h,_=>by
  have:c=46:=by simpa using h
  subst this;simp[jM]
 | c::l,i+1,h,hk=>by let F:c≠46:=λe=>hk 0 p_ (by simp[e]);let D:=Jh (l:=l) (i:=i) (by simpa using h) (λk j=>by have:=hk (k+1) (Nat.succ_lt_succ j);simpa using this);unfold jM at D ⊢;rw[n9 (by simpa using F),D,List.take_succ_cons]
def Qg (h:46∉l):jM l=l:=by
 unfold jM
 induction l with| nil=>rfl| cons c r ih=>have j:c≠46:=λe=>h (by rw[e];show cq);rw[n9 (by simpa using j),ih λz=>h (bz _ z)]
def abB (h:46∉l):jd l=l:=by have:=Qg (l:=l.reverse) (by simpa using h);unfold jM at this;unfold jd;rw[this,List.reverse_reverse]
def adJ (h:l[i]?=some 46)(j:∀k,i<k->l[k]?≠some 46):jd l=l.drop (i+1):=by
 let hi:i<l.length:=(ah.mp h).1;let e:jM l.reverse=l.reverse.take (l.length-(i+1)):=by
  refine Jh ?_ λk D=>?_
  .rw[List.getElem?_reverse (Nat.sub_lt_left_of_lt_add p_ p_),show l.length-1-(l.length-(i+1))=i by lia];show h
  .rw[List.getElem?_reverse (by simp[Nat.sub_le_iff_le_add,Nat.lt_sub_iff_add_lt]at *;lia)];show j _ (by simp[Nat.sub_le_iff_le_add,Nat.lt_sub_iff_add_lt]at *;lia)
 unfold jM at e;unfold jd;rw[e,List.take_reverse,List.reverse_reverse,show l.length-(l.length-(i+1))=i+1 by rw[Nat.sub_sub_self (by assumption)]]
def abC (l:List Nat)(n:Nat):iM l none (some (n:Int))=l.take n:=by
 unfold iM;rw[HT.mj];show (l.drop 0).take (min n l.length-0)=_;rw[kf,Nat.sub_zero];by_cases h:n<=l.length;.rw[fA h]
 .rw[ku p_,cv (al _),cv p_]
def Ti (l:List Nat)(n:Nat):iM l (some (n:Int)) none=l.drop n:=by
 unfold iM;rw[HT.mj];show (l.drop (min n l.length)).take (l.length-min n l.length)=_;rw[cv (by rw[bd];lia)];by_cases h:n<=l.length;.rw[fA h]
 .rw[ku p_,g9 (al _),g9 p_]
def afo (l)(i j):Builtin.Str.strSub (S l) i j=S ((l.take j).drop i):=by unfold Builtin.Str.strSub S;congr 1;apply pi.mp;simp[List.drop_take]
section
variable {X:Cx}
def abD (l):(Txt.partition (S l) (S [46])).1=S (jM l):=by
 rcases partition_head (S l) (S [46]) with⟨e,h⟩|⟨i,e,h,D⟩
 .rw[e,Qg λhm=>?_];let⟨i,hi⟩:=List.mem_iff_getElem?.mp hm;show h i ((io (S l) 46 i).mpr hi)
 .rw[e,afo,kf,Jh (l:=l) ((io (S l) 46 i).mp h) λk j z=>D k j ((io (S l) 46 k).mpr z)]
def ZV (l):(Txt.rpartition (S l) (S [46])).2.2=S (jd l):=by
 unfold Txt.rpartition;rcases StrLaws.last_spec (S l) (S [46]) with⟨e,h⟩|⟨i,e,h,D⟩
 .rw[e];show S l=_;rw[abB λhm=>?_];let⟨i,hi⟩:=List.mem_iff_getElem?.mp hm;show h i ((io (S l) 46 i).mpr hi)
 .rw[e];show Builtin.Str.strSub (S l) (i+1) l.length=_;rw[afo,cv (al _),adJ (l:=l) ((io (S l) 46 i).mp h) λk j z=>D k j ((io (S l) 46 k).mpr z)]
def akm:V->List V->Hp->VK->Prop:=λx vs H Q=>∃l,x=.str (S l)/\vs=[.str (S [46])]/\l.length<=1000/\∀(p:Addr) (b c:Str),H p=none->Q (.ref p) (upd H p (.tup [.str (S (jM l)),.str b,.str c]))
def af8:yD X "str.partition" akm:=by
 intro ao s σ H x vs v us Q I O G h;let⟨l,rfl,rfl,hz,q⟩:=h;let⟨t,rfl⟩:=O;let⟨u,rfl,D⟩:=vals1 G;let⟨J,rfl⟩:=D;let hsz:(S l).length<=sizeLine:=am (aM hz);calc call_meets F.slot_str_partition (typeIs_str _ _ _) F.entry_str_partition (F.args_str_partition_2 _ _) (meets_str_partition (S l) (S [46]) t J rL hsz) ?_;let e:=abD l;let j:=λb c=>q s.heap.objs.size b c (I.hok.fresh (al _));rw[<-e]at j;unfold Txt.partition at j
 revert j
 cases Builtin.Str.occurrences (S l) (S [46]) 0 (S l).length 1 with| nil=>intro j;calc⟨.ref s.heap.objs.size,_,I.laid (o:=.tup _) (t':=s.toks+1) (λb ob z=>af _ z) (al _) ?_,rL,j Str.empty Str.empty⟩;show⟨zsz 3,_,.cons ⟨_,rL⟩ (.cons ⟨_,rL⟩ (.cons ⟨_,rL⟩ .nil)),⟨_,ba _ rL,rL,0,rL⟩⟩| cons i r=>intro j;calc⟨.ref s.heap.objs.size,_,I.laid (o:=.tup _) (t':=s.toks+1+1) (λb ob z=>af _ z) (al _) ?_,rL,j (S [46]) (Builtin.Str.strSub (S l) (i+(S [46]).length) (S l).length)⟩;show⟨zsz 3,_,.cons ⟨_,rL⟩ (.cons ⟨_,rL⟩ (.cons ⟨_,rL⟩ .nil)),⟨_,ba _ rL,rL,0,rL⟩⟩
def aiv:V->List V->Hp->VK->Prop:=λx vs H Q=>∃l,x=.str (S l)/\vs=[.str (S [46])]/\l.length<=1000/\∀(p:Addr) (a b:Str),H p=none->Q (.ref p) (upd H p (.tup [.str a,.str b,.str (S (jd l))]))
def adK:yD X "str.rpartition" aiv:=by
 intro ao s σ H x vs v us Q I O G h;let⟨l,rfl,rfl,hz,q⟩:=h;let⟨t,rfl⟩:=O;let⟨u,rfl,D⟩:=vals1 G;let⟨J,rfl⟩:=D;let hsz:(S l).length<=sizeLine:=am (aM hz);calc call_meets F.slot_str_rpartition (typeIs_str _ _ _) F.entry_str_rpartition (F.args_str_rpartition_2 _ _) (meets_str_rpartition (S l) (S [46]) t J rL hsz) ?_;let e:=ZV l;let j:=λb c=>q s.heap.objs.size b c (I.hok.fresh (al _));rw[<-e]at j;unfold Txt.rpartition at j
 revert j
 cases Builtin.Str.lastOccurrence (S l) (S [46]) 0 (S l).length with| none=>intro j;calc⟨.ref s.heap.objs.size,_,I.laid (o:=.tup _) (t':=s.toks+1) (λb ob z=>af _ z) (al _) ?_,rL,j Str.empty Str.empty⟩;show⟨zsz 3,_,.cons ⟨_,rL⟩ (.cons ⟨_,rL⟩ (.cons ⟨_,rL⟩ .nil)),⟨_,ba _ rL,rL,0,rL⟩⟩| some i=>intro j;calc⟨.ref s.heap.objs.size,_,I.laid (o:=.tup _) (t':=s.toks+1+1) (λb ob z=>af _ z) (al _) ?_,rL,j (Builtin.Str.strSub (S l) 0 i) (S [46])⟩;show⟨zsz 3,_,.cons ⟨_,rL⟩ (.cons ⟨_,rL⟩ (.cons ⟨_,rL⟩ .nil)),⟨_,ba _ rL,rL,0,rL⟩⟩
end
def adL {X:Cx}{j iter tg:Expr}{ns N2:List Str}{f:St->St}{TP:V->Hp->(St->Prop)->Prop}{ifs:List Expr}{scope:Scope}{wi:TI}(G:X.calm=true)(ok:jX X scope ns N2 f)(hi:PI X tg iter wi)(Y:∀cl C s₀ H₀ fp,Qa (iw X scope cl C (ns++N2) s₀ H₀ fp) tg ns.length TP)(ht:∀cl C s₀ H₀ fp,XC (iw X scope cl C (ns++N2) s₀ H₀ fp) ifs tt)(O:∀cl C s₀ H₀ fp,PE (iw X scope cl C (ns++N2) s₀ H₀ fp) j te)(hs:∀x,foldedSetIterable iter X.env x=pure x:=by intro _;rfl):PE X (.ListComp j [⟨tg,iter,ifs,0⟩] scope pos) (Ed f ns.length wi TP tt te):=λao s σ H Q I h=>by rw[eval_ListComp];show Ef G ok hi Y ht O hs I h λD C F Z m hn bk _ q=>⟨m,hn,λh' J=>⟨.ref D,F,bk h' J,rL,q⟩⟩
def j4 (j:List Nat):Nat->St->St
 | _,[]=>[]
 | i,v::r=>(if j.contains i=true then none else v)::j4 j (i+1) r
theorem Qh (ks):∀(i:Nat) (σ:St),(j4 ks i σ).length=σ.length
 | _,[]=>rfl
 | i,_::r=>by rw[j4,dE,dE,Qh ks (i+1) r]
theorem Qi (ks):∀(i:Nat) (σ:St) (j:Nat) (v:V),(j4 ks i σ)[j]?=some (some v)->ks.contains (i+j)=false/\σ[j]?=some (some v)
 | _,[],j,v,h=>by simp[j4]at h
 | i,x::r,0,v,h=>by
  rw[j4]at h;cases e:ks.contains i with| true=>rw[e]at h;simp at h| false=>rw[e]at h;show⟨by first|rfl|show e,by simpa using h⟩
 | i,x::r,j+1,v,h=>by rw[j4,List.getElem?_cons_succ]at h;let⟨a,b⟩:=Qi ks (i+1) r j v h;show⟨by rw[show i+(j+1)=i+1+j by lia];show a,by rw[List.getElem?_cons_succ];show b⟩
noncomputable def aiw (sc:Scope)(N:List Str)(scope:Scope)(N2:List Str)(j:List Nat):Bool:=scope.kind == .function&&scope.names.all (λy=>y.2 != .cell)&&scope.names.all (λy=>y.2 != .local||scope.names.lookup y.1==some .local) &&
 scope.names.all (λy=>y.2 != .free||sc.names.lookup y.1==some .cell||sc.names.lookup y.1==some .free)&&N2.length==N.length &&
 (List.range N.length).all (λi=>j.contains i||(N2[i]? == N[i]? && (N[i]?.map λy=>scope.names.lookup y != some .local)==some true))
def jX.of {X:Cx}(N2)(ks)(h:aiw X.env.scope X.N scope N2 ks=true):jX X scope ns N2 (j4 ks 0):=by
 unfold aiw at h;simp only[cp,fk,pk,bne_iff_ne,beq_iff_eq,ne_eq]at h;obtain⟨⟨⟨⟨⟨h1,h2⟩,h3⟩,h5⟩,D⟩,h7⟩:=h;refine⟨h1,λy hy=>h2 y hy,λy hy e=>(h3 y hy).resolve_left λz=>z e,λy hy e=>?_,Qh ks 0,D,λσ i y v e1 e2=>?_⟩
 .rcases h5 y hy with(z|z)|z;.show absurd e z
  .show .inl z
  .show .inr z
 .let⟨a,b⟩:=Qi ks 0 σ i v e2;rw[Nat.zero_add]at a;let hi:i<X.N.length:=by rw[<-D];show(ah.mp e1).1
  rcases h7 i (gI.mpr hi) with z|⟨F,j⟩;.rw[a]at z;cases z
  .rw[<-F,e1]at j;rw[F]at e1;show⟨e1,b,by simpa using j⟩
def af9 {X:Cx}{scope:Scope}{N:List Str}(K:W.Frag)(O:X.calm=true)(F:N.Nodup)(h0:N[0]?=some x)(h1:N[1]?=some y)(hx:scope.names.lookup x=some .local)(hy:scope.names.lookup y=some .local)(Y:X.K=K:=by rfl):Qa (iw X scope cl C N s₀ H₀ fp) (.Tuple [.Name x px,.Name y py] k pos) 2 (λv H Q=>∃a p q,v=.ref a/\aU K H a [p,q]/\Q [some p,some q]):=by
 subst Y;intro ao s pre rest H v u Q hp I r q;let⟨a,p,j,rfl,G,q⟩:=q;obtain⟨D,p1,rfl⟩:∃D p1,pre=[D,p1]:=by
  match pre,hp with| [D,p1],_=>show⟨D,p1,rL⟩
 let P:PG (iw X scope cl C N s₀ H₀ fp) (.Tuple [.Name x px,.Name y py] k pos) (Zn X.K 2 (Bq (rN 0) (Bq (rN 1) Zm))):=Sg (X:=iw X scope cl C N s₀ H₀ fp) O (tZ (tY (i:=0) F h0 (.inl (lookup_relabel_local hx)) (.inr (lookup_relabel_local hx))) (tZ (tY (i:=1) F h1 (.inl (lookup_relabel_local hy)) (.inr (lookup_relabel_local hy))) M5));refine cH (P ao s _ H (.ref a) u (λσ' H'=>H'=H/\σ'=some p::some j::rest) I r
  ⟨a,[p,j],rL,G,rL,p,[j],rL,j,[],rL,rL,rL,rL⟩) λ_ s' ⟨σ',H',J,e1,e2⟩=>?_
 subst e1 e2;show⟨[some p,some j],rL,J,q⟩
def qg {X:Cx}{scope:Scope}{N:List Str}(K:W.Frag)(Y:X.calm=true)(G:N.Nodup)(h0:N[0]?=some x)(h1:N[1]?=some y)(h2:N[2]?=some z)(hx:scope.names.lookup x=some .local)(hy:scope.names.lookup y=some .local)(hz:scope.names.lookup z=some .local)(Z:X.K=K:=by rfl):Qa (iw X scope cl C N s₀ H₀ fp) (.Tuple [.Name x px,.Name y py,.Name z pz] k pos) 3 (λv H Q=>∃a p q r,v=.ref a/\aU K H a [p,q,r]/\Q [some p,some q,some r]):=by
 subst Z;intro ao s pre rest H v u Q hp I r q;let⟨a,p,D,j,rfl,J,q⟩:=q;obtain⟨F,p1,p2,rfl⟩:∃F p1 p2,pre=[F,p1,p2]:=by
  match pre,hp with| [F,p1,p2],_=>show⟨F,p1,p2,rL⟩
 let P:PG (iw X scope cl C N s₀ H₀ fp) (.Tuple [.Name x px,.Name y py,.Name z pz] k pos) (Zn X.K 3 (Bq (rN 0) (Bq (rN 1) (Bq (rN 2) Zm)))):=Sg (X:=iw X scope cl C N s₀ H₀ fp) Y (tZ (tY (i:=0) G h0 (.inl (lookup_relabel_local hx)) (.inr (lookup_relabel_local hx))) (tZ (tY (i:=1) G h1 (.inl (lookup_relabel_local hy)) (.inr (lookup_relabel_local hy))) (tZ (tY (i:=2) G h2 (.inl (lookup_relabel_local hz)) (.inr (lookup_relabel_local hz))) M5)));refine cH (P ao s _ H (.ref a) u (λσ' H'=>H'=H/\σ'=some p::some D::some j::rest) I r
  ⟨a,[p,D,j],rL,J,rL,p,[D,j],rL,D,[j],rL,j,[],rL,rL,rL,rL⟩) λ_ s' ⟨σ',H',O,e1,e2⟩=>?_
 subst e1 e2;show⟨[some p,some D,some j],rL,O,q⟩
def mY {X:Cx}{j iter tg:Expr}{ns N2:List Str}{f:St->St}{TP:V->Hp->(St->Prop)->Prop}{ifs:List Expr}{scope:Scope}{wi:TI}(F:X.calm=true)(ok:jX X scope ns N2 f)(hi:QI X tg iter wi)(D:∀cl C s₀ H₀ fp,Qa (iw X scope cl C (ns++N2) s₀ H₀ fp) tg ns.length TP)(ht:∀cl C s₀ H₀ fp,QTs (iw X scope cl C (ns++N2) s₀ H₀ fp) ifs tt)(G:∀cl C s₀ H₀ fp,QE (iw X scope cl C (ns++N2) s₀ H₀ fp) j te)(hs:∀x,foldedSetIterable iter X.env x=pure x:=by intro _;rfl):QE X (.ListComp j [⟨tg,iter,ifs,0⟩] scope pos) (Ed f ns.length wi TP tt te):=⟨adL F ok hi.out D (λcl C s₀ H₀ fp=>(ht cl C s₀ H₀ fp).out) (λcl C s₀ H₀ fp=>(G cl C s₀ H₀ fp).out) hs⟩
def RN (n i:Nat)(D:Addr)(TP:V->Hp->(St->Prop)->Prop)(f:St->St)(σ:St)(tt:TT)(te:TE)(x:V)(H:Hp)(ys:List V)(P:List V->Hp->Prop):Prop:=TgB TP f σ tt te x H (Nf n i D ys P) λj=>iW n i (P ys j)
noncomputable def KJ {K:W.Frag}{a:Addr}{f:St->St}{σ:St}{tt:TT}{te:TE}:=@RL (λH=>aU K H a) (TgB (λv _ Q=>Q [some v]) f σ tt te)
noncomputable def kY {K KT:W.Frag}{a:Addr}{f:St->St}{σ:St}{tt:TT}{te:TE}:=@RL (λH=>aU K H a) (TgB (λv H Q=>∃a p q r,v=.ref a/\aU KT H a [p,q,r]/\Q [some p,some q,some r]) f σ tt te)
def afp (h:te ([some x]++f σ) H λy j=>j D=some (.lst ys)/\ys.length<sizeLine/\iW n i (P (ys++[y]) (upd j D (.lst (ys++[y]))))):RN n i D (λv _ Q=>Q [some v]) f σ mW te x H ys P:=by show (if true=true then (te ([some x]++f σ) H λy j=>j D=some (.lst ys)/\ys.length<sizeLine/\iW n i (P (ys++[y]) (upd j D (.lst (ys++[y]))))) else iW n i (P ys H));rw[if_pos rfl];show h
def akn {KT:W.Frag}{n i:Nat}{p q:V}{f:St->St}{x:V}{ys:List V}{P:List V->Hp->Prop}(hx:x=.ref a)(F:aU KT H a [p,q])(h:te ([some p,some q]++f σ) H λy j=>j D=some (.lst ys)/\ys.length<sizeLine/\iW n i (P (ys++[y]) (upd j D (.lst (ys++[y]))))):RN n i D (λv H Q=>∃a p q,v=.ref a/\aU KT H a [p,q]/\Q [some p,some q]) f σ mW te x H ys P:=by calc⟨a,p,q,hx,F,?_⟩;show (if true=true then (te ([some p,some q]++f σ) H λy j=>j D=some (.lst ys)/\ys.length<sizeLine/\iW n i (P (ys++[y]) (upd j D (.lst (ys++[y]))))) else iW n i (P ys H));rw[if_pos rfl];show h
def wF {KT:W.Frag}{n i:Nat}{p q r:V}{f:St->St}{x:V}{ys:List V}{P:List V->Hp->Prop}(hx:x=.ref a)(F:aU KT H a [p,q,r])(h:te ([some p,some q,some r]++f σ) H λy j=>j D=some (.lst ys)/\ys.length<sizeLine/\iW n i (P (ys++[y]) (upd j D (.lst (ys++[y]))))):RN n i D (λv H Q=>∃a p q r,v=.ref a/\aU KT H a [p,q,r]/\Q [some p,some q,some r]) f σ mW te x H ys P:=by calc⟨a,p,q,r,hx,F,?_⟩;show (if true=true then (te ([some p,some q,some r]++f σ) H λy j=>j D=some (.lst ys)/\ys.length<sizeLine/\iW n i (P (ys++[y]) (upd j D (.lst (ys++[y]))))) else iW n i (P ys H));rw[if_pos rfl];show h
section
variable {X:Cx}
def af_:V->List V->Hp->VK->Prop:=λx vs H Q=>∃(l:Addr) (us:AB) (w:List Nat),x=.ref l/\vs=[.str (S w)]/\H l=some (.lst (Ts us))/\w∈us/\us.length<=1000/\Q .non (upd H l (.lst (Ts (us.erase w))))
def strEq (w:List Nat)(u:Value):Bool:=match u with| .str z _=>z.cps.toList==w| _=>false
def abE {us:AB}:us.erase w=us.eraseIdx (us.idxOf w):=by
 induction us with
 | nil=>rfl
 | cons a r ih=>
  by_cases h:a=w;.subst h;simp
  .rw[List.erase_cons_tail (by simpa using h),List.idxOf_cons,cond_eq_ite,if_neg (by simpa using h),i9,ih]
def yF:MtM X "list.remove" af_:=by
 intro ao s σ H x vs v us Q I rx Z h;let⟨l,ls,w,rfl,rfl,G,hw,hz,q⟩:=h;cases rx;let⟨u,rfl,O⟩:=Z.one;let⟨t,rfl⟩:=O;let⟨z,its,n,r,hl,e⟩:=I.Ea G;let J:its.length=ls.length:=by rw[<-hl,aa]
 let hj:ls.idxOf w<ls.length:=List.idxOf_lt_length_of_mem hw;let get:∀(m:Nat) (hm:m<its.toArray.size),∃(tk:Tok) (j:m<ls.length),its.toArray[m]=.str (S ls[m]) tk:=λm hm=>by
  let j:m<ls.length:=by simp at hm;simp_all
  let⟨u1,e1,s1⟩:=r.get (i:=m) (x:=.str (S ls[m])) (by simp[j]);let⟨tk,rfl⟩:=s1;calc⟨tk,j,?_⟩;rw[ac hm]at e1;simpa using e1
 refine call_meets F.slot_list_remove ⟨_,e,rL⟩ F.entry_list_remove (F.args_list_remove_2 _ _) (PySem.MeetsSeq.list_remove l its.toArray n (.str (S w) t) (strEq w) (λy hy=>?_) (ls.idxOf w) (by rw[bc];simp_all) ?_ (λm hm D=>?_) (by rw[bc,J];show am (aM hz))) ⟨e,?_⟩
 .let⟨m,hm,rfl⟩:=Array.mem_iff_getElem.mp hy;let⟨tk,_,e1⟩:=get m hm;rw[e1];show PySem.SeqRoads2.EqGives.str _ _ _ _
 .let⟨tk,j,e1⟩:=get (ls.idxOf w) (by rw[bc];lia);rw[e1];show (ls[ls.idxOf w]==w)=true;rw[List.getElem_idxOf];simp
 .let⟨tk,j,e1⟩:=get m hm;rw[e1];show (ls[m]==w)=false;have:=List.not_of_lt_findIdx (p:=λa=>a==w) (xs:=ls) (show m<ls.findIdx (λa=>a==w) from D);simpa using this
 .refine⟨.non,_,I.ZL (its':=its.eraseIdx (ls.idxOf w)) G e ?_ ?_ ?_,rL,q⟩
  .rw[Array.eraseIdxIfInBounds,dif_pos (by rw[bc];lia)];simp
  .rw[abE];let Y:=Vals.eraseIdx (ls.idxOf w) r;let em:∀(xs:AB) (i:Nat),Ts (xs.eraseIdx i)=(Ts xs).eraseIdx i:=by
    intro xs
    induction xs with
    | nil=>intro i;rfl
    | cons a r ih=>
     intro i;cases i with| zero=>rfl| succ i=>rw[i9,Ts,cw,Ts,cw,i9];congr 1;show ih i
   rw[em];show Y
  .rw[aa];show bE (List.length_erase_le ..) (am (aM hz))
def aix (K:W.Frag):List V->Hp->VK->Prop:=λxs H Q=>∃(a:Addr) (ws:AB),xs=[.ref a]/\bJ K H a (Ts ws)/\ws.length<64/\∀(p:Addr) (j:AB),H p=none->j.Perm ws->j.Pairwise (λa b=>decide (b<a)=false)->Q (.ref p) (upd H p (.lst (Ts j)))
def Ej:jc X (.builtin "sorted") (aix X.K):=by
 intro ao s σ H xs us Q I r h;let⟨a,ws,rfl,Y,O,q⟩:=h;let⟨u,rfl,G⟩:=vals1 r;cases G;let⟨its,F,pl,_⟩:=I.list Y;let dI:its.length=ws.length:=by have:=F.length;simpa using this.symm
 calc sorted_strs pl.isList (G_ F) (by simp_all) λout j a1 a2 a3=>?_;let⟨e,Z⟩:=sortedAll_at s.heap its out;let D:(j.map λy=>y.cps.toList).Perm ws:=by have:=a2.map λy:Str=>y.cps.toList;rw[fR]at this;let e:((λy:Str=>y.cps.toList) ∘ S)=id:=rfl;rw[e,kK]at this;show this
 let J:Vals (Ts (j.map λy=>y.cps.toList)) out.toList:=by
  have:=rR a1;let es:(j.map V.str)=Ts (j.map λy=>y.cps.toList):=by rw[Ts,fR];show fz λy _=>by simp[oz,ail]
  rw[es]at this;show this
 let hl:(Ts (j.map λy=>y.cps.toList)).length<=sizeLine:=by rw[aa,D.length_eq];show am (aM p_)
 refine⟨.ref (s.heap.objs.size+1),_,I.laid (o:=.lst _) (t':=s.toks) (λb o z=>sortedAll_old z) (kH _) ⟨hl,out.toList,e,J,by rw[Array.toArray_toList];show Z⟩,rL,q _ _ (I.hok.fresh (kH _)) D (Eh j a3)⟩
def alb (t:TS):TS:=λD σ H=>∃I:St->Hp->Prop,t {D with nx:=I} σ H/\∀σ' H',I σ' H'->D.nx σ' H'
def gU {st:Stmt}(h:QS X st t):QS X st (alb t):=⟨λao s σ H D I ⟨J,a,b⟩=>by
 calc cH (h.out ao s σ H _ I a) λf s' q=>?_;cases f with
 | next=>let⟨σ7,F,j,G⟩:=q;show⟨σ7,F,j,b _ _ G⟩
 | cont=>show q
 | brk=>show q
 | ret v=>show q⟩
end
end L2
namespace L2
open PySem PySem.Spec PyProof.Rows PySem.W
section
variable {prog:Program}{w:World}{A:Around}{E:AF}{s:Shared}
variable {X:Cx}
open Classical in
theorem XQ (d:Dt):∀es:List Dt,((nZ es).any λy=>PyData.eqv y (toP d))=decide (d∈es)
 | []=>by simp[nZ]
 | e::es=>by
  rw[nZ,kD,XQ d es,Nh];by_cases z:e=d;.subst z;simp
  .let z':¬d=e:=λy=>z y.symm
   simp[z,z']
def aiy {a b:Addr}{I ob:Obj}{na nb:Nat}{x1 j G D:Nat}{O t2 t3 Y:Tok}{r1 r2:List Value}{Q:AF}(ha:s.heap.get? a=some I)(ca:I.cls=.type "tuple")(da:I.data=.seq (Value.int x1 O::Value.int j t2::r1).toArray na)(hb:s.heap.get? b=some ob)(cb:ob.cls=.type "tuple")(db:ob.data=.seq (Value.int G t3::Value.int D Y::r2).toArray nb)(l1:j<1000)(l2:D<1000)(hu:A.units<cLine)(Z:x1*1000+j≠G*1000+D)(q:Q (.bool (decide (x1*1000+j<G*1000+D))) s):wpAny (model prog w) A (compareOp .Lt (.ref a) (.ref b)) Q E s:=by
 let Ta:s.TypeIs (.ref a) "tuple":=⟨I,ha,ca⟩
 let Tb:s.TypeIs (.ref b) "tuple":=⟨ob,hb,cb⟩
 show wpAny _ _ (richCompare .Lt (.ref a) (.ref b)) Q E s;calc wpAny_richCompare_same_room (op:=.Lt) (T:="tuple") Ta Tb mM (gS mM Ta F.entry_tuple_lt ?_ (F.args_tuple_lt_2 _ _)) hu;show wpAny _ _ (isInstance (.ref b) (.type "tuple") >>= _) _ _ s;calc ae (wpAny_isInstance Tb isSubtype_tuple_tuple ?_);simp only[me,fF,if_false];calc ae (kR ha da (ae (kR hb db (ae ?_))));rw[show (Value.int (x1:Int) O::Value.int (j:Int) t2::r1).toArray.toList.zip (Value.int (G:Int) t3::Value.int (D:Int) Y::r2).toArray.toList=(Value.int (x1:Int) O,Value.int (G:Int) t3)::(Value.int (j:Int) t2,Value.int (D:Int) Y)::r1.zip r2 from rfl];rw[gr];calc ae ?_;dsimp only;calc ae (jn _ _ _ _ prog w _ _ ?_);by_cases ex:x1=G
 .subst ex;simp only[beq_self_eq_true,me,fF,if_false];calc aw ?_;dsimp only;rw[gr];calc ae ?_;dsimp only;calc ae (jn _ _ _ _ prog w _ _ ?_);let J:((j:Int)==(D:Int))=false:=by
   apply beq_eq_false_iff_ne.mpr;intro z;show Z p_
  simp only[J,Bool.not_false,if_true];calc ae (oB (ae (lt_int ?_)));calc ae (aw (aw (aw (aw ⟨_,rL,qa,?_⟩))));rw[show decide ((j:Int)<(D:Int))=decide (x1*1000+j<x1*1000+D) by simp];show q
 .let J:((x1:Int)==(G:Int))=false:=by
   apply beq_eq_false_iff_ne.mpr;intro z;show ex p_
  simp only[J,Bool.not_false,if_true];calc ae (oB (ae (lt_int ?_)));calc ae (aw (aw (aw (aw ⟨_,rL,qa,?_⟩))));rw[show decide ((x1:Int)<(G:Int))=decide (x1*1000+j<G*1000+D) by
    by_cases z:x1<G;.rw[ai (Iff.mpr my z),ai p_]
    .rw[ag (by simp[*]),ag p_]]
  show q
def alc:R2:=λx y H Q=>∃(a b:Addr) (x1 D F j:Nat) (r1 G:List V),x=.ref a/\y=.ref b/\H a=some (.tup (.int x1 :: .int D::r1))/\H b=some (.tup (.int F :: .int j::G))/\D<1000/\j<1000/\x1*1000+D≠F*1000+j/\
 Q (.bl (decide (x1*1000+D<F*1000+j))) H
def aiz (hu:X.A.units<cLine):gK X (compareOp .Lt) alc:=by
 intro ao s σ H x y v u Q I rx ry h;let⟨a,b,x1,y1,x2,y2,r1,r2,rfl,rfl,ea,eb,l1,l2,F,q⟩:=h;cases rx;cases ry;let⟨_,tv,J,o,Z,Y,n,hd⟩:=I.hok _ _ ea;let⟨_,tv',D,o',G,j,n',O⟩:=I.hok _ _ eb;cases J with
 | cons q1 rr=>
  cases rr with
  | cons q2 rr=>
   cases D with
   | cons q3 rr'=>
    cases rr' with| cons q4 rr'=>let⟨t1,rfl⟩:=q1;let⟨t2,rfl⟩:=q2;let⟨t3,rfl⟩:=q3;let⟨t4,rfl⟩:=q4;show aiy Z Y hd G j O l1 l2 hu F ⟨.bl _,H,I,rL,q⟩
def aiA:List V->Hp->VK->Prop:=λxs H Q=>∃l:List Nat,xs=[.str (S l)]/\l.length<=1000/\∀p,H p=none->Q (.ref p) (upd H p (.lst (Ts (l.map λc=>[c]))))
theorem Qj:∀(l:List Nat) (us:List Value),us.length=l.length->(∀(i c:Nat),l[i]?=some c->∃t,us[i]?=some (.str (S [c]) t))->Vals (Ts (l.map λc=>[c])) us
 | [],[],_,_=>.nil
 | [],_::_,h,_=>by simp at h
 | _::_,[],h,_=>by simp at h
 | c::l,u::us,h,k=>by let⟨t,e⟩:=k 0 c rfl;let e:u=.str (S [c]) t:=bo e;show .cons ⟨t,e⟩ (Qj l us (by simpa using h) λi d hd=>k (i+1) d hd)
def oM (F:X.calm=true):jc X (.type "list") aiA:=by
 intro ao s σ H xs us Q I r h;let⟨l,rfl,hl,q⟩:=h;let⟨u,rfl,G⟩:=vals1 r;let⟨t,rfl⟩:=G;let hz:l.length<=sizeLine:=am (aM hl);calc call_list_str (I.ok.hd F) (S l) t (λh' tk j J Y Z D=>?_) (by show l.toArray.size<=_;simpa using hz);let hsz:j.size=l.length:=by rw[D.1];show l.toArray.size=_;simp
 calc⟨.ref s.heap.objs.size,_,I.laid (o:=.lst (Ts (l.map λc=>[c]))) (t':=tk) Y (al _) ⟨by rw[aa,aa];show hz,j.toList,J,?_,by simpa using Z⟩,rL,q _ (I.hok.fresh (al _))⟩;calc Qj l j.toList (by rw[fw];show hsz) λi c F=>?_;let hi:i<j.size:=by rw[hsz];show(ah.mp F).1
 let⟨c2,O,e1,e2⟩:=D.2 i j[i] (by simp[hi]);let e1:l.toArray[i]?=some c2:=e1;rw[List.getElem?_toArray,F]at e1;let e1:=bo e1;show⟨O,by rw[Array.getElem?_toList,oC hi,e2,e1];rfl⟩
end
end L2
namespace L2
open PySem PySem.Spec PyProof.Rows
def aga {X:Cx}{ix:Nat}{F:Str}{Ni j:Pos}{J iter tg:Expr}{ns N2:List Str}{f:St->St}{TP:V->Hp->(St->Prop)->Prop}{ifs:List Expr}{scope:Scope}{pos:Pos}{wi:TI}{tt:TT}{te:TE}(hN:X.N.Nodup)(hxi:X.N[ix]?=some F)(O:Loc X.env.scope F)(hc:X.calm=true)(ok:jX X scope ns N2 f)(hi:PI X tg iter wi)(hg:∀cl C s₀ H₀ fp,Qa (iw X scope cl C (ns++N2) s₀ H₀ fp) tg ns.length TP)(ht:∀cl C s₀ H₀ fp,XC (iw X scope cl C (ns++N2) s₀ H₀ fp) ifs tt)(he:∀cl C s₀ H₀ fp,PE (iw X scope cl C (ns++N2) s₀ H₀ fp) J te)(hs:∀x,foldedSetIterable iter X.env x=pure x:=by intro _;rfl)(Z:swapsWith (.ListComp J [⟨tg,iter,ifs,0⟩] scope pos) (some (.Name F Ni)) j.line X.env=pure true:=by rfl)(hf:X.fn F=true\/X.env.scope.names.lookup F=some .local:=by first|show .inl rfl|show .inr rfl|assumption):PS X (.Assign [.Name F Ni] (.ListComp J [⟨tg,iter,ifs,0⟩] scope pos) j) (M6 (Ed f ns.length wi TP tt te) (rN ix)):=λao s σ H De I h=>by
 rw[exec_Assign_Name_used _ _ _ _ Z];calc ae (md (ae (ae ?_)));calc cH (Q:=λ_ s'=>∃σ' H',aV X ao σ' H' s'/\De.nx σ' H') ?_ λ_ s' hq=>aw (aw hq);calc Ef (use:=some (assign (.Name F Ni) X.env)) hc ok hi hg ht he hs I h λD C H4 s5 m hn bk G qn=>?_;calc wpAny_assign_Name (Pq (bk s5.heap (Heap.SameBut.refl _ _)) hN hxi O (show cR (.ref D) (.ref D) from rL) (λs6 I6 ⟨a,Y,ha⟩ _=>?_) hf);let nCa:C≠a:=by
  rcases ha with z|z;.rw[z];show G.2.1
  .show λy=>G.2.2.2.2.1 _ _ z y.symm
 let⟨o,es,ep,e1,e2⟩:=hn;refine⟨m,⟨o,es,ep,(Y.2 C nCa).trans e1,e2⟩,λh' sb=>⟨_,H4,I6.turned (t':=s6.toks) (λb o hb e=>(sb.2 b hb).trans e) G.1 G.2.1 G.2.2.2.1 G.2.2.2.2.1 G.2.2.2.2.2,qn⟩⟩
def XR {X:Cx}{ix:Nat}{F:Str}{O j:Pos}{D iter tg:Expr}{ns N2:List Str}{f:St->St}{TP:V->Hp->(St->Prop)->Prop}{ifs:List Expr}{scope:Scope}{pos:Pos}{wi:TI}{tt:TT}{te:TE}(Z:X.N.Nodup)(J:X.N[ix]?=some F)(G:Loc X.env.scope F)(Y:X.calm=true)(ok:jX X scope ns N2 f)(hi:QI X tg iter wi)(hg:∀cl C s₀ H₀ fp,Qa (iw X scope cl C (ns++N2) s₀ H₀ fp) tg ns.length TP)(ht:∀cl C s₀ H₀ fp,QTs (iw X scope cl C (ns++N2) s₀ H₀ fp) ifs tt)(he:∀cl C s₀ H₀ fp,QE (iw X scope cl C (ns++N2) s₀ H₀ fp) D te)(hs:∀x,foldedSetIterable iter X.env x=pure x:=by intro _;rfl)(I:swapsWith (.ListComp D [⟨tg,iter,ifs,0⟩] scope pos) (some (.Name F O)) j.line X.env=pure true:=by rfl)(hf:X.fn F=true\/X.env.scope.names.lookup F=some .local:=by first|show .inl rfl|show .inr rfl|assumption):QS X (.Assign [.Name F O] (.ListComp D [⟨tg,iter,ifs,0⟩] scope pos) j) (M6 (Ed f ns.length wi TP tt te) (rN ix)):=⟨aga Z J G Y ok hi.out hg (λa b c d e=>(ht a b c d e).out) (λa b c d e=>(he a b c d e).out) hs I hf⟩
section
variable {X:Cx}
def agb:V->List V->Hp->VK->Prop:=λx vs H Q=>∃l w,x=.str (S l)/\vs=[.str (S w)]/\∀n:Nat,Q (.int n) H
def abF:yD X "str.count" agb:=by intro ao s σ H x vs v us Q I G D h;let⟨l,w,rfl,rfl,q⟩:=h;let⟨t,rfl⟩:=G;let⟨u,rfl,j⟩:=D.one;let⟨t',rfl⟩:=j;calc call_gives F.slot_str_count (typeIs_str s _ t) F.entry_str_count (F.args_str_count_2 _ _) (gives_str_count (S l) (S w) t t') ?_;show EP X ao σ Q _ _;show⟨.int (Builtin.Str.occurrences (S l) (S w) 0 (S l).length ((S l).length+1)).length,H,I.tok _,⟨s.toks,rL⟩,q _⟩
end
end L2
namespace L2
open PySem PySem.Spec PyProof.Rows PySem.W
open AutoSeq1 (wpAny_loadPart')
section
variable {X:Cx}{ao:AH}{σ:St}{H:Hp}{s:Shared}{h':Heap}
def aV.Nj {t':Nat}{fp:List Addr}(I:aV X ao σ H s)(k:∀b o,b∉fp->s.heap.get? b=some o->h'.get? b=some o)(F:∀b∈fp,vM X ao H b):aV X ao σ H {s with heap:=h',toks:=t' }:=by
 let D:∀b u,H b=some u->b∉fp:=λb u e z=>by rw[(F b z).1]at e;cases e
 refine I.step (g':=s.gens) (d':=s.drawn) (ch:=fp) (λb hb=>?_) (λb o _ _ j e _=>k b o j e) (λb o _ _ j e _=>⟨o.slots,k b o j e⟩) (λ_ _ _ _ n=>n)
  (λb o j e=>⟨o,k b o j e⟩) (λ_ _ e=>e) (λ_ _ _ e=>e) (λb ps e=>⟨#[],by rw[e];simp⟩) (λm hm=>?_) (λb u e=>?_) I.bare
 .let⟨f0,f1,f2,f3,f4,f5⟩:=F b hb;show⟨f3,f1,f4,f5⟩
 .let⟨o,es,ep,G,r⟩:=hm;show⟨o,es,ep,k _ o (λz=>(F _ z).2.1 rL) G,r⟩
 .refine(I.hok b u e).stay (λc v j q=>k c v ?_ q) (λ_ q=>q) λ_ _ q=>q
  rcases j with z|z;.rw[z];show D b u e
  .show D c _ z
def aV.pair {e it:Addr}{i tk:Nat}{x:V}{u:Value}{h1 h2:Heap}(I:aV X ao σ H s)(F:∀b∈[e,it],vM X ao H b)(le:e<s.heap.objs.size)(J:it<s.heap.objs.size)(rx:cR x u)(Z:h1.get? s.heap.objs.size=some {cls:=.type "tuple",data:=.seq #[.int i tk,u]})(hk:∀b o,b≠e->b≠it->s.heap.get? b=some o->h1.get? b=some o)(hs:Heap.SameBut e h1 h2):aV X ao σ (upd H s.heap.objs.size (.tup [.int i,x])) {s with heap:=h2,toks:=tk+1}/\∀b∈[e,it],upd H s.heap.objs.size (.tup [.int i,x]) b=none:=by
 let O:aV X ao σ (upd H s.heap.objs.size (.tup [.int i,x])) {s with heap:=s.heap.push {cls:=.type "tuple",data:=.seq #[.int i tk,u]},toks:=tk+1}:=I.laid (λb v e=>af _ e) (al _) ⟨zsz 2,[.int i tk,u],.cons ⟨tk,rL⟩ (.cons rx .nil),⟨_,ba _ rL,rL,_,rL⟩⟩
 let ne:∀b∈[e,it],b≠s.heap.objs.size:=λb hb=>by
  rcases bX.mp hb with z|z;.rw[z];show cn le
  .rw[a_.mp z];show cn J
 let fr:∀b∈[e,it],upd H s.heap.objs.size (.tup [.int i,x]) b=none:=λb hb=>by rw[aZ (ne b hb)];show(F b hb).1
 let Y:=aV.Nj (s:={s with heap:=s.heap.push {cls:=.type "tuple",data:=.seq #[.int i tk,u]},toks:=tk+1}) (h':=h2) (fp:=[e,it]) (t':=tk+1) O (λb o hb g=>?_) λb hb=>?_
 .show⟨Y,fr⟩
 .let j:b≠e:=λz=>hb (by simp[z])
  let D:b≠it:=λz=>hb (by simp[z]);rw[hs.2 b j];rcases Heap.get?_push_cases g with⟨z1,G⟩|z
  .rw[z1,G];show Z
  .show hk b o j D z
 .let⟨f0,f1,f2,f3,f4,f5⟩:=F b hb;show⟨fr b hb,f1,f2,f3,f4,f5⟩
end
def Tj (l:List Nat):It:=⟨λi _=>i<l.length,λi H v H'=>∃T c,H T=none/\v=.ref T/\l[i]?=some c/\H'=upd H T (.tup [.int i,.str (S [c])]),λi _=>l.length<=i⟩
section
variable {prog:Program}{w:World}{A:Around}{E:AF}{s:Shared}
def Wy {it:Addr}{fp:List Addr}{n:Nat}{I:Nat->Value->Prop}{St:Nat->Heap->Prop}(D:Draws prog w A it fp n I St)(k:Nat):Draws prog w A it fp (k+n) (λj v=>∃i,j=k+i/\I i v) (λj h=>∃i,j=k+i/\St i h) where
 live:=λj h ⟨i,_,st⟩=>D.live i h st
 frame:=λj h h' ⟨i,e,st⟩ Y=>⟨i,e,D.frame i h h' st Y⟩
 item:=λj s Q E Z ⟨i,e,st⟩ O=>by subst e;show D.item i s Q E (by simp_all) st λv h' tk hp F G=>O v h' tk ⟨i,rL,hp⟩ ⟨i+1,rL,F⟩ G
 done:=λs Q E ⟨i,e,st⟩ J=>by
  have:i=n:=by lia
  subst this;show D.done s Q E st J
end
def ZW (l:List Nat)(k:Nat):It:=⟨λi _=>i<l.length,λi H v H'=>∃T c,H T=none/\v=.ref T/\l[i]?=some c/\H'=upd H T (.tup [.int ((k+i:Nat):Int),.str (S [c])]),λi _=>l.length<=i⟩
def ZX {P:Program}{w:World}{K:W.Frag}{elts:List Expr}{x1}{pos:Pos}{ty:String}(J:ty="str_ascii_iterator"\/ty="str_iterator")(l:List Nat)(k:Nat)(t:Tok)(it e:Addr):Turn P w K (.Tuple elts x1 pos) (ZW l k) [e,it] e (λi h=>e≠it/\i<=l.length/\(∃j,IsEnum h e it ((k+i:Nat):Int) j)/\h.IsStrIter it ty (S l) t i) where
 mem:=by simp
 obj:=λi h st b hb=>by
  obtain⟨_,_,⟨j,G⟩,o,Z,_,hd⟩:=st;rcases bX.mp hb with z|z;.show⟨_,by rw[z];show G,λv y=>by cases y⟩
  .show⟨o,by rw[a_.mp z];show Z,λv y=>by rw[hd]at y;cases y⟩
 keep:=λi h h' st k=>by obtain⟨n,le,⟨j,G⟩,o,Z,r⟩:=st;show⟨n,le,⟨j,k e qa _ G⟩,o,k it qa o Z,r⟩
 item:=by
  intro X O hw hK hc i ao s σ H E I hf st hg;subst O hw hK;obtain⟨ne,le,⟨j,G⟩,hs⟩:=st;let hh:X.A.in1.handled=none:=by simp[I.ok.hd hc]
  let hg':k+i<k+(S l).cps.size:=Nat.add_lt_add_left hg k;let Y:∀(D:Draws X.prog X.w X.A.in1 it [it] (S l).cps.size (λi v=>∃c u,(S l).cps[i]?=some c/\v=.str ⟨#[c]⟩ u) (λi h=>h.IsStrIter it ty (S l) t i)),
    wpAny (model X.prog X.w) X.A (pyNext (.ref e)) (λr s1=>∃u,r=some u/\wpAny (model X.prog X.w) X.A (letOwnedTupleGo (.Tuple elts x1 pos) (.ref e) u) (λ_ s2=>∃x H',aV X ao σ H' s2/\cR x u/\(ZW l k).Ko i H x H'/\(e≠it/\i+1<=l.length/\(∃j,IsEnum s2.heap e it ((k+(i+1):Nat):Int) j)/\s2.heap.IsStrIter it ty (S l) t (i+1))/\∀b∈[e,it],H' b=none) E s1) E s:=by
   intro D;calc wpAny_pyNext_enum_itemD (Wy D k) G ⟨i,rL,hs⟩ hg' ne (by simp[ne]) λx h' tk O Z F hT hsz hk=>?_;let⟨i',ei,c,u,hc',rfl⟩:=O;let⟨i'',ei2,F⟩:=F;obtain rfl:i'=i:=by lia
   obtain rfl:i''=i'+1:=by lia
   calc⟨_,rL,wpAny_letOwnedTupleGo_enum Z λh2 he2 hs2=>?_⟩;let⟨o,ho2,r2⟩:=F;let⟨oi,hoi,_⟩:=id hs;let⟨I3,fr⟩:=aV.pair (i:=k+i') (x:=.str (S [c])) I hf (aI G) (aI hoi) ⟨u,rL⟩ hT hk hs2;refine⟨.ref s.heap.objs.size,_,I3,rL,⟨s.heap.objs.size,c,I.hok.fresh (al _),rL,by simpa [S] using hc',rL⟩,⟨ne,hg,⟨_,by simpa [Int.add_assoc] using he2⟩,o,(hs2.2 it (gf ne)).trans ho2,r2⟩,fr⟩
  rcases J with rfl|rfl;.show Y (Draws.strAscii hh it (S l) t)
  .show Y (Draws.strWide hh it (S l) t)
 done:=by
  intro X O hw hK hc i ao s σ H E I hf st hg;subst O hw hK;obtain⟨ne,le,⟨j,G⟩,hs⟩:=st;let hh:X.A.in1.handled=none:=by simp[I.ok.hd hc]
  let hi:i=(S l).cps.size:=Nat.le_antisymm le hg;let F:=hs;rw[hi]at F;let⟨f0,f1,f2,f3,f4,f5⟩:=hf it qa;rcases J with rfl|rfl
  .show wpAny_pyNext_enum_endD (Draws.strAscii hh it (S l) t) G F λh' eb=>⟨rL,I.turned (t':=s.toks) (λb o hb e=>eb b o hb e) f0 f1 f3 f4 f5⟩
  .show wpAny_pyNext_enum_endD (Draws.strWide hh it (S l) t) G F λh' eb=>⟨rL,I.turned (t':=s.toks) (λb o hb e=>eb b o hb e) f0 f1 f3 f4 f5⟩
 self:=λA i s Q E st h=>by obtain⟨_,_,⟨j,G⟩,_⟩:=st;show wpAny_pyIter_enum G h
def Z1 {K:W.Frag}{elts:List Expr}{x1}{ty:String}(j:ty="str_ascii_iterator"\/ty="str_iterator")(l:List Nat)(t:Tok)(it e:Addr):Turn P w K (.Tuple elts x1 pos) (Tj l) [e,it] e (λi h=>e≠it/\i<=l.length/\(∃D,IsEnum h e it i D)/\h.IsStrIter it ty (S l) t i):=by
 let h:=ZX (P:=P) (w:=w) (K:=K) (elts:=elts) (x1:=x1) (pos:=pos) j l 0 t it e;let e1:ZW l 0=Tj l:=by unfold ZW Tj;simp only[Nat.zero_add]
 simp only[Nat.zero_add]at h;rw[e1]at h;show h
section
variable {X:Cx}{elts:List Expr}{x1:Nat}{tp:Pos}
def aiB (ta:TA):TI:=λσ H R=>ta σ H λvs H1=>∃l,vs=[.str (S l)]/\R (Tj l) H1
def adN (Y:Gl X "enumerate")(hm:X.mg "enumerate"=none)(ha:QA X [a] ta)(hs:starEach [a] X.env=[(false,eval a X.env)]:=by rfl):QI X (.Tuple elts x1 tp) (.Call (.Name "enumerate" p) [a] [] pos) (aiB ta):=⟨by
 intro ao s σ H R I h;calc Call_ (rM I Y hm boot_enumerate (eK (cH (ha.out pos ao s σ H _ I h) λus s1 J=>?_) hs rL));let⟨vs,H1,j,r1,q1⟩:=J;let⟨l,e,q⟩:=q1;subst e;cases r1 with
 | cons r rr=>
  cases rr;let⟨t,rfl⟩:=r;let D:strIterType (S l)="str_ascii_iterator"\/strIterType (S l)="str_iterator":=by unfold strIterType;split <;> simp
  calc call_enumerate_str λh' G F hsz O=>wpAny_pyIter_enum G ?_;calc⟨s1.heap.objs.size+1,[s1.heap.objs.size+1,s1.heap.objs.size],_,_,H1,rL,j.kept (t':=s1.toks) O,Z1 D l t s1.heap.objs.size _,⟨Nat.succ_ne_self _,eQ _,⟨_,G⟩,F⟩,λb hb=>?_,q⟩;rcases bX.mp hb with z|z
  .rw[z];show j.zy (kH _) (j.hok.fresh (kH _))
  .rw[a_.mp z];show j.zy (al _) (j.hok.fresh (al _))⟩
def Tn (hc:X.calm=true):jc X (.builtin "any") (λxs H Q=>∃(p:Addr) (bs:List Bool),xs=[.ref p]/\bJ X.K H p (bs.map V.bl)/\Q (.bl (bs.any id)) H):=by
 intro ao s σ H xs us Q I r h;let⟨p,bs,rfl,hq,q⟩:=h;let⟨u,rfl,J⟩:=vals1 r;cases J;let⟨its,O,pl,hz⟩:=I.list hq;let G:p≠s.heap.objs.size:=by let⟨o,ho,_⟩:=pl.isList;show cn (aI ho)
 let hb:∀(i:Nat) (v:Value),its[i]?=some v->v=.bool (bs.getD i false):=λi v j=>by
  let F:=O.length;let hi:i<bs.length:=by have:=(ah.mp j).1;simp at F;simp_all
  let⟨u,hu,J⟩:=O.get (i:=i) (x:=.bl bs[i]) (by simp[hi]);rw[j]at hu;cases hu;cases J;simp[List.getD,hi]
 calc call_any_walk (ik pl.isList ?_);refine⟨s.heap.objs.size,_,_,_,_,_,λi=>bs.getD i false,rL,Walks.list (A:=X.A.in1) (I.ok.hd hc) s.heap.objs.size p G its.toArray,⟨⟨_,ba _ rL,rL,rL⟩,pl.isList.at λo e=>af _ e⟩,?_,λh' tk kk=>?_⟩
 .intro i v s' Q' E' j D;let e:=hb i v (by simpa using j);subst e;show e_ D
 .let I1:aV X ao σ H {s with heap:=h',toks:=tk}:=I.kept λb o e=>kk b o (by
   intro hm;have:b=s.heap.objs.size:=by simpa using hm
   subst this;show absurd (aI e) (fm _)) (af _ e)
  calc⟨.bl (bs.any id),H,I1,?_,q⟩;show Value.bool _=Value.bool _;let F:its.toArray.size=bs.length:=by have:=O.length;simp at this;simp[this]
  rw[F];congr 1;let Y:∀bs:List Bool,(List.range bs.length).any (λi=>bs.getD i false)=bs.any id:=λbs=>by
   rw[ib,List.any_eq_true,List.any_eq_true];constructor
   .intro z;let⟨i,hi,h⟩:=z;let Z:=gI.mp hi;show⟨bs[i],aS _,by simpa [List.getD,Z] using h⟩
   .intro z;let⟨x,hx,h⟩:=z;let⟨i,hi,rfl⟩:=ir.mp hx;show⟨i,gI.mpr hi,by simpa [List.getD,hi] using h⟩
  show Y bs
end
structure ZA (z ti to u v a b:Addr):Prop where
 q1:ti≠z
 q2:to≠z
 q3:u≠z
 q4:v≠z
 q5:ti≠to
 q6:ti≠u
 q7:ti≠v
 q8:to≠u
 q9:to≠v
 p1:u≠v
 p2:a≠z
 p3:a≠to
 p4:a≠u
 p5:a≠v
 p6:b≠z
 p7:b≠to
 p8:b≠u
 p9:b≠v
section
variable {X:Cx}{ao:AH}{σ:St}{H:Hp}{s:Shared}
def aV.ako {fp:List Addr}{tk:Nat}{x y:V}{p q:Value}{h2:Heap}(I:aV X ao σ H s)(j:∀b∈fp,vM X ao H b)(lt:∀b∈fp,b<s.heap.objs.size)(rx:cR x p)(Z:cR y q)(J:h2.get? s.heap.objs.size=some {cls:=.type "tuple",data:=.seq #[p,q]})(Y:∀b o,b∉fp->s.heap.get? b=some o->h2.get? b=some o):aV X ao σ (upd H s.heap.objs.size (.tup [x,y])) {s with heap:=h2,toks:=tk}/\∀b∈fp,upd H s.heap.objs.size (.tup [x,y]) b=none:=by
 let F:aV X ao σ (upd H s.heap.objs.size (.tup [x,y])) {s with heap:=s.heap.push {cls:=.type "tuple",data:=.seq #[p,q]},toks:=tk}:=I.laid (λb v e=>af _ e) (al _) ⟨zsz 2,[p,q],.cons rx (.cons Z .nil),⟨_,ba _ rL,rL,_,rL⟩⟩
 let fr:∀b∈fp,upd H s.heap.objs.size (.tup [x,y]) b=none:=λb hb=>by rw[aZ (cn (lt b hb))];show(j b hb).1
 let G:=aV.Nj (s:={s with heap:=s.heap.push {cls:=.type "tuple",data:=.seq #[p,q]},toks:=tk}) (h':=h2) (fp:=fp) (t':=tk) F (λb o hb g=>?_) λb hb=>?_
 .show⟨G,fr⟩
 .rcases Heap.get?_push_cases g with⟨O,D⟩|z;.rw[O,D];show J
  .show Y b o hb z
 .let⟨f0,f1,f2,f3,f4,f5⟩:=j b hb;show⟨fr b hb,f1,f2,f3,f4,f5⟩
def abG:bootBuiltins "zip"=some (.type "zip"):=by decide +kernel
end
structure vY (B:Heap)(l:List Env)(e:Addr)(cls:Value)(dd:Option Addr)(fl:Value)(h:Heap):Prop where
 stays:B.StaysIn h
 new:B.get? e=none
 frames:h.FunFrames B l
 tr:∃oe vs T oT ts,h.get? e=some oe/\oe.cls=cls/\oe.dict=dd/\oe.data=.fields vs/\vs[1]?=some (.ref T)/\vs[2]?=some .none/\B.get? T=none/\T≠e/\h.get? T=some oT/\oT.data=.fields ts/\ts[3]?=some fl
def vY.outer (x:vY B (env::l) e cls dd fl h):vY B l e cls dd fl h:=⟨x.stays,x.new,x.frames.2.2,x.tr⟩
def Qk (o:Obj)(f):(o.mapFields f).dict=o.dict:=by let⟨c,d,j,sl⟩:=o;cases j <;> rfl
section
variable {M:Model}{A:Around}{E:AF}{s:Shared}{B:Heap}{env:Env}{outer l:List Env}{L e:Addr}{oe:Obj}{vs:Array Value}{head cls fl:Value}{dd:Option Addr}{hadNext:Bool}{Q:Unit->Shared->Prop}
def KN (I:A.frames=some (env::outer))(hl:s.heap.FunFrames B (env::outer))(hf:env.frame=some L)(J:s.heap.get? e=some oe)(kb:B.StaysIn s.heap)(en:B.get? e=none)(hd:oe.data=.fields vs)(hz:1<vs.size)(h2:vs[2]?=some .none)(h:∀h',vY B (env::outer) e oe.cls oe.dict (rawInt L) h'->s.heap.UpToSlots h'->Q () {s with heap:=h' }):wpAny M A (do let a <- frameOf env;let pl <- entryPlaceOf L hadNext;let b <- EntryCells.newEntry head a .none (rawInt L) .none pl;setField (.ref e) 1 b) Q E s:=by
 let out:e∉(env::outer).filterMap (·.frame):=λz=>by let⟨_,u,hu,j⟩:=hl.mem z;rw[J]at hu;cases hu;show j vs hd
 calc ae (wpAny_frameOf_fun I hl hf λg G=>ae (wpAny_entryPlaceOf λpl D=>?_));unfold EntryCells.newEntry newFields;calc ae (gu ?_ (D.sizeOk5 _ _ _ _ _));generalize hO:({cls:=.type "traceback",dict:=none,data:=.fields ([head,.ref L,.none,rawInt L,.none]++(if pl.isEmpty then List.replicate 6 Value.none else pl)).toArray}:Obj)=O;let Y:∃ts,O.data=.fields ts/\ts[3]?=some (rawInt L):=⟨_,by rw[<-hO],by first|(simp;done)|(rcases D with rfl|⟨_,_,_,_,_,_,_,rfl⟩ <;> simp)⟩
 let ge:g.get? e=some oe:=(G.2.1 e out).trans J;let gB:B.StaysIn g:=λb o q=>(G.2.1 b λz=>by rw[(hl.mem z).1]at q;cases q).trans (kb b o q);let Te:g.objs.size≠e:=ke (aI ge);let Z:(g.push O).get? e=some oe:=af O ge;let⟨ts,F,h3⟩:=Y;let pT:(g.push O).get? g.objs.size=some O:=ba g (ki F);let mv:∀b o,b≠e->g.get? b=some o->((g.push O).update e (Obj.mapFields (·.setIfInBounds 1 (Value.ref g.objs.size)))).get? b=some o:=λb o nb q=>(fq _ _ (gf nb)).trans (af O q)
 let nr:∀b o,s.heap.get? b=some o->(∀vs,o.data≠.fields vs)->b≠e:=λb o q j z=>by rw[z,J]at q;cases q;show j vs hd
 refine nI Z hd hz (h _ ⟨λb o q=>mv b o (λz=>by rw[z,en]at q;cases q) (gB b o q),en,hl.of_keeps λb o q j=>?_,?_⟩ λb o q j=>?_)
 .let⟨sl,z⟩:=G.2.2 b o q;show⟨_,mv b _ (nr b o q j) z,rL⟩
 .let dd:=nS hd (·.setIfInBounds 1 (Value.ref g.objs.size));refine⟨_,_,g.objs.size,O,ts,ie _ Z (ki dd),Obj.cls_mapFields _ _,Qk _ _,dd,by simp[hz],by rw[iS qc];show h2,gB.fresh,Te,(fq _ _ (gf Te)).trans pT,F,h3⟩
 .let⟨sl,z⟩:=G.2.2 b o q;show⟨sl,mv b _ (nr b o q j) z⟩
def qj (x:vY B l e cls dd fl s.heap)(h:∀h',vY B l e cls dd .none h'->s.heap.UpToSlots h'->Q () {s with heap:=h' }):wpAny M A (setFlight (.ref e) none) Q E s:=by
 let⟨st,en,fr,oe,vs,T,oT,ts,Z,hc,F,hd,h1,h2,O,Y,G,j,h3⟩:=x;let J:3<ts.size:=(f_.mp h3).1;let mv:∀b,b≠T->(s.heap.update T (Obj.mapFields (·.setIfInBounds 3 ((none:Option Addr).elim Value.none λf=>rawInt f)))).get? b=s.heap.get? b:=λb nb=>fq _ _ (gf nb);let nr:∀b o,s.heap.get? b=some o->(∀vs,o.data≠.fields vs)->b≠T:=λb o q D z=>by rw[z,G]at q;cases q;show D ts j
 unfold setFlight;calc ae (fh Z hd h1 ?_);rw[if_pos (show (Value.ref T != Value.none)=true by simp)];calc nI G j J (h _ ⟨λb o q=>(mv b λz=>by rw[z,O]at q;cases q).trans (st b o q),en,fr.of_keeps λb o q D=>⟨o,(mv b (nr b o q D)).trans q,rL⟩,?_⟩ λb o q D=>⟨o.slots,(mv b (nr b o q D)).trans q⟩);let I:=nS j (·.setIfInBounds 3 ((none:Option Addr).elim Value.none λf=>rawInt f));show⟨oe,vs,T,_,_,(mv e (gf Y)).trans Z,hc,F,hd,h1,h2,O,Y,ie _ G (ki I),I,by simp[J]⟩
def adO (j:A.frames=some (env::outer))(hl:s.heap.FunFrames B (env::outer))(F:env.frame=some L)(D:s.heap.get? e=some oe)(G:B.StaysIn s.heap)(I:B.get? e=none)(hd:oe.data=.fields vs)(h1:vs[1]?=some .none)(h2:vs[2]?=some .none)(h:∀h',vY B (env::outer) e oe.cls oe.dict (rawInt L) h'->s.heap.UpToSlots h'->Q () {s with heap:=h' }):wpAny M A (noteFrame (.ref e) env) Q E s:=by unfold noteFrame;simp only[F];calc ae (fh D hd h1 ?_);rw[if_neg qc];show KN j hl F D G I hd (f_.mp h1).1 h2 h
def Nk (G:A.frames=some (env::outer))(J:env.frame=some L)(x:vY B (env::outer) e cls dd .none s.heap)(h:∀h',vY B (env::outer) e cls dd (rawInt L) h'->s.heap.UpToSlots h'->Q () {s with heap:=h' }):wpAny M A (noteFrame (.ref e) env) Q E s:=by
 let⟨st,en,fr,oe,vs,T,oT,ts,O,Y,F,hd,h1,h2,Z,Te,I,j,h3⟩:=x;subst Y F;let mv:∀b,b≠T->(s.heap.update T (Obj.mapFields (·.setIfInBounds 3 Value.none))).get? b=s.heap.get? b:=λb nb=>fq _ _ (gf nb);let nr:∀b o,s.heap.get? b=some o->(∀vs,o.data≠.fields vs)->b≠T:=λb o q D z=>by rw[z,I]at q;cases q;show D ts j
 unfold noteFrame;simp only[J];calc ae (fh O hd h1 ?_);rw[if_pos (show (Value.ref T != Value.none)=true by simp)];calc ae (fh I j h3 ?_);rw[if_neg (show ¬((Value.none==rawInt L)=true) by simp[rawInt])];calc ae (nI I j (f_.mp h3).1 ?_);refine KN G (fr.of_keeps λb o q D=>⟨o,(mv b (nr b o q D)).trans q,rL⟩) J ((mv e (gf Te)).trans O) (λb o q=>(mv b λz=>by rw[z,Z]at q;cases q).trans (st b o q)) en hd (f_.mp h1).1 h2
  λh' y k=>h h' y λb o q D=>k b o ((mv b (nr b o q D)).trans q) D
def leave_new (j:A.frames=some (env::outer))(hl:s.heap.FunFrames B (env::outer))(D:env.frame=some L)(I:s.heap.get? e=some oe)(G:B.StaysIn s.heap)(F:B.get? e=none)(hd:oe.data=.fields vs)(h1:vs[1]?=some .none)(h2:vs[2]?=some .none)(h:∀h',vY B outer e oe.cls oe.dict .none h'->s.heap.UpToSlots h'->Q () {s with heap:=h' }):wpAny M A (leaving env (.ref e)) Q E s:=by unfold leaving;show ae (adO j hl D I G F hd h1 h2 λh1 x k=>qj x λh2 y k2=>h h2 y.outer (k.trans k2))
def adP (j:A.frames=some (env::outer))(D:env.frame=some L)(x:vY B (env::outer) e cls dd .none s.heap)(h:∀h',vY B outer e cls dd .none h'->s.heap.UpToSlots h'->Q () {s with heap:=h' }):wpAny M A (leaving env (.ref e)) Q E s:=by unfold leaving;show ae (Nk j D x λh1 x k=>qj x λh2 y k2=>h h2 y.outer (k.trans k2))
end
def gJ.there (x:gJ P w H h a o):∃u,h.get? a=some u:=by
 cases o with
 | lst xs=>let⟨_,_,_,_,e⟩:=x;show⟨_,e⟩
 | tup xs=>let⟨_,_,_,_,e,_⟩:=x;show⟨_,e⟩
 | dK kvs=>let⟨_,_,_,_,o,_,_,e,_⟩:=x;show⟨_,e⟩
 | dT kvs=>let⟨_,_,_,_,o,_,_,e,_⟩:=x;show⟨_,e⟩
 | set S n=>let⟨o,_,_,_,e,_⟩:=x;show⟨_,e⟩
 | ins C dx fs=>let⟨_,_,_,e,_⟩:=x;show⟨_,e⟩
 | own y=>show x
 | xd fs=>obtain⟨_,⟨_,_,_,e,_⟩,_⟩:=x;show⟨_,e⟩
 | rng lo hi=>let⟨_,_,_,e⟩:=x;show⟨_,e⟩
 | qG ob u=>let⟨e,_⟩:=x;show⟨_,e⟩
 | Pj ps=>show⟨_,(show h.get? a=some _ from x)⟩
 | met f y=>show⟨_,(show h.get? a=some _ from x)⟩
 | ext φ=>let⟨_,e,_⟩:=x;show e
structure ExB (P:Program)(w:World)(outer:List Env)(H:Hp)(s:Shared)(a:Addr)(cls:Value)(dd:Option Addr)(H':Hp)(s':Shared)(B:Heap):Prop where
 os:s'.os=s.os
 bare:AllBare s'.gens
 un:Un (frs outer) [] H H' s.heap s'.heap
 hok:lD P w H' s'.heap
 fly:vY B outer a cls dd .none s'.heap
 na:H' a=none
 Pk:∀b u,H' b=some u->∃o,B.get? b=some o
 kp:∀b o,s.heap.get? b=some o->b∉frs outer->H b=none->B.get? b=some o
 th:∀b o,s.heap.get? b=some o->b∉frs outer->∃o',B.get? b=some o'
noncomputable def qw (P:Program)(w:World):u_:=λouter H s E e s'=>∃(a:Addr) (cls:Value) (dd:Option Addr) (H':Hp) (B:Heap),e=.ref a/\ExB P w outer H s a cls dd H' s' B/\E cls dd H'
section
variable {X:Cx}{ao:AH}{σ:St}{H1 H':Hp}{s1 s2:Shared}{e:Addr}{oe:Obj}{vs:Array Value}{Q:Unit->Shared->Prop}{E:AF}{cls:Value}{dd:Option Addr}{B:Heap}
def aV.KQ (I:aV X ao σ H1 s1)(q:X.s₀.heap.get? b=some o)(nb:b∉frs X.outer):b∉frs X.stack:=λz=>by
 rcases bX.mp (I.Km b z) with z|z;.show absurd (cK (aI q) I.ok.above) (by rw[z];show fm _)
 .show nb z
def aV.adQ (I:aV X ao σ H1 s1)(z:b∈frs X.outer):b∈frs X.stack:=by
 rcases I.ok.stk with e|⟨e,j⟩;.rw[e];show z
 .rw[e];unfold frs;rw[kL,j];show bz _ z
def aV.raised (I:aV X ao σ H1 s1)(G:X.stack=X.env::X.outer)(hf:X.env.frame=some X.env.locals)(hex:X.ex=[])(Y:s1.heap.get? e=some oe)(hd:oe.data=.fields vs)(h1:vs[1]?=some .none)(h2:vs[2]?=some .none)(ne:H1 e=none)(O:∀b o,X.s₀.heap.get? b=some o->b≠e)(q:∀s2 B,ExB X.prog X.w X.outer X.H₀ X.s₀ e oe.cls oe.dict H1 s2 B->Q () s2):wpAny (model X.prog X.w) X.A (leaving X.env (.ref e)) Q E s1:=by
 let hfr:X.A.frames=some (X.env::X.outer):=by rw[<-G];show I.ok.frames
 let hl:s1.heap.FunFrames (hideAll s1.heap (e::frs X.stack)) (X.env::X.outer):=by rw[<-G];show funFrames_hide I.stack λenv Y b hb=>bz _ (nL.mpr ⟨env,Y,hb⟩)
 let D:∀b:Addr,b∉X.ex:=λb=>by rw[hex];simp
 calc leave_new hfr hl hf Y (λb o z=>of_hideAll _ z) (hideAll_none _ (.head _)) hd h1 h2 λh' x k=>q _ (hideAll s1.heap (e::frs X.stack)) ?_;let F:∀b o,s1.heap.get? b=some o->b≠e->b∉frs X.stack->(hideAll s1.heap (e::frs X.stack)).get? b=some o:=λb o z n1 n2=>hideAll_get _ z λm=>by
  rcases bX.mp m with m|m;.show n1 m
  .show n2 m
 let kF:∀b o,s1.heap.get? b=some o->b∈frs X.stack->∃sl,h'.get? b=some {o with slots:=sl}:=λb o z m=>by let⟨_,u,hu,nf⟩:=I.stack.mem m;rw[z]at hu;cases hu;show k b _ z nf
 let kT:∀b u,H1 b=some u->∀o,s1.heap.get? b=some o->(hideAll s1.heap (e::frs X.stack)).get? b=some o:=λb u t o z=>F b o z (λm=>by rw[m,ne]at t;cases t) λm=>by rw[I.Af b m]at t;cases t
 calc⟨I.os,I.bare,⟨λb o z n hb _=>?_,λb o z n hb _=>?_,λb o z n _=>I.base.free b o z n (D b),λb o z _=>?_,I.base.tups,I.base.qz,I.base.q_⟩,λb o t=>?_,x,ne,λb u t=>?_,λb o z hb n=>?_,λb o z hb=>?_⟩;.show x.stays b o (F b o (I.base.keep b o z n hb (D b)) (O b o z) (I.KQ z hb))
 .let⟨sl,e1⟩:=I.base.slot b o z n hb (D b);let⟨J,e2⟩:=kF b _ e1 (I.adQ hb);show⟨J,e2⟩
 .let⟨j,e1⟩:=I.base.there b o z (D b);by_cases m:b∈frs X.stack
  .let⟨J,e2⟩:=kF b _ e1 m;show⟨_,e2⟩
  .show⟨j,x.stays b j (F b j e1 (O b o z) m)⟩
 .refine(I.hok b o t).stay (λc u Z z=>x.stays c u ?_) (λ_ r=>r) λ_ _ r=>r
  rcases Z with rfl|Z;.show kT c _ t u z
  .show kT c _ Z u z
 .let⟨o,z⟩:=(I.hok b u t).there;show⟨o,kT b u t o z⟩
 .show F b o (I.base.keep b o z n hb (D b)) (O b o z) (I.KQ z hb)
 .let⟨j,e1⟩:=I.base.there b o z (D b);show⟨j,F b j e1 (O b o z) (I.KQ z hb)⟩
def aV.passed (I:aV X ao σ H1 s1)(D:X.stack=X.env::X.outer)(hf:X.env.frame=some X.env.locals)(O:X.ex=[])(x:ExB X.prog X.w X.stack H1 s1 e cls dd H' s2 B)(q:∀s3,ExB X.prog X.w X.outer X.H₀ X.s₀ e cls dd H' s3 B->Q () s3):wpAny (model X.prog X.w) X.A (leaving X.env (.ref e)) Q E s2:=by
 let J:X.A.frames=some (X.env::X.outer):=by rw[<-D];show I.ok.frames
 let j:∀b:Addr,b∉X.ex:=λb=>by rw[O];simp
 let Z:∀b:Addr,b∉([]:List Addr):=λb=>by simp
 calc adP J hf (by rw[<-D];show x.fly) λh' y k=>q _ ?_;let kp:∀b o,X.s₀.heap.get? b=some o->b∉frs X.outer->X.H₀ b=none->B.get? b=some o:=λb o z hb n=>x.kp b o (I.base.keep b o z n hb (j b)) (I.KQ z hb) (I.base.free b o z n (j b));let th:∀b o,X.s₀.heap.get? b=some o->b∉frs X.outer->∃o',B.get? b=some o':=λb o z hb=>by let⟨G,e1⟩:=I.base.there b o z (j b);show x.th b G e1 (I.KQ z hb)
 let kF:∀b o,X.s₀.heap.get? b=some o->b∈frs X.outer->∃sl,h'.get? b=some {o with slots:=sl}:=λb o z m=>by let⟨sl,e1⟩:=I.base.slot b o z (I.ok.DW b m) m (j b);let⟨sl2,e2⟩:=x.un.slot b _ e1 (I.Af b (I.adQ m)) (I.adQ m) (Z b);let⟨_,u,hu,nf⟩:=I.ok.qC.mem m;rw[z]at hu;cases hu;let⟨KR,e3⟩:=k b _ e2 nf;show⟨KR,e3⟩
 refine⟨x.os.trans I.os,x.bare,⟨λb o z n hb _=>y.stays b o (kp b o z hb n),λb o z n hb _=>kF b o z hb,λb o z n _=>?_,λb o z _=>?_,λb xs t=>x.un.tups b xs (I.base.tups b xs t),λb o u t=>x.un.qz b o u (I.base.qz b o u t),λb ps t=>?_⟩,λb o t=>?_,y,x.na,x.Pk,kp,th⟩
 .let⟨G,e1⟩:=I.base.there b o z (j b);show x.un.free b G e1 (I.base.free b o z n (j b)) (Z b)
 .by_cases m:b∈frs X.outer
  .let⟨sl,e3⟩:=kF b o z m;show⟨_,e3⟩
  .let⟨o',e1⟩:=th b o z m;show⟨o',y.stays b o' e1⟩
 .let⟨m1,e1⟩:=I.base.q_ b ps t;let⟨m2,e2⟩:=x.un.q_ b _ e1;show⟨m1++m2,by rw[e2,Array.append_assoc]⟩
 .refine(x.hok b o t).stay (λc u F z=>?_) (λ_ r=>r) λ_ _ r=>r
  have:∃v,H' c=some v:=by
   rcases F with rfl|F;.show⟨_,t⟩
   .show⟨_,F⟩
  let⟨v,hv⟩:=this;let⟨o',Y⟩:=x.Pk c v hv;have:=x.fly.stays c o' Y;rw[z]at this;cases this;show y.stays c u Y
end
def Lets (X:Cx)(E:XK):Prop:=∀(ao:AH) (σ:St) (H:Hp) (s:Shared) (e:Addr) (oe:Obj) (vs:Array Value),aV X ao σ H s->s.heap.get? e=some oe->oe.data=.fields vs->vs[1]?=some .none->vs[2]?=some .none->H e=none->
 (∀b o,X.s₀.heap.get? b=some o->b≠e)->E oe.cls oe.dict H->X.xe (.ref e) s
section
variable {P:Program}{w:World}{K:W.Frag}{mg:Str->Option Value}{base:Heap}{N:List Str}{qual:Str}{scope:Scope}{f:Addr}{cd:Value}{A:Around}{outer:List Env}{s:Shared}{H:Hp}{E:XK}
def o_:Lets (t_ (qw P w) P w K mg base N qual scope f cd A outer s H E) E:=λao σ H1 s1 e oe vs I j hd h1 h2 ne D q=>I.raised rL rL rL j hd h1 h2 ne D λs2 B x=>⟨e,_,_,_,B,rL,x,q⟩
def w5:Passes (qw P w) (t_ (qw P w) P w K mg base N qual scope f cd A outer s H E) E:=λao σ H1 s1 e s2 I ⟨a,cls,dd,H',B,z,x,q⟩=>by subst z;show I.passed rL rL rL x λj y=>⟨a,cls,dd,H',B,rL,y,q⟩
end
structure DefX (P:Program)(w:World)(K:W.Frag)(mg:Str->Option Value)(base:Heap)(name:Str)(k:Nat)(ps:List Str)(sp:Sp):Prop where
 ex:∃f fd,cj P w K mg base (qw P w) k f fd ps sp/\bT K fd ps []/\mg name=some (.ref f)/\W.keepIn K (.ref f)=true
def fG.xO {K:W.Frag}{mg:Str->Option Value}{x qual:Str}{st:Stmt}{N ps:List Str}{k:Nat}{sp:Sp}(F:fG K x qual st f fd)(S:bB N ps (aJ st))(len:∀vs H Q E,sp vs H Q E->vs.length=ps.length)(j:∀(bO:Value) (A:Around) (outer:List Env) (s:Shared) (H:Hp) (vs:List V) (Q:VK) (E:XK),fZ k (A.deeper (envOfC qual (aJ st) s.heap.objs.size f bO))->sp vs H Q E->
   ∃t,rQ (t_ (qw P w) P w K mg base N qual (aJ st) f bO A outer s H E) (cX st) t/\t {nx:=λ_ H'=>Q .non H',rt:=Q} (start N vs) H):cj P w K mg base (qw P w) (k+1) f fd ps sp:=by
 let⟨oc,od,kV,doc,pm,an,bO,ct,osl,rfl,lk,D⟩:=F.ex;calc afg lk D S len λA outer s H vs Q E I G=>?_;let⟨t,h,q⟩:=j bO A outer s H vs Q E I G;show⟨t,h.out,q⟩
def aN.xO {K:W.Frag}{mg:Str->Option Value}{name:Str}{st:Stmt}{N ps:List Str}{k:Nat}{sp:Sp}(D:aN K mg name st ps)(S:bB N ps (aJ st))(len:∀vs H Q E,sp vs H Q E->vs.length=ps.length)(j:∀(f:Addr) (bO:Value) (A:Around) (outer:List Env) (s:Shared) (H:Hp) (vs:List V) (Q:VK) (E:XK),fZ k (A.deeper (envOfC name (aJ st) s.heap.objs.size f bO))->sp vs H Q E->
   ∃t,rQ (t_ (qw P w) P w K mg base N name (aJ st) f bO A outer s H E) (cX st) t/\t {nx:=λ_ H'=>Q .non H',rt:=Q} (start N vs) H):DefX P w K mg base name (k+1) ps sp:=by
 let⟨f,fd,F,b,g⟩:=D.ex;show⟨f,fd,F.xO S len (j f),b,g,F.kp⟩
def pA (CX:u_)(X:Cx)(E:XK)(S:St->Prop):Prop:=∀(ao:AH) (σ:St) (H:Hp) (s:Shared) (e:Value) (s':Shared),aV X ao σ H s->S σ->CX X.stack H s E e s'->X.xe e s'
def Passes.all (h:Passes CX X E):pA CX X E λ_=>True:=λao σ H s e s' I _ q=>h ao σ H s e s' I q
def aiC (sp:Sp)(E:XK)(S:St->Prop)(t:TA):TE:=λσ H Q=>S σ/\t σ H λvs H1=>sp vs H1 Q E
section
variable {X:Cx}{k:Nat}{f:Addr}{fd:FuncData}{ps:List Str}{sp:Sp}{E:XK}{S:St->Prop}{x:Str}{p pos:Pos}{e:Expr}{es:List Expr}{t:TA}
def pB (D:DefX X.prog X.w X.K X.mg X.base x k ps sp)(Z:fZ k X.A)(hg:Gl X x)(hx:pA (qw X.prog X.w) X E S)(ha:QA X (e::es) t)(O:(x==("__debug__":Str))=false:=by decide)(hs:starEach (e::es) X.env=(false,eval e X.env)::starEach es X.env:=by rfl)(J:(backTo pos (starEach es X.env)).any (·.1)=false:=by rfl):QE X (.Call (.Name x p) (e::es) [] pos) (aiC sp E S t):=⟨by
 let⟨f,fd,F,hb,hm,hk⟩:=D.ex;intro ao s σ H Q I h;let⟨hS,h⟩:=h;calc hJ (o8 I hg hm ?_ O);calc jb (h₀:=X.base) I.ok.mod.Ia hk (cH (ha.out pos ao s σ H _ I h) λus s1 ⟨vs,H1,G,r,q⟩=>⟨G.iV,?_⟩) hs J;let hl:us.length=ps.length:=by rw[<-r.length];show F.len _ _ _ _ q
 let Y:=hb s1 us G.iV (by rw[dL];show hl);rw[dL]at Y;calc gV (iL (F.run X.A X.stack s1 H1 ⟨us,[]⟩ us vs Q E Z G.env0 Y r q) λr s' j=>?_);cases r with
 | error e=>show hx ao σ H1 s1 e s' G hS j
 | ok fl=>
  cases fl with
  | ret u=>show G.after j
  | next=>show False.elim j
  | brk=>show False.elim j
  | cont=>show False.elim j⟩
end
def agc {K:W.Frag}(X:K.In h)(q:excIn K C bmB newId=true):∃bm N nm q bs hdct sn sub ab col dd k0 k1 k2 k3 k5 mN,h.get? C=some (excClassObj nm q C N bs bm hdct sn sub ab col dd k0 k1 k2 k3 k5 newId)/\h.Ns N mN/\mN "__init__"=none/\OwnTail h bmB bm:=by
 unfold excIn at q;split at q
 .next dd cd sl ho=>
  split at q
  .next C' bm k0 k1 k2 k3 n k5 hm hs=>
   simp only[cp,beq_iff_eq,Bool.not_eq_true']at q;obtain⟨⟨⟨⟨⟨e1,e2⟩,j⟩,ht⟩,hok⟩,D⟩:=q;subst e1 e2;let⟨nm,bs,mro,ns,I,hd,sn,sub,ab,col,G⟩:=cd;dsimp only at hm j hok D;subst hm j;let F:sl=#[k0,k1,k2,k3,some (.builtin n),k5]:=by cases sl;simp only at hs;rw[hs]
   subst F;show⟨bm,ns,nm,I,bs,hd,sn,sub,ab,col,dd,k0,k1,k2,k3,k5,_,X _ _ ho,.of_isNs (isNs_of_in X hok),nsMap_none_of_in X hok D,tail_of_in X ht⟩
  .cases q
 .cases q
abbrev jl:List Value:=[.type "ValueError",.type "Exception",.type "BaseException",.type "object"]
def aiD (C:Addr)(E:XK)(t:TA):TS:=λ_ σ H=>t σ H λvs H1=>vs.length<=sizeLine/\E (.ref C) none H1
section
variable {X:Cx}{C:Addr}{E:XK}{x:Str}{np cpos pos:Pos}{e:Expr}{es:List Expr}{t:TA}
def xP (hl:Lets X E)(hc:X.calm=true)(Y:X.ex=[])(hg:Gl X x)(hm:X.mg x=some (.ref C))(hC:excIn X.K C jl "ValueError.__new__"=true)(ha:QA X (e::es) t)(O:(x==("__debug__":Str))=false:=by decide)(hs:starEach (e::es) X.env=(false,eval e X.env)::starEach es X.env:=by rfl)(G:(backTo cpos (starEach es X.env)).any (·.1)=false:=by rfl):QS X (.Raise (some (.Call (.Name x np) (e::es) [] cpos)) none pos) (aiD C E t):=⟨by
 intro ao s σ H D I h;let⟨tl,N,nm,q,bs,hdct,sn,sub,ab,col,dd,k0,k1,k2,k3,k5,mN,cC,cN,Z,T⟩:=agc I.ok.mod.Ia hC;let ar:=ha.out cpos ao s σ H _ I h;rw[hs]at ar;refine wpAny_Raise_call_subT (C:=C) (nm:=nm) (q:=q) (N:=N) (bs:=bs) (bm:=tl) (hdct:=hdct) (sn:=sn) (sub:=sub) (ab:=ab) (col:=col) (dd:=dd) (k0:=k0) (k1:=k1) (k2:=k2) (k3:=k3) (k5:=k5) gc (mN:=mN)
  (T.hasType gc.hasBase) (I.ok.hd hc) (by rw[hs];show (false||(backTo cpos (starEach es X.env)).any (·.1))=false;rw[G];rfl) Z (o8 I hg hm ⟨rL,?_⟩ O)
 rw[hs];calc iq (eI ar (λus s2 z=>?_) λ_ _ y=>y);let⟨vs,H1,j,r,hv,hE⟩:=z;calc⟨rL,by rw[<-r.length];show hv,j.bk _ _ cC,cN.keeps j.bk,T.keeps j.bk,λh' a hx=>?_⟩;let⟨tt,J,_,_⟩:=hx.there;refine hl ao σ H1 _ a _ _ (j.kept (t':=s2.toks) hx.keeps) J rL rL rL ?_ (λb o z y=>?_) hE
 .cases z:H1 a with| none=>rfl| some u=>let⟨o,F⟩:=(j.hok a u z).there;rw[hx.new]at F;cases F
 .let⟨o',F⟩:=j.base.there b o z (by rw[Y];simp);rw[y,hx.new]at F;cases F⟩
end
def rW (a:Addr)(cls:Value)(dd:Option Addr):Heap->Prop:=λh=>∃oe vs,h.get? a=some oe/\oe.cls=cls/\oe.dict=dd/\oe.data=.fields vs/\vs[2]?=some .none
section
variable {X:Cx}{ao:AH}{σ:St}{H H':Hp}{s s':Shared}{a:Addr}{cls fl:Value}{dd:Option Addr}{B h3:Heap}
def aV.caught (I:aV X ao σ H s)(x:ExB X.prog X.w X.stack H s a cls dd H' s' B)(y:vY B X.stack a cls dd fl h3)(k:s'.heap.UpToSlots h3):aV X ao σ (upd H' a (.ext (rW a cls dd))) {s' with heap:=h3}:=by
 let Z:∀b:Addr,b∉([]:List Addr):=λb=>by simp
 let⟨oe,vs,T,oT,ts,J,j,G,hd,_,h2,_⟩:=y.tr;let O:∀b o,s.heap.get? b=some o->b∈frs X.stack->(∃sl,h3.get? b=some {o with slots:=sl})/\∀vs,o.data≠.fields vs:=λb o z m=>by let⟨_,u,hu,F⟩:=I.stack.mem m;rw[z]at hu;cases hu;let⟨sl2,e2⟩:=x.un.slot b _ z (I.Af b m) m (Z b);let⟨KR,e3⟩:=k b _ e2 F;show⟨⟨KR,e3⟩,F⟩
 let na:∀b o,s.heap.get? b=some o->b≠a:=λb o z m=>by
  by_cases hb:b∈frs X.stack
  .obtain⟨⟨sl,e3⟩,F⟩:=O b o z hb;rw[m,J]at e3;cases e3;show F vs hd
  .let⟨o',e'⟩:=x.th b o z hb;rw[m,y.new]at e';cases e'
 let D:∀b u,H' b=some u->b≠a:=λb u z m=>by rw[m,x.na]at z;cases z
 let kT:∀c u v,H' c=some v->s'.heap.get? c=some u->h3.get? c=some u:=λc u v t z=>by let⟨o',Y⟩:=x.Pk c v t;have:=x.fly.stays c o' Y;rw[z]at this;cases this;show y.stays c u Y
 refine I.call' (s':={s' with heap:=h3}) (ch:=[]) x.os ⟨λb o z n hb _=>y.stays b o (x.kp b o z hb n),λb o z n hb _=>(O b o z hb).1,λb o z n _=>?_,λb o z _=>?_,λb xs t=>?_,λb o u t=>?_,λb ps t=>?_⟩ (λb o t=>?_) x.bare λb z=>absurd z qa
 .rw[aZ (na b o z)];show x.un.free b o z n (Z b)
 .by_cases m:b∈frs X.stack
  .obtain⟨⟨sl,e3⟩,_⟩:=O b o z m;show⟨_,e3⟩
  .let⟨o',e1⟩:=x.th b o z m;show⟨o',y.stays b o' e1⟩
 .let t':=x.un.tups b xs t;rw[aZ (D b _ t')];show t'
 .let t':=x.un.qz b o u t;rw[aZ (D b _ t')];show t'
 .let⟨more,t'⟩:=x.un.q_ b ps t;show⟨more,by rw[aZ (D b _ t')];show t'⟩
 .by_cases hb:b=a
  .subst hb;rw[au]at t;cases t;show⟨⟨oe,vs,J,j,G,hd,h2⟩,⟨oe,J⟩,λh h' ⟨oe,vs,e1,e2,e3,e4⟩ q=>⟨oe,vs,q oe e1,e2,e3,e4⟩⟩
  .rw[aZ hb]at t;refine(x.hok b o t).stay (λc u j z=>?_) (λc r=>by rw[aZ (D c _ r)];show r) λc xs r=>by rw[aZ (D c _ r)];show r
   rcases j with rfl|j;.show kT c u _ t z
   .show kT c u _ j z
def aV.unbound {h':Heap}(I:aV X ao σ H s)(Z:X.N.Nodup)(hi:X.N[i]?=some n)(hk:X.env.kindOf n=some .local)(hm:s.heap.Ns X.env.locals m)(hn:h'.Ns X.env.locals (λy=>if y=n then v else m y))(hs:Heap.SameBut X.env.locals s.heap h'):aV X ao (σ.set i none) H {s with heap:=h',toks:=s.toks+1}:=by
 let ab:∀b o,X.s₀.heap.get? b=some o->b≠X.env.locals:=λb o e=>cn (cK (aI e) I.ok.above);let⟨m1,F,hl⟩:=I.loc;let em:m1=m:=by let⟨o1,es1,ep1,g1,d1,_,f1⟩:=F;let⟨o2,Y,ep2,g2,O,_,f2⟩:=hm;rw[g1]at g2;cases g2;rw[d1]at O;cases O;funext y;rw[<-f1 y,<-f2 y]
 subst em;refine⟨I.ok,I.os,I.bare,⟨λb o e n hb hx=>(hs.2 b (ab b o e)).trans (I.base.keep b o e n hb hx),λb o e n hb hx=>?_,I.base.free,λb o e hx=>?_,I.base.tups,I.base.qz,I.base.q_⟩,⟨_,hn,λj y v' e1 e2 e3=>?_⟩,λy c e=>?_,I.free,I.nF,λp hp=>?_,λb ob e=>?_,by simpa using I.len⟩
 .let⟨sl,e1⟩:=I.base.slot b o e n hb hx;show⟨sl,(hs.2 b (ab b o e)).trans e1⟩
 .let⟨o',e1⟩:=I.base.there b o e hx;show⟨o',(hs.2 b (ab b o e)).trans e1⟩
 .let G:j≠i:=λz=>by
   subst z;rw[List.getElem?_set]at e2;simp only[if_true]at e2;split at e2 <;> simp at e2
  rw[kr (gf G)]at e2;let⟨u,r,l⟩:=hl j y v' e1 e2 e3;calc⟨u,r,?_⟩;let yn:y≠n:=λz=>G (IK Z e1 (z ▸ hi));rcases l with⟨a1,a2⟩|⟨a1,c,a2,a3⟩
  .show .inl ⟨a1,by simp[yn,a2]⟩
  .show .inr ⟨a1,c,a2,a3.sameBut hs (I.Ib y c a2)⟩
 .let⟨J,z⟩:=I.cell y c e;show⟨J,z.sameBut hs (I.Ib y c e)⟩
 .let⟨e,n,ne,nf,d⟩:=I.pin p hp;show⟨(hs.2 p.1 ne).trans e,n,ne,nf,d⟩
 .refine(I.hok b ob e).stay (λc J D q=>(hs.2 c ?_).trans q) (λ_ q=>q) λ_ _ q=>q
  rintro rfl;rcases D with rfl|D;.rw[I.free]at e;cases e
  .rw[I.free]at D;cases D
end
abbrev Cx.tried (X:Cx)(pn:AH)(xe:AF):Cx:={X with pn:=pn,xe:=xe}
abbrev Cx.held (X:Cx)(a:Addr):Cx:={X with A:=X.A.mark (some (.ref a)),calm:=false,xe:=λ_ _=>False}
section
variable {X:Cx}{ao G6 pn:AH}{σ:St}{H:Hp}{s:Shared}{xe:AF}{a:Addr}
def aV.tried (I:aV X ao σ H s)(xe:AF):aV (X.tried (X.pn++ao) xe) [] σ H s:=⟨⟨I.ok.mod,I.ok.kind,I.ok.glob,I.ok.blt,I.ok.above,I.ok.inj,I.ok.has,I.ok.cab,I.ok.hd,I.ok.frames,I.ok.stk,I.ok.exf,I.ok.bs,I.ok.Ds,I.ok.DR,I.ok.Iz,I.ok.qC,I.ok.DW⟩,I.os,I.bare,I.base,I.loc,I.cell,I.free,I.nF,λp hp=>I.pin p (by simpa using hp),I.hok,I.len⟩
def aV.ql (I:aV (X.tried (X.pn++ao) xe) G6 σ H s):aV X ao σ H s:=⟨⟨I.ok.mod,I.ok.kind,I.ok.glob,I.ok.blt,I.ok.above,I.ok.inj,I.ok.has,I.ok.cab,I.ok.hd,I.ok.frames,I.ok.stk,I.ok.exf,I.ok.bs,I.ok.Ds,I.ok.DR,I.ok.Iz,I.ok.qC,I.ok.DW⟩,I.os,I.bare,I.base,I.loc,I.cell,I.free,I.nF,λp hp=>I.pin p (mn _ hp),I.hok,I.len⟩
def SP.ql (h:SP (X.tried (X.pn++ao) xe) G6 D f s):SP X ao D f s:=by
 cases f with
 | next=>let⟨σ',H',I,q⟩:=h;show⟨σ',H',I.ql,q⟩
 | brk=>let⟨σ',H',I,q⟩:=h;show⟨σ',H',I.ql,q⟩
 | cont=>let⟨σ',H',I,q⟩:=h;show⟨σ',H',I.ql,q⟩
 | ret u=>let⟨v,σ',H',I,r,q⟩:=h;show⟨v,σ',H',I.ql,r,q⟩
def aV.held (I:aV X ao σ H s)(a):aV (X.held a) ao σ H s:=⟨⟨I.ok.mod,I.ok.kind,I.ok.glob,I.ok.blt,I.ok.above,I.ok.inj,I.ok.has,I.ok.cab,(λz=>nomatch z),I.ok.frames,I.ok.stk,I.ok.exf,I.ok.bs,I.ok.Ds,I.ok.DR,I.ok.Iz,I.ok.qC,I.ok.DW⟩,I.os,I.bare,I.base,I.loc,I.cell,I.free,I.nF,I.pin,I.hok,I.len⟩
def aV.Ek (I:aV (X.held a) ao σ H s)(ok:X.Ok):aV X ao σ H s:=⟨ok,I.os,I.bare,I.base,I.loc,I.cell,I.free,I.nF,I.pin,I.hok,I.len⟩
end
noncomputable def unb (i:Nat)(D:Ends):Ends:={nx:=λσ H=>D.nx (σ.set i none) H,rt:=D.rt,bk:=λσ H=>D.bk (σ.set i none) H,ct:=λσ H=>D.ct (σ.set i none) H}
def ald (K:W.Frag)(C:Addr)(i:Nat)(tb:XK->St->TS)(th:TS):TS:=λD σ H=>∃E:XK,tb E σ D σ H/\∀(a:Addr) (cls:Value) (dd:Option Addr) (H':Hp),E cls dd H'->H' a=none->
 exmOne K cls (.ref C)=some true/\th (unb i D) (σ.set i (some (.ref a))) (upd H' a (.ext (rW a cls dd)))
def akp (K:W.Frag)(C:Addr)(i:Nat)(tb:XK->St->TS)(th:Addr->TS):TS:=λD σ H=>∃E:XK,tb E σ D σ H/\∀(a:Addr) (cls:Value) (dd:Option Addr) (H':Hp),E cls dd H'->H' a=none->
 exmOne K cls (.ref C)=some true/\th a (unb i D) (σ.set i (some (.ref a))) (upd H' a (.ext (rW a cls dd)))
section
variable {X:Cx}{C:Addr}{x n:Str}{np hpos pos:Pos}{body suite:List Stmt}{b0:Stmt}{i:Nat}{tb:XK->St->TS}{th:TS}{thA:Addr->TS}
def agd (j:X.stack=X.env::X.outer)(hf:X.env.frame=some X.env.locals)(hg:Gl X x)(hm:X.mg x=some (.ref C))(hN:X.N.Nodup)(hi:X.N[i]?=some n)(hk:X.env.scope.names.lookup n=some .local)(hb:∀(pn:AH) (xe:AF) (E:XK) (σ0:St),PassesOwn (model X.prog X.w) X.A X.env xe->pA (qw X.prog X.w) (X.tried pn xe) E (·=σ0)->rQ (X.tried pn xe) body (tb E σ0))(hh:∀a,rQ (X.held a) (b0::suite) (thA a))(hdb:(x==("__debug__":Str))=false:=by decide):QS X (.Try body [.ExceptHandler (some (.Name x np)) (some n) (b0::suite) hpos] [] [] pos) (akp X.K C i tb thA):=⟨by
 intro ao s σ H D I h;let⟨E,O,Tp⟩:=h;let hp:PassesOwn (model X.prog X.w) X.A X.env (λe s₁=>wpAny (model X.prog X.w) X.A (noteFrame e X.env) (λ_ s₂=>wpAny (model X.prog X.w) X.A (setFlight e none) (λ_ s₃=>wpAny (model X.prog X.w) X.A (handleBy e X.env [.ExceptHandler (some (.Name x np)) (some n) (b0::suite) hpos]) (SP X ao D) X.xe s₃) X.xe s₂) X.xe s₁):=PassesOwn.looking;let hP:pA (qw X.prog X.w) (X.tried (X.pn++ao) (λe s₁=>wpAny (model X.prog X.w) X.A (noteFrame e X.env) (λ_ s₂=>wpAny (model X.prog X.w) X.A (setFlight e none) (λ_ s₃=>wpAny (model X.prog X.w) X.A (handleBy e X.env [.ExceptHandler (some (.Name x np)) (some n) (b0::suite) hpos]) (SP X ao D) X.xe s₃) X.xe s₂) X.xe s₁)) E (·=σ):=by
  intro G6 σ' H1 s1 e s2 I1 hσ hq;let⟨a,cls,dd,H',B,ea,ex,q⟩:=hq;subst ea;let J:=I1.ql;let hσ:σ'=σ:=hσ;subst hσ;let fl:vY B (X.env::X.outer) a cls dd .none s2.heap:=by rw[<-j];show ex.fly
  let hfr:X.A.frames=some (X.env::X.outer):=by rw[<-j];show J.ok.frames
  let⟨hmt,hsu⟩:=Tp a cls dd H' q ex.na;calc Nk hfr hf fl λh1 y1 k1=>qj y1 λh2 y2 k2=>?_;let I2:=J.caught ex (by rw[j];show y2) (k1.trans k2);calc wpAny_handleBy_cons (codeAny_handlers_test (o8 (X:=X.held a) (I2.held a) hg hm ?_ hdb)) (by intro q;cases q);let LT:Looks (model X.prog X.w) h2 (typeOf (.ref a)) cls:=by let⟨oe,_,_,_,_,he,hc,_⟩:=y2.tr;show hc ▸ (Looks.ld he).andThen .now
  calc(exm_one (K:=X.K) I2.iV LT hmt).here ?_;calc codeAny_handlers_suite_as (qj y2 λh3 y3 k3=>?_);let I3:=J.caught ex (by rw[j];show y3) ((k1.trans k2).trans k3);calc IV (X:=X.held a) (I3.held a) hN hi (.inl hk) (v:=.ref a) rL (λs4 I4=>?_) (.inr hk);calc eI ((hh a).out ao s4 _ _ (unb i D) I4 hsu) (λf s5 hs=>?_) λ_ _ z=>z.elim;let hcls:(X.env.scope.kind == .class||(X.env.scope.kind == .module&&X.env.locals != X.env.globals))=false:=by rw[J.ok.kind];rfl
  let G:∀{σ5:St} {Z:Hp} {Q:Unit->Shared->Prop},aV (X.held a) ao σ5 Z s5->(∀s6,aV X ao (σ5.set i none) Z s6->Q () s6)->wpAny (model X.prog X.w) X.A (do bindName X.env n .none;unbindBehindTheSuite X.env n hpos) Q X.xe s5:=λF hQ=>by let I5':=F.Ek J.ok;let⟨m,hm5,_⟩:=id I5'.loc;show wpAny_nameGoes_keeps hk hm5 hcls λh' v hn hs=>hQ _ (I5'.unbound hN hi hk hm5 hn hs)
  cases f with
  | next=>let⟨σ5,Z,F,q5⟩:=hs;show G F λs6 Y=>⟨_,_,Y,q5⟩
  | brk=>let⟨σ5,Z,F,q5⟩:=hs;show G F λs6 Y=>⟨_,_,Y,q5⟩
  | cont=>let⟨σ5,Z,F,q5⟩:=hs;show G F λs6 Y=>⟨_,_,Y,q5⟩
  | ret u=>let⟨v,σ5,Z,F,r5,q5⟩:=hs;show G F λs6 Y=>⟨v,_,_,Y,r5,q5⟩
 calc wpAny_Try_except (eI ((hb _ _ E σ hp hP).out [] s σ H D (I.tried _) O) (λf s1 hs=>?_) λe s1 z=>z);let hs:=hs.ql;cases f with
 | next=>let⟨σ',H',I',q⟩:=hs;show(bN (X:=X)).out ao s1 σ' H' D I' q
 | brk=>show hs
 | cont=>show hs
 | ret u=>show hs⟩
def abH (D:X.stack=X.env::X.outer)(G:X.env.frame=some X.env.locals)(I:Gl X x)(hm:X.mg x=some (.ref C))(O:X.N.Nodup)(hi:X.N[i]?=some n)(F:X.env.scope.names.lookup n=some .local)(hb:∀(pn:AH) (xe:AF) (E:XK) (σ0:St),PassesOwn (model X.prog X.w) X.A X.env xe->pA (qw X.prog X.w) (X.tried pn xe) E (·=σ0)->rQ (X.tried pn xe) body (tb E σ0))(J:∀a,rQ (X.held a) (b0::suite) th)(j:(x==("__debug__":Str))=false:=by decide):QS X (.Try body [.ExceptHandler (some (.Name x np)) (some n) (b0::suite) hpos] [] [] pos) (ald X.K C i tb th):=agd (thA:=λ_=>th) D G I hm O hi F hb J j
end
structure yG (K:W.Frag)(C:Addr):Prop where
 cl:(clsIn K C).isSome=true
 ga:findIn K (.ref C) "__getattribute__"=some (some (.builtin "BaseException.__getattribute__"))
 gx:findIn K (.ref C) "__getattr__"=some none
 ha:findIn K (.ref C) "__class__"=some (some (.builtin "object.__class__"))
 hn:specialIn K (.builtin "object.__class__") "__get__"=some (some (.builtin "getset_descriptor.__get__"))
 ht:takesIn K (.builtin "object.__class__")=some true
 hm:mroIn K C (.type "object")=some true
 hb:mroIn K C (.type "BaseException")=some true
section
variable {prog:Program}{w:World}{A:Around}{E:AF}{s:Shared}{K:W.Frag}{x C:Addr}{ox:Obj}{odo:Option Obj}
def adR (T:yG K C):findObj K C odo "__class__"=some (.bind (.builtin "getset_descriptor.__get__") (.builtin "object.__class__")):=by let⟨cd,j⟩:=gm.mp T.cl;unfold findObj;rw[j,Option.bind_some,T.ha,Option.bind_some];simp[T.hn,T.ht]
def abI (T:yG K C)(X:K.In s.heap)(I:InstAt s.heap x ox C odo)(h:Q (.done (.ret (.ref C))) s):wpAny (model prog w) A (Builtin.«object.__getattribute__» ⟨[.ref x,.str "__class__" tk],[]⟩) Q E s:=by
 let⟨D,g,d,t,os⟩:=s;let F:=I.type (M:=model prog w);let j:=looks_find (M:=model prog w) X I (adR T);unfold Builtin.«object.__getattribute__»
 repeat (first|with_reducible refine gV (class_get X I T.hm ?_)|lk)
 show h
def abJ (T:yG K C)(X:K.In s.heap)(I:InstAt s.heap x ox C odo)(h:Q (some (.ref C)) {s with toks:=s.toks+1}):wpAny (model prog w) A (getAttr? (.ref x) "__class__") Q E s:=by
 let⟨Z,g,d,t,os⟩:=s;let G:=I.type (M:=model prog w);let O:=looks_findIn (M:=model prog w) X T.ga;let L2:=looks_findIn (M:=model prog w) X T.gx;unfold getAttr? getAttrBy? getAttrBy;calc ae (wpAny_mkText (ae (og (fS (ae (G.at (ae (O.at ?_))))))));show wpAny _ _ (getAttrByItsOwn _ _ _ _ _ _) _ _ _;unfold getAttrByItsOwn hookBefore;rw[if_pos (show onTheHeap (Value.ref C)=true from rL)];calc ae (L2.at (ae (og (fS ?_))));unfold callGetattribute boundAndCalled;rw[if_neg qc];let f3:=om.ga.bind (.ref x);rw[f3];calc ae (aw ?_);calc gV (mP om.ga.plain F.entry_bexc_ga ?_);let Y:builtinKind "BaseException.__getattribute__"=some .slot:=by decide +kernel
 let j:splitId "BaseException.__getattribute__"=some ("BaseException","__getattribute__"):=by decide +kernel
 let J:=looks_mroIn (M:=model prog w) X T.hb;let D:=F.args_bexc_ga (.ref x) (.str "__class__" t);simp only[checkBuiltinCall,Y,j];calc ae ?_;unfold isInstance;refine ae (G.at (J.at ?_))
 repeat (first|refine abI (x:=x) T X I ?_|assumption|wp_step)
def adS {y:Addr}(T:yG K C):KitX K (.ref y) (.ref C) (λh=>∃ox odo,InstAt h y ox C odo) where
 ty:=λ_ _ _ ⟨_,_,I⟩=>I.type
 it:=λ_ _ X _=>by
  let⟨cd,j⟩:=gm.mp T.cl;unfold clsIn at j;split at j
  .next ho=>intro F J G s' k q;unfold isType loadHead;show ae (nE (k _ _ (X _ _ ho)) (aw q))
  .cases j
 ne:=λh tp dd its n sl X D=>by
  calc ly.mpr λq=>?_;let e:C=tp:=Value.ref.inj (beq_iff_eq.mp q);subst e;let⟨cd,j⟩:=gm.mp T.cl;unfold clsIn at j
  split at j
  .next ho=>have z:=(X _ _ ho).symm.trans D;cases z
  .cases j
 ca:=λX ⟨_,_,I⟩ k=>abJ T X I k
end
def aiE (H:Hp):Option Addr->Prop
 | none=>True
 | some d=>∃o,H d=some o
def abK (K:W.Frag):List V->Hp->VK->Prop:=λxs H Q=>∃(a C:Addr) (c:V) (u:Value) (dd:Option Addr) (b:Bool),xs=[.ref a,c]/\((∃D,c=.ref D/\u=.ref D)\/∃n,c=.ty n/\u=.type n)/\H a=some (.ext (rW a (.ref C) dd))/\aiE H dd/\yG K C/\kitOne K (.ref C) u=some b/\Q (.bl b) H
section
variable {X:Cx}
def Tq (hc:True:=True.intro):jc X (.builtin "isinstance") (abK X.K):=by
 intro ao s σ H xs us Q I r h;let⟨a,C,c,u,dd,b,rfl,O,ha,hd,T,k,q⟩:=h;let⟨G,w',rfl,r1,F⟩:=vals2 r;obtain rfl:G=Value.ref a:=r1;let Z:w'=u:=by
  rcases O with⟨D,rfl,rfl⟩|⟨n,rfl,rfl⟩;.show F
  .show F
 subst Z;obtain⟨⟨oe,vs,e1,e2,e3,e4,_⟩,_,_⟩:=(show gJ X.prog X.w H s.heap a (.ext (rW a (.ref C) dd)) from I.hok a _ ha)
 let J:∃ox odo,InstAt s.heap a ox C odo:=by
  cases dd with| none=>show⟨oe,none,e1,e2,by unfold notCls;rw[e4],by rw[e3];trivial⟩| some d=>let⟨o1,j⟩:=hd;let⟨o,Y⟩:=(I.hok d _ j).there;show⟨oe,some o,e1,e2,by unfold notCls;rw[e4],by rw[e3];show Y⟩
 show kia_one (adS T) I.iV J k (λz=>nomatch z) λtk=>⟨.bl b,H,I.tok tk,rL,q⟩
end
def yH:bootBuiltins "ValueError"=some (.type "ValueError"):=by decide +kernel
section
variable {X:Cx}
def ale (K:W.Frag):R2:=λx y H Q=>∃(p q:Addr) (bs:List Bool),x=.ref p/\y=.ref q/\bJ K H p (bs.map V.bl)/\bJ K H q (bs.map V.bl)/\Q (.bl true) H
def abL (Z:X.A.units<cLine):gK X (compareOp .Eq) (ale X.K):=by
 intro ao s σ H x y v u Q I rx ry h;let⟨p,q',bs,rfl,rfl,h1,h2,q⟩:=h;cases rx;cases ry;let⟨its,r1,p1,_⟩:=I.list h1;let⟨D,G,p2,_⟩:=I.list h2;let l1:its.length=bs.length:=by have:=r1.length;simpa using this.symm
 let l2:D.length=bs.length:=by have:=G.length;simpa using this.symm
 refine SeqAt.eq_listAt (e:=λ_=>true) p1.isList p2.isList (by simp[l1,l2]) Z (λj J g2=>?_) ⟨.bl true,H,I,?_,q⟩
 .let F:j<bs.length:=by simpa [l1] using J
  let⟨O,e1,s1⟩:=r1.get (i:=j) (x:=.bl bs[j]) (by simp[F]);let⟨Y,e2,s2⟩:=G.get (i:=j) (x:=.bl bs[j]) (by simp[F]);let f1:its.toArray[j]=O:=by have:=e1;rw[ac J]at this;simpa using this
  let f2:D.toArray[j]=Y:=by have:=e2;rw[ac p_]at this;simpa using this
  rw[f1,f2];have:=abf (A:=X.A.in1) (s:=s) s1 s2 rL rfl;rw[show D_ (.bl bs[j]) (.bl bs[j])=true by cases bs[j] <;> rfl]at this;show this
 .show Value.bool _=Value.bool _;simp
def gO (K:W.Frag)(h:X.K=K:=by rfl):jc X (.builtin "isinstance") (abK K):=by subst h;show Tq
end
end L2
namespace HT
open PySem PySem.Spec PyProof.Rows
section
variable {prog:Program}{w:World}{A:Around}{E:AF}{s:Shared}
def Hy {lo hi:Option Int}(ht:IsTup s.heap t items)(hs:s.heap.IsSliceOf sl vl vu .none)(pl:IsPart vl lo)(D:IsPart vu hi)(hw:dB items.size 0 lo=0/\dB items.size items.size hi=items.size)(h:Q (.ref t) s):wpAny (model prog w) A (getItem (.ref t) (.ref sl)) Q E s:=by
 let⟨F,h1,h2,h3⟩:=id hs;let ty:s.TypeIs (.ref sl) "slice":=⟨F,h1,h2⟩
 unfold getItem
 try with_reducible refine fS ?_
 first|refine ae (aw ?_)|skip
 calc ae (wpAny_sequenceKey ht.typeIs qc (ae (iX (name:=Str.ofString "__getitem__") ht.typeIs fo (gS fo ht.typeIs entry_tuple_getitem ?_ (args_tuple_getitem _ _)))));show wpAny _ _ (Builtin.Tuple.tupleItemsOf (.ref t) >>= _) _ _ s;calc ae (tupleItemsOf_ ht (ae (wpAny_typeOf ty ?_)));rw[if_pos qc];calc ae (xG hs pl D ?_);let j:((((dB items.size 0 lo:Nat):Int)==0&&(1:Int)==1&&(dB items.size items.size hi-dB items.size 0 lo)==items.size)=true):=by rw[hw.1,hw.2];simp
 show wpAny _ _ (if (((dB items.size 0 lo:Nat):Int)==0&&(1:Int)==1&&(dB items.size items.size hi-dB items.size 0 lo)==items.size)=true then _ else _) _ _ s;rw[if_pos j];calc ae ?_;unfold Builtin.Tuple.tupleIsExact;calc ae (wpAny_typeOf ht.typeIs (aw ?_));rw[if_pos qc];show ae (oB (aw ⟨_,rL,aw h⟩))
end
end HT
namespace L2
open PySem PySem.Spec PyProof.Rows PySem.W
section
variable {X:Cx}
def akq (K:W.Frag):R2:=λx y H Q=>∃a b xs ys,x=.ref a/\y=.ref b/\aU K H a xs/\aU K H b ys/\xs.length+ys.length<=sizeLine/\(xs=[]->H b=some (.tup ys))/\(ys=[]->xs≠[]->H a=some (.tup xs))/\
 ∀p H',aD H H'->H' p=some (.tup (xs++ys))->Q (.ref p) H'
def w6:gK X (binaryOp .Add) (akq X.K):=by
 intro ao s σ H x y v u Q I rx ry h;let⟨a,b,xs,ys,rfl,rfl,ha,hb,hz,e1,e2,q⟩:=h;cases rx;cases ry;let⟨its,r1,p1,_⟩:=I.tuple ha;let⟨F,J,p2,_⟩:=I.tuple hb;by_cases hx:xs=[]
 .let hi:its=[]:=r1.Ai.mpr hx;obtain⟨⟨cls,dd,data,sl⟩,ho,hc,n,hd⟩:=id p1;obtain⟨⟨cls2,O,Y,Z⟩,j,D,n2,G⟩:=id p2;simp only at hc hd D G;subst hc hd D G;show concat_meets ⟨_,ho,rL⟩ ⟨_,j,rL⟩ noFill_tuple_add seq_tuple_add lP lj (kQ _ _)
   (tuple_addW0 a b its.toArray F.toArray n n2 dd O sl Z (by simp[hi])) ⟨ho,j,⟨.ref b,H,I,rL,q b H (aD.refl _) (by rw[hx];show e1 hx)⟩⟩
 .refine HT.afT p1 p2 (λz=>hx (r1.Ai.mp z)) (λz=>⟨.ref a,H,I,rL,?_⟩) (λz=>?_) (by rw[<-r1.length,<-J.length];show hz)
  .let hy:=J.Ai.mp z;show q a H (aD.refl _) (by rw[hy,dL];show e2 hy hx)
  .calc⟨.ref s.heap.objs.size,_,I.laid (t':=s.toks) (o:=.tup (xs++ys)) (λb ob q=>af _ q) (al _) ?_,rL,q _ _ (aD.upd (I.hok.fresh (al _))) au⟩;show⟨by rw[av];show hz,_,r1.append J,IsTup.new _ _⟩
def alf (K:W.Frag):V->Option Int->Option Int->Hp->VK->Prop:=λx lo hi H Q=>∃a xs,x=.ref a/\H a=some (.tup xs)/\∀p H',aD H H'->H' p=some (.tup (iG xs lo hi))->Q (.ref p) H'
def xq:Xu X (alf X.K):=by
 intro ao s σ H x v G J lo hi sl Q I F hs pl D h;let⟨a,xs,rfl,hx,q⟩:=h;cases F;let⟨its,r,ht,hz⟩:=I.tuple (aU.of hx);let j:its.toArray.size=xs.length:=by rw[bc];show r.length.symm
 calc⟨"tuple",_,fo.lookup,ht.typeIs,?_⟩;by_cases hw:HT.dB xs.length 0 lo=0/\HT.dB xs.length xs.length hi=xs.length
 .calc HT.Hy ht hs pl D (by rw[j];show hw) ⟨.ref a,H,I,rL,q a H (aD.refl _) ?_⟩;unfold iG;rw[hw.1,hw.2];simpa using hx
 .calc HT.Hx ht hs pl D (by rw[j];show hw) ?_ (by rw[j];show hz);rw[j];calc⟨.ref s.heap.objs.size,_,I.laid (t':=s.toks) (o:=.tup (iG xs lo hi)) (λb ob q=>af _ q) (al _) ?_,rL,q _ _ (aD.upd (I.hok.fresh (al _))) au⟩;show⟨bE (Ig xs lo hi) hz,_,(r.drop (HT.dB xs.length 0 lo)).take (HT.dB xs.length xs.length hi-HT.dB xs.length 0 lo),IsTup.new _ _⟩
def xQ:fillsNumberSlot (.type "tuple") "mul"=pure false:=PySem.fillsNumberSlot_seq (id:="tuple.__mul__") (r:=some (.builtin "tuple.__rmul__")) jS.lookup qi (by rw[typeLookup_type,builtinLookup_eq_fast];kernel_rfl) qi
def El:seqRepeat? (.type "tuple")=pure (some (.builtin "tuple.__mul__")):=by unfold seqRepeat?;rw[PySem.seqSlot_of (T:="tuple") (name:="__mul__") (id:="tuple.__mul__") jS.lookup qi,PySem.seqSlot_of (T:="tuple") (name:="__rmul__") (id:="tuple.__rmul__") (by rw[typeLookup_type,builtinLookup_eq_fast];kernel_rfl) qi];rfl
def KY (a)(t:Tok)(l)(items)(n)(dd)(sl):Meets (Builtin.«int.__rmul__» ⟨[.int a t,.ref l],[]⟩) (λ_ R s=>s.heap.get? l=some {cls:=.type "tuple",dict:=dd,data:=.seq items n,slots:=sl}/\R (.ok (.ret Value.notImplemented)) s):=
 .of_wp λprog w A R s h=>by
  let⟨hp,g,d,tk,os⟩:=s;let⟨hl,h⟩:=h
  wp_walk
  show⟨_,rL,h⟩
def XS {α:Type}(n)(l:List α):(List.replicate n l).flatten.length=n*l.length:=by
 induction n with| zero=>simp| succ n ih=>rw[dS,fb,av,ih,oS];lia
theorem X3:∀(n:Nat) (a j:Array Value),List.foldl (λx1 D=>x1++D) j (List.replicate n a)=(j.toList++(List.replicate n a.toList).flatten).toArray
 | 0,a,j=>by simp
 | n+1,a,j=>by rw[dS,mB,X3 n a (j++a)];simp[dS]
def Ql (n:Nat)(a:Array Value):List.foldl (λx1 j=>x1++j) #[] (List.replicate n a)=((List.replicate n a.toList).flatten).toArray:=by rw[X3];simp
def Z2 (l)(j:Array Value)(n)(dd)(sl)(x)(u:Tok)(h0:¬j.isEmpty=true)(h1:2<=x)(h2:x<=100)(h3:j.size<=100):Meets (Builtin.«tuple.__mul__» ⟨[.ref l,.int x u],[]⟩) (λ_ R s=>s.heap.get? l=some {cls:=.type "tuple",dict:=dd,data:=.seq j n,slots:=sl}/\R (.ok (.ret (.ref s.heap.objs.size))) {s with heap:=s.heap.push {cls:=.type "tuple",data:=.seq (List.foldl (λx1 D=>x1++D) #[] (List.replicate x.toNat j))} }):=
 .of_wp λprog w A R s h=>by
  let⟨hp,g,d,tk,os⟩:=s;let⟨hl,h⟩:=h;let f1:=AutoSeq1.idx_int;let f2:=AutoSeq1.sub_tuple_tuple;let c1:(decide (x < -(2^63))||decide (x>=2^63))=false:=by simp;lia
  let c2:(j.isEmpty||x==1)=false:=by simp at h0;simp[h0];lia
  let c3:(decide (x<=0)||j.isEmpty)=false:=by simp at h0;simp[h0];show Int.le_of_lt h1
  wp_walk using js hl
  rw[if_neg (by rw[c1];decide)]
  wp_walk using js hl
  rw[if_neg (by rw[c2];decide)]
  try wp_walk using js hl
  rw[if_neg (by rw[c3];decide)];let c4:(j.size:Int)*x<=10000:=k9 (show (j.size:Int)<=100 by lia) h2 p_ p_
  try wp_walk using js hl
  rw[if_neg p_]
  try wp_walk using js hl
  rw[if_neg (by unfold Builtin.Tuple.tupleTooMany;simp[sizeLine];lia)];let hz:(List.foldl (λx1 D=>x1++D) #[] (List.replicate x.toNat j)).size<=sizeLine:=by rw[Ql,bc,XS,fw];have:x.toNat*j.size<=100*100:=gg (by simp_all) h3;show bE this qc
  calc ae ?_;unfold Builtin.Tuple.tupleExact;calc gu ?_ hz;show aw ⟨_,rL,h⟩
def akr (K:W.Frag):R2:=λx y H Q=>∃a xs,∃n:Nat,x=.ref a/\y=.int n/\aU K H a xs/\xs≠[]/\2<=n/\n<=100/\xs.length<=100/\∀p,H p=none->Q (.ref p) (upd H p (.tup (List.replicate n xs).flatten))
theorem Tr (r:Vals xs us):∀n,Vals (List.replicate n xs).flatten (List.replicate n us).flatten
 | 0=>.nil
 | n+1=>by rw[dS,dS,fb,fb];show r.append (Tr r n)
def agf:gK X (binaryOp .Mult) (akr X.K):=by
 intro ao s σ H x y v u Q I J G h;let⟨a,xs,n,rfl,rfl,ha,hx,O,D,Z,q⟩:=h;cases J;let⟨tk,rfl⟩:=G;let⟨its,r1,p1,_⟩:=I.tuple ha;let hl:=r1.length;obtain⟨⟨cls,dd,data,sl⟩,j,F,m,hd⟩:=id p1;simp only at F hd;subst F hd;let h0:¬its.toArray.isEmpty=true:=λz=>hx (r1.Ai.mp (by simpa using z));refine kN (T:="tuple") (U:="int") qc ⟨_,j,rL⟩ (λs'=>typeIs_int s' _ _) xQ PySem.F.fills_int_mul km El PySem.F.slot_int_index.lookup
  (call_meets km (typeIs_int s _ _) PySem.F.entry_int_rmul (PySem.F.args_int_rmul_2 _ _) (KY _ _ a its.toArray m dd sl) ⟨j,rL,⟨_,j,rL⟩,?_⟩)
 calc call_meets jS ⟨_,j,rL⟩ PySem.F.entry_tuple_mul (PySem.F.args_tuple_mul_2 _ _) (Z2 a its.toArray m dd sl (n:Int) _ h0 p_ p_ (by rw[bc,<-hl];show Z)) ⟨j,?_⟩;calc⟨.ref s.heap.objs.size,_,I.laid (t':=s.toks) (o:=.tup (List.replicate n xs).flatten) (λb ob q=>af _ q) (al _) ?_,rL,q _ (I.hok.fresh (al _))⟩;refine⟨?_,(List.replicate n its).flatten,Tr r1 n,?_⟩
 .rw[XS];have:n*xs.length<=100*100:=gg D Z;show bE this qc
 .rw[Ql,show ((n:Int)).toNat=n from rL,show its.toArray.toList=its by simp];show IsTup.new _ _
end
def yI (K:Frag)(C fI:Addr):Bool:=match K.lookup C with
 | some ⟨.type "type",_,.cls cd,sl⟩=>(match cd.mro,sl.toList with
  | .ref D::tl,[_,_,_,_,some (.builtin n),_]=>(D==C)&&(n=="ValueError.__new__")&&(!cd.hasDel)&&(cd.hasDict&&(tailIn K jl tl&&(nsOkIn K cd.ns&&(nsIn K cd.ns "__init__" == some (some (.ref fI))))))
  | _,_=>false)
 | _=>false
def alg {K:Frag}(X:K.In h)(G:h.Ns N m)(e:nsIn K N n=some (some v)):m n=some v:=by
 let⟨o,es,ep,j,hd,_,D⟩:=G;unfold nsIn at e;split at e
 .next c0 d0 es0 n0 Qm q=>
  let z:=X _ _ q;rw[j]at z;cases z;cases hd;split at e
  .next en he=>cases e;rw[<-D];unfold nsFind findBy;rw[<-Array.find?_toList,he];rfl
  .split at e <;> cases e
 .cases e
def Nm {K:Frag}(X:K.In h)(q:yI K C fI=true):∃bm N nm q bs sn sub ab col dd k0 k1 k2 k3 k5 mN,h.get? C=some (excClassObj nm q C N bs bm true sn sub ab col dd k0 k1 k2 k3 k5 "ValueError.__new__")/\h.Ns N mN/\mN "__init__"=some (.ref fI)/\OwnTail h jl bm:=by
 unfold yI at q;split at q
 .next dd cd sl ho=>
  split at q
  .next D tl k0 k1 k2 k3 n k5 hm hs=>rw[cp,cp,cp,cp,cp,cp,beq_iff_eq,beq_iff_eq,beq_iff_eq,Bool.not_eq_true']at q;obtain⟨⟨⟨e1,e2⟩,e3⟩,e4,ht,hok,hi⟩:=q;subst e1 e2;let⟨nm,bs,mro,ns,G,hd,sn,sub,ab,col,j⟩:=cd;dsimp only at hm e3 e4 hok hi;subst hm e3 e4;let⟨F⟩:=sl;dsimp only at hs;subst hs;show⟨tl,ns,nm,G,bs,sn,sub,ab,col,dd,k0,k1,k2,k3,k5,_,X _ _ ho,.of_isNs (isNs_of_in X hok),alg X (.of_isNs (isNs_of_in X hok)) hi,tail_of_in X ht⟩
  .cases q
 .cases q
section
variable {prog:Program}{w:World}{A:Around}{E:AF}{h:Heap}{g:Array GenState}{d:Drawn}{t:Nat}{os:OsState}
variable {nm q:Str}{C N fI:Addr}{bs bm:List Value}{sn:List Str}{sub:List Value}{ab:Bool}{col:Option Bool}{dd:Option Addr}{k0 k1 k2 k3 k5:Option Value}{oI:Obj}{mN:Str->Option Value}{rest:List Value}
abbrev newArgs (rest:List Value):Obj:={cls:=.type "tuple",data:=.seq rest.toArray}
abbrev newExc (C a:Addr):Obj:={cls:=.ref C,data:=.fields #[.ref a,.none,.none,.none,.bool false,.none]}
def Tt (T:OwnTail h jl bm)(j:h.get? C=some (excClassObj nm q C N bs bm true sn sub ab col dd k0 k1 k2 k3 k5 "ValueError.__new__"))(hn:h.Ns N mN)(hi:mN "__init__"=some (.ref fI))(Y:h.get? fI=some oI)(D:oI.cls=.type "function")(hz:rest.length<=sizeLine)(J:wpAny (model prog w) A (call (.ref fI) (.ref (h.objs.size+1)::rest)) (λr s'=>r=.none/\Q (.done (.ret (.ref (h.objs.size+1)))) s') E ⟨(h.push (newArgs rest)).push (newExc C h.objs.size),g,d,t,os⟩):wpAny (model prog w) A (Builtin.«type.__call__» ⟨.ref C::rest,[]⟩) Q E ⟨h,g,d,t,os⟩:=by
 let F:=gc
 repeat (first|with_reducible refine ip j ?_|with_reducible refine wpAny_madeBy_exc j ?_|wp_step)
 calc codeAny_call_builtin_code (Code.quiet_builtin _ F.quiet) (wpAny_check_new_subT F T j (codeAny_exc_new_subT F T j ?_ hz));show wpAny _ _ _ _ _ _;let up:∀b o,h.get? b=some o->((h.push (newArgs rest)).push (newExc C h.objs.size)).get? b=some o:=λb o z=>af _ (af _ z);let I:=up _ _ j;let eF:=up _ _ Y;let Z:=hn.keeps up;let O:=T.keeps up;let eX:((h.push (newArgs rest)).push (newExc C h.objs.size)).get? (h.objs.size+1)=some (newExc C h.objs.size):=by heap_get
 let G:(Value.ref C::bm).contains (.ref C)=true:=qa;unfold isInstance
 repeat (first|with_reducible refine ip eX ?_|(with_reducible calc wpAny_isSubtype_exc I ?_;rw[G])|wp_step)
 show wpAny _ _ (typeLookup (.ref C) "__init__") _ _ _;calc wpAny_typeLookup_tail I Z O F.mroIs F.init.lookup ?_;rw[hi];calc fS (ae ?_);unfold bindSpecial;calc ae (wpAny_typeOf (T:="function") ⟨_,eF,D⟩ ?_);rw[if_pos qc];calc aw (ae (eI J (λr s' z=>?_) λ_ _ y=>y));let⟨rfl,z⟩:=z
 wp_walk
 show z
def adU (T:OwnTail h jl bm)(j:h.get? C=some (excClassObj nm q C N bs bm true sn sub ab col dd k0 k1 k2 k3 k5 "ValueError.__new__"))(hn:h.Ns N mN)(hi:mN "__init__"=some (.ref fI))(G:h.get? fI=some oI)(D:oI.cls=.type "function")(hz:rest.length<=sizeLine)(F:wpAny (model prog w) (A.under (.builtin "type.__call__" ⟨.ref C::rest,[]⟩)) (call (.ref fI) (.ref (h.objs.size+1)::rest)) (λr s'=>r=.none/\Q (.ref (h.objs.size+1)) s') E ⟨(h.push (newArgs rest)).push (newExc C h.objs.size),g,d,t,os⟩):wpAny (model prog w) A (call (.ref C) rest) Q E ⟨h,g,d,t,os⟩:=by
 let f1:=tc_lookup;let f2:=tc_bind (.ref C);let I:(⟨h,g,d,t,os⟩:Shared).TypeIs (.ref C) "type":=⟨_,j,rL⟩
 calc gV (codeAny_of_tree ?_);show wpAny _ _ (callAny (.ref C) _) _ _ _
 repeat (any_goals (first|assumption|with_reducible refine ip j ?_|wp_step))
 show⟨rL,codeAny_call_builtin_at (Code.quiet_builtin _ qi) entry_typeCall (wpAny_check_type_call_sub j (Tt T j hn hi G D hz F))⟩
end
section
variable {M:Model}{A:Around}{E:AF}{s:Shared}{env:Env}{x:Sem Value}{Q:Flow->Shared->Prop}
variable {nm q:Str}{C N:Addr}{bs bm:List Value}{hdct:Bool}{sn:List Str}{sub:List Value}{ab:Bool}{col:Option Bool}{dd:Option Addr}{k0 k1 k2 k3 k5:Option Value}{newId:String}
def abM (hb:bm.contains (.type "BaseException")=true)(J:A.handled=none)(hx:wpAny M A x (λv s1=>∃e oe vs,v=.ref e/\s1.heap.get? C=some (excClassObj nm q C N bs bm hdct sn sub ab col dd k0 k1 k2 k3 k5 newId)/\s1.heap.get? e=some oe/\oe.cls=.ref C/\oe.data=.fields vs/\vs[1]?=some .none/\E (.ref e) s1) E s):wpAny M A (raiseStmt env (some x) none) Q E s:=by
 let inB:(Value.ref C::bm).contains (.type "BaseException")=true:=by rw[List.contains_cons,hb,Bool.or_true]
 unfold raiseStmt;calc ae (eI hx (λv s1 z=>?_) λ_ _ y=>y);let⟨e,oe,vs,rfl,D,I,j,hd,h1,F⟩:=z;let⟨oc,od,G,osl⟩:=oe;dsimp only at j hd;subst j hd;let⟨hp,g,d,tk,os⟩:=s1
 repeat (first|with_reducible refine ip I ?_|with_reducible refine ip D ?_|(with_reducible calc wpAny_isSubtype_exc D ?_;rw[inB])|wp_step)
 rw[h1];calc aw ?_;rw[if_neg qc];show aw (wpAny_raiseNew_none J F)
end
def jt (a:Addr)(cls:Value)(dd:Option Addr):Heap->Prop:=λh=>∃oe vs,h.get? a=some oe/\oe.cls=cls/\oe.dict=dd/\oe.data=.fields vs/\vs[1]?=some .none/\vs[2]?=some .none/\dd≠some a
def jt.at {h h':Heap}(x:jt a cls dd h)(k:∀o,h.get? a=some o->h'.get? a=some o):jt a cls dd h':=let ⟨oe,vs,e,r⟩:=x;⟨oe,vs,k oe e,r⟩
def jt.ok (x:jt a cls dd h):gJ P w H h a (.ext (jt a cls dd)):=⟨x,let ⟨oe,_,e,_⟩:=x;⟨oe,e⟩,λ_ _ y k=>y.at k⟩
def drop (H:Hp)(a:Addr):Hp:=λb=>if b=a then none else H b
def rF:drop H a a=none:=by unfold drop;rw[if_pos rfl]
def j5 (h:b≠a):drop H a b=H b:=by unfold drop;rw[if_neg h]
section
variable {X:Cx}{ao:AH}{σ:St}{H:Hp}{s:Shared}{a:Addr}{φ:Heap->Prop}
def aV.drop (I:aV X ao σ H s)(ha:H a=some (.ext φ))(KQ:∀b o,X.s₀.heap.get? b=some o->b≠a):aV X ao σ (L2.drop H a) s:=by
 let ne:∀b u,H b=some u->(∀φ,u≠.ext φ)->b≠a:=λb u e n z=>by rw[z,ha]at e;cases e;show n φ rfl
 refine⟨I.ok,I.os,I.bare,⟨I.base.keep,I.base.slot,λb o e n hx=>?_,I.base.there,λb xs e=>?_,λb o u e=>?_,λb ps e=>?_⟩,I.loc,I.cell,?_,λx c e=>?_,λp hp=>?_,λb o e=>?_,I.len⟩
 .by_cases hb:b=a;.rw[hb];show rF
  .rw[j5 hb];show I.base.free b o e n hx
 .let z:=I.base.tups b xs e;rw[j5 (ne b _ z λφ=>by simp)];show z
 .let z:=I.base.qz b o u e;rw[j5 (ne b _ z λφ=>by simp)];show z
 .let⟨more,z⟩:=I.base.q_ b ps e;show⟨more,by rw[j5 (ne b _ z λφ=>by simp)];show z⟩
 .by_cases hb:X.env.locals=a;.rw[hb];show rF
  .rw[j5 hb];show I.free
 .by_cases hb:c=a;.rw[hb];show rF
  .rw[j5 hb];show I.nF x c e
 .let⟨e1,e2,e3⟩:=I.pin p hp;calc⟨e1,?_,e3⟩;by_cases hb:p.1=a;.rw[hb];show rF
  .rw[j5 hb];show e2
 .by_cases hb:b=a;.rw[hb,rF]at e;cases e
  .rw[j5 hb]at e;refine(I.hok b o e).stay (λc u _ z=>z) (λc r=>?_) λc xs r=>?_
   .rw[j5 (ne c _ r λφ=>by simp)];show r
   .rw[j5 (ne c _ r λφ=>by simp)];show r
end
structure MkX (K:Frag)(C f:Addr):Prop where
 ini:yI K C f=true
 fn:W.isFn K (.ref f)=true
 kp:W.keepIn K (.ref C)=true
def agg (C:Addr)(sp:Sp)(E:XK)(t:TA):TS:=λ_ σ H=>t σ H λvs H1=>vs.length<=sizeLine/\∀a,H1 a=none->sp (.ref a::vs) (upd H1 a (.ext (jt a (.ref C) none))) (λv j=>v=.non/\∃dd,j a=some (.ext (jt a (.ref C) dd))/\E (.ref C) dd (drop j a)) E0
section
variable {X:Cx}{k:Nat}{f C:Addr}{fd:FuncData}{ps:List Str}{sp:Sp}{x:Str}{p pos cpos:Pos}{e:Expr}{es:List Expr}{t:TA}{E:XK}
def agh {ao:AH}{s:Shared}{σ:St}{H:Hp}{G:Addr->Hp->Prop}(M:MkX X.K C f)(F:cj X.prog X.w X.K X.mg X.base dN k f fd ps sp)(hr:fZ (k+1) X.A)(hg:Gl X x)(hm:X.mg x=some (.ref C))(hb:bT X.K fd ps [])(ha:QA X (e::es) t)(I:aV X ao σ H s)(h:t σ H λvs H1=>vs.length<=sizeLine/\∀a,H1 a=none->sp (.ref a::vs) (upd H1 a (.ext (jt a (.ref C) none))) (λv Y=>v=.non/\G a Y) E0)(hdb:(x==("__debug__":Str))=false)(hs:starEach (e::es) X.env=(false,eval e X.env)::starEach es X.env)(Z:(backTo cpos (starEach es X.env)).any (·.1)=false):wpAny (model X.prog X.w) X.A (eval (.Call (.Name x p) (e::es) [] cpos) X.env) (λv s'=>∃a Y,v=.ref a/\aV X ao σ Y s'/\X.s₀.heap.objs.size<=a/\G a Y) X.xe s:=by
 calc hJ (o8 I hg hm ?_ hdb);calc jb (h₀:=X.base) I.ok.mod.Ia M.kp (cH (ha.out cpos ao s σ H _ I h) λus s1 ⟨vs,H1,J,r,hz,q⟩=>⟨J.iV,?_⟩) hs Z;let⟨bm,N,nm,qn,bs,sn,sub,ab,col,dd,k0,k1,k2,k3,k5,mN,cC,cN,ci,T⟩:=Nm J.iV M.ini;obtain⟨oI,hoI,hcI⟩:∃oI,s1.heap.get? f=some oI/\oI.cls=.type "function":=by
  let z:(X.K.lookup f).map (·.cls)=some (.type "function"):=beq_iff_eq.mp M.fn;cases y:X.K.lookup f with
  | none=>rw[y]at z;cases z
  | some of=>rw[y]at z;show⟨of,J.iV _ _ y,bo z⟩
 let O:X.s₀.heap.objs.size<=s1.heap.objs.size+1:=Nat.le_succ_of_le J.sz;let⟨j,g,d,tk,os⟩:=s1;let I2:aV X ao σ H1 ⟨j.push (newArgs us),g,d,tk,os⟩:=J.kept (t':=tk) λb u z=>af _ z;let hsz:(j.push (newArgs us)).objs.size=j.objs.size+1:=fe _ _;let eX:((j.push (newArgs us)).push (newExc C j.objs.size)).get? (j.objs.size+1)=some (newExc C j.objs.size):=by heap_get
 let I3:aV X ao σ (upd H1 (j.objs.size+1) (.ext (jt (j.objs.size+1) (.ref C) none))) ⟨(j.push (newArgs us)).push (newExc C j.objs.size),g,d,tk,os⟩:=I2.laid (t':=tk) (λb u z=>af _ z) (iF hsz) (jt.ok ⟨_,_,eX,rL,rL,rL,rL,rL,qa⟩)
 let hq:=q (j.objs.size+1) (I2.hok.fresh (iF hsz));let r2:Vals (V.ref (j.objs.size+1)::vs) (Value.ref (j.objs.size+1)::us):=.cons rL r;let hl:(Value.ref (j.objs.size+1)::us).length=ps.length:=by rw[<-r2.length];show F.len _ _ _ _ hq
 let hB:=hb ⟨(j.push (newArgs us)).push (newExc C j.objs.size),g,d,tk,os⟩ (Value.ref (j.objs.size+1)::us) I3.iV (by rw[dL];show hl);rw[dL]at hB;calc adU T cC cN ci hoI hcI (by show us.length<=sizeLine;rw[<-r.length];show hz) (gV (iL (F.run _ X.stack _ _ ⟨Value.ref (j.objs.size+1)::us,[]⟩ (Value.ref (j.objs.size+1)::us) _ _ E0 (hr.make C us []) (I3.env0.make C us []) hB r2 hq) λr s' D=>?_));cases r with
 | error e=>show False.elim D
 | ok fl=>
  cases fl with
  | ret u=>let⟨v,H',I4,rv,ev,q3⟩:=I3.after D;subst ev;show⟨rv,_,H',rL,I4,O,q3⟩
  | next=>show False.elim D
  | brk=>show False.elim D
  | cont=>show False.elim D
def vm (hl:Lets X E)(hc:X.calm=true)(M:MkX X.K C f)(F:cj X.prog X.w X.K X.mg X.base dN k f fd ps sp)(hr:fZ (k+1) X.A)(hg:Gl X x)(hm:X.mg x=some (.ref C))(hb:bT X.K fd ps [])(ha:QA X (e::es) t)(J:(x==("__debug__":Str))=false:=by decide)(hs:starEach (e::es) X.env=(false,eval e X.env)::starEach es X.env:=by rfl)(G:(backTo cpos (starEach es X.env)).any (·.1)=false:=by rfl):QS X (.Raise (some (.Call (.Name x p) (e::es) [] cpos)) none pos) (agg C sp E t):=⟨by
 intro ao s σ H D I h;let run:=agh (p:=p) M F hr hg hm hb ha I h J hs G;let⟨bm,N,nm,qn,bs,sn,sub,ab,col,dd,k0,k1,k2,k3,k5,mN,cC,cN,ci,T⟩:=Nm I.ok.mod.Ia M.ini;rw[arm_exec_Raise];refine ae (md (abM (C:=C) (nm:=nm) (q:=qn) (N:=N) (bs:=bs) (bm:=bm) (hdct:=true) (sn:=sn) (sub:=sub) (ab:=ab) (col:=col) (dd:=dd) (k0:=k0) (k1:=k1) (k2:=k2) (k3:=k3) (k5:=k5) (newId:="ValueError.__new__")
  (T.hasType gc.hasBase) (I.ok.hd hc) (ae (eI run (λv s1 z=>ae (md (aw ?_))) λ_ _ y=>y))))
 let⟨a,H2,rfl,O,Y,dd2,j,hE⟩:=z;obtain⟨⟨oe,vs,he,h1,h2,h3,h4,Z,_⟩,_⟩:=O.hok a _ j;let KQ:∀b o,X.s₀.heap.get? b=some o->b≠a:=λb o z y=>absurd (aI z) (by rw[y];show Nat.not_lt.mpr Y);let I3:=O.drop j KQ;calc⟨a,oe,vs,rL,O.bk _ _ cC,he,h1,h3,h4,hl ao σ _ _ a oe vs I3 he h3 h4 Z rF KQ ?_⟩;rw[h1,h2];show hE⟩
end
section
variable {prog:Program}{w:World}{A:Around}{E:AF}{h:Heap}{g:Array GenState}{d:Drawn}{t:Nat}{os:OsState}
variable {nm q:Str}{C N a:Addr}{bs bm:List Value}{sn:List Str}{sub:List Value}{ab:Bool}{col:Option Bool}{dd:Option Addr}{k0 k1 k2 k3 k5:Option Value}{rest:List Value}{Q:AF}{oe:Obj}{vs:Array Value}
def abN (T:OwnTail h jl bm)(O:h.get? C=some (excClassObj nm q C N bs bm true sn sub ab col dd k0 k1 k2 k3 k5 "ValueError.__new__"))(I:h.get? a=some oe)(J:oe.cls=.ref C)(hd:oe.data=.fields vs)(hz:0<vs.size)(Z:rest.length<=sizeLine)(G:Q .none ⟨(h.push (newArgs rest)).update a (Obj.mapFields (·.setIfInBounds 0 (.ref h.objs.size))),g,d,t,os⟩):wpAny (model prog w) A (call (.builtin "ValueError.__init__") (.ref a::rest)) Q E ⟨h,g,d,t,os⟩:=by
 let F:=gc;let⟨oc,od,Y,osl⟩:=oe;dsimp only at J hd;subst J hd;calc gV (mP F.init.plain F.initEntry (wpAny_check_init_subT F T O I rL ?_));let j:(h.push (newArgs rest)).get? a=some ⟨.ref C,od,.fields vs,osl⟩:=af _ I;unfold Builtin.«BaseException.__init__»
 repeat (first|with_reducible refine ip j ?_|wp_step)
 obtain⟨D,e0⟩:∃D,vs[0]?=some D:=⟨_,oC hz⟩
 rw[e0];calc aw (ae (nI j rL hz ?_));cases D <;> first|show wpAny_letGo (aw G)|show aw (aw G)
end
def uf:List Value->Bool
 | .ref _::r=>uf r
 | l=>l==jl
theorem Em (self):∀{l:List Value},uf l=true->refuseLoop self "__setattr__" l=pure ()
 | .ref _::r,e=>(refuseLoop_ref self "__setattr__" _ r).trans (Em self (l:=r) e)
 | [],e=>by cases e
 | .type n::r,e=>by rw[beq_iff_eq.mp (show (Value.type n::r==jl)=true from e)];show PySem.F.store_ValueError.passes self
 | .none::r,e=>by cases(beq_iff_eq.mp (show (Value.none::r==jl)=true from e))
 | .bool b::r,e=>by cases(beq_iff_eq.mp (show (Value.bool b::r==jl)=true from e))
 | .int i t::r,e=>by cases(beq_iff_eq.mp (show (Value.int i t::r==jl)=true from e))
 | .float i t::r,e=>by cases(beq_iff_eq.mp (show (Value.float i t::r==jl)=true from e))
 | .str i t::r,e=>by cases(beq_iff_eq.mp (show (Value.str i t::r==jl)=true from e))
 | .bytes i t::r,e=>by cases(beq_iff_eq.mp (show (Value.bytes i t::r==jl)=true from e))
 | .builtin n::r,e=>by cases(beq_iff_eq.mp (show (Value.builtin n::r==jl)=true from e))
structure En (K:Frag)(C:Addr):Prop where
 ln:((clsIn K C).any λcd=>cd.hasDict&&uf cd.mro)=true
 ob:mroIn K C (.type "object")=some true
 sa:findIn K (.ref C) "__setattr__"=some (some (.builtin "object.__setattr__"))
section
open Builtin Builtin.ObjectAttr
variable {prog:Program}{w:World}{A:Around}{E:AF}{s:Shared}{K:Frag}{x C:Addr}{ox:Obj}{od:Option Obj}{name:Str}{v:Value}
def Qn (X:K.In s.heap)(T:En K C)(hn:findIn K (.ref C) name=some none)(I:InstAt s.heap x ox C od)(h:wpAny (model prog w) A.in1 (storeInOwnDict (.ref x) (.ref C) (.str name s.toks) name v false) (λj s'=>match j with|.done (.ret _)=>Q () s'|_=>False) (λ_ _=>False) {s with toks:=s.toks+1}):wpAny (model prog w) A (setAttr (.ref x) name v) Q E s:=by
 let F:=PySem.F.store_ValueError;let⟨cd,J,G⟩:=any_some T.ln;rw[cp]at G;let D:=I.type (M:=model prog w);let O:Looks (model prog w) s.heap (mroOf (.ref C)) cd.mro:=(looks_clsIn X J).andThen .now;let Y:Looks (model prog w) s.heap (isInstance (.ref x) (.type "object")) true:=D.andThen (looks_mroIn X T.ob);let Z:=looks_findIn (M:=model prog w) X hn;let⟨hh,g,d,t,os⟩:=s;unfold setAttr;calc ae (wpAny_mkText (ae (ae (ae (D.at ((looks_findIn X T.sa).at (fS (ae ?_))))))));rw[F.slot.bind (.ref x)];calc aw (ae (gV (mP F.slot.plain F.entry (@check_slot (model prog w) _ _ _ "object.__setattr__" "object" "__setattr__" (.ref x) [.str name t,v] [] _ F.kind F.split Y (F.args (.ref x) (.str name t) v) ?_))));show wpAny (model prog w) A.in1 (Builtin.«object.__setattr__» ⟨[.ref x,.str name t,v],[]⟩) _ _ _;rw[osa_eq,refuse_eq];calc ae (ae (D.at (ae (O.at ?_))));rw[Em _ G.2];calc aw (ae (D.at (ae (Z.at (ae (aw ?_))))));calc eI h (λj s' z=>?_) λ_ _ z=>z.elim;cases j with
 | done f=>cases f with| ret u=>show aw (aw z)| next=>show z.elim| brk=>show z.elim| cont=>show z.elim
 | again c=>show z.elim
end
section
open Builtin Builtin.ObjectAttr
variable {prog:Program}{w:World}{A:Around}{E:AF}{h:Heap}{g:Array GenState}{d:Drawn}{t:Nat}{os:OsState}{K:Frag}{x C dx:Addr}{vs:Array Value}{sl:Array (Option Value)}{name:Str}{v:Value}{Q:Fin->Shared->Prop}{b:Bool}{tk:Tok}
def Z5 (X:K.In h)(T:En K C)(hx:h.get? x=some ⟨.ref C,none,.fields vs,sl⟩)(O:∀h' t',h'.Ns1 h.objs.size (λy=>if y=name then some v else none)->h'.get? x=some ⟨.ref C,some h.objs.size,.fields vs,sl⟩->(∀c o,c≠x->h.get? c=some o->h'.get? c=some o)->Q (.done (.ret .none)) ⟨h',g,d,t',os⟩):wpAny (model prog w) A (storeInOwnDict (.ref x) (.ref C) (.str name tk) name v b) Q E ⟨h,g,d,t,os⟩:=by
 let⟨cd,Y,I⟩:=any_some T.ln;rw[cp]at I;let xs:x≠h.objs.size:=cn (aI hx);calc ae (aw (ae (ae (nE hx (ae ((looks_clsIn X Y).here ?_))))));rw[I.1];let j:(h.push {cls:=.type "dict",data:=.dict #[]}).get? x=some ⟨.ref C,none,.fields vs,sl⟩:=af _ hx;calc ae (wpAny_alloc' ?_);calc ae (wpAny_update' j ?_);calc aw ?_;generalize e1:((h.push {cls:=.type "dict",data:=.dict #[]}).update x λo=>{cls:=o.cls,dict:=some h.objs.size,data:=o.data,slots:=o.slots})=h1;let g1:h1.get? h.objs.size=some {cls:=.type "dict",data:=.dict #[]}:=by rw[<-e1];show(Heap.get?_update_ne _ _ _ _ xs.symm).trans (Heap.get?_push_at rL rL)
 let g2:h1.get? x=some ⟨.ref C,some h.objs.size,.fields vs,sl⟩:=by rw[<-e1];show ie _ j rfl
 let g3:∀c o,c≠x->h.get? c=some o->h1.get? c=some o:=λc o n z=>by rw[<-e1];show(Heap.get?_update_ne _ _ _ _ n).trans (af _ z)
 let n1:h1.Ns h.objs.size (λ_=>none):=⟨_,#[],_,g1,rL,(λe he=>absurd he qa),λ_=>rfl⟩
 show wpAny _ _ (storeInDict h.objs.size (.str name tk) name v) _ _ _;unfold storeInDict newKeyGuard;calc ae (aw (ae (wpAny_nsSet1 (Heap.Ns1.of_empty n1) λh2 J k2=>?_)));let⟨oD,esD,Z,G,D,F⟩:=J.count (ow name v PySem.Within.nil);calc ae (wpAny_lookBehind G (by rw[D];show pastItsLine_dict (bE F (by rw[dE,mI,sizeLine_eq];lia))) (aw ?_));show O h2 _ J ((k2.2 x xs).trans g2) λc o n z=>(k2.2 c (cn (aI z))).trans (g3 c o n z)
def Wz (X:K.In h)(T:En K C)(hx:h.get? x=some ⟨.ref C,some dx,.fields vs,sl⟩)(hn:h.Ns1 dx mA)(hw:PySem.Within mA ns)(hl:ns.length<=100)(J:∀h' t',h'.Ns1 dx (λy=>if y=name then some v else mA y)->(∀c o,c≠dx->h.get? c=some o->h'.get? c=some o)->Q (.done (.ret .none)) ⟨h',g,d,t',os⟩):wpAny (model prog w) A (storeInOwnDict (.ref x) (.ref C) (.str name tk) name v b) Q E ⟨h,g,d,t,os⟩:=by let⟨cd,O,G⟩:=any_some T.ln;rw[cp]at G;calc ae (aw (ae (ae (nE hx (ae ((looks_clsIn X O).here ?_))))));rw[G.1];calc aw ?_;show wpAny _ _ (storeInDict dx (.str name tk) name v) _ _ _;unfold storeInDict newKeyGuard;calc ae (aw (ae (wpAny_nsSet1 hn λh2 I k2=>?_)));let⟨oD,Z,Y,F,D,j⟩:=I.count (ow name v hw);calc ae (wpAny_lookBehind F (by rw[D];show pastItsLine_dict (bE j (by rw[dE,sizeLine_eq];lia))) (aw ?_));show J h2 _ I λc o n z=>(k2.2 c n).trans z
end
def XD (a:Addr)(fs:List (Str×V)):Heap->Prop:=λh=>∃mA,h.Ns1 a mA/\(∀f,nR (fs.lookup f) (mA f))/\PySem.Within mA (fs.map (·.1))/\fs.length<=50
def XD.at {h h':Heap}(x:XD a fs h)(k:∀o,h.get? a=some o->h'.get? a=some o):XD a fs h':=let ⟨mA,n,r⟩:=x;⟨mA,n.at k,r⟩
def XD.ok (x:XD a fs h):gJ P w H h a (.ext (XD a fs)):=⟨x,let ⟨_,⟨o,_,_,e,_⟩,_⟩:=x;⟨o,e⟩,λ_ _ y k=>y.at k⟩
def aks (K : Frag)(ta tv : TE)(f : Str) : TS := λD σ H => tv σ H λy H1 => ta σ H1 λx j => ∃a C dd, x = .ref a /\ j a = some (.ext (jt a (.ref C) dd)) /\ En K C /\ findIn K (.ref C) f = some none /\
  ((dd = none /\ ∀dx, dx ≠ a -> j dx = none -> D.nx σ (upd (upd j dx (.ext (XD dx [(f, y)]))) a (.ext (jt a (.ref C) (some dx))))) \/
   ∃dx fs, dd = some dx /\ j dx = some (.ext (XD dx fs)) /\ fs.length<50 /\ D.nx σ (upd j dx (.ext (XD dx (iZ f y fs)))))
section
variable {X:Cx}{o value:Expr}{f:Str}{pos pos':Pos}{ta tv:TE}
def xr (ha:QE X o ta)(hv:QE X value tv)(hs:swapsWith value (some (.Attribute o f pos')) pos.line X.env=pure false):QS X (.Assign [.Attribute o f pos'] value pos) (aks X.K ta tv f):=⟨by
 intro ao s σ H D I h;calc plainObj_wpAny_Assign_Attribute (cH (hv.out ao s σ H _ I h) λu s1 zz=>?_) hs;let⟨y,H1,I1,ry,q⟩:=zz;calc cH (ha.out ao s1 σ H1 _ I1 q) λov s2 zz=>?_;let⟨x,G,J,rx,a,C,dd,ex,ea,T,hn,q2⟩:=zz;subst ex;obtain rfl:ov=Value.ref a:=rx;obtain⟨⟨oe,vs,he,h1,h2,h3,h4,h42,h5⟩,_⟩:=J.hok a _ ea;let⟨oc,od,oda,osl⟩:=oe;dsimp only at h1 h2 h3;subst h1 h2 h3;let hk:X.K.In s2.heap:=J.iV;let⟨j,g,d,t,os⟩:=s2;rcases q2 with⟨rfl,q2⟩|⟨dx,fs,rfl,Z,hl,q2⟩
 .calc Qn hk T hn (od:=none) ⟨he,rL,rL,True.intro⟩ (Z5 hk T he λh' t' n' e' Y=>?_);let xs:a≠j.objs.size:=cn (aI he);let nN:G j.objs.size=none:=J.hok.fresh (al _);let na:∀b,G b=none->b≠a:=λb n z=>by rw[z,ea]at n;cases n
  let ne:∀b w,G b=some w->(∀φ,w≠.ext φ)->b≠a/\b≠j.objs.size:=λb w e n=>⟨λz=>by rw[z,ea]at e;cases e;show n _ rL,λz=>by rw[z,nN]at e;cases e⟩
  let up:∀b,b≠a->b≠j.objs.size->upd (upd G j.objs.size (.ext (XD j.objs.size [(f,y)]))) a (.ext (jt a (.ref C) (some j.objs.size))) b=G b:=λb n1 F=>by rw[aZ n1,aZ F]
  let lt:∀b o,j.get? b=some o->b≠j.objs.size:=λb o z=>cn (aI z);let hD:XD j.objs.size [(f,y)] h':=⟨_,n',λg'=>by
    show nR (List.lookup g' [(f,y)]) (if g'=f then some u else none);by_cases q:g'=f;.rw[if_pos q,q];simp only[List.lookup,beq_self_eq_true];show ry
    .rw[if_neg q];have:(g'==f)=false:=beq_false_of_ne q;simp only[List.lookup,this];trivial,λg' hg=>by
    by_cases q:g'=f;.rw[q];simp
    .show absurd (show (if g'=f then some u else none)=none by rw[if_neg q]) hg,by show 1<=50;decide⟩
  let I3:aV X ao σ (upd (upd G j.objs.size (.ext (XD j.objs.size [(f,y)]))) a (.ext (jt a (.ref C) (some j.objs.size)))) ⟨h',g,d,t',os⟩:=J.un (t':=t')
   ⟨λb o z n _ _=>Y b o (na b n) z,λb o z n _ _=>⟨o.slots,Y b o (na b n) z⟩,λb o z n _=>(up b (na b n) (lt b o z)).trans n,λb o z _=>by
    by_cases hb:b=a;.show⟨_,by rw[hb];show e'⟩
    .show⟨o,Y b o hb z⟩,λb xs e=>by
    let⟨n1,F⟩:=ne b _ e λφ=>by simp
    show(up b n1 F).trans e,λb o xs e=>by
    let⟨n1,F⟩:=ne b _ e λφ=>by simp
    show(up b n1 F).trans e,λb ps e=>by
    let⟨n1,F⟩:=ne b _ e λφ=>by simp
    show⟨#[],by rw[up b n1 F,e];simp⟩⟩ λb o e=>by
   by_cases hb:b=a
   .subst hb;rw[au]at e;cases e;show jt.ok ⟨_,_,e',rL,rL,rL,h4,h42,λz=>xs (bo z).symm⟩
   .rw[aZ hb]at e;by_cases hn:b=j.objs.size
    .subst hn;rw[au]at e;cases e;show hD.ok
    .rw[aZ hn]at e;refine(J.hok b o e).stay (λc w O z=>Y c w (λy=>?_) z) (λc r=>?_) λc xs r=>?_
     .rcases O with O|O;.show hb (O.symm.trans y)
      .rw[y,ea]at O;cases O
     .let⟨n1,F⟩:=ne c _ r λφ=>by simp
      show(up c n1 F).trans r
     .let⟨n1,F⟩:=ne c _ r λφ=>by simp
      show(up c n1 F).trans r
  show⟨σ,_,I3,q2 _ xs.symm nN⟩
 .obtain⟨⟨mA,nA,rA,wA,lA⟩,⟨od,hod⟩,_⟩:=J.hok dx _ Z;calc Qn hk T hn (od:=some od) ⟨he,rL,rL,hod⟩ (Wz (ns:=fs.map (·.1)) hk T he nA wA (by rw[aa];lia) λh' t' n' Y=>?_);let I3:aV X ao σ (upd G dx (.ext (XD dx (iZ f y fs)))) ⟨h',g,d,t',os⟩:=J.write (t':=t') (e:=dx) (by rw[Z];trivial) (.inl rL) (λb o n z=>Y b o n z) (let ⟨o,_,_,e,_⟩:=n';⟨o,e⟩)
   (XD.ok ⟨_,n',λg'=>?_,λg' hg=>?_,?_⟩)
  .show⟨σ,_,I3,q2⟩
  .show nR ((iZ f y fs).lookup g') (if g'=f then some u else mA g');rw[zA];by_cases q:g'=f;.rw[if_pos q,if_pos q];show ry
   .rw[if_neg q,if_neg q];show rA g'
  .by_cases q:g'=f;.rw[q];show(u9 f y fs).1
   .calc(u9 f y fs).2 g' (wA g' λz=>hg ?_);show (if g'=f then some u else mA g')=none;rw[if_neg q];show z
  .have:=zB f y fs;lia⟩
end
structure InitOf (K:Frag)(R:Addr):Prop where
 ga:specialIn K (.ref R) "__getattribute__"=some (some (.builtin "type.__getattribute__"))
 rd:readsIn K R (.type "type")=true
 fc:findCls K (.ref R) (.type "type") "__init__"=some (.val (.builtin "ValueError.__init__"))
def adV (K:Frag)(t:TA):TE:=λσ H Q=>t σ H λvs H1=>∃a C f dd rest,vs=.ref a::rest/\H1 a=some (.ext (jt a (.ref C) dd))/\yI K C f=true/\rest.length<=sizeLine/\Q .non H1
section
variable {X:Cx}{R:Addr}{x:Str}{np apos pos:Pos}{e:Expr}{es:List Expr}{t:TA}
def wG {pl:Sem Bool}(hg:Gl X x)(hm:X.mg x=some (.ref R))(F:InitOf X.K R)(ha:QA X (e::es) t)(O:(x==("__debug__":Str))=false:=by decide)(hs:starEach (e::es) X.env=(false,eval e X.env)::starEach es X.env:=by rfl)(hpl:(backTo pos (starEach es X.env)).any (·.1)=false:=by rfl)(ht:eval (.Call (.Attribute (.Name x np) "__init__" apos) (e::es) [] pos) X.env=(do
   let ov <- eval (.Name x np) X.env
   standAt apos.atName
   let (f,first) <- holding [ov] (getMethod ov "__init__" pl)
   callWith pos f first (backTo pos (starEach (e::es) X.env)) (backToKw pos (keywordEach [] X.env))):=by rfl) :
  QE X (.Call (.Attribute (.Name x np) "__init__" apos) (e::es) [] pos) (adV X.K t):=⟨by
 intro ao s σ H Q I h;calc methodCall_KW (pl:=pl) (o8 I hg hm ?_ O) ht;calc method_cls I.iV F.ga (cls_value I.iV F.rd F.fc rL ?_);let I0:=I.tok (s.toks+1);calc mx (cH (ha.out pos ao _ σ H _ I0 h) λus s1 zz=>?_) hs hpl;let⟨vs,H1,J,r1,a,C,f,dd,rest,ev,Y,hC,hz,q⟩:=zz;subst ev;let⟨bm,N,nm,qn,bs,sn,sub,ab,col,dd',k0,k1,k2,k3,k5,mN,cC,cN,ci,T⟩:=Nm J.iV hC;obtain⟨⟨oe,ws,he,h1,h2,h3,h4,Z,h5⟩,_⟩:=J.hok a _ Y;obtain⟨u,j,rfl,ra,rr⟩:∃u j,us=u::j/\cR (.ref a) u/\Vals rest j:=by
  cases r1 with| cons ra rr=>show⟨_,_,rL,ra,rr⟩
 obtain rfl:u=Value.ref a:=ra;let⟨D,g,d,tk,os⟩:=s1;let hsz:0<ws.size:=jp (eQ 1) (f_.mp h4).1;calc abN T cC he h1 h3 hsz (by rw[<-rr.length];show hz) ?_;let e1:(D.push (newArgs j)).get? a=some oe:=af _ he;let I2:aV X ao σ H1 ⟨D.push (newArgs j),g,d,tk,os⟩:=J.kept (t':=tk) λb u z=>af _ z;let G:=nS h3 (·.setIfInBounds 0 (Value.ref D.objs.size));let e2:((D.push (newArgs j)).update a (Obj.mapFields (·.setIfInBounds 0 (.ref D.objs.size)))).get? a=some (oe.mapFields (·.setIfInBounds 0 (.ref D.objs.size))):=ie _ e1 (ki G);let I3:aV X ao σ (upd H1 a (.ext (jt a (.ref C) dd))) ⟨(D.push (newArgs j)).update a (Obj.mapFields (·.setIfInBounds 0 (.ref D.objs.size))),g,d,tk,os⟩:=I2.write (t':=tk) (e:=a) (by rw[Y];trivial) (.inl rL)
  (λb u n z=>(fq _ _ (gf n)).trans z) ⟨_,e2⟩ (jt.ok ⟨_,_,e2,(Obj.cls_mapFields _ _).trans h1,(Qk _ _).trans h2,G,by rw[iS qc];show h4,by rw[iS qc];show Z,h5⟩)
 rw[show upd H1 a (.ext (jt a (.ref C) dd))=H1 from funext λb=>by
  by_cases hb:b=a;.rw[hb,au,Y]
  .rw[aZ hb]]at I3
 show⟨.non,H1,I3,rL,q⟩⟩
end
def drop_new (na:H a=none)(ne:dx≠a)(nd:upd H a o dx=none):aD H (drop (upd (upd (upd H a o) dx p) a q) a)/\drop (upd (upd (upd H a o) dx p) a q) a dx=some p:=by
 rw[aZ ne]at nd;refine⟨λb u e=>?_,?_⟩
 .let h1:b≠a:=bF e na;let h2:b≠dx:=bF e nd;rw[j5 h1,aZ h1,aZ h2,aZ h1];show e
 .rw[j5 ne,aZ ne,au]
structure qF (K:Frag)(mg:Str->Option Value)(name:Str)(C f:Addr)(fs:List Str):Prop where
 vZ:mg name=some (.ref C)
 M:MkX K C f
 T:En K C
 is:yG K C
 hd:hasDictIn K C=true
 no:∀g∈fs,findIn K (.ref C) g=some none
def KZ (C:Addr)(nm:Str):Sp:=λvs H Q _=>∃(a:Addr) (v:V),vs=[.ref a,v]/\H a=some (.ext (jt a (.ref C) none))/\∀dx,dx≠a->H dx=none->Q .non (upd (upd H dx (.ext (XD dx [(nm,v)]))) a (.ext (jt a (.ref C) (some dx))))
def K1 (C:Addr)(n1 j:Str):Sp:=λvs H Q _=>∃(a:Addr) (v w:V),vs=[.ref a,v,w]/\H a=some (.ext (jt a (.ref C) none))/\∀dx,dx≠a->H dx=none->Q .non (upd (upd (upd H dx (.ext (XD dx [(n1,v)]))) a (.ext (jt a (.ref C) (some dx)))) dx (.ext (XD dx (iZ j w [(n1,v)]))))
def abO (C:Addr)(m:Str)(sp:Sp)(E:XK)(S:St->Prop)(ta:TE)(t:TA):TE:=λσ H Q=>S σ/\ta σ H λx H1=>∃a dx fs,x=.ref a/\H1 a=some (.ins C dx fs)/\fs.lookup m=none/\t σ H1 λvs j=>sp (x::vs) j Q E
section
variable {X:Cx}{C f:Addr}{m:Str}{k:Nat}{fd:FuncData}{ps:List Str}{sp:Sp}{E:XK}{S:St->Prop}{o e:Expr}{es:List Expr}{ta:TE}{t:TA}{apos pos:Pos}
def adW {pl:Sem Bool}(he:QE X o ta)(c:Cls X.K C)(hm:Meth X.K C m f)(F:cj X.prog X.w X.K X.mg X.base (qw X.prog X.w) k f fd ps sp)(hr:fZ k X.A)(hb:bT X.K fd ps [])(hx:pA (qw X.prog X.w) X E S)(ha:QA X (e::es) t)(hs:starEach (e::es) X.env=(false,eval e X.env)::starEach es X.env:=by rfl)(G:(backTo pos (starEach es X.env)).any (·.1)=false:=by rfl)(ht:eval (.Call (.Attribute o m apos) (e::es) [] pos) X.env=(do
   let ov <- eval o X.env
   standAt apos.atName
   let (f,first) <- holding [ov] (getMethod ov m pl)
   callWith pos f first (backTo pos (starEach (e::es) X.env)) (backToKw pos (keywordEach [] X.env))):=by rfl) :
  QE X (.Call (.Attribute o m apos) (e::es) [] pos) (abO C m sp E S ta t):=⟨by
 intro ao s σ H Q I h;let⟨hS,h⟩:=h;calc methodCall_KW (pl:=pl) (cH (he.out ao s σ H _ I h) λu s1 zz=>?_) ht;let⟨x,H1,O,rx,a,dx,fs,ex,ea,l,q⟩:=zz;subst ex;obtain rfl:u=Value.ref a:=rx;calc wB O ea c hm l (callWith_K (first:=[.ref a]) (h₀:=X.base) I.ok.mod.Ia hm.kp (cH (ha.out pos ao s1 σ H1 _ O q) λus s2 ⟨vs,Z,D,r,q2⟩=>⟨D.iV,?_⟩) hs G);let Y:Vals (V.ref a::vs) (Value.ref a::us):=.cons rL r;let hl:(Value.ref a::us).length=ps.length:=by rw[<-Y.length];show F.len _ _ _ _ q2
 let J:=hb s2 (Value.ref a::us) D.iV (by rw[dL];show hl);rw[dL]at J;calc gV (iL (F.run X.A X.stack s2 Z ⟨Value.ref a::us,[]⟩ (Value.ref a::us) _ Q E hr D.env0 J Y q2) λr s' j=>?_);cases r with
 | error e=>show hx ao σ Z s2 e s' D hS j
 | ok fl=>
  cases fl with
  | ret u=>show D.after j
  | next=>show False.elim j
  | brk=>show False.elim j
  | cont=>show False.elim j⟩
end
section
variable {prog:Program}{w:World}{A:Around}{E:AF}{s:Shared}{z ti to u v a b:Addr}{i:Nat}{f g:Array Value}{x y m n:Value}
def abP {Q:AF}(D:ZA z ti to u v a b)(hz:IsZip s.heap z ti to .none)(hi:IsPair s.heap ti (.ref u) (.ref v))(ho:IsPair s.heap to m n)(hu:s.heap.IsListIter u a i)(hv:s.heap.IsListIter v b i)(ha:s.heap.IsList a f)(hb:s.heap.IsList b g)(hx:f[i]?=some x)(hy:g[i]?=some y)(q:∀h',IsZip h' z ti to (rawInt s.heap.objs.size)->IsPair h' to x y->h'.IsListIter u a (i+1)->h'.IsListIter v b (i+1)->IsPair h' s.heap.objs.size x y->
   (∀c o,c≠z->c≠to->c≠u->c≠v->s.heap.get? c=some o->h'.get? c=some o)->Q (.ref s.heap.objs.size) {s with heap:=h' }) :
  wpAny (model prog w) A (Builtin.«zip.__next__» ⟨[.ref z],[]⟩) (λJ s'=>∃r,J=.done (.ret r)/\Q r s') E s:=by
 show wpAny _ _ (field (.ref z) 2 >>= _) _ _ _;calc ae (fh hz rL (x:=.bool false) rL ?_);show wpAny _ _ (field (.ref z) 3 >>= _) _ _ _;calc ae (fh hz rL (x:=.ref ti) rL (ae (kn hi rL ?_)));show wpAny _ _ (Builtin.SmallTypes.ownedTupleIsFree (.ref z) >>= _) _ _ _;calc ae ?_;unfold Builtin.SmallTypes.ownedTupleIsFree;calc ae (fh hz rL (x:=.none) rL (aw ?_));simp only[if_true];calc ae (oB (ae (fh hz rL (x:=.ref to) rL (ae (jv hz qa λg1 Y k1=>?_)))));replace Y:IsZip g1 z ti to .ellipsis:=Y;calc ae ?_;simp only[List.zipIdx_cons,List.zipIdx_nil,gr,pS];calc ae (ae (on ?_));show wpAny _ _ (Builtin.SmallTypes.nextOf (.ref u) >>= _) _ _ _;calc ae (lT (hu.at λo e=>k1.extBut _ o D.q3 e) (lh ha λo e=>k1.extBut _ o D.p2 e) hx λg2 u2 k2=>aw ?_);let o2:IsPair g2 to m n:=k2.extBut _ _ D.q8 (k1.extBut _ _ D.q2 ho);calc ae (kn o2 rL (ae (mS o2 λg3 Z k3=>?_)));replace Z:IsPair g3 to x n:=Z;calc ae (wpAny_letGo (aw ?_));calc ae (ae (on ?_));show wpAny _ _ (Builtin.SmallTypes.nextOf (.ref v) >>= _) _ _ _;calc ae (lT (hv.at λo e=>k3.extBut _ o D.q9.symm (k2.extBut _ o D.p1.symm (k1.extBut _ o D.q4 e))) (lh hb λo e=>k3.extBut _ o D.p7 (k2.extBut _ o D.p8 (k1.extBut _ o D.p6 e))) hy λg4 v4 k4=>aw ?_);let o4:IsPair g4 to x n:=k4.extBut _ _ D.q9 Z;calc ae (kn o4 rL (ae (mS o4 λj F k5=>?_)));replace F:IsPair j to x y:=F;calc ae (wpAny_letGo (aw (aw ?_)));calc ae (kn F rL (ae (wpAny_newTuple ?_)));let sz:j.objs.size=s.heap.objs.size:=by rw[k5.1,k4.1,k3.1,k2.1,k1.1]
 let z5:IsZip j z ti to .ellipsis:=k5.extBut _ _ D.q2.symm (k4.extBut _ _ D.q4.symm (k3.extBut _ _ D.q2.symm (k2.extBut _ _ D.q3.symm Y)));let kk:∀c o,c≠z->c≠to->c≠u->c≠v->s.heap.get? c=some o->j.get? c=some o:=λc o c1 c2 c3 c4 e=>k5.extBut _ _ c2 (k4.extBut _ _ c4 (k3.extBut _ _ c2 (k2.extBut _ _ c3 (k1.extBut _ _ c1 e))));let u5:j.IsListIter u a (i+1):=u2.at λo e=>k5.extBut _ o D.q8.symm (k4.extBut _ o D.p1 (k3.extBut _ o D.q8.symm e));let v5:j.IsListIter v b (i+1):=v4.at λo e=>k5.extBut _ o D.q9.symm e;let lz:z<j.objs.size:=aI z5;show wpAny _ _ (Builtin.SmallTypes.ownedTupleHandOut (.ref z) (.ref j.objs.size) >>= _) _ _ _;calc ae ?_;unfold Builtin.SmallTypes.ownedTupleHandOut;let z6:IsZip (j.push {cls:=.type "tuple",data:=.seq #[x,y]}) z ti to .ellipsis:=af _ z5;refine ae (jv z6 qa λg7 O k7=>?_)
 replace O:IsZip g7 z ti to (rawInt j.objs.size):=O;refine jv O qa λG I k8=>?_
 replace I:IsZip G z ti to (rawInt j.objs.size):=I;let up:∀c o,c≠z->j.get? c=some o->G.get? c=some o:=λc o c1 e=>k8.extBut _ _ c1 (k7.extBut _ _ c1 (af _ e));let t8:IsPair G j.objs.size x y:=k8.extBut _ _ (ke lz) (k7.extBut _ _ (ke lz) (ba _ rL));rw[sz]at I t8;calc aw ⟨_,rL,?_⟩;show Q (.ref j.objs.size) _;rw[sz];show q G I (up _ _ D.q2 F) (u5.at λo e=>up _ o D.q3 e) (v5.at λo e=>up _ o D.q4 e) t8 λc o c1 c2 c3 c4 e=>up c o c1 (kk c o c1 c2 c3 c4 e)
def adX (O:A.handled=none)(D:ZA z ti to u v a b)(hz:IsZip s.heap z ti to .none)(hi:IsPair s.heap ti (.ref u) (.ref v))(Y:IsPair s.heap to m n)(hu:s.heap.IsListIter u a i)(J:s.heap.IsListIter v b i)(ha:s.heap.IsList a f)(hb:s.heap.IsList b g)(hx:f[i]?=some x)(hy:g[i]?=none)(q:∀h' e,(∀c o,c≠z->c≠to->c≠u->c≠v->s.heap.get? c=some o->h'.get? c=some o)->(∃o,h'.get? e=some o/\o.cls=.type "StopIteration")->E (.ref e) {s with heap:=h' }):wpAny (model prog w) A (Builtin.«zip.__next__» ⟨[.ref z],[]⟩) Q E s:=by
 show wpAny _ _ (field (.ref z) 2 >>= _) _ _ _;calc ae (fh hz rL (x:=.bool false) rL ?_);show wpAny _ _ (field (.ref z) 3 >>= _) _ _ _;calc ae (fh hz rL (x:=.ref ti) rL (ae (kn hi rL ?_)));show wpAny _ _ (Builtin.SmallTypes.ownedTupleIsFree (.ref z) >>= _) _ _ _;calc ae ?_;unfold Builtin.SmallTypes.ownedTupleIsFree;calc ae (fh hz rL (x:=.none) rL (aw ?_));simp only[if_true];calc ae (oB (ae (fh hz rL (x:=.ref to) rL (ae (jv hz qa λg1 j k1=>?_)))));replace j:IsZip g1 z ti to .ellipsis:=j;calc ae ?_;simp only[List.zipIdx_cons,List.zipIdx_nil,gr,pS];calc ae (ae (on ?_));show wpAny _ _ (Builtin.SmallTypes.nextOf (.ref u) >>= _) _ _ _;calc ae (lT (hu.at λo e=>k1.extBut _ o D.q3 e) (lh ha λo e=>k1.extBut _ o D.p2 e) hx λg2 u2 k2=>aw ?_);let G:IsPair g2 to m n:=k2.extBut _ _ D.q8 (k1.extBut _ _ D.q2 Y);calc ae (kn G rL (ae (mS G λg3 I k3=>?_)));replace I:IsPair g3 to x n:=I;calc ae (wpAny_letGo (aw ?_));calc ae (ae (on ?_));show wpAny _ _ (Builtin.SmallTypes.nextOf (.ref v) >>= _) _ _ _;calc ae (wpAny_nextOf_list_end O (J.at λo e=>k3.extBut _ o D.q9.symm (k2.extBut _ o D.p1.symm (k1.extBut _ o D.q4 e))) (lh hb λo e=>k3.extBut _ o D.p7 (k2.extBut _ o D.p8 (k1.extBut _ o D.p6 e))) hy λg4 e k4 he=>?_);let⟨oe,e1,e2⟩:=he;let F:IsZip g4 z ti to .ellipsis:=k4 _ _ D.q4.symm (k3.extBut _ _ D.q2.symm (k2.extBut _ _ D.q3.symm j));let ez:e≠z:=λt=>by subst t;rw[F]at e1;cases e1;simp at e2
 show jv F qa λZ _ k5=>q Z e (λc o c1 c2 c3 c4 t=>k5.extBut _ _ c1 (k4 _ _ c4 (k3.extBut _ _ c2 (k2.extBut _ _ c3 (k1.extBut _ _ c1 t))))) ⟨oe,k5.extBut _ _ ez e1,e2⟩
abbrev zl1 (h:Heap)(a:Addr):Heap:=h.push {cls:=.type "list_iterator",data:=.fields #[.ref a,.int 0 0]}
abbrev zl2 (h:Heap)(a b:Addr):Heap:=(zl1 h a).push {cls:=.type "list_iterator",data:=.fields #[.ref b,.int 0 0]}
abbrev zl3 (h:Heap)(a b:Addr):Heap:=(zl2 h a b).push {cls:=.type "tuple",data:=.seq #[.ref h.objs.size,.ref (zl1 h a).objs.size]}
abbrev zl4 (h:Heap)(a b:Addr):Heap:=(zl3 h a b).push {cls:=.type "tuple",data:=.seq #[.none,.none]}
abbrev X4 (h:Heap)(a b:Addr):Heap:=(zl4 h a b).push {cls:=.type "zip",data:=.fields #[.none,.bool false,.bool false,.ref (zl2 h a b).objs.size,.ref (zl3 h a b).objs.size]}
def agi (a b)(f g):Meets (Builtin.«zip.__new__» ⟨[.type "zip",.ref a,.ref b],[]⟩) (λ_ R s=>s.heap.IsList a f/\s.heap.IsList b g/\R (.ok (.ret (.ref (zl4 s.heap a b).objs.size))) {s with heap:=X4 s.heap a b}):=
 .of_wp λprog w A R s h=>by
  let⟨hp,D,d,tk,os⟩:=s;let⟨h1,h2,h⟩:=h;let j:=sub_zip;let j1:Heap.IsList (Shared.heap ⟨hp,D,d,tk,os⟩) a f:=h1;let j2:Heap.IsList (Shared.heap ⟨hp.push {cls:=.type "list_iterator",data:=.fields #[.ref a,.int 0 0]},D,d,tk,os⟩) b g:=lh h2 λo e=>af _ e
  wp_walk using ik j1,ik j2
  show⟨_,rL,h⟩
def alh (ha:s.heap.IsList a f)(hb:s.heap.IsList b g)(q:∀h',IsZip h' (s.heap.objs.size+4) (s.heap.objs.size+2) (s.heap.objs.size+3) .none->IsPair h' (s.heap.objs.size+2) (.ref s.heap.objs.size) (.ref (s.heap.objs.size+1))->IsPair h' (s.heap.objs.size+3) .none .none->
   h'.IsListIter s.heap.objs.size a 0->h'.IsListIter (s.heap.objs.size+1) b 0->(∀c o,s.heap.get? c=some o->h'.get? c=some o)->Q (.ref (s.heap.objs.size+4)) {s with heap:=h' }) :
  wpAny (model prog w) A (call (.type "zip") [.ref a,.ref b]) Q E s:=by
 calc callType_new F.called_zip qc (F.typeCall_zip_2 _ _) (F.newCall_zip_2 _ _) (λobj=>F.args_object_init_3 obj _ _) F.entry_zip_new (agi a b f g) ⟨ha,hb,?_⟩;let n1:(zl1 s.heap a).objs.size=s.heap.objs.size+1:=fe ..;let j:(zl2 s.heap a b).objs.size=s.heap.objs.size+2:=by rw[fe,n1]
 let D:(zl3 s.heap a b).objs.size=s.heap.objs.size+3:=by rw[fe,j]
 let n4:(zl4 s.heap a b).objs.size=s.heap.objs.size+4:=by rw[fe,D]
 let e5:(X4 s.heap a b).get? (zl4 s.heap a b).objs.size=some _:=ba _ rfl;let e4:(X4 s.heap a b).get? (zl3 s.heap a b).objs.size=some _:=af _ (ba _ rL);let e3:(X4 s.heap a b).get? (zl2 s.heap a b).objs.size=some _:=af _ (af _ (ba _ rL));let e2:(X4 s.heap a b).get? (zl1 s.heap a).objs.size=some _:=af _ (af _ (af _ (ba _ rL)));let e1:(X4 s.heap a b).get? s.heap.objs.size=some _:=af _ (af _ (af _ (af _ (ba _ rL))));show _/\_;rw[j,D,n4]at e5;rw[n1,j]at e3;rw[D]at e4;rw[n1]at e2;rw[n4];show⟨⟨_,e5,rL⟩,q _ e5 e3 e4 ⟨_,e1,rL,rL⟩ ⟨_,e2,rL,rL⟩ λc o t=>af _ (af _ (af _ (af _ (af _ t))))⟩
end
def adY (K:W.Frag)(a b:Addr):It:=⟨λi H=>∃xs ys x y,bJ K H a xs/\bJ K H b ys/\xs[i]?=some x/\ys[i]?=some y,λi H t H'=>∃T x y,H T=none/\t=.ref T/\(∀xs,bJ K H a xs->xs[i]?=some x)/\(∀ys,bJ K H b ys->ys[i]?=some y)/\H'=upd H T (.tup [x,y]),λi H=>∃xs ys,bJ K H a xs/\bJ K H b ys/\i<xs.length/\ys.length<=i⟩
def abQ {P:Program}{w:World}{K:W.Frag}{elts:List Expr}{x1:Nat}{pos:Pos}{z ti to u v a b:Addr}(D:ZA z ti to u v a b):Turn P w K (.Tuple elts x1 pos) (adY K a b) [z,ti,to,u,v] z (λi h=>IsZip h z ti to .none/\IsPair h ti (.ref u) (.ref v)/\(∃m n,IsPair h to m n)/\h.IsListIter u a i/\h.IsListIter v b i) where
 mem:=by simp
 obj:=λi h st c j=>by
  obtain⟨h1,h2,⟨m,n,h3⟩,⟨o4,h4,_,d4⟩,⟨o5,h5,_,d5⟩⟩:=st;simp only[bX,kz,or_false]at j;rcases j with e|e|e|e|e <;> subst e
  .show⟨_,h1,λv y=>by cases y⟩
  .show⟨_,h2,λv y=>by cases y⟩
  .show⟨_,h3,λv y=>by cases y⟩
  .show⟨o4,h4,λv y=>by rw[d4]at y;cases y⟩
  .show⟨o5,h5,λv y=>by rw[d5]at y;cases y⟩
 keep:=λi h h' st k=>by obtain⟨h1,h2,⟨m,n,h3⟩,h4,h5⟩:=st;show⟨k z qa _ h1,k ti qa _ h2,⟨m,n,k to qa _ h3⟩,h4.at λo e=>k u qa o e,h5.at λo e=>k v qa o e⟩
 item:=by
  intro X hP hw hK j i ao s σ H E I hf st hg;subst hP hw hK;obtain⟨h1,h2,⟨m,n,h3⟩,h4,h5⟩:=st;let⟨xs,ys,x,y,G,J,hx,hy⟩:=hg;let⟨fs,rf,Z,_⟩:=I.list G;let⟨gs,rg,pg,_⟩:=I.list J;let⟨p,ep,rp⟩:=rf.get hx;let⟨q,eq,rq⟩:=rg.get hy;let lt:∀c∈[z,ti,to,u,v],c<s.heap.objs.size:=λc j=>by
   simp only[bX,kz,or_false]at j;rcases j with e|e|e|e|e <;> subst e
   .show aI h1
   .show aI h2
   .show aI h3
   .let⟨o,e,_⟩:=h4;show aI e
   .let⟨o,e,_⟩:=h5;show aI e
  let Y:s.TypeIs (.ref z) "zip":=⟨_,h1,rL⟩
  unfold pyNext;calc ae (og (iX (name:=Str.ofString "__next__") Y mT (gS mT Y F.entry_zip_next ?_ (F.args_zip_next_1 _))));calc abP D h1 h2 h3 h4 h5 (show s.heap.IsList a fs.toArray from Z.isList) (show s.heap.IsList b gs.toArray from pg.isList) (x:=p) (y:=q) (by simpa using ep) (by simpa using eq) λh' k1 k2 k3 k4 k5 k6=>aw ?_;calc⟨_,rL,wpAny_letOwnedTupleGo_zip k1 λh2' e2 O=>?_⟩;let up:∀c o,c∉[z,ti,to,u,v]->s.heap.get? c=some o->h2'.get? c=some o:=λc o j e=>by simp only[bX,kz,or_false,not_or]at j;show O.extBut _ _ j.1 (k6 c o j.1 j.2.2.1 j.2.2.2.1 j.2.2.2.2 e)
  let nz:s.heap.objs.size≠z:=ke (lt z qa);let⟨I3,fr⟩:=aV.ako (tk:=s.toks) I hf lt rp rq (O.extBut _ _ nz k5) up;show⟨.ref s.heap.objs.size,_,I3,rL,⟨s.heap.objs.size,x,y,I.hok.fresh (al _),rL,λzs hz=>by rw[I.IW hz G];show hx,λzs hz=>by rw[I.IW hz J];show hy,rL⟩,
   ⟨e2,O.extBut _ _ D.q1 (k6 _ _ D.q1 D.q5 D.q6 D.q7 h2),⟨_,_,O.extBut _ _ D.q2 k2⟩,k3.at λo e=>O.extBut _ o D.q3 e,k4.at λo e=>O.extBut _ o D.q4 e⟩,fr⟩
 done:=by
  intro X hP hw hK j i ao s σ H E I hf st hg;subst hP hw hK;obtain⟨h1,h2,⟨m,n,h3⟩,h4,h5⟩:=st;let⟨xs,ys,G,J,hx,hl⟩:=hg;let⟨fs,rf,Z,_⟩:=I.list G;let⟨gs,rg,pg,_⟩:=I.list J;let dI:=rg.length;let⟨p,ep,rp⟩:=rf.get (ac hx);let hh:X.A.in1.handled=none:=by simp[I.ok.hd j]
  let Y:s.TypeIs (.ref z) "zip":=⟨_,h1,rL⟩
  unfold pyNext;calc ae (og (iX (name:=Str.ofString "__next__") Y mT (gS mT Y F.entry_zip_next ?_ (F.args_zip_next_1 _))));calc adX hh D h1 h2 h3 h4 h5 (show s.heap.IsList a fs.toArray from Z.isList) (show s.heap.IsList b gs.toArray from pg.isList) (x:=p) (by simpa using ep) (by simp;simp_all) λh' e k zz=>?_;let⟨o,e1,e2⟩:=zz;calc ae (wpAny_isInstance (T:="StopIteration") (b:=true) ⟨o,e1,e2⟩ isSubtype_stop ?_);calc aw ⟨rL,aV.Nj (fp:=[z,ti,to,u,v]) (t':=s.toks) I (λc o j e=>?_) hf⟩;simp only[bX,kz,or_false,not_or]at j;show k c o j.1 j.2.2.1 j.2.2.2.1 j.2.2.2.2 e
 self:=λA i s Q E st h=>wpAny_pyIter_zip st.1 h
section
variable {X:Cx}{elts:List Expr}{x1:Nat}{tp:Pos}
def akt (K:W.Frag)(ta:TA):TI:=λσ H R=>ta σ H λvs H1=>∃a b,vs=[.ref a,.ref b]/\(∃xs,bJ K H1 a xs)/\(∃ys,bJ K H1 b ys)/\R (adY K a b) H1
def agj {a b:Expr}{ta:TA}{p pos:Pos}(hg:Gl X "zip")(hm:X.mg "zip"=none)(ha:QA X [a,b] ta)(hs:starEach [a,b] X.env=[(false,eval a X.env),(false,eval b X.env)]:=by rfl)(J:starEach [b] X.env=[(false,eval b X.env)]:=by rfl):QI X (.Tuple elts x1 tp) (.Call (.Name "zip" p) [a,b] [] pos) (akt X.K ta):=⟨by
 intro ao s σ H R I h;calc Call_ (rM I hg hm abG (eK (cH (ha.out pos ao s σ H _ I h) λus s1 zz=>?_) (by rw[hs,J]) (by rw[J];rfl)));let⟨vs,H1,G,r1,q1⟩:=zz;obtain⟨a,b,e,⟨xs,Z⟩,⟨ys,Y⟩,q⟩:=q1;subst e;cases r1 with
 | cons r rr=>
  cases rr with
  | cons r' rr=>
   cases rr;cases r;cases r';let⟨fs,rf,pf,_⟩:=G.list Z;let⟨gs,rg,pg,_⟩:=G.list Y;let la:a<s1.heap.objs.size:=by
    let⟨o,O,_⟩:=(show s1.heap.IsList a fs.toArray from pf.isList)
    show aI O
   let lb:b<s1.heap.objs.size:=by
    let⟨o,O,_⟩:=(show s1.heap.IsList b gs.toArray from pg.isList)
    show aI O
   calc alh (show s1.heap.IsList a fs.toArray from pf.isList) (show s1.heap.IsList b gs.toArray from pg.isList) λh' k1 k2 k3 k4 k5 kk=>wpAny_pyIter_zip k1 ?_;let D:ZA (s1.heap.objs.size+4) (s1.heap.objs.size+2) (s1.heap.objs.size+3) s1.heap.objs.size (s1.heap.objs.size+1) a b:=by
    let j:∀N a b:Nat,a<N->b<N->ZA (N+4) (N+2) (N+3) N (N+1) a b:=λN a b la lb=>by constructor <;> (show (_:Nat)≠_) <;> lia
    show j _ _ _ la lb
   calc⟨s1.heap.objs.size+4,[s1.heap.objs.size+4,s1.heap.objs.size+2,s1.heap.objs.size+3,s1.heap.objs.size,s1.heap.objs.size+1],_,_,H1,rL,G.kept (t':=s1.toks) kk,abQ D,⟨k1,k2,⟨_,_,k3⟩,k4,k5⟩,λc hc=>?_,q⟩;let F:s1.heap.objs.size<=c:=by
    simp only[bX,kz,or_false]at hc;let j:∀N c:Nat,(c=N+4\/c=N+2\/c=N+3\/c=N\/c=N+1)->N<=c:=λN c h=>by lia
    show j _ _ hc
   show G.zy F (G.hok.fresh F)⟩
end
def aiF {K KT:W.Frag}{a b D:Addr}{xs ys:List V}{f:St->St}{tt:TT}{te:TE}{σ:St}{H:Hp}{R:Hp->Prop}(I:xs.length=ys.length+1)(j:Nat->List V->Hp->Prop)(h0:j 0 [] (upd H D (.lst [])))(hl:∀i zs H,i<=ys.length->j i zs H->bJ K H a xs/\bJ K H b ys)(hs:∀i x y zs H T,xs[i]?=some x->ys[i]?=some y->j i zs H->H T=none->RN ys.length i D (λv H Q=>∃a p q,v=.ref a/\aU KT H a [p,q]/\Q [some p,some q]) f σ tt te (.ref T) (upd H T (.tup [x,y])) zs (j (i+1)))(hd:∀zs H,j ys.length zs H->R H):Ec (adY K a b) D H R (TgB (λv H Q=>∃a p q,v=.ref a/\aU KT H a [p,q]/\Q [some p,some q]) f σ tt te):=
 adB ys.length j h0 (λi zs H h p=>by let⟨q1,q2⟩:=hl i zs H (am h) p;show⟨⟨xs,ys,xs[i],ys[i],q1,q2,by simp[show i<xs.length by lia],by simp[h]⟩,λt H' y=>by let⟨T,x,y,F,rfl,hx,hy,rfl⟩:=y;show hs i x y zs H T (hx xs q1) (hy ys q2) p F⟩) λzs H p=>⟨⟨xs,ys,(hl _ zs H (al _) p).1,(hl _ zs H (al _) p).2,p_,al _⟩,hd zs H p⟩
section
variable {prog:Program}{w:World}{A:Around}{E:AF}{s:Shared}
variable {X:Cx}
def agk {a b:Addr}{D ob:Obj}{na nb:Nat}{x1 j:Nat}{G J O I:Tok}{Q:AF}(ha:s.heap.get? a=some D)(ca:D.cls=.type "tuple")(da:D.data=.seq [Value.int x1 G,Value.int j J].toArray na)(hb:s.heap.get? b=some ob)(cb:ob.cls=.type "tuple")(db:ob.data=.seq [Value.int x1 O,Value.int j I].toArray nb)(hu:A.units<cLine)(q:Q (.bool false) s):wpAny (model prog w) A (compareOp .Lt (.ref a) (.ref b)) Q E s:=by
 let Z:s.TypeIs (.ref a) "tuple":=⟨D,ha,ca⟩
 let Y:s.TypeIs (.ref b) "tuple":=⟨ob,hb,cb⟩
 show wpAny _ _ (richCompare .Lt (.ref a) (.ref b)) Q E s;calc wpAny_richCompare_same_room (op:=.Lt) (T:="tuple") Z Y mM (gS mM Z F.entry_tuple_lt ?_ (F.args_tuple_lt_2 _ _)) hu;show wpAny _ _ (isInstance (.ref b) (.type "tuple") >>= _) _ _ s;calc ae (wpAny_isInstance Y isSubtype_tuple_tuple ?_);simp only[me,fF,if_false];calc ae (kR ha da (ae (kR hb db (ae ?_))));rw[show [Value.int (x1:Int) G,Value.int (j:Int) J].toArray.toList.zip [Value.int (x1:Int) O,Value.int (j:Int) I].toArray.toList=[(Value.int (x1:Int) G,Value.int (x1:Int) O),(Value.int (j:Int) J,Value.int (j:Int) I)] from rfl];rw[gr];calc ae ?_;dsimp only;calc ae (jn _ _ _ _ prog w _ _ ?_);simp only[beq_self_eq_true,me,fF,if_false];calc aw ?_;dsimp only;rw[gr];calc ae ?_;dsimp only;calc ae (jn _ _ _ _ prog w _ _ ?_);simp only[beq_self_eq_true,me,fF,if_false];calc aw ?_;dsimp only;rw[pS];calc aw ?_;dsimp only;show aw ⟨_,rL,by show Builtin.Tuple.tupleCompareSizes CmpOp.Lt 2 2≠_;decide,q⟩
def ali:R2:=λx y H Q=>∃(a b:Addr) (x1 D F j:Nat),x=.ref a/\y=.ref b/\H a=some (.tup [.int x1,.int D])/\H b=some (.tup [.int F,.int j])/\D<1000/\j<1000/\
 Q (.bl (decide (x1*1000+D<F*1000+j))) H
def aiG (hu:X.A.units<cLine):gK X (compareOp .Lt) ali:=by
 intro ao s σ H x y v u Q I rx ry h;let⟨a,b,x1,F,x2,Y,rfl,rfl,ea,eb,l1,l2,q⟩:=h;by_cases G:x1*1000+F=x2*1000+Y
 .let e1:x1=x2:=p_;let e2:F=Y:=by simp_all
  subst e1 e2;rw[ag (fm _)]at q;cases rx;cases ry;let⟨_,tv,O,o,ho,hc,n,hd⟩:=I.hok _ _ ea;let⟨_,tv',D,o',J,j,n',Z⟩:=I.hok _ _ eb;cases O with
  | cons q1 rr=>
   cases rr with
   | cons q2 rr=>
    cases rr;cases D with
    | cons q3 rr'=>
     cases rr' with| cons q4 rr'=>cases rr';let⟨t1,rfl⟩:=q1;let⟨t2,rfl⟩:=q2;let⟨t3,rfl⟩:=q3;let⟨t4,rfl⟩:=q4;show agk ho hc hd J j Z hu ⟨.bl _,H,I,rL,q⟩
 .show aiz hu ao s σ H _ _ _ _ Q I rx ry ⟨a,b,x1,F,x2,Y,[],[],rL,rL,ea,eb,l1,l2,G,q⟩
open Classical in
def aku (K:W.Frag)(j:Bool):R2:=λx y H Q=>∃n d es,n<=60/\jC K H n d x/\jC K H n (.lst es) y/\Q (.bl (if j then !decide (d∈es) else decide (d∈es))) H
def X5 (O:X.A.units+64<cLine):gK X (compareOp .In) (aku X.K false):=by intro ao s σ H x y v u Q I J F h;let⟨n,d,es,hn,hd,D,q⟩:=h;let⟨as,G⟩:=hd.reads I J;let⟨bs,j⟩:=D.reads I F;let l1:=hd.lay;let l2:=D.lay;rw[toP]at j;simp only[toP,PyData.canLay0,PyData.depth]at l2;calc SeqAt.in_list_reads j G l2.1 l1.1 (by have:=Nat.min_le_right (PyData.depthAll (nZ es)) (toP d).depth;lia) ⟨.bl _,H,I,rL,?_⟩;rw[XQ];show q
end
def agl {name:Str}{apos cpos:Pos}{T id:String}(K:W.Frag)(I:PlainAttrs T)(slot:Slot T name id)(F:typeOf (.builtin id)=pure (.type "method_descriptor"))(hm:yD X id r)(G:QE X o to)(D:attributeBase o name X.env (eval o X.env)=eval o X.env:=by rfl)(j:(apos.endLine==cpos.line)=true:=by rfl)(h:X.K=K:=by rfl):QE X (.Call (.Attribute o name apos) [] [] cpos) (adt K T r to):=by subst h;show xJ I slot F hm G D j
section
variable {X:Cx}{o e f:Expr}{apos cpos:Pos}{td ty tx:TE}
def adZ (j:X.A.units+1<cLine)(D:QE X o td)(F:QE X e ty)(G:QE X f tx)(m:M2 X o "get" apos e f cpos):QE X (.Call (.Attribute o "get" apos) [e,f] [] cpos) (abo td ty tx):=⟨adz j D.out F.out G.out m⟩
structure KDict (P:Program)(w:World)(K:W.Frag)(a:Addr)(kvs:List (Key×V)):Prop where
 z:(a==sysModules)=false
 ex:∃o vs,K.lookup a=some o/\KV kvs vs/\o.IsDictOf (iD P w) vs
def aiH (P:Program)(w:World)(K:W.Frag)(td ty tx:TE):TE:=λσ H Q=>td σ H λx H1=>∃a kvs,x=.ref a/\KDict P w K a kvs/\ty σ H1 λy D=>tx σ D λz j=>∃k,y=kV k/\Q ((gM kvs k).getD z) j
def Tv (Z:QE X o td)(he:QE X e ty)(Y:QE X f tx)(m:M2 X o "get" apos e f cpos):QE X (.Call (.Attribute o "get" apos) [e,f] [] cpos) (aiH X.prog X.w X.K td ty tx):=⟨by
 intro ao s σ H Q I h;calc wpAny_Call_method m.base m.few m.line PySem.F.plainAttrs_dict ii PySem.F.type_dict_get (cH (Z.out ao s σ H _ I h) λu s1 O=>?_);let⟨x,H1,j,rx,a,kvs,ex,d,q1⟩:=O;subst ex;obtain rfl:u=Value.ref a:=rx;let⟨ob,vs,hk,D,hd⟩:=d.ex;let dd:∀{s':Shared} {σ':St} {H':Hp},aV X ao σ' H' s'->s'.heap.DictOf (iD X.prog X.w) a vs:=λJ=>Heap.dictOf_iff.mpr ⟨ob,J.iV a ob hk,hd⟩;refine⟨(dd j).typeIs,λb q=>?_,?_⟩
 .cases q;let⟨ob,_,_,h1,h2,_⟩:=dd j;show⟨ob,h1,h2.2.1⟩
 rw[m.trees];refine gX rL (iq (fi (cH (he.out ao s1 σ H1 _ j q1) λiv s2 ⟨y,H2,I2,ry,q2⟩=>fi (cH (Y.out ao s2 σ H2 _ I2 q2) λfv s3 ⟨z,H3,F,rz,k,G,q3⟩=>im ?_))))
 subst G;calc call_meetsIn ii (dd F).typeIs lS (lm _ _ _) (meets_dict_get_default (iD X.prog X.w) a (Ku ry) d.z fv) ⟨_,(dd F).mapOf,?_⟩;show⟨_,H3,F.tok _,(D.val k).getD rz,q3⟩⟩
def aiI:List V->Hp->VK->Prop:=λxs H Q=>∃(d:Addr) (kvs:List (Key×V)),xs=[.ref d]/\H d=some (.dK kvs)/\∀p:Addr,H p=none->Q (.ref p) (upd H p (.dK kvs))
def Z6:jc X (.type "dict") aiI:=by
 intro ao s σ H xs us Q I r h;let⟨d,kvs,rfl,hd,q⟩:=h;let⟨u,rfl,F⟩:=vals1 r;cases F;let⟨hz,lo,vs,j,dd⟩:=ZM I.hok hd;calc kt_call_dict lo dd (by rw[<-j.length];show hz) λh' D hs=>?_;let lt:sysModules<s.heap.objs.size:=I.big;refine⟨.ref s.heap.objs.size,_,I.laid (o:=.dK kvs) (t':=s.toks) (λb u e=>?_) (al _) ⟨hz,?_,vs,j,D⟩,rL,q _ (I.hok.fresh (al _))⟩
 .show hs.extBut b u (cn (aI e)) (af _ e)
 .show beq_eq_false_iff_ne.mpr (ke lt)
end
def abR {l:List Nat}{g:TG}{tb:TS}{D:Ends}{σ:St}{H:Hp}(j:Nat->St->Hp->Prop)(h0:j 0 σ H)(hs:∀i c σ H T,l[i]?=some c->j i σ H->H T=none->g (.ref T) σ (upd H T (.tup [.int i,.str (S [c])])) λσ2 F=>tb {D with nx:=j (i+1),ct:=j (i+1),bk:=D.nx} σ2 F)(hd:∀σ H,j l.length σ H->D.nx σ H):M7 (Tj l) g tb D σ H:=Zr l.length j h0 (λi σ H h p=>⟨h,λx H' y=>by let⟨T,c,I,rfl,G,rfl⟩:=y;show hs i c σ _ T G p I⟩) λσ H p=>⟨al _,hd σ H p⟩
end L2
namespace PySem.F
end PySem.F
namespace L2
open PySem PySem.Spec PyProof.Rows PySem.W
section
variable {X:Cx}
def ad0 (a:List Int)(x:Int):(a++[x]).sum=a.sum+x:=by
 induction a with| nil=>simp| cons y r ih=>rw[o0,n5,n5,ih];lia
theorem Bw (ns:List Int):∀k,k<=ns.length->preSum (λi=>ns.getD i 0) k=(ns.take k).sum
 | 0,_=>by simp[preSum]
 | k+1,h=>by
  show preSum (λi=>ns.getD i 0) k+ns.getD k 0=_;let e:ns.take (k+1)=ns.take k++[ns[k]]:=by rw[de,ac h];rfl
  rw[Bw ns k (am h),e,ad0];simp[List.getD,show k<ns.length by lia]
def aiJ (ns:List Int)(b:Int)(hb:0<=b)(h:∀x∈ns,-b<=x/\x<=b):-(b*ns.length)<=ns.sum/\ns.sum<=b*ns.length:=by
 induction ns with
 | nil=>simp
 | cons a r ih=>
  let h1:=h a cq;let h2:=ih λx hx=>h x (bz _ hx);rw[n5,dE];let e:b*((r.length+1:Nat):Int)=b*r.length+b:=by rw[Int.natCast_add,Int.mul_add];simp
  rw[e];lia
def akv (K:W.Frag):List V->Hp->VK->Prop:=λxs H Q=>∃(p:Addr) (ns:List Int),xs=[.ref p]/\bJ K H p (ns.map V.int)/\ns.length<=1000/\(∀x∈ns,-1000000000000000<=x/\x<=1000000000000000)/\Q (.int ns.sum) H
def abS (hc:X.calm=true):jc X (.builtin "sum") (akv X.K):=by
 intro ao s σ H xs us Q I r h;let⟨p,ns,rfl,hq,hn,hb,q⟩:=h;let⟨u,rfl,J⟩:=vals1 r;cases J;let⟨its,Z,pl,hz⟩:=I.list hq;let Y:=Z.length;rw[aa]at Y;let G:p≠s.heap.objs.size:=by let⟨o,O,_⟩:=pl.isList;show cn (aI O)
 let F:∀(i:Nat) (v:Value),its.toArray[i]?=some v->∃t,v=.int (ns.getD i 0) t:=λi v F=>by
  let F:its[i]?=some v:=by simpa using F
  let hi:i<ns.length:=by have:=(ah.mp F).1;simp_all
  let⟨u,hu,J⟩:=Z.get (i:=i) (x:=.int ns[i]) (by simp[hi]);rw[F]at hu;cases hu;let⟨t,e⟩:=J;show⟨t,by rw[e];simp[List.getD,hi]⟩
 let hsz:its.toArray.size=ns.length:=by simp[Y]
 calc call_sum_walk (ik pl.isList ?_);refine⟨s.heap.objs.size,_,_,_,_,_,_,rL,Walks.list (A:=X.A.in1) (I.ok.hd hc) s.heap.objs.size p G its.toArray,⟨⟨_,ba _ rL,rL,rL⟩,pl.isList.at λo e=>af _ e⟩,?_,F,λj hj=>?_,λh' tk t' kk=>?_⟩
 .intro b hb;have:b=s.heap.objs.size\/b=p:=by simpa using hb
  rw[fe];rcases this with e|e;.rw[e];show gL _
  .rw[e];let⟨o,O,_⟩:=pl.isList;show lx (aI O)
 .let D:j<ns.length:=by simp_all
  let h1:=hb _ (aS D);let e1:ns.getD j 0=ns[j]:=by simp[List.getD,D]
  let h2:=aiJ (ns.take (j+1)) 1000000000000000 qc λx hx=>hb x (c_ hx);let hl:(ns.take (j+1)).length<=1000:=by rw[ap];lia
  rw[Bw ns (j+1) D,e1];unfold InLong;lia
 .let I1:aV X ao σ H {s with heap:=h',toks:=tk}:=I.kept λb o e=>kk b o (by
   intro hm;have:b=s.heap.objs.size:=by simpa using hm
   subst this;show absurd (aI e) (fm _)) (af _ e)
  rw[hsz,Bw ns ns.length (al _),cz];show⟨.int _,H,I1,⟨t',rL⟩,q⟩
def zG.rd {kvs:List (Key×V)}{k:Key}(e:Rd H a (.dK kvs)):zG H a (kV k) (gM kvs k):=.inl ⟨kvs,k,e,rL,rL⟩
def Rd.mv (k:aD H H')(r:Rd H a u):Rd H' a u:=by
 rcases r with r|⟨o,r⟩;.show .inl (k _ _ r)
 .show .inr ⟨o,k _ _ r⟩
end
end L2
namespace L2
open PySem PySem.Spec PyProof.Rows
section
variable {X:Cx}{ao:AH}{σ:St}{H:Hp}{s:Shared}
def aiK (X:Cx)(s:Shared)(x:Str)(u:Value):Prop:=∃m,s.heap.Ns X.env.locals m/\Look X.env s.heap m x u
def ad1 {E:AF}{x:Str}{u:Value}{pos:Pos}{Q:AF}(I:aV X ao σ H s)(h:aiK X s x u)(q:Q u s)(hd:(x==("__debug__":Str))=false:=by decide)(F:(x==("__classdict__":Str))=false:=by decide):wpAny (model X.prog X.w) X.A (eval (.Name x pos) X.env) Q E s:=by
 let⟨m,hn,l⟩:=h;rcases l with⟨D,hm⟩|⟨D,c,G,j⟩;.show mo (wpAny_loadName_local I.ok.kind D hn hm q) hd
 .rcases D with D|D;.show mo (wpAny_loadName_cell I.ok.kind D G j q) hd
  .show mo (wpAny_loadName_free I.ok.kind D G j q F) hd
end
end L2
namespace L2
open PySem PySem.Spec PyProof.Rows PySem.Builtin PySem.Builtin.Str
def Np (x y z:Str)(t u v:Tok)(h0:(u==0||v==0)=false)(D:(y==z)=false)(hl:tooLong (x.length+(occurrences x y 0 x.length (x.length+1)).length*z.length)=false):Gives («str.replace» ⟨[.str x t,.str y u,.str z v],[]⟩) (if (((occurrences x y 0 x.length (x.length+1)).isEmpty||(y.length==0&&z.length==0))||u==v)=true then .val (.str x t) else .str (glued z (partsBetween x (occurrences x y 0 x.length (x.length+1)) y.length))):=by
 show Gives (if ((occurrences x y 0 x.length (x.length+1)).isEmpty||(y.length==0&&z.length==0))=true then (rule "str.replace.nothing" >>= λ_=>ret (.str x t)) else
     (isSame (.str y u) (.str z v) >>= λsame=>if same=true then (rule "str.replace.old-is-new" >>= λ_=>ret (.str x t)) else if tooLong (x.length+(occurrences x y 0 x.length (x.length+1)).length*z.length)=true then unsupported "str.replace:memory" else retStr (glued z (partsBetween x (occurrences x y 0 x.length (x.length+1)) y.length)))) _
 cases F:((occurrences x y 0 x.length (x.length+1)).isEmpty||(y.length==0&&z.length==0))
 .cases j:(u==v)
  .rw[isSame_str_other y z u v h0 j D,hl];show .of_eq rfl
  .let e:isSame (.str y u) (.str z v)=pure true:=by
    show isSame.created (y==z) u v=_;unfold isSame.created;rw[h0,j];rfl
   rw[e];show .rule (.of_eq rL)
 .show .rule (.of_eq rL)
def pU (c:Nat):Nat:=if 65<=c/\c<=90 then 63 else c
theorem X6:∀j:List Str,(Str.join ⟨#[65]⟩ j).cps.toList.map pU=(Str.join ⟨#[63]⟩ j).cps.toList.map pU
 | []=>rfl
 | [a]=>rfl
 | a::b::r=>by let D:=X6 (b::r);show ((a++⟨#[65]⟩++Str.join ⟨#[65]⟩ (b::r)).cps.toList).map pU=((a++⟨#[63]⟩++Str.join ⟨#[63]⟩ (b::r)).cps.toList).map pU;simp only[Str.cps_append,Array.toList_append,bu,D];rfl
def agm (l:List Nat)(n:Nat):((glued (S [65]) (partsBetween (S l) (occurrences (S l) (S [63]) 0 (S l).length n) (S [63]).length)).cps.toList).map pU=l.map pU:=by let e:=StrLaws.glued_between_self (S l) (S [63]) n;rw[StrLaws.glued_eq_join]at e ⊢;have:=X6 (partsBetween (S l) (occurrences (S l) (S [63]) 0 (S l).length n) (S [63]).length);rw[show (⟨#[65]⟩:Str)=S [65] from rL,show (⟨#[63]⟩:Str)=S [63] from rL,e]at this;show this
section
variable {X:Cx}
def PEt (X:Cx)(e:Expr)(t:TE):Prop:=∀(ao:AH) (s:Shared) (σ:St) (H:Hp) (Q:VK),aV X ao σ H s->t σ H Q->wpAny (model X.prog X.w) X.A (eval e X.env) (λu s'=>EP X ao σ Q u s'/\0<s'.toks) X.xe s
def agn {e:Expr}{ta:TE}{f:Str}{pos:Pos}(Z:PE X e ta)(hb:attributeBase e f X.env (eval e X.env)=eval e X.env):PEt X (.Attribute e f pos) (Zy X.K ta f):=by intro ao s σ H Q I h;calc Xq hb (cH (Z ao s σ H _ I h) λu s1 F=>?_);let⟨x,H1,j,Y,a,C,dx,fs,v,ex,G,c,n,l,q⟩:=F;subst ex;obtain rfl:u=Value.ref a:=Y;let⟨mA,O,r,_,_,_⟩:=Ah j.hok G;let⟨u,J,D⟩:=nR.some_of (v:=v) (o:=mA f) (by rw[<-l];show r f);show get_map j.iV O (c.get f) c.hd n J (PB D) ⟨⟨v,H1,j.tok _,D,q⟩,Nat.succ_pos _⟩
def aiL {a b:Expr}{ta tb:TE}{pos:Pos}{r:R2}(Y:Ih X r)(ha:PEt X a ta)(hb:PE X b tb)(hs:G9 b):PEt X (.Subscript a b pos) (Ie r ta tb):=by intro ao s σ H Q I h;calc Subscript_ (cH (ha ao s σ H _ I h) λv s1 z=>?_);obtain⟨⟨x,H1,F,r1,q1⟩,D⟩:=z;calc R_ (eI (hb ao s1 σ H1 _ F q1) (λu s2 z ht=>?_) λ_ _ z _=>z);let⟨y,O,J,G,q2⟩:=z;show R_ (eI (Y a b ao s2 σ O x y v u Q J r1 G q2 (hs _ _)) (λw Z z j=>⟨z,cK D (bE ht j)⟩) λ_ _ z _=>z)
def aiM (ix:Nat):TE:=λσ H Q=>∃l:List Nat,σ[ix]?=some (some (.str (S l)))/\l.length<=63/\∀j:List Nat,j.map pU=l.map pU->Q (.str (S j)) H
def aiN {e1:Expr}{t1:TE}{x g:Str}{ix:Nat}{px pg apos cpos G:Pos}{j:Nat}{z:Str}(h1:PEt X e1 t1)(hN:X.N[ix]?=some x)(hv:Xl X.env.scope x)(hg:Gl X g)(hm:∃t,t≠0/\X.mg g=some (.str (S [63]) t))(hz:z=S [65])(hst:starEach [e1,.Call (.Attribute (.Name x px) "replace" apos) [.Name g pg,.Constant (.str z) j G] [] cpos] X.env=[(false,eval e1 X.env),(false,eval (.Call (.Attribute (.Name x px) "replace" apos) [.Name g pg,.Constant (.str z) j G] [] cpos) X.env)])(J:((backTo cpos (starEach [.Name g pg,.Constant (.str z) j G] X.env)).all (λx=>!x.1)&&(backToKw cpos (keywordEach [] X.env)).all (λx=>x.1.isSome)&&decide ([Expr.Name g pg,.Constant (.str z) j G].length+([]:List Keyword).length+(if ([]:List Keyword).isEmpty then 0 else 1)<30))=true)(D:(apos.endLine==cpos.line)=true)(hd:(x==("__debug__":Str))=false)(hcd:(x==("__classdict__":Str))=false)(hgd:(g==("__debug__":Str))=false):PA X [e1,.Call (.Attribute (.Name x px) "replace" apos) [.Name g pg,.Constant (.str z) j G] [] cpos] (wC t1 (wC (aiM ix) zE)):=by
 subst hz;let⟨tB,hB,hm⟩:=hm;intro pos ao s σ H Q I h;rw[hst];show wpAny _ _ (spliced ((false,eval e1 X.env)::(false,eval _ X.env)::[])) _ _ s;calc fi (cH (h1 ao s σ H _ I h) λu s1 y=>?_);obtain⟨⟨x1,H1,Z,r1,l,hl,h63,q⟩,tk⟩:=y;let⟨m,hn,hlm⟩:=id Z.loc;obtain⟨ur,⟨tr,er⟩,lr⟩:=hlm ix x _ hN hl hv;subst er;let exr:aiK X s1 x (.str (S l) tr):=⟨m,hn,lr⟩
 calc fi (wpAny_Call_method_late rL J D rL (ad1 Z exr ?_ hd hcd));calc⟨"str","str.replace",bp,PySem.F.slot_str_replace,PySem.F.type_str_replace,typeIs_str s1 _ tr,λ_ e=>(nomatch e),?_⟩;calc gX rL (iq ?_);show wpAny _ _ (spliced ((false,eval (.Name g pg) X.env)::(false,eval (.Constant (.str (S [65])) j G) X.env)::[])) _ _ _;calc fi (o8 Z hg hm (fi (Calls.Constant_str (im ?_))) hgd);let dI:=StrLaws.occ_length_le (S l) (S [63]) 0 (S l).length ((S l).length+1);let hsl:(S l).length=l.length:=rP l;let Ks:tooLong ((S l).length+(occurrences (S l) (S [63]) 0 (S l).length ((S l).length+1)).length*(S [65]).length)=false:=by unfold tooLong sizeLine;rw[show (S [65]).length=1 from rfl];show ag p_
 refine call_gives F.slot_str_replace (typeIs_str _ _ tr) F.entry_str_replace (F.args_str_replace_3 _ _ _) (Np (S l) (S [63]) (S [65]) tr tB s1.toks ?_ rL Ks) ?_
 .have:s1.toks≠0:=ke tk;simp[*]
 let O:∀(Y:List Nat) (t':Tok) (k:Nat),Y.map pU=l.map pU->AP X ao σ Q [u,.str (S Y) t'] {s1 with toks:=k}:=λY t' k e=>⟨[x1,.str (S Y)],H1,Z.tok _,.cons r1 (.cons ⟨_,rL⟩ .nil),q Y e⟩
 split;.show im (O l _ _ rL)
 .calc⟨?_,im ?_⟩;.show fits_replaced (S [63]) (by rw[hsl,show (S [65]).length=1 from rfl];lia)
  .show O _ _ _ (agm l _)
end
structure QEt (X:Cx)(e:Expr)(t:TE):Prop where
 out:PEt X e t
end L2
namespace L2
open PySem PySem.Spec PyProof.Rows
section
variable {X:Cx}
def ago {e:Expr}{ta:TE}{f:Str}{pos:Pos}(j:QE X e ta)(hb:attributeBase e f X.env (eval e X.env)=eval e X.env):QEt X (.Attribute e f pos) (Zy X.K ta f):=⟨agn j.out hb⟩
def aiO {a b:Expr}{ta tb:TE}{pos:Pos}{r:R2}(j:Ih X r)(ha:QEt X a ta)(hb:QE X b tb)(hs:G9 b):QEt X (.Subscript a b pos) (Ie r ta tb):=⟨aiL j ha.out hb.out hs⟩
def aiP {e1:Expr}{Z:TE}{x g:Str}(ix:Nat){I pg apos cpos G:Pos}{j:Nat}{z:Str}(h1:QEt X e1 Z)(hm:∃t,t≠0/\X.mg g=some (.str (S [63]) t))(hN:X.N[ix]?=some x)(hv:Xl X.env.scope x)(hg:Gl X g)(hz:z=S [65])(O:starEach [e1,.Call (.Attribute (.Name x I) "replace" apos) [.Name g pg,.Constant (.str z) j G] [] cpos] X.env=[(false,eval e1 X.env),(false,eval (.Call (.Attribute (.Name x I) "replace" apos) [.Name g pg,.Constant (.str z) j G] [] cpos) X.env)])(F:((backTo cpos (starEach [.Name g pg,.Constant (.str z) j G] X.env)).all (λx=>!x.1)&&(backToKw cpos (keywordEach [] X.env)).all (λx=>x.1.isSome)&&decide ([Expr.Name g pg,.Constant (.str z) j G].length+([]:List Keyword).length+(if ([]:List Keyword).isEmpty then 0 else 1)<30))=true)(D:(apos.endLine==cpos.line)=true)(hd:(x==("__debug__":Str))=false:=by decide)(J:(x==("__classdict__":Str))=false:=by decide)(Y:(g==("__debug__":Str))=false:=by decide):QA X [e1,.Call (.Attribute (.Name x I) "replace" apos) [.Name g pg,.Constant (.str z) j G] [] cpos] (wC Z (wC (aiM ix) zE)):=⟨aiN h1.out hN hv hg hm hz O F D hd J Y⟩
end
end L2
namespace L2
open PySem PySem.Spec PyProof.Rows PySem.W
def Z7 (l)(j:Array Value)(n)(dd)(sl)(u:Tok)(h0:¬j.isEmpty=true):Meets (Builtin.«tuple.__mul__» ⟨[.ref l,.int 1 u],[]⟩) (λ_ R s=>s.heap.get? l=some {cls:=.type "tuple",dict:=dd,data:=.seq j n,slots:=sl}/\R (.ok (.ret (.ref l))) s):=
 .of_wp λprog w A R s h=>by
  let⟨hp,g,d,tk,os⟩:=s;let⟨hl,h⟩:=h;let f1:=AutoSeq1.idx_int;let f2:=AutoSeq1.sub_tuple_tuple
  wp_walk using js hl
  show⟨_,rL,h⟩
section
variable {X:Cx}
def akx (K:W.Frag):R2:=λx y H Q=>∃a xs,∃n:Nat,x=.ref a/\y=.int n/\H a=some (.tup xs)/\xs≠[]/\1<=n/\n<=100/\xs.length<=100/\∀p H',aD H H'->H' p=some (.tup (List.replicate n xs).flatten)->Q (.ref p) H'
def X7:gK X (binaryOp .Mult) (akx X.K):=by
 intro ao s σ H x y v u Q I J G h;let⟨a,xs,n,rfl,rfl,ha,hx,n1,D,Z,q⟩:=h;by_cases h2:2<=n;.show agf ao s σ H _ _ v u Q I J G ⟨a,xs,n,rL,rL,aU.of ha,hx,h2,D,Z,λp hp=>q p _ (aD.upd hp) au⟩
 .let e:n=1:=p_;subst e;cases J;let⟨tk,rfl⟩:=G;let⟨its,r1,p1,_⟩:=I.tuple (aU.of ha);obtain⟨⟨cls,dd,data,sl⟩,j,F,m,hd⟩:=id p1;simp only at F hd;subst F hd;let h0:¬its.toArray.isEmpty=true:=λz=>hx (r1.Ai.mp (by simpa using z));refine kN (T:="tuple") (U:="int") qc ⟨_,j,rL⟩ (λs'=>typeIs_int s' _ _) xQ PySem.F.fills_int_mul km El PySem.F.slot_int_index.lookup
   (call_meets km (typeIs_int s _ _) PySem.F.entry_int_rmul (PySem.F.args_int_rmul_2 _ _) (KY _ _ a its.toArray m dd sl) ⟨j,rL,⟨_,j,rL⟩,?_⟩)
  calc call_meets jS ⟨_,j,rL⟩ PySem.F.entry_tuple_mul (PySem.F.args_tuple_mul_2 _ _) (Z7 a its.toArray m dd sl _ h0) ⟨j,?_⟩;show⟨.ref a,H,I,rL,q a H (aD.refl _) (by simpa using ha)⟩
end
def aky (K:W.Frag)(C:Addr)(tb:XK->St->TS)(th:TS):TS:=λD σ H=>∃E:XK,tb E σ D σ H/\∀(a:Addr) (cls:Value) (dd:Option Addr) (H':Hp),E cls dd H'->H' a=none->
 exmOne K cls (.ref C)=some true/\th D σ (upd H' a (.ext (rW a cls dd)))
section
variable {X:Cx}{C:Addr}{x:Str}{np hpos pos:Pos}{body suite:List Stmt}{b0:Stmt}{tb:XK->St->TS}{th:TS}
def agp (j:X.stack=X.env::X.outer)(hf:X.env.frame=some X.env.locals)(hg:Gl X x)(hm:X.mg x=some (.ref C))(hb:∀(pn:AH) (xe:AF) (E:XK) (σ0:St),PassesOwn (model X.prog X.w) X.A X.env xe->pA (qw X.prog X.w) (X.tried pn xe) E (·=σ0)->rQ (X.tried pn xe) body (tb E σ0))(hh:∀a,rQ (X.held a) (b0::suite) th)(O:(x==("__debug__":Str))=false:=by decide):QS X (.Try body [.ExceptHandler (some (.Name x np)) none (b0::suite) hpos] [] [] pos) (aky X.K C tb th):=⟨by
 intro ao s σ H D I h;let⟨E,G,Tp⟩:=h;let hp:PassesOwn (model X.prog X.w) X.A X.env (λe s₁=>wpAny (model X.prog X.w) X.A (noteFrame e X.env) (λ_ Z=>wpAny (model X.prog X.w) X.A (setFlight e none) (λ_ s₃=>wpAny (model X.prog X.w) X.A (handleBy e X.env [.ExceptHandler (some (.Name x np)) none (b0::suite) hpos]) (SP X ao D) X.xe s₃) X.xe Z) X.xe s₁):=PassesOwn.looking;let hP:pA (qw X.prog X.w) (X.tried (X.pn++ao) (λe s₁=>wpAny (model X.prog X.w) X.A (noteFrame e X.env) (λ_ Z=>wpAny (model X.prog X.w) X.A (setFlight e none) (λ_ s₃=>wpAny (model X.prog X.w) X.A (handleBy e X.env [.ExceptHandler (some (.Name x np)) none (b0::suite) hpos]) (SP X ao D) X.xe s₃) X.xe Z) X.xe s₁)) E (·=σ):=by
  intro G6 σ' H1 s1 e s2 I1 hσ hq;let⟨a,cls,dd,H',B,ea,ex,q⟩:=hq;subst ea;let J:=I1.ql;let hσ:σ'=σ:=hσ;subst hσ;let fl:vY B (X.env::X.outer) a cls dd .none s2.heap:=by rw[<-j];show ex.fly
  let Y:X.A.frames=some (X.env::X.outer):=by rw[<-j];show J.ok.frames
  let⟨hmt,hsu⟩:=Tp a cls dd H' q ex.na;calc Nk Y hf fl λh1 y1 k1=>qj y1 λh2 y2 k2=>?_;let I2:=J.caught ex (by rw[j];show y2) (k1.trans k2);calc wpAny_handleBy_cons (codeAny_handlers_test (o8 (X:=X.held a) (I2.held a) hg hm ?_ O)) (by intro q;cases q);let LT:Looks (model X.prog X.w) h2 (typeOf (.ref a)) cls:=by let⟨oe,_,_,_,_,he,hc,_⟩:=y2.tr;show hc ▸ (Looks.ld he).andThen .now
  calc(exm_one (K:=X.K) I2.iV LT hmt).here ?_;calc codeAny_handlers_suite (qj y2 λh3 y3 k3=>?_);let I3:=J.caught ex (by rw[j];show y3) ((k1.trans k2).trans k3);calc eI ((hh a).out ao _ _ _ D (I3.held a) hsu) (λf s5 hs=>?_) λ_ _ z=>z.elim;cases f with
  | next=>let⟨σ5,H5,F,q5⟩:=hs;show⟨_,_,F.Ek J.ok,q5⟩
  | brk=>let⟨σ5,H5,F,q5⟩:=hs;show⟨_,_,F.Ek J.ok,q5⟩
  | cont=>let⟨σ5,H5,F,q5⟩:=hs;show⟨_,_,F.Ek J.ok,q5⟩
  | ret u=>let⟨v,σ5,H5,F,r5,q5⟩:=hs;show⟨v,_,_,F.Ek J.ok,r5,q5⟩
 calc wpAny_Try_except (eI ((hb _ _ E σ hp hP).out [] s σ H D (I.tried _) G) (λf s1 hs=>?_) λe s1 z=>z);let hs:=hs.ql;cases f with
 | next=>let⟨σ',H',I',q⟩:=hs;show(bN (X:=X)).out ao s1 σ' H' D I' q
 | brk=>show hs
 | cont=>show hs
 | ret u=>show hs⟩
end
section
variable {X:Cx}{tg:Expr}
def abT (hc:X.calm=true):jc X (.builtin "min") (λxs H Q=>∃(p:Addr) (ns:List Int),xs=[.ref p]/\aU X.K H p (ns.map V.int)/\0<ns.length/\∀m∈ns,(∀x∈ns,m<=x)->Q (.int m) H):=by
 intro ao s σ H xs us Q I r h;let⟨p,ns,rfl,hq,h0,q⟩:=h;let⟨u,rfl,G⟩:=vals1 r;cases G;let⟨its,Y,pl,hz⟩:=I.tuple hq;let O:=Y.length;rw[aa]at O;let F:p≠s.heap.objs.size:=by let⟨o,J,_⟩:=pl;show cn (aI J)
 let hb:∀(i:Nat) (v:Value),its.toArray[i]?=some v->∃t,v=.int (ns.getD i 0) t:=λi v D=>by
  let D:its[i]?=some v:=by simpa using D
  let hi:i<ns.length:=by have:=(ah.mp D).1;lia
  let⟨u,Z,G⟩:=Y.get (i:=i) (x:=.int ns[i]) (by simp[hi]);rw[D]at Z;cases Z;let⟨t,e⟩:=G;show⟨t,by rw[e];simp[List.getD,hi]⟩
 calc call_min_walk (wpAny_pyIter_tuple (show s.heap.IsTuple p its.toArray from pl) ?_);refine⟨s.heap.objs.size,_,_,_,_,_,_,rL,Walks.tuple (A:=X.A.in1) (I.ok.hd hc) s.heap.objs.size p F its.toArray,⟨⟨_,ba _ rL,rL,rL⟩,pl.push _⟩,?_,by simp;lia,CmpOf.ints_lt (λi=>ns.getD i 0) hb,λv h' tk hP kk=>?_⟩
 .intro b hb;have:b=s.heap.objs.size\/b=p:=by simpa using hb
  rw[fe];rcases this with e|e;.rw[e];show gL _
  .rw[e];let⟨o,J,_⟩:=pl;show lx (aI J)
 .let I1:aV X ao σ H {s with heap:=h',toks:=tk}:=I.kept λb o e=>kk b o (by
   intro hm;have:b=s.heap.objs.size:=by simpa using hm
   subst this;show absurd (aI e) (fm _)) (af _ e)
  let⟨k1,k2⟩:=argBest_lt (λi=>ns.getD i 0) (its.toArray.size-1);let hsz:its.toArray.size=ns.length:=by simp[O]
  let⟨t,e⟩:=hb _ v hP;generalize argBest _ _=j at k1 k2 e;let hj:j<ns.length:=p_;calc⟨.int (ns.getD j 0),H,I1,⟨t,e⟩,q _ (by simp[List.getD,hj]) λx hx=>?_⟩;let⟨i,hi,rfl⟩:=ir.mp hx;have:=k2 i p_;simpa [List.getD,hi] using this
def akz (ta:TA):TI:=λσ H R=>ta σ H λvs H1=>∃n:Nat,vs=[.int ((n:Int)-1),.int (-1),.int (-1)]/\n<=99/\R (Bv ((n:Int)-1) (-1) n) H1
def aiQ:∀n:Fin 100,Builtin.Range.small ((n.val:Int)-1) (-1) (-1)=true/\Builtin.Range.rangeSize ((n.val:Int)-1) (-1) (-1)=(n.val:Int):=by decide +kernel
def abU {a b c:Expr}{ta:TA}{p pos:Pos}(hg:Gl X "range")(hm:X.mg "range"=none)(ha:QA X [a,b,c] ta)(hs:starEach [a,b,c] X.env=[(false,eval a X.env),(false,eval b X.env),(false,eval c X.env)]:=by rfl)(j:starEach [b,c] X.env=[(false,eval b X.env),(false,eval c X.env)]:=by rfl):QI X tg (.Call (.Name "range" p) [a,b,c] [] pos) (akz ta):=⟨by
 intro ao s σ H R I h;calc Call_ (rM I hg hm boot_range (eK (cH (ha.out pos ao s σ H _ I h) λus s1 Y=>?_) (by rw[hs,j]) (by rw[j];rfl)));let⟨vs,H1,Z,r1,q1⟩:=Y;let⟨n,e,q1,q⟩:=q1;subst e;cases r1 with
 | cons r1 rr=>
  cases rr with
  | cons r2 rr=>
   cases rr with
   | cons r3 rr=>
    cases rr;let⟨D,rfl⟩:=r1;let⟨F,rfl⟩:=r2;let⟨G,rfl⟩:=r3;let⟨O,sz⟩:=aiQ ⟨n,p_⟩;calc call_range_3 p_ ?_ (.inl (lL p_));calc nK (IsRange.new ..) O ?_;let J:aV X ao σ H1 {s1 with heap:=s1.heap.push {cls:=.type "range",data:=.fields #[.int ((n:Int)-1) D,.int (-1) F,.int (-1) G]},toks:=s1.toks}:=Z.kept λb o e=>af _ e;refine⟨(s1.heap.push {cls:=.type "range",data:=.fields #[.int ((n:Int)-1) D,.int (-1) F,.int (-1) G]}).objs.size,[(s1.heap.push {cls:=.type "range",data:=.fields #[.int ((n:Int)-1) D,.int (-1) F,.int (-1) G]}).objs.size],_,_,H1,rL,
     J.kept (t':=s1.toks) λb o e=>af _ e,Ii _ ((n:Int)-1) (-1) n,?_,λb hb=>?_,q⟩
    .let e1:((n:Int)-1)+((0:Nat):Int)*(-1)=(n:Int)-1:=qa;let e2:(n:Int)-((0:Nat):Int)=Builtin.Range.rangeSize ((n:Int)-1) (-1) (-1):=by rw[sz];simp
     show IsRangeIter _ _ (((n:Int)-1)+((0:Nat):Int)*(-1)) ((n:Int)-((0:Nat):Int)) (-1);rw[e1,e2];show ba _ rfl
    .let e:b=(s1.heap.push {cls:=.type "range",data:=.fields #[.int ((n:Int)-1) D,.int (-1) F,.int (-1) G]}).objs.size:=by simpa using hb
     subst e;show J.zy (al _) (J.hok.fresh (al _))⟩
end
def Z8 {lo c:Int}{n:Nat}{g:TG}{tb:TS}{D:Ends}{σ:St}{H:Hp}(j:Nat->St->Hp->Prop)(h0:j 0 σ H)(hs:∀i σ H,i<n->j i σ H->g (.int (lo+i*c)) σ H λσ2 G=>tb {D with nx:=j (i+1),ct:=j (i+1),bk:=D.nx} σ2 G)(hd:∀σ H,j n σ H->D.nx σ H):∃W:Nat->Nat->St->Hp->Prop,(∃m,W 0 m σ H)/\∀i m σ H,W i m σ H->
   ((Bv lo c n).stop i H/\D.nx σ H)\/((Bv lo c n).go i H/\∃N:St->Hp->Prop,(∀σ' H',N σ' H'->∃I,I<m/\W (i+1) I σ' H')/\∀x H',(Bv lo c n).Ko i H x H'->g x σ H' λσ2 G=>tb {D with nx:=N,ct:=N,bk:=D.nx} σ2 G):=by
 calc⟨λi m σ H=>m=n-i/\i<=n/\j i σ H,⟨n,qa,eQ _,h0⟩,?_⟩;intro i m σ H z;let⟨rfl,hi,p⟩:=z;by_cases F:i<n
 .calc .inr ⟨F,j (i+1),λσ' H' J=>⟨n-(i+1),p_,rL,F,J⟩,λx H' y=>?_⟩;let⟨e,y⟩:=y;subst e y;show hs i σ _ F p
 .let e:i=n:=p_;subst e;show .inl ⟨al _,hd σ H p⟩
section
variable {X:Cx}{C f:Addr}{m:Str}{k:Nat}{fd:FuncData}{ps:List Str}{sp:Sp}{E:XK}{S:St->Prop}{o:Expr}{ta:TE}{apos pos:Pos}
def abV {pl:Sem Bool}(he:QE X o ta)(c:Cls X.K C)(hm:Meth X.K C m f)(F:cj X.prog X.w X.K X.mg X.base (qw X.prog X.w) k f fd ps sp)(hr:fZ k X.A)(hb:bT X.K fd ps [])(hx:pA (qw X.prog X.w) X E S)(ht:eval (.Call (.Attribute o m apos) [] [] pos) X.env=(do
   let ov <- eval o X.env
   standAt apos.atName
   let (f,first) <- holding [ov] (getMethod ov m pl)
   callWith pos f first (backTo pos (starEach [] X.env)) (backToKw pos (keywordEach [] X.env))):=by rfl) :
  QE X (.Call (.Attribute o m apos) [] [] pos) (abO C m sp E S ta zE):=⟨by
 intro ao s σ H Q I h;let⟨Y,h⟩:=h;calc methodCall_KW (pl:=pl) (cH (he.out ao s σ H _ I h) λu s1 O=>?_) ht;let⟨x,H1,j,rx,a,dx,fs,ex,Z,l,q⟩:=O;subst ex;obtain rfl:u=Value.ref a:=rx;calc wB j Z c hm l (callWith_K0 (first:=[.ref a]) j.iV hm.kp ?_);let q2:sp [V.ref a] H1 Q E:=q;let J:Vals [V.ref a] [Value.ref a]:=.cons rL .nil;let hl:[Value.ref a].length=ps.length:=by rw[<-J.length];show F.len _ _ _ _ q2
 let G:=hb s1 [Value.ref a] j.iV (by rw[dL];show hl);rw[dL]at G;calc gV (iL (F.run X.A X.stack s1 H1 ⟨[Value.ref a],[]⟩ [Value.ref a] _ Q E hr j.env0 G J q2) λr s' D=>?_);cases r with
 | error e=>show hx ao σ H1 s1 e s' j Y D
 | ok fl=>
  cases fl with
  | ret u=>show j.after D
  | next=>show False.elim D
  | brk=>show False.elim D
  | cont=>show False.elim D⟩
end
end L2
def L2.cF {o p q:Prop}(O:o)(P:p)(Q:q):o/\p/\q:=⟨O,P,Q⟩
def L2.RP {o p q r:Prop}(O:o)(P:p)(Q:q)(R:r):o/\p/\q/\r:=⟨O,P,Q,R⟩
def L2.Eo {o p q r s t:A->B->C->D->E->F->G->H->I->J->Prop}(a b c d e f g h i j)(O:o a b c d e f g h i j)(P:p a b c d e f g h i j)(Q:q a b c d e f g h i j)(R:r a b c d e f g h i j)(S:s a b c d e f g h i j)(T:t a b c d e f g h i j):∃a b c d e f g h i j,o a b c d e f g h i j/\p a b c d e f g h i j/\q a b c d e f g h i j/\r a b c d e f g h i j/\s a b c d e f g h i j/\t a b c d e f g h i j:=⟨a,b,c,d,e,f,g,h,i,j,O,P,Q,R,S,T⟩
def L2.K4 {o p q r s t u v w:A->B->C->D->E->F->G->H->I->J->Prop}(a b c d e f g h i j)(O:o a b c d e f g h i j)(P:p a b c d e f g h i j)(Q:q a b c d e f g h i j)(R:r a b c d e f g h i j)(S:s a b c d e f g h i j)(T:t a b c d e f g h i j)(U:u a b c d e f g h i j)(V:v a b c d e f g h i j)(W:w a b c d e f g h i j):∃a b c d e f g h i j,o a b c d e f g h i j/\p a b c d e f g h i j/\q a b c d e f g h i j/\r a b c d e f g h i j/\s a b c d e f g h i j/\t a b c d e f g h i j/\u a b c d e f g h i j/\v a b c d e f g h i j/\w a b c d e f g h i j:=⟨a,b,c,d,e,f,g,h,i,j,O,P,Q,R,S,T,U,V,W⟩
def L2.aj {o p:A->Prop}(a)(O:o a)(P:p a):∃a,o a/\p a:=⟨a,O,P⟩
def L2.aX {o p q:A->Prop}(a)(O:o a)(P:p a)(Q:q a):∃a,o a/\p a/\q a:=⟨a,O,P,Q⟩
def L2.iu {o p q r:A->Prop}(a)(O:o a)(P:p a)(Q:q a)(R:r a):∃a,o a/\p a/\q a/\r a:=⟨a,O,P,Q,R⟩
def L2.pI {o p q r s:A->Prop}(a)(O:o a)(P:p a)(Q:q a)(R:r a)(S:s a):∃a,o a/\p a/\q a/\r a/\s a:=⟨a,O,P,Q,R,S⟩
def L2.dM {o p:A->B->Prop}(a b)(O:o a b)(P:p a b):∃a b,o a b/\p a b:=⟨a,b,O,P⟩
def L2.aK {o p q:A->B->Prop}(a b)(O:o a b)(P:p a b)(Q:q a b):∃a b,o a b/\p a b/\q a b:=⟨a,b,O,P,Q⟩
def L2.aY {o p q r:A->B->Prop}(a b)(O:o a b)(P:p a b)(Q:q a b)(R:r a b):∃a b,o a b/\p a b/\q a b/\r a b:=⟨a,b,O,P,Q,R⟩
def L2.dw {o p q r s:A->B->Prop}(a b)(O:o a b)(P:p a b)(Q:q a b)(R:r a b)(S:s a b):∃a b,o a b/\p a b/\q a b/\r a b/\s a b:=⟨a,b,O,P,Q,R,S⟩
def L2.Bx {o p q r s t:A->B->Prop}(a b)(O:o a b)(P:p a b)(Q:q a b)(R:r a b)(S:s a b)(T:t a b):∃a b,o a b/\p a b/\q a b/\r a b/\s a b/\t a b:=⟨a,b,O,P,Q,R,S,T⟩
def L2.K5 {o p q r s t u:A->B->Prop}(a b)(O:o a b)(P:p a b)(Q:q a b)(R:r a b)(S:s a b)(T:t a b)(U:u a b):∃a b,o a b/\p a b/\q a b/\r a b/\s a b/\t a b/\u a b:=⟨a,b,O,P,Q,R,S,T,U⟩
def L2.K7 {o p:A->B->C->Prop}(a b c)(O:o a b c)(P:p a b c):∃a b c,o a b c/\p a b c:=⟨a,b,c,O,P⟩
def L2.pJ {o p q:A->B->C->Prop}(a b c)(O:o a b c)(P:p a b c)(Q:q a b c):∃a b c,o a b c/\p a b c/\q a b c:=⟨a,b,c,O,P,Q⟩
def L2.cY {o p q r:A->B->C->Prop}(a b c)(O:o a b c)(P:p a b c)(Q:q a b c)(R:r a b c):∃a b c,o a b c/\p a b c/\q a b c/\r a b c:=⟨a,b,c,O,P,Q,R⟩
def L2.eG {o p q r s:A->B->C->Prop}(a b c)(O:o a b c)(P:p a b c)(Q:q a b c)(R:r a b c)(S:s a b c):∃a b c,o a b c/\p a b c/\q a b c/\r a b c/\s a b c:=⟨a,b,c,O,P,Q,R,S⟩
def L2.qP {o p q r s t:A->B->C->Prop}(a b c)(O:o a b c)(P:p a b c)(Q:q a b c)(R:r a b c)(S:s a b c)(T:t a b c):∃a b c,o a b c/\p a b c/\q a b c/\r a b c/\s a b c/\t a b c:=⟨a,b,c,O,P,Q,R,S,T⟩
def L2.K8 {o p q r s t u:A->B->C->Prop}(a b c)(O:o a b c)(P:p a b c)(Q:q a b c)(R:r a b c)(S:s a b c)(T:t a b c)(U:u a b c):∃a b c,o a b c/\p a b c/\q a b c/\r a b c/\s a b c/\t a b c/\u a b c:=⟨a,b,c,O,P,Q,R,S,T,U⟩
def L2.fB {o p q r:A->B->C->D->Prop}(a b c d)(O:o a b c d)(P:p a b c d)(Q:q a b c d)(R:r a b c d):∃a b c d,o a b c d/\p a b c d/\q a b c d/\r a b c d:=⟨a,b,c,d,O,P,Q,R⟩
def L2.bw {o p q r s:A->B->C->D->Prop}(a b c d)(O:o a b c d)(P:p a b c d)(Q:q a b c d)(R:r a b c d)(S:s a b c d):∃a b c d,o a b c d/\p a b c d/\q a b c d/\r a b c d/\s a b c d:=⟨a,b,c,d,O,P,Q,R,S⟩
def L2.gW {o p q r s t:A->B->C->D->Prop}(a b c d)(O:o a b c d)(P:p a b c d)(Q:q a b c d)(R:r a b c d)(S:s a b c d)(T:t a b c d):∃a b c d,o a b c d/\p a b c d/\q a b c d/\r a b c d/\s a b c d/\t a b c d:=⟨a,b,c,d,O,P,Q,R,S,T⟩
def L2.nG {o p q r s t u v:A->B->C->D->Prop}(a b c d)(O:o a b c d)(P:p a b c d)(Q:q a b c d)(R:r a b c d)(S:s a b c d)(T:t a b c d)(U:u a b c d)(V:v a b c d):∃a b c d,o a b c d/\p a b c d/\q a b c d/\r a b c d/\s a b c d/\t a b c d/\u a b c d/\v a b c d:=⟨a,b,c,d,O,P,Q,R,S,T,U,V⟩
def L2.K9 {o p q r:A->B->C->D->E->Prop}(a b c d e)(O:o a b c d e)(P:p a b c d e)(Q:q a b c d e)(R:r a b c d e):∃a b c d e,o a b c d e/\p a b c d e/\q a b c d e/\r a b c d e:=⟨a,b,c,d,e,O,P,Q,R⟩
def L2.BJ {o p q r s:A->B->C->D->E->Prop}(a b c d e)(O:o a b c d e)(P:p a b c d e)(Q:q a b c d e)(R:r a b c d e)(S:s a b c d e):∃a b c d e,o a b c d e/\p a b c d e/\q a b c d e/\r a b c d e/\s a b c d e:=⟨a,b,c,d,e,O,P,Q,R,S⟩
def L2.cT {o p q r s t:A->B->C->D->E->Prop}(a b c d e)(O:o a b c d e)(P:p a b c d e)(Q:q a b c d e)(R:r a b c d e)(S:s a b c d e)(T:t a b c d e):∃a b c d e,o a b c d e/\p a b c d e/\q a b c d e/\r a b c d e/\s a b c d e/\t a b c d e:=⟨a,b,c,d,e,O,P,Q,R,S,T⟩
def L2.wH {o p q r s t u:A->B->C->D->E->Prop}(a b c d e)(O:o a b c d e)(P:p a b c d e)(Q:q a b c d e)(R:r a b c d e)(S:s a b c d e)(T:t a b c d e)(U:u a b c d e):∃a b c d e,o a b c d e/\p a b c d e/\q a b c d e/\r a b c d e/\s a b c d e/\t a b c d e/\u a b c d e:=⟨a,b,c,d,e,O,P,Q,R,S,T,U⟩
def L2.BL {o p q r:A->B->C->D->E->F->Prop}(a b c d e f)(O:o a b c d e f)(P:p a b c d e f)(Q:q a b c d e f)(R:r a b c d e f):∃a b c d e f,o a b c d e f/\p a b c d e f/\q a b c d e f/\r a b c d e f:=⟨a,b,c,d,e,f,O,P,Q,R⟩
def L2.RQ {o p q r s:A->B->C->D->E->F->Prop}(a b c d e f)(O:o a b c d e f)(P:p a b c d e f)(Q:q a b c d e f)(R:r a b c d e f)(S:s a b c d e f):∃a b c d e f,o a b c d e f/\p a b c d e f/\q a b c d e f/\r a b c d e f/\s a b c d e f:=⟨a,b,c,d,e,f,O,P,Q,R,S⟩
def L2.pK {o p q r s t u:A->B->C->D->E->F->Prop}(a b c d e f)(O:o a b c d e f)(P:p a b c d e f)(Q:q a b c d e f)(R:r a b c d e f)(S:s a b c d e f)(T:t a b c d e f)(U:u a b c d e f):∃a b c d e f,o a b c d e f/\p a b c d e f/\q a b c d e f/\r a b c d e f/\s a b c d e f/\t a b c d e f/\u a b c d e f:=⟨a,b,c,d,e,f,O,P,Q,R,S,T,U⟩
def L2.RT {o p q:A->B->C->D->E->F->G->H->I->Prop}(a b c d e f g h i)(O:o a b c d e f g h i)(P:p a b c d e f g h i)(Q:q a b c d e f g h i):∃a b c d e f g h i,o a b c d e f g h i/\p a b c d e f g h i/\q a b c d e f g h i:=⟨a,b,c,d,e,f,g,h,i,O,P,Q⟩
namespace L2
open PySem
theorem eS {n:Nat}{P:List Value->Prop}(h:∀a us,us.length=n->P (a::us)):∀us,us.length=n+1->P us
 | a::us,e=>h a us (Nat.succ.inj e)
@[elab_as_elim] theorem e1 {P:List Value->Prop} (h:∀a,P [a]) (us:List Value) (hl:us.length=1):P us:=eS (λa us e=>(by rw[List.eq_nil_of_length_eq_zero e];show h a)) us hl
@[elab_as_elim] theorem e2 {P:List Value->Prop} (h:∀a b,P [a,b]) (us:List Value) (hl:us.length=2):P us:=eS (λa us e=>e1 (P:=λr=>P (a::r)) (h a) us e) us hl
@[elab_as_elim] theorem e3 {P:List Value->Prop} (h:∀a b c,P [a,b,c]) (us:List Value) (hl:us.length=3):P us:=eS (λa us e=>e2 (P:=λr=>P (a::r)) (h a) us e) us hl
@[elab_as_elim] theorem e4 {P:List Value->Prop} (h:∀a b c d,P [a,b,c,d]) (us:List Value) (hl:us.length=4):P us:=eS (λa us e=>e3 (P:=λr=>P (a::r)) (h a) us e) us hl
@[elab_as_elim] theorem e5 {P:List Value->Prop} (h:∀a b c d e,P [a,b,c,d,e]) (us:List Value) (hl:us.length=5):P us:=eS (λa us e=>e4 (P:=λr=>P (a::r)) (h a) us e) us hl
@[elab_as_elim] theorem e6 {P:List Value->Prop} (h:∀a b c d e f,P [a,b,c,d,e,f]) (us:List Value) (hl:us.length=6):P us:=eS (λa us e=>e5 (P:=λr=>P (a::r)) (h a) us e) us hl
@[elab_as_elim] theorem e7 {P:List Value->Prop} (h:∀a b c d e f g,P [a,b,c,d,e,f,g]) (us:List Value) (hl:us.length=7):P us:=eS (λa us e=>e6 (P:=λr=>P (a::r)) (h a) us e) us hl
@[elab_as_elim] theorem e8 {P:List Value->Prop} (h:∀a b c d e f g i,P [a,b,c,d,e,f,g,i]) (us:List Value) (hl:us.length=8):P us:=eS (λa us e=>e7 (P:=λr=>P (a::r)) (h a) us e) us hl
end L2
namespace My
open PySem L2
def top (i:Nat):Stmt:=PySem.Challenge.pw_letterrack_k62_games_that_are_over.main.body.getD i (.Pass ⟨0,0,0,0⟩)
noncomputable abbrev kj:Stmt:=inClass (top 4) 0
def Nq:bB ["self","word"] ["self","word"] (aJ kj):={}
noncomputable abbrev lH:Stmt:=inClass (top 7) 0
def Rb:bB ["self","row","column"] ["self","row","column"] (aJ lH):={}
noncomputable abbrev oN:Stmt:=inClass (top 9) 0
def WK:bB ["self","row","column"] ["self","row","column"] (aJ oN):={}
noncomputable abbrev jD:Stmt:=inClass (top 11) 0
def K_:bB ["self","tile"] ["self","tile"] (aJ jD):={}
noncomputable abbrev rY:Stmt:=top 17
def Ij:bB ["thing"] ["thing"] (aJ rY):={}
noncomputable abbrev yJ:Stmt:=top 18
def Z9:bB ["thing"] ["thing"] (aJ yJ):={}
noncomputable abbrev uM:Stmt:=top 19
def Tw:bB ["sign"] ["sign"] (aJ uM):={}
noncomputable abbrev yK:Stmt:=top 20
def Z_:bB ["sign"] ["sign"] (aJ yK):={}
noncomputable abbrev yL:Stmt:=top 21
def wI:bB ["rack","signs","tiles","sign","tile"] ["rack","signs"] (aJ yL):={}
noncomputable abbrev wJ:Stmt:=top 26
def uN:bB ["thing","width"] ["thing"] (aJ wJ):={}
noncomputable abbrev wK:Stmt:=top 27
def Ik:bB ["thing"] ["thing"] (aJ wK):={}
noncomputable abbrev uO:Stmt:=top 28
def Ep:bB ["thing"] ["thing"] (aJ uO):={}
noncomputable abbrev pW:Stmt:=top 29
def Dv:bB ["rows","row","column"] ["rows","row","column"] (aJ pW):={}
noncomputable abbrev qQ:Stmt:=top 30
def Nr:bB ["rows","thing"] ["rows","thing"] (aJ qQ):={}
noncomputable abbrev wL:Stmt:=top 31
def WL:bB ["rows","marks","begin"] ["rows","marks","begin"] (aJ wL):={}
noncomputable abbrev qR:Stmt:=top 32
def Ak:bB ["rows","column"] ["rows","column"] (aJ qR):={}
noncomputable abbrev lJ:Stmt:=inClass (top 33) 0
def Rc:bB ["self","rows","marks","begin"] ["self","rows","marks","begin"] (aJ lJ):={}
noncomputable abbrev oO:Stmt:=inClass (top 33) 1
def WM:bB ["self","row","column"] ["self","row","column"] (aJ oO):={}
noncomputable abbrev ju:Stmt:=inClass (top 33) 2
def xR:bB ["self"] ["self"] (aJ ju):={}
noncomputable abbrev mZ:Stmt:=inClass (top 33) 3
def n6:bB ["self","row","column","way","line","place","ahead","signs","first"] ["self","row","column","way"] (aJ mZ):={}
noncomputable abbrev lK:Stmt:=inClass (top 33) 5
def mz:bB ["self","laying","lines","row","column","sign"] ["self","laying"] (aJ lK):={}
noncomputable abbrev uP:Stmt:=top 36
def Tz:bB ["board","thing"] ["board","thing"] (aJ uP):={}
noncomputable abbrev uQ:Stmt:=top 37
def xT:bB ["board","thing","cells"] ["board","thing"] (aJ uQ):={}
noncomputable abbrev wM:Stmt:=top 38
def WQ:bB ["laying"] ["laying"] (aJ wM):={}
noncomputable abbrev qK:Stmt:=top 39
def Er:bB ["laying"] ["laying"] (aJ qK):={}
noncomputable abbrev yM:Stmt:=top 40
def aac:bB ["laying"] ["laying"] (aJ yM):={}
noncomputable abbrev mF:Stmt:=top 41
def pH:bB ["board","row","column","around"] ["board","row","column"] (aJ mF):={}
noncomputable abbrev BP:Stmt:=top 42
def mG:bB ["board","laying","after","way","asked","row","column","words","along","run"] ["board","laying"] (aJ BP):={}
noncomputable abbrev rZ:Stmt:=top 43
def qT:bB ["board","laying","row","column","sign"] ["board","laying"] (aJ rZ):={}
noncomputable abbrev oR:Stmt:=top 44
def Hz:bB ["laying"] ["laying"] (aJ oR):={}
noncomputable abbrev su:Stmt:=top 45
def qU:bB ["board","laying","after","row","column"] ["board","laying"] (aJ su):={}
noncomputable abbrev qm:Stmt:=top 46
def sJ:bB ["board","laying","joined"] ["board","laying"] (aJ qm):={}
noncomputable abbrev qW:Stmt:=top 47
def jE:bB ["board","book","laying","words","row","column","way","signs","word"] ["board","book","laying"] (aJ qW):={}
noncomputable abbrev qp:Stmt:=top 48
def La:bB ["board","book","rack","laying"] ["board","book","rack","laying"] (aJ qp):={}
noncomputable abbrev wN:Stmt:=top 52
def WR:bB ["worths","sign"] ["worths","sign"] (aJ wN):={}
noncomputable abbrev yN:Stmt:=top 53
def aad:bB ["word","place"] ["word","place"] (aJ yN):={}
noncomputable abbrev qX:Stmt:=top 54
def fP:bB ["board","worths","laying","word","cells","total","times","place","sign","cell","worth","mark"] ["board","worths","laying","word"] (aJ qX):={}
noncomputable abbrev wO:Stmt:=top 55
def WT:bB ["bonus","laying"] ["bonus","laying"] (aJ wO):={}
noncomputable abbrev uR:Stmt:=top 56
def Es:bB ["board","worths","bonus","laying","counted"] ["board","worths","bonus","laying"] (aJ uR):={}
noncomputable abbrev qY:Stmt:=top 58
def Nt:bB ["rack","laying"] ["rack","laying"] (aJ qY):={}
noncomputable abbrev uT:Stmt:=top 61
def Et:bB ["thing"] ["thing"] (aJ uT):={}
noncomputable abbrev vo:Stmt:=top 62
def Ld:bB ["thing"] ["thing"] (aJ vo):={}
noncomputable abbrev wQ:Stmt:=top 63
def WW:bB ["tiles"] ["tiles"] (aJ wQ):={}
noncomputable abbrev uU:Stmt:=top 64
def TF:bB ["things","place","thing"] ["things","place","thing"] (aJ uU):={}
noncomputable abbrev lM:Stmt:=inClass (top 65) 0
def Rf:bB ["self","board","racks","bag","points"] ["self","board","racks","bag","points"] (aJ lM):={}
noncomputable abbrev pN:Stmt:=top 66
def jF:bB ["stand","turn","size","laying","points","left","many","rack","racks","sums"] ["stand","turn","size","laying","points"] (aJ pN):={}
noncomputable abbrev qZ:Stmt:=top 67
def n8:bB ["stand","turn","tiles","left","many","rack","bag"] ["stand","turn","tiles"] (aJ qZ):={}
noncomputable abbrev m_:Stmt:=inClass (top 68) 0
def Eu:bB ["self","board","book","worths","bonus","size","racks","bag"] ["self","board","book","worths","bonus","size","racks","bag"] (aJ m_):={}
noncomputable abbrev n_:Stmt:=inClass (top 68) 1
def mH:bB ["self","deed","stand","turn","points"] ["self","deed"] (aJ n_):={}
noncomputable abbrev kZ:Stmt:=inClass (top 68) 2
def Ew:bB ["self"] ["self"] (aJ kZ):={}
noncomputable abbrev je:Stmt:=inClass (top 68) 3
def HJ:bB ["self"] ["self"] (aJ je):={}
noncomputable abbrev jf:Stmt:=inClass (top 68) 4
def HN:bB ["self"] ["self"] (aJ jf):={}
noncomputable abbrev jG:Stmt:=inClass (top 68) 5
def Le:bB ["self"] ["self"] (aJ jG):={}
noncomputable abbrev iQ:Stmt:=inClass (top 68) 6
def Ey:bB ["self"] ["self"] (aJ iQ):={}
noncomputable abbrev ni:Stmt:=inClass (top 68) 7
def TJ:bB ["self"] ["self"] (aJ ni):={}
noncomputable abbrev jH:Stmt:=inClass (top 68) 8
def pO:bB ["self","racks","many","last"] ["self"] (aJ jH):={}
noncomputable abbrev yO:Stmt:=top 70
def Lg:bB ["text"] ["text"] (aJ yO):={}
noncomputable abbrev sO:Stmt:=top 71
def Rg:bB ["text"] ["text"] (aJ sO):={}
noncomputable abbrev nj:Stmt:=inClass (top 72) 0
def Ez:bB ["self","words","word"] ["self","words"] (aJ nj):={}
noncomputable abbrev lN:Stmt:=inClass (top 72) 1
def Rh:bB ["self"] ["self"] (aJ lN):={}
noncomputable abbrev oU:Stmt:=inClass (top 72) 2
def WX:bB ["self","text"] ["self","text"] (aJ oU):={}
noncomputable abbrev nq:Stmt:=inClass (top 72) 6
def TQ:bB ["self"] ["self"] (aJ nq):={}
noncomputable abbrev yP:Stmt:=top 74
def aae:bB ["_law_script","_law_k"] ["_law_script","_law_k"] (aJ yP):={}
noncomputable abbrev BR:Stmt:=top 75
def oh:bB ["_law_cell","_law_many","_law_found","_law_number","_law_k"] ["_law_cell","_law_many"] (aJ BR):={}
noncomputable abbrev yQ:Stmt:=top 76
def sS:bB ["_law_cell","_law_letters_here","_law_found","_law_k"] ["_law_cell"] (aJ yQ):={}
noncomputable abbrev Hh:Stmt:=top 77
def nu:bB ["_law_cell","_law_letters_here","_law_words_here","_law_number","_law_size","_law_word","_law_rest","_law_k"] ["_law_cell","_law_letters_here"] (aJ Hh):={}
noncomputable abbrev Lh:Stmt:=top 78
def j6:bB ["_law_cell","_law_letters_here","_law_rows_here","_law_columns","_law_signs","_law_marks","_law_number","_law_sign","_law_begin","_law_texts","_law_some"] ["_law_cell","_law_letters_here"] (aJ Lh):={}
noncomputable abbrev Hi:Stmt:=top 79
def xU:bB ["_law_cell","_law_letters_here","_law_many","_law_blanks","_law_tiles_here","_law_number"] ["_law_cell","_law_letters_here","_law_many","_law_blanks"] (aJ Hi):={}
noncomputable abbrev Hj:Stmt:=top 80
def gk:bB ["_law_script","_law_letters_here","_law_cell","_law_size","_law_many","_law_few","_law_tiles_here","_law_racks","_law_k","_law_less","_law_worths","_law_letter","_law_bonus","_law_rows_here","_law_marks","_law_begin","_law_board","_law_words_here"] ["_law_script"] (aJ Hj):={}
noncomputable abbrev Hl:Stmt:=top 81
def Ji:bB ["_law_parts_here","_law_racks"] ["_law_parts_here"] (aJ Hl):={}
noncomputable abbrev uV:Stmt:=top 82
def iy:bB ["_law_rows_here","_law_word","_law_place","_law_rack","_law_row","_law_column","_law_way","_law_left","_law_laying_here","_law_letter","_law_tile"] ["_law_rows_here","_law_word","_law_place","_law_rack"] (aJ uV):={}
noncomputable abbrev Lj:Stmt:=top 83
def agq:bB ["_law_board","_law_book","_law_rack","_law_laying_here"] ["_law_board","_law_book","_law_rack","_law_laying_here"] (aJ Lj):={}
noncomputable abbrev BW:Stmt:=top 84
def vp:bB ["_law_board","_law_book","_law_words_here","_law_rack","_law_cell","_law_number","_law_place","_law_laying_here"] ["_law_board","_law_book","_law_words_here","_law_rack","_law_cell"] (aJ BW):={}
noncomputable abbrev Lk:Stmt:=top 85
def j7:bB ["_law_now","_law_book","_law_words_here","_law_cell","_law_board","_law_racks","_law_bag","_law_sums","_law_done","_law_passed_here","_law_over_here","_law_numbers","_law_rack","_law_laying_here","_law_many","_law_by"] ["_law_now","_law_book","_law_words_here","_law_cell"] (aJ Lk):={}
noncomputable abbrev Al:Stmt:=top 86
def ug:bB ["_law_rack","_law_tiles_here","_law_left","_law_tile"] ["_law_rack","_law_tiles_here"] (aJ Al):={}
noncomputable abbrev Lp:Stmt:=top 87
def h_:bB ["_law_now","_law_parts_here","_law_deed_here","_law_board","_law_racks","_law_bag","_law_sums","_law_done","_law_passed_here","_law_over_here","_law_here","_law_points","_law_left","_law_drawn"] ["_law_now","_law_parts_here","_law_deed_here"] (aJ Lp):={}
noncomputable abbrev BX:Stmt:=top 88
def mJ:bB ["_law_game","_law_now","_law_board","_law_racks","_law_bag","_law_sums","_law_done","_law_passed_here","_law_over_here","_law_there"] ["_law_game","_law_now"] (aJ BX):={}
noncomputable abbrev Lq:Stmt:=top 89
def Am:bB ["_law_game","_law_deed_here","_law_some","e"] ["_law_game","_law_deed_here"] (aJ Lq):={}
noncomputable abbrev yR:Stmt:=top 90
def wR:bB ["_law_game","_law_some","e"] ["_law_game"] (aJ yR):={}
noncomputable abbrev Ho:Stmt:=top 91
def Jj:bB ["_law_game","_law_now","_law_rack","_law_deed_here"] ["_law_game","_law_now"] (aJ Ho):={}
noncomputable abbrev BZ:Stmt:=top 92
def yS:bB ["_law_game","_law_parts_here","_law_now","_law_later","_law_found","_law_k"] ["_law_game","_law_parts_here","_law_now"] (aJ BZ):={}
noncomputable abbrev RW:Stmt:=top 93
def vq:bB ["_law_script","_law_parts_here","_law_book","_law_game","_law_now","_law_cell","_law_deed_here"] ["_law_script"] (aJ RW):={}
section
variable {P:Program}{w:World}{K:W.Frag}{mg:Str->Option Value}{base:Heap}
def EY (c:Nat):Bool:=decide (97<=c)&&decide (c<=122)
def Il (c:Nat):Bool:=decide (65<=c)&&decide (c<=90)
def E_ (l:List Nat):Bool:=match l with|[c]=>EY c||Il c|_=>false
def lt1 (a b:Nat):([a]<[b])↔a<b:=by simp[ij]
def Nu (a b:Nat):(!decide ([a]<[b]))=decide (b<=a):=by
 by_cases h:a<b;.rw[ai ((lt1 a b).mpr h),ag p_];rfl
 .rw[ag (λz=>h ((lt1 a b).mp z)),ai p_];rfl
def afq (K:W.Frag)(H:Hp)(x:V):Prop:=∃t,nU K H x t/\W.kitOne K t (.type "str")=some false
def TV (K:W.Frag):Sp:=λvs H Q _=>(∃x,vs=[x]/\afq K H x/\Q (.bl false) H)\/(∃l,vs=[.str (S l)]/\l.length<=1000/\Q (.bl (E_ l)) H)
def aaf (D:aN K mg "is_sign" yJ ["thing"])(J:mg "len"=none)(F:mg "str"=none)(I:mg "isinstance"=none):bW P w K mg base "is_sign" 1 ["thing"] (TV K):=by
 refine D.dD Z9 (λf bO A outer s H vs Q E Y h=>?_) (λvs H Q E h=>?_)
 .refine(aj _ (aB (cD (QW.qt (jY (dW (cZ (aQ fU qf I aE (ak aH (ak (jj (v:=.ty "str") qf F ml rL) aq)))))
     (jQ (bV Br (aQ dO qf J ax (ak aH aq)) aA (bM _))))) (aG (bC eO)) bN)
   (aG (bC (KD (mX o7 o7 (bI [97] qi) aH (bI [122] qi))
    (ji (mX o7 o7 (bI [65] qi) aH (bI [90] qi))))))) ?_)
  rcases h with⟨x,rfl,⟨t,ty,O⟩,q⟩|⟨l,rfl,hl,q⟩;.show(aj _ rL (fB _ _ _ false rL ty O (aj _ rL (cA (cA q)))))
  .let hz:l.length<=sizeLine:=am (aM p_);calc(aj _ rL (fB _ _ _ true rL (.str _) qh (aj _ rL (bR (aj _ rL (iu l rL hz rL (aj _ rL ?_)))))));by_cases h1:l.length=1
   .let⟨c,rfl⟩:=List.length_eq_one_iff.mp h1;calc RK rL ?_;calc(aj _ rL (aK [97] [c] rL rL (aj (decide (97<=c)) (by rw[Nu]) ?_)));let G:Q (.bl (EY c||Il c)) H:=q;let j:(Il c=(EY c||Il c))->DY adG adG (tC (.str (S [65]))) (Zj 0) (tC (.str (S [90]))) [some (.str (S [c]))] H Q:=λe=>by
     calc(aj _ rL (aK [65] [c] rL rL (aj (decide (65<=c)) (by rw[Nu]) ?_)));rw[<-e]at G;by_cases h2:65<=c
     .rw[ai h2];calc cA (aK [c] [90] rL rL ?_);rw[Nu];simpa [Il,h2] using G
     .rw[ag h2];calc bR ?_;simpa [Il,h2] using G
    by_cases h2:97<=c
    .rw[ai h2];calc cA (aK [c] [122] rL rL (aj _ rL ?_));rw[Nu];by_cases h3:c<=122
     .rw[ai h3];calc cA ?_;simpa [EY,h2,h3] using G
     .rw[ag h3];show bR (j (by simp[EY,h2,h3]))
    .rw[ag h2];show bR (aj _ rL (bR (j (by simp[EY,h2]))))
   .let e:(!decide (V.int (l.length:Int)=V.int 1))=true:=by
     rw[ag];rfl;intro z;injection z with z;lia
    rw[e];let e2:E_ l=false:=by
     match l,h1 with| [],_=>rfl| [c],h=>show absurd rL h| _::_::_,_=>rfl
    rw[e2]at q;show cA q
 .rcases h with⟨x,rfl,_⟩|⟨x,rfl,_⟩ <;> rfl
def abW (K:W.Frag):Sp:=λvs H Q _=>∃(a:Addr) (ns:List Int) (k:Nat),vs=[.ref a,.int k]/\bJ K H a (ns.map V.int)/\∀v:Int,Q (.int v) H
def isLet (c:Nat):Prop:=97<=c/\c<=122
structure aag (ls:List Nat):Prop where
 lo:2<=ls.length
 hi:ls.length<=26
 az:∀c∈ls,isLet c
def aah (D:aN K mg "_law_cell_at" yP ["_law_script","_law_k"])(I:mg "len"=none):bW P w K mg base "_law_cell_at" 1 ["_law_script","_law_k"] (abW K):=by
 calc D.dD aae (λf bO A outer s H vs Q E J h=>?_);let⟨a,ns,k,rfl,j,q⟩:=h;calc(aj _ (aB (cD (bV wu bf (aQ bY qf I ax (ak aH aq)) (bM _)) (aG (bC (bh gH aH bf (λ_ _=>rfl)))) bN) (aG (bC aA))) ?_);calc(aj _ rL (aj _ rL (aK a _ rL (.inl j) (aK _ _ rL rL (aj _ rL ?_)))));refine jP (λF=>?_) (λ_=>?_)
 .let G:k<ns.length:=by
   have:=ej F;rw[aa]at this;lia
  show(aj _ rL (aj _ rL (bw a _ _ (.int ns[k]) rL rL j (aP (by simp[G])) (q _))))
 .show q _
def nH (l:List Nat):(l.map λc=>[c]).flatten=l:=by
 induction l with| nil=>rfl| cons c r ih=>rw[cw,fb,ih];rfl
def akA:∀c∈AL,isLet c:=λc D=>by let⟨k,j,rfl⟩:=be.mp D;have:=gI.mp j;show⟨p_,p_⟩
def rG (c:Nat):Prop:=E_ [c]=true
def rG.lt {c:Nat}(h:rG c):c<128:=by unfold rG E_ EY Il at h;simp at h;lia
def abX {c:Nat}(h:isLet c):rG c:=by simp[rG,E_,EY,h.1,h.2]
def abY {c:Nat}(h:isLet c):rG (c-32):=by let h1:=h.1;let h2:=h.2;simp[rG,E_,EY,Il];lia
def agr {xs:List V}{a b:Nat}(h1:a<=b)(h2:b<=xs.length):iG xs (some (a:Int)) (some (b:Int))=(xs.drop a).take (b-a):=by unfold iG;rw[HT.mj,HT.mj,fA h2,fA (show a<=xs.length by lia)]
abbrev ones (cs:List Nat):List (List Nat):=cs.map λc=>[c]
structure Blk (r w:Nat)(ls:AB):Prop where
 len:ls.length=r
 sU:∀l∈ls,l.length=w
def MK:List Nat:=[46,50,51,52,98,99,100]
def Dw (c:Nat):Prop:=c=46\/rG c
def Lr (c:Nat):Prop:=c∈MK
structure TX (r w:Nat)(aF aO:AB)(i j:Nat):Prop where
 r1:1<=r
 r9:r<=9
 w1:1<=w
 w9:w<=9
 br:Blk r w aF
 bm:Blk r w aO
 cr:∀l∈aF,∀c∈l,Dw c
 cm:∀l∈aO,∀c∈l,Lr c
 bi:i<r
 bj:j<w
def Nv (ls:AB)(l:List Nat):Ts ls++[V.str (S l)]=Ts (ls++[l]):=by simp[Ts]
def abZ (cs:List Nat)(c:Nat):ones cs++[[c]]=ones (cs++[c]):=by simp[ones]
def cell (R:AB)(i j:Nat):Nat:=(R.getD i []).getD j 0
def cell_eq {R:AB}{i j:Nat}(hi:i<R.length)(D:j<R[i].length):cell R i j=R[i][j]:=by unfold cell;rw[ay (l:=R),ac hi];show (R[i]).getD j 0=_;rw[ay,ac D];rfl
def X8:Sp:=λvs H Q _=>∃i:Int,vs=[.int i]/\Q (.bl true) H
def WY (D:aN K mg "is_whole" rY ["thing"])(F:mg "int"=none)(G:mg "bool"=none)(j:mg "isinstance"=none):bW P w K mg base "is_whole" 1 ["thing"] X8:=by calc D.dD Ij (λf bO A outer s H vs Q E I h=>?_);let⟨i,rfl,q⟩:=h;calc(aj _ (aG (bC (jA (aQ fU qf j aE (ak aH (ak (jj (v:=.ty "int") qf F ko rL) aq))) (ji (abx (aQ fU qf j aE (ak aH (ak (jj (v:=.ty "bool") qf G j3 rL) aq)))))))) ?_);show(aj _ rL (fB _ _ _ true rL (.int _) qh (aj true rL (cA (aj _ rL (fB _ _ _ false rL (.int _) qh (aj false rL q)))))))
def nJ {ls:AB}{i:Nat}{l:List Nat}(h:ls[i]?=some l):(Ts ls)[i]?=some (.str (S l)):=by simp[Ts,h]
def xV {ls:AB}{i:Nat}{x:V}(h:(Ts ls)[i]?=some x):∃l,ls[i]?=some l/\x=.str (S l):=by rw[ck]at h;let⟨l,h1,h2⟩:=dv.mp h;show(aj l h1 h2.symm)
def Ao (n:Nat):((List.replicate n true).all id)=true:=by simp
def xW (n:Nat):(List.replicate n true).map V.bl++[V.bl true]=(List.replicate (n+1) true).map V.bl:=by rw[gt,bu];rfl
def Nx:Sp:=λvs H Q _=>∃(p:Addr) (ls:AB) (r w:Nat),vs=[.ref p]/\H p=some (.tup (Ts ls))/\Blk r w ls/\1<=r/\r<=9/\1<=w/\w<=9/\∀H',aD H H'->Q (.bl true) H'
def W0 (D:aN K mg "is_block" wJ ["thing"])(bH:mg "len"=none)(cQ:mg "tuple"=none)(wU:mg "str"=none)(gA:mg "all"=none)(bA:mg "isinstance"=none)(Aq:∃t,mg "MOST"=some (.int 9 t)):bW P w K mg base "is_block" 1 ["thing"] Nx:=by
 calc D.dD uN (λf bO A outer s H vs Q E hr h=>?_);let⟨p,ls,r,w,rfl,hp,hb,r1,r9,w1,w9,q⟩:=h;let qL:(Ts ls).length=r:=by rw[aa,hb.len]
 let h0:0<ls.length:=by rw[hb.len];lia
 calc(aj _ (aB (cD (QW.qt (jY (dW (cZ (aQ fU qf bA aE (ak aH (ak (jj (v:=.ty "tuple") qf cQ c9 rL) aq))))) (jQ (dW (Bu qO qO aA (aQ bY qf bH ax (ak aH aq)) (ZS qf Aq)))))) (aG (bC eO)) bN) (aB (cD (dW (cZ (aQ (kh rL) qf gA jT (ak (jZ rL (jz.of uN.nd qh) (iI aH) (λ_ _ _ _ _=>fH) (λ_ _ _ _ _=>(aQ (Tf K) qf bA aE (ak aH (ak (jj (v:=.ty "str") qf wU ml rL) aq))))) aq)))) (aG (bC eO)) bN) (aB (aW (i:=1) uN.nd rL (Or.inr rL) (aQ dO qf bH ax (ak (bh bD aH aA (λ_ _=>rfl)) aq))) (aG (bC (jA (mX qO qO aA bf (ZS qf Aq)) (ji (aQ (kh rL) qf gA jT (ak (jZ rL (jz.of uN.nd qh) (iI aH) (λ_ _ _ _ _=>fH) (λ_ _ _ _ _=>(d8 jk (aQ dO qf bH ax (ak aH aq)) bG (bM _)))) aq))))))))) ?_);calc(aj _ rL (fB _ _ _ true rL (.tup hp) qh (aj _ rL (bR ?_))));calc(aj _ rL (aK p _ rL (.inr (aU.of hp)) (aK _ _ rL rL (aj true (by rw[qL];simp;lia) (cA (aK _ _ rL rL (aj true (by rw[qL];simp;lia) (bR ?_))))))));refine(aj _ rL (aX p rL ⟨_,aU.of hp⟩ (λL hL=>rm (xs:=Ts ls) (λi ys Y=>ys=(List.replicate i true).map V.bl/\Y L=some (.lst ys)/\aD H Y) (cF rL au (aD.upd hL)) (λi ys Y _ h=>aU.of (h.2.2 _ _ hp)) ?_ ?_)))
 .intro i x ys Y hi z;let⟨rfl,O,F⟩:=z;let⟨l,hl,rfl⟩:=xV hi;let J:i<(Ts ls).length:=(ah.mp hi).1;refine(aj _ rL (gW _ _ _ true rL (.str _) qh O (by rw[aa,ce];show aM p_) (iW.mk J (cF (xW i) au (F.dY hL)))))
 .intro ys Y z;let⟨rfl,O,F⟩:=z;calc(aK L _ rL (bJ.of O) ?_);rw[Ao];calc(aj _ rL (bR ?_));let G:ls[0].length=w:=hb.sU _ (aS _);let hz:ls[0].length<=sizeLine:=am (aM p_);calc(aj _ rL (bw p _ _ (.str (S ls[0])) rL rL (aU.of (F _ _ hp)) (aP (j:=0) (nJ (by simp[h0]))) (aX _ rL hz ?_)));calc(aj _ rL (aK _ _ rL rL (aj true (by rw[G];simp;lia) (cA (aK _ _ rL rL (aj true (by rw[G];simp;lia) (cA ?_)))))));refine(aj _ rL (aX p rL ⟨_,aU.of (F _ _ hp)⟩ (λL2 tV=>rm (xs:=Ts ls) (λi ys Z=>ys=(List.replicate i true).map V.bl/\Z L2=some (.lst ys)/\aD H Z) (cF rL au (F.dY (F.free tV))) (λi ys Y _ h=>aU.of (h.2.2 _ _ hp)) ?_ ?_)))
  .intro i x ys Z hi z;let⟨rfl,Av,I⟩:=z;let⟨l,hl,rfl⟩:=xV hi;let J:i<(Ts ls).length:=(ah.mp hi).1;let hlw:l.length=w:=hb.sU _ (bv hl);calc(aj _ rL (aX _ rL (am (aM p_)) (pI _ rL rL Av (by rw[aa,ce];show aM p_) (iW.mk J (cF ?_ au (I.dY (F.free tV)))))));rw[hlw,G,ai rfl];show xW i
  .intro ys Z z;let⟨rfl,Av,I⟩:=z;calc(aK L2 _ rL (bJ.of Av) ?_);rw[Ao];show q Z I
def Jk {r w:Nat}{ls:AB}(h:Blk r w ls):ls.flatten.length=r*w:=by
 rw[List.length_flatten];have:ls.map List.length=List.replicate r w:=by rw[<-h.len,List.eq_replicate_iff];show⟨qa,λb hb=>by let⟨l,hl,rfl⟩:=be.mp hb;show h.sU l hl⟩
 rw[this,List.sum_replicate_nat]
def ab0:Sp:=λvs H Q _=>∃(p:Addr) (ls:AB) (r w:Nat),vs=[.ref p]/\H p=some (.tup (Ts ls))/\Blk r w ls/\1<=r/\r<=9/\1<=w/\w<=9/\(∀l∈ls,∀c∈l,Dw c)/\∀H',aD H H'->Q (.bl true) H'
def W2 (D:aN K mg "are_rows" wK ["thing"])(gA:mg "all"=none)(gY:∃t,mg "FREE"=some (.str (S [46]) t))(B_:bW P w K mg base "is_block" 1 ["thing"] Nx)(Fb:bW P w K mg base "is_sign" 1 ["thing"] (TV K)):bW P w K mg base "are_rows" 2 ["thing"] ab0:=by
 calc D.dD Ik (λf bO A outer s H vs Q E Z h=>?_);let⟨p,ls,r,w,rfl,hp,hb,r1,r9,w1,w9,hc,q⟩:=h;let hrw:r*w<=81:=gg r9 w9;let hfl:=Jk hb;calc(aj _ (aG (bC (jA (bK B_ Z.mono rL (ak aH aq)) (ji (aQ (kh rL) qf gA jT (ak (jZ rL (jz.of Ik.nd qh) (rT (gP bp dq dr Jf (bI [] qi) (ak aH aq))) (λ_ _ _ _ _=>fH) (λ_ _ _ _ _=>(KD (d8 jq aH (uL qf gY) (bM _)) (ji (bK Fb Z.mono rL (ak aH aq)))))) aq)))))) ?_);calc(aj _ rL (nG p ls r w rL hp hb r1 r9 w1 w9 (λH1 s1=>(aj true rL (cA ?_)))));calc⟨rL,aj _ rL (dw p ls rL rL (aU.of (s1 _ _ hp)) p_ (aj _ rL (λL hL=>?_)))⟩;refine xK (λi ys j=>ys=(List.replicate i true).map V.bl/\j L=some (.lst ys)/\aD H j) (cF rL au (s1.dY (s1.free hL))) ?_ ?_
 .intro i c ys j hi z;let⟨rfl,G,J⟩:=z;let Y:i<ls.flatten.length:=(ah.mp hi).1;let⟨l,hl,O⟩:=List.mem_flatten.mp (bv hi);let F:j L=some (.lst ((List.replicate i true).map V.bl))/\((List.replicate i true).map V.bl).length<sizeLine/\iW ls.flatten.length i ((List.replicate i true).map V.bl++[V.bl true]=(List.replicate (i+1) true).map V.bl/\upd j L (.lst ((List.replicate i true).map V.bl++[V.bl true])) L=some (.lst ((List.replicate i true).map V.bl++[V.bl true]))/\aD H (upd j L (.lst ((List.replicate i true).map V.bl++[V.bl true])))):=
   (cF G (by rw[aa,ce];show aM p_) (iW.mk Y (cF (xW i) au (J.dY (s1.free hL)))))
  calc(aj _ rL (aK [c] [46] rL rL (aj _ rL ?_)));rcases hc l hl c O with e|e
  .subst e;rw[ai rfl];show cA F
  .by_cases I:[c]=[46]
   .rw[ai I];show cA F
   .rw[ag I];calc bR (aj _ rL (.inr (aX [c] rL (by show 1<=1000;decide) ?_)));rw[show E_ [c]=true from e];show F
 .intro ys j z;let⟨rfl,G,J⟩:=z;calc(aK L _ rL (bJ.of G) ?_);rw[Ao];show q j J
def X_:Sp:=λvs H Q _=>∃(p:Addr) (ls:AB) (r w:Nat),vs=[.ref p]/\H p=some (.tup (Ts ls))/\Blk r w ls/\1<=r/\r<=9/\1<=w/\w<=9/\(∀l∈ls,∀c∈l,Lr c)/\∀H',aD H H'->Q (.bl true) H'
def TY (D:aN K mg "are_marks" uO ["thing"])(gA:mg "all"=none)(Aw:∃t,mg "MARKS"=some (.str (S MK) t))(B_:bW P w K mg base "is_block" 1 ["thing"] Nx):bW P w K mg base "are_marks" 2 ["thing"] X_:=by
 calc D.dD Ep (λf bO A outer s H vs Q E hr h=>?_);let⟨p,ls,r,w,rfl,hp,hb,r1,r9,w1,w9,hc,q⟩:=h;let Y:r*w<=81:=gg r9 w9;let Z:=Jk hb;calc(aj _ (aG (bC (jA (bK B_ hr.mono rL (ak aH aq)) (ji (aQ (kh rL) qf gA jT (ak (jZ rL (jz.of Ep.nd qh) (rT (gP bp dq dr Jf (bI [] qi) (ak aH aq))) (λ_ _ _ _ _=>fH) (λ_ _ _ _ _=>(d8 ain aH (uL qf Aw) rL))) aq)))))) ?_);calc(aj _ rL (nG p ls r w rL hp hb r1 r9 w1 w9 (λH1 s1=>(aj true rL (cA ?_)))));calc⟨rL,aj _ rL (dw p ls rL rL (aU.of (s1 _ _ hp)) p_ (aj _ rL (λL O=>?_)))⟩;refine xK (λi ys F=>ys=(List.replicate i true).map V.bl/\F L=some (.lst ys)/\aD H F) (cF rL au (s1.dY (s1.free O))) ?_ ?_
 .intro i c ys F hi z;let⟨rfl,j,G⟩:=z;let J:i<ls.flatten.length:=(ah.mp hi).1;let⟨l,hl,I⟩:=List.mem_flatten.mp (bv hi);calc(aj _ rL (dw c MK rL rL j (by rw[aa,ce];show aM p_) (iW.mk J (cF ?_ au (G.dY (s1.free O))))));rw[ai (show c∈MK from hc l hl c I)];show xW i
 .intro ys F z;let⟨rfl,j,G⟩:=z;calc(aK L _ rL (bJ.of j) ?_);rw[Ao];show q F G
def Jl (K:W.Frag):Sp:=λvs H Q _=>∃(p:Addr) (ls:AB) (r w:Nat) (i j:Int),vs=[.ref p,.int i,.int j]/\aU K H p (Ts ls)/\Blk r w ls/\1<=r/\r<=9/\w<=9/\Q (.bl (decide (0<=i/\i<r/\0<=j/\j<w))) H
def Ri (D:aN K mg "is_cell_of" pW ["rows","row","column"])(G:mg "len"=none)(J:bW P w K mg base "is_whole" 1 ["thing"] X8):bW P w K mg base "is_cell_of" 2 ["rows","row","column"] (Jl K):=by
 calc D.dD Dv (λf bO A outer s H vs Q E I h=>?_);let⟨p,ls,r,w,i,j,rfl,hp,hb,r1,r9,w9,q⟩:=h;let O:(Ts ls).length=r:=by rw[aa,hb.len]
 let h0:0<ls.length:=by rw[hb.len];lia
 let F:ls[0].length=w:=hb.sU _ (aS _);calc(aj _ (aB (cD (QW.qt (jY (dW (cZ (bK J I.mono rL (ak bf aq)))) (jQ (dW (cZ (bK J I.mono rL (ak bG aq))))))) (aG (bC eO)) bN) (aG (bC (jA (mX qO wu aA bf (aQ bY qf G ax (ak aH aq))) (ji (mX qO wu aA bG (aQ dO qf G ax (ak (bh bD aH aA (λ_ _=>rfl)) aq)))))))) ?_);calc(aj _ rL (aj i rL (aj _ rL (bR (aj _ rL (aj j rL (aj _ rL (bR ?_))))))));calc(aj _ rL (aK _ _ rL rL (aj _ rL ?_)));by_cases h1:0<=i
 .rw[ai h1];calc cA (aj _ rL (aK p _ rL (.inr hp) (aK _ _ rL rL (aj _ rL ?_))));rw[O];by_cases h2:i<(r:Int)
  .rw[ai h2];calc cA (aj _ rL (aK _ _ rL rL (aj _ rL ?_)));by_cases h3:0<=j
   .rw[ai h3];calc cA (aj _ rL (bw p _ _ (.str (S ls[0])) rL rL hp (aP (j:=0) (nJ (by simp[h0]))) (aX _ rL (am (aM p_)) (aK _ _ rL rL ?_))));rw[F];simpa [h1,h2,h3] using q
   .rw[ag h3];calc bR ?_;simpa [h1,h2,h3] using q
  .rw[ag h2];calc bR ?_;simpa [h1,h2] using q
 .rw[ag h1];calc bR (aj _ rL (bR ?_));simpa [h1] using q
def Yb (K:W.Frag):Sp:=λvs H Q _=>∃(p b:Addr) (ls:AB) (r w:Nat) (i j:Nat),vs=[.ref p,.ref b]/\H p=some (.tup (Ts ls))/\H b=some (.tup [.int i,.int j])/\Blk r w ls/\1<=r/\r<=9/\w<=9/\i<r/\j<w/\Q (.bl true) H
def Ny (D:aN K mg "is_begin_of" qQ ["rows","thing"])(O:mg "len"=none)(I:mg "tuple"=none)(J:mg "isinstance"=none)(G:bW P w K mg base "is_cell_of" 2 ["rows","row","column"] (Jl K)):bW P w K mg base "is_begin_of" 3 ["rows","thing"] (Yb K):=by calc D.dD Nr (λf bO A outer s H vs Q E Y h=>?_);let⟨p,b,ls,r,w,i,j,rfl,hp,hb,F,r1,r9,w9,hi,Z,q⟩:=h;calc(aj _ (aG (bC (jA (aQ fU qf J aE (ak bf (ak (jj (v:=.ty "tuple") qf I c9 rL) aq))) (jA (d8 jk (aQ bY qf O ax (ak bf aq)) aA (bM _)) (ji (bK G Y.mono rL (ak aH (ak (bh bD bf aA (λ_ _=>rfl)) (ak (bh bD bf aA (λ_ _=>rfl)) aq))))))))) ?_);calc(aj _ rL (fB _ _ _ true rL (.tup hb) qh (aj true rL (cA ?_))));calc(aj _ rL (aY b _ rL (.inr (aU.of hb)) rL (aj true rL (cA ?_))));calc(aj _ rL (aj _ rL (bw b _ _ (.int i) rL rL (aU.of hb) (aP (j:=0) rL) (aj _ rL (bw b _ _ (.int j) rL rL (aU.of hb) (aP (j:=1) rL) ?_)))));calc(pK p ls r w i j rL (aU.of hp) F r1 r9 w9 ?_);rw[ai (RP p_ p_ p_ p_)];show q
def Yc:Sp:=λvs H Q _=>∃(pr pm pb:Addr) (r w:Nat) (aF aO:AB) (i j:Nat),vs=[.ref pr,.ref pm,.ref pb]/\H pr=some (.tup (Ts aF))/\H pm=some (.tup (Ts aO))/\H pb=some (.tup [.int i,.int j])/\TX r w aF aO i j/\∀H',aD H H'->Q (.bl true) H'
def W3 (D:aN K mg "is_board" wL ["rows","marks","begin"])(I:mg "len"=none)(Y:bW P w K mg base "are_rows" 2 ["thing"] ab0)(W4:bW P w K mg base "are_marks" 2 ["thing"] X_)(Rj:bW P w K mg base "is_begin_of" 3 ["rows","thing"] (Yb K)):bW P w K mg base "is_board" 4 ["rows","marks","begin"] Yc:=by
 calc D.dD WL (λf bO A outer s H vs Q E Z h=>?_);let⟨pr,pm,pb,r,w,aF,aO,i,j,rfl,G,hm,hb,B,q⟩:=h;let l1:(Ts aF).length=r:=by rw[aa,B.br.len]
 let l2:(Ts aO).length=r:=by rw[aa,B.bm.len]
 let h0:0<aF.length:=by rw[B.br.len];show B.r1
 let O:0<aO.length:=by rw[B.bm.len];show B.r1
 let w0:aF[0].length=w:=B.br.sU _ (aS _);let J:aO[0].length=w:=B.bm.sU _ (aS _);let w9:=B.w9;calc(aj _ (aB (cD (QW.qt (jY (dW (cZ (bK Y Z.mono rL (ak aH aq)))) (jQ (dW (cZ (bK W4 Z.mono rL (ak bf aq))))))) (aG (bC eO)) bN) (aB (cD (QW.qt (jY (bV Br (aQ bY qf I ax (ak bf aq)) (aQ bY qf I ax (ak aH aq)) (bM _)) (jQ (bV Br (aQ dO qf I ax (ak (bh bD bf aA (λ_ _=>rfl)) aq)) (aQ dO qf I ax (ak (bh bD aH aA (λ_ _=>rfl)) aq)) (bM _))))) (aG (bC eO)) bN) (aG (bC (bK Rj Z.mono rL (ak aH (ak bG aq))))))) ?_);calc(aj _ rL ⟨pr,aF,r,w,rL,G,B.br,B.r1,B.r9,B.w1,B.w9,B.cr,λH1 s1=>(aj _ rL (bR ?_))⟩);calc(aj _ rL ⟨pm,aO,r,w,rL,s1 _ _ hm,B.bm,B.r1,B.r9,B.w1,B.w9,B.cm,λH2 s2=>(aj _ rL (bR ?_))⟩);let F:=s1.trans s2;calc(aj _ rL (aK pm _ rL (.inr (aU.of (F _ _ hm))) (aj _ rL (aY pr _ rL (.inr (aU.of (F _ _ G))) rL (aj _ rL ?_)))));calc RK (by rw[l1,l2]) ?_;calc(aj _ rL (bw pm _ _ (.str (S aO[0])) rL rL (aU.of (F _ _ hm)) (aP (j:=0) (nJ (by simp[O]))) (aX _ rL (am (aM p_)) (aj _ rL (bw pr _ _ (.str (S aF[0])) rL rL (aU.of (F _ _ G)) (aP (j:=0) (nJ (by simp[h0]))) (iu _ rL (am (aM p_)) rL (aj _ rL ?_)))))));calc RK (by rw[w0,J]) ?_;calc(aj _ rL (aj _ rL ⟨pr,pb,aF,r,w,i,j,rL,F _ _ G,F _ _ hb,B.br,B.r1,B.r9,B.w9,B.bi,B.bj,?_⟩));show q H2 F
structure iz (K:W.Frag)(C:Addr):Prop where
 cl:Cls K C
 nr:jh K C "rows"
 nm:jh K C "marks"
 nb:jh K C "begin"
structure dh (C:Addr)(H:Hp)(p:Addr)(r w:Nat)(aF aO:AB)(i j:Nat):Prop where
 ex:∃dx pr pm pb,H p=some (.ins C dx [("rows",.ref pr),("marks",.ref pm),("begin",.ref pb)])/\H pr=some (.tup (Ts aF))/\H pm=some (.tup (Ts aO))/\H pb=some (.tup [.int i,.int j])
 ok:TX r w aF aO i j
def dh.mv {C:Addr}{H H':Hp}{p:Addr}{r w:Nat}{aF aO:AB}{i j:Nat}(B:dh C H p r w aF aO i j)(s:aD H H'):dh C H' p r w aF aO i j:=by obtain⟨⟨dx,pr,pm,pb,a,b,c,d⟩,o⟩:=B;show⟨(fB dx pr pm pb (s _ _ a) (s _ _ b) (s _ _ c) (s _ _ d)),o⟩
def Nz (C:Addr):Sp:=λvs H Q _=>∃(p dx pr pm pb:Addr) (r w:Nat) (aF aO:AB) (i j:Nat),vs=[.ref p,.ref pr,.ref pm,.ref pb]/\H p=some (.ins C dx [])/\H pr=some (.tup (Ts aF))/\H pm=some (.tup (Ts aO))/\H pb=some (.tup [.int i,.int j])/\TX r w aF aO i j/\
 ∀H',(∀b o,H b=some o->b≠p->H' b=some o)->H' p=some (.ins C dx [("rows",.ref pr),("marks",.ref pm),("begin",.ref pb)])->Q .non H'
def Rk {f C:Addr}{fd:FuncData}(F:fG K "__init__" "Board.__init__" lJ f fd)(T:iz K C)(I:bW P w K mg base "is_board" 4 ["rows","marks","begin"] Yc):cj P w K mg base dN 5 f fd ["self","rows","marks","begin"] (Nz C):=by
 calc F.dD Rc (λbO A outer s H vs Q E J h=>?_);let⟨p,dx,pr,pm,pb,r,w,aF,aO,i,j,rfl,hp,G,hm,hb,B,q⟩:=h;calc(aj _ (aB (cD (dW (cZ (bK I J.mono rL (ak bf (ak bG (ak bL aq)))))) mC bN) (aB (mD aH bf rL) (aB (mD aH bG rL) (aG (mD aH bL rL))))) ?_);calc(aj _ rL (aj _ rL (aj _ rL ⟨pr,pm,pb,r,w,aF,aO,i,j,rL,G,hm,hb,B,λH1 s1=>(aj _ rL (bR ?_))⟩)));calc(aj _ rL (aj _ rL (gW p C dx _ rL (s1 _ _ hp) T.cl T.nr (by show 0<1000;decide) ?_)));calc(aj _ rL (aj _ rL (gW p C dx _ rL au T.cl T.nm (by show 1<1000;decide) ?_)));calc(aj _ rL (aj _ rL (gW p C dx _ rL au T.cl T.nb (by show 2<1000;decide) ?_)));calc q _ (λb o e D=>?_) ?_;.rw[aZ D,aZ D,aZ D];show s1 _ _ e
 .show au
def atC (aF:AB)(r w:Nat)(i j:Int):Nat:=if 0<=i/\i<r/\0<=j/\j<w then (aF.getD i.toNat []).getD j.toNat 0 else 46
def aak (C:Addr):Sp:=λvs H Q _=>∃(p:Addr) (r w:Nat) (aF aO:AB) (bi bj:Nat) (i j:Int),vs=[.ref p,.int i,.int j]/\dh C H p r w aF aO bi bj/\Q (.str (S [atC aF r w i j])) H
def akB {f C:Addr}{fd:FuncData}(F:fG K "at" "Board.at" oO f fd)(T:iz K C)(Z:∃t,mg "FREE"=some (.str (S [46]) t))(J:bW P w K mg base "is_cell_of" 2 ["rows","row","column"] (Jl K)):cj P w K mg base dN 3 f fd ["self","row","column"] (aak C):=by
 calc F.dD WM (λbO A outer s H vs Q E Y h=>?_);let⟨p,r,w,aF,aO,bi,bj,i,j,rfl,B,q⟩:=h;obtain⟨⟨dx,pr,pm,pb,hp,D,hm,hb⟩,O⟩:=B;let w9:=O.w9;calc(aj _ (aG (bC (oK (cZ (bK J Y.mono rL (ak (bZ aH rL) (ak bf (ak bG aq))))) (bh Bt (bh bD (bZ aH rL) bf (λ_ _=>rfl)) bG (λ_ _=>rfl)) (uL qf Z)))) ?_);calc(aj _ rL (cT p C dx _ _ rL hp T.cl T.nr rL (aj _ rL (aj _ rL (pK pr aF r w i j rL (aU.of D) O.br O.r1 O.r9 O.w9 (aj _ rL ?_))))));by_cases h:0<=i/\i<r/\0<=j/\j<w
 .rw[ai h];let e:atC aF r w i j=(aF.getD i.toNat []).getD j.toNat 0:=if_pos h;rw[e]at q;obtain⟨i,rfl⟩:∃k:Nat,i=k:=⟨i.toNat,p_⟩
  obtain⟨j,rfl⟩:∃k:Nat,j=k:=⟨j.toNat,p_⟩
  rw[eh,eh]at q;let hi:i<aF.length:=by rw[O.br.len];lia
  let G:aF[i]?=some (aF.getD i []):=by rw[ay,ac hi];rfl
  let hw:(aF.getD i []).length=w:=O.br.sU _ (bv G);let I:(aF.getD i [])[j]?=some ((aF.getD i []).getD j 0):=by rw[ay (l:=aF.getD i []),ac p_];rfl
  refine cA (aj _ rL (cT p C dx _ _ rL hp T.cl T.nr rL (aj _ rL (bw pr _ _ _ rL rL (aU.of D) (aP (nJ G)) (aj _ rL (eG _ _ _ rL rL (am (aM p_)) (aP I) q))))))
 .rw[ag h];let e:atC aF r w i j=46:=if_neg h;rw[e]at q;show bR q
def isFree (aF:AB):Bool:=aF.flatten.all λc=>decide ([c]=[46])
def T3 (C:Addr):Sp:=λvs H Q _=>∃(p:Addr) (r w:Nat) (aF aO:AB) (bi bj:Nat),vs=[.ref p]/\dh C H p r w aF aO bi bj/\∀H',aD H H'->Q (.bl (isFree aF)) H'
def aal {f C:Addr}{fd:FuncData}(F:fG K "is_free" "Board.is_free" ju f fd)(T:iz K C)(gA:mg "all"=none)(gY:∃t,mg "FREE"=some (.str (S [46]) t)):cj P w K mg base dN 1 f fd ["self"] (T3 C):=by
 calc F.dD xR (λbO A outer s H vs Q E hr h=>?_);let⟨p,r,w,aF,aO,bi,bj,rfl,B,q⟩:=h;obtain⟨⟨dx,pr,pm,pb,hp,I,hm,hb⟩,O⟩:=B;let Z:r*w<=81:=gg O.r9 O.w9;let hfl:=Jk O.br;calc(aj _ (aG (bC (aQ (kh rL) qf gA jT (ak (jZ rL (jz.of xR.nd qh) (rT (gP bp dq dr Jf (bI [] qi) (ak (bZ aH rL) aq))) (λ_ _ _ _ _=>fH) (λ_ _ _ _ _=>(d8 jq aH (uL qf gY) (bM _)))) aq)))) ?_);calc⟨rL,aj _ rL (cT p C dx _ _ rL hp T.cl T.nr rL (dw pr aF rL rL (aU.of I) p_ (aj _ rL (λL Y=>?_))))⟩;refine xK (λi ys D=>ys=((aF.flatten.take i).map λc=>decide ([c]=[46])).map V.bl/\D L=some (.lst ys)/\aD H D) (cF rL au (aD.upd Y)) ?_ ?_
 .intro i c ys D hi z;let⟨rfl,j,G⟩:=z;let J:i<aF.flatten.length:=(ah.mp hi).1;calc(aj _ rL (dw [c] [46] rL rL j ?_ (iW.mk J (cF ?_ au (G.dY Y)))));.rw[aa,aa,ap];show aM p_
  .rw[de,hi];simp
 .intro ys D z;let⟨rfl,j,G⟩:=z;rw[cz]at j;calc(aK L _ rL (bJ.of j) ?_);let e:((aF.flatten.map λc=>decide ([c]=[46])).all id)=isFree aF:=by
   unfold isFree;rw[List.all_map];rfl
  rw[e];show q D G
def RX (aF:AB)(j:Nat):List Nat:=aF.map λl=>l.getD j 0
def lineOf (aF:AB)(i j:Nat)(way:Int):List Nat:=if way=0 then aF.getD i [] else RX aF j
def placeOf (i j:Nat)(way:Int):Nat:=if way=0 then j else i
def afr:Sp:=λvs H Q _=>∃(p:Addr) (aF:AB) (r w j:Nat),vs=[.ref p,.int j]/\H p=some (.tup (Ts aF))/\Blk r w aF/\r<=9/\w<=9/\j<w/\∀H',aD H H'->Q (.str (S (RX aF j))) H'
def NK (D:aN K mg "column_text" qR ["rows","column"]):bW P w K mg base "column_text" 1 ["rows","column"] afr:=by
 calc D.dD Ak (λf bO A outer s H vs Q E hr h=>?_);let⟨p,aF,r,w,j,rfl,hp,hb,r9,w9,hj,q⟩:=h;calc(aj _ (aG (bC (gP bp dq dr rC (bI [] qi) (ak (jZ rL (jz.of Ak.nd qh) (iI aH) (λ_ _ _ _ _=>fH) (λ_ _ _ _ _=>(bh Bt aH bG (λ_ _=>rfl)))) aq)))) ?_);let Y:(Ts aF).length=r:=by rw[aa,hb.len]
 refine⟨rL,aj _ rL (aX p rL ⟨_,aU.of hp⟩ (λL O=>rm (xs:=Ts aF) (λi ys G=>ys=Ts (ones ((aF.take i).map λl=>l.getD j 0))/\G L=some (.lst ys)/\aD H G) (cF rL au (aD.upd O)) (λi ys G _ h=>aU.of (h.2.2 _ _ hp)) ?_ ?_))⟩
 .intro i x ys G hi z;let⟨rfl,F,I⟩:=z;let⟨l,hl,rfl⟩:=xV hi;let J:i<(Ts aF).length:=(ah.mp hi).1;let Z:l.length=w:=hb.sU _ (bv hl);calc(aj _ rL (aj _ rL (K8 l _ (l.getD j 0) rL rL (am (aM p_)) ?_ F ?_ (iW.mk J (cF ?_ au (I.dY O))))));.show aP (by rw[ay,ac p_];rfl)
  .rw[aa,aa,aa,ap];show aM p_
  .rw[Nv,abZ,de,hl];simp
 .intro ys G z;let⟨rfl,F,I⟩:=z;rw[Y,<-hb.len,cz]at F;calc(dw L _ rL rL (bJ.of F) ?_ ?_);.rw[nH,aa,hb.len];lia
  .rw[nH];show q G I
def wV {r w:Nat}{aF:AB}(hb:Blk r w aF){i j:Nat}(hi:i<r){way:Int}:(lineOf aF i j way).length=if way=0 then w else r:=by
 unfold lineOf;by_cases h:way=0
 .rw[if_pos h,if_pos h,ay,ac (by rw[hb.len];show hi)];show hb.sU _ (aS _)
 .rw[if_neg h,if_neg h];unfold RX;rw[aa,hb.len]
def rH (l:List Nat):(jd l).length<=l.length:=by unfold jd;rw[List.length_reverse];show bE (List.takeWhile_prefix _).length_le (by rw[List.length_reverse];show al _)
def yU (l:List Nat):(jM l).length<=l.length:=(List.takeWhile_prefix _).length_le
noncomputable def ad2 (i j:Nat)(way:Int)(l:List Nat):List V:=if way=0 then [.int i,.int ((j:Int)-(jd (l.take j)).length),.str (S (jd (l.take j)++jM (l.drop j)))] else [.int ((i:Int)-(jd (l.take i)).length),.int j,.str (S (jd (l.take i)++jM (l.drop i)))]
def afs (C:Addr):Sp:=λvs H Q _=>∃(p:Addr) (r w:Nat) (aF aO:AB) (bi bj i j:Nat) (way:Int),vs=[.ref p,.int i,.int j,.int way]/\dh C H p r w aF aO bi bj/\i<r/\j<w/\(way=0\/way=1)/\
 ∀(t:Addr) (H':Hp),aD H H'->H t=none->H' t=some (.tup (ad2 i j way (lineOf aF i j way)))->Q (.ref t) H'
def aiR {f C:Addr}{fd:FuncData}(F:fG K "run" "Board.run" mZ f fd)(T:iz K C)(bH:mg "len"=none)(gY:∃t,mg "FREE"=some (.str (S [46]) t))(Rm:bW P w K mg base "column_text" 1 ["rows","column"] afr):cj P w K mg base dN 2 f fd ["self","row","column","way"] (afs C):=by
 calc F.dD n6 (λbO A outer s H vs Q E hr h=>?_);let⟨p,r,w,aF,aO,bi,bj,i,j,way,rfl,B,hi,hj,alk,q⟩:=h;obtain⟨⟨dx,pr,pm,pb,hp,Y,hm,hb⟩,O⟩:=B;let r9:=O.r9;let w9:=O.w9;calc(aj _ (aB (aW (i:=4) n6.nd rL (Or.inl rL) (oK (bV jk bL aA (bM _)) (bh bD (bZ aH rL) bf (λ_ _=>rfl)) (bK Rm hr.mono rL (ak (bZ aH rL) (ak bG aq))))) (aB (aW (i:=5) n6.nd rL (Or.inl rL) (oK (bV jk bL aA (bM _)) bG bf)) (aB (aW (i:=6) n6.nd rL (Or.inl rL) (bh bD (gP bp PySem.F.slot_str_rpartition PySem.F.type_str_rpartition adK (dR qD cP fO (dX d9)) (ak (uL qf gY) aq)) aA (λ_ _=>rfl))) (aB (aW (i:=7) n6.nd rL (Or.inl rL) (aL mq gb (bh bD (gP bp PySem.F.slot_str_partition PySem.F.type_str_partition af8 (dR qD cP (dX d9) fO) (ak (uL qf gY) aq)) aA (λ_ _=>rfl)))) (aB (aW (i:=8) n6.nd rL (Or.inl rL) (aL oZ d9 (aQ dO qf bH ax (ak gb aq)))) (aG (bC (oK (bV jk bL aA (bM _)) (cL (ak bf (ak lY (ak jr aq)))) (cL (ak lY (ak bG (ak jr aq)))))))))))) ?_);let G:aF[i]?=some (aF.getD i []):=by rw[ay,ac (by rw[O.br.len];show hi)];rfl
 rcases alk with rfl|rfl
 .let D:(lineOf aF i j 0).length=w:=wV O.br hi;let el:aF.getD i []=lineOf aF i j 0:=rfl;rw[el]at G;let hz:∀l:List Nat,l.length<=100->l.length<=sizeLine:=λl h=>am (aM p_);calc(aX _ rL rL (aj _ rL (cA ?_)));calc(aj _ rL (cT p C dx _ _ rL hp T.cl T.nr rL (aj _ rL (bw pr _ _ _ rL rL (aU.of Y) (aP (nJ G)) ?_))));generalize hL:lineOf aF i j 0=l at D G ⊢;calc(aX _ rL rL (aj _ rL (cA (aj _ rL ?_))));calc(aj _ rL (aj _ rL (aj _ rL (iu l rL (hz _ p_) rL ?_))));rw[abC];calc(iu _ rL rL (by rw[ap];lia) (λp1 a1 b1 I=>?_));calc(bw p1 _ _ _ rL rL (aU.of au) (aP (j:=2) rL) ?_);let s1:aD H (upd H p1 (.tup [.str a1,.str b1,.str (S (jd (l.take j)))])):=aD.upd I;generalize upd H p1 (.tup [.str a1,.str b1,.str (S (jd (l.take j)))])=H1 at s1 ⊢;let Z:=rH (l.take j);let t2:=yU (l.drop j);rw[ap]at Z;rw[bd]at t2;calc(aj _ rL (aj _ rL (aj _ rL (aj _ rL (iu l rL (hz _ p_) rL ?_)))));rw[Ti];calc(iu _ rL rL (by rw[bd];lia) (λp2 b2 c2 J=>?_));calc(bw p2 _ _ _ rL rL (aU.of au) (aP (j:=0) rL) (aY _ _ rL rL (am (aM p_)) ?_));let s2:=s1.dY (o:=HO.tup [.str (S (jM (l.drop j))),.str b2,.str c2]) (s1.free J);generalize upd H1 p2 (HO.tup [.str (S (jM (l.drop j))),.str b2,.str c2])=H2 at s2 ⊢;calc(aj _ rL (aj _ rL (aX _ rL (hz _ p_) (aK _ _ rL rL ?_))));calc(aX _ rL rL (aj _ rL (cA ?_)));calc(aj _ rL (aj _ rL (aX _ rL (zsz 3) (λt ht=>?_))));show q t _ (s2.dY (s2.free ht)) (s2.free ht) (by rw[au,hL];rfl)
 .let D:(lineOf aF i j 1).length=r:=wV O.br hi;let el:RX aF j=lineOf aF i j 1:=rfl;let hz:∀l:List Nat,l.length<=100->l.length<=sizeLine:=λl h=>am (aM p_);calc(aX _ rL rL (aj _ rL (bR ?_)));calc(aj _ rL (cT p C dx _ _ rL hp T.cl T.nr rL (aj _ rL (wH pr aF r w j rL Y O.br r9 w9 hj (λH0 s0=>?_)))));rw[el];generalize hL:lineOf aF i j 1=l at D ⊢;calc(aX _ rL rL (aj _ rL (bR (aj _ rL ?_))));calc(aj _ rL (aj _ rL (aj _ rL (iu l rL (hz _ p_) rL ?_))));rw[abC];calc(iu _ rL rL (by rw[ap];lia) (λp1 a1 b1 I=>?_));calc(bw p1 _ _ _ rL rL (aU.of au) (aP (j:=2) rL) ?_);let s1:aD H (upd H0 p1 (.tup [.str a1,.str b1,.str (S (jd (l.take i)))])):=s0.dY (s0.free I);generalize upd H0 p1 (.tup [.str a1,.str b1,.str (S (jd (l.take i)))])=H1 at s1 ⊢;let Z:=rH (l.take i);let t2:=yU (l.drop i);rw[ap]at Z;rw[bd]at t2;calc(aj _ rL (aj _ rL (aj _ rL (aj _ rL (iu l rL (hz _ p_) rL ?_)))));rw[Ti];calc(iu _ rL rL (by rw[bd];lia) (λp2 b2 c2 J=>?_));calc(bw p2 _ _ _ rL rL (aU.of au) (aP (j:=0) rL) (aY _ _ rL rL (am (aM p_)) ?_));let s2:=s1.dY (o:=HO.tup [.str (S (jM (l.drop i))),.str b2,.str c2]) (s1.free J);generalize upd H1 p2 (HO.tup [.str (S (jM (l.drop i))),.str b2,.str c2])=H2 at s2 ⊢;calc(aj _ rL (aj _ rL (aX _ rL (hz _ p_) (aK _ _ rL rL ?_))));calc(aX _ rL rL (aj _ rL (bR ?_)));calc(aj _ rL (aj _ rL (aX _ rL (zsz 3) (λt ht=>?_))));show q t _ (s2.dY (s2.free ht)) (s2.free ht) (by rw[au,hL];rfl)
abbrev cg:=Nat×Nat×Nat
def xX (H:Hp)(a:Addr)(t:cg):Prop:=H a=some (.tup [.int t.1,.int t.2.1,.str (S [t.2.2])])
noncomputable def tO (H:Hp)(a:Addr):cg:=match H a with| some (.tup [.int x,.int y,.str z])=>(x.toNat,y.toNat,z.cps.toList.headD 0)| _=>(0,0,0)
def Ls {H:Hp}{a:Addr}{t:cg}(h:xX H a t):tO H a=t:=by unfold tO;rw[show H a=_ from h];rfl
structure fV (H:Hp)(as:List Addr)(ts:List cg):Prop where
 at_:∀a∈as,xX H a (tO H a)
 eq:as.map (tO H)=ts
def fV.Lw {H H':Hp}{as:List Addr}{ts:List cg}(k:∀a xs,H a=some (.tup xs)->H' a=some (.tup xs))(h:fV H as ts):fV H' as ts:=by let e:∀a∈as,tO H' a=tO H a:=λa ha=>Ls (k a _ (h.at_ a ha));show⟨λa ha=>by rw[e a ha];show k a _ (h.at_ a ha),by rw[<-h.eq];show fz e⟩
def fV.mv {H H':Hp}{as:List Addr}{ts:List cg}(k:aD H H')(h:fV H as ts):fV H' as ts:=h.Lw λa xs e=>k a _ e
def fV.snoc {H:Hp}{as:List Addr}{ts:List cg}{a:Addr}{t:cg}(h:fV H as ts)(ha:xX H a t):fV H (as++[a]) (ts++[t]):=by
 calc⟨λb hb=>?_,by rw[bu,h.eq,List.map_singleton,Ls ha]⟩;rcases bq.mp hb with z|z;.show h.at_ b z
 .rw[a_.mp z,Ls ha];show ha
def fV.nil {H:Hp}:fV H [] []:=⟨λa h=>by simp at h,rL⟩
def fV.len {H:Hp}{as:List Addr}{ts:List cg}(h:fV H as ts):as.length=ts.length:=by rw[<-h.eq,aa]
def fV.get {H:Hp}{as:List Addr}{ts:List cg}(h:fV H as ts){i:Nat}(hi:i<as.length):∃t,ts[i]?=some t/\xX H as[i] t:=(aj (tO H as[i]) (by rw[<-h.eq];simp[hi]) (h.at_ _ (aS _)))
def setAt (R:AB)(i j z:Nat):List (List Nat):=R.set i ((R.getD i []).set j z)
def fD (R:AB)(ts:List cg):List (List Nat):=ts.foldl (λR t=>setAt R t.1 t.2.1 t.2.2) R
def Yd {r w:Nat}{R:AB}(h:Blk r w R){i j z:Nat}(hi:i<r):Blk r w (setAt R i j z):=by
 calc⟨by unfold setAt;rw[eW,h.len],λl hl=>?_⟩;rcases fE hl with y|y;.show h.sU l y
 .rw[y,eW,ay,ac (by rw[h.len];show hi)];show h.sU _ (aS _)
def ags {r w:Nat}{R:AB}(h:Blk r w R){i j z:Nat}(hi:i<r){F:Nat->Prop}(hp:∀l∈R,∀c∈l,F c)(hz:F z):∀l∈setAt R i j z,∀c∈l,F c:=λl hl c D=>by
 rcases fE hl with y|y;.show hp l y c D
 .rw[y]at D;rcases fE D with u|u
  .rw[ay,ac (by rw[h.len];show hi)]at u;show hp _ (aS _) c u
  .rw[u];show hz
def inB (r w:Nat)(t:cg):Prop:=t.1<r/\t.2.1<w/\rG t.2.2
theorem uh {r w:Nat}:∀{ts:List cg} {R:AB},Blk r w R->(∀t∈ts,inB r w t)->Blk r w (fD R ts)
 | [],_,h,_=>h
 | t::ts,_,h,k=>uh (ts:=ts) (Yd h (k t cq).1) λx hx=>k x (bz _ hx)
theorem Jm {r w:Nat}:∀{ts:List cg} {R:AB},Blk r w R->(∀t∈ts,inB r w t)->(∀l∈R,∀c∈l,Dw c)->∀l∈fD R ts,∀c∈l,Dw c
 | [],_,_,_,g=>g
 | t::ts,_,h,k,g=>Jm (ts:=ts) (Yd h (k t cq).1) (λx hx=>k x (bz _ hx)) (ags h (k t cq).1 g (.inr (k t cq).2.2))
def ad3 {r w:Nat}{aF aO:AB}{bi bj:Nat}(B:TX r w aF aO bi bj){ts:List cg}(k:∀t∈ts,inB r w t):TX r w (fD aF ts) aO bi bj:=⟨B.r1,B.r9,B.w1,B.w9,uh B.br k,B.bm,Jm B.br k B.cr,B.cm,B.bi,B.bj⟩
def ab1 (R:AB)(ts:List cg)(t:cg):fD R (ts++[t])=setAt (fD R ts) t.1 t.2.1 t.2.2:=by unfold fD;rw[List.foldl_append];rfl
structure jJ (H0 H:Hp)(ps:List Addr)(R:AB):Prop where
 len:ps.length=R.length
 nd:ps.Nodup
 fr:∀p∈ps,H0 p=none
 at_:∀(i:Nat) (h:i<ps.length),H ps[i]=some (.lst (Ts (ones (R.getD i []))))
def jJ.mv {H0 H H':Hp}{ps:List Addr}{R:AB}(h:jJ H0 H ps R)(k:∀p∈ps,H' p=H p):jJ H0 H' ps R:=⟨h.len,h.nd,h.fr,λi hi=>by rw[k _ (aS _)];show h.at_ i hi⟩
def jJ.mvS {H0 H H':Hp}{ps:List Addr}{R:AB}(h:jJ H0 H ps R)(k:aD H H'):jJ H0 H' ps R:=⟨h.len,h.nd,h.fr,λi hi=>k _ _ (h.at_ i hi)⟩
def jJ.snoc {H0 H:Hp}{ps:List Addr}{R:AB}(h:jJ H0 H ps R){p:Addr}{l:List Nat}(hn:p∉ps)(h0:H0 p=none)(hp:H p=some (.lst (Ts (ones l)))):jJ H0 H (ps++[p]) (R++[l]):=by
 refine⟨by simp[h.len],?_,λx hx=>?_,λi hi=>?_⟩
 .rw[List.nodup_append];calc(cF h.nd qa (λa ha b hb=>?_));rw[a_.mp hb];show λz=>hn (z ▸ ha)
 .rcases bq.mp hx with z|z;.show h.fr x z
  .rw[a_.mp z];show h0
 .by_cases c:i<ps.length;.rw[List.getElem_append_left c,h.at_ i c,ay,ay,di (by rw[<-h.len];show c)]
  .let e:i=ps.length:=by simp at hi;lia
   subst e;rw[List.getElem_append_right (al _)];simp only[kS,List.getElem_singleton];rw[hp,ay,df (by rw[h.len];show al _),h.len];simp
def jJ.set {H0 H:Hp}{ps:List Addr}{R:AB}(h:jJ H0 H ps R){i j z:Nat}(hi:i<ps.length):jJ H0 (upd H ps[i] (.lst ((Ts (ones (R.getD i []))).set j (.str (S [z]))))) ps (setAt R i j z):=by
 let e:(Ts (ones (R.getD i []))).set j (.str (S [z]))=Ts (ones ((R.getD i []).set j z)):=by show List.set (((R.getD i []).map λc=>[c]).map λl=>V.str (S l)) j (V.str (S [z]))=((List.set (R.getD i []) j z).map λc=>[c]).map λl=>V.str (S l);rw[nc,nc]
 rw[e];calc⟨by unfold setAt;rw[eW];show h.len,h.nd,h.fr,λk D=>?_⟩;by_cases c:k=i
 .subst c;rw[au];unfold setAt;rw[ay (l:=R.set _ _),jI (by rw[<-h.len];show hi)];rfl
 .rw[aZ (λz=>c ((List.getElem_inj h.nd).mp z)),h.at_ k D];unfold setAt;rw[ay (l:=R.set _ _),kr (λz=>c z.symm),<-ay]
def Fd (C:Addr):Sp:=λvs H Q _=>∃(p t:Addr) (as:List Addr) (ts:List cg) (r w:Nat) (aF aO:AB) (bi bj:Nat),vs=[.ref p,.ref t]/\dh C H p r w aF aO bi bj/\H t=some (.tup (as.map V.ref))/\fV H as ts/\(∀t∈ts,inB r w t)/\
 ∀(j:Addr) (H':Hp),aD H H'->dh C H' j r w (fD aF ts) aO bi bj->Q (.ref j) H'
def agt {f C f0:Addr}{fd fK:FuncData}(F:fG K "laid" "Board.laid" lK f fd)(T:iz K C)(i_:mg "list"=none)(cQ:mg "tuple"=none)(Jo:mg "Board"=some (.ref C))(NP:Mk K C f0)(NQ:cj P w K mg base dN 5 f0 fK ["self","rows","marks","begin"] (Nz C))(NT:bT K fK ["self","rows","marks","begin"] []):cj P w K mg base dN 8 f fd ["self","laying"] (Fd C):=by
 calc F.dD mz (λbO A outer s H vs Q E hr h=>?_);let⟨p,t,as,ts,r,w,aF,aO,bi,bj,rfl,BA,ht,hL,fJ,q⟩:=h;obtain⟨⟨dx,pr,pm,pb,hx,hpr,hpm,hpb⟩,B⟩:=BA;let r9:=B.r9;let w9:=B.w9;let J:=B.br;calc(aj _ (aB (XR (ix:=2) (ns:=["row"]) mz.nd rL (Or.inl rL) rL (jX.of ["self","laying","lines",".3","column","sign"] [3] qh) (iI (bZ aH rL)) (λ_ _ _ _ _=>(Ng (show (["row","self","laying","lines",".3","column","sign"]:List Str).Nodup by decide +kernel) rL qf)) (λ_ _ _ _ _=>fH) (λ_ _ _ _ _=>(f9 (oM rL) qf i_ ft (ak aH aq)))) (aB (gG cE rL (iI bf) (qI rL (cG (bQ (i:=3) mz.nd rL (Or.inl rL)) (cG (bQ (i:=4) mz.nd rL (Or.inl rL)) (cG (bQ (i:=5) mz.nd rL (Or.inl rL)) o9)))) (aG (vf d9 (S_ (bh gH bG bL (λ_ _=>rfl)) cP set_list)))) (aG (bC (rD NP NQ hr.mono rL Jo NT .nil eY (ak (f9 jx qf cQ c9 (ak (jZ rL (jz.of mz.nd qh) (nW bG) (λ_ _ _ _ _=>fH) (λ_ _ _ _ _=>(Tg K bp dq dr (Jg K) (bI [] qi) (ak aH aq)))) aq)) (ak (bZ aH rL) (ak (bZ aH rL) aq)))))))) ?_);refine(aj _ rL (cT p C dx _ _ rL hx T.cl T.nr rL (aX pr rL ⟨_,aU.of hpr⟩ (λM hM=>KJ (f:=j4 [3] 0) (tt:=mW) (xs:=Ts aF) (λi ys H2=>∃ps:List Addr,ys=ps.map V.ref/\H2 M=some (.lst ys)/\aD H H2/\jJ H H2 ps (aF.take i)/\M∉ps)
  (pI [] rL au (aD.upd hM) ⟨qa,pV,λp h=>by simp at h,λi h=>by simp at h⟩ qa) (λi ys H2 _ h=>by let⟨_,_,_,G,_⟩:=h;show aU.of (G _ _ hpr)) ?_ ?_))))
 .intro i x ys H2 hi z;let⟨ps,rfl,Lx,G,Ye,nM⟩:=z;let⟨l,hl,rfl⟩:=xV hi;let hil:i<(Ts aF).length:=(ah.mp hi).1;let hlw:l.length=w:=J.sU _ (bv hl);let qL:(Ts aF).length=r:=by rw[aa,J.len]
  let hpl:ps.length<=9:=by rw[Ye.len,ap,J.len];lia
  calc afp (aj _ rL (aX l rL p_ (λc hc=>?_)));let ncM:M≠c:=λz=>by rw[<-z,Lx]at hc;cases hc
  let ncp:c∉ps:=λz=>by let⟨k,hk,e⟩:=ir.mp z;have:=Ye.at_ k hk;rw[e,hc]at this;cases this
  refine(cF (by rw[aZ ncM];show Lx) (by rw[aa];show aM p_) (iW.mk hil (pI (ps++[c]) qa au ((G.dY (G.free hc)).dY hM) ?_ ?_)))
  .rw[show aF.take (i+1)=aF.take i++[l] by rw[de,hl];rfl];calc jJ.mv ((Ye.mvS (aD.upd hc)).snoc ncp (G.free hc) au) λy hy=>aZ λz=>?_;rcases bq.mp hy with u|u
   .show nM (z ▸ u)
   .show ncM (z.symm.trans (a_.mp u))
  .intro z;rcases bq.mp z with u|u;.show nM u
   .show ncM (a_.mp u)
 .intro ys H2 z;let⟨ps,rfl,Lx,G,Ye,nM⟩:=z;rw[cv (by rw[aa];show al _)]at Ye;refine(aj _ rL (aX t rL ⟨_,aU.of (G _ _ ht)⟩ (G7 (K:=K) (a:=t) (xs:=as.map V.ref) (λi σ H3=>∃v3 v4 v5:Option V,σ=[some (.ref p),some (.ref t),some (.ref M),v3,v4,v5]/\aD H H3/\H3 M=some (.lst (ps.map V.ref))/\jJ H H3 ps (fD aF (ts.take i)))
   (cY none none none rL G Lx Ye) (λi σ H3 _ h=>by let⟨_,_,_,_,G,_⟩:=h;show aU.of (G _ _ ht)) ?_ ?_)))
  .intro i x σ H3 j z;let⟨v3,v4,v5,rfl,D,Im,I⟩:=z;rw[ck]at j;let hi:i<as.length:=by
    rcases Nat.lt_or_ge i as.length with z|z;.show z
    .rw[List.getElem?_eq_none z]at j;cases j
   rw[ac hi]at j;let j:V.ref as[i]=x:=bo j;subst j;let⟨u,eu,hU⟩:=hL.get hi;let hum:=bv eu;let⟨u1,u2,u3⟩:=fJ u hum;let hb3:Blk r w (fD aF (ts.take i)):=uh J λy hy=>fJ y (c_ hy);let hpl:ps.length=r:=by rw[I.len,hb3.len]
   let hps:u.1<ps.length:=p_;calc(aY (as[i]) _ rL (aU.of (D _ _ hU)) rL (dM _ _ rL (dM _ _ rL (aK _ _ rL rL ?_))));refine(aj _ rL (aj _ rL (aj _ rL (bw M _ _ (.ref ps[u.1]) rL rL (bJ.of Im) (aP (by simp[hps])) (aj _ rL (bw (ps[u.1]) _ _ u.2.1 rL rL (I.at_ u.1 hps) ?_ ?_))))))
   .have:((fD aF (ts.take i)).getD u.1 []).length=w:=by
     rw[ay,ac (by rw[hb3.len];show u1)];show hb3.sU _ (aS _)
    unfold Du;rw[aa,aa,this,if_pos p_,if_pos p_];congr 1
   .refine(cY _ _ _ rL (D.dY (I.fr _ (aS _))) ?_ ?_)
    .let ne:M≠ps[u.1]:=λz=>nM (by rw[z];show aS _)
     rw[aZ ne];show Im
    .rw[show fD aF (ts.take (i+1))=setAt (fD aF (ts.take i)) u.1 u.2.1 u.2.2 by rw[de,eu];show ab1 _ _ _];show I.set hps
  .intro σ H3 z;let⟨v3,v4,v5,rfl,D,Im,I⟩:=z;rw[cv (by rw[aa,hL.len];show al _)]at I;let B':=ad3 B fJ;let hpl:ps.length=r:=by rw[I.len,B'.br.len]
   refine(aj _ rL (aX M rL ⟨_,bJ.of Im⟩ (λN hN=>abu (xs:=ps.map V.ref) (λi ys Z=>ys=Ts ((fD aF ts).take i)/\Z N=some (.lst ys)/\aD H3 Z) (cF rL au (aD.upd hN)) (λi ys Z _ h=>bJ.of (h.2.2 _ _ Im)) ?_ ?_)))
   .intro i x ys Z hi z;let⟨rfl,O,Ly⟩:=z;rw[ck]at hi;let Y:i<ps.length:=by
     rcases Nat.lt_or_ge i ps.length with z|z;.show z
     .rw[List.getElem?_eq_none z]at hi;cases hi
    rw[ac Y]at hi;let hi:V.ref ps[i]=x:=bo hi;subst hi;let Io:i<(fD aF ts).length:=by rw[<-I.len];show Y
    let hg:(fD aF ts).getD i []=(fD aF ts)[i]:=by rw[ay,ac Io];rfl
    let hw:(fD aF ts)[i].length=w:=B'.br.sU _ (aS _);let hat:=I.at_ i Y;rw[hg]at hat;calc⟨rL,aj _ rL (K5 (ps[i]) (ones (fD aF ts)[i]) rL rL (bJ.of (Ly _ _ hat)) (by rw[nH,hw];lia) O ?_ (iW.mk (by rw[aa];show Y) (cF ?_ au (Ly.dY hN))))⟩;.rw[aa,ap];show aM p_
    .rw[nH,Nv,de,ac Io];rfl
   .intro ys Z z;let⟨rfl,O,Ly⟩:=z;rw[cv (by rw[aa,I.len];show al _)]at O;calc(dM N _ rL (.inl ⟨bJ.of O,λl hl=>?_⟩));let s5:=(D.trans Ly).dY (o:=.tup (Ts (fD aF ts))) ((D.trans Ly).free hl);calc(aj _ rL (cT p C dx _ _ rL (s5 _ _ hx) T.cl T.nm rL (aj _ rL (cT p C dx _ _ rL (s5 _ _ hx) T.cl T.nb rL (λx dy nx ndx xM=>?_)))));let s6:aD (upd Z l (.tup (Ts (fD aF ts)))) (upd (upd (upd Z l (.tup (Ts (fD aF ts)))) dy (HO.own x)) x (HO.ins C dy [])):=λb o e=>by rw[aZ (bF e nx),aZ (bF e ndx)];show e
    calc⟨x,dy,l,pm,pb,r,w,fD aF ts,aO,bi,bj,rL,au,s6 _ _ au,s6 _ _ (s5 _ _ hpm),s6 _ _ (s5 _ _ hpb),B',λH5 kp hx5=>⟨rL,?_⟩⟩;let s7:aD (upd Z l (.tup (Ts (fD aF ts)))) H5:=λb o e=>kp b o (s6 b o e) (bF e nx);show q x H5 (s5.trans s7) ⟨(fB dy l pm pb hx5 (s7 _ _ au) (s7 _ _ (s5 _ _ hpm)) (s7 _ _ (s5 _ _ hpb))),B'⟩
def Hq (ts:List cg):Prop:=ts.Pairwise (λa b=>a.1=b.1)\/ts.Pairwise (λa b=>a.1<b.1)
def aam {H:Hp}{M:Addr}{ys zs:List V}(j:H M=some (.lst ys)):∀a xs,H a=some (.tup xs)->upd H M (.lst zs) a=some (.tup xs):=λa xs e=>by
 let ne:a≠M:=λz=>by rw[z,j]at e;cases e
 rw[aZ ne];show e
abbrev lO:=Nat×Nat×Nat×List Nat
def ab2 (H:Hp)(a:Addr)(q:lO):Prop:=H a=some (.tup [.int q.1,.int q.2.1,.int q.2.2.1,.str (S q.2.2.2)])
noncomputable def um (R:AB)(i j wy:Nat):lO:=(if wy=0 then i else i-(jd ((lineOf R i j (wy:Int)).take i)).length,if wy=0 then j-(jd ((lineOf R i j (wy:Int)).take j)).length else j,wy,jd ((lineOf R i j (wy:Int)).take (placeOf i j (wy:Int)))++jM ((lineOf R i j (wy:Int)).drop (placeOf i j (wy:Int))))
structure jg {α:Type}(enc:α->List V)(H:Hp)(as:List Addr)(xs:List α):Prop where
 len:as.length=xs.length
 at_:∀(i:Nat) (a:Addr) (x:α),as[i]?=some a->xs[i]?=some x->H a=some (.tup (enc x))
def jg.Lw {α:Type}{enc:α->List V}{H H':Hp}{as:List Addr}{xs:List α}(k:∀a ys,H a=some (.tup ys)->H' a=some (.tup ys))(h:jg enc H as xs):jg enc H' as xs:=⟨h.len,λi a x h1 h2=>k _ _ (h.at_ i a x h1 h2)⟩
def jg.mv {α:Type}{enc:α->List V}{H H':Hp}{as:List Addr}{xs:List α}(k:aD H H')(h:jg enc H as xs):jg enc H' as xs:=h.Lw λa ys e=>k a _ e
def jg.nil {α:Type}{enc:α->List V}{H:Hp}:jg enc H [] []:=⟨rL,λi a x h=>by simp at h⟩
def jg.one {α:Type}{enc:α->List V}{H:Hp}{a:Addr}{x:α}(h:H a=some (.tup (enc x))):jg enc H [a] [x]:=⟨rL,λi b y h1 h2=>by
 match i,h1,h2 with
 | 0,h1,h2=>have e1:a=b:=bo h1;let e2:x=y:=bo h2;rw[<-e1,<-e2];show h
 | n+1,h1,h2=>show absurd h1 qa⟩
def jg.app {α:Type}{enc:α->List V}{H:Hp}{as bs:List Addr}{xs ys:List α}(h:jg enc H as xs)(g:jg enc H bs ys):jg enc H (as++bs) (xs++ys):=by
 calc⟨by rw[av,av,h.len,g.len],λi a x h1 h2=>?_⟩;by_cases c:i<as.length
 .rw[di c]at h1;rw[di (by rw[<-h.len];show c)]at h2;show h.at_ i a x h1 h2
 .rw[df p_]at h1;rw[df (by rw[<-h.len];lia),<-h.len]at h2;show g.at_ _ a x h1 h2
def jg.get {α:Type}{enc:α->List V}{H:Hp}{as:List Addr}{xs:List α}(h:jg enc H as xs){i:Nat}(hi:i<as.length):∃x,xs[i]?=some x/\H as[i]=some (.tup (enc x)):=by
 let hx:i<xs.length:=by rw[<-h.len];show hi
 show(aj (xs[i]) (ac hx) (h.at_ i _ _ (ac hi) (ac hx)))
abbrev QL:=jg (λq:lO=>[V.int q.1,V.int q.2.1,V.int q.2.2.1,V.str (S q.2.2.2)])
abbrev AL3:=jg (λq:Nat×Nat×Nat=>[V.int q.1,V.int q.2.1,V.int q.2.2])
def ou (ts:List cg):Nat:=if ts.head?.map (·.1)=ts.getLast?.map (·.1) then 0 else 1
noncomputable def Ca (ts:List cg):List (Nat×Nat×Nat):=(ts.take 1).map (λt=>(t.1,t.2.1,ou ts))++ts.map λt=>(t.1,t.2.1,1-ou ts)
def qd (R:AB)(a:Nat×Nat×Nat):lO:=um R a.1 a.2.1 a.2.2
def Lz (q:lO):Bool:=decide (1<q.2.2.2.length)
def jU (aF:AB)(ts:List cg):List lO:=((Ca ts).map (qd (fD aF ts))).filter Lz
def ab3 (ts:List cg):ou ts<=1:=by unfold ou;split <;> decide
def Jp {r w:Nat}{R:AB}(hb:Blk r w R)(r9:r<=9)(w9:w<=9){i j wy:Nat}(hi:i<r):(um R i j wy).2.2.2.length<=20:=by
 let D:=wV hb hi (j:=j) (way:=(wy:Int));let F:(lineOf R i j (wy:Int)).length<=9:=by rw[D];split <;> assumption
 show (jd _++jM _).length<=20;let a1:=rH ((lineOf R i j (wy:Int)).take (placeOf i j (wy:Int)));let a2:=yU ((lineOf R i j (wy:Int)).drop (placeOf i j (wy:Int)));rw[ap]at a1;rw[bd]at a2;rw[av];lia
def ab4 {ts:List cg}(h:0<ts.length):ou ts=if ts[0].1=ts[ts.length-1].1 then 0 else 1:=by unfold ou;rw[List.head?_eq_getElem?,oP,ac h,ac p_];simp only[kP,Option.some.injEq]
def jV {H:Hp}{as:List Addr}{ts:List cg}(j:fV H as ts){i:Nat}(hi:i<ts.length):∃(h:i<as.length),H as[i]=some (.tup [.int ts[i].1,.int ts[i].2.1,.str (S [ts[i].2.2])]):=by
 let h:i<as.length:=by rw[j.len];show hi
 let⟨t,e,ht⟩:=j.get h;rw[ac hi]at e;let e:=bo e;rw[<-e]at ht;show⟨h,ht⟩
def agu {as:List Addr}(h:0<as.length):rO (as.map V.ref) (-1)=some (.ref as[as.length-1]):=by
 let e:as.map V.ref=(as.take (as.length-1)).map V.ref++[V.ref as[as.length-1]]:=by rw[<-List.map_singleton,<-bu];congr 1;have:=kq (as.length-1) as;rw[gh p_,show as.length-1+1=as.length by lia,mh]at this;show this.symm
 rw[e];show Jb _ _
def ab5 {ts:List cg}(hl:Hq ts)(h0:0<ts.length):((ts.map λt=>decide (V.int (t.1:Int)=V.int (ts[0].1:Int))).all id)=decide (ou ts=0):=by
 let hd:∀a b:Nat,decide (V.int (a:Int)=V.int (b:Int))=decide (a=b):=λa b=>by
  by_cases h:a=b;.subst h;simp
  .have:¬V.int (a:Int)=V.int (b:Int):=λz=>h (by injection z with z;show oq z)
   simp[h,this]
 let j:(∀t∈ts,t.1=ts[0].1)↔ts[0].1=ts[ts.length-1].1:=by
  constructor
  .intro h;show(h _ (aS _)).symm
  .intro h t ht;let⟨i,hi,rfl⟩:=ir.mp ht;rcases hl with hl|hl
   .rw[iA]at hl;rcases kU i with z|z;.subst z;rfl
    .show(hl 0 i h0 hi z).symm
   .rw[iA]at hl;rcases kU (ts.length-1) with z|z
    .have:i=0:=by lia
     subst this;rfl
    .have:=hl 0 (ts.length-1) h0 p_ z;lia
 rw[ab4 h0,ib,fk,decide_eq_true_iff];constructor
 .intro h;rw[if_pos];calc j.mp λt ht=>?_;have:=h _ (be.mpr (aj t ht rL));rw[hd]at this;show ej this
 .intro h x hx;let⟨t,ht,rfl⟩:=be.mp hx;let D:ts[0].1=ts[ts.length-1].1:=by
   by_cases z:ts[0].1=ts[ts.length-1].1;.show z
   .rw[if_neg z]at h;cases h
  rw[hd];show ai (j.mpr D t ht)
def T4:Sp:=λvs H Q _=>∃(t:Addr) (as:List Addr) (ts:List cg),vs=[.ref t]/\H t=some (.tup (as.map V.ref))/\fV H as ts/\0<ts.length/\ts.length<=7/\Hq ts/\∀H',aD H H'->Q (.bl (decide (ou ts=0))) H'
def T6 (D:aN K mg "is_across" qK ["laying"])(gA:mg "all"=none):bW P w K mg base "is_across" 1 ["laying"] T4:=by
 calc D.dD Er (λf bO A outer s H vs Q E hr h=>?_);let⟨t,as,ts,rfl,ht,J,h0,h7,hl,q⟩:=h;let O:=J.len;calc(aj _ (aG (bC (aQ (kh rL) qf gA jT (ak (mY (ns:=["row","column","sign"]) rL (jX.of ["laying"] [] qh) (iI aH) (λ_ _ _ _ _=>(qg K rL (show (["row","column","sign","laying"]:List Str).Nodup by decide +kernel) rL rL rL qf qf qf)) (λ_ _ _ _ _=>fH) (λ_ _ _ _ _=>(d8 jk aH (bh (rE K) (bh (rE K) bL aA (λ_ _=>rfl)) aA (λ_ _=>rfl)) (bM _)))) aq)))) ?_);refine(aj _ rL (aX t rL ⟨_,aU.of ht⟩ (λN Z=>kY (K:=K) (KT:=K) (a:=t) (f:=j4 [] 0) (tt:=mW) (xs:=as.map V.ref) (λn ys G=>ys=((ts.take n).map λt=>decide (V.int (t.1:Int)=V.int (ts[0].1:Int))).map V.bl/\G N=some (.lst ys)/\aD H G)
  (cF rL au (aD.upd Z)) (λn ys G _ h=>aU.of (h.2.2 _ _ ht)) ?_ ?_)))
 .intro n x ys G hx z;let⟨rfl,Y,F⟩:=z;let⟨hn,hx⟩:=rfg hx;let I:n<ts.length:=p_;let⟨_,en⟩:=jV (J.mv F) I;let⟨g0,e0⟩:=jV (J.mv F) h0;calc wF hx.symm (aU.of en) ?_;calc(aj _ rL (aj _ rL (bw t _ _ (.ref as[0]) rL rL (aU.of (F _ _ ht)) (aP (j:=0) (by simp[g0])) (nG (as[0]) _ _ _ rL rL (aU.of e0) (aP (j:=0) rL) rL Y ?_ (iW.mk (by rw[aa];show hn) (cF ?_ au (F.dY Z)))))));.rw[aa,aa,ap];show aM p_
  .rw[show ts.take (n+1)=ts.take n++(some ts[n]).toList by rw[de,ac I],bu,bu];rfl
 .intro ys G z;let⟨rfl,Y,F⟩:=z;calc(aK N _ rL (bJ.of Y) ?_);rw[aa,O,cz,ab5 hl h0];show q G F
def ab6 {r w:Nat}{R:AB}{i j wy:Nat}(D:wy<=1):ad2 i j (wy:Int) (lineOf R i j (wy:Int))=[.int (um R i j wy).1,.int (um R i j wy).2.1,.str (S (um R i j wy).2.2.2)]:=by
 unfold ad2 um placeOf;by_cases z:wy=0
 .subst z;let a1:=rH ((lineOf R i j ((0:Nat):Int)).take j);rw[ap]at a1;rw[if_pos rfl];show [V.int (i:Int),V.int ((j:Int)-_),_]=[V.int (i:Int),V.int ((j-_:Nat):Int),_]
  rw[Int.ofNat_sub p_];rfl
 .have:wy=1:=by lia
  subst this;let a1:=rH ((lineOf R i j ((1:Nat):Int)).take i);rw[ap]at a1;rw[if_neg qc];show [V.int ((i:Int)-_),V.int (j:Int),_]=[V.int ((i-_:Nat):Int),V.int (j:Int),_]
  rw[Int.ofNat_sub p_];rfl
def Jq (C:Addr):Sp:=λvs H Q _=>∃(b t:Addr) (as:List Addr) (ts:List cg) (r w:Nat) (aF aO:AB) (bi bj:Nat),vs=[.ref b,.ref t]/\dh C H b r w aF aO bi bj/\H t=some (.tup (as.map V.ref))/\fV H as ts/\(∀t∈ts,inB r w t)/\0<ts.length/\ts.length<=7/\Hq ts/\
 ∀(T:Addr) (bs:List Addr) (H':Hp),aD H H'->H' T=some (.tup (bs.map V.ref))->QL H' bs (jU aF ts)->Q (.ref T) H'
def ab7 {C f1 f2:Addr}{dH fd2:FuncData}(D:aN K mg "formed" BP ["board","laying"])(bH:mg "len"=none)(cQ:mg "tuple"=none)(cM:iz K C)(lQ:Meth K C "laid" f1)(lR:cj P w K mg base dN 8 f1 dH ["self","laying"] (Fd C))(lU:bT K dH ["self","laying"] [])(W5:Meth K C "run" f2)(W6:cj P w K mg base dN 2 f2 fd2 ["self","row","column","way"] (afs C))(W7:bT K fd2 ["self","row","column","way"] [])(zJ:bW P w K mg base "is_across" 1 ["laying"] T4):bW P w K mg base "formed" 10 ["board","laying"] (Jq C):=by
 calc D.dD mG (λf bO A outer s H vs Q E hr h=>?_);let⟨b,t,as,ts,r,w,aF,aO,bi,bj,rfl,BA,ht,hL,fJ,h0,h7,hl,q⟩:=h;let⟨dx,_,_,_,ex,_⟩:=id BA.ex;let r9:=BA.ok.r9;let w9:=BA.ok.w9;let hal:=hL.len;let qL:=ab3 ts;calc(aj _ (aB (aW (i:=2) mG.nd rL (Or.inl rL) (nY aH cM.cl lQ lR hr.mono lU .nil eY (ak bf aq))) (aB (gU (aW (i:=3) mG.nd rL (Or.inr rL) (oK (cZ (bK zJ hr.mono rL (ak bf aq))) aA aA))) (aB (aW (i:=4) mG.nd rL (Or.inl rL) (fW (ak (cL (ak (bh bD (bh bD bf aA (λ_ _=>rfl)) aA (λ_ _=>rfl)) (ak (bh bD (bh bD bf aA (λ_ _=>rfl)) aA (λ_ _=>rfl)) (ak bL aq)))) aq))) (aB (dF (gP bS PySem.F.slot_list_extend PySem.F.type_list_extend abj cP (ak (mY (ns:=["row","column","sign"]) rL (jX.of ["board","laying","after","way","asked",".5",".6","words","along","run"] [5,6] qh) (iI bf) (λ_ _ _ _ _=>(qg K rL (show (["row","column","sign","board","laying","after","way","asked",".5",".6","words","along","run"]:List Str).Nodup by decide +kernel) rL rL rL qf qf qf)) (λ_ _ _ _ _=>fH) (λ_ _ _ _ _=>(cL (ak aH (ak bf (ak (aL oZ aA gb) aq)))))) aq))) (aB (aW (i:=7) mG.nd rL (Or.inl rL) (fW aq)) (aB (gG cE rL (nW cP) (qI rL (cG (bQ (i:=5) mG.nd rL (Or.inl rL)) (cG (bQ (i:=6) mG.nd rL (Or.inl rL)) (cG (bQ (i:=8) mG.nd rL (Or.inl rL)) o9)))) (aB (aW (i:=9) mG.nd rL (Or.inl rL) (nY bG cM.cl W5 W6 hr.mono W7 .nil eY (ak d9 (ak gb (ak lY aq))))) (aG (cD (bV G8 (aQ dO qf bH ax (ak (bh bD lZ aA (λ_ _=>rfl)) aq)) aA (bM _)) (aG (dF (gP bS dA dC jy jr (ak (cL (ak (bh bD lZ aA (λ_ _=>rfl)) (ak (bh bD lZ aA (λ_ _=>rfl)) (ak lY (ak (bh bD lZ aA (λ_ _=>rfl)) aq))))) aq)))) bN)))) (aG (bC (f9 jx qf cQ c9 (ak jr aq)))))))))) ?_);calc(aj _ rL (cY b dx _ rL ex rL (aj _ rL (Eo b t as ts r w aF aO bi bj rL BA ht hL fJ (λx1 H1 s1 B1=>?_)))));let hb':=uh BA.ok.br fJ;generalize hR:fD aF ts=R at B1 hb';refine(aj (λσ H'=>aD H1 H'/\σ=[some (.ref b),some (.ref t),some (.ref x1),some (.int (ou ts)),none,none,none,none,none,none]) ?_ ?_)
 .calc(aj _ rL (K8 t as ts rL (s1 _ _ ht) (hL.mv s1) h0 h7 hl (λH2 s2=>(aj _ rL ?_))));by_cases z:ou ts=0
  .rw[ai z];calc cA ⟨s2,?_⟩;rw[z];rfl
  .rw[ag z];calc bR ⟨s2,?_⟩;rw[show ou ts=1 by lia];rfl
 rintro σ H2 ⟨s2,rfl⟩;let s12:=s1.trans s2;let hL2:=hL.mv s12;let Qo:=s12 _ _ ht;let⟨g0,e0⟩:=jV hL2 h0;calc(aj _ rL (bw t _ _ (.ref as[0]) rL rL (aU.of Qo) (aP (j:=0) (by simp[g0])) (bw (as[0]) _ _ _ rL rL (aU.of e0) (aP (j:=0) rL) (aj _ rL (bw t _ _ (.ref as[0]) rL rL (aU.of Qo) (aP (j:=0) (by simp[g0])) (bw (as[0]) _ _ _ rL rL (aU.of e0) (aP (j:=1) rL) (aX _ rL (zsz 3) (λF ht1=>⟨zsz 1,λG Y=>?_⟩))))))));let k3:aD H2 (upd H2 F (HO.tup [.int ts[0].1,.int ts[0].2.1,.int (ou ts)])):=aD.upd ht1;let k4:=k3.dY (o:=HO.lst [.ref F]) (k3.free Y);let hA0':=k3.free Y;let n1A:F≠G:=λz=>by rw[<-z,au]at Y;cases Y
 let e1:upd (upd H2 F (HO.tup [.int ts[0].1,.int ts[0].2.1,.int (ou ts)])) G (HO.lst [.ref F]) F=some (.tup [.int ts[0].1,.int ts[0].2.1,.int (ou ts)]):=by rw[aZ n1A,au]
 let eA:upd (upd H2 F (HO.tup [.int ts[0].1,.int ts[0].2.1,.int (ou ts)])) G (HO.lst [.ref F]) G=some (.lst [.ref F]):=au;generalize upd (upd H2 F (HO.tup [.int ts[0].1,.int ts[0].2.1,.int (ou ts)])) G (HO.lst [.ref F])=H4 at k4 e1 eA ⊢;let ht4:=k4 _ _ Qo;let Av:=hL2.mv k4;let e1l:(1:Int)-(ou ts:Int)=((1-ou ts:Nat):Int):=p_;refine(aX _ rL (.inl ⟨rL,_,bJ.of eA⟩) (aj _ rL (aX t rL ⟨_,aU.of ht4⟩ (λN hN=>kY (K:=K) (KT:=K) (a:=t) (f:=j4 [5,6] 0) (tt:=mW) (xs:=as.map V.ref) (λn ys I=>∃cs:List Addr,ys=cs.map V.ref/\cs.length=n/\I N=some (.lst ys)/\aD H4 I/\AL3 I cs ((ts.take n).map λt=>(t.1,t.2.1,1-ou ts)))
  (pI [] rL rL au (aD.upd hN) jg.nil) (λn ys I _ h=>by let⟨_,_,_,_,J,_⟩:=h;show aU.of (J _ _ ht4)) ?_ ?_))))
 .intro n x ys I hx z;let⟨cs,rfl,hcl,yV,qx,LC⟩:=z;let⟨hn,hx⟩:=rfg hx;let hnt:n<ts.length:=p_;let⟨_,en⟩:=jV (Av.mv qx) hnt;calc wF hx.symm (aU.of en) ?_;calc(aj _ rL (aj _ rL (aj _ rL (aY _ _ rL rL (zsz 3) (λg hg=>?_)))));let kg:aD I (upd I g (HO.tup [.int ts[n].1,.int ts[n].2.1,.int (1-(ou ts:Int))])):=aD.upd hg;let hNg:=kg _ _ yV;calc(cF hNg (by rw[aa];show aM p_) (iW.mk (by rw[aa];show hn) (pI (cs++[g]) qa (by simp[hcl]) (by rw[au]) ((qx.trans kg).dY hN) ?_)));rw[show ts.take (n+1)=ts.take n++[ts[n]] by rw[de,ac hnt];rfl,bu];calc((LC.mv kg).app (jg.one (x:=(ts[n].1,ts[n].2.1,1-ou ts)) ?_)).Lw (aam hNg);rw[au,e1l]
 intro ys I z;let⟨cs,rfl,hcl,yV,qx,LC⟩:=z;rw[aa]at hcl;rw[aa,hal,cz]at LC;let eA5:=qx _ _ eA;calc(gW G N _ _ rL rL eA5 yV (by rw[aa,hcl];show am (aM (by simp;lia))) ?_);let ad4:AL3 (upd I G (HO.lst ([V.ref F]++cs.map V.ref))) ([F]++cs) (Ca ts):=by
  let hone:AL3 I [F] ((ts.take 1).map λt=>(t.1,t.2.1,ou ts)):=by rw[List.take_one,List.head?_eq_getElem?,ac h0];show jg.one (x:=(ts[0].1,ts[0].2.1,ou ts)) (qx _ _ e1)
  show(hone.app LC).Lw (aam eA5)
 let Z:aD H1 (upd I G (HO.lst ([V.ref F]++cs.map V.ref))):=λa o e=>by have:=(k4.trans qx) _ _ (s2 _ _ e);rw[aZ (λz=>by rw[z]at e;have:=s2 _ _ e;rw[hA0']at this;cases this)];show this
 let O:upd I G (HO.lst ([V.ref F]++cs.map V.ref)) G=some (.lst (([F]++cs).map V.ref)):=by rw[au];simp
 generalize upd I G (HO.lst ([V.ref F]++cs.map V.ref))=H6 at ad4 Z O ⊢;let aiS:=ad4.len;let hak:(Ca ts).length=1+ts.length:=by unfold Ca;rw[av,aa,aa,ap];lia
 let alm:∀n (a:Nat×Nat×Nat),(Ca ts)[n]?=some a->a.1<r/\a.2.1<w/\a.2.2<=1:=λn a ha=>by
  rcases bq.mp (bv ha) with z|z
  .let⟨u,hu,rfl⟩:=be.mp z;have:=fJ u (c_ hu);show(cF this.1 this.2.1 qL)
  .let⟨u,hu,rfl⟩:=be.mp z;have:=fJ u hu;show(cF this.1 this.2.1 (by show 1-ou ts<=1;lia))
 calc⟨zsz 0,λW hW=>?_⟩;let hW0:=Z.free hW;let nWA:G≠W:=λz=>by rw[<-z,O]at hW;cases hW
 let kW:aD H6 (upd H6 W (HO.lst [])):=aD.upd hW;refine(aj _ rL (aX G rL ⟨_,bJ.of (kW _ _ O)⟩ (mU (K:=K) (a:=G) (xs:=([F]++cs).map V.ref) (λn σ H'=>∃(v6 v7 v8 v9:Option V) (bs:List Addr),σ=[some (.ref b),some (.ref t),some (.ref x1),some (.int (ou ts)),some (.ref G),v6,v7,some (.ref W),v8,v9]/\aD H6 H'/\H' W=some (.lst (bs.map V.ref))/\bs.length<=n/\QL H' bs ((((Ca ts).take n).map (qd R)).filter Lz))
  (BJ none none none none [] rL kW au (al _) jg.nil) (λn σ H' _ h=>by let⟨_,_,_,_,_,_,J,_⟩:=h;show bJ.of (J _ _ O)) ?_ ?_)))
 .intro n x σ H' hx z;let⟨v6,v7,v8,v9,bs,rfl,J,hWb,T8,hQ⟩:=z;let hn:n<([F]++cs).length:=by have:=(ah.mp hx).1;simpa using this
  rw[ck,ac hn]at hx;let hx:V.ref ([F]++cs)[n]=x:=bo hx;subst hx;let⟨a,ea,hat⟩:=(ad4.mv J).get hn;let⟨c1,c2,c3⟩:=alm n a ea;let hn9:n<9:=by rw[aiS,hak]at hn;lia
  calc(aY (([F]++cs)[n]) _ rL (aU.of hat) rL (dM _ _ rL (dM _ _ rL (aK _ _ rL rL ?_))));let B2:=B1.mv (Z.trans J);let⟨dx1,_,_,_,Yg,_⟩:=id B2.ex;calc(aj _ rL (cY x1 dx1 _ rL Yg rL (aj _ rL (aj _ rL (aj _ rL (Eo x1 r w R aO bi bj a.1 a.2.1 (a.2.2:Int) rL B2 c1 c2 p_ (λt2 H7 s7 _ ht7=>?_)))))));rw[ab6 (r:=r) (w:=w) c3]at ht7;let dI:=Jp hb' r9 w9 c1 (j:=a.2.1) (wy:=a.2.2);let hS7:=aU.of (K:=K) ht7;let ad5:=s7 _ _ hWb;calc(aj _ rL (bw t2 _ _ _ rL rL hS7 (aP (j:=2) rL) (aX _ rL (am (aM p_)) (aK _ _ rL rL (aj _ rL ?_)))));let aft:(Ca ts).take (n+1)=(Ca ts).take n++[a]:=by rw[de,ea];rfl
  by_cases hc:Lz (qd R a)=true
  .have:decide ((2:Int)<=((um R a.1 a.2.1 a.2.2).2.2.2.length:Int))=true:=ai (by have:=ej hc;show (2:Int)<=((qd R a).2.2.2.length:Int);lia);rw[this];calc cA (aX _ rL (.inl ⟨rL,_,bJ.of ad5⟩) (aj _ rL (bw t2 _ _ _ rL rL hS7 (aP (j:=0) rL) (aj _ rL (bw t2 _ _ _ rL rL hS7 (aP (j:=1) rL) (aj _ rL (aj _ rL (gW t2 _ _ _ rL rL hS7 (aP (j:=2) rL) (zsz 4) (λg hg=>?_)))))))));let kg:aD H7 (upd H7 g (HO.tup [.int (um R a.1 a.2.1 a.2.2).1,.int (um R a.1 a.2.1 a.2.2).2.1,.int a.2.2,.str (S (um R a.1 a.2.1 a.2.2).2.2.2)])):=aD.upd hg;let hWg:=kg _ _ ad5;calc(eG W _ _ rL rL hWg (by rw[aa];show aM p_) ?_);calc(BJ _ _ _ _ (bs++[g]) rL (((J.trans s7).trans kg).dY hW) (by rw[au];simp) (by simp;lia) ?_);rw[aft,bu,List.filter_append];let e2:([a].map (qd R)).filter Lz=[qd R a]:=by simp[hc]
   rw[e2];show(((hQ.mv s7).mv kg).app (jg.one (x:=qd R a) au)).Lw (aam hWg)
  .have:decide ((2:Int)<=((um R a.1 a.2.1 a.2.2).2.2.2.length:Int))=false:=ag (λz=>hc (ai (by let z:(2:Int)<=((qd R a).2.2.2.length:Int):=z;lia)));rw[this];calc bR (BJ _ _ _ _ bs rL (J.trans s7) ad5 p_ ?_);rw[aft,bu,List.filter_append];let e2:([a].map (qd R)).filter Lz=[]:=by simp[hc]
   rw[e2,dL];show hQ.mv s7
 .intro σ H' z;let⟨v6,v7,v8,v9,bs,rfl,J,hWb,T8,hQ⟩:=z;rw[aa,aiS,cz]at hQ;calc(aj _ rL (dM W _ rL (.inl ⟨bJ.of hWb,λT hT=>?_⟩)));let k:aD H' (upd H' T (HO.tup (bs.map V.ref))):=aD.upd hT;calc q T bs _ (((s1.trans Z).trans J).trans k) au ?_;unfold jU;rw[hR];show hQ.mv k
def Jr (K:W.Frag)(T:String)(H:Hp)(x:V):Prop:=∃t,nU K H x t/\W.kitOne K t (.type T)=some false
def nU.mv {K:W.Frag}{H H':Hp}{x:V}{t:Value}(h:nU K H x t)(s:aD H H'):nU K H' x t:=by
 cases h with| non=>show .non| bl b=>show .bl b| int i=>show .int i| str x=>show .str x| flt x=>show .flt x| lst e=>show .lst (s _ _ e)| qG e=>show .qG (s _ _ e)| tup e=>show .tup (s _ _ e)| dK e=>show .dK (s _ _ e)| dT e=>show .dT (s _ _ e)| ins e a b c d f=>show .ins (s _ _ e) a b c d f
def Jr.mv {K:W.Frag}{T:String}{H H':Hp}{x:V}(h:Jr K T H x)(s:aD H H'):Jr K T H' x:=let ⟨t,a,b⟩:=h;(aj t (nU.mv a s) b)
def Js (K:W.Frag):Sp:=λvs H Q _=>(∃i:Int,vs=[.int i]/\Q (.bl true) H)\/(∃b:Bool,vs=[.bl b]/\Q (.bl false) H)\/∃x,vs=[x]/\Jr K "int" H x/\Q (.bl false) H
def T9 (D:aN K mg "is_whole" rY ["thing"])(F:mg "int"=none)(G:mg "bool"=none)(j:mg "isinstance"=none):bW P w K mg base "is_whole" 1 ["thing"] (Js K):=by
 refine D.dD Ij (λf bO A outer s H vs Q E I h=>?_) (λvs H Q E h=>?_)
 .calc(aj _ (aG (bC (jA (aQ fU qf j aE (ak aH (ak (jj (v:=.ty "int") qf F ko rL) aq))) (ji (abx (aQ fU qf j aE (ak aH (ak (jj (v:=.ty "bool") qf G j3 rL) aq)))))))) ?_);rcases h with⟨i,rfl,q⟩|⟨b,rfl,q⟩|⟨x,rfl,⟨t,ty,k⟩,q⟩;.show(aj _ rL (fB _ _ _ true rL (.int _) qh (aj true rL (cA (aj _ rL (fB _ _ _ false rL (.int _) qh (aj false rL q)))))))
  .show(aj _ rL (fB _ _ _ true rL (.bl _) qh (aj true rL (cA (aj _ rL (fB _ _ _ true rL (.bl _) qh (aj true rL q)))))))
  .show(aj _ rL (fB _ _ _ false rL ty k (aj false rL (bR q))))
 .rcases h with⟨i,rfl,_⟩|⟨i,rfl,_⟩|⟨i,rfl,_⟩ <;> rfl
def all_map {α:Type}(l:List α)(f:α->Bool):((l.map f).all id)=l.all f:=by induction l with|nil=>rfl|cons a l ih=>simp[ih]
def take_snoc {α β:Type}{l:List α}{i:Nat}{a:α}(h:l[i]?=some a)(f:α->β):(l.take (i+1)).map f=(l.take i).map f++[f a]:=by rw[de,h,bu];rfl
inductive yW (K:W.Frag) (H:Hp):V->Option Int->Prop
 | int (i:Int):yW K H (.int i) (some i)
 | bl (b:Bool):yW K H (.bl b) none
 | no {x:V} (h:Jr K "int" H x):yW K H x none
def yW.mv {H H':Hp}{x:V}{o:Option Int}(h:yW K H x o)(s:aD H H'):yW K H' x o:=by
 cases h with| int i=>show .int i| bl b=>show .bl b| no h=>show .no (h.mv s)
noncomputable def LK (r w:Nat)(oi oj:Option Int):Bool:=match oi,oj with|some i,some j=>decide (0<=i/\i<r/\0<=j/\j<w)|_,_=>false
def Yh (K:W.Frag):Sp:=λvs H Q _=>∃(p:Addr) (ls:AB) (r w:Nat) (x y:V) (oi oj:Option Int),vs=[.ref p,x,y]/\H p=some (.tup (Ts ls))/\Blk r w ls/\1<=r/\r<=9/\w<=9/\yW K H x oi/\yW K H y oj/\Q (.bl (LK r w oi oj)) H
def yW.sp {H:Hp}{x:V}{o:Option Int}{Q:VK}{E:XK}(h:yW K H x o)(q:Q (.bl o.isSome) H):Js K [x] H Q E:=by
 cases h with| int i=>show .inl (aj i rL q)| bl b=>show .inr (.inl (aj b rL q))| no h=>show .inr (.inr (aX x rL h q))
def NZ (D:aN K mg "is_cell_of" pW ["rows","row","column"])(G:mg "len"=none)(J:bW P w K mg base "is_whole" 1 ["thing"] (Js K)):bW P w K mg base "is_cell_of" 2 ["rows","row","column"] (Yh K):=by
 calc D.dD Dv (λf bO A outer s H vs Q E I h=>?_);let⟨p,ls,r,w,x,y,oi,oj,rfl,hp,hb,r1,r9,w9,hx,hy,q⟩:=h;let O:(Ts ls).length=r:=by rw[aa,hb.len]
 let h0:0<ls.length:=by rw[hb.len];lia
 let F:ls[0].length=w:=hb.sU _ (aS _);calc(aj _ (aB (cD (QW.qt (jY (dW (cZ (bK J I.mono rL (ak bf aq)))) (jQ (dW (cZ (bK J I.mono rL (ak bG aq))))))) (aG (bC eO)) bN) (aG (bC (jA (mX qO wu aA bf (aQ bY qf G ax (ak aH aq))) (ji (mX qO wu aA bG (aQ dO qf G ax (ak (bh bD aH aA (λ_ _=>rfl)) aq)))))))) ?_);calc(aj _ rL ?_);dsimp only[zE,wC];calc yW.sp hx (aj _ rL ?_);cases hx with
 | bl b=>show cA q
 | no h=>show cA q
 | int i=>
  calc bR (aj _ rL ?_);dsimp only[zE,wC];calc yW.sp hy (aj _ rL ?_);cases hy with
  | bl b=>show cA q
  | no h=>show cA q
  | int j=>
   calc bR ?_;let q:Q (.bl (decide (0<=i/\i<(r:Int)/\0<=j/\j<(w:Int)))) H:=q;calc(aj _ rL (aK _ _ rL rL (aj _ rL ?_)));by_cases h1:0<=i
   .rw[ai h1];calc cA (aj _ rL (aK p _ rL (.inr (aU.of hp)) (aK _ _ rL rL (aj _ rL ?_))));rw[O];by_cases h2:i<(r:Int)
    .rw[ai h2];calc cA (aj _ rL (aK _ _ rL rL (aj _ rL ?_)));by_cases h3:0<=j
     .rw[ai h3];calc cA (aj _ rL (bw p _ _ (.str (S ls[0])) rL rL (aU.of hp) (aP (j:=0) (nJ (by simp[h0]))) (aX _ rL (am (aM p_)) (aK _ _ rL rL ?_))));rw[F];simpa [h1,h2,h3] using q
     .rw[ag h3];calc bR ?_;simpa [h1,h2,h3] using q
    .rw[ag h2];calc bR ?_;simpa [h1,h2] using q
   .rw[ag h1];calc bR (aj _ rL (bR ?_));simpa [h1] using q
inductive Yi (K:W.Frag) (H:Hp):V->Option (List Nat)->Prop
 | no {x:V} (h:afq K H x):Yi K H x none
 | str (l:List Nat) (h:l.length<=1000):Yi K H (.str (S l)) (some l)
def Yi.mv {H H':Hp}{x:V}{o:Option (List Nat)}(h:Yi K H x o)(s:aD H H'):Yi K H' x o:=by
 cases h with| no h=>show .no (let ⟨t,a,b⟩:=h;(aj t (nU.mv a s) b))| str l h=>show .str l h
abbrev yX:=Option (Option Int×Option Int×Option (List Nat))
inductive Ax (K:W.Frag) (H:Hp):V->yX->Prop
 | no {x:V} (h:Jr K "tuple" H x):Ax K H x none
 | bad {b:Addr} {xs:List V} (h:H b=some (.tup xs)) (hl:xs.length≠3):Ax K H (.ref b) none
 | tri {b:Addr} {x y z:V} {oi oj:Option Int} {ol:Option (List Nat)} (h:H b=some (.tup [x,y,z])) (hx:yW K H x oi) (hy:yW K H y oj) (hz:Yi K H z ol):Ax K H (.ref b) (some (oi,oj,ol))
def Ax.mv {H H':Hp}{x:V}{o:yX}(h:Ax K H x o)(s:aD H H'):Ax K H' x o:=by
 cases h with| no h=>show .no (h.mv s)| bad h hl=>show .bad (s _ _ h) hl| tri h hx hy hz=>show .tri (s _ _ h) (hx.mv s) (hy.mv s) (hz.mv s)
def sgO (ol:Option (List Nat)):Bool:=match ol with|none=>false|some l=>E_ l
def uW (r w:Nat)(o:yX):Bool:=match o with|none=>false|some (oi,oj,ol)=>LK r w oi oj&&sgO ol
def Qp (K:W.Frag)(C:Addr):Sp:=λvs H Q _=>∃(b:Addr) (x:V) (o:yX) (r w:Nat) (aF aO:AB) (bi bj:Nat),vs=[.ref b,x]/\dh C H b r w aF aO bi bj/\Ax K H x o/\Q (.bl (uW r w o)) H
def T_ {C:Addr}(D:aN K mg "is_triple" uP ["board","thing"])(bH:mg "len"=none)(cQ:mg "tuple"=none)(bA:mg "isinstance"=none)(T:iz K C)(pX:bW P w K mg base "is_cell_of" 2 ["rows","row","column"] (Yh K))(Z:bW P w K mg base "is_sign" 1 ["thing"] (TV K)):bW P w K mg base "is_triple" 3 ["board","thing"] (Qp K C):=by
 calc D.dD Tz (λf bO A outer s H vs Q E I h=>?_);let⟨b,x,o,r,w,aF,aO,bi,bj,rfl,O,hT,q⟩:=h;obtain⟨⟨dx,pr,pm,pb,hb,F,J,Y⟩,B⟩:=O;calc(aj _ (aB (cD (QW.qt (jY (dW (cZ (aQ fU qf bA aE (ak bf (ak (jj (v:=.ty "tuple") qf cQ c9 rL) aq))))) (jQ (bV Br (aQ bY qf bH ax (ak bf aq)) aA (bM _))))) (aG (bC eO)) bN) (aG (bC (jA (bK pX I.mono rL (ak (bZ aH rL) (ak (bh bD bf aA (λ_ _=>rfl)) (ak (bh bD bf aA (λ_ _=>rfl)) aq)))) (ji (bK Z I.mono rL (ak (bh bD bf aA (λ_ _=>rfl)) aq))))))) ?_);cases hT with
 | no h=>let⟨t,ty,k⟩:=h;show(aj _ rL (fB _ _ _ false rL ty k (aj _ rL (cA (cA q)))))
 | @bad a xs h hl=>calc(aj _ rL (fB _ _ _ true rL (.tup h) qh (aj _ rL (bR (aj _ rL (aY a _ rL (.inr (aU.of h)) rL (aj _ rL ?_)))))));rw[ag (show ¬V.int (xs.length:Nat)=V.int 3 from λz=>hl (by injection z with z;lia))];show cA q
 | @tri a x y z oi oj ol h hx hy hz=>
  calc(aj _ rL (fB _ _ _ true rL (.tup h) qh (aj _ rL (bR (aj _ rL (aY a _ rL (.inr (aU.of h)) rL (aj _ rL (RK rL ?_))))))));calc(aj _ rL (cT b C dx _ _ rL hb T.cl T.nr rL (aj _ rL (bw a _ _ x rL rL (aU.of h) (aP (j:=0) rL) (aj _ rL (bw a _ _ y rL rL (aU.of h) (aP (j:=1) rL) ⟨pr,aF,r,w,x,y,oi,oj,rL,F,B.br,B.r1,B.r9,B.w9,hx,hy,aj _ rL ?_⟩))))));let q:Q (.bl (LK r w oi oj&&sgO ol)) H:=q;cases G:LK r w oi oj with
  | false=>rw[G]at q;show bR q
  | true=>
   rw[G]at q;calc cA (aj _ rL (bw a _ _ z rL rL (aU.of h) (aP (j:=2) rL) ?_));dsimp only[zE,wC];cases hz with| no h=>show .inl (aX z rL h q)| str l hl=>show .inr (aX l rL hl q)
abbrev PL2:=jg (λq:Nat×Nat=>[V.int q.1,V.int q.2])
def yZ:Sp:=λvs H Q _=>∃(t:Addr) (as:List Addr) (ts:List cg),vs=[.ref t]/\H t=some (.tup (as.map V.ref))/\fV H as ts/\ts.length<=100/\
 ∀(L:Addr) (cs:List Addr) (H':Hp),aD H H'->H' L=some (.lst (cs.map V.ref))->PL2 H' cs (ts.map λt=>(t.1,t.2.1))->Q (.ref L) H'
def W8 (D:aN K mg "cells_of" wM ["laying"]):bW P w K mg base "cells_of" 1 ["laying"] yZ:=by
 calc D.dD WQ (λf bO A outer s H vs Q E hr h=>?_);let⟨t,as,ts,rfl,ht,hL,h7,q⟩:=h;let hal:=hL.len;calc(aj _ (aG (bC (mY (ns:=["row","column","sign"]) rL (jX.of ["laying"] [] qh) (iI aH) (λ_ _ _ _ _=>(qg K rL (show (["row","column","sign","laying"]:List Str).Nodup by decide +kernel) rL rL rL qf qf qf)) (λ_ _ _ _ _=>fH) (λ_ _ _ _ _=>(cL (ak aH (ak bf aq))))))) ?_);refine(aj _ rL (aX t rL ⟨_,aU.of ht⟩ (λN hN=>kY (K:=K) (KT:=K) (a:=t) (f:=j4 [] 0) (tt:=mW) (xs:=as.map V.ref) (λn ys j=>∃cs:List Addr,ys=cs.map V.ref/\cs.length=n/\j N=some (.lst ys)/\aD H j/\PL2 j cs ((ts.take n).map λt=>(t.1,t.2.1)))
  (pI [] rL rL au (aD.upd hN) jg.nil) (λn ys j _ h=>by let⟨_,_,_,_,sm,_⟩:=h;show aU.of (sm _ _ ht)) ?_ ?_)))
 .intro n x ys j hx z;let⟨cs,rfl,G,Z,O,J⟩:=z;let⟨hn,hx⟩:=rfg hx;let F:n<ts.length:=p_;let⟨_,en⟩:=jV (hL.mv O) F;calc wF hx.symm (aU.of en) ?_;calc(aj _ rL (aX _ rL (zsz 2) (λg hg=>?_)));let Y:aD j (upd j g (HO.tup [.int ts[n].1,.int ts[n].2.1])):=aD.upd hg;let I:=Y _ _ Z;calc(cF I (by rw[aa];show aM p_) (iW.mk (by rw[aa];show hn) (pI (cs++[g]) qa (by simp[G]) (by rw[au]) ((O.trans Y).dY hN) ?_)));rw[show ts.take (n+1)=ts.take n++[ts[n]] by rw[de,ac F];rfl,bu];show((J.mv Y).app (jg.one (x:=(ts[n].1,ts[n].2.1)) au)).Lw (aam I)
 .intro ys j z;let⟨cs,rfl,G,Z,O,J⟩:=z;rw[aa,hal,cz]at J;show q N cs j O Z J
structure Jt (K:W.Frag)(H:Hp)(xs:List V)(os:List yX):Prop where
 len:xs.length=os.length
 at_:∀(i:Nat) (x:V) (o:yX),xs[i]?=some x->os[i]?=some o->Ax K H x o
inductive LyD (K:W.Frag) (H:Hp):V->Option (List yX)->Prop
 | no {x:V} (h:Jr K "tuple" H x):LyD K H x none
 | tup {p:Addr} {xs:List V} {os:List yX} (h:H p=some (.tup xs)) (hp:Jt K H xs os) (h1:os.length<=100):LyD K H (.ref p) (some os)
def mkT (t:cg):yX:=some (some (t.1:Int),some (t.2.1:Int),some [t.2.2])
def afu (o:yX):Nat×Nat:=match o with|some (some i,some j,_)=>(i.toNat,j.toNat)|_=>(0,0)
def ltQ (p:(Nat×Nat)×(Nat×Nat)):Bool:=decide (p.1.1*1000+p.1.2<p.2.1*1000+p.2.2)
def j8 (cs:List (Nat×Nat)):Bool:=(cs.zip (cs.drop 1)).all ltQ
noncomputable def layB (r w:Nat)(o:Option (List yX)):Bool:=match o with|none=>false|some os=>decide (1<=os.length/\os.length<=7)&&os.all (uW r w)&&j8 (os.map afu)
def Ua (ts:List cg):(ts.map mkT).map afu=ts.map λt=>(t.1,t.2.1):=by rw[fR];show fz λt _=>rfl
def ad6 {r w:Nat}{o:yX}(h:uW r w o=true):∃t:cg,o=mkT t/\inB r w t:=by
 match o with
 | none=>cases h
 | some (oi,oj,ol)=>
  unfold uW at h;simp only[cp]at h;let⟨h1,h2⟩:=h
  match oi,oj,ol with
  | none,_,_=>cases h1
  | some i,none,_=>cases h1
  | some i,some j,none=>cases h2
  | some i,some j,some l=>
   let h1:=ej h1;let h2:E_ l=true:=h2
   match l with
   | []=>cases h2
   | [c]=>calc(aj (i.toNat,j.toNat,c) ?_ (cF (by show i.toNat<r;lia) (by show j.toNat<w;lia) h2));show some (some i,some j,some [c])=some (some ((i.toNat:Nat):Int),some ((j.toNat:Nat):Int),some [c]);rw[cy h1.1,cy h1.2.2.1]
   | _::_::_=>cases h2
def ad7 {r w:Nat}{t:cg}(h:inB r w t):uW r w (mkT t)=true:=by unfold uW mkT LK sgO;let h1:=h.1;let h2:=h.2.1;simp only[cp];show⟨ai p_,h.2.2⟩
theorem Qq {r w:Nat}:∀{os:List yX},os.all (uW r w)=true->∃ts:List cg,os=ts.map mkT/\∀t∈ts,inB r w t
 | [],_=>(aj [] rL (λt h=>by simp at h))
 | o::os,h=>by
  rw[List.all_cons,cp]at h;let⟨ts,e,k⟩:=Qq h.2;let⟨t,e2,k2⟩:=ad6 h.1;show(aj (t::ts) (by rw[e,e2];rfl) (λu j=>by
   rcases bX.mp j with z|z;.rw[z];show k2
   .show k u z))
def Ax.akC {H:Hp}{x:V}{t:cg}(h:Ax K H x (mkT t)):∃b,x=.ref b/\xX H b t:=by
 generalize j:mkT t=o at h;cases h with
 | no _=>cases j
 | bad _ _=>cases j
 | @tri b x y z oi oj ol h hx hy hz=>have j:=bo j;injection j with e1 e2;injection e2 with e2 e3;subst e1 e2 e3;cases hx;cases hy;cases hz;show(aj b rL h)
theorem Jt.lay {H:Hp}:∀{ts:List cg} {xs:List V},Jt K H xs (ts.map mkT)->∃as:List Addr,xs=as.map V.ref/\fV H as ts
 | [],[],_=>(aj [] rL fV.nil)
 | [],_::_,h=>by have:=h.len;simp at this
 | _::_,[],h=>by have:=h.len;simp at this
 | t::ts,x::xs,h=>by
  let⟨b,rfl,hb⟩:=(h.at_ 0 x (mkT t) rL rL).akC;let⟨as,e,j⟩:=Jt.lay (ts:=ts) (xs:=xs) ⟨by have:=h.len;simpa using this,λi x o a c=>h.at_ (i+1) x o a c⟩;refine(aj (b::as) (by rw[e];rfl) ⟨λa ha=>?_,?_⟩)
  .rcases bX.mp ha with z|z;.rw[z,Ls hb];show hb
   .show j.at_ a z
  .rw[cw,j.eq,Ls hb]
def Ax.mk {H:Hp}{b:Addr}{t:cg}(h:xX H b t):Ax K H (.ref b) (mkT t):=.tri h (.int _) (.int _) (.str _ (by show 1<=1000;decide))
def Jt.of_lay {H:Hp}{as:List Addr}{ts:List cg}(h:fV H as ts):Jt K H (as.map V.ref) (ts.map mkT):=by calc⟨by rw[aa,aa,h.len],λi x o hx D=>?_⟩;rw[ck]at hx D;let⟨a,ha,rfl⟩:=dv.mp hx;let⟨t,ht,rfl⟩:=dv.mp D;let hi:i<as.length:=(ah.mp ha).1;let⟨u,j,F⟩:=h.get hi;rw[ht]at j;rw[bo j];rw[ac hi]at ha;rw[<-bo ha];show Ax.mk F
def ab8 (K:W.Frag)(C:Addr):Sp:=λvs H Q _=>∃(b:Addr) (x:V) (o:Option (List yX)) (r w:Nat) (aF aO:AB) (bi bj:Nat),vs=[.ref b,x]/\dh C H b r w aF aO bi bj/\LyD K H x o/\∀H',aD H H'->Q (.bl (layB r w o)) H'
def Ub {C:Addr}(D:aN K mg "is_laying" uQ ["board","thing"])(bH:mg "len"=none)(cQ:mg "tuple"=none)(bA:mg "isinstance"=none)(gA:mg "all"=none)(LQ:mg "zip"=none)(pY:∃t,mg "MOST_TILES"=some (.int 7 t))(W9:bW P w K mg base "is_triple" 3 ["board","thing"] (Qp K C))(sW:bW P w K mg base "cells_of" 1 ["laying"] yZ):bW P w K mg base "is_laying" 4 ["board","thing"] (ab8 K C):=by
 calc D.dD xT (λf bO A outer s H vs Q E hr h=>?_);let⟨b,x,o,r,w,aF,aO,bi,bj,rfl,BA,hT,q⟩:=h;let w9:=BA.ok.w9;calc(aj _ (aB (cD (QW.qt (jY (dW (cZ (aQ fU qf bA aE (ak bf (ak (jj (v:=.ty "tuple") qf cQ c9 rL) aq))))) (jQ (dW (Bu qO qO aA (aQ bY qf bH ax (ak bf aq)) (ZS qf pY)))))) (aG (bC eO)) bN) (aB (cD (dW (cZ (aQ (kh rL) qf gA jT (ak (jZ rL (jz.of xT.nd qh) (iI bf) (λ_ _ _ _ _=>fH) (λ_ _ _ _ _=>(bK W9 hr.mono rL (ak bf (ak aH aq))))) aq)))) (aG (bC eO)) bN) (aB (aW (i:=2) xT.nd rL (Or.inl rL) (bK sW hr.mono rL (ak bf aq))) (aG (bC (aQ (kh rL) qf gA jT (ak (mY (ns:=["cell","later"]) rL (jX.of ["board","thing","cells"] [] qh) (agj qf LQ (ak bG (ak (dR wY bG (dX aA) fO) aq))) (λ_ _ _ _ _=>(af9 K rL (show (["cell","later","board","thing","cells"]:List Str).Nodup by decide +kernel) rL rL qf qf)) (λ_ _ _ _ _=>fH) (λ_ _ _ _ _=>(d8 (aiG hr.Sw) aH bf (bM _)))) aq))))))) ?_);cases hT with
 | no h=>let⟨t,ty,k⟩:=h;show(aj _ rL (fB _ _ _ false rL ty k (aj _ rL (cA (cA (q H (aD.refl _)))))))
 | @tup p xs os hp hP h100=>
  let dI:=hP.len;calc(aj _ rL (fB _ _ _ true rL (.tup hp) qh (aj _ rL (bR ?_))));let F:¬layB r w (some os)=true->∀H',aD H H'->Q (.bl false) H':=λz H' s'=>by have:=q H' s';rw[Bool.not_eq_true _ |>.mp z]at this;show this
  calc(aj _ rL (aK p _ rL (.inr (aU.of hp)) (aK _ _ rL rL ?_)));rw[dI];by_cases h1:1<=os.length
  .calc(aj true (by simp;lia) (cA (aK _ _ rL rL ?_)));by_cases h7:os.length<=7
   .calc(aj true (by simp;lia) (bR ?_));refine(aj _ rL (aX p rL ⟨_,aU.of hp⟩ (λL hL=>rm (xs:=xs) (λi ys Z=>ys=((os.take i).map (uW r w)).map V.bl/\Z L=some (.lst ys)/\aD H Z) (cF rL au (aD.upd hL)) (λi ys Z _ h=>aU.of (h.2.2 _ _ hp)) ?_ ?_)))
    .intro i x ys Z hi z;let⟨rfl,I,j⟩:=z;let hil:i<xs.length:=(ah.mp hi).1;let hio:i<os.length:=p_;let ho:=ac hio;calc(aj _ rL (aj _ rL ⟨b,x,os[i],r,w,aF,aO,bi,bj,rL,BA.mv j,(hP.at_ i x _ hi ho).mv j,I,?_,iW.mk hil (cF ?_ au (j.dY hL))⟩));.rw[aa,aa,ap];show aM p_
     .rw[take_snoc ho,bu];rfl
    .intro ys Z z;let⟨rfl,I,j⟩:=z;calc(aK L _ rL (bJ.of I) ?_);rw[dI,cz,all_map];calc(aj _ rL ?_);cases ha:os.all (uW r w) with
     | false=>show cA (F (by unfold layB;simp only;rw[ha];simp) Z j)
     | true=>
      calc bR ?_;let⟨ts,rfl,fJ⟩:=Qq ha;let⟨as,rfl,hLy⟩:=hP.lay;rw[aa]at h1 h7;calc(aj _ rL (eG p as ts rL (j _ _ hp) (hLy.mv j) p_ (λLc cs H3 s3 hLc hcs=>?_)));let fX:=j.trans s3;calc(aj _ rL (aj _ rL (aj _ rL (aK Lc _ rL (bJ.of hLc) (λM hM=>?_)))));let hcl:=hcs.len;rw[aa]at hcl;let eM:iG (cs.map V.ref) (some 1) none=(cs.drop 1).map V.ref:=by unfold iG;rw[show (some (1:Int))=some (((1:Nat):Int)) from rL,HT.mj,HT.uc,aa,fA (show 1<=cs.length by lia),cv (by rw[bd,aa];lia),ot]
      rw[eM];let sM:aD H3 (upd H3 M (HO.lst ((cs.drop 1).map V.ref))):=aD.upd hM;let Ip:upd H3 M (HO.lst ((cs.drop 1).map V.ref)) M=some (.lst ((cs.drop 1).map V.ref)):=au;let J:=sM _ _ hLc;let N5:=hcs.mv sM;let iB:=fX.trans sM;generalize upd H3 M (HO.lst ((cs.drop 1).map V.ref))=H4 at sM Ip J N5 iB ⊢;generalize Y:(ts.map λt=>(t.1,t.2.1))=cc at N5;let aln:cc.length=cs.length:=by rw[<-Y,aa,hcl]
      let hw9:∀u∈cc,u.2<1000:=λu hu=>by rw[<-Y]at hu;let⟨t,ht,rfl⟩:=be.mp hu;have:=(fJ t ht).2.1;show t.2.1<1000;lia
      let za:(cc.zip (cc.drop 1)).length=cs.length-1:=by rw[List.length_zip,bd,aln];lia
      refine(aY Lc M rL ⟨_,bJ.of J⟩ ⟨_,bJ.of Ip⟩ (λN hN=>aiF (f:=j4 [] 0) (K:=K) (KT:=K) (a:=Lc) (b:=M) (tt:=mW) (xs:=cs.map V.ref) (ys:=(cs.drop 1).map V.ref) (by rw[aa,aa,bd];lia)
       (λn zs G=>zs=(((cc.zip (cc.drop 1)).take n).map ltQ).map V.bl/\G N=some (.lst zs)/\aD H4 G)
       (cF rL au (aD.upd hN)) (λn zs G _ h=>⟨bJ.of (h.2.2 _ _ J),bJ.of (h.2.2 _ _ Ip)⟩) ?_ ?_))
      .intro n x y zs G T hx hy z hT;let⟨rfl,yV,qx⟩:=z;let kT:aD G (upd G T (HO.tup [x,y])):=aD.upd hT;rw[ck]at hx hy;let⟨a1,ha1,rfl⟩:=dv.mp hx;let⟨a2,O,rfl⟩:=dv.mp hy;rw[nV]at O;let n1:n<cs.length:=(ah.mp ha1).1;let n2:1+n<cs.length:=(ah.mp O).1;let c1:cc[n]?=some cc[n]:=ac p_;let c2:cc[1+n]?=some cc[1+n]:=ac p_;let e1:=kT _ _ (qx _ _ (N5.at_ n a1 _ ha1 c1));let e2:=kT _ _ (qx _ _ (N5.at_ (1+n) a2 _ O c2));calc akn rL (aU.of au) ?_;calc(aj _ rL (aj _ rL ⟨a1,a2,_,_,_,_,rL,rL,e1,e2,hw9 _ (aS _),hw9 _ (aS _),kT _ _ yV,?_,iW.mk (by rw[aa,bd];lia) (cF ?_ au ((qx.trans kT).dY hN))⟩));.rw[aa,aa,ap];show aM p_
       .let ez:(cc.zip (cc.drop 1))[n]?=some (cc[n],cc[1+n]):=by
         rw[oQ];show⟨c1,by rw[nV];show c2⟩
        rw[take_snoc ez,bu];rfl
      .intro zs G z;let⟨rfl,yV,qx⟩:=z;calc(aK N _ rL (bJ.of yV) ?_);rw[cv (by rw[aa,bd,za];lia),all_map];have:=q G (iB.trans qx);let e:layB r w (some (ts.map mkT))=j8 cc:=by
        unfold layB;simp only;rw[ha,Ua,Y,aa,ai (show 1<=ts.length/\ts.length<=7 from ⟨h1,h7⟩)];rfl
       rw[e]at this;show this
   .calc(aj false (by simp;lia) (cA ?_));show F (by unfold layB;simp;lia) H (aD.refl _)
  .calc(aj false (by simp;lia) (bR (aj _ rL (cA ?_))));show F (by unfold layB;simp;lia) H (aD.refl _)
def agv {f C R:Addr}{fd:FuncData}(F:fG K "__init__" "Taken.__init__" lH f fd)(D:mg "RackError"=some (.ref R))(j:InitOf K R)(T:qF K mg "Taken" C f ["row","column"]):cj P w K mg base dN 1 f fd ["self","row","column"] (K1 C "row" "column"):=by calc F.dD Rb (λbO A outer s H vs Q E G h=>?_);let⟨a,v,u,rfl,ha,q⟩:=h;calc(aj _ (aB (dF (wG qf D j (ak aH (ak bf (ak bG aq))))) (aB (xr aH bf rL) (aG (xr aH bG rL)))) ?_);calc(aj _ rL (aj _ rL (aj _ rL (BJ a C f none [v,u] rL ha T.M.ini (zsz 2) ?_))));show(aj _ rL (aj _ rL (eG a C none rL ha T.T (T.no _ qa) (.inl ⟨rL,λdx ne nd=>(aj _ rL (aj _ rL (eG a C (some dx) rL au T.T (T.no _ qa) (.inr (aY dx _ rL (by rw[aZ ne,au]) (by show 1<50;decide) (q dx ne nd))))))⟩))))
def aiT {f C R:Addr}{fd:FuncData}(F:fG K "__init__" "Gap.__init__" oN f fd)(D:mg "RackError"=some (.ref R))(j:InitOf K R)(T:qF K mg "Gap" C f ["row","column"]):cj P w K mg base dN 1 f fd ["self","row","column"] (K1 C "row" "column"):=by calc F.dD WK (λbO A outer s H vs Q E G h=>?_);let⟨a,v,u,rfl,ha,q⟩:=h;calc(aj _ (aB (dF (wG qf D j (ak aH (ak bf (ak bG aq))))) (aB (xr aH bf rL) (aG (xr aH bG rL)))) ?_);calc(aj _ rL (aj _ rL (aj _ rL (BJ a C f none [v,u] rL ha T.M.ini (zsz 2) ?_))));show(aj _ rL (aj _ rL (eG a C none rL ha T.T (T.no _ qa) (.inl ⟨rL,λdx ne nd=>(aj _ rL (aj _ rL (eG a C (some dx) rL au T.T (T.no _ qa) (.inr (aY dx _ rL (by rw[aZ ne,au]) (by show 1<50;decide) (q dx ne nd))))))⟩))))
def Qs {H:Hp}{a dx:Addr}{o p q p2:HO}(na:H a=none)(ne:dx≠a)(nd:upd H a o dx=none):upd (upd (upd (upd H a o) dx p) a q) dx p2 a=some q/\aD H (drop (upd (upd (upd (upd H a o) dx p) a q) dx p2) a)/\drop (upd (upd (upd (upd H a o) dx p) a q) dx p2) a dx=some p2:=by
 rw[aZ ne]at nd;refine(cF (by rw[aZ ne.symm,au]) (λb u e=>?_) ?_)
 .let h1:b≠a:=bF e na;let h2:b≠dx:=bF e nd;rw[j5 h1,aZ h2,aZ h1,aZ h2,aZ h1];show e
 .rw[j5 ne,au]
abbrev Yj (i j:Nat):List (Str×V):=iZ "column" (.int j) [("row",.int i)]
def Yk {α:Type}{p:α->Bool}{l:List α}{n:Nat}(hn:n<l.length)(h0:∀x∈l.take n,p x=false)(h1:p l[n]=true):l.find? p=some l[n]:=by
 let e:l=l.take n++l[n]::l.drop (n+1):=by rw[<-gh hn,kq]
 let e2:(l.take n++l[n]::l.drop (n+1)).find? p=some l[n]:=by rw[List.find?_append,List.find?_eq_none.mpr λx hx=>by rw[h0 x hx];decide,Option.none_or,List.find?_cons_of_pos h1]
 rw[<-e]at e2;show e2
def Yl {α:Type}{p:α->Bool}{l:List α}(h0:∀x∈l,p x=false):l.find? p=none:=List.find?_eq_none.mpr λx hx=>by rw[h0 x hx];decide
def aiU (a b:Nat):decide (V.int (a:Int)=V.int (b:Int))=decide (a=b):=by
 by_cases h:a=b;.subst h;simp
 .have:¬V.int (a:Int)=V.int (b:Int):=λz=>h (by injection z with z;show oq z)
  simp[h,this]
def uo (ts:List cg):Bool:=ts.all λt=>decide (t.1=(ts.headD (0,0,0)).1)
def uq (ts:List cg):Bool:=ts.all λt=>decide (t.2.1=(ts.headD (0,0,0)).2.1)
def xZ {ts:List cg}(h:0<ts.length):ts.headD (0,0,0)=ts[0]:=by
 cases ts with| nil=>simp at h| cons a b=>rfl
def Qt:Sp:=λvs H Q _=>∃(t:Addr) (as:List Addr) (ts:List cg),vs=[.ref t]/\H t=some (.tup (as.map V.ref))/\fV H as ts/\0<ts.length/\ts.length<=7/\∀H',aD H H'->Q (.bl (uo ts)) H'
def Ym:Sp:=λvs H Q _=>∃(t:Addr) (as:List Addr) (ts:List cg),vs=[.ref t]/\H t=some (.tup (as.map V.ref))/\fV H as ts/\0<ts.length/\ts.length<=7/\∀H',aD H H'->Q (.bl (uq ts)) H'
def Rn (D:aN K mg "is_across" qK ["laying"])(gA:mg "all"=none):bW P w K mg base "is_across" 1 ["laying"] Qt:=by
 calc D.dD Er (λf bO A outer s H vs Q E hr h=>?_);let⟨t,as,ts,rfl,ht,J,h0,h7,q⟩:=h;let O:=J.len;let hh:=xZ h0;calc(aj _ (aG (bC (aQ (kh rL) qf gA jT (ak (mY (ns:=["row","column","sign"]) rL (jX.of ["laying"] [] qh) (iI aH) (λ_ _ _ _ _=>(qg K rL (show (["row","column","sign","laying"]:List Str).Nodup by decide +kernel) rL rL rL qf qf qf)) (λ_ _ _ _ _=>fH) (λ_ _ _ _ _=>(d8 jk aH (bh (rE K) (bh (rE K) bL aA (λ_ _=>rfl)) aA (λ_ _=>rfl)) (bM _)))) aq)))) ?_);refine(aj _ rL (aX t rL ⟨_,aU.of ht⟩ (λN Z=>kY (K:=K) (KT:=K) (a:=t) (f:=j4 [] 0) (tt:=mW) (xs:=as.map V.ref) (λn ys G=>ys=((ts.take n).map λt=>decide (t.1=(ts.headD (0,0,0)).1)).map V.bl/\G N=some (.lst ys)/\aD H G)
  (cF rL au (aD.upd Z)) (λn ys G _ h=>aU.of (h.2.2 _ _ ht)) ?_ ?_)))
 .intro n x ys G hx z;let⟨rfl,Y,F⟩:=z;let⟨hn,hx⟩:=rfg hx;let I:n<ts.length:=p_;let⟨_,en⟩:=jV (J.mv F) I;let⟨g0,e0⟩:=jV (J.mv F) h0;calc wF hx.symm (aU.of en) ?_;calc(aj _ rL (aj _ rL (bw t _ _ (.ref as[0]) rL rL (aU.of (F _ _ ht)) (aP (j:=0) (by simp[g0])) (nG (as[0]) _ _ _ rL rL (aU.of e0) (aP (j:=0) rL) rL Y ?_ (iW.mk (by rw[aa];show hn) (cF ?_ au (F.dY Z)))))));.rw[aa,aa,ap];show aM p_
  .rw[take_snoc (ac I),bu,hh,aiU];rfl
 .intro ys G z;let⟨rfl,Y,F⟩:=z;calc(aK N _ rL (bJ.of Y) ?_);rw[aa,O,cz,all_map];show q G F
def aan (D:aN K mg "is_down" yM ["laying"])(gA:mg "all"=none):bW P w K mg base "is_down" 1 ["laying"] Ym:=by
 calc D.dD aac (λf bO A outer s H vs Q E hr h=>?_);let⟨t,as,ts,rfl,ht,J,h0,h7,q⟩:=h;let O:=J.len;let hh:=xZ h0;calc(aj _ (aG (bC (aQ (kh rL) qf gA jT (ak (mY (ns:=["row","column","sign"]) rL (jX.of ["laying"] [] qh) (iI aH) (λ_ _ _ _ _=>(qg K rL (show (["row","column","sign","laying"]:List Str).Nodup by decide +kernel) rL rL rL qf qf qf)) (λ_ _ _ _ _=>fH) (λ_ _ _ _ _=>(d8 jk bf (bh (rE K) (bh (rE K) bL aA (λ_ _=>rfl)) aA (λ_ _=>rfl)) (bM _)))) aq)))) ?_);refine(aj _ rL (aX t rL ⟨_,aU.of ht⟩ (λN Z=>kY (K:=K) (KT:=K) (a:=t) (f:=j4 [] 0) (tt:=mW) (xs:=as.map V.ref) (λn ys G=>ys=((ts.take n).map λt=>decide (t.2.1=(ts.headD (0,0,0)).2.1)).map V.bl/\G N=some (.lst ys)/\aD H G)
  (cF rL au (aD.upd Z)) (λn ys G _ h=>aU.of (h.2.2 _ _ ht)) ?_ ?_)))
 .intro n x ys G hx z;let⟨rfl,Y,F⟩:=z;let⟨hn,hx⟩:=rfg hx;let I:n<ts.length:=p_;let⟨_,en⟩:=jV (J.mv F) I;let⟨g0,e0⟩:=jV (J.mv F) h0;calc wF hx.symm (aU.of en) ?_;calc(aj _ rL (aj _ rL (bw t _ _ (.ref as[0]) rL rL (aU.of (F _ _ ht)) (aP (j:=0) (by simp[g0])) (nG (as[0]) _ _ _ rL rL (aU.of e0) (aP (j:=1) rL) rL Y ?_ (iW.mk (by rw[aa];show hn) (cF ?_ au (F.dY Z)))))));.rw[aa,aa,ap];show aM p_
  .rw[take_snoc (ac I),bu,hh,aiU];rfl
 .intro ys G z;let⟨rfl,Y,F⟩:=z;calc(aK N _ rL (bJ.of Y) ?_);rw[aa,O,cz,all_map];show q G F
abbrev IL2:=jg (λq:Int×Int=>[V.int q.1,V.int q.2])
def around (i j:Int):List (Int×Int):=[(i-1,j),(i+1,j),(i,j-1),(i,j+1)]
def tkC (aF:AB)(r w:Nat)(p:Int×Int):Bool:=!decide ([atC aF r w p.1 p.2]=[46])
def RZ (aF:AB)(r w:Nat)(i j:Int):Bool:=(around i j).any (tkC aF r w)
def any_map {α:Type}(l:List α)(f:α->Bool):((l.map f).any id)=l.any f:=by induction l with|nil=>rfl|cons a l ih=>simp[ih]
def Uc (C:Addr):Sp:=λvs H Q _=>∃(b:Addr) (r w:Nat) (aF aO:AB) (bi bj:Nat) (i j:Int),vs=[.ref b,.int i,.int j]/\dh C H b r w aF aO bi bj/\∀H',aD H H'->Q (.bl (RZ aF r w i j)) H'
def Ro {C f1:Addr}{dH:FuncData}(D:aN K mg "is_next_to_taken" mF ["board","row","column"])(zc:mg "any"=none)(gY:∃t,mg "FREE"=some (.str (S [46]) t))(cM:iz K C)(sX:Meth K C "at" f1)(sY:cj P w K mg base dN 3 f1 dH ["self","row","column"] (aak C))(tu:bT K dH ["self","row","column"] []):bW P w K mg base "is_next_to_taken" 5 ["board","row","column"] (Uc C):=by
 calc D.dD pH (λf bO A outer s H vs Q E hr h=>?_);let⟨b,r,w,aF,aO,bi,bj,i,j,rfl,BA,q⟩:=h;calc(aj _ (aB (aW (i:=3) pH.nd rL (Or.inl rL) (cL (ak (cL (ak (aL oZ bf aA) (ak bG aq))) (ak (cL (ak (aL cW bf aA) (ak bG aq))) (ak (cL (ak bf (ak (aL oZ bG aA) aq))) (ak (cL (ak bf (ak (aL cW bG aA) aq))) aq)))))) (aG (bC (aQ (Tn rL) qf zc Qf (ak (jZ rL (jz.of pH.nd qh) (iI bL) (λ_ _ _ _ _=>fH) (λ_ _ _ _ _=>(d8 KC (nY bf cM.cl sX sY hr.mono tu .nil eY (ak (bh (rE K) aH aA (λ_ _=>rfl)) (ak (bh (rE K) aH aA (λ_ _=>rfl)) aq))) (uL qf gY) (bM _)))) aq))))) ?_);calc(aj _ rL (aK _ _ rL rL (aX _ rL (zsz 2) (λI h1=>(aj _ rL (aK _ _ rL rL (aX _ rL (zsz 2) (λg2 h2=>(aj _ rL (aj _ rL (aY _ _ rL rL (zsz 2) (λG h3=>(aj _ rL (aj _ rL (aY _ _ rL rL (zsz 2) (λF h4=>⟨zsz 4,λA O=>?_⟩))))))))))))))));dsimp only at h1 h2 h3 h4 O ⊢;let k1:aD H (upd H I (HO.tup [.int (i-1),.int j])):=aD.upd h1;let e1:upd H I (HO.tup [.int (i-1),.int j]) I=some (.tup [.int (i-1),.int j]):=au;generalize upd H I (HO.tup [.int (i-1),.int j])=H1 at k1 e1 h2 h3 h4 O ⊢;let k2:aD H1 (upd H1 g2 (HO.tup [.int (i+1),.int j])):=aD.upd h2;let e2:upd H1 g2 (HO.tup [.int (i+1),.int j]) g2=some (.tup [.int (i+1),.int j]):=au;generalize upd H1 g2 (HO.tup [.int (i+1),.int j])=H2 at k2 e2 h3 h4 O ⊢;let k3:aD H2 (upd H2 G (HO.tup [.int i,.int (j-1)])):=aD.upd h3;let e3:upd H2 G (HO.tup [.int i,.int (j-1)]) G=some (.tup [.int i,.int (j-1)]):=au;generalize upd H2 G (HO.tup [.int i,.int (j-1)])=H3 at k3 e3 h4 O ⊢;let k4:aD H3 (upd H3 F (HO.tup [.int i,.int (j+1)])):=aD.upd h4;let e4:upd H3 F (HO.tup [.int i,.int (j+1)]) F=some (.tup [.int i,.int (j+1)]):=au;generalize upd H3 F (HO.tup [.int i,.int (j+1)])=H4 at k4 e4 O ⊢;let k5:aD H4 (upd H4 A (HO.tup [.ref I,.ref g2,.ref G,.ref F])):=aD.upd O;let e5:upd H4 A (HO.tup [.ref I,.ref g2,.ref G,.ref F]) A=some (.tup ([I,g2,G,F].map V.ref)):=au;let il:IL2 H4 [I,g2,G,F] (around i j):=((jg.one (x:=(i-1,j)) (k4 _ _ (k3 _ _ (k2 _ _ e1)))).app (jg.one (x:=(i+1,j)) (k4 _ _ (k3 _ _ e2)))).app ((jg.one (x:=(i,j-1)) (k4 _ _ e3)).app (jg.one (x:=(i,j+1)) e4));let s5:=(((k1.trans k2).trans k3).trans k4).trans k5;let Y:=il.mv k5;generalize upd H4 A (HO.tup [.ref I,.ref g2,.ref G,.ref F])=H5 at k5 e5 s5 Y ⊢;let BA5:=BA.mv s5;refine(aj _ rL (aX A rL ⟨_,aU.of e5⟩ (λN hN=>rm (xs:=[I,g2,G,F].map V.ref) (λn ys J=>ys=(((around i j).take n).map (tkC aF r w)).map V.bl/\J N=some (.lst ys)/\aD H5 J)
  (cF rL au (aD.upd hN)) (λn ys J _ h=>aU.of (h.2.2 _ _ e5)) ?_ ?_)))
 .intro n x ys J hx z;let⟨rfl,tW,rJ⟩:=z;let hn:n<[I,g2,G,F].length:=by have:=(ah.mp hx).1;simpa using this
  let hn4:n<4:=hn;rw[ck,ac hn]at hx;let hx:V.ref [I,g2,G,F][n]=x:=bo hx;subst hx;let⟨u,eu,hu⟩:=(Y.mv rJ).get hn;let Z:=BA5.mv rJ;let⟨dx,_,_,_,ex,_⟩:=id Z.ex;calc(aj _ rL (cY b dx _ rL ex rL (aj _ rL (bw _ _ _ _ rL rL (aU.of hu) (aP (j:=0) rL) (aj _ rL (bw _ _ _ _ rL rL (aU.of hu) (aP (j:=1) rL) (RT b r w aF aO bi bj u.1 u.2 rL Z (dw [_] [46] rL rL tW ?_ (iW.mk (by rw[aa];show hn) (cF ?_ au (rJ.dY hN)))))))))));.rw[aa,aa,ap];show aM p_
  .rw[take_snoc eu,bu];rfl
 .intro ys J z;let⟨rfl,tW,rJ⟩:=z;calc(aK N _ rL (bJ.of tW) ?_);rw[cv (by show 4<=4;decide),any_map];show q J (s5.trans rJ)
def LR:Sp:=λvs H Q _=>∃c:Nat,vs=[.str (S [c])]/\c<128/\Q (.str (S ([c].map PyProof.Rows.lo1))) H
def Ud (D:aN K mg "letter_of" uM ["sign"]):bW P w K mg base "letter_of" 1 ["sign"] LR:=by calc D.dD Tw (λf bO A outer s H vs Q E F h=>?_);let⟨c,rfl,j,q⟩:=h;calc(aj _ (aG (bC (xJ bp l_ ma S8 aH))) ?_);show(aX _ rL rL (pI [c] rL rL (by show 1<=1000;decide) (λd hd=>by rw[a_.mp hd];show j) q))
def Ue {aF:AB}{r w i j:Nat}(hi:i<r)(D:j<w):atC aF r w (i:Int) (j:Int)=cell aF i j:=by unfold atC cell;rw[if_pos (RP p_ p_ p_ p_),eh,eh]
def tkT (aF:AB)(t:cg):Bool:=!decide ([cell aF t.1 t.2.1]=[46])
def Cd (aF:AB)(ts:List cg):Option cg:=ts.find? (tkT aF)
def Ug (C CT:Addr):Sp:=λvs H Q E=>∃(b t:Addr) (as:List Addr) (ts:List cg) (r w:Nat) (aF aO:AB) (bi bj:Nat),vs=[.ref b,.ref t]/\dh C H b r w aF aO bi bj/\H t=some (.tup (as.map V.ref))/\fV H as ts/\(∀t∈ts,inB r w t)/\
 (∀u,Cd aF ts=some u->∀(dx:Addr) (H':Hp),aD H H'->H' dx=some (.ext (XD dx (Yj u.1 u.2.1)))->E (.ref CT) (some dx) H')/\
 (Cd aF ts=none->∀H',aD H H'->Q .non H')
def Rp {C CT f0 f1:Addr}{fK dH:FuncData}(D:aN K mg "check_free" rZ ["board","laying"])(gY:∃t,mg "FREE"=some (.str (S [46]) t))(cM:iz K C)(sX:Meth K C "at" f1)(sY:cj P w K mg base dN 3 f1 dH ["self","row","column"] (aak C))(tu:bT K dH ["self","row","column"] [])(T:qF K mg "Taken" CT f0 ["row","column"])(Y:cj P w K mg base dN 1 f0 fK ["self","row","column"] (K1 CT "row" "column"))(N6:bT K fK ["self","row","column"] []):DefX P w K mg base "check_free" 5 ["board","laying"] (Ug C CT):=by
 refine D.xO qT (λvs H Q E h=>?_) (λf bO A outer s H vs Q E hr h=>?_)
 .let⟨b,t,as,ts,r,w,aF,aO,bi,bj,rfl,_⟩:=h;rfl
 .let⟨b,t,as,ts,r,w,aF,aO,bi,bj,rfl,BA,ht,hL,fJ,qE,q⟩:=h;let Z:=T.M;let O:=T.vZ;let hal:=hL.len;calc(aj _ (aG (gG ka rL (iI bf) (qI rL (cG (bQ (i:=2) qT.nd rL (Or.inl rL)) (cG (bQ (i:=3) qT.nd rL (Or.inl rL)) (cG (bQ (i:=4) qT.nd rL (Or.inl rL)) o9)))) (aG (cD (bV KC (nY aH cM.cl sX sY hr.mono tu .nil eY (ak bG (ak bL aq))) (uL qf gY) (bM _)) (aG (vm o_ rL Z Y hr.mono qf O N6 (ak bG (ak bL aq)))) bN)))) ?_);refine(aj _ rL (aX t rL ⟨_,aU.of ht⟩ (G7 (K:=K) (a:=t) (xs:=as.map V.ref) (λn σ H'=>∃v2 v3 v4:Option V,σ=[some (.ref b),some (.ref t),v2,v3,v4]/\aD H H'/\∀x∈ts.take n,tkT aF x=false)
   (pJ none none none rL (aD.refl _) (λx hx=>by simp at hx)) (λn σ H' _ h=>by let⟨_,_,_,_,I,_⟩:=h;show aU.of (I _ _ ht)) ?_ ?_)))
  .intro n x σ H' hx z;let⟨v2,v3,v4,rfl,I,j⟩:=z;let⟨hn,hx⟩:=rfg hx;let F:n<ts.length:=p_;subst hx;let⟨_,en⟩:=jV (hL.mv I) F;let⟨c1,c2,_⟩:=fJ _ (aS F);let J:=BA.mv I;let⟨dx0,_,_,_,ex,_⟩:=id J.ex;calc(aY (as[n]) _ rL (aU.of en) rL (dM _ _ rL (dM _ _ rL (aK _ _ rL rL ?_))));calc(aj _ rL (cY b dx0 _ rL ex rL (aj _ rL (aj _ rL (RT b r w aF aO bi bj _ _ rL J (aK [_] [46] rL rL (aj _ rL ?_)))))));rw[Ue c1 c2];cases G:tkT aF ts[n] with
   | true=>rw[show (!decide ([cell aF ts[n].1 ts[n].2.1]=[46]))=true from G];calc cA (aj _ rL (aX _ rL (zsz 2) (λa na=>(pJ a _ _ rL au (λdx ne nd=>?_)))));let⟨k0,k1,k2⟩:=Qs (q:=.ext (jt a (.ref CT) (some dx))) (p:=.ext (XD dx [("row",.int ts[n].1)])) (p2:=.ext (XD dx (Yj ts[n].1 ts[n].2.1))) na ne nd;show⟨rL,aj (some dx) k0 (qE ts[n] (Yk F j G) dx _ (I.trans k1) k2)⟩
   | false=>
    rw[show (!decide ([cell aF ts[n].1 ts[n].2.1]=[46]))=false from G];calc bR (pJ _ _ _ rL I (λx hx=>?_));rw[de,ac F]at hx;rcases bq.mp hx with z|z;.show j x z
    .rw[a_.mp z];show G
  .intro σ H' z;let⟨v2,v3,v4,rfl,I,j⟩:=z;rw[aa,hal,cz]at j;show q (Yl j) H' I
def Yn (j:Addr):Sp:=λvs H Q E=>∃(t:Addr) (as:List Addr) (ts:List cg),vs=[.ref t]/\H t=some (.tup (as.map V.ref))/\fV H as ts/\0<ts.length/\ts.length<=7/\
 ((uo ts||uq ts)=false->∀H',aD H H'->E (.ref j) none H')/\((uo ts||uq ts)=true->∀H',aD H H'->Q .non H')
def HS {I:Addr}(D:aN K mg "check_straight" oR ["laying"])(j:mg "Crooked"=some (.ref I))(F:W.excIn K I jl "ValueError.__new__"=true)(Z:bW P w K mg base "is_across" 1 ["laying"] Qt)(G:bW P w K mg base "is_down" 1 ["laying"] Ym):DefX P w K mg base "check_straight" 3 ["laying"] (Yn I):=by
 refine D.xO Hz (λvs H Q E h=>?_) (λf bO A outer s H vs Q E J h=>?_)
 .let⟨t,as,ts,rfl,_⟩:=h;rfl
 .let⟨t,as,ts,rfl,ht,O,h0,h7,qE,q⟩:=h;calc(aj _ (aG (cD (QW.qt (Aj (dW (cZ (bK Z J.mono rL (ak aH aq)))) (Hf (dW (cZ (bK G J.mono rL (ak aH aq))))))) (aG (xP o_ rL rL qf j F (ak (bI [116,104,101,32,99,101,108,108,115,32,97,114,101,32,110,111,116,32,105,110,32,111,110,101,32,108,105,110,101] qi) aq))) bN)) ?_);calc(aj _ rL (qP t as ts rL ht O h0 h7 (λH1 s1=>(aj _ rL ?_))));cases ha:uo ts with
  | true=>show bR (bR (q (by rw[ha];rfl) H1 s1))
  | false=>
   calc cA (aj _ rL (qP t as ts rL (s1 _ _ ht) (O.mv s1) h0 h7 (λY s2=>(aj _ rL ?_))));cases hd:uq ts with| true=>show bR (q (by rw[ha,hd];rfl) Y (s1.trans s2))| false=>show cA ⟨zsz 1,qE (by rw[ha,hd];rfl) Y (s1.trans s2)⟩
structure afv (R:AB)(a b c d i j:Nat):Prop where
 i1:a<=i
 i2:i<=b
 j1:c<=j
 j2:j<=d
 fr:cell R i j=46
 up:∀i' j',a<=i'->i'<i->c<=j'->j'<=d->cell R i' j'≠46
 le:∀j',c<=j'->j'<j->cell R i j'≠46
def L_ (R:AB)(a b c d:Nat):Prop:=∀i j,a<=i->i<=b->c<=j->j<=d->cell R i j≠46
def nO (ts:List cg):cg:=ts.getLastD (0,0,0)
def pZ (ts:List cg):cg:=ts.headD (0,0,0)
def ad_ {ts:List cg}(h:0<ts.length):nO ts=ts[ts.length-1]:=by unfold nO;rw[List.getLastD_eq_getLast?,oP,ac p_];rfl
def Uh (C CG:Addr):Sp:=λvs H Q E=>∃(b t:Addr) (as:List Addr) (ts:List cg) (r w:Nat) (aF aO:AB) (bi bj:Nat),vs=[.ref b,.ref t]/\dh C H b r w aF aO bi bj/\H t=some (.tup (as.map V.ref))/\fV H as ts/\(∀t∈ts,inB r w t)/\0<ts.length/\
 (∀i j,afv (fD aF ts) (pZ ts).1 (nO ts).1 (pZ ts).2.1 (nO ts).2.1 i j->∀(dx:Addr) (H':Hp),aD H H'->H' dx=some (.ext (XD dx (Yj i j)))->E (.ref CG) (some dx) H')/\
 (L_ (fD aF ts) (pZ ts).1 (nO ts).1 (pZ ts).2.1 (nO ts).2.1->∀H',aD H H'->Q .non H')
def Rq {C CG f0 f1 f2:Addr}{fK dH fd2:FuncData}(D:aN K mg "check_gaps" su ["board","laying"])(fQ:mg "range"=none)(gY:∃t,mg "FREE"=some (.str (S [46]) t))(cM:iz K C)(sX:Meth K C "at" f1)(sY:cj P w K mg base dN 3 f1 dH ["self","row","column"] (aak C))(tu:bT K dH ["self","row","column"] [])(lQ:Meth K C "laid" f2)(lR:cj P w K mg base dN 8 f2 fd2 ["self","laying"] (Fd C))(lU:bT K fd2 ["self","laying"] [])(T:qF K mg "Gap" CG f0 ["row","column"])(akD:cj P w K mg base dN 1 f0 fK ["self","row","column"] (K1 CG "row" "column"))(aap:bT K fK ["self","row","column"] []):DefX P w K mg base "check_gaps" 10 ["board","laying"] (Uh C CG):=by
 refine D.xO qU (λvs H Q E h=>?_) (λf bO A outer s H vs Q E hr h=>?_)
 .let⟨b,t,as,ts,r,w,aF,aO,bi,bj,rfl,_⟩:=h;rfl
 .let⟨b,t,as,ts,r,w,aF,aO,bi,bj,rfl,BA,ht,hL,fJ,h0,qE,q⟩:=h;let akE:=T.M;let aiV:=T.vZ;let hal:=hL.len;let r9:=BA.ok.r9;let w9:=BA.ok.w9;let⟨dx,_,_,_,ex,_⟩:=id BA.ex;calc(aj _ (aB (aW (i:=2) qU.nd rL (Or.inl rL) (nY aH cM.cl lQ lR hr.mono lU .nil eY (ak bf aq))) (aG (gG ka rL (Qc qf fQ (ak (bh bD (bh bD bf aA (λ_ _=>rfl)) aA (λ_ _=>rfl)) (ak (aL cW (bh bD (bh bD bf (oJ lF aA) (λ_ _=>rfl)) aA (λ_ _=>rfl)) aA) aq))) (bQ (i:=3) qU.nd rL (Or.inl rL)) (aG (gG ka rL (Qc qf fQ (ak (bh bD (bh bD bf aA (λ_ _=>rfl)) aA (λ_ _=>rfl)) (ak (aL cW (bh bD (bh bD bf (oJ lF aA) (λ_ _=>rfl)) aA (λ_ _=>rfl)) aA) aq))) (bQ (i:=4) qU.nd rL (Or.inl rL)) (aG (cD (bV jq (nY bG cM.cl sX sY hr.mono tu .nil eY (ak bL (ak cP aq))) (uL qf gY) (bM _)) (aG (vm o_ rL akE akD hr.mono qf aiV aap (ak bL (ak cP aq)))) bN))))))) ?_);calc(aj _ rL (cY b dx _ rL ex rL (aj _ rL (Eo b t as ts r w aF aO bi bj rL BA ht hL fJ (λx1 H1 s1 B1=>?_)))));rw[show pZ ts=ts[0] from xZ h0,ad_ h0]at qE q;let⟨a1,a2,_⟩:=fJ _ (aS h0);let⟨l1,l2,_⟩:=fJ _ (aS (show ts.length-1<ts.length by lia));let hL1:=hL.mv s1;let J:=s1 _ _ ht;let⟨g0,e0⟩:=jV hL1 h0;let⟨gl,el⟩:=jV hL1 (show ts.length-1<ts.length by lia);let eal:as.length-1=ts.length-1:=p_;let afw:rO (as.map V.ref) (-1)=some (.ref as[ts.length-1]):=by
   rw[agu (show 0<as.length by lia)];simp only[eal]
  generalize hR:fD aF ts=R at B1 qE q;generalize ef:ts[0]=ff at e0 qE q a1 a2;generalize eg:ts[ts.length-1]=ll at el qE q l1 l2;calc(aj _ rL (bw t _ _ (.ref as[0]) rL rL (aU.of J) (aP (j:=0) (by simp[g0])) (bw (as[0]) _ _ _ rL rL (aU.of e0) (aP (j:=0) rL) (aj _ rL (aj _ rL (bw t _ _ (.ref as[ts.length-1]) rL rL (aU.of J) afw (bw (as[ts.length-1]) _ _ _ rL rL (aU.of el) (aP (j:=0) rL) (aK _ _ rL rL (aK (ff.1:Int) ((ll.1:Int)+1) rL (RP p_ p_ p_ p_) ?_)))))))));refine pQ (lo:=(ff.1:Int)) (λn σ H'=>∃v3 O:Option V,σ=[some (.ref b),some (.ref t),some (.ref x1),v3,O]/\aD H1 H'/\∀i j,ff.1<=i->i<ff.1+n->ff.2.1<=j->j<=ll.2.1->cell R i j≠46)
   (aK none none rL (aD.refl _) (λi j Y z2=>by lia)) ?_ ?_
  .intro n σ H' hn z;let⟨v3,O,rfl,Z,I⟩:=z;let hn2:ff.1+n<=ll.1:=p_;let en:(ff.1:Int)+(n:Int)=((ff.1+n:Nat):Int):=p_;rw[en];let Qo:=Z _ _ J;let e02:=Z _ _ e0;let el2:=Z _ _ el;calc(aj _ rL (bw t _ _ (.ref as[0]) rL rL (aU.of Qo) (aP (j:=0) (by simp[g0])) (bw (as[0]) _ _ _ rL rL (aU.of e02) (aP (j:=1) rL) (aj _ rL (aj _ rL (bw t _ _ (.ref as[ts.length-1]) rL rL (aU.of Qo) afw (bw (as[ts.length-1]) _ _ _ rL rL (aU.of el2) (aP (j:=1) rL) (aK _ _ rL rL (aK (ff.2.1:Int) ((ll.2.1:Int)+1) rL (RP p_ p_ p_ p_) ?_)))))))));refine pQ (lo:=(ff.2.1:Int)) (λm σ H2=>∃O:Option V,σ=[some (.ref b),some (.ref t),some (.ref x1),some (.int ((ff.1+n:Nat):Int)),O]/\aD H1 H2/\∀j,ff.2.1<=j->j<ff.2.1+m->cell R (ff.1+n) j≠46)
    (aX _ rL Z (λj Y z2=>by lia)) ?_ ?_
   .intro m σ H2 hm z;let⟨O,rfl,F,G⟩:=z;let hm2:ff.2.1+m<=ll.2.1:=p_;let em:(ff.2.1:Int)+(m:Int)=((ff.2.1+m:Nat):Int):=p_;rw[em];let B2:=B1.mv F;let⟨dx1,_,_,_,Yg,_⟩:=id B2.ex;calc(aj _ rL (cY x1 dx1 _ rL Yg rL (aj _ rL (aj _ rL (RT x1 r w R aO bi bj _ _ rL B2 (aK [_] [46] rL rL (aj _ rL ?_)))))));rw[Ue (show ff.1+n<r by lia) (show ff.2.1+m<w by lia)];by_cases hc:cell R (ff.1+n) (ff.2.1+m)=46
    .rw[ai (show [cell R (ff.1+n) (ff.2.1+m)]=[46] by rw[hc])];calc cA (aj _ rL (aX _ rL (zsz 2) (λa na=>(pJ a _ _ rL au (λdx ne nd=>?_)))));let⟨k0,k1,k2⟩:=Qs (q:=.ext (jt a (.ref CG) (some dx))) (p:=.ext (XD dx [("row",.int (ff.1+n:Nat))])) (p2:=.ext (XD dx (Yj (ff.1+n) (ff.2.1+m)))) na ne nd;show⟨rL,aj (some dx) k0 (qE _ _ ⟨p_,hn2,p_,hm2,hc,I,G⟩ dx _ ((s1.trans F).trans k1) k2)⟩
    .rw[ag (show ¬[cell R (ff.1+n) (ff.2.1+m)]=[46] from λz=>hc (by injection z))];calc bR (aX _ rL F (λj Y z2=>?_));by_cases z:j=ff.2.1+m;.rw[z];show hc
     .show G j Y p_
   .intro σ H2 z;let⟨O,rfl,F,G⟩:=z;calc(aK _ _ rL F (λi j Y z2 z3 z4=>?_));by_cases z:i=ff.1+n;.rw[z];show G j z3 p_
    .show I i j Y p_ z3 z4
  .intro σ H' z;let⟨v3,O,rfl,Z,I⟩:=z;show q (λi j Y z2 z3 z4=>I i j Y p_ z3 z4) H' (s1.trans Z)
def oV (t:cg):Nat×Nat:=(t.1,t.2.1)
noncomputable def Dy (aF:AB)(r w bi bj:Nat)(ts:List cg):Bool:=if isFree aF=true then decide ((bi,bj)∈ts.map oV) else ts.any λt=>RZ aF r w t.1 t.2.1
theorem dZ.ofP {H:Hp}:∀{cs:List Addr} {j:List (Nat×Nat)},PL2 H cs j->dZ K H 1 (j.map λc=>Dt.tup [.int c.1,.int c.2]) (cs.map V.ref)
 | [],[],_=>.nil
 | [],_::_,h=>by have:=h.len;simp at this
 | _::_,[],h=>by have:=h.len;simp at this
 | a::cs,c::j,h=>.cons (.tup (aU.of (h.at_ 0 a c rL rL)) (.cons (.int _) (.cons (.int _) .nil))) (dZ.ofP ⟨by have:=h.len;simpa using this,λi a x h1 h2=>h.at_ (i+1) a x h1 h2⟩)
def Ma {c:Nat×Nat}{j:List (Nat×Nat)}:Dt.tup [.int c.1,.int c.2]∈(j.map λc=>Dt.tup [.int (c.1:Int),.int (c.2:Int)])↔c∈j:=by
 constructor
 .intro h;let⟨d,hd,e⟩:=be.mp h;injection e with e;injection e with e1 e2;injection e1 with e1;injection e2 with e2;injection e2 with e2;have:d=c:=Prod.ext (oq e1) (oq e2);rw[<-this];show hd
 .intro h;show be.mpr (aj c h rL)
def Ui (C j:Addr):Sp:=λvs H Q E=>∃(b t:Addr) (as:List Addr) (ts:List cg) (r w:Nat) (aF aO:AB) (bi bj:Nat),vs=[.ref b,.ref t]/\dh C H b r w aF aO bi bj/\H t=some (.tup (as.map V.ref))/\fV H as ts/\ts.length<=7/\
 (Dy aF r w bi bj ts=false->∀H',aD H H'->E (.ref j) none H')/\(Dy aF r w bi bj ts=true->∀H',aD H H'->Q .non H')
open Classical in
def Mf {C CA f1:Addr}{dH:FuncData}(D:aN K mg "check_joined" qm ["board","laying"])(zc:mg "any"=none)(cM:iz K C)(tD:Meth K C "is_free" f1)(tE:cj P w K mg base dN 1 f1 dH ["self"] (T3 C))(tG:bT K dH ["self"] [])(aea:mg "Apart"=some (.ref CA))(agy:W.excIn K CA jl "ValueError.__new__"=true)(sW:bW P w K mg base "cells_of" 1 ["laying"] yZ)(Fe:bW P w K mg base "is_next_to_taken" 5 ["board","row","column"] (Uc C)):DefX P w K mg base "check_joined" 7 ["board","laying"] (Ui C CA):=by
 refine D.xO sJ (λvs H Q E h=>?_) (λf bO A outer s H vs Q E I h=>?_)
 .let⟨b,t,as,ts,r,w,aF,aO,bi,bj,rfl,_⟩:=h;rfl
 .let⟨b,t,as,ts,r,w,aF,aO,bi,bj,rfl,BA,ht,J,h7,qE,q⟩:=h;let hal:=J.len;let⟨dx,pr,pm,pb,ex,_,_,hpb⟩:=id BA.ex;calc(aj _ (aB (gU (cD (cZ (gR aH cM.cl tD tE I.mono tG .nil eY)) (aG (aW (i:=2) sJ.nd rL (Or.inl rL) (d8 (X5 I.units) (bZ aH rL) (bK sW I.mono rL (ak bf aq)) rL))) (aG (aW (i:=2) sJ.nd rL (Or.inl rL) (aQ (Tn rL) qf zc Qf (ak (mY (ns:=["row","column","sign"]) rL (jX.of ["board","laying","joined"] [] qh) (iI bf) (λ_ _ _ _ _=>(qg K rL (show (["row","column","sign","board","laying","joined"]:List Str).Nodup by decide +kernel) rL rL rL qf qf qf)) (λ_ _ _ _ _=>fH) (λ_ _ _ _ _=>(bK Fe I.mono rL (ak bL (ak aH (ak bf aq)))))) aq)))))) (aG (cD (dW (cZ bG)) (aG (xP o_ rL rL qf aea agy (ak (bI [116,104,101,32,108,97,121,105,110,103,32,105,115,32,106,111,105,110,101,100,32,116,111,32,110,111,116,104,105,110,103] qi) aq))) bN))) ?_);refine(aj (λσ H'=>aD H H'/\σ=[some (.ref b),some (.ref t),some (.bl (Dy aF r w bi bj ts))]) ?_ ?_)
  .calc(aj _ rL (cY b dx _ rL ex rL ⟨b,r,w,aF,aO,bi,bj,rL,BA,λH1 s1=>(aj _ rL ?_)⟩));cases hf:isFree aF with
   | true=>
    calc cA (aj _ rL (cT b C dx _ _ rL (s1 _ _ ex) cM.cl cM.nb rL (aj _ rL (eG t as ts rL (s1 _ _ ht) (J.mv s1) p_ (λLc cs H2 s2 Y O=>?_)))));let alo:=s2 _ _ (s1 _ _ hpb);calc(cY 2 (.tup [.int bi,.int bj]) ((ts.map oV).map λc=>Dt.tup [.int c.1,.int c.2]) qc (.tup (aU.of alo) (.cons (.int _) (.cons (.int _) .nil))) (.lst (bJ.of Y) (dZ.ofP O)) ?_);calc⟨s1.trans s2,?_⟩;let e:Dy aF r w bi bj ts=decide ((bi,bj)∈ts.map oV):=by unfold Dy;rw[if_pos hf]
    rw[e];simp only[fF,if_false];by_cases hm:(bi,bj)∈ts.map oV;.rw[ai hm,ai (Ma (c:=(bi,bj)).mpr hm)];rfl
    .rw[ag hm,ag (λz=>hm (Ma (c:=(bi,bj)).mp z))];rfl
   | false=>
    refine bR (aj _ rL (aX t rL ⟨_,aU.of (s1 _ _ ht)⟩ (λN hN=>kY (K:=K) (KT:=K) (a:=t) (f:=j4 [] 0) (tt:=mW) (xs:=as.map V.ref) (λn ys G=>ys=((ts.take n).map λt=>RZ aF r w t.1 t.2.1).map V.bl/\G N=some (.lst ys)/\aD H1 G)
     (cF rL au (aD.upd hN)) (λn ys G _ h=>aU.of (h.2.2 _ _ (s1 _ _ ht))) ?_ ?_)))
    .intro n x ys G hx z;let⟨rfl,Z,j⟩:=z;let⟨hn,hx⟩:=rfg hx;let F:n<ts.length:=p_;let fX:=s1.trans j;let⟨_,en⟩:=jV (J.mv fX) F;calc wF hx.symm (aU.of en) ?_;calc(aj _ rL (aj _ rL (aj _ rL (RT b r w aF aO bi bj _ _ rL (BA.mv fX) (λH4 s4=>(cF (s4 _ _ Z) ?_ (iW.mk (by rw[aa];show hn) (cF ?_ au ((j.trans s4).dY hN)))))))));.rw[aa,aa,ap];show aM p_
     .rw[take_snoc (ac F),bu];rfl
    .intro ys G z;let⟨rfl,Z,j⟩:=z;calc(aY N _ rL (bJ.of Z) (s1.trans j) ?_);rw[aa,hal,cz,any_map];let e:Dy aF r w bi bj ts=ts.any λt=>RZ aF r w t.1 t.2.1:=by unfold Dy;rw[if_neg (by rw[hf];decide)]
     rw[e];rfl
  .rintro σ H' ⟨sm,rfl⟩;calc(aj _ rL (aj _ rL ?_));cases hj:Dy aF r w bi bj ts with| true=>show bR (q hj H' sm)| false=>show cA ⟨zsz 1,qE hj H' sm⟩
structure zK (w:List Nat):Prop where
 lo:2<=w.length
 hi:w.length<=9
 az:∀c∈w,isLet c
def Uj:Sp:=λvs H Q _=>∃l:List Nat,vs=[.str (S l)]/\zK l/\∀H',aD H H'->Q (.bl true) H'
def acd {c:Nat}(h:isLet c):decide ([c]<[97])=false/\decide ([122]<[c])=false:=by
 let j:∀a b:Nat,([a]<[b])↔a<b:=λa b=>by simp[ij]
 constructor;.rw[ag];rw[j];have:=h.1;lia
 .rw[ag];rw[j];have:=h.2;lia
def aaq (D:aN K mg "is_word" yO ["text"])(Y:mg "len"=none)(F:mg "all"=none):bW P w K mg base "is_word" 1 ["text"] Uj:=by
 calc D.dD Lg (λf bO A outer s H vs Q E Z h=>?_);let⟨l,rfl,hw,q⟩:=h;let h1:=hw.lo;let h2:=hw.hi;let hz:l.length<=sizeLine:=am (aM p_);refine(aj _ (aG (bC (jA (mX qO qO aA (aQ dO qf Y ax (ak aH aq)) aA)
  (ji (aQ (kh rL) qf F qi (ak (jZ rL (jz.of Lg.nd qh) (rT aH) (λ_ _ _ _ _=>fH)
   (λ_ _ _ _ _=>mX o7 o7 (bI [97] qi) aH (bI [122] qi))) aq)))))) ?_)
 calc(aj _ rL (aX l rL hz (aK _ _ rL rL (aj true (by simp;lia) ?_))));calc cA (aK _ _ rL rL (aj true (by simp;lia) ?_));calc cA ?_;refine(aj _ rL (aj l rL (λL O=>xK (λi ys G=>ys=(List.replicate i true).map V.bl/\G L=some (.lst ys)/\aD H G) (cF rL au (aD.upd O)) ?_ ?_)))
 .intro i c ys G hi z;let⟨rfl,j,I⟩:=z;let J:i<l.length:=(ah.mp hi).1;let⟨a1,a2⟩:=acd (hw.az c (bv hi));calc(aj _ rL (aK [97] [c] rL rL (aj true (by rw[a1];rfl) (cA (dw [c] [122] rL rL j ?_ (iW.mk J (cF ?_ au (I.dY O))))))));.rw[aa,ce];show aM p_
  .rw[a2,gt,bu];rfl
 .intro ys G z;let⟨rfl,j,I⟩:=z;calc(aK L (List.replicate l.length true) rL (bJ.of j) ?_);let e:(List.replicate l.length true).all id=true:=qa;rw[e];show q G I
def Yo:Sp:=λvs H Q _=>∃l:List Nat,vs=[.str (S l)]/\zK l/\∀H',aD H H'->Q .non H'
def Rr (D:aN K mg "check_word" sO ["text"])(j:bW P w K mg base "is_word" 1 ["text"] Uj):bW P w K mg base "check_word" 2 ["text"] Yo:=by calc D.dD Rg (λf bO A outer s H vs Q E F h=>?_);let⟨l,rfl,hw,q⟩:=h;calc(aj _ (aG (cD (dW (cZ (bK j F rL (ak aH aq)))) mC bN)) ?_);calc(aj _ rL (aX l rL hw (λH1 s1=>(aj true rL ?_))));show bR (q H1 s1)
structure uw (K:W.Frag)(C:Addr):Prop where
 cl:Cls K C
 nh:jh K C "held"
def qM (ws:AB):List (Key×V):=ws.map λl=>(dz l,V.bl true)
def aeb (ws:AB):(qM ws).map (·.1)=ws.map dz:=by unfold qM;rw[fR];rfl
def aec {a b:List Nat}(h:dz a=dz b):a=b:=yE (lI h)
def N7 (ws:AB)(l:List Nat):gM (qM ws) (dz l)=if l∈ws then some (.bl true) else none:=by
 induction ws with
 | nil=>simp[qM,gM]
 | cons a r ih=>
  by_cases e:a=l
  .subst e;have:gM (qM (a::r)) (dz a)=some (.bl true):=j9 (p:=(dz a,V.bl true)) rfl;rw[this];simp
  .have:gM (qM (a::r)) (dz l)=gM (qM r) (dz l):=j_ (p:=(dz a,V.bl true)) λz=>e (aec z)
   rw[this,ih];let j:¬l=a:=λz=>e z.symm;simp[j]
def agz {ws:AB}{l:List Nat}(h:l∈ws):putK (qM ws) (dz l) (.bl true)=qM ws:=by
 let j:((qM ws).any λF=>decide (F.1=dz l))=true:=by rw[ud,N7,if_pos h];rfl
 unfold putK;rw[if_pos j];calc(fz λF D=>?_).trans (kK _);let⟨a,_,rfl⟩:=be.mp D;by_cases e:dz a=dz l;.simp[e]
 .simp[e]
def agA {ws:AB}{l:List Nat}(h:l∉ws):putK (qM ws) (dz l) (.bl true)=qM (ws++[l]):=by rw[adw _ (by rw[N7,if_neg h])];simp[qM]
structure iJ (C:Addr)(H:Hp)(p d:Addr)(ws:AB):Prop where
 ob:∃dx,H p=some (.ins C dx [("held",.ref d)])
 dc:H d=some (.dK (qM ws))
 nd:ws.Nodup
 az:∀l∈ws,zK l
def zL (ws:AB)(l:List Nat):List (List Nat):=if l∈ws then ws else ws++[l]
def Uk (ws:AB)(l:List Nat):putK (qM ws) (dz l) (.bl true)=qM (zL ws l):=by
 unfold zL;split;.rename_i h;show agz h
 .rename_i h;show agA h
def Yp {ws:AB}{l:List Nat}(h:ws.Nodup):(zL ws l).Nodup:=by
 unfold zL;split;.show h
 .rename_i hl;show Xy h hl
def Ul {ws:AB}{l x:List Nat}:x∈zL ws l↔x∈ws\/x=l:=by
 unfold zL;split;.rename_i h;show⟨.inl,λz=>z.elim id λe=>e ▸ h⟩
 .simp
def Um (ws:AB)(l:List Nat):(zL ws l).length<=ws.length+1:=by
 unfold zL;split;.lia
 .simp
def akF (K:W.Frag)(H:Hp)(a:Addr)(ls:AB):Prop:=bJ K H a (Ts ls)\/aU K H a (Ts ls)
def Uo (K:W.Frag)(C:Addr):Sp:=λvs H Q _=>∃(p dx a:Addr) (ls:AB),vs=[.ref p,.ref a]/\H p=some (.ins C dx [])/\akF K H a ls/\(∀l∈ls,zK l)/\ls.length<=200/\
 ∀(d:Addr) (ws:AB) (H':Hp),H d=none->iJ C H' p d ws->(∀x,x∈ws↔x∈ls)->ws.length<=ls.length->(∀b o,H b=some o->b≠p->H' b=some o)->Q .non H'
def agB {f C:Addr}{fd:FuncData}(F:fG K "__init__" "Book.__init__" nj f fd)(T:uw K C)(D1:bW P w K mg base "check_word" 2 ["text"] Yo):cj P w K mg base dN 3 f fd ["self","words"] (Uo K C):=by
 calc F.dD Ez (λbO A outer s H vs Q E hr h=>?_);let⟨p,dx,a,ls,rfl,hp,hS,hW,hn,k⟩:=h;let hu:=RJ hr;let nd:=Ez.nd;refine(aj _ (aB (mD aH S6 rL) (aG (gG cE rL ((nW bf).or (iI bf)) (bQ (i:=2) nd rL (Or.inl rL))
  (aB (dF (bK D1 hr rL (ak bG aq))) (aG (XM hu (bZ aH rL) bG eO rL)))))) ?_)
 intro d hd;let Y:p≠d:=bF hp hd;calc(aj _ rL (gW p C dx [] rL (by rw[aZ Y];show hp) T.cl T.nh (by show 0<1000;decide) ?_));let hP1:upd (upd H d (HO.dK [])) p (HO.ins C dx (iZ "held" (V.ref d) [])) p=some (.ins C dx [("held",.ref d)]):=au;let hD1:upd (upd H d (HO.dK [])) p (HO.ins C dx (iZ "held" (V.ref d) [])) d=some (.dK (qM [])):=by rw[aZ Y.symm,au];rfl
 let O:∀b o,H b=some o->b≠p->upd (upd H d (HO.dK [])) p (HO.ins C dx (iZ "held" (V.ref d) [])) b=some o:=λb o e hb=>by rw[aZ hb,aZ (bF e hd)];show e
 generalize upd (upd H d (HO.dK [])) p (HO.ins C dx (iZ "held" (V.ref d) []))=H1 at hP1 hD1 O ⊢;let npl:∀o,H p=some o->(∀ys,o≠.lst ys)/\∀u ys,o≠.qG u (.lst ys):=λo e=>by rw[hp]at e;cases e;show⟨λ_ z=>(nomatch z),λ_ _ z=>(nomatch z)⟩
 let npt:∀o,H p=some o->(∀ys,o≠.tup ys)/\∀u ys,o≠.qG u (.tup ys):=λo e=>by rw[hp]at e;cases e;show⟨λ_ z=>(nomatch z),λ_ _ z=>(nomatch z)⟩
 rcases hS with hS|hS
 .refine .inl (aj _ rL (aX a rL ⟨_,hS.keep O npl⟩ (mU (K:=K) (a:=a) (xs:=Ts ls) (λi σ D=>∃(v2:Option V) (ws:AB),σ=[some (.ref p),some (.ref a),v2]/\D p=some (.ins C dx [("held",.ref d)])/\D d=some (.dK (qM ws))/\ws.Nodup/\
   (∀x,x∈ws↔x∈ls.take i)/\ws.length<=i/\∀b o,H b=some o->b≠p->D b=some o) (K5 none [] rL hP1 hD1 pV (λx=>by simp) (al _) O) (λi σ D _ ⟨_,_,_,_,_,_,_,_,kp⟩=>hS.keep kp npl) ?_ ?_)))
  .intro i y σ D hi z;let⟨v2,ws,rfl,j,J,G,hm,hl,kp⟩:=z;rw[ck]at hi;let⟨l,I,e⟩:=dv.mp hi;subst e;let hil:i<ls.length:=(ah.mp I).1;calc(aj _ rL (aX l rL (hW l (bv I)) (λH3 Z=>?_)));let hd3:=Z _ _ J;calc(aj _ rL (cT p C dx _ _ rL (Z _ _ j) T.cl T.nh rL (aj _ rL (aK d _ rL (Jd.k (k:=dz l) hd3 (by rw[qM,aa];show aM p_)) ?_))));calc(K5 _ (zL ws l) rL (by rw[aZ Y];show Z _ _ j) (by rw[au,Uk]) (Yp G) (λx=>?_) (bE (Um _ _) p_) (λb o e hb=>?_));.rw[Ul,hm,de,I];simp
   .rw[aZ (bF e hd)];show Z _ _ (kp b o e hb)
  .intro σ D z;let⟨v2,ws,rfl,j,J,G,hm,hl,kp⟩:=z;rw[aa]at hm hl;rw[cz]at hm;show k d ws D hd ⟨⟨dx,j⟩,J,G,λl hl=>hW l ((hm l).mp hl)⟩ hm hl kp
 .refine .inr (aj _ rL (aX a rL ⟨_,hS.keep O npt⟩ (G7 (K:=K) (a:=a) (xs:=Ts ls) (λi σ D=>∃(v2:Option V) (ws:AB),σ=[some (.ref p),some (.ref a),v2]/\D p=some (.ins C dx [("held",.ref d)])/\D d=some (.dK (qM ws))/\ws.Nodup/\
   (∀x,x∈ws↔x∈ls.take i)/\ws.length<=i/\∀b o,H b=some o->b≠p->D b=some o) (K5 none [] rL hP1 hD1 pV (λx=>by simp) (al _) O) (λi σ D _ ⟨_,_,_,_,_,_,_,_,kp⟩=>hS.keep kp npt) ?_ ?_)))
  .intro i y σ D hi z;let⟨v2,ws,rfl,j,J,G,hm,hl,kp⟩:=z;rw[ck]at hi;let⟨l,I,e⟩:=dv.mp hi;subst e;let hil:i<ls.length:=(ah.mp I).1;calc(aj _ rL (aX l rL (hW l (bv I)) (λH3 Z=>?_)));let hd3:=Z _ _ J;calc(aj _ rL (cT p C dx _ _ rL (Z _ _ j) T.cl T.nh rL (aj _ rL (aK d _ rL (Jd.k (k:=dz l) hd3 (by rw[qM,aa];show aM p_)) ?_))));calc(K5 _ (zL ws l) rL (by rw[aZ Y];show Z _ _ j) (by rw[au,Uk]) (Yp G) (λx=>?_) (bE (Um _ _) p_) (λb o e hb=>?_));.rw[Ul,hm,de,I];simp
   .rw[aZ (bF e hd)];show Z _ _ (kp b o e hb)
  .intro σ D z;let⟨v2,ws,rfl,j,J,G,hm,hl,kp⟩:=z;rw[aa]at hm hl;rw[cz]at hm;show k d ws D hd ⟨⟨dx,j⟩,J,G,λl hl=>hW l ((hm l).mp hl)⟩ hm hl kp
def afx (C:Addr):Sp:=λvs H Q _=>∃(p d:Addr) (ws:AB) (l:List Nat),vs=[.ref p,.str (S l)]/\iJ C H p d ws/\Q (.bl (decide (l∈ws))) H
def aiW {f C:Addr}{fd:FuncData}(F:fG K "has" "Book.has" oU f fd)(T:uw K C):cj P w K mg base dN 1 f fd ["self","text"] (afx C):=by
 calc F.dD WX (λbO A outer s H vs Q E j h=>?_);let⟨p,d,ws,l,rfl,B,q⟩:=h;let D:=RJ j;obtain⟨⟨dx,hp⟩,hd,_,_⟩:=id B;calc(aj _ (aG (bC (air (aiq D bf (bZ aH rL))))) ?_);calc(aj _ rL (aj _ rL (cT p C dx _ _ rL hp T.cl T.nh rL (aK d _ rL (zG.k (k:=dz l) hd) ?_))));rw[N7];by_cases h:l∈ws;.rw[if_pos h];simpa [h] using q
 .rw[if_neg h];simpa [h] using q
def alp (ws:AB):Prop:=ws.Pairwise (λa b=>decide (b<a)=false)
def Yq (C:Addr):Sp:=λvs H Q _=>∃(p d:Addr) (ws:AB),vs=[.ref p]/\iJ C H p d ws/\ws.length<64/\
 ∀(t:Addr) (us:AB) (H':Hp),aD H H'->H t=none->H' t=some (.tup (Ts us))->us.Perm ws->alp us->Q (.ref t) H'
def aed {f C:Addr}{fd:FuncData}(F:fG K "words" "Book.words" lN f fd)(T:uw K C)(G:mg "sorted"=none)(j:mg "tuple"=none):cj P w K mg base dN 1 f fd ["self"] (Yq C):=by calc F.dD Rh (λbO A outer s H vs Q E O h=>?_);let⟨p,d,ws,rfl,B,D,q⟩:=h;obtain⟨⟨dx,hp⟩,hd,_,_⟩:=id B;calc(aj _ (aG (bC (f9 jx qf j c9 (ak (aQ (S7 rL) qf G fN (ak (bZ aH rL) aq)) aq)))) ?_);calc(aj _ rL (cT p C dx _ _ rL hp T.cl T.nh rL (eG d _ ws rL hd (aeb ws) D (λt us ht pm J=>?_))));calc(dM t _ rL (.inl ⟨bJ.of au,λv I=>?_⟩));let s1:aD H (upd H t (.lst (Ts us))):=aD.upd ht;show q v us _ (s1.dY (s1.free I)) (s1.free I) au pm J
def iH (c:Nat):Nat:=if 65<=c/\c<=90 then 63 else c
def sgN (c:Nat):Prop:=isLet c\/(65<=c/\c<=90)
def sgN.lt {c:Nat}(h:sgN c):c<128:=by
 rcases h with h|h;.have:=h.2;lia
 .lia
noncomputable def Ay (left:AB):List Nat->Sum Nat (List (List Nat))
 | []=>.inr left
 | c::cs=>if [iH c]∈left then Ay (left.erase [iH c]) cs else .inl (iH c)
theorem Yr:∀{us:AB},(∀l∈us,l.length=1)->us.flatten.length=us.length
 | [],_=>rfl
 | u::us,h=>by rw[fb,av,Yr λl hl=>h l (bz _ hl),h u cq,dE];lia
def ace:Sp:=λvs H Q _=>∃c:Nat,vs=[.str (S [c])]/\c<128/\Q (.str (S [iH c])) H
def le1 (a b:Nat):(!decide ([b]<[a]))=decide (a<=b):=by
 by_cases h:a<=b;.rw[ai h,ag (by simp[ij];lia)];rfl
 .rw[ag h,ai (by simp[ij];lia)];rfl
def aar (D:aN K mg "tile_of" yK ["sign"]):bW P w K mg base "tile_of" 1 ["sign"] ace:=by
 calc D.dD Z_ (λf bO A outer s H vs Q E F h=>?_);let⟨c,rfl,j,q⟩:=h;calc(aj _ (aG (bC (oK (Bu o7 o7 (bI [65] qi) aH (bI [90] qi)) (bI [63] qi) aH))) ?_);calc(aj _ rL (aK [65] [c] rL rL ?_));rw[le1];unfold iH at q;by_cases h1:65<=c
 .rw[ai h1];calc(aj _ rL (cA (aK [c] [90] rL rL ?_)));rw[le1];by_cases h2:c<=90
  .rw[if_pos ⟨h1,h2⟩]at q;rw[ai h2];show(aj _ rL (cA q))
  .rw[if_neg λz=>h2 z.2]at q;rw[ag h2];show(aj _ rL (bR (aj _ rL q)))
 .rw[if_neg λz=>h1 z.1]at q;rw[ag h1];show(aj _ rL (bR (aj _ rL (bR (aj _ rL q)))))
def acf (x:List Nat)(ws:AB):inV (.str (S x)) (Ts ws)=decide (x∈ws):=by
 unfold inV
 induction ws with
 | nil=>simp[Ts]
 | cons y ws ih=>
  let e:D_ (.str (S y)) (.str (S x))=decide (y=x):=by
   show decide (S y=S x)=_;by_cases h:y=x;.rw[h];simp
   .let h2:S y≠S x:=λe=>h (yE e)
    simp[h,h2]
  show (D_ (.str (S y)) (.str (S x))||(Ts ws).any _)=_;rw[e,ih];by_cases h:y=x;.simp[h]
  .let h2:¬x=y:=λe=>h e.symm
   simp[h,h2]
def N8 (ws:AB):(Ts ws).all wD=true:=by rw[fk];intro x hx;let⟨l,_,rfl⟩:=be.mp hx;rfl
def aas {f C R:Addr}{fd:FuncData}(F:fG K "__init__" "Lacking.__init__" jD f fd)(D:mg "RackError"=some (.ref R))(j:InitOf K R)(T:qF K mg "Lacking" C f ["tile"]):cj P w K mg base dN 1 f fd ["self","tile"] (KZ C "tile"):=by calc F.dD K_ (λbO A outer s H vs Q E G h=>?_);let⟨a,v,rfl,ha,q⟩:=h;calc(aj _ (aB (dF (wG qf D j (ak aH (ak bf aq)))) (aG (xr aH bf rL))) ?_);calc(aj _ rL (aj _ rL (BJ a C f none [v] rL ha T.M.ini (zsz 1) ?_)));show(aj _ rL (aj _ rL (eG a C none rL ha T.T (T.no _ qa) (.inl ⟨rL,λdx ne nd=>q dx ne nd⟩))))
def Mg (C:Addr):Sp:=λvs H Q E=>∃(bU j:List Nat),vs=[.str (S bU),.str (S j)]/\bU.length<=63/\j.length<=63/\(∀c∈j,c<128)/\
 (∀t,Ay (bU.map λc=>[c]) j=.inl t->∀(dx:Addr) (H':Hp),aD H H'->H' dx=some (.ext (XD dx [("tile",.str (S [t]))]))->E (.ref C) (some dx) H')/\
 (∀left,Ay (bU.map λc=>[c]) j=.inr left->∀(ws:AB) (H':Hp),aD H H'->ws.Perm left->ws.Pairwise (λa b=>decide (b<a)=false)->Q (.str (S ws.flatten)) H')
def aat {C f0:Addr}{fK:FuncData}(D:aN K mg "left_of" yL ["rack","signs"])(i_:mg "list"=none)(iR:mg "sorted"=none)(T:qF K mg "Lacking" C f0 ["tile"])(acg:cj P w K mg base dN 1 f0 fK ["self","tile"] (KZ C "tile"))(Fg:bT K fK ["self","tile"] [])(ach:bW P w K mg base "tile_of" 1 ["sign"] ace):DefX P w K mg base "left_of" 3 ["rack","signs"] (Mg C):=by
 refine D.xO wI (λvs H Q E h=>?_) (λf bO A outer s H vs Q E hr h=>?_)
 .let⟨bU,j,rfl,_⟩:=h;rfl
 .let⟨bU,j,rfl,alq,alU,hsg,qE,q⟩:=h;let aci:=T.M;let Ce:=T.vZ;calc(aj _ (aB (aW (i:=2) wI.nd rL (Or.inl rL) (f9 (oM rL) qf i_ ft (ak aH aq))) (aB (gG ka rL (rT bf) (bQ (i:=3) wI.nd rL (Or.inl rL)) (aB (aW (i:=4) wI.nd rL (Or.inl rL) (bK ach hr.mono rL (ak bL aq))) (aB (cD (bV xH cP bG rL) (aG (vm o_ rL aci acg hr.mono qf Ce Fg (ak cP aq))) bN) (aG (dF (gP bS iN iO yF bG (ak cP aq))))))) (aG (bC (gP bp dq dr rC (bI [] qi) (ak (aQ Ej qf iR fN (ak bG aq)) aq)))))) ?_);calc(aj _ rL (aX bU rL p_ (λL hL=>?_)));let s1:aD H (upd H L (.lst (Ts (bU.map λc=>[c])))):=aD.upd hL;calc(aj _ rL (aj j rL ?_));refine Hg (λi σ Y=>∃(v3 v4:Option V) (us:AB),σ=[some (.str (S bU)),some (.str (S j)),some (.ref L),v3,v4]/\aD H Y/\Y L=some (.lst (Ts us))/\us.length<=63/\(∀l∈us,l.length=1)/\Ay (bU.map λc=>[c]) j=Ay us (j.drop i))
   (qP none none (bU.map λc=>[c]) rL s1 au (by rw[aa];show alq) (λl hl=>by let⟨c,_,rfl⟩:=be.mp hl;rfl) (by rw[kf])) ?_ ?_
  .intro i c σ Y Z z;let⟨v3,v4,us,rfl,O,G,Mh,I,F⟩:=z;let hcs:=hsg c (bv Z);let hi:i<j.length:=(ah.mp Z).1;let J:j.drop i=c::j.drop (i+1):=by
    rw[gh hi];rw[ac hi]at Z;rw[bo Z]
   rw[J]at F;calc(aj _ rL (aX c rL hcs ?_));calc(aj _ rL (aj _ rL (dw L (Ts us) rL (.inl (bJ.of G)) rL (N8 us) ?_)));rw[acf];by_cases hm:[iH c]∈us
   .rw[ai hm];calc(aj _ rL (bR (aX _ rL (.inl ⟨rL,_,bJ.of G⟩) (aj _ rL (qP L us [iH c] rL rL G hm p_ ?_)))));calc(qP _ _ (us.erase [iH c]) rL (O.dY hL) au ?_ (λl hl=>I l (List.mem_of_mem_erase hl)) ?_);.have:=(kX (a:=[iH c]) (l:=us)).length_le;lia
    .rw[F];show (if _ then _ else _)=_;rw[if_pos hm]
   .rw[ag hm];let e:Ay (bU.map λc=>[c]) j=.inl (iH c):=by rw[F];show (if _ then _ else _)=_;rw[if_neg hm]
    calc(aj _ rL (cA (aX _ rL (zsz 1) (λa na=>(aK a _ rL au (λdx ne nd=>⟨rL,aj (some dx) au ?_⟩))))));let⟨k1,k2⟩:=drop_new (q:=.ext (jt a (.ref C) (some dx))) (p:=.ext (XD dx [("tile",.str (S [iH c]))])) na ne nd;show qE _ e dx _ (O.trans k1) k2
  .intro σ Y z;let⟨v3,v4,us,rfl,O,G,Mh,I,F⟩:=z;rw[mh]at F;calc⟨rL,aj _ rL (aY L us rL (bJ.of G) p_ (λp ws hp pm pw=>?_))⟩;calc(dw p ws rL rL (bJ.of au) ?_ ?_);.rw[Yr λl hl=>I l (pm.mem_iff.mp hl),pm.length_eq];lia
   .show q us F ws _ (O.dY (O.free hp)) pm pw
def acj {f C R:Addr}{fd:FuncData}(F:fG K "__init__" "NoWord.__init__" kj f fd)(D:mg "RackError"=some (.ref R))(j:InitOf K R)(T:qF K mg "NoWord" C f ["word"]):cj P w K mg base dN 1 f fd ["self","word"] (KZ C "word"):=by calc F.dD Nq (λbO A outer s H vs Q E G h=>?_);let⟨a,v,rfl,ha,q⟩:=h;calc(aj _ (aB (dF (wG qf D j (ak aH (ak bf aq)))) (aG (xr aH bf rL))) ?_);calc(aj _ rL (aj _ rL (BJ a C f none [v] rL ha T.M.ini (zsz 1) ?_)));show(aj _ rL (aj _ rL (eG a C none rL ha T.T (T.no _ qa) (.inl ⟨rL,λdx ne nd=>q dx ne nd⟩))))
theorem Fi {p:Nat->Bool}:∀{l:List Nat} {c:Nat},c∈l.takeWhile p->c∈l/\p c=true
 | [],c,h=>by simp at h
 | a::l,c,h=>by
  rw[List.takeWhile_cons]at h;by_cases z:p a=true
  .rw[if_pos z]at h;rcases bX.mp h with e|e;.rw[e];show⟨cq,z⟩
   .have:=Fi e;show⟨bz _ this.1,this.2⟩
  .rw[if_neg z]at h;simp at h
def aee {r w:Nat}{R:AB}(hb:Blk r w R)(hp:∀l∈R,∀c∈l,Dw c){i j wy:Nat}(hi:i<r)(F:j<w):∀c∈lineOf R i j (wy:Int),Dw c:=λc D=>by
 unfold lineOf at D;split at D
 .rw[ay,ac (by rw[hb.len];show hi)]at D;show hp _ (aS _) c D
 .let⟨l,hl,e⟩:=be.mp D;let hw:=hb.sU l hl;let e2:l.getD j 0=l[j]:=by rw[ay,ac (show j<l.length by lia)];rfl
  rw[<-e,e2];show hp l hl _ (aS _)
def agD {r w:Nat}{R:AB}(hb:Blk r w R)(hp:∀l∈R,∀c∈l,Dw c){i j wy:Nat}(hi:i<r)(F:j<w):∀c∈(um R i j wy).2.2.2,rG c:=λc G=>by
 let D:∀c,c∈lineOf R i j (wy:Int)->(c != 46)=true->rG c:=λc h1 h2=>by
  rcases aee hb hp hi F c h1 with z|z;.rw[z]at h2;cases h2
  .show z
 rcases bq.mp (show c∈jd _++jM _ from G) with z|z
 .unfold jd at z;have:=Fi (List.mem_reverse.mp z);show D c (c_ (List.mem_reverse.mp this.1)) this.2
 .have:=Fi z;show D c (eJ this.1) this.2
def aef {r w:Nat}{aF:AB}{ts:List cg}(hb:Blk r w (fD aF ts))(hp:∀l∈fD aF ts,∀c∈l,Dw c)(J:∀t∈ts,inB r w t):∀q∈jU aF ts,∀c∈q.2.2.2,rG c:=λq D=>by
 let⟨a,ha,rfl⟩:=be.mp (kM.mp D).1;let hi:a.1<r/\a.2.1<w:=by
  rcases bq.mp ha with z|z
  .let⟨u,j,rfl⟩:=be.mp z;have:=J u (c_ j);show⟨this.1,this.2.1⟩
  .let⟨u,j,rfl⟩:=be.mp z;have:=J u j;show⟨this.1,this.2.1⟩
 show agD hb hp hi.1 hi.2
def W_ {r w:Nat}{aF:AB}{ts:List cg}(hb:Blk r w (fD aF ts))(r9:r<=9)(w9:w<=9)(J:∀t∈ts,inB r w t):∀q∈jU aF ts,q.2.2.2.length<=20:=λq D=>by
 let⟨a,ha,rfl⟩:=be.mp (kM.mp D).1;let hi:a.1<r:=by
  rcases bq.mp ha with z|z
  .let⟨u,j,rfl⟩:=be.mp z;show(J u (c_ j)).1
  .let⟨u,j,rfl⟩:=be.mp z;show(J u j).1
 show Jp hb r9 w9 hi
def dQ (q:lO):Dt:=.tup [.int q.1,.int q.2.1,.int q.2.2.1,.str q.2.2.2]
theorem dZ.ofQ {H:Hp}:∀{bs:List Addr} {j:List lO},QL H bs j->(∀q∈j,∀c∈q.2.2.2,c<128)->dZ K H 1 (j.map dQ) (bs.map V.ref)
 | [],[],_,_=>.nil
 | [],_::_,h,_=>by have:=h.len;simp at this
 | _::_,[],h,_=>by have:=h.len;simp at this
 | a::bs,q::j,h,k=>.cons (.tup (aU.of (h.at_ 0 a q rL rL)) (.cons (.int _) (.cons (.int _) (.cons (.int _) (.cons (.str _ (k q cq)) .nil))))) (dZ.ofQ ⟨by have:=h.len;simpa using this,λi a x h1 h2=>h.at_ (i+1) a x h1 h2⟩ λF D=>k F (bz _ D))
def Uq (q:lO):List Nat:=q.2.2.2.map PyProof.Rows.lo1
def Ju (ws:AB)(q:lO):Bool:=!decide (Uq q∈ws)
noncomputable def Ir (aF:AB)(ws:AB)(ts:List cg):Option (List Nat):=if jU aF ts=[] then some ([(pZ ts).2.2].map PyProof.Rows.lo1) else ((jU aF ts).find? (Ju ws)).map Uq
def Qu (C CB j:Addr):Sp:=λvs H Q E=>∃(b k d t:Addr) (ws:AB) (as:List Addr) (ts:List cg) (r w:Nat) (aF aO:AB) (bi bj:Nat),vs=[.ref b,.ref k,.ref t]/\dh C H b r w aF aO bi bj/\iJ CB H k d ws/\H t=some (.tup (as.map V.ref))/\fV H as ts/\(∀t∈ts,inB r w t)/\0<ts.length/\ts.length<=7/\Hq ts/\
 (∀l,Ir aF ws ts=some l->∀(dx:Addr) (H':Hp),aD H H'->H' dx=some (.ext (XD dx [("word",.str (S l))]))->E (.ref j) (some dx) H')/\(Ir aF ws ts=none->∀H',aD H H'->Q .non H')
def iJ.mv {C:Addr}{H H':Hp}{p d:Addr}{ws:AB}(B:iJ C H p d ws)(s:aD H H'):iJ C H' p d ws:=⟨let ⟨dx,e⟩:=B.ob;⟨dx,s _ _ e⟩,s _ _ B.dc,B.nd,B.az⟩
def Mi {aF:AB}{ts:List cg}(h:ts.length<=7):(jU aF ts).length<=100:=by calc bE (List.length_filter_le _ _) ?_;rw[aa];unfold Ca;rw[av,aa,aa,ap];lia
open Classical in
def N_ {C CB CW f0 f1:Addr}{fK dH:FuncData}(D:aN K mg "check_words" qW ["board","book","laying"])(Fj:uw K CB)(aau:Meth K CB "has" f1)(aav:cj P w K mg base dN 1 f1 dH ["self","text"] (afx CB))(aaw:bT K dH ["self","text"] [])(T:qF K mg "NoWord" CW f0 ["word"])(Ur:cj P w K mg base dN 1 f0 fK ["self","word"] (KZ CW "word"))(Cg:bT K fK ["self","word"] [])(Jv:bW P w K mg base "formed" 10 ["board","laying"] (Jq C))(Xa:bW P w K mg base "letter_of" 1 ["sign"] LR):DefX P w K mg base "check_words" 12 ["board","book","laying"] (Qu C CB CW):=by
 refine D.xO jE (λvs H Q E h=>?_) (λf bO A outer s H vs Q E hr h=>?_)
 .let⟨b,k,d,t,ws,as,ts,r,w,aF,aO,bi,bj,rfl,_⟩:=h;rfl
 .let⟨b,k,d,t,ws,as,ts,r,w,aF,aO,bi,bj,rfl,BA,BK,ht,hL,fJ,h0,h7,hl1,qE,q⟩:=h;let Us:=T.M;let Qv:=T.vZ;let hb':=uh BA.ok.br fJ;let hp':=Jm BA.ok.br fJ BA.ok.cr;let hsg:=aef hb' hp' fJ;let h20:=W_ hb' BA.ok.r9 BA.ok.w9 fJ;let hwl:=Mi (aF:=aF) h7;let hlt:∀q∈jU aF ts,∀c∈q.2.2.2,c<128:=λq hq c hc=>(hsg q hq c hc).lt;calc(aj _ (aB (aW (i:=3) jE.nd rL (Or.inl rL) (bK Jv hr.mono rL (ak aH (ak bG aq)))) (aB (cD (bV (vh hr.units) bL (cL aq) (bM _)) (aG (vm o_ rL Us Ur hr.mono qf Qv Cg (ak (bK Xa hr.mono rL (ak (bh bD (bh bD bG aA (λ_ _=>rfl)) aA (λ_ _=>rfl)) aq)) aq))) bN) (aG (gG ka rL (iI bL) (qI rL (cG (bQ (i:=4) jE.nd rL (Or.inl rL)) (cG (bQ (i:=5) jE.nd rL (Or.inl rL)) (cG (bQ (i:=6) jE.nd rL (Or.inl rL)) (cG (bQ (i:=7) jE.nd rL (Or.inl rL)) o9))))) (aB (aW (i:=8) jE.nd rL (Or.inl rL) (xJ bp l_ ma S8 jr)) (aG (cD (dW (cZ (nY bf Fj.cl aau aav hr.mono aaw .nil eY (ak lY aq)))) (aG (vm o_ rL Us Ur hr.mono qf Qv Cg (ak lY aq))) bN))))))) ?_);calc(aj _ rL (aj _ rL (K4 b t as ts r w aF aO bi bj rL BA ht hL fJ h0 h7 hl1 (λT1 b1 H1 s1 hT1 hQ1=>?_))));generalize hW:jU aF ts=W at hsg h20 hwl hlt hQ1;calc(aX _ rL (zsz 0) (λZ hZ=>?_));let sZ:aD H1 (upd H1 Z (HO.tup [])):=aD.upd hZ;let eZ:upd H1 Z (HO.tup []) Z=some (.tup []):=au;let G:=sZ _ _ hT1;let J:=hQ1.mv sZ;let fj:=s1.trans sZ;generalize upd H1 Z (HO.tup [])=H2 at sZ eZ G J fj ⊢;calc(cY 2 (.tup (W.map dQ)) (.tup []) qc (.tup (aU.of G) (dZ.ofQ J hlt)) (.tup (aU.of eZ) .nil) (aj _ rL ?_));let T8:=J.len;cases I:W with
  | nil=>simp only[ph,decide_true];let⟨g0,e0⟩:=jV (hL.mv fj) h0;let hh:pZ ts=ts[0]:=xZ h0;let hs0:=(fJ _ (aS h0)).2.2;calc cA (aj _ rL (bw t _ _ (.ref as[0]) rL rL (aU.of (fj _ _ ht)) (aP (j:=0) (by simp[g0])) (bw (as[0]) _ _ _ rL rL (aU.of e0) (aP (j:=2) rL) (iu (ts[0].2.2) rL hs0.lt (zsz 1) (λa na=>(aK a _ rL au (λdx ne nd=>⟨rL,aj (some dx) au ?_⟩)))))));let⟨k1,k2⟩:=drop_new (q:=.ext (jt a (.ref CW) (some dx))) (p:=.ext (XD dx [("word",.str (S ([ts[0].2.2].map PyProof.Rows.lo1)))])) na ne nd;calc qE _ ?_ dx _ (fj.trans k1) k2;unfold Ir;rw[if_pos (hW.trans I),hh]
  | cons q0 Wr=>
   let hne:¬(Dt.tup (W.map dQ)=Dt.tup []):=λz=>by rw[I]at z;injection z with z;cases z
   let hmw:Ir aF ws ts=(W.find? (Ju ws)).map Uq:=by unfold Ir;rw[if_neg (by rw[hW,I];simp),hW]
   rw[<-I];rw[ag hne];refine bR (aj _ rL (aX T1 rL ⟨_,aU.of G⟩ (G7 (K:=K) (a:=T1) (xs:=b1.map V.ref) (λn σ H'=>∃v4 v5 v6 v7 v8:Option V,σ=[some (.ref b),some (.ref k),some (.ref t),some (.ref T1),v4,v5,v6,v7,v8]/\aD H2 H'/\∀x∈W.take n,Ju ws x=false)
    ⟨none,none,none,none,none,rL,aD.refl _,λx hx=>by simp at hx⟩ (λn σ H' _ h=>by let⟨_,_,_,_,_,_,sm,_⟩:=h;show aU.of (sm _ _ G)) ?_ ?_)))
   .intro n x σ H' hx z;let⟨v4,v5,v6,v7,v8,rfl,sm,F⟩:=z;let⟨hn,hx⟩:=rfg hx;let Y:n<W.length:=p_;subst hx;let en:=(J.mv sm).at_ n _ _ (ac hn) (ac Y);let hm:=aS Y;let alV:=h20 _ hm;calc(aY (b1[n]) _ rL (aU.of en) rL (dM _ _ rL (dM _ _ rL (dM _ _ rL (aK _ _ rL rL ?_)))));calc(aX _ rL rL (pI (W[n].2.2.2) rL rL p_ (hlt _ hm) ?_));let BK':=BK.mv (fj.trans sm);let⟨dk,ek⟩:=BK'.ob;calc(aj _ rL (cY k dk _ rL ek rL (aj _ rL ⟨k,d,ws,_,rL,BK',aj _ rL ?_⟩)));cases O:Ju ws W[n] with
    | true=>rw[show (!decide (W[n].2.2.2.map PyProof.Rows.lo1∈ws))=true from O];calc cA (aX _ rL (zsz 1) (λa na=>(aK a _ rL au (λdx ne nd=>⟨rL,aj (some dx) au ?_⟩))));let⟨k1,k2⟩:=drop_new (q:=.ext (jt a (.ref CW) (some dx))) (p:=.ext (XD dx [("word",.str (S (Uq W[n])))])) na ne nd;calc qE _ ?_ dx _ ((fj.trans sm).trans k1) k2;rw[hmw,Yk Y F O];rfl
    | false=>
     rw[show (!decide (W[n].2.2.2.map PyProof.Rows.lo1∈ws))=false from O];calc bR ⟨_,_,_,_,_,rL,sm,λx hx=>?_⟩;rw[de,ac Y]at hx;rcases bq.mp hx with z|z;.show F x z
     .rw[a_.mp z];show O
   .intro σ H' z;let⟨v4,v5,v6,v7,v8,rfl,sm,F⟩:=z;rw[aa,T8,cz]at F;show q (by rw[hmw,Yl F];rfl) H' (fj.trans sm)
inductive Vd
 | ok|Dz (i j:Nat)|DG|gap (i j:Nat)|DK|DN (t:Nat)|nw (l:List Nat)
inductive tX (aF:AB) (r w bi bj:Nat) (ws:AB) (bU:List Nat) (ts:List cg):Vd->Prop
 | Dz {u:cg} (h:Cd aF ts=some u):tX aF r w bi bj ws bU ts (.Dz u.1 u.2.1)
 | DG (h1:Cd aF ts=none) (h:(uo ts||uq ts)=false):tX aF r w bi bj ws bU ts .DG
 | gap {i j:Nat} (h1:Cd aF ts=none) (h2:(uo ts||uq ts)=true) (h:afv (fD aF ts) (pZ ts).1 (nO ts).1 (pZ ts).2.1 (nO ts).2.1 i j):tX aF r w bi bj ws bU ts (.gap i j)
 | DK (h1:Cd aF ts=none) (h2:(uo ts||uq ts)=true) (h3:L_ (fD aF ts) (pZ ts).1 (nO ts).1 (pZ ts).2.1 (nO ts).2.1) (h:Dy aF r w bi bj ts=false):tX aF r w bi bj ws bU ts .DK
 | DN {t:Nat} (h1:Cd aF ts=none) (h2:(uo ts||uq ts)=true) (h3:L_ (fD aF ts) (pZ ts).1 (nO ts).1 (pZ ts).2.1 (nO ts).2.1) (h4:Dy aF r w bi bj ts=true) (h:Ay (bU.map λc=>[c]) (ts.map (·.2.2))=.inl t):tX aF r w bi bj ws bU ts (.DN t)
 | nw {l:List Nat} (h1:Cd aF ts=none) (h2:(uo ts||uq ts)=true) (h3:L_ (fD aF ts) (pZ ts).1 (nO ts).1 (pZ ts).2.1 (nO ts).2.1) (h4:Dy aF r w bi bj ts=true) (h5:∃left,Ay (bU.map λc=>[c]) (ts.map (·.2.2))=.inr left) (h:Ir aF ws ts=some l):tX aF r w bi bj ws bU ts (.nw l)
 | ok (h1:Cd aF ts=none) (h2:(uo ts||uq ts)=true) (h3:L_ (fD aF ts) (pZ ts).1 (nO ts).1 (pZ ts).2.1 (nO ts).2.1) (h4:Dy aF r w bi bj ts=true) (h5:∃left,Ay (bU.map λc=>[c]) (ts.map (·.2.2))=.inr left) (h:Ir aF ws ts=none):tX aF r w bi bj ws bU ts .ok
structure Ut where
 lay:Addr
 Dz:Addr
 DG:Addr
 gap:Addr
 DK:Addr
 DN:Addr
 nw:Addr
def VdX (c:Ut)(H:Hp)(cls:Value)(dd:Option Addr):Vd->Prop
 | .ok=>False
 | .Dz i j=>cls=.ref c.Dz/\∃dx,dd=some dx/\H dx=some (.ext (XD dx (Yj i j)))
 | .DG=>cls=.ref c.DG/\dd=none
 | .gap i j=>cls=.ref c.gap/\∃dx,dd=some dx/\H dx=some (.ext (XD dx (Yj i j)))
 | .DK=>cls=.ref c.DK/\dd=none
 | .DN t=>cls=.ref c.DN/\∃dx,dd=some dx/\H dx=some (.ext (XD dx [("tile",.str (S [t]))]))
 | .nw l=>cls=.ref c.nw/\∃dx,dd=some dx/\H dx=some (.ext (XD dx [("word",.str (S l))]))
def Ys {cs:List (Nat×Nat)}(h:j8 cs=true):∀n,(hn:n+1<cs.length)->cs[n].1*1000+cs[n].2<cs[n+1].1*1000+cs[n+1].2:=λn hn=>by
 unfold j8 at h;rw[fk]at h;have:=h (cs[n],cs[n+1]) (by
  calc bv (i:=n) ?_;rw[oQ];show⟨ac p_,by rw[nV,Nat.add_comm 1 n];show ac hn⟩)
 show ej this
theorem Uu {cs:List (Nat×Nat)}(h:j8 cs=true):∀k n,(hn:n+k+1<cs.length)->cs[n].1*1000+cs[n].2<cs[n+k+1].1*1000+cs[n+k+1].2
 | 0,n,hn=>Ys h n hn
 | k+1,n,hn=>Nat.lt_trans (Uu h k n p_) (Ys h (n+k+1) hn)
def Oa {ts:List cg}{r w:Nat}(w9:w<=9)(J:∀t∈ts,inB r w t)(h0:0<ts.length)(G:j8 (ts.map oV)=true)(hs:(uo ts||uq ts)=true):Hq ts:=by
 let I:=xZ h0;rw[pk]at hs;rcases hs with hs|hs
 .calc .inl ?_;unfold uo at hs;rw[fk]at hs;rw[iA];intro i j hi D _;rw[ej (hs _ (aS hi)),ej (hs _ (aS D))]
 .calc .inr ?_;unfold uq at hs;rw[fk]at hs;rw[iA];intro i j hi D F;let e1:=ej (hs _ (aS hi));let e2:=ej (hs _ (aS D));have:=Uu G (j-i-1) i (by rw[aa];lia);simp only[show i+(j-i-1)+1=j by lia,List.getElem_map]at this;let this:ts[i].1*1000+ts[i].2.1<ts[j].1*1000+ts[j].2.1:=this;lia
def acn {c:Nat}(h:rG c):sgN c:=by unfold rG E_ EY Il at h;simp at h;show h
def Ob (K : W.Frag)(C CB : Addr)(c : Ut) : Sp := λvs H Q E => ∃(b k d : Addr) (ws : List (List Nat)) (bU : List Nat) (x : V) (r w : Nat) (aF aO : List (List Nat)) (bi bj : Nat), vs = [.ref b, .ref k, .str (S bU), x] /\ dh C H b r w aF aO bi bj /\ iJ CB H k d ws /\ bU.length <= 63 /\
  ((∃o, LyD K H x o /\ layB r w o = false /\ ∀H', aD H H' -> E (.ref c.lay) none H') \/
   (∃(t : Addr) (as : List Addr) (ts : List cg), x = .ref t /\ H t = some (.tup (as.map V.ref)) /\ fV H as ts /\ (∀t ∈ ts, inB r w t) /\ 0<ts.length /\ ts.length <= 7 /\ j8 (ts.map oV) = true /\
     (∀v cls dd H', tX aF r w bi bj ws bU ts v -> VdX c H' cls dd v -> aD H H' -> E cls dd H') /\ (tX aF r w bi bj ws bU ts .ok -> ∀H', aD H H' -> Q .non H')))
def Mj {C CB:Addr}{c:Ut}(D:aN K mg "check_laying" qp ["board","book","rack","laying"])(zM:mg "NoLaying"=some (.ref c.lay))(aax:W.excIn K c.lay jl "ValueError.__new__"=true)(Xb:bW P w K mg base "is_laying" 4 ["board","thing"] (ab8 K C))(Uv:DefX P w K mg base "check_free" 5 ["board","laying"] (Ug C c.Dz))(Jw:DefX P w K mg base "check_straight" 3 ["laying"] (Yn c.DG))(Uw:DefX P w K mg base "check_gaps" 10 ["board","laying"] (Uh C c.gap))(Oc:DefX P w K mg base "check_joined" 7 ["board","laying"] (Ui C c.DK))(vA:DefX P w K mg base "left_of" 3 ["rack","signs"] (Mg c.DN))(Rt:DefX P w K mg base "check_words" 12 ["board","book","laying"] (Qu C CB c.nw)):DefX P w K mg base "check_laying" 14 ["board","book","rack","laying"] (Ob K C CB c):=by
 refine D.xO La (λvs H Q E h=>?_) (λf bO A outer s H vs Q E I h=>?_)
 .let⟨b,k,d,ws,bU,x,r,w,aF,aO,bi,bj,rfl,_⟩:=h;rfl
 .let⟨b,k,d,ws,bU,x,r,w,aF,aO,bi,bj,rfl,J,BK,h63,h⟩:=h;calc(aj _ (aB (cD (dW (cZ (bK Xb I.mono rL (ak aH (ak bL aq))))) (aG (xP o_ rL rL qf zM aax (ak (bI [110,111,32,108,97,121,105,110,103,32,102,111,114,32,116,104,105,115,32,98,111,97,114,100] qi) aq))) bN) (aB (dF (pB Uv I.mono rL w5.all (ak aH (ak bL aq)))) (aB (dF (pB Jw I.mono rL w5.all (ak bL aq))) (aB (dF (pB Uw I.mono rL w5.all (ak aH (ak bL aq)))) (aB (dF (pB Oc I.mono rL w5.all (ak aH (ak bL aq)))) (aB (dF (pB vA I.mono rL w5.all (ak bG (ak (gP bp dq dr rC (bI [] qi) (ak (mY (ns:=["row","column","sign"]) rL (jX.of ["board","book","rack","laying"] [] qh) (iI bL) (λ_ _ _ _ _=>(qg K rL (show (["row","column","sign","board","book","rack","laying"]:List Str).Nodup by decide +kernel) rL rL rL qf qf qf)) (λ_ _ _ _ _=>fH) (λ_ _ _ _ _=>bG)) aq)) aq)))) (aG (dF (pB Rt I.mono rL w5.all (ak aH (ak bf (ak bL aq)))))))))))) ?_);rcases h with⟨o,hD,hB,G⟩|⟨t,as,ts,rfl,ht,F,Y,h0,h7,Io,G,q⟩
  .calc(aj _ rL (aj _ rL ⟨b,x,o,r,w,aF,aO,bi,bj,rL,J,hD,λH1 s1=>(aj _ rL ?_)⟩));rw[hB];show cA ⟨zsz 1,G H1 s1⟩
  .let hal:=F.len;let hB:layB r w (some (ts.map mkT))=true:=by
    unfold layB;simp only;rw[Ua,aa,ai (show 1<=ts.length/\ts.length<=7 by lia),show j8 (ts.map λt=>(t.1,t.2.1))=true from Io,List.all_map];have:ts.all (uW r w ∘ mkT)=true:=fk.mpr λt ht=>ad7 (Y t ht);rw[this];rfl
   calc(aj _ rL (aj _ rL ⟨b,.ref t,some (ts.map mkT),r,w,aF,aO,bi,bj,rL,J,.tup ht (Jt.of_lay F) (by rw[aa];lia),λH1 s1=>(aj _ rL ?_)⟩));rw[hB];calc bR ⟨True.intro,aj _ rL (aj _ rL ⟨b,t,as,ts,r,w,aF,aO,bi,bj,rL,J.mv s1,s1 _ _ ht,F.mv s1,Y,λu hu dx H' s' hd=>G _ _ _ H' (.Dz hu) ⟨rL,aj dx rL hd⟩ (s1.trans s'),λv1 H2 s2=>?_⟩)⟩;let fj:=s1.trans s2;calc⟨True.intro,aj _ rL (K8 t as ts rL (fj _ _ ht) (F.mv fj) h0 h7 (λe H' s'=>G _ _ _ H' (.DG v1 e) ⟨rL,rL⟩ (fj.trans s')) (λZ H3 s3=>?_))⟩;let fX:=fj.trans s3;calc⟨True.intro,aj _ rL (aj _ rL ⟨b,t,as,ts,r,w,aF,aO,bi,bj,rL,J.mv fX,fX _ _ ht,F.mv fX,Y,h0,λi j e dx H' s' hd=>G _ _ _ H' (.gap v1 Z e) ⟨rL,aj dx rL hd⟩ (fX.trans s'),λv3 H4 s4=>?_⟩)⟩;let iB:=fX.trans s4;calc⟨True.intro,aj _ rL (aj _ rL ⟨b,t,as,ts,r,w,aF,aO,bi,bj,rL,J.mv iB,iB _ _ ht,F.mv iB,h7,λe H' s'=>G _ _ _ H' (.DK v1 Z v3 e) ⟨rL,rL⟩ (iB.trans s'),λv4 H5 s5=>?_⟩)⟩;let Az:=iB.trans s5;let ht5:=Az _ _ ht;refine⟨True.intro,aX _ rL rL (aj _ rL (aX t rL ⟨_,aU.of ht5⟩ (λN hN=>kY (K:=K) (KT:=K) (a:=t) (f:=j4 [] 0) (tt:=mW) (xs:=as.map V.ref) (λn ys H6=>ys=Ts (ones ((ts.take n).map (·.2.2)))/\H6 N=some (.lst ys)/\aD H5 H6)
    (cF rL au (aD.upd hN)) (λn ys H6 _ h=>aU.of (h.2.2 _ _ ht5)) ?_ ?_)))⟩
   .intro n x ys H6 hx z;let⟨rfl,tW,rJ⟩:=z;let⟨hn,hx⟩:=rfg hx;let hnt:n<ts.length:=p_;let⟨_,en⟩:=jV (F.mv (Az.trans rJ)) hnt;calc wF hx.symm (aU.of en) ?_;calc(iu _ rL tW ?_ (iW.mk (by rw[aa];show hn) (cF ?_ au (rJ.dY hN))));.rw[aa,aa,aa,ap];show aM p_
    .rw[take_snoc (ac hnt)];simp[Ts,ones]
   .intro ys H6 z;let⟨rfl,tW,rJ⟩:=z;rw[aa,hal,cz]at tW;let DP:=Az.trans rJ;calc(dw N (ones (ts.map (·.2.2))) rL rL (bJ.of tW) (by rw[nH,aa];lia) ?_);rw[nH];refine(Bx bU (ts.map (·.2.2)) rL h63 (by rw[aa];lia) (λc hc=>?_) (λtl e dx H' s' hd=>G _ _ _ H' (.DN v1 Z v3 v4 e) ⟨rL,aj dx rL hd⟩ (DP.trans s')) (λleft v5 ws' H7 s7 _ _=>?_))
    .let⟨u,hu,rfl⟩:=be.mp hc;show(acn (Y u hu).2.2).lt
    let O:=DP.trans s7;calc⟨True.intro,aj _ rL (aj _ rL (aj _ rL ⟨b,k,d,t,ws,as,ts,r,w,aF,aO,bi,bj,rL,J.mv O,BK.mv O,O _ _ ht,F.mv O,Y,h0,h7,Oa J.ok.w9 Y h0 Io Z,λl e dx H' s' hd=>G _ _ _ H' (.nw v1 Z v3 v4 ⟨left,v5⟩ e) ⟨rL,aj dx rL hd⟩ (O.trans s'),λv6 H8 s8=>?_⟩))⟩;show q (.ok v1 Z v3 v4 ⟨left,v5⟩ v6) H8 (O.trans s8)
def WD (kvs:List (Key×V)):Prop:=∀j∈kvs,∃(c:Nat) (i:Int),j=(dz [c],V.int i)/\97<=c/\c<=122
def wf (kvs:List (Key×V))(c:Nat):Int:=match gM kvs (dz [c]) with| some (.int i)=>i| _=>0
def aco {kvs:List (Key×V)}{k:Key}{v:V}(h:gM kvs k=some v):(k,v)∈kvs:=by
 unfold gM at h;cases e:kvs.find? (λj=>decide (j.1=k)) with
 | none=>rw[e]at h;cases h
 | some p=>
  rw[e]at h;let h:p.2=v:=bo h;let m:=List.mem_of_find?_eq_some e;let q:=List.find?_some e;let q:p.1=k:=by simpa using q
  rw[<-h,<-q];show m
def aiX {kvs:List (Key×V)}(h:WD kvs)(c:Nat):(gM kvs (dz [c])).getD (.int 0)=.int (wf kvs c):=by
 unfold wf;cases e:gM kvs (dz [c]) with| none=>rfl| some v=>let⟨d,i,q,_⟩:=h _ (aco e);have:v=V.int i:=congrArg Prod.snd q;subst this;rfl
def afy {kvs:List (Key×V)}(h:WD kvs){c:Nat}(j:¬(97<=c/\c<=122)):wf kvs c=0:=by
 unfold wf;cases e:gM kvs (dz [c]) with
 | none=>rfl
 | some v=>
  let⟨d,i,q,h1,h2⟩:=h _ (aco e);have:dz [c]=dz [d]:=congrArg Prod.fst q;have:S [c]=S [d]:=lI this;have:[c]=[d]:=yE this;have:c=d:=by simpa using this
  lia
def Yt:Sp:=λvs H Q _=>∃(d:Addr) (kvs:List (Key×V)) (c:Nat),vs=[.ref d,.str (S [c])]/\Rd H d (.dK kvs)/\WD kvs/\Q (.int (wf kvs c)) H
def Xc (D:aN K mg "worth_of" wN ["worths","sign"]):bW P w K mg base "worth_of" 1 ["worths","sign"] Yt:=by
 calc D.dD WR (λf bO A outer s H vs Q E F h=>?_);let⟨d,kvs,c,rfl,hd,j,q⟩:=h;let G:=RJ F;calc(aj _ (aG (bC (oK (Bu o7 o7 (bI [97] qi) bf (bI [122] qi)) (adZ G aH bf aA ⟨rL,rL,rL,rL⟩) aA))) ?_);calc(aj _ rL (aK [97] [c] rL rL (aj (decide (97<=c)) (by rw[Nu]) ?_)));by_cases c1:97<=c
 .rw[ai c1];calc cA (aK [c] [122] rL rL (aj _ rL ?_));rw[Nu];by_cases c2:c<=122
  .rw[ai c2];calc cA (aj _ rL (aX d rL (.inl ⟨_,hd⟩) (aj _ rL (aj _ (zG.rd (k:=dz [c]) hd) ?_))));rw[aiX j];show q
  .rw[ag c2];calc bR ?_;let e:=afy j (c:=c) p_;rw[e]at q;show q
 .rw[ag c1];calc bR (aj _ rL (bR ?_));let e:=afy j (c:=c) p_;rw[e]at q;show q
def Ux:Sp:=λvs H Q _=>∃(a:Addr) (q:lO) (n:Nat),vs=[.ref a,.int n]/\ab2 H a q/\q.2.2.1<=1/\
 ∀(t:Addr) (H':Hp),aD H H'->H' t=some (.tup [.int ((q.1+n*q.2.2.1:Nat):Int),.int ((q.2.1+n*(1-q.2.2.1):Nat):Int)])->Q (.ref t) H'
def aay (D:aN K mg "cell_in" yN ["word","place"]):bW P w K mg base "cell_in" 1 ["word","place"] Ux:=by
 calc D.dD aad (λf bO A outer s H vs Q E J h=>?_);obtain⟨a,⟨i,j,wy,l⟩,n,rfl,ha,I,q⟩:=h;let F:=aU.of (K:=K) ha;calc(aj _ (aG (bC (oK (bV jk (bh bD aH aA (λ_ _=>rfl)) aA (bM _)) (cL (ak (bh bD aH aA (λ_ _=>rfl)) (ak (aL cW (bh bD aH aA (λ_ _=>rfl)) bf) aq))) (cL (ak (aL cW (bh bD aH aA (λ_ _=>rfl)) bf) (ak (bh bD aH aA (λ_ _=>rfl)) aq)))))) ?_);calc(aj _ rL (bw a _ _ _ rL rL F (aP (j:=2) rL) ?_));by_cases z:wy=0
 .subst z;calc⟨rL,aj _ rL (cA (aj _ rL (bw a _ _ _ rL rL F (aP (j:=0) rL) (aj _ rL (bw a _ _ _ rL rL F (aP (j:=1) rL) (aj _ rL (aY _ _ rL rL (zsz 2) (λt ht=>?_))))))))⟩;calc q t _ (aD.upd ht) ?_;rw[au];simp
 .let G:wy=1:=by simp only at I;lia
  subst G;calc⟨rL,aj _ rL (bR (aj _ rL (bw a _ _ _ rL rL F (aP (j:=0) rL) (aj _ rL (aK _ _ rL rL (aj _ rL (gW a _ _ _ rL rL F (aP (j:=1) rL) (zsz 2) (λt ht=>?_))))))))⟩;calc q t _ (aD.upd ht) ?_;rw[au];simp
def Iu (c:Nat):Int:=if c=50 then 2 else if c=51 then 3 else if c=52 then 4 else 1
def Qw (c:Nat):Int:=if c=98 then 2 else if c=99 then 3 else if c=100 then 4 else 1
def Yu:List (Key×V):=[(dz [50],.int 2),(dz [51],.int 3),(dz [52],.int 4)]
def Yv:List (Key×V):=[(dz [98],.int 2),(dz [99],.int 3),(dz [100],.int 4)]
def Yw (a b:Nat):decide (dz [a]=dz [b])=decide (a=b):=by
 by_cases h:a=b;.subst h;simp
 .have:¬dz [a]=dz [b]:=λz=>h (by have:=yE (lI z);simpa using this)
  rw[ag h,ag this]
def aiY (c:Nat):(gM Yu (dz [c])).getD (.int 1)=.int (Iu c):=by
 unfold gM Yu Iu;simp only[gp,Yw];by_cases h1:c=50;.subst h1;rfl
 by_cases h2:c=51;.subst h2;rfl
 by_cases h3:c=52;.subst h3;rfl
 rw[ag (λz=>h1 z.symm),ag (λz=>h2 z.symm),ag (λz=>h3 z.symm),if_neg h1,if_neg h2,if_neg h3];rfl
def aiZ (c:Nat):(gM Yv (dz [c])).getD (.int 1)=.int (Qw c):=by
 unfold gM Yv Qw;simp only[gp,Yw];by_cases h1:c=98;.subst h1;rfl
 by_cases h2:c=99;.subst h2;rfl
 by_cases h3:c=100;.subst h3;rfl
 rw[ag (λz=>h1 z.symm),ag (λz=>h2 z.symm),ag (λz=>h3 z.symm),if_neg h1,if_neg h2,if_neg h3];rfl
def sx (q:lO)(k:Nat):Nat:=q.1+k*q.2.2.1
def sy (q:lO)(k:Nat):Nat:=q.2.1+k*(1-q.2.2.1)
noncomputable def Iw (M:AB)(kvs:List (Key×V))(ts:List cg)(q:lO)(k c:Nat)(p:Int×Int):Int×Int:=if (sx q k,sy q k)∈ts.map oV then (p.1+wf kvs c*Iu (cell M (sx q k) (sy q k)),p.2*Qw (cell M (sx q k) (sy q k))) else (p.1+wf kvs c,p.2)
noncomputable def oA (M:AB)(kvs:List (Key×V))(ts:List cg)(q:lO):Nat->Int×Int
 | 0=>(0,1)
 | n+1=>Iw M kvs ts q n (q.2.2.2.getD n 0) (oA M kvs ts q n)
noncomputable def Qx (M:AB)(kvs:List (Key×V))(ts:List cg)(q:lO):Int:=(oA M kvs ts q q.2.2.2.length).1*(oA M kvs ts q q.2.2.2.length).2
def ai0 (c:Nat):1<=Iu c/\Iu c<=4:=by
 unfold Iu;split;.lia
 split;.lia
 split <;> lia
def ai1 (c:Nat):1<=Qw c/\Qw c<=4:=by
 unfold Qw;split;.lia
 split;.lia
 split <;> lia
theorem aeg (M:AB)(kvs:List (Key×V))(ts:List cg)(q:lO):∀n,1<=(oA M kvs ts q n).2/\(oA M kvs ts q n).2<=4^n
 | 0=>⟨pE _,pE _⟩
 | n+1=>by
  let⟨h1,h2⟩:=aeg M kvs ts q n;show 1<=(Iw _ _ _ _ _ _ _).2/\(Iw _ _ _ _ _ _ _).2<=4^(n+1);unfold Iw;rw[Int.pow_succ];split
  .let⟨w1,w2⟩:=ai1 (cell M (sx q n) (sy q n));calc⟨?_,k9 h2 w2 p_ p_⟩;have:=k9 h1 w1 p_ p_;simpa using this
  .calc⟨h1,?_⟩;simp only;lia
def alr (M:AB)(kvs:List (Key×V))(ts:List cg)(q:lO){n:Nat}(hn:n<=20):-(2^64)<(oA M kvs ts q n).2/\(oA M kvs ts q n).2<2^64:=by
 let⟨h1,h2⟩:=aeg M kvs ts q n;let h3:(4:Int)^n<=4^20:=by
  have:=Nat.pow_le_pow_right (show 0<4 by decide) hn
  exact_mod_cast this
 let h4:(4:Int)^20=1099511627776:=by decide
 let h5:(2:Int)^64=18446744073709551616:=by decide
 lia
structure QIn (r w:Nat)(q:lO):Prop where
 way:q.2.2.1<=1
 len:q.2.2.2.length<=20
 inn:∀k,k<q.2.2.2.length->sx q k<r/\sy q k<w
def Uy (C:Addr):Sp:=λvs H Q _=>∃(b d t a:Addr) (kvs:List (Key×V)) (as:List Addr) (ts:List cg) (q:lO) (r w:Nat) (aF aO:AB) (bi bj:Nat),vs=[.ref b,.ref d,.ref t,.ref a]/\dh C H b r w aF aO bi bj/\Rd H d (.dK kvs)/\WD kvs/\H t=some (.tup (as.map V.ref))/\fV H as ts/\ts.length<=7/\ab2 H a q/\QIn r w q/\
 ∀H',aD H H'->Q (.int (Qx aO kvs ts q)) H'
open Classical in
def acp {C gl gw:Addr}(D:aN K mg "word_points" qX ["board","worths","laying","word"])(qN:mg "enumerate"=none)(cM:iz K C)(Od:mg "LETTER_MARKS"=some (.ref gl))(Uz:mg "WORD_MARKS"=some (.ref gw))(kl:KDict P w K gl Yu)(kw:KDict P w K gw Yv)(sW:bW P w K mg base "cells_of" 1 ["laying"] yZ)(acq:bW P w K mg base "cell_in" 1 ["word","place"] Ux)(aaz:bW P w K mg base "worth_of" 1 ["worths","sign"] Yt):bW P w K mg base "word_points" 2 ["board","worths","laying","word"] (Uy C):=by
 calc D.dD fP (λf bO A outer s H vs Q E hr h=>?_);let⟨b,d,t,a,kvs,as,ts,F,r,w',aF,aO,bi,bj,rfl,BA,hd,hW,ht,hL,h7,ha,hq,q⟩:=h;obtain⟨⟨dx,pr,pm,pb,hb,hpr,hpm,hpb⟩,B⟩:=BA;calc(aj _ (aB (aW (i:=4) fP.nd rL (Or.inl rL) (bK sW hr.mono rL (ak bG aq))) (aB (aW (i:=5) fP.nd rL (Or.inl rL) aA) (aB (aW (i:=6) fP.nd rL (Or.inl rL) aA) (aB (gG cE rL (adN qf qN (ak (bh bD bL aA (λ_ _=>rfl)) aq)) (qI rL (cG (bQ (i:=7) fP.nd rL (Or.inl rL)) (cG (bQ (i:=8) fP.nd rL (Or.inl rL)) o9))) (aB (aW (i:=9) fP.nd rL (Or.inl rL) (bK acq hr.mono rL (ak bL (ak jr aq)))) (aB (aW (i:=10) fP.nd rL (Or.inl rL) (bK aaz hr.mono rL (ak bf (ak lY aq)))) (aB (gU (cD (bV (X5 hr.units) lZ cP rL) (aB (aW (i:=11) fP.nd rL (Or.inl rL) (bh Bt (bh bD (bZ aH rL) (bh bD lZ aA (λ_ _=>rfl)) (λ_ _=>rfl)) (bh bD lZ aA (λ_ _=>rfl)) (λ_ _=>rfl))) (aB (aW (i:=10) fP.nd rL (Or.inl rL) (aL jo jR (Tv (lq (v:=.ref _) qf Od rL) pR aA ⟨rL,rL,rL,rL⟩))) (aG (aW (i:=6) fP.nd rL (Or.inl rL) (aL jo gb (Tv (lq (v:=.ref _) qf Uz rL) pR aA ⟨rL,rL,rL,rL⟩)))))) bN)) (aG (aW (i:=5) fP.nd rL (Or.inl rL) (aL cW d9 jR))))))) (aG (bC (aL jo d9 gb))))))) ?_);calc(aj _ rL (eG t as ts rL ht hL p_ (λLc cs H1 s1 hLc hcs=>?_)));refine(aj _ rL (bw a _ _ _ rL rL (aU.of (s1 _ _ ha)) (aP (j:=3) rL) (aj _ rL (abR (l:=F.2.2.2) (λn σ Z=>∃v7 v8 v9 J I:Option V,σ=[some (.ref b),some (.ref d),some (.ref t),some (.ref a),some (.ref Lc),some (.int (oA aO kvs ts F n).1),some (.int (oA aO kvs ts F n).2),v7,v8,v9,J,I]/\aD H1 Z)
  ⟨none,none,none,none,none,rL,aD.refl _⟩ ?_ ?_))))
 .intro n c σ Z T hc z hT;let⟨v7,v8,v9,J,I,rfl,s2⟩:=z;let hn:n<F.2.2.2.length:=(ah.mp hc).1;let⟨hx,hy⟩:=hq.inn n hn;let kT:aD Z (upd Z T (HO.tup [.int n,.str (S [c])])):=aD.upd hT;calc(aY T _ rL (aU.of au) rL (dM _ _ rL (aK _ _ rL rL ?_)));let s3:=(s1.trans s2).trans kT;let Qy:=s2.trans kT;generalize upd Z T (HO.tup [.int n,.str (S [c])])=H3 at kT s3 Qy ⊢;calc(aj _ rL (aj _ rL (cY a F n rL (s3 _ _ ha) hq.way (λg H4 s4 hg=>?_))));let Y:=s3.trans s4;calc(aj _ rL (aj _ rL (cY d kvs c rL (hd.mv Y) hW ?_)));let gi:sx F n<aO.length:=by rw[B.bm.len];show hx
  let hwi:aO[sx F n].length=w':=B.bm.sU _ (aS _);let gj:sy F n<aO[sx F n].length:=by rw[hwi];show hy
  let O:aO.getD (sx F n) []=aO[sx F n]:=by rw[ay,ac gi];rfl
  let w9:=B.w9;let hgd:F.2.2.2.getD n 0=c:=by rw[ay,hc];rfl
  let G:oA aO kvs ts F (n+1)=Iw aO kvs ts F n c (oA aO kvs ts F n):=by rw[<-hgd];rfl
  let hg:H4 g=some (.tup [.int (sx F n:Nat),.int (sy F n:Nat)]):=hg;refine⟨λσ H'=>∃(wv:Int) (u11:Option V),σ=[some (.ref b),some (.ref d),some (.ref t),some (.ref a),some (.ref Lc),some (.int (oA aO kvs ts F n).1),some (.int (oA aO kvs ts F (n+1)).2),some (.int n),some (.str (S [c])),some (.ref g),some (.int wv),u11]/\aD H1 H'/\(oA aO kvs ts F n).1+wv=(oA aO kvs ts F (n+1)).1,?_,?_⟩
  .let N5:=hcs.mv (Qy.trans s4);calc(aj _ rL (aj _ rL (cY 2 (.tup [.int (sx F n:Nat),.int (sy F n:Nat)]) ((ts.map oV).map λc=>Dt.tup [.int c.1,.int c.2]) qc (.tup (aU.of hg) (.cons (.int _) (.cons (.int _) .nil))) (.lst (bJ.of ((Qy.trans s4) _ _ hLc)) (dZ.ofP N5)) ?_)));simp only[fF,if_false];by_cases hm:(sx F n,sy F n)∈ts.map oV
   .rw[ai (Ma (c:=(sx F n,sy F n)).mpr hm)];calc(aj _ rL (cA (aj _ rL (cT b C dx _ _ rL (Y _ _ hb) cM.cl cM.nm rL (aj _ rL (bw g _ _ _ rL rL (aU.of hg) (aP (j:=0) rL) (bw pm _ _ (.str (S (aO.getD (sx F n) []))) rL rL (aU.of (Y _ _ hpm)) (aP ?_) (aj _ rL (bw g _ _ _ rL rL (aU.of hg) (aP (j:=1) rL) ?_)))))))));.rw[O];show nJ (ac gi)
    generalize hmm:cell aO (sx F n) (sy F n)=m;calc(eG _ _ m rL rL (am (aM (by rw[O,hwi];lia))) (aP (by rw[<-hmm,O,cell_eq gi gj];show ac gj)) ?_);let⟨l1,l2⟩:=ai0 m;let⟨w1,w2⟩:=ai1 m;let e:oA aO kvs ts F (n+1)=((oA aO kvs ts F n).1+wf kvs c*Iu m,(oA aO kvs ts F n).2*Qw m):=by rw[G];unfold Iw;rw[if_pos hm,hmm]
    calc(aj _ rL (aK gl Yu rL kl (aj _ rL (aj (dz [m]) rL (aY _ (Iu m) rL (aiY m) (.inr ⟨p_,p_⟩) ?_)))));calc(aj _ rL (aK gw Yv rL kw (aj _ rL (aj (dz [m]) rL (aY _ (Qw m) rL (aiZ m) (.inr ⟨p_,p_⟩) ?_)))));calc(aK (wf kvs c*Iu m) (some (.str (S [m]))) ?_ (Qy.trans s4) ?_);.rw[e];rfl
    .rw[e]
   .rw[ag (λz=>hm (Ma (c:=(sx F n,sy F n)).mp z))];let e:oA aO kvs ts F (n+1)=((oA aO kvs ts F n).1+wf kvs c,(oA aO kvs ts F n).2):=by rw[G];unfold Iw;rw[if_neg hm]
    calc(aj _ rL (bR (aK (wf kvs c) I ?_ (Qy.trans s4) ?_)));.rw[e];rfl
    .rw[e]
  .intro σ H' z;let⟨wv,u11,rfl,s5,ew⟩:=z;calc(aj _ rL (aj _ rL (aK _ _ rL rL ?_)));show⟨_,_,_,_,_,by rw[<-ew];rfl,s5⟩
 .intro σ Z z;let⟨v7,v8,v9,J,I,rfl,s2⟩:=z;calc(aj _ rL (aj _ rL (aK _ _ rL rL ?_)));show⟨.inr (alr _ _ _ _ hq.len),q _ (s1.trans s2)⟩
def Yx {r w:Nat}{R:AB}(hb:Blk r w R)(r9:r<=9)(w9:w<=9){i j wy:Nat}(hi:i<r)(J:j<w)(I:wy<=1):QIn r w (um R i j wy):=by
 calc⟨I,Jp hb r9 w9 hi,λk F=>?_⟩;let D:=wV hb hi (j:=j) (way:=(wy:Int));let F:k<(jd ((lineOf R i j (wy:Int)).take (placeOf i j (wy:Int)))++jM ((lineOf R i j (wy:Int)).drop (placeOf i j (wy:Int)))).length:=F;rw[av]at F;let a1:=rH ((lineOf R i j (wy:Int)).take (placeOf i j (wy:Int)));let a2:=yU ((lineOf R i j (wy:Int)).drop (placeOf i j (wy:Int)));rw[ap]at a1;rw[bd]at a2;unfold sx sy;by_cases z:wy=0
 .subst z;let ep:placeOf i j ((0:Nat):Int)=j:=if_pos rfl;rw[ep]at F a1 a2;let D:(lineOf R i j ((0:Nat):Int)).length=w:=by rw[D];show if_pos rfl
  rw[D]at a1 a2;show i+k*0<r/\(j-(jd ((lineOf R i j ((0:Nat):Int)).take j)).length)+k*(1-0)<w;lia
 .let G:wy=1:=p_;subst G;let ep:placeOf i j ((1:Nat):Int)=i:=if_neg qc;rw[ep]at F a1 a2;let D:(lineOf R i j ((1:Nat):Int)).length=r:=by rw[D];show if_neg qc
  rw[D]at a1 a2;show (i-(jd ((lineOf R i j ((1:Nat):Int)).take i)).length)+k*1<r/\j+k*(1-1)<w;lia
def UG {r w:Nat}{aF:AB}(hb:Blk r w aF)(r9:r<=9)(w9:w<=9){ts:List cg}(J:∀t∈ts,inB r w t){q:lO}(h:q∈jU aF ts):QIn r w q:=by
 unfold jU at h;let⟨a,ha,rfl⟩:=be.mp (kM.mp h).1;let j:=uh hb J;let F:=ab3 ts;rcases bq.mp ha with z|z
 .let⟨u,D,rfl⟩:=be.mp z;let⟨h1,h2,_⟩:=J u (c_ D);show Yx j r9 w9 h1 h2 F
 .let⟨u,D,rfl⟩:=be.mp z;let⟨h1,h2,_⟩:=J u D;show Yx j r9 w9 h1 h2 (show 1-ou ts<=1 by lia)
def ai2 {kvs:List (Key×V)}{c0:Nat}{i:Int}(c:Nat):wf (putK kvs (dz [c0]) (.int i)) c=if c=c0 then i else wf kvs c:=by
 unfold wf;rw[adv];by_cases h:c=c0;.rw[if_pos h,if_pos (by rw[h])]
 .rw[if_neg h,if_neg (λz=>h (by have:=yE (lI z);simpa using this))]
def WD.put {kvs:List (Key×V)}(h:WD kvs){c:Nat}(i:Int)(h1:97<=c)(h2:c<=122):WD (putK kvs (dz [c]) (.int i)):=by
 unfold putK;intro j m;split at m
 .let⟨p,hp,rfl⟩:=be.mp m;split
  .rename_i e;show(aK c i (by rw[e]) h1 h2)
  .show h p hp
 .rcases bq.mp m with m|m;.show h j m
  .rw[a_.mp m];show(aK c i rL h1 h2)
def WB (b:Int)(kvs:List (Key×V)):Prop:=∀c,0<=wf kvs c/\wf kvs c<=b
def WB.put {b:Int}{kvs:List (Key×V)}(h:WB b kvs){c:Nat}{i:Int}(h1:0<=i)(h2:i<=b):WB b (putK kvs (dz [c]) (.int i)):=λe=>by
 rw[ai2];split;.show⟨h1,h2⟩
 .show h e
def Yy:Sp:=λvs H Q _=>∃(pb t:Addr) (as:List Addr) (n m:Int),vs=[.ref pb,.ref t]/\H pb=some (.tup [.int n,.int m])/\H t=some (.tup (as.map V.ref))/\Q (.int (if n<=(as.length:Int) then m else 0)) H
def Xd (D:aN K mg "bonus_of" wO ["bonus","laying"])(G:mg "len"=none):bW P w K mg base "bonus_of" 1 ["bonus","laying"] Yy:=by
 calc D.dD WT (λf bO A outer s H vs Q E I h=>?_);let⟨pb,t,as,n,m,rfl,F,ht,q⟩:=h;calc(aj _ (aG (bC (oK (bV G8 (aQ bY qf G ax (ak bf aq)) (bh bD aH aA (λ_ _=>rfl)) (bM _)) (bh bD aH aA (λ_ _=>rfl)) aA))) ?_);calc(aj _ rL (aK t _ rL (.inr (aU.of ht)) (aj _ rL (bw pb _ _ _ rL rL (aU.of F) (aP (j:=0) rL) (aK _ _ rL rL (aj _ rL ?_))))));rw[aa];by_cases c:n<=(as.length:Int)
 .rw[if_pos c]at q;rw[ai c];show cA (aj _ rL (bw pb _ _ _ rL rL (aU.of F) (aP (j:=1) rL) q))
 .rw[if_neg c]at q;rw[ag c];show bR q
theorem ai3 {M:AB}{kvs:List (Key×V)}{ts:List cg}{q:lO}(j:WB 1000000 kvs):∀n,0<=(oA M kvs ts q n).1/\(oA M kvs ts q n).1<=4000000*(n:Int)
 | 0=>⟨pE _,by show (0:Int)<=4000000*0;decide⟩
 | n+1=>by
  let⟨h1,h2⟩:=ai3 (M:=M) (ts:=ts) (q:=q) j n;let⟨b1,b2⟩:=j (q.2.2.2.getD n 0);show 0<=(Iw _ _ _ _ _ _ _).1/\(Iw _ _ _ _ _ _ _).1<=4000000*((n+1:Nat):Int)
  unfold Iw;split
  .let⟨w1,w2⟩:=ai0 (cell M (sx q n) (sy q n));let m1:=Int.mul_nonneg b1 (show 0<=Iu (cell M (sx q n) (sy q n)) by lia);let m2:=k9 b2 w2 p_ qc;simp only;lia
  .simp only;lia
def als {M:AB}{kvs:List (Key×V)}{ts:List cg}{q:lO}{r w:Nat}(D:WB 1000000 kvs)(j:QIn r w q)(r9:r<=9)(w9:w<=9):-1000000000000000<=Qx M kvs ts q/\Qx M kvs ts q<=1000000000000000:=by
 let hl:q.2.2.2.length<=9:=by
  rcases kU q.2.2.2.length with z|z;.lia
  let h:=j.inn (q.2.2.2.length-1) p_;let hw:=j.way;unfold sx sy at h;by_cases c:q.2.2.1=0;.rw[c]at h;lia
  .rw[show q.2.2.1=1 by lia]at h;lia
 unfold Qx;let⟨h1,h2⟩:=ai3 (M:=M) (ts:=ts) (q:=q) D q.2.2.2.length;let⟨h3,h4⟩:=aeg M kvs ts q q.2.2.2.length;let h5:(4:Int)^q.2.2.2.length<=4^9:=by
  have:=Nat.pow_le_pow_right (show 0<4 by decide) hl
  exact_mod_cast this
 let F:(4:Int)^9=262144:=by decide
 rw[F]at h5;let h7:=Int.mul_nonneg h1 (show 0<=(oA M kvs ts q q.2.2.2.length).2 by lia);let G:=k9 (show (oA M kvs ts q q.2.2.2.length).1<=36000000 by lia) (show (oA M kvs ts q q.2.2.2.length).2<=262144 by lia) p_ qc;lia
noncomputable def aaA (aF aO:AB)(kvs:List (Key×V))(ts:List cg)(n m:Int):Int:=((jU aF ts).map (Qx aO kvs ts)).sum+if n<=(ts.length:Int) then m else 0
def aaB (C:Addr):Sp:=λvs H Q _=>∃(b d pb t:Addr) (kvs:List (Key×V)) (n m:Int) (as:List Addr) (ts:List cg) (r w:Nat) (aF aO:AB) (bi bj:Nat),vs=[.ref b,.ref d,.ref pb,.ref t]/\dh C H b r w aF aO bi bj/\Rd H d (.dK kvs)/\WD kvs/\WB 1000000 kvs/\H pb=some (.tup [.int n,.int m])/\H t=some (.tup (as.map V.ref))/\fV H as ts/\(∀t∈ts,inB r w t)/\0<ts.length/\ts.length<=7/\Hq ts/\
 ∀H',aD H H'->Q (.int (aaA aF aO kvs ts n m)) H'
def UJ {C:Addr}(D:aN K mg "points_of" uR ["board","worths","bonus","laying"])(Ml:mg "sum"=none)(Jv:bW P w K mg base "formed" 10 ["board","laying"] (Jq C))(Ru:bW P w K mg base "word_points" 2 ["board","worths","laying","word"] (Uy C))(Y:bW P w K mg base "bonus_of" 1 ["bonus","laying"] Yy):bW P w K mg base "points_of" 11 ["board","worths","bonus","laying"] (aaB C):=by
 calc D.dD Es (λf bO A outer s H vs Q E hr h=>?_);let⟨b,d,pb,t,kvs,n,m,as,ts,r,w,aF,aO,bi,bj,rfl,I,hd,hW,hB,hpb,ht,hL,fJ,h0,h7,O,q⟩:=h;calc(aj _ (aB (XR (ix:=4) (ns:=["word"]) Es.nd rL (Or.inl rL) rL (jX.of ["board","worths","bonus","laying","counted"] [] qh) (iI (bK Jv hr.mono rL (ak aH (ak bL aq)))) (λ_ _ _ _ _=>(Ng (show (["word","board","worths","bonus","laying","counted"]:List Str).Nodup by decide +kernel) rL qf)) (λ_ _ _ _ _=>fH) (λ_ _ _ _ _=>(bK Ru hr.mono rL (ak bf (ak bG (ak cP (ak aH aq))))))) (aG (bC (aL cW (aQ (abS rL) qf Ml PyProof.Rows.boot_sum (ak cP aq)) (bK Y hr.mono rL (ak bG (ak bL aq))))))) ?_);calc(aj _ rL (aj _ rL (K4 b t as ts r w aF aO bi bj rL I ht hL fJ h0 h7 O (λT bs H1 s1 hT hQ=>?_))));let hql:=Mi (aF:=aF) h7;let T8:bs.length=(jU aF ts).length:=hQ.len;refine(aX T rL ⟨_,aU.of hT⟩ (λM hM=>KJ (K:=K) (a:=T) (f:=j4 [] 0) (tt:=mW) (xs:=bs.map V.ref) (λi ys G=>ys=((jU aF ts).take i).map (λq=>V.int (Qx aO kvs ts q))/\G M=some (.lst ys)/\aD H1 G)
  (cF rL au (aD.upd hM)) (λi ys G _ h=>aU.of (h.2.2 _ _ hT)) ?_ ?_))
 .intro i x ys G hx z;let⟨rfl,J,s2⟩:=z;let⟨hi,hx⟩:=rfg hx;let hiw:i<(jU aF ts).length:=p_;subst hx;let⟨qq,eq,Z⟩:=(hQ.mv s2).get hi;let hB2:=I.1;let⟨_,F⟩:=id I;let hqi:=UG F.br F.r9 F.w9 fJ (bv eq);let j:=s1.trans s2;calc afp (aj _ rL (aj _ rL (aj _ rL (aj _ rL ⟨b,d,t,bs[i],kvs,as,ts,qq,r,w,aF,aO,bi,bj,rL,I.mv j,hd.mv j,hW,j _ _ ht,hL.mv j,h7,Z,hqi,λH3 s3=>?_⟩))));calc(cF (s3 _ _ J) (by rw[aa,ap];show aM p_) (iW.mk (by rw[aa];show hi) (cF ?_ au ((s2.trans s3).dY hM))));rw[de,eq,bu];rfl
 .intro ys G z;let⟨rfl,J,s2⟩:=z;rw[aa,T8,cz]at J;let⟨_,F⟩:=id I;let j:=s1.trans s2;let alu:G M=some (.lst (((jU aF ts).map (Qx aO kvs ts)).map V.int)):=by rw[fR];show J
  refine(aj _ rL (dw M ((jU aF ts).map (Qx aO kvs ts)) rL (bJ.of alu) (by rw[aa];lia) (λx hx=>?_) (aj _ rL (aj _ rL (K9 pb t as n m rL (j _ _ hpb) (j _ _ ht) (aK _ _ rL rL ?_))))))
  .let⟨qq,hq,rfl⟩:=be.mp hx;show als hB (UG F.br F.r9 F.w9 fJ hq) F.r9 F.w9
  .rw[hL.len];show q G j
def UL {a b:AB}(p:a.Perm b)(h1:a.Pairwise (λx y=>decide (y<x)=false))(h2:b.Pairwise (λx y=>decide (y<x)=false)):a=b:=p.eq_of_pairwise (le:=λx y=>decide (y<x)=false) (λx y _ _ D j=>List.le_antisymm (List.not_lt.mp (hV D)) (List.not_lt.mp (hV j))) h1 h2
def Oe {xs:List V}{b:Nat}(h:b<=xs.length):iG xs none (some (b:Int))=xs.take b:=by unfold iG;rw[HT.mj,HT.uc,fA h];simp
def Fo {xs:List V}{a:Nat}(h:a<=xs.length):iG xs (some (a:Int)) none=xs.drop a:=by unfold iG;rw[HT.mj,HT.uc,fA h,cv (by rw[bd];lia)]
def d7 (l:List Nat):List Nat:=l.mergeSort (λa b=>decide (a<=b))
def kI (l:List Nat):(d7 l).Perm l:=List.mergeSort_perm _ _
def ai4 {a b:Nat}:(decide ([b]<[a])=false)↔a<=b:=by rw[decide_eq_false_iff_not,ij];simp
def UW (l:List Nat):((d7 l).map λc=>[c]).Pairwise (λa b=>decide (b<a)=false):=by rw[List.pairwise_map];have:=List.pairwise_mergeSort (le:=λa b:Nat=>decide (a<=b)) (λa b c h1 h2=>by simp at *;lia) (λa b=>by simp;lia) l;show this.imp λh=>ai4.mpr (ej h)
def yc {l:List Nat}{ws:AB}(pm:ws.Perm (l.map λc=>[c]))(pw:ws.Pairwise (λa b=>decide (b<a)=false)):ws.flatten=d7 l:=by let e:=UL (pm.trans ((kI l).map λc=>[c]).symm) pw (UW l);rw[e];show nH _
def acr {a b:List Nat}(h:a.Perm b):d7 a=d7 b:=by
 let e:=UL (((kI a).trans (h.trans (kI b).symm)).map λc=>[c]) (UW a) (UW b);have:=congrArg List.flatten e
 rwa [nH,nH]at this
def R0:Sp:=λvs H Q _=>∃l:List Nat,vs=[.str (S l)]/\l.length<64/\∀H',aD H H'->Q (.str (S (d7 l))) H'
def Xe (D:aN K mg "in_order" wQ ["tiles"])(F:mg "sorted"=none):bW P w K mg base "in_order" 1 ["tiles"] R0:=by
 calc D.dD WW (λf bO A outer s H vs Q E G h=>?_);let⟨l,rfl,j,q⟩:=h;calc(aj _ (aG (bC (gP bp dq dr rC (bI [] qi) (ak (aQ (vN rL) qf F fN (ak aH aq)) aq)))) ?_);calc⟨rL,aj _ rL (aX l rL j (λp ls hp pm pw=>?_))⟩;calc(dw p (ls.map λc=>[c]) rL rL (bJ.of au) ?_ ?_);.rw[nH,pm.length_eq];lia
 .rw[yc (pm.map λc=>[c]) pw];show q _ (aD.upd hp)
def U0:Sp:=λvs H Q _=>∃(a:Addr) (xs:List V) (i:Nat) (v:V),vs=[.ref a,.int i,v]/\H a=some (.tup xs)/\i<xs.length/\xs.length<=63/\∀p H',aD H H'->H' p=some (.tup (xs.set i v))->Q (.ref p) H'
def U3 (D:aN K mg "exchanged" uU ["things","place","thing"]):bW P w K mg base "exchanged" 1 ["things","place","thing"] U0:=by
 calc D.dD TF (λf bO A outer s H vs Q E hr h=>?_);let⟨a,xs,i,v,rfl,ha,hi,Y,q⟩:=h;calc(aj _ (aG (bC (aL w6 (aL w6 (dR xq aH fO (dX bf)) (cL (ak bG aq))) (dR xq aH (dX (aL cW bf aA)) fO)))) ?_);calc(aj _ rL (aj _ rL (aj _ rL (aK a xs rL ha (λp1 H1 s1 h1=>?_)))));calc(aX _ rL (zsz 1) (λp2 O=>?_));let e2:upd H1 p2 (HO.tup [v]) p2=some (.tup [v]):=au;let s2:aD H1 (upd H1 p2 (HO.tup [v])):=aD.upd O;generalize upd H1 p2 (HO.tup [v])=H2 at e2 s2 ⊢;let G:(iG xs none (some (i:Int)))=xs.take i:=Oe p_;let j:(iG xs (some ((i:Int)+1)) none)=xs.drop (i+1):=Fo (a:=i+1) p_;rw[G]at h1;calc(nG p1 p2 _ _ rL rL (aU.of (s2 _ _ h1)) (aU.of e2) ?_ (λ_=>e2) (λz=>absurd z qa) (λp3 H3 I h3=>?_));.rw[ap];show am (aM (by simp;lia))
 calc(aj _ rL (aj _ rL (aK _ _ rL rL (aj _ rL (aK a xs rL (I _ _ (s2 _ _ (s1 _ _ ha))) (λp4 H4 F h4=>?_))))));rw[j]at h4;calc(nG p3 p4 _ _ rL rL (aU.of (F _ _ h3)) (aU.of h4) ?_ (λz=>by simp at z) (λ_ _=>F _ _ h3) (λp5 Z J h5=>?_));.rw[av,ap,bd];show am (aM (by simp;lia))
 calc q p5 Z ((((s1.trans s2).trans I).trans F).trans J) ?_;rw[h5,iE,if_pos hi];simp
def aaD {X:Cx}{S:St->Prop}:pA (qw X.prog X.w) X (λ_ _ _=>False) S:=λ_ _ _ _ _ _ _ _ ⟨_,_,_,_,_,_,_,z⟩=>z.elim
noncomputable def qy:List Nat->List Nat->Option (List Nat)
 | l,[]=>some l
 | l,c::cs=>if iH c∈l then qy (l.erase (iH c)) cs else none
theorem ux (c:Nat):∀l:List Nat,(l.map λc=>[c]).erase [c]=(l.erase c).map λc=>[c]
 | []=>rfl
 | a::l=>by
  rw[cw,List.erase_cons,List.erase_cons];by_cases e:a=c;.subst e;simp
  .rw[if_neg (by simpa using e),if_neg (by simpa using e),ux c l];rfl
theorem U4:∀{cs l j:List Nat},qy l cs=some j->Ay (l.map λc=>[c]) cs=.inr (j.map λc=>[c])
 | [],l,j,h=>by cases h;rfl
 | c::cs,l,j,h=>by
  unfold qy at h;split at h
  .rename_i hm;unfold Ay;rw[if_pos (be.mpr (aj _ hm rL)),ux];show U4 h
  .cases h
theorem A_:∀{cs l j:List Nat},qy l cs=some j->j.length+cs.length=l.length
 | [],l,j,h=>by cases h;rfl
 | c::cs,l,j,h=>by
  unfold qy at h;split at h
  .rename_i hm;have:=A_ h;rw[List.length_erase_of_mem hm]at this;have:=List.length_pos_of_mem hm;simp only[dE];lia
  .cases h
theorem Ba:∀{cs l j:List Nat},qy l cs=some j->∀c∈j,c∈l
 | [],l,j,h=>by cases h;show λ_ h=>h
 | c::cs,l,j,h=>by
  unfold qy at h;split at h;.show λd hd=>List.mem_of_mem_erase (Ba h d hd)
  .cases h
def U5:Sp:=λvs H Q _=>∃(bU l:List Nat) (t:Addr) (as:List Addr) (ts:List cg),vs=[.str (S bU),.ref t]/\H t=some (.tup (as.map V.ref))/\fV H as ts/\ts.length<=7/\bU.length<=63/\(∀t∈ts,sgN t.2.2)/\qy bU (ts.map (·.2.2))=some l/\∀H',aD H H'->Q (.str (S (d7 l))) H'
def Og {C:Addr}(D:aN K mg "left_behind" qY ["rack","laying"])(vA:DefX P w K mg base "left_of" 3 ["rack","signs"] (Mg C)):bW P w K mg base "left_behind" 4 ["rack","laying"] U5:=by
 calc D.dD Nt (λf bO A outer s H vs Q E hr h=>?_);let⟨bU,l,t,as,ts,rfl,ht,hL,h7,Z,O,Mp,q⟩:=h;let Y:=hL.len;calc(aj _ (aG (bC (pB vA hr.mono rL (aaD (S:=λ_=>True)) (ak aH (ak (gP bp dq dr rC (bI [] qi) (ak (mY (ns:=["row","column","sign"]) rL (jX.of ["rack","laying"] [] qh) (iI bf) (λ_ _ _ _ _=>(qg K rL (show (["row","column","sign","rack","laying"]:List Str).Nodup by decide +kernel) rL rL rL qf qf qf)) (λ_ _ _ _ _=>fH) (λ_ _ _ _ _=>bG)) aq)) aq))))) ?_);refine⟨True.intro,aX _ rL rL (aj _ rL (aX t rL ⟨_,aU.of ht⟩ (λN hN=>kY (K:=K) (KT:=K) (a:=t) (f:=j4 [] 0) (tt:=mW) (xs:=as.map V.ref) (λn ys j=>ys=Ts (ones ((ts.take n).map (·.2.2)))/\j N=some (.lst ys)/\aD H j)
  (cF rL au (aD.upd hN)) (λn ys j _ h=>aU.of (h.2.2 _ _ ht)) ?_ ?_)))⟩
 .intro n x ys j hx z;let⟨rfl,I,J⟩:=z;let⟨hn,hx⟩:=rfg hx;let F:n<ts.length:=p_;let⟨_,en⟩:=jV (hL.mv J) F;calc wF hx.symm (aU.of en) ?_;calc(iu _ rL I ?_ (iW.mk (by rw[aa];show hn) (cF ?_ au (J.dY hN))));.rw[aa,aa,aa,ap];show aM p_
  .rw[show ts.take (n+1)=ts.take n++[ts[n]] by rw[de,ac F];rfl];simp only[Ts,ones,bu];rfl
 .intro ys j z;let⟨rfl,I,J⟩:=z;rw[aa,Y,cz]at I;calc(dw N (ones (ts.map (·.2.2))) rL rL (bJ.of I) (by rw[nH,aa];lia) ?_);rw[nH];let G:=U4 Mp;refine(Bx bU (ts.map (λt:cg=>t.2.2)) rL Z (by rw[aa];lia) (λc hc=>?_) (λt e=>?_) (λleft e ws H7 s7 pm pw=>?_))
  .let⟨u,hu,rfl⟩:=be.mp hc;show(O u hu).lt
  .rw[G]at e;cases e
  rw[G]at e;cases e;rw[yc pm pw];show q H7 (J.trans s7)
def oE (c:Nat):Prop:=isLet c\/c=63
def oE.lt {c:Nat}(h:oE c):c<128:=by
 rcases h with h|h;.have:=h.2;lia
 .lia
def Oh:Sp:=λvs H Q _=>∃l:List Nat,vs=[.str (S l)]/\l≠[]/\l.length<=63/\(∀c∈l,oE c)/\∀H',aD H H'->Q (.bl true) H'
def U6 (D:aN K mg "are_tiles" uT ["thing"])(bA:mg "isinstance"=none)(wU:mg "str"=none)(gA:mg "all"=none)(O:∃t,mg "BLANK"=some (.str (S [63]) t)):bW P w K mg base "are_tiles" 1 ["thing"] Oh:=by
 calc D.dD Et (λf bO A outer s H vs Q E hr h=>?_);let⟨l,rfl,J,h63,ht,q⟩:=h;calc(aj _ (aB (cD (QW.qt (jY (dW (cZ (aQ fU qf bA aE (ak aH (ak (jj (v:=.ty "str") qf wU ml rL) aq))))) (jQ (bV jq aH (bI [] qi) (bM _))))) (aG (bC eO)) bN) (aG (bC (aQ (kh rL) qf gA jT (ak (jZ rL (jz.of Et.nd qh) (rT aH) (λ_ _ _ _ _=>fH) (λ_ _ _ _ _=>(KD (d8 jq aH (uL qf O) (bM _)) (ji (mX o7 o7 (bI [97] qi) aH (bI [122] qi)))))) aq))))) ?_);calc(aj _ rL (fB _ _ _ true rL (.str _) qh (aj true rL (bR (aj _ rL (aK l [] rL rL (aj _ rL ?_)))))));rw[ag J];refine bR (aj _ rL (aj l rL (λL Z=>xK (λi ys j=>ys=(List.replicate i true).map V.bl/\j L=some (.lst ys)/\aD H j) (cF rL au (aD.upd Z)) ?_ ?_)))
 .intro i c ys j hi z;let⟨rfl,F,I⟩:=z;let Y:i<l.length:=(ah.mp hi).1;let G:∀b,b=true->j L=some (.lst ((List.replicate i true).map V.bl))/\((List.replicate i true).map V.bl).length<sizeLine/\iW l.length i ((List.replicate i true).map V.bl++[V.bl b]=(List.replicate (i+1) true).map V.bl/\upd j L (.lst ((List.replicate i true).map V.bl++[V.bl b])) L=some (.lst ((List.replicate i true).map V.bl++[V.bl b]))/\aD H (upd j L (.lst ((List.replicate i true).map V.bl++[V.bl b])))):=λb hb=>by
   subst hb;show(cF F (by rw[aa,ce];show aM p_) (iW.mk Y (cF (xW i) au (I.dY Z))))
  calc(aj _ rL (aK [c] [63] rL rL (aj _ rL ?_)));rcases ht c (bv hi) with h|h
  .let⟨a1,a2⟩:=acd h;let h3:¬([c]=[63]):=λz=>by injection z with z;subst z;have:=h.1;lia
   rw[ag h3];show bR (aj _ rL (aK [97] [c] rL rL (aj true (by rw[a1];rfl) (cA (aK [c] [122] rL rL (G _ (by rw[a2];rfl)))))))
  .subst h;rw[ai rfl];show cA (G _ rL)
 .intro ys j z;let⟨rfl,F,I⟩:=z;calc(aK L (List.replicate l.length true) rL (bJ.of F) ?_);rw[Ao];show q j I
inductive cO
 | lay (ts:List cg)|swap (l:List Nat)|pass
def iT:List Nat:=[108,97,121]
def gC:List Nat:=[115,119,97,112]
def fu:List Nat:=[112,97,115,115]
def cO.name:cO->List Nat
 | .lay _=>iT
 | .swap _=>gC
 | .pass=>fu
def vB (H:Hp)(p:Addr):cO->Prop
 | .lay ts=>∃t as,H p=some (.tup [.str (S iT),.ref t])/\H t=some (.tup (as.map V.ref))/\fV H as ts
 | .swap l=>H p=some (.tup [.str (S gC),.str (S l)])
 | .pass=>H p=some (.tup [.str (S fu)])
def acs:Sp:=λvs H Q _=>∃(p:Addr) (d:cO),vs=[.ref p]/\vB H p d/\(∀l,d=.swap l->l≠[]/\l.length<=63/\∀c∈l,oE c)/\∀H',aD H H'->Q (.bl true) H'
open Classical in
def aaE (D:aN K mg "is_deed" vo ["thing"])(O:mg "isinstance"=none)(J:mg "tuple"=none)(Y:mg "len"=none)(I:bW P w K mg base "are_tiles" 1 ["thing"] Oh):bW P w K mg base "is_deed" 2 ["thing"] acs:=by
 calc D.dD Ld (λf bO A outer s H vs Q E G h=>?_);let⟨p,d,rfl,hd,hs,q⟩:=h;calc(aj _ (aB (cD (dW (cZ (aQ fU qf O aE (ak aH (ak (jj (v:=.ty "tuple") qf J c9 rL) aq))))) (aG (bC eO)) bN) (aB (cD (bV jk (aQ bY qf Y ax (ak aH aq)) aA (bM _)) (aG (bC (KD (d8 jq (bh bD aH aA (λ_ _=>rfl)) (bI [108,97,121] qi) (bM _)) (ji (jA (d8 jq (bh bD aH aA (λ_ _=>rfl)) (bI [115,119,97,112] qi) (bM _)) (ji (bK I G.mono rL (ak (bh bD aH aA (λ_ _=>rfl)) aq)))))))) bN) (aG (bC (d8 (vh G.units) aH (cL (ak (bI [112,97,115,115] qi) aq)) (bM _)))))) ?_);cases d with
 | lay ts=>let⟨t,as,h1,h2,h3⟩:=hd;calc(aj _ rL (fB _ _ _ true rL (.tup h1) qh (aj true rL (bR ?_))));calc(aj _ rL (aY p _ rL (.inr (aU.of h1)) rL (aj true qa (cA ?_))));calc(aj _ rL (bw p _ _ (.str (S iT)) rL rL (aU.of h1) (aP (j:=0) rL) (aK iT iT rL rL (aj true (by rw[ai rfl]) (cA ?_)))));show q H (aD.refl _)
 | swap l=>have h1:H p=some (.tup [.str (S gC),.str (S l)]):=hd;let⟨g1,g2,g3⟩:=hs l rfl;calc(aj _ rL (fB _ _ _ true rL (.tup h1) qh (aj true rL (bR ?_))));calc(aj _ rL (aY p _ rL (.inr (aU.of h1)) rL (aj true qa (cA ?_))));calc(aj _ rL (bw p _ _ (.str (S gC)) rL rL (aU.of h1) (aP (j:=0) rL) (aK gC iT rL rL (aj false (by rw[ag qc]) (bR ?_)))));calc(aj _ rL (bw p _ _ (.str (S gC)) rL rL (aU.of h1) (aP (j:=0) rL) (aK gC gC rL rL (aj true (by rw[ai rfl]) (cA ?_)))));show(aj _ rL (bw p _ _ (.str (S l)) rL rL (aU.of h1) (aP (j:=1) rL) (pI l rL g1 g2 g3 q)))
 | pass=>have h1:H p=some (.tup [.str (S fu)]):=hd;calc(aj _ rL (fB _ _ _ true rL (.tup h1) qh (aj true rL (bR ?_))));calc(aj _ rL (aY p _ rL (.inr (aU.of h1)) rL (aj false qa (bR ?_))));calc(aX _ rL (zsz 1) (λZ hZ=>?_));let F:aD H (upd H Z (HO.tup [.str (S fu)])):=aD.upd hZ;calc(cY 1 (.tup [.str fu]) (.tup [.str fu]) qc (.tup (aU.of (F _ _ h1)) (.cons (.str _ qc) .nil)) (.tup (aU.of au) (.cons (.str _ qc) .nil)) ?_);rw[ai rfl];show q _ F
structure Std where
 r:Nat
 w:Nat
 aF:List (List Nat)
 aO:List (List Nat)
 bi:Nat
 bj:Nat
 racks:List (List Nat)
 bag:List Nat
 jB:List Int
structure tH (K:W.Frag)(C:Addr):Prop where
 cl:Cls K C
 nb:jh K C "board"
 nr:jh K C "racks"
 ng:jh K C "bag"
 np:jh K C "points"
structure ig (C CS:Addr)(H:Hp)(p:Addr)(z:Std):Prop where
 ex:∃dx b pr pp,H p=some (.ins CS dx [("board",.ref b),("racks",.ref pr),("bag",.str (S z.bag)),("points",.ref pp)])/\dh C H b z.r z.w z.aF z.aO z.bi z.bj/\H pr=some (.tup (Ts z.racks))/\H pp=some (.tup (z.jB.map V.int))
def ig.mv {C CS:Addr}{H H':Hp}{p:Addr}{z:Std}(A:ig C CS H p z)(s:aD H H'):ig C CS H' p z:=by let⟨dx,b,pr,pp,h1,h2,h3,h4⟩:=A.ex;show⟨dx,b,pr,pp,s _ _ h1,h2.mv s,s _ _ h3,s _ _ h4⟩
structure jN (z:Std):Prop where
 n1:1<=z.racks.length
 n4:z.racks.length<=4
 r7:∀l∈z.racks,l.length<=7/\∀c∈l,oE c
 b6:z.bag.length<=60
 bt:∀c∈z.bag,oE c
 pl:z.jB.length=z.racks.length
def Hr (CS:Addr):Sp:=λvs H Q _=>∃(p dx b pr pp:Addr) (l:List Nat),vs=[.ref p,.ref b,.ref pr,.str (S l),.ref pp]/\H p=some (.ins CS dx [])/\
 ∀H',(∀b o,H b=some o->b≠p->H' b=some o)->H' p=some (.ins CS dx [("board",.ref b),("racks",.ref pr),("bag",.str (S l)),("points",.ref pp)])->Q .non H'
def Rv {f C:Addr}{fd:FuncData}(F:fG K "__init__" "Stand.__init__" lM f fd)(T:tH K C):cj P w K mg base dN 1 f fd ["self","board","racks","bag","points"] (Hr C):=by
 calc F.dD Rf (λbO A outer s H vs Q E D h=>?_);let⟨p,dx,b,pr,pp,l,rfl,hp,q⟩:=h;calc(aj _ (aB (mD aH bf rL) (aB (mD aH bG rL) (aB (mD aH bL rL) (aG (mD aH cP rL))))) ?_);calc(aj _ rL (aj _ rL (gW p C dx _ rL hp T.cl T.nb (by show 0<1000;decide) ?_)));calc(aj _ rL (aj _ rL (gW p C dx _ rL au T.cl T.nr (by show 1<1000;decide) ?_)));calc(aj _ rL (aj _ rL (gW p C dx _ rL au T.cl T.ng (by show 2<1000;decide) ?_)));calc(aj _ rL (aj _ rL (gW p C dx _ rL au T.cl T.np (by show 3<1000;decide) ?_)));calc q _ (λb o e j=>?_) ?_;.rw[aZ j,aZ j,aZ j,aZ j];show e
 .show au
def Fp {C CS x dx:Addr}{H j:Hp}{z:Std}{b pr pp:Addr}(hx:H x=none)(hd:H dx=none)(D:∀a o,upd (upd H dx (.own x)) x (.ins CS dx []) a=some o->a≠x->j a=some o)(e:j x=some (.ins CS dx [("board",.ref b),("racks",.ref pr),("bag",.str (S z.bag)),("points",.ref pp)]))(hb:dh C H b z.r z.w z.aF z.aO z.bi z.bj)(F:H pr=some (.tup (Ts z.racks)))(hp:H pp=some (.tup (z.jB.map V.int))):aD H j/\ig C CS j x z:=by let s:aD H j:=λa o h=>D a o (by rw[aZ (bF h hx),aZ (bF h hd)];show h) (bF h hx);show⟨s,dx,b,pr,pp,e,hb.mv s,s _ _ F,s _ _ hp⟩
def pC {l:List Nat}(b:Nat):iM l none (some (b:Int))=l.take b:=by
 unfold iM;rw[HT.mj,HT.uc];simp only[kf,Nat.sub_zero];by_cases h:b<=l.length;.rw[fA h]
 .rw[ku p_,cv (al _),cv p_]
def k_ {l:List Nat}(b:Nat):iM l (some (b:Int)) none=l.drop b:=by
 unfold iM;rw[HT.mj,HT.uc];by_cases h:b<=l.length;.rw[fA h,cv (by rw[bd];lia)]
 .rw[ku p_,kS,List.take_zero,g9 p_]
def alv (n k:Nat):(if (0:Int) > (n:Int)-(k:Int) then (0:Int) else (n:Int)-k)=((n-k:Nat):Int):=by split <;> lia
noncomputable def Oi (z:Std)(turn size:Nat)(ts:List cg)(l:List Nat)(pt:Int):Std:={z with aF:=fD z.aF ts,racks:=z.racks.set turn (d7 (d7 l++z.bag.take (size-(d7 l).length))),bag:=z.bag.drop (size-(d7 l).length),jB:=z.jB.set turn (z.jB.getD turn 0+pt)}
def jK (l:List Nat):(d7 l).length=l.length:=(kI l).length_eq
def Mq (ls:AB)(i:Nat)(l:List Nat):(Ts ls).set i (.str (S l))=Ts (ls.set i l):=by simp only[Ts,nc]
def U7 (ls:List Int)(i:Nat)(x:Int):(ls.map V.int).set i (.int x)=(ls.set i x).map V.int:=by rw[nc]
def acu (C CS:Addr):Sp:=λvs H Q _=>∃(p t:Addr) (z:Std) (turn size:Nat) (pt:Int) (as:List Addr) (ts:List cg) (l:List Nat),vs=[.ref p,.int turn,.int size,.ref t,.int pt]/\ig C CS H p z/\jN z/\turn<z.racks.length/\size<=7/\H t=some (.tup (as.map V.ref))/\fV H as ts/\(∀t∈ts,inB z.r z.w t)/\ts.length<=7/\(∀t∈ts,sgN t.2.2)/\qy (z.racks.getD turn []) (ts.map (·.2.2))=some l/\
 ∀j H',aD H H'->ig C CS H' j (Oi z turn size ts l pt)->Q (.ref j) H'
def Jx {C CS f0 f1:Addr}{fK dH:FuncData}(D:aN K mg "behind_laying" pN ["stand","turn","size","laying","points"])(zf:mg "max"=none)(bH:mg "len"=none)(cM:iz K C)(T:tH K CS)(yd:mg "Stand"=some (.ref CS))(Bb:Mk K CS f0)(Bc:cj P w K mg base dN 1 f0 fK ["self","board","racks","bag","points"] (Hr CS))(Bf:bT K fK ["self","board","racks","bag","points"] [])(lQ:Meth K C "laid" f1)(lR:cj P w K mg base dN 8 f1 dH ["self","laying"] (Fd C))(lU:bT K dH ["self","laying"] [])(Rw:bW P w K mg base "left_behind" 4 ["rack","laying"] U5)(qu:bW P w K mg base "in_order" 1 ["tiles"] R0)(uX:bW P w K mg base "exchanged" 1 ["things","place","thing"] U0):bW P w K mg base "behind_laying" 10 ["stand","turn","size","laying","points"] (acu C CS):=by
 calc D.dD jF (λf bO A outer s H vs Q E I h=>?_);let⟨p,t,z,turn,size,pt,as,ts,l,rfl,A0,Z,F,hsz,ht,hL,fJ,h7,hsg,Mp,q⟩:=h;let⟨dx,b,pr,pp,hp,hb,Y,hpp⟩:=A0.ex;let hg:z.racks.getD turn []=z.racks[turn]:=by rw[ay,ac F];rfl
 rw[hg]at Mp;let⟨k7,kt⟩:=Z.r7 _ (aS F);let hll:=A_ Mp;let hl7:(d7 l).length<=7:=by rw[jK];lia
 let hb6:=Z.b6;let n4:=Z.n4;let hpl:=Z.pl;calc(aj _ (aB (aW (i:=5) jF.nd rL (Or.inl rL) (bK Rw I.mono rL (ak (bh bD (bZ aH rL) bf (λ_ _=>rfl)) (ak bL aq)))) (aB (aW (i:=6) jF.nd rL (Or.inl rL) (aQ (Px rL) qf zf PyProof.Rows.boot_max (ak (aL oZ bG (aQ dO qf bH ax (ak d9 aq))) (ak aA aq)))) (aB (aW (i:=7) jF.nd rL (Or.inl rL) (bK qu I.mono rL (ak (aL mq d9 (dR qD (bZ aH rL) fO (dX gb))) aq))) (aB (aW (i:=8) jF.nd rL (Or.inl rL) (bK uX I.mono rL (ak (bZ aH rL) (ak bf (ak jr aq))))) (aB (aW (i:=9) jF.nd rL (Or.inl rL) (bK uX I.mono rL (ak (bZ aH rL) (ak bf (ak (aL cW (bh bD (bZ aH rL) bf (λ_ _=>rfl)) cP) aq))))) (aG (bC (rD Bb Bc I.mono rL yd Bf .nil eY (ak (nY (bZ aH rL) cM.cl lQ lR I.mono lU .nil eY (ak bL aq)) (ak lY (ak (dR qD (bZ aH rL) (dX gb) fO) (ak lZ aq)))))))))))) ?_);calc(aj _ rL (cT p CS dx _ _ rL hp T.cl T.nr rL (aj _ rL (bw pr _ _ (.str (S z.racks[turn])) rL rL (aU.of Y) (aP (j:=turn) (nJ (ac F))) (aj _ rL ⟨z.racks[turn],l,t,as,ts,rL,ht,hL,h7,p_,hsg,Mp,λH1 s1=>?_⟩)))));calc(aj _ rL (aj _ rL (aX (d7 l) rL (am (aM p_)) (aK _ _ rL rL (dM _ _ rL ?_)))));rw[alv];generalize hm:size-(d7 l).length=m;calc(aj _ rL (aj _ rL (cT p CS dx _ _ rL (s1 _ _ hp) T.cl T.ng rL (aj _ rL (aj _ rL (aX z.bag rL (am (aM p_)) (aY (d7 l) _ rL rL ?_ (aX (d7 l++z.bag.take m) ?_ ?_ (λH2 s2=>?_)))))))));.rw[pC,ap];show am (aM p_)
 .rw[pC];rfl
 .rw[av,ap];lia
 let fj:=s1.trans s2;calc(aj _ rL (cT p CS dx _ _ rL (fj _ _ hp) T.cl T.nr rL (aj _ rL (aj _ rL (bw pr _ turn _ rL (fj _ _ Y) (by rw[aa];show F) (by rw[aa];lia) (λFq H3 s3 Jy=>?_))))));let O:=fj.trans s3;let G:turn<z.jB.length:=p_;let U8:z.jB.getD turn 0=z.jB[turn]:=by rw[ay,ac G];rfl
 calc(aj _ rL (cT p CS dx _ _ rL (O _ _ hp) T.cl T.np rL (aj _ rL (aj _ rL (cT p CS dx _ _ rL (O _ _ hp) T.cl T.np rL (aj _ rL (bw pp _ _ (.int z.jB[turn]) rL rL (aU.of (O _ _ hpp)) (aP (j:=turn) (by rw[ck,ac G];rfl)) (aj _ rL (aK _ _ rL rL (bw pp _ turn _ rL (O _ _ hpp) (by rw[aa];show G) (by rw[aa];lia) (λMr H4 s4 zO=>?_)))))))))));let J:=O.trans s4;let⟨bx,_,_,_,hbx,_⟩:=(hb.mv J).ex;calc(aj _ rL (cT p CS dx _ _ rL (J _ _ hp) T.cl T.nb rL (cY b bx _ rL hbx rL (aj _ rL (Eo b t as ts z.r z.w z.aF z.aO z.bi z.bj rL (hb.mv J) (J _ _ ht) (hL.mv J) fJ (λb' H5 s5 hb'=>?_))))));let Az:=J.trans s5;calc(aj _ rL (aj _ rL (cT p CS dx _ _ rL (Az _ _ hp) T.cl T.ng rL (aj _ rL (aj _ rL (aX z.bag rL (am (aM p_)) (aj _ rL (λx ex n1 n2 n3=>?_))))))));rw[Mq]at Jy;rw[U7]at zO;calc⟨x,ex,b',Fq,Mr,z.bag.drop m,by rw[k_];rfl,au,λH6 k6 e6=>⟨rL,?_⟩⟩;let⟨s6,A6⟩:=Fp (z:=Oi z turn size ts l pt) n1 n2 k6 (by unfold Oi;simp only;rw[hm];show e6) hb' (by unfold Oi;simp only;rw[hm];show s5 _ _ (s4 _ _ Jy)) (by unfold Oi;simp only;rw[U8];show s5 _ _ zO);show q x H6 (Az.trans s6) A6
theorem Qz:∀{cs ds l:List Nat},cs.map pU=ds.map pU->qy l cs=qy l ds
 | [],[],_,_=>rfl
 | [],_::_,_,h=>by simp at h
 | _::_,[],_,h=>by simp at h
 | c::cs,d::ds,l,h=>by
  rw[cw,cw]at h;injection h with h1 h2;unfold qy;rw[show iH c=iH d from h1];split;.show Qz h2
  .rfl
def ai5 {c d:Nat}(h:pU c=pU d)(hd:d<128):c<128:=by unfold pU at h;split at h <;> split at h <;> lia
theorem acv:∀{cs ds:List Nat},cs.map pU=ds.map pU->(∀d∈ds,d<128)->∀c∈cs,c<128
 | [],_,_,_,c,hc=>by cases hc
 | a::cs,[],h,_,_,_=>by simp at h
 | a::cs,d::ds,h,hd,c,hc=>by
  rw[cw,cw]at h;injection h with h1 h2;rcases bX.mp hc with e|e;.subst e;show ai5 h1 (hd d cq)
  .show acv h2 (λx hx=>hd x (bz _ hx)) c e
noncomputable def R3 (z:Std)(turn:Nat)(l m:List Nat):Std:={z with racks:=z.racks.set turn (d7 (d7 m++z.bag.take l.length)),bag:=z.bag.drop l.length++d7 l}
def Yz (C CS:Addr):Sp:=λvs H Q _=>∃(p:Addr) (z:Std) (turn:Nat) (l m:List Nat),vs=[.ref p,.int turn,.str (S l)]/\ig C CS H p z/\jN z/\turn<z.racks.length/\l.length<=7/\(∀c∈l,oE c)/\qy (z.racks.getD turn []) l=some m/\l.length<=z.bag.length/\
 ∀j H',aD H H'->ig C CS H' j (R3 z turn l m)->Q (.ref j) H'
def Oj {C CS CL f0:Addr}{fK:FuncData}(D:aN K mg "behind_swap" qZ ["stand","turn","tiles"])(bH:mg "len"=none)(agF:∃t,t≠0/\mg "BLANK"=some (.str (S [63]) t))(T:tH K CS)(yd:mg "Stand"=some (.ref CS))(Bb:Mk K CS f0)(Bc:cj P w K mg base dN 1 f0 fK ["self","board","racks","bag","points"] (Hr CS))(Bf:bT K fK ["self","board","racks","bag","points"] [])(vA:DefX P w K mg base "left_of" 3 ["rack","signs"] (Mg CL))(qu:bW P w K mg base "in_order" 1 ["tiles"] R0)(uX:bW P w K mg base "exchanged" 1 ["things","place","thing"] U0):bW P w K mg base "behind_swap" 10 ["stand","turn","tiles"] (Yz C CS):=by
 calc D.dD n8 (λf bO A outer s H vs Q E G h=>?_);let⟨p,z,turn,l,m,rfl,A0,Z,F,hl7,hlt,Mp,T8,q⟩:=h;let⟨dx,b,pr,pp,hp,hb,I,hpp⟩:=A0.ex;let hg:z.racks.getD turn []=z.racks[turn]:=by rw[ay,ac F];rfl
 rw[hg]at Mp;let⟨k7,kt⟩:=Z.r7 _ (aS F);let hll:=A_ Mp;let hl7':(d7 m).length<=7:=by rw[jK];lia
 let hb6:=Z.b6;let n4:=Z.n4;calc(aj _ (aB (aW (i:=3) n8.nd rL (Or.inl rL) (pB vA G.mono rL (aaD (S:=λ_=>True)) (aiP 2 (aiO bD (ago aH rL) bf (λ_ _=>rfl)) agF rL (Or.inl rL) qf qi rL rL rL))) (aB (aW (i:=4) n8.nd rL (Or.inl rL) (aQ dO qf bH ax (ak bG aq))) (aB (cD (bV wu (aQ dO qf bH ax (ak (bZ aH rL) aq)) cP (bM _)) mC bN) (aB (aW (i:=5) n8.nd rL (Or.inl rL) (bK qu G.mono rL (ak (aL mq bL (dR qD (bZ aH rL) fO (dX cP))) aq))) (aB (aW (i:=6) n8.nd rL (Or.inl rL) (aL mq (dR qD (bZ aH rL) (dX cP) fO) (bK qu G.mono rL (ak bG aq)))) (aG (bC (rD Bb Bc G.mono rL yd Bf .nil eY (ak (bZ aH rL) (ak (bK uX G.mono rL (ak (bZ aH rL) (ak bf (ak d9 aq)))) (ak gb (ak (bZ aH rL) aq)))))))))))) ?_);calc⟨True.intro,aj _ rL (cT p CS dx _ _ rL hp T.cl T.nr rL (aj _ rL (bw pr _ _ (.str (S z.racks[turn])) rL rL (aU.of I) (aP (j:=turn) (nJ (ac F))) (aX l rL p_ (λl' el=>?_)))))⟩;let dI:l'.length=l.length:=by have:=congrArg List.length el;simpa using this
 let J:=U4 (Qz el ▸ Mp:qy z.racks[turn] l'=some m);calc(Bx (z.racks[turn]) l' rL p_ p_ (acv el (λd hd=>(hlt d hd).lt)) (λt e=>?_) (λleft e ws H1 s1 pm pw=>?_));.rw[J]at e;cases e
 rw[J]at e;cases e;rw[yc pm pw];calc(aj _ rL (aX l rL (am (aM p_)) ?_));calc(aj _ rL (cT p CS dx _ _ rL (s1 _ _ hp) T.cl T.ng rL (aX z.bag rL (am (aM p_)) (aj _ rL (aK _ _ rL rL (aj false (by simp;lia) (bR ?_)))))));calc(aj _ rL (aj _ rL (cT p CS dx _ _ rL (s1 _ _ hp) T.cl T.ng rL (aj _ rL (aj _ rL (aX z.bag rL (am (aM p_)) (aY (d7 m) _ rL rL ?_ (aX (d7 m++z.bag.take l.length) ?_ ?_ (λH2 s2=>?_)))))))));.rw[pC,ap];show am (aM p_)
 .rw[pC];rfl
 .rw[av,ap];lia
 let fj:=s1.trans s2;calc(aj _ rL (cT p CS dx _ _ rL (fj _ _ hp) T.cl T.ng rL (aj _ rL (aj _ rL (aX z.bag rL (am (aM p_)) (aj _ rL (aX l rL p_ (λH3 s3=>(aY _ (d7 l) rL rL ?_ ?_)))))))));.rw[k_,bd,jK];show am (aM p_)
 let O:=fj.trans s3;calc(aj _ rL (cT p CS dx _ _ rL (O _ _ hp) T.cl T.nb rL (aj _ rL (cT p CS dx _ _ rL (O _ _ hp) T.cl T.nr rL (aj _ rL (aj _ rL (bw pr _ turn _ rL (O _ _ I) (by rw[aa];show F) (by rw[aa];lia) (λFq H4 s4 Jy=>?_))))))));let Y:=O.trans s4;calc(aj _ rL (aj _ rL (cT p CS dx _ _ rL (Y _ _ hp) T.cl T.np rL (λx ex n1 n2 n3=>?_))));rw[Mq]at Jy;calc⟨x,ex,b,Fq,pp,z.bag.drop l.length++d7 l,by rw[k_];rfl,au,λH6 k6 e6=>⟨rL,?_⟩⟩;let⟨s6,A6⟩:=Fp (z:=R3 z turn l m) n1 n2 k6 e6 (hb.mv Y) Jy (Y _ _ hpp);show q x H6 (Y.trans s6) A6
structure Gm where
 sts:List Std
 done:List (List Nat)
 ws:List (List Nat)
 kvs:List (Key×V)
 bn:Int
 bm:Int
 size:Nat
structure mL (K:W.Frag)(C:Addr):Prop where
 cl:Cls K C
 nk:jh K C "book"
 nw:jh K C "worths"
 nn:jh K C "bonus"
 nz:jh K C "size"
 ns:jh K C "stands"
 nd:jh K C "done"
structure Bg (C CS:Addr)(H:Hp)(as:List Addr)(zs:List Std):Prop where
 len:as.length=zs.length
 at_:∀(i:Nat) (a:Addr) (z:Std),as[i]?=some a->zs[i]?=some z->ig C CS H a z
def Bg.mv {C CS:Addr}{H H':Hp}{as:List Addr}{zs:List Std}(h:Bg C CS H as zs)(s:aD H H'):Bg C CS H' as zs:=⟨h.len,λi a z h1 h2=>(h.at_ i a z h1 h2).mv s⟩
def Bg.last {C CS:Addr}{H:Hp}{as:List Addr}{zs:List Std}{z:Std}(h:Bg C CS H as (zs++[z])):∃bs a,as=bs++[a]/\ig C CS H a z:=by
 let hl:=h.len;rw[av]at hl;let j:as≠[]:=λe=>by subst e;simp at hl
 calc(dM as.dropLast (as.getLast j) ((gT j).symm) (h.at_ zs.length _ z ?_ qa));rw[List.getLast_eq_getElem,ac (by simp at hl;lia)];congr 1;simp at hl;simp[hl]
structure eV (C CS CB CG:Addr)(H:Hp)(g ps pd:Addr)(G:Gm):Prop where
 ex:∃dx k kd d pb,H g=some (.ins CG dx [("book",.ref k),("worths",.ref d),("bonus",.ref pb),("size",.int G.size),("stands",.ref ps),("done",.ref pd)])/\iJ CB H k kd G.ws/\H d=some (.dK G.kvs)/\H pb=some (.tup [.int G.bn,.int G.bm])
 st:∃as,H ps=some (.lst (as.map V.ref))/\Bg C CS H as G.sts
 dn:H pd=some (.lst (Ts G.done))
def eV.mv {C CS CB CG:Addr}{H H':Hp}{g ps pd:Addr}{G:Gm}(A:eV C CS CB CG H g ps pd G)(s:aD H H'):eV C CS CB CG H' g ps pd G:=by obtain⟨⟨dx,k,kd,d,pb,h1,h2,h3,h4⟩,⟨as,h5,j⟩,h7⟩:=A;show⟨(K9 dx k kd d pb (s _ _ h1) (h2.mv s) (s _ _ h3) (s _ _ h4)),(aj as (s _ _ h5) (j.mv s)),s _ _ h7⟩
def oW {bs:List Addr}{a:Addr}:rO ((bs++[a]).map V.ref) (-1)=some (.ref a):=by rw[bu];show Jb _ _
def tK (C CS CB CG:Addr)(R:Hp->Std->VK->Prop):Sp:=λvs H Q _=>∃(g ps pd:Addr) (G:Gm) (zs:List Std) (z:Std),vs=[.ref g]/\eV C CS CB CG H g ps pd G/\G.sts=zs++[z]/\R H z Q
def acw (C:Addr)(H:Hp)(z:Std)(Q:VK):Prop:=∀b,dh C H b z.r z.w z.aF z.aO z.bi z.bj->Q (.ref b) H
def Ms (H:Hp)(z:Std)(Q:VK):Prop:=∀p,H p=some (.tup (Ts z.racks))->Q (.ref p) H
def aeh (H:Hp)(z:Std)(Q:VK):Prop:=Q (.str (S z.bag)) H
def ai6 (H:Hp)(z:Std)(Q:VK):Prop:=∀p,H p=some (.tup (z.jB.map V.int))->Q (.ref p) H
def U9 {C CS CB CG f:Addr}{fd:FuncData}(F:fG K "board_now" "Game.board_now" je f fd)(T:mL K CG)(TS:tH K CS):cj P w K mg base dN 1 f fd ["self"] (tK C CS CB CG (acw C)):=by calc F.dD HJ (λbO A outer s H vs Q E O h=>?_);let⟨g,ps,pd,G,zs,z,rfl,I,hz,q⟩:=h;obtain⟨⟨dx,k,kd,d,pb,h1,h2,h3,h4⟩,⟨as,h5,j⟩,h7⟩:=I;rw[hz]at j;let⟨bs,a,rfl,J⟩:=j.last;let⟨D,b,pr,pp,e1,e2,e3,e4⟩:=J.ex;calc(aj _ (aG (bC (bZ (bh gH (bZ aH rL) (oJ lF aA) (λ_ _=>rfl)) rL))) ?_);show(aj _ rL (cT g CG dx _ _ rL h1 T.cl T.ns rL (aj _ rL (bw ps _ _ (.ref a) rL rL (bJ.of h5) oW (cT a CS D _ _ rL e1 TS.cl TS.nb rL (q b e2))))))
def U_ {C CS CB CG f:Addr}{fd:FuncData}(F:fG K "racks_now" "Game.racks_now" jf f fd)(T:mL K CG)(TS:tH K CS):cj P w K mg base dN 1 f fd ["self"] (tK C CS CB CG Ms):=by calc F.dD HN (λbO A outer s H vs Q E O h=>?_);let⟨g,ps,pd,G,zs,z,rfl,I,hz,q⟩:=h;obtain⟨⟨dx,k,kd,d,pb,h1,h2,h3,h4⟩,⟨as,h5,j⟩,h7⟩:=I;rw[hz]at j;let⟨bs,a,rfl,J⟩:=j.last;let⟨D,b,pr,pp,e1,e2,e3,e4⟩:=J.ex;calc(aj _ (aG (bC (bZ (bh gH (bZ aH rL) (oJ lF aA) (λ_ _=>rfl)) rL))) ?_);show(aj _ rL (cT g CG dx _ _ rL h1 T.cl T.ns rL (aj _ rL (bw ps _ _ (.ref a) rL rL (bJ.of h5) oW (cT a CS D _ _ rL e1 TS.cl TS.nr rL (q pr e3))))))
def aaF {C CS CB CG f:Addr}{fd:FuncData}(F:fG K "bag_now" "Game.bag_now" jG f fd)(T:mL K CG)(TS:tH K CS):cj P w K mg base dN 1 f fd ["self"] (tK C CS CB CG aeh):=by calc F.dD Le (λbO A outer s H vs Q E O h=>?_);let⟨g,ps,pd,G,zs,z,rfl,I,hz,q⟩:=h;obtain⟨⟨dx,k,kd,d,pb,h1,h2,h3,h4⟩,⟨as,h5,j⟩,h7⟩:=I;rw[hz]at j;let⟨bs,a,rfl,J⟩:=j.last;let⟨D,b,pr,pp,e1,e2,e3,e4⟩:=J.ex;calc(aj _ (aG (bC (bZ (bh gH (bZ aH rL) (oJ lF aA) (λ_ _=>rfl)) rL))) ?_);show(aj _ rL (cT g CG dx _ _ rL h1 T.cl T.ns rL (aj _ rL (bw ps _ _ (.ref a) rL rL (bJ.of h5) oW (cT a CS D _ _ rL e1 TS.cl TS.ng rL q)))))
def Rx {C CS CB CG f:Addr}{fd:FuncData}(F:fG K "points_now" "Game.points_now" iQ f fd)(T:mL K CG)(TS:tH K CS):cj P w K mg base dN 1 f fd ["self"] (tK C CS CB CG ai6):=by calc F.dD Ey (λbO A outer s H vs Q E O h=>?_);let⟨g,ps,pd,G,zs,z,rfl,I,hz,q⟩:=h;obtain⟨⟨dx,k,kd,d,pb,h1,h2,h3,h4⟩,⟨as,h5,j⟩,h7⟩:=I;rw[hz]at j;let⟨bs,a,rfl,J⟩:=j.last;let⟨D,b,pr,pp,e1,e2,e3,e4⟩:=J.ex;calc(aj _ (aG (bC (bZ (bh gH (bZ aH rL) (oJ lF aA) (λ_ _=>rfl)) rL))) ?_);show(aj _ rL (cT g CG dx _ _ rL h1 T.cl T.ns rL (aj _ rL (bw ps _ _ (.ref a) rL rL (bJ.of h5) oW (cT a CS D _ _ rL e1 TS.cl TS.np rL (q pp e4))))))
theorem dZ.tL {H:Hp}:∀{ls:AB},(∀l∈ls,∀c∈l,c<128)->dZ K H 1 (ls.map Dt.str) (Ts ls)
 | [],_=>.nil
 | l::ls,h=>.cons (.str l (h l cq)) (dZ.tL λD j=>h D (bz _ j))
def Ol (C CS CB CG:Addr):Sp:=λvs H Q _=>∃(g ps pd:Addr) (G:Gm) (zs:List Std) (z:Std),vs=[.ref g]/\eV C CS CB CG H g ps pd G/\G.sts=zs++[z]/\jN z/\Q (.int ((G.done.length%z.racks.length:Nat):Int)) H
def agG {C CS CB CG f f1:Addr}{fd dH:FuncData}(F:fG K "turn" "Game.turn" ni f fd)(D:mL K CG)(I:mg "len"=none)(O:Meth K CG "racks_now" f1)(J:cj P w K mg base dN 1 f1 dH ["self"] (tK C CS CB CG Ms))(lX:bT K dH ["self"] []):cj P w K mg base dN 2 f fd ["self"] (Ol C CS CB CG):=by
 calc F.dD TJ (λbO A outer s H vs Q E Y h=>?_);let⟨g,ps,pd,G,zs,z,rfl,j,hz,Z,q⟩:=h;let⟨dx,k,kd,d,pb,h1,h2,h3,h4⟩:=j.ex;let h7:=j.dn;let n1:=Z.n1;calc(aj _ (aG (bC (aL cu (aQ bY qf I ax (ak (bZ aH rL) aq)) (aQ bY qf I ax (ak (gR aH D.cl O J Y.mono lX .nil eY) aq))))) ?_);refine(aj _ rL (cT g CG dx _ _ rL h1 D.cl D.nd rL (aK pd _ rL (.inl (bJ.of h7)) (aj _ rL (cY g dx _ rL h1 rL (BL g ps pd G zs z rL j hz (λp hp=>(aK p _ rL (.inr (aU.of hp)) (aY _ _ rL rL ?_ ?_)))))))))
 .show (0:Int)<_;rw[aa];lia
 .rw[aa,aa];have:((G.done.length:Int)%(z.racks.length:Int))=((G.done.length%z.racks.length:Nat):Int):=by lia
  show Q (.int ((G.done.length:Int)%(z.racks.length:Int))) H;rw[this];show q
def vC (ps pd:Addr)(H H':Hp):Prop:=∀a o,H a=some o->a≠ps->a≠pd->H' a=some o
def kO {H:Hp}{a p:Addr}{xs:List V}{o:HO}(h:H p=some (.lst xs))(h':H a=some o)(d:∀ys,o≠.lst ys):a≠p:=λe=>by subst e;rw[h]at h';show d xs (bo h').symm
def dh.k2 {C:Addr}{H H':Hp}{p ps pd:Addr}{xs ys:List V}{r w:Nat}{aF aO:AB}{i j:Nat}(B:dh C H p r w aF aO i j)(s:vC ps pd H H')(h1:H ps=some (.lst xs))(h2:H pd=some (.lst ys)):dh C H' p r w aF aO i j:=by obtain⟨⟨dx,pr,pm,pb,a,b,c,d⟩,o⟩:=B;let k:∀a o,H a=some o->(∀ys,o≠HO.lst ys)->H' a=some o:=λa o h n=>s a o h (kO h1 h n) (kO h2 h n);show⟨(fB dx pr pm pb (k _ _ a (λ_ z=>nomatch z)) (k _ _ b (λ_ z=>nomatch z)) (k _ _ c (λ_ z=>nomatch z)) (k _ _ d (λ_ z=>nomatch z))),o⟩
def ig.k2 {C CS:Addr}{H H':Hp}{p ps pd:Addr}{xs ys:List V}{z:Std}(A:ig C CS H p z)(s:vC ps pd H H')(h1:H ps=some (.lst xs))(h2:H pd=some (.lst ys)):ig C CS H' p z:=by let⟨dx,b,pr,pp,a1,a2,a3,a4⟩:=A.ex;let k:∀a o,H a=some o->(∀ys,o≠HO.lst ys)->H' a=some o:=λa o h n=>s a o h (kO h1 h n) (kO h2 h n);show⟨dx,b,pr,pp,k _ _ a1 (λ_ z=>nomatch z),a2.k2 s h1 h2,k _ _ a3 (λ_ z=>nomatch z),k _ _ a4 (λ_ z=>nomatch z)⟩
def iJ.k2 {C:Addr}{H H':Hp}{p d ps pd:Addr}{xs ys:List V}{ws:AB}(B:iJ C H p d ws)(s:vC ps pd H H')(h1:H ps=some (.lst xs))(h2:H pd=some (.lst ys)):iJ C H' p d ws:=by let k:∀a o,H a=some o->(∀ys,o≠HO.lst ys)->H' a=some o:=λa o h n=>s a o h (kO h1 h n) (kO h2 h n);show⟨let ⟨dx,e⟩:=B.ob;⟨dx,k _ _ e (λ_ z=>nomatch z)⟩,k _ _ B.dc (λ_ z=>nomatch z),B.nd,B.az⟩
def eV.put {C CS CB CG:Addr}{H H':Hp}{g ps pd:Addr}{G:Gm}{zs:List Std}{dn:AB}{as:List Addr}(A:eV C CS CB CG H g ps pd G)(s:vC ps pd H H')(h1:H' ps=some (.lst (as.map V.ref)))(hs:Bg C CS H' as zs)(h2:H' pd=some (.lst (Ts dn))):eV C CS CB CG H' g ps pd {G with sts:=zs,done:=dn}:=by obtain⟨⟨dx,k,kd,d,pb,a1,a2,a3,a4⟩,⟨bs,a5,_⟩,a7⟩:=A;let j:∀a o,H a=some o->(∀ys,o≠HO.lst ys)->H' a=some o:=λa o h n=>s a o h (kO a5 h n) (kO a7 h n);show⟨(K9 dx k kd d pb (j _ _ a1 (λ_ z=>nomatch z)) (a2.k2 s a5 a7) (j _ _ a3 (λ_ z=>nomatch z)) (j _ _ a4 (λ_ z=>nomatch z))),(aj as h1 hs),h2⟩
def YB {as:List Addr}{ls:AB}(h:ls≠[]):as.map V.ref≠Ts ls:=λe=>by
 cases ls with
 | nil=>show h rfl
 | cons l ls=>
  cases as with
  | nil=>cases e
  | cons a as=>cases e
def acy (C CS CB CG:Addr):Sp:=λvs H Q _=>∃(g ps pd:Addr) (G:Gm) (zs:List Std) (z:Std) (dn:AB) (d:List Nat),vs=[.ref g]/\eV C CS CB CG H g ps pd G/\G.sts=zs++[z]/\G.done=dn++[d]/\(∀l∈G.done,∀c∈l,c<128)/\G.done.length<=500/\
 ∀H',vC ps pd H H'->eV C CS CB CG H' g ps pd {G with sts:=zs,done:=dn}->Q .non H'
open Classical in
def agH {C CS CB CG f:Addr}{fd:FuncData}(F:fG K "back" "Game.back" kZ f fd)(T:mL K CG):cj P w K mg base dN 1 f fd ["self"] (acy C CS CB CG):=by
 calc F.dD Ew (λbO A outer s H vs Q E hr h=>?_);let⟨g,ps,pd,G,zs,z,dn,d,rfl,A0,hz,hd,J,h5,q⟩:=h;let⟨dx,k,kd,dd,pb,h1,h2,h3,h4⟩:=A0.ex;let⟨as,j,Y⟩:=A0.st;let h7:=A0.dn;let I:G.done≠[]:=by rw[hd];simp
 rw[hz]at Y;let⟨bs,a,rfl,SA⟩:=Y.last;let O:ps≠pd:=yC j h7 λe=>YB I (by injection e);calc(aj _ (aB (cD (bV (vh hr.units) (bZ aH rL) (fW aq) (bM _)) mC bN) (aB (dF (xJ bS PySem.F.slot_list_pop PySem.F.type_list_pop abk (bZ aH rL))) (aG (dF (xJ bS PySem.F.slot_list_pop PySem.F.type_list_pop abk (bZ aH rL)))))) ?_);calc(aj _ rL (wH g CG dx _ _ rL h1 T.cl T.nd rL (zsz 0) (λZ hZ=>?_)));let D:aD H (upd H Z (HO.lst [])):=aD.upd hZ;let eZ:upd H Z (HO.lst []) Z=some (.lst []):=au;generalize upd H Z (HO.lst [])=H1 at D eZ ⊢;calc(cY 2 (.lst (G.done.map Dt.str)) (.lst []) qc (.lst (bJ.of (D _ _ h7)) (dZ.tL J)) (.lst (bJ.of eZ) .nil) (aj _ rL ?_));rw[ag (λe=>by injection e with e;show I (List.map_eq_nil_iff.mp e))];calc bR ?_;refine(aj _ rL (wH g CG dx _ _ rL (D _ _ h1) T.cl T.ns rL (.inl ⟨rL,_,bJ.of (D _ _ j)⟩) (eG ps _ (.ref a) rL rL (D _ _ j) ?_ ?_)))
 .simp
 let U8:g≠ps:=kO j h1 (λ_ z=>nomatch z);let e1:=D _ _ h1;rw[<-aZ (H:=H1) (o:=.lst ((bs++[a]).map V.ref).dropLast) U8]at e1;let e7:=D _ _ h7;rw[<-aZ (H:=H1) (o:=.lst ((bs++[a]).map V.ref).dropLast) O.symm]at e7;calc(aj _ rL (wH g CG dx _ _ rL e1 T.cl T.nd rL (.inl ⟨rL,_,bJ.of e7⟩) (eG pd _ (.str (S d)) rL rL e7 ?_ ?_)));.rw[hd];simp[Ts]
 let kk:vC ps pd H (upd (upd H1 ps (.lst ((bs++[a]).map V.ref).dropLast)) pd (.lst (Ts G.done).dropLast)):=λb o e n1 n2=>by rw[aZ n2,aZ n1];show D _ _ e
 calc q _ kk (A0.put kk (as:=bs) ?_ ⟨?_,λi b y e1 e2=>?_⟩ ?_);.rw[aZ O,au];simp
 .have:=Y.len;simpa using this
 .calc(Y.at_ i b y ?_ ?_).k2 kk j h7;.rw[di (ah.mp e1).1];show e1
  .rw[di (ah.mp e2).1];show e2
 .rw[au,hd];simp[Ts]
def zj (G:Gm)(z:Std):Nat:=(((G.done.length:Int)-1)%(z.racks.length:Int)).toNat
noncomputable def gZ (G:Gm)(z:Std):Bool:=decide (G.done.drop (G.done.length-2*z.racks.length)=List.replicate (2*z.racks.length) fu)||(decide (G.done.drop (G.done.length-1)=[iT])&&(decide (z.bag=[])&&decide (z.racks.getD (zj G z) []=[])))
def Va {xs:List V}{k:Nat}(j:1<=k):iG xs (some (-(k:Int))) none=xs.drop (xs.length-k):=by
 let e:HT.dB xs.length 0 (some (-(k:Int)))=xs.length-k:=by show (if -(k:Int)<0 then (-(k:Int)+(xs.length:Int)).toNat else _)=_;rw[if_pos p_];lia
 unfold iG;rw[e,HT.uc,cv (by rw[bd];lia)]
def YC (ls:AB)(n:Nat):(Ts ls).drop n=Ts (ls.drop n):=by simp only[Ts,ot]
def str_inj {as bs:AB}:Dt.lst (as.map Dt.str)=Dt.lst (bs.map Dt.str)↔as=bs:=by
 constructor
 .intro h;injection h with h;show(List.map_inj_right (λa b e=>by injection e)).mp h
 .rintro rfl;rfl
def Hs {p q:Prop} [Decidable p] [Decidable q] (h:p↔q):decide p=decide q:=by
 by_cases hp:p;.rw[ai hp,ai (h.mp hp)]
 .rw[ag hp,ag λz=>hp (h.mpr z)]
def Mt (C CS CB CG:Addr):Sp:=λvs H Q _=>∃(g ps pd:Addr) (G:Gm) (zs:List Std) (z:Std),vs=[.ref g]/\eV C CS CB CG H g ps pd G/\G.sts=zs++[z]/\jN z/\(∀l∈G.done,∀c∈l,c<128)/\G.done.length<=500/\∀H',aD H H'->Q (.bl (gZ G z)) H'
open Classical in
def aaG {C CS CB CG f f1 f2:Addr}{fd dH fd2:FuncData}(F:fG K "is_over" "Game.is_over" jH f fd)(J:mL K CG)(bH:mg "len"=none)(lV:Meth K CG "racks_now" f1)(lW:cj P w K mg base dN 1 f1 dH ["self"] (tK C CS CB CG Ms))(lX:bT K dH ["self"] [])(uy:Meth K CG "bag_now" f2)(uz:cj P w K mg base dN 1 f2 fd2 ["self"] (tK C CS CB CG aeh))(uD:bT K fd2 ["self"] []):cj P w K mg base dN 4 f fd ["self"] (Mt C CS CB CG):=by
 calc F.dD pO (λbO A outer s H vs Q E hr h=>?_);let⟨g,ps,pd,G,zs,z,rfl,A0,hz,Z,I,h5,q⟩:=h;let⟨dx,k,kd,d,pb,h1,h2,h3,h4⟩:=A0.ex;let h7:=A0.dn;let n1:=Z.n1;let n4:=Z.n4;calc(aj _ (aB (aW (i:=1) pO.nd rL (Or.inl rL) (gR aH J.cl lV lW hr.mono lX .nil eY)) (aB (aW (i:=2) pO.nd rL (Or.inl rL) (aL jo aA (aQ bY qf bH ax (ak bf aq)))) (aB (cD (bV (vh hr.units) (dR wY (bZ aH rL) (dX (oJ lF bG)) fO) (aL abl (fW (ak (bI [112,97,115,115] qi) aq)) bG) (bM _)) (aG (bC eO)) bN) (aB (aW (i:=3) pO.nd rL (Or.inl rL) (aL cu (aL oZ (aQ bY qf bH ax (ak (bZ aH rL) aq)) aA) (aQ bY qf bH ax (ak bf aq)))) (aG (bC (jA (d8 (vh hr.units) (dR wY (bZ aH rL) (dX (oJ lF aA)) fO) (fW (ak (bI [108,97,121] qi) aq)) (bM _)) (jA (d8 jq (gR aH J.cl uy uz hr.mono uD .nil eY) (bI [] qi) (bM _)) (ji (d8 jq (bh bD bf bL (λ_ _=>rfl)) (bI [] qi) (bM _))))))))))) ?_);calc(aj _ rL (cY g dx _ rL h1 rL (BL g ps pd G zs z rL A0 hz (λpr hpr=>?_))));refine(aj _ rL (aK pr _ rL (.inr (aU.of hpr)) (aY _ _ rL rL ?_ ?_)))
 .show Zu _ _;rw[aa];show .inl ⟨qc,qc⟩
 rw[aa];let em:(λi j:Int=>V.int (i*j)) 2 (z.racks.length:Int)=V.int ((2*z.racks.length:Nat):Int):=by show V.int _=V.int _;congr 1
 rw[em];generalize hk:2*z.racks.length=k2;calc(aj _ rL (cT g CG dx _ _ rL h1 J.cl J.nd rL (aj _ rL (aj _ rL (aj _ rL (aK pd _ rL (bJ.of h7) (λp1 e1=>?_)))))));rw[Va p_,YC,aa];let sx1:aD H (upd H p1 (.lst (Ts (G.done.drop (G.done.length-k2))))):=aD.upd e1;let Yg:upd H p1 (.lst (Ts (G.done.drop (G.done.length-k2)))) p1=some (.lst (Ts (G.done.drop (G.done.length-k2)))):=au;generalize upd H p1 (.lst (Ts (G.done.drop (G.done.length-k2))))=H1 at sx1 Yg ⊢;calc⟨zsz 1,λp2 e2=>?_⟩;let sx2:aD H1 (upd H1 p2 (HO.lst [V.str (S [112,97,115,115])])):=aD.upd e2;let ex2:upd H1 p2 (HO.lst [V.str (S [112,97,115,115])]) p2=some (.lst (Ts [fu])):=au;generalize upd H1 p2 (HO.lst [V.str (S [112,97,115,115])])=H2 at sx2 ex2 ⊢;refine(aj _ rL (K8 p2 (k2:Int) (Ts [fu]) rL rL ex2 p_ p_ ?_ (λp3 e3=>?_)))
 .show 1*_<=sizeLine;show am (aM (by simp;lia))
 let er:(List.replicate (k2:Int).toNat (Ts [fu])).flatten=Ts (List.replicate k2 fu):=by rw[eh];simp[Ts]
 let alw:=sx2 _ _ Yg;let fj:=sx1.trans sx2;rw[er];let Y:aD H2 (upd H2 p3 (.lst (Ts (List.replicate k2 fu)))):=aD.upd e3;let ex3:upd H2 p3 (.lst (Ts (List.replicate k2 fu))) p3=some (.lst (Ts (List.replicate k2 fu))):=au;let afz:=Y _ _ alw;let fX:=fj.trans Y;generalize upd H2 p3 (.lst (Ts (List.replicate k2 fu)))=H3 at Y ex3 afz fX ⊢;calc(cY 2 (.lst ((G.done.drop (G.done.length-k2)).map Dt.str)) (.lst ((List.replicate k2 fu).map Dt.str)) qc (.lst (bJ.of afz) (dZ.tL λl hl=>I l (eJ hl))) (.lst (bJ.of ex3) (dZ.tL λl hl=>?_)) (aj _ rL ?_));.rw[List.eq_of_mem_replicate hl];decide
 rw[Hs str_inj];by_cases hp:G.done.drop (G.done.length-k2)=List.replicate k2 fu
 .rw[ai hp];calc cA ?_;have:=q H3 fX;unfold gZ at this;rw[hk,ai hp,Bool.true_or]at this;show this
 .rw[ag hp];calc bR ?_;let h13:=fX _ _ h1;let h73:=fX _ _ h7;let Vb:=fX _ _ hpr;refine(aj _ rL (cT g CG dx _ _ rL h13 J.cl J.nd rL (aK pd _ rL (.inl (bJ.of h73)) (aK _ _ rL rL (aj _ rL (aK pr _ rL (.inr (aU.of Vb)) (aY _ _ rL rL ?_ ?_)))))))
  .show (0:Int)<_;rw[aa];lia
  rw[aa,aa];let el:(λi j:Int=>V.int (i%j)) ((G.done.length:Int)-1) (z.racks.length:Int)=V.int ((zj G z:Nat):Int):=by show V.int _=V.int _;congr 1;unfold zj;have:=du ((G.done.length:Int)-1) (b:=(z.racks.length:Int)) p_;lia
  let ll:zj G z<z.racks.length:=by unfold zj;have:=du ((G.done.length:Int)-1) (b:=(z.racks.length:Int)) p_;have:=dP ((G.done.length:Int)-1) (b:=(z.racks.length:Int)) p_;lia
  rw[el];calc(aj _ rL (cT g CG dx _ _ rL h13 J.cl J.nd rL (aj _ rL (aj _ rL (aK pd _ rL (bJ.of h73) (λp4 e4=>?_))))));rw[show (-1:Int)=-((1:Nat):Int) from rL,Va (al 1),YC,aa];let sx4:aD H3 (upd H3 p4 (.lst (Ts (G.done.drop (G.done.length-1))))):=aD.upd e4;let ex4:upd H3 p4 (.lst (Ts (G.done.drop (G.done.length-1)))) p4=some (.lst (Ts (G.done.drop (G.done.length-1)))):=au;generalize upd H3 p4 (.lst (Ts (G.done.drop (G.done.length-1))))=H4 at sx4 ex4 ⊢;calc⟨zsz 1,λp5 e5=>?_⟩;let O:aD H4 (upd H4 p5 (HO.lst [V.str (S [108,97,121])])):=aD.upd e5;let ex5:upd H4 p5 (HO.lst [V.str (S [108,97,121])]) p5=some (.lst (Ts [iT])):=au;generalize upd H4 p5 (HO.lst [V.str (S [108,97,121])])=H5 at O ex5 ⊢;let Az:=(fX.trans sx4).trans O;calc(cY 2 (.lst ((G.done.drop (G.done.length-1)).map Dt.str)) (.lst ([iT].map Dt.str)) qc (.lst (bJ.of (O _ _ ex4)) (dZ.tL λl hl=>I l (eJ hl))) (.lst (bJ.of ex5) (dZ.tL qc)) (aj _ rL ?_));rw[Hs str_inj];let D:=q H5 Az;unfold gZ at D;rw[hk,ag hp,Bool.false_or]at D;by_cases hy:G.done.drop (G.done.length-1)=[iT]
  .rw[ai hy]at D ⊢;rw[mf]at D;calc cA (aj _ rL (cY g dx _ rL (Az _ _ h1) rL (BL g ps pd G zs z rL (A0.mv Az) hz (aK z.bag [] rL rL (aj _ rL ?_)))));by_cases hb:z.bag=[]
   .rw[ai hb]at D ⊢;rw[mf]at D;calc cA (aj _ rL (aj _ rL (bw pr _ _ (.str (S z.racks[zj G z])) rL rL (aU.of (Az _ _ hpr)) (aP (nJ (ac ll))) (aK _ [] rL rL ?_))));rw[ay,ac ll]at D;show D
   .rw[ag hb]at D ⊢;show bR D
  .rw[ag hy]at D ⊢;show bR D
def jO (G:Gm)(z:Std):Nat:=G.done.length%z.racks.length
structure ai7 (G:Gm):Prop where
 low:∀l∈G.done,∀c∈l,c<128
 len:G.done.length<=400
 sl:G.sts.length<=500
 wd:WD G.kvs
 wb:WB 1000000 G.kvs
 sz:G.size<=7
inductive Does (G:Gm) (z:Std):cO->Int->Std->Prop
 | lay {ts:List cg} {l:List Nat} (yg:∀t∈ts,inB z.r z.w t) (h0:0<ts.length) (h7:ts.length<=7) (ri:j8 (ts.map oV)=true) (vd:tX z.aF z.r z.w z.bi z.bj G.ws (z.racks.getD (jO G z) []) ts .ok) (lf:qy (z.racks.getD (jO G z) []) (ts.map (·.2.2))=some l) :
   Does G z (.lay ts) (aaA z.aF z.aO G.kvs ts G.bn G.bm) (Oi z (jO G z) G.size ts l (aaA z.aF z.aO G.kvs ts G.bn G.bm))
 | swap {l m:List Nat} (ne:l≠[]) (h7:l.length<=7) (tl:∀c∈l,oE c) (lf:qy (z.racks.getD (jO G z) []) l=some m) (hb:l.length<=z.bag.length):Does G z (.swap l) 0 (R3 z (jO G z) l m)
 | pass:Does G z .pass 0 z
def akG {aF:AB}{r w bi bj:Nat}{ws:AB}{bU:List Nat}{ts:List cg}{v:Vd}(h:tX aF r w bi bj ws bU ts .ok)(g:tX aF r w bi bj ws bU ts v):v=.ok:=by
 cases h with
 | ok h1 h2 h3 h4 h5 h=>
  cases g with
  | Dz e=>rw[h1]at e;cases e
  | DG _ e=>rw[h2]at e;cases e
  | gap _ _ e=>show absurd e.fr (h3 _ _ e.i1 e.i2 e.j1 e.j2)
  | DK _ _ _ e=>rw[h4]at e;cases e
  | DN _ _ _ _ e=>let⟨l,hl⟩:=h5;rw[hl]at e;cases e
  | nw _ _ _ _ _ e=>rw[h]at e;cases e
  | ok=>rfl
def YD {aF:AB}{r w bi bj:Nat}{ws:AB}{bU:List Nat}{ts:List cg}(h:tX aF r w bi bj ws bU ts .ok):(uo ts||uq ts)=true:=by
 cases h with| ok h1 h2 h3 h4 h5 h=>show h2
def aei (d:cO):∀c∈d.name,c<128:=by
 cases d;.show ∀c∈iT,c<128;decide
 .show ∀c∈gC,c<128;decide
 .show ∀c∈fu,c<128;decide
def aej (C CS CB CG:Addr):Sp:=λvs H Q _=>∃(g p ps pd:Addr) (G:Gm) (zs:List Std) (z z':Std) (d:cO) (pt:Int),vs=[.ref g,.ref p]/\eV C CS CB CG H g ps pd G/\G.sts=zs++[z]/\jN z/\ai7 G/\vB H p d/\gZ G z=false/\Does G z d pt z'/\
 ∀H',vC ps pd H H'->eV C CS CB CG H' g ps pd {G with sts:=G.sts++[z'],done:=G.done++[d.name]}->Q (.int pt) H'
def YF {H:Hp}{p:Addr}{d:cO}(h:vB H p d):∃xs,H p=some (.tup (.str (S d.name)::xs)):=by
 cases d with
 | lay ts=>let⟨t,as,h1,_⟩:=h;show⟨_,h1⟩
 | swap l=>show⟨_,h⟩
 | pass=>show⟨_,h⟩
def Bg.snoc {C CS:Addr}{H:Hp}{as:List Addr}{zs:List Std}{a:Addr}{z:Std}(h:Bg C CS H as zs)(g:ig C CS H a z):Bg C CS H (as++[a]) (zs++[z]):=by
 calc⟨by rw[av,av,h.len];rfl,λi b y e1 e2=>?_⟩;by_cases hi:i<as.length
 .rw[di hi]at e1;rw[di (by rw[<-h.len];show hi)]at e2;show h.at_ i b y e1 e2
 .rw[df p_]at e1;rw[df (by rw[<-h.len];lia),<-h.len]at e2;let h0:i-as.length=0:=by have:=(ah.mp e1).1;simp at this;lia
  rw[h0]at e1 e2;cases e1;cases e2;show g
def Bg.k2 {C CS:Addr}{H H':Hp}{ps pd:Addr}{xs ys:List V}{as:List Addr}{zs:List Std}(h:Bg C CS H as zs)(s:vC ps pd H H')(h1:H ps=some (.lst xs))(h2:H pd=some (.lst ys)):Bg C CS H' as zs:=⟨h.len,λi a z e1 e2=>(h.at_ i a z e1 e2).k2 s h1 h2⟩
open Classical in
def akH {C CS CB CG f f1 f2:Addr}{fd dH fd2:FuncData}{c:Ut}(F:fG K "do" "Game.do" n_ f fd)(cU:mL K CG)(TS:tH K CS)(lu:Meth K CG "is_over" f1)(lB:cj P w K mg base dN 4 f1 dH ["self"] (Mt C CS CB CG))(lC:bT K dH ["self"] [])(zP:Meth K CG "turn" f2)(zQ:cj P w K mg base dN 2 f2 fd2 ["self"] (Ol C CS CB CG))(zR:bT K fd2 ["self"] [])(Ft:bW P w K mg base "is_deed" 2 ["thing"] acs)(uE:DefX P w K mg base "check_laying" 14 ["board","book","rack","laying"] (Ob K C CB c))(zT:bW P w K mg base "points_of" 11 ["board","worths","bonus","laying"] (aaB C))(Mu:bW P w K mg base "behind_laying" 10 ["stand","turn","size","laying","points"] (acu C CS))(Ry:bW P w K mg base "behind_swap" 10 ["stand","turn","tiles"] (Yz C CS)):cj P w K mg base dN 16 f fd ["self","deed"] (aej C CS CB CG):=by
 calc F.dD mH (λbO A outer s H vs Q E hr h=>?_);let⟨g,p,ps,pd,G,zs,z,z',d,pt,rfl,A0,hz,Z,GK,hd,hov,hdo,q⟩:=h;let⟨dx,k,kd,dd,pb,h1,h2,h3,h4⟩:=A0.ex;let⟨as0,h5,h6⟩:=A0.st;let h7:=A0.dn;let n1:=Z.n1;let h6':=h6;rw[hz]at h6';let⟨bs,a,rfl,SA⟩:=h6'.last;let⟨dy,b,pr,pp,e1,e2,e3,e4⟩:=SA.ex;let htn:jO G z<z.racks.length:=Nat.mod_lt _ n1;let hg:z.racks.getD (jO G z) []=z.racks[jO G z]:=by rw[ay,ac htn];rfl
 let⟨k7,kt⟩:=Z.r7 _ (aS htn);calc(aj _ (aB (cD (dW (cZ (bK Ft hr.mono rL (ak bf aq)))) mC bN) (aB (cD (cZ (gR aH cU.cl lu lB hr.mono lC .nil eY)) mC bN) (aB (aW (i:=2) mH.nd rL (Or.inl rL) (bh gH (bZ aH rL) (oJ lF aA) (λ_ _=>rfl))) (aB (aW (i:=3) mH.nd rL (Or.inl rL) (gR aH cU.cl zP zQ hr.mono zR .nil eY)) (aB (aW (i:=4) mH.nd rL (Or.inl rL) aA) (aB (gU (cD (bV jq (bh bD bf aA (λ_ _=>rfl)) (bI [108,97,121] qi) (bM _)) (aB (dF (pB uE hr.mono rL (aaD (S:=λ_=>True)) (ak (bZ bG rL) (ak (bZ aH rL) (ak (bh bD (bZ bG rL) bL (λ_ _=>rfl)) (ak (bh bD bf aA (λ_ _=>rfl)) aq)))))) (aB (aW (i:=4) mH.nd rL (Or.inl rL) (bK zT hr.mono rL (ak (bZ bG rL) (ak (bZ aH rL) (ak (bZ aH rL) (ak (bh bD bf aA (λ_ _=>rfl)) aq)))))) (aG (aW (i:=2) mH.nd rL (Or.inl rL) (bK Mu hr.mono rL (ak bG (ak bL (ak (bZ aH rL) (ak (bh bD bf aA (λ_ _=>rfl)) (ak cP aq)))))))))) (aG (gU (cD (bV jq (bh bD bf aA (λ_ _=>rfl)) (bI [115,119,97,112] qi) (bM _)) (aG (aW (i:=2) mH.nd rL (Or.inl rL) (bK Ry hr.mono rL (ak bG (ak bL (ak (bh bD bf aA (λ_ _=>rfl)) aq)))))) bN))))) (aB (dF (gP bS dA dC jy (bZ aH rL) (ak bG aq))) (aB (dF (gP bS dA dC jy (bZ aH rL) (ak (bh bD bf aA (λ_ _=>rfl)) aq))) (aG (bC cP)))))))))) ?_);refine(aj _ rL (aY p d rL hd (λl e=>?_) (λH1 s1=>(aj true rL (bR ?_)))))
 .subst e;cases hdo with| swap ne h7 tl lf hb=>show(cF ne p_ tl)
 calc(aj _ rL (cY g dx _ rL (s1 _ _ h1) rL (pK g ps pd G zs z rL (A0.mv s1) hz Z GK.low (by have:=GK.len;lia) (λH2 s2=>(aj _ rL ?_)))));rw[hov];let J:=s1.trans s2;calc bR (aj _ rL (cT g CG dx _ _ rL (J _ _ h1) cU.cl cU.ns rL (aj _ rL (bw ps _ _ (.ref a) rL rL (bJ.of (J _ _ h5)) oW ?_))));calc(aj _ rL (cY g dx _ rL (J _ _ h1) rL (RQ g ps pd G zs z rL (A0.mv J) hz Z ?_)));refine⟨λσ O=>∃D,σ=[some (.ref g),some (.ref p),some (.ref D),some (.int (jO G z:Nat)),some (.int pt)]/\aD H O/\ig C CS O D z',?_,?_⟩
 .let e12:=J _ _ e1;let h12:=J _ _ h1;cases hdo with
  | @lay ts l yg h0 h7' ri vd lf=>
   let⟨t,as,hp,ht,hL⟩:=hd;let I:=J _ _ hp;let hl1:=Oa e2.ok.w9 yg h0 ri (YD vd);rw[hg]at vd;calc(aj _ rL (bw p _ _ (.str (S iT)) rL rL (aU.of I) (aP (j:=0) rL) (aK iT iT rL rL (aj _ rL ?_))));rw[ai rfl];refine cA ⟨True.intro,aj _ rL (cT a CS dy _ _ rL e12 TS.cl TS.nb rL (aj _ rL (cT g CG dx _ _ rL h12 cU.cl cU.nk rL (aj _ rL (cT a CS dy _ _ rL e12 TS.cl TS.nr rL (aj _ rL (bw pr _ _ (.str (S z.racks[jO G z])) rL rL (aU.of (J _ _ e3)) (aP (nJ (ac htn))) (aj _ rL (bw p _ _ (.ref t) rL rL (aU.of I) (aP (j:=1) rL) ⟨b,k,kd,G.ws,z.racks[jO G z],.ref t,z.r,z.w,z.aF,z.aO,z.bi,z.bj,rL,e2.mv J,h2.mv J,p_,.inr ⟨t,as,ts,rL,J _ _ ht,hL.mv J,yg,h0,h7',ri,(λv cls dd H' hv hx _=>?_),λ_ O s3=>?_⟩⟩)))))))))⟩
   .have:=akG vd hv;subst this;show hx
   let Y:=J.trans s3;calc(aj _ rL (cT a CS dy _ _ rL (Y _ _ e1) TS.cl TS.nb rL (aj _ rL (cT g CG dx _ _ rL (Y _ _ h1) cU.cl cU.nw rL (aj _ rL (cT g CG dx _ _ rL (Y _ _ h1) cU.cl cU.nn rL (aj _ rL (bw p _ _ (.ref t) rL rL (aU.of (Y _ _ hp)) (aP (j:=1) rL) ⟨b,dd,pb,t,G.kvs,G.bn,G.bm,as,ts,z.r,z.w,z.aF,z.aO,z.bi,z.bj,rL,e2.mv Y,Rd.of (Y _ _ h3),GK.wd,GK.wb,Y _ _ h4,Y _ _ ht,hL.mv Y,yg,h0,h7',hl1,λH4 s4=>?_⟩))))))));let iB:=Y.trans s4;refine(aj _ rL (aj _ rL (aj _ rL (cT g CG dx _ _ rL (iB _ _ h1) cU.cl cU.nz rL (aj _ rL (bw p _ _ (.ref t) rL rL (aU.of (iB _ _ hp)) (aP (j:=1) rL) (aj _ rL ⟨a,t,z,jO G z,G.size,_,as,ts,l,rL,SA.mv iB,Z,htn,GK.sz,iB _ _ ht,hL.mv iB,yg,h7',(λu hu=>acn (yg u hu).2.2),lf,λD H5 s5 A5=>(aX D rL (iB.trans s5) A5)⟩)))))))
  | @swap l m ne h7' tl lf hb=>have hp:H p=some (.tup [.str (S gC),.str (S l)]):=hd;let I:=J _ _ hp;calc(aj _ rL (bw p _ _ (.str (S gC)) rL rL (aU.of I) (aP (j:=0) rL) (aK gC iT rL rL (aj _ rL ?_))));rw[ag (show ¬gC=iT by decide)];calc bR ⟨λσ O=>∃D,σ=[some (.ref g),some (.ref p),some (.ref D),some (.int (jO G z:Nat)),some (.int 0)]/\aD H O/\ig C CS O D (R3 z (jO G z) l m),?_,λσ O h=>h⟩;calc(aj _ rL (bw p _ _ (.str (S gC)) rL rL (aU.of I) (aP (j:=0) rL) (aK gC gC rL rL (aj _ rL ?_))));rw[ai rfl];show cA (aj _ rL (aj _ rL (aj _ rL (bw p _ _ (.str (S l)) rL rL (aU.of I) (aP (j:=1) rL) ⟨a,z,jO G z,l,m,rL,SA.mv J,Z,htn,h7',tl,lf,hb,λD H5 s5 A5=>(aX D rL (J.trans s5) A5)⟩))))
  | pass=>have hp:H p=some (.tup [.str (S fu)]):=hd;let I:=J _ _ hp;calc(aj _ rL (bw p _ _ (.str (S fu)) rL rL (aU.of I) (aP (j:=0) rL) (aK fu iT rL rL (aj _ rL ?_))));rw[ag (show ¬fu=iT by decide)];calc bR ⟨λσ O=>∃D,σ=[some (.ref g),some (.ref p),some (.ref D),some (.int (jO G z:Nat)),some (.int 0)]/\aD H O/\ig C CS O D z,?_,λσ O h=>h⟩;calc(aj _ rL (bw p _ _ (.str (S fu)) rL rL (aU.of I) (aP (j:=0) rL) (aK fu gC rL rL (aj _ rL ?_))));rw[ag (show ¬fu=gC by decide)];show bR (aX a rL J (SA.mv J))
 .intro σ O z;let⟨D,rfl,Y,A3⟩:=z;let⟨xs,hn⟩:=YF hd;let h53:=Y _ _ h5;let h73:=Y _ _ h7;let hlz:(bs++[a]).length<=500:=by rw[h6.len];show GK.sl
  calc(aj _ rL (wH g CG dx _ _ rL (Y _ _ h1) cU.cl cU.ns rL (.inl ⟨rL,_,bJ.of h53⟩) (aj _ rL (eG ps _ (.ref D) rL rL h53 (aM (by rw[aa];lia)) ?_))));let U8:g≠ps:=kO h5 h1 (λ_ z=>nomatch z);let zO:p≠ps:=kO h5 hn (λ_ z=>nomatch z);let hpd:pd≠ps:=λe=>by
   subst e;rw[h5]at h7;injection h7 with h7;injection h7 with h7;cases hG:G.done with| nil=>rw[hG]at h7;simp[Ts]at h7| cons l ls=>show YB (by rw[hG];simp) h7
  let g1:=Y _ _ h1;rw[<-aZ (H:=O) (o:=.lst ((bs++[a]).map V.ref++[.ref D])) U8]at g1;let g7:=h73;rw[<-aZ (H:=O) (o:=.lst ((bs++[a]).map V.ref++[.ref D])) hpd]at g7;let gn:=Y _ _ hn;rw[<-aZ (H:=O) (o:=.lst ((bs++[a]).map V.ref++[.ref D])) zO]at gn;calc(aj _ rL (wH g CG dx _ _ rL g1 cU.cl cU.nd rL (.inl ⟨rL,_,bJ.of g7⟩) (aj _ rL (bw p _ _ (.str (S d.name)) rL rL (aU.of gn) (aP (j:=0) rL) (eG pd _ (.str (S d.name)) rL rL g7 (aM (by rw[aa];have:=GK.len;lia)) (aj _ rL ?_))))));let kk:vC ps pd H (upd (upd O ps (.lst ((bs++[a]).map V.ref++[.ref D]))) pd (.lst (Ts G.done++[.str (S d.name)]))):=λx o e m1 m2=>by rw[aZ m2,aZ m1];show Y _ _ e
  let k3:vC ps pd O (upd (upd O ps (.lst ((bs++[a]).map V.ref++[.ref D]))) pd (.lst (Ts G.done++[.str (S d.name)]))):=λx o e m1 m2=>by rw[aZ m2,aZ m1];show e
  calc q _ kk (A0.put kk (as:=bs++[a]++[D]) ?_ ((h6.k2 kk h5 h7).snoc (A3.k2 k3 h53 h73)) ?_);.rw[aZ hpd.symm,au];simp
  .rw[au];simp[Ts]
def acz (C:Addr):Sp:=λvs H Q _=>∃(p d:Addr) (ws:AB),vs=[.ref p]/\iJ C H p d ws/\ws.length<64/\
 ∀(x j:Addr) (D:AB) (H':Hp),aD H H'->H x=none->H j=none->iJ C H' x j D->(∀y,y∈D↔y∈ws)->Q (.ref x) H'
def agI {f C f0 f1:Addr}{fd fK dH:FuncData}(F:fG K "twin" "Book.twin" nq f fd)(Fj:uw K C)(Om:mg "Book"=some (.ref C))(Vc:Mk K C f0)(Ve:cj P w K mg base dN 3 f0 fK ["self","words"] (Uo K C))(Vf:bT K fK ["self","words"] [])(Vg:Meth K C "words" f1)(Vh:cj P w K mg base dN 1 f1 dH ["self"] (Yq C))(Vi:bT K dH ["self"] []):cj P w K mg base dN 5 f fd ["self"] (acz C):=by
 calc F.dD TQ (λbO A outer s H vs Q E O h=>?_);let⟨p,d,ws,rfl,B,J,q⟩:=h;let⟨dx,hp⟩:=B.ob;calc(aj _ (aG (bC (rD Vc Ve O.mono rL Om Vf .nil eY (ak (gR aH Fj.cl Vg Vh O.mono Vi .nil eY) aq)))) ?_);calc(aj _ rL (cY p dx _ rL hp rL (cY p d ws rL B J (λt us H1 s1 ht G pm rs=>?_))));intro x j nx I xM;let s2:aD H1 (upd (upd H1 j (HO.own x)) x (HO.ins C j [])):=λb o e=>by rw[aZ (bF e nx),aZ (bF e I)];show e
 calc(gW x j t us rL au (.inr (aU.of (s2 _ _ G))) (λl hl=>B.az l (pm.mem_iff.mp hl)) (by rw[pm.length_eq];lia) (λY vD Z D BA hm dI kp=>⟨rL,?_⟩));let s3:aD H1 Z:=λb o e=>kp b o (s2 b o e) (bF e nx);calc q x Y vD Z (s1.trans s3) (s1.free nx) (s1.free ?_) BA (λy=>(hm y).trans pm.mem_iff);cases e:H1 Y with| none=>rfl| some o=>rw[s2 _ _ e]at D;cases D
def YG (C CS CB CG:Addr):Sp:=λvs H Q _=>∃(g dx b k kd d pb pr:Addr) (ws:AB) (kvs:List (Key×V)) (n m:Int) (size r w:Nat) (aF aO:AB) (bi bj:Nat) (racks:AB) (bag:List Nat),vs=[.ref g,.ref b,.ref k,.ref d,.ref pb,.int size,.ref pr,.str (S bag)]/\H g=some (.ins CG dx [])/\dh C H b r w aF aO bi bj/\iJ CB H k kd ws/\ws.length<64/\H d=some (.dK kvs)/\H pb=some (.tup [.int n,.int m])/\H pr=some (.tup (Ts racks))/\1<=racks.length/\racks.length<=4/\(∀l∈racks,l.length<64)/\
 ∀(ps pd:Addr) (D:AB) (H':Hp),(∀a o,H a=some o->a≠g->H' a=some o)->(∀y,y∈D↔y∈ws)->H ps=none->H pd=none->eV C CS CB CG H' g ps pd ⟨[⟨r,w,aF,aO,bi,bj,racks.map d7,bag,List.replicate racks.length 0⟩],[],D,kvs,n,m,size⟩->Q .non H'
def Vj {C CS CB CG f f0 f1:Addr}{fd fK dH:FuncData}(F:fG K "__init__" "Game.__init__" m_ f fd)(T:mL K CG)(Fj:uw K CB)(Fv:mg "dict"=none)(cQ:mg "tuple"=none)(bH:mg "len"=none)(Xf:Meth K CB "twin" f1)(Xg:cj P w K mg base dN 5 f1 dH ["self"] (acz CB))(Xh:bT K dH ["self"] [])(yd:mg "Stand"=some (.ref CS))(Bb:Mk K CS f0)(Bc:cj P w K mg base dN 1 f0 fK ["self","board","racks","bag","points"] (Hr CS))(Bf:bT K fK ["self","board","racks","bag","points"] [])(qu:bW P w K mg base "in_order" 1 ["tiles"] R0):cj P w K mg base dN 7 f fd ["self","board","book","worths","bonus","size","racks","bag"] (YG C CS CB CG):=by
 calc F.dD Eu (λbO A outer s H vs Q E hr h=>?_);let⟨g,dx,b,k,kd,d,pb,pr,ws,kvs,n,m,size,r,w,aF,aO,bi,bj,racks,bag,rfl,hg,hB,hK,h64,hd,hpb,hpr,n1,n4,h7,q⟩:=h;let⟨kx,hk⟩:=hK.ob;calc(aj _ (aB (mD aH (gR bG Fj.cl Xf Xg hr.mono Xh .nil eY) rL) (aB (mD aH (f9 Z6 qf Fv PyProof.Rows.boot_dict (ak bL aq)) rL) (aB (mD aH cP rL) (aB (mD aH d9 rL) (aB (mD aH (fW (ak (rD Bb Bc hr.mono rL yd Bf .nil eY (ak bf (ak (f9 jx qf cQ c9 (ak (jZ rL (jz.of Eu.nd qh) (iI gb) (λ_ _ _ _ _=>fH) (λ_ _ _ _ _=>(bK qu hr.mono rL (ak aH aq)))) aq)) (ak jr (ak (aL X7 (cL (ak aA aq)) (aQ bY qf bH ax (ak gb aq))) aq))))) aq)) rL) (aG (mD aH (fW aq) rL))))))) ?_);calc(aj _ rL (cY k kx _ rL hk rL (cY k kd ws rL hK h64 (λk2 kd2 vD H1 s1 f1 f2 BK hm=>?_))));let g1:=s1 _ _ hg;calc(aj _ rL (gW g CG dx _ rL g1 T.cl T.nk (by show 0<1000;decide) ?_));generalize hX:upd H1 g (HO.ins CG dx (iZ "book" (V.ref k2) []))=H2;let K2:∀a o,H1 a=some o->a≠g->H2 a=some o:=λa o e ne=>by rw[<-hX,aZ ne];show e
 let g2:H2 g=some (.ins CG dx [("book",.ref k2)]):=by rw[<-hX];show au
 let YH:∀{a:Addr} {o:HO},H a=some o->(∀C' d' fs,o≠.ins C' d' fs)->a≠g:=λe ne z=>by subst z;rw[hg]at e;show ne _ _ _ (bo e).symm
 let dg:d≠g:=YH hd (λ_ _ _ z=>nomatch z);calc(aj _ rL (aK d kvs rL (K2 _ _ (s1 _ _ hd) dg) (λj e2=>?_)));let O:j≠g:=λz=>by subst z;rw[g2]at e2;cases e2
 let g3:upd H2 j (HO.dK kvs) g=some (.ins CG dx [("book",.ref k2)]):=by rw[aZ O.symm];show g2
 let K3:∀a o,H1 a=some o->a≠g->upd H2 j (HO.dK kvs) a=some o:=λa o e ne=>by rw[aZ (bF (K2 a o e ne) e2)];show K2 a o e ne
 let d3:upd H2 j (HO.dK kvs) j=some (.dK kvs):=au;let e2H:H j=none:=by
  cases e:H j with| none=>rfl| some o=>rw[K2 _ _ (s1 _ _ e) O]at e2;cases e2
 generalize upd H2 j (HO.dK kvs)=H3 at g3 K3 d3 ⊢;calc(aj _ rL (gW g CG dx _ rL g3 T.cl T.nw (by show 1<1000;decide) ?_));calc(aj _ rL (aj _ rL (gW g CG dx _ rL au T.cl T.nn (by show 2<1000;decide) ?_)));calc(aj _ rL (aj _ rL (gW g CG dx _ rL au T.cl T.nz (by show 3<1000;decide) ?_)));rw[Xk,Xk];generalize hY:upd H3 g (HO.ins CG dx (iZ "size" (V.int size) (iZ "bonus" (V.ref pb) (iZ "worths" (V.ref j) [("book",V.ref k2)]))))=H6;let g6:H6 g=some (.ins CG dx [("book",.ref k2),("worths",.ref j),("bonus",.ref pb),("size",.int size)]):=by rw[<-hY];show au
 let J:∀a o,H1 a=some o->a≠g->H6 a=some o:=λa o e ne=>by rw[<-hY,aZ ne];show K3 a o e ne
 let d6:H6 j=some (.dK kvs):=by rw[<-hY,aZ O];show d3
 let prg:pr≠g:=YH hpr (λ_ _ _ z=>nomatch z);let aek:=J _ _ (s1 _ _ hpr) prg;refine(aj _ rL (aj _ rL (aX pr rL ⟨_,aU.of aek⟩ (λL hL=>rm (xs:=Ts racks) (λi ys Y=>ys=Ts ((racks.take i).map d7)/\Y L=some (.lst ys)/\aD H6 Y) (cF rL au (aD.upd hL)) (λi ys Y _ h=>aU.of (h.2.2 _ _ aek)) ?_ ?_))))
 .intro i x ys Y hi z;let⟨rfl,Mv,sm⟩:=z;let⟨l,hl,rfl⟩:=xV hi;let hil:i<(Ts racks).length:=(ah.mp hi).1;let hir:i<racks.length:=by rw[aa]at hil;show hil
  calc(aj _ rL (aX l rL (h7 l (bv hl)) (λH8 s8=>(cF (s8 _ _ Mv) ?_ (iW.mk hil (cF ?_ au ((sm.trans s8).dY hL)))))));.rw[aa,aa,ap];show aM p_
  .rw[take_snoc hl];simp only[Ts,bu];rfl
 .intro ys Y z;let⟨rfl,Mv,sm⟩:=z;rw[aa,cz]at Mv;calc(dM L _ rL (.inl ⟨bJ.of Mv,λtp ht=>?_⟩));let s8:aD Y (upd Y tp (.tup (Ts (racks.map d7)))):=aD.upd ht;let YJ:upd Y tp (.tup (Ts (racks.map d7))) tp=some (.tup (Ts (racks.map d7))):=au;generalize upd Y tp (HO.tup (Ts (racks.map d7)))=H8 at s8 YJ ⊢;let s68:=sm.trans s8;calc(aX _ rL (zsz 1) (λp0 e0=>?_));let s9:aD H8 (upd H8 p0 (HO.tup [V.int 0])):=aD.upd e0;let ep0:upd H8 p0 (HO.tup [V.int 0]) p0=some (.tup [V.int 0]):=au;generalize upd H8 p0 (HO.tup [V.int 0])=H9 at s9 ep0 ⊢;let s69:=s68.trans s9;calc(aj _ rL (aK pr _ rL (.inr (aU.of (s69 _ _ aek))) ⟨p0,_,racks.length,rL,by rw[aa],ep0,qa,n1,p_,by show 1<=100;decide,λpp HA sA hpp=>?_⟩));let zO:HA pp=some (.tup ((List.replicate racks.length (0:Int)).map V.int)):=by rw[hpp];simp
  let s6A:=s69.trans sA;let bg:b≠g:=by let⟨bx,_,_,_,hbx,_⟩:=hB.ex;intro z;subst z;rw[hg]at hbx;cases hbx
  let HB6:dh C H6 b r w aF aO bi bj:=by obtain⟨⟨bx,b1,b2,b3,c0,c1,c2,c3⟩,ok⟩:=hB;show⟨(fB bx b1 b2 b3 (J _ _ (s1 _ _ c0) bg) (J _ _ (s1 _ _ c1) (YH c1 (λ_ _ _ z=>nomatch z))) (J _ _ (s1 _ _ c2) (YH c2 (λ_ _ _ z=>nomatch z))) (J _ _ (s1 _ _ c3) (YH c3 (λ_ _ _ z=>nomatch z)))),ok⟩
  intro x ex nx1 nx2 nx3;calc⟨x,ex,b,tp,pp,bag,rL,au,λHC kC eC=>⟨rL,?_⟩⟩;let⟨sC,AC⟩:=Fp (z:=⟨r,w,aF,aO,bi,bj,racks.map d7,bag,List.replicate racks.length 0⟩) nx1 nx2 kC eC (HB6.mv s6A) (sA _ _ (s9 _ _ YJ)) zO;let s6C:=s6A.trans sC;calc⟨zsz 1,λps I=>?_⟩;let sD:aD HC (upd HC ps (HO.lst [V.ref x])):=aD.upd I;let pD:upd HC ps (HO.lst [V.ref x]) ps=some (.lst ([x].map V.ref)):=au;generalize upd HC ps (HO.lst [V.ref x])=HD at sD pD ⊢;let Vk:=s6C.trans sD;calc(aj _ rL (gW g CG dx _ rL (Vk _ _ g6) T.cl T.ns (by show 4<1000;decide) ?_));let psg:ps≠g:=λz=>by subst z;rw[s6C _ _ g6]at I;cases I
  generalize hE:upd HD g (HO.ins CG dx (iZ "stands" (V.ref ps) [("book",V.ref k2),("worths",V.ref j),("bonus",V.ref pb),("size",V.int size)]))=HE;let KE:∀a o,HD a=some o->a≠g->HE a=some o:=λa o e ne=>by rw[<-hE,aZ ne];show e
  let gE:HE g=some (.ins CG dx [("book",.ref k2),("worths",.ref j),("bonus",.ref pb),("size",.int size),("stands",.ref ps)]):=by rw[<-hE];show au
  calc⟨zsz 0,λpd G=>?_⟩;let sF:aD HE (upd HE pd (HO.lst [])):=aD.upd G;let pF:upd HE pd (HO.lst []) pd=some (.lst (Ts [])):=au;let Z:pd≠g:=λz=>by subst z;rw[gE]at G;cases G
  generalize upd HE pd (HO.lst [])=HF at sF pF ⊢;calc(aj _ rL (gW g CG dx _ rL (sF _ _ gE) T.cl T.nd (by show 5<1000;decide) ?_));let D:∀a o,HD a=some o->a≠g->upd HF g (HO.ins CG dx (iZ "done" (V.ref pd) [("book",V.ref k2),("worths",V.ref j),("bonus",V.ref pb),("size",V.int size),("stands",V.ref ps)])) a=some o:=λa o e ne=>by rw[aZ ne];show sF _ _ (KE a o e ne)
  let old:∀a o,H a=some o->a≠g->upd HF g (HO.ins CG dx (iZ "done" (V.ref pd) [("book",V.ref k2),("worths",V.ref j),("bonus",V.ref pb),("size",V.int size),("stands",V.ref ps)])) a=some o:=λa o e ne=>D a o (Vk _ _ (J a o (s1 _ _ e) ne)) ne;let k2g:k2≠g:=λz=>by subst z;rw[hg]at f1;cases f1
  let ai8:kd2≠g:=λz=>by subst z;rw[hg]at f2;cases f2
  refine q ps pd vD _ old hm ?_ ?_ ⟨(K9 dx k2 kd2 j pb au ?_ ?_ ?_),(aj [x] (D _ _ pD psg) ⟨rL,λi a z h1 h2=>?_⟩),?_⟩
  .cases e:H ps with| none=>rfl| some o=>rw[s6C _ _ (J _ _ (s1 _ _ e) psg)]at I;cases I
  .cases e:H pd with| none=>rfl| some o=>rw[KE _ _ (Vk _ _ (J _ _ (s1 _ _ e) Z)) Z]at G;cases G
  .let⟨ky,hky⟩:=BK.ob;show⟨⟨ky,D _ _ (Vk _ _ (J _ _ hky k2g)) k2g⟩,D _ _ (Vk _ _ (J _ _ BK.dc ai8)) ai8,BK.nd,BK.az⟩
  .show D _ _ (Vk _ _ d6) O
  .show old _ _ hpb (YH hpb (λ_ _ _ z=>nomatch z))
  .cases i with
   | zero=>
    cases h1;cases h2;obtain⟨dy,b',Fq,Mr,c1,⟨⟨bx,q1,q2,q3,u0,u1,u2,u3⟩,ok⟩,c3,c4⟩:=(AC.mv sD).ex;let gD:=Vk _ _ g6;let xg:x≠g:=(bF (s6A _ _ g6) nx1).symm;let bg':b'≠g:=yC u0 gD λz=>by injection z with _ _ z;injection z with z _;injection z with z _;show absurd z qc
    let tg:∀{a:Addr} {xs:List V},HD a=some (.tup xs)->a≠g:=λe=>yC e gD λz=>nomatch z;show⟨dy,b',Fq,Mr,D _ _ c1 xg,⟨(fB bx q1 q2 q3 (D _ _ u0 bg') (D _ _ u1 (tg u1)) (D _ _ u2 (tg u2)) (D _ _ u3 (tg u3))),ok⟩,D _ _ c3 (tg c3),D _ _ c4 (tg c4)⟩
   | succ i=>simp at h1
  .rw[aZ Z];show pF
noncomputable def yh:List Nat->List Nat->Option (List Nat)
 | l,[]=>some l
 | l,c::cs=>if c∈l then yh (l.erase c) cs else none
theorem R4:∀{cs l:List Nat},yh l (cs.map iH)=qy l cs
 | [],_=>rfl
 | c::cs,l=>by rw[cw];unfold yh qy;rw[R4]
theorem Vl:∀{cs l m:List Nat},yh l cs=some m->m.length+cs.length=l.length
 | [],l,m,h=>by cases h;rfl
 | c::cs,l,m,h=>by
  unfold yh at h;split at h
  .rename_i hm;have:=Vl h;rw[List.length_erase_of_mem hm]at this;have:=List.length_pos_of_mem hm;simp only[dE];lia
  .cases h
def YK {l:List Nat}(h:∀c∈l,oE c):l.map iH=l:=by
 rw[fz (g:=id) λc j=>?_,kK];unfold iH;rw[if_neg];.rfl
 .rcases h c j with e|e;.have:=e.1;lia
  .lia
def YL:Sp:=λvs H Q _=>∃bU l m:List Nat,vs=[.str (S bU),.str (S l)]/\bU.length<=63/\l.length<=63/\yh bU l=some m/\∀p H',aD H H'->H p=none->H' p=some (.lst (Ts (m.map λc=>[c])))->Q (.ref p) H'
def ael (D:aN K mg "_law_taken" Al ["_law_rack","_law_tiles_here"])(i_:mg "list"=none):bW P w K mg base "_law_taken" 1 ["_law_rack","_law_tiles_here"] YL:=by
 calc D.dD ug (λf bO A outer s H vs Q E hr h=>?_);let⟨bU,l,m,rfl,h63,l63,hrm,q⟩:=h;calc(aj _ (aB (aW (i:=2) ug.nd rL (Or.inl rL) (f9 (oM rL) qf i_ ft (ak aH aq))) (aB (gG cE rL (rT bf) (bQ (i:=3) ug.nd rL (Or.inl rL)) (aG (dF (gP bS iN iO yF bG (ak bL aq))))) (aG (bC bG)))) ?_);calc(aj _ rL (aX bU rL p_ (λL Y=>?_)));calc(aj _ rL (aj l rL ?_));refine Hg (λi σ I=>∃(Z:Option V) (us:List Nat),σ=[some (.str (S bU)),some (.str (S l)),some (.ref L),Z]/\aD H I/\I L=some (.lst (Ts (us.map λc=>[c])))/\us.length<=63/\yh us (l.drop i)=some m)
  (dw none bU rL (aD.upd Y) au h63 (by rw[kf];show hrm)) ?_ ?_
 .intro i c σ I O z;let⟨Z,us,rfl,J,F,Mh,j⟩:=z;let hi:i<l.length:=(ah.mp O).1;let G:l.drop i=c::l.drop (i+1):=by
   rw[gh hi];rw[ac hi]at O;rw[bo O]
  rw[G]at j;unfold yh at j;split at j
  .rename_i hm;calc(aX _ rL (.inl ⟨rL,_,bJ.of F⟩) (aj _ rL (qP L _ [c] rL rL F (be.mpr (aj c hm rL)) (by rw[aa];lia) ?_)));calc(dw _ (us.erase c) rL (J.dY Y) (by rw[ux];show au) ?_ j);have:=(kX (a:=c) (l:=us)).length_le;lia
  .cases j
 .intro σ I z;let⟨Z,us,rfl,J,F,Mh,j⟩:=z;rw[mh]at j;cases j;show(aj _ rL (q L I J Y F))
def Vm:Sp:=λvs H Q _=>∃(bU l m:List Nat) (a:Addr),vs=[.str (S bU),.ref a]/\H a=some (.lst (Ts (l.map λc=>[c])))/\bU.length<=63/\l.length<=63/\yh bU l=some m/\∀p H',aD H H'->H p=none->H' p=some (.lst (Ts (m.map λc=>[c])))->Q (.ref p) H'
def acA (D:aN K mg "_law_taken" Al ["_law_rack","_law_tiles_here"])(i_:mg "list"=none):bW P w K mg base "_law_taken" 1 ["_law_rack","_law_tiles_here"] Vm:=by
 calc D.dD ug (λf bO A outer s H vs Q E hr h=>?_);let⟨bU,l,m,a,rfl,ha,h63,l63,hrm,q⟩:=h;calc(aj _ (aB (aW (i:=2) ug.nd rL (Or.inl rL) (f9 (oM rL) qf i_ ft (ak aH aq))) (aB (gG cE rL (nW bf) (bQ (i:=3) ug.nd rL (Or.inl rL)) (aG (dF (gP bS iN iO yF bG (ak bL aq))))) (aG (bC bG)))) ?_);calc(aj _ rL (aX bU rL p_ (λL O=>?_)));refine(aj _ rL (aX a rL ⟨_,bJ.of (aD.upd O _ _ ha)⟩ (mU (K:=K) (a:=a) (xs:=Ts (l.map λc=>[c])) (λi σ I=>∃(Z:Option V) (us:List Nat),σ=[some (.str (S bU)),some (.ref a),some (.ref L),Z]/\aD H I/\I L=some (.lst (Ts (us.map λc=>[c])))/\us.length<=63/\yh us (l.drop i)=some m)
  (dw none bU rL (aD.upd O) au h63 (by rw[kf];show hrm)) (λi σ I _ h=>by let⟨_,_,_,J,_⟩:=h;show bJ.of (J _ _ ha)) ?_ ?_)))
 .intro i x σ I hx z;let⟨Z,us,rfl,J,F,Mh,j⟩:=z;let⟨y,hy,rfl⟩:=xV hx;rw[ck]at hy;let⟨c,Y,rfl⟩:=dv.mp hy;let hi:i<l.length:=(ah.mp Y).1;let G:l.drop i=c::l.drop (i+1):=by
   rw[gh hi];rw[ac hi]at Y;rw[bo Y]
  rw[G]at j;unfold yh at j;split at j
  .rename_i hm;calc(aX _ rL (.inl ⟨rL,_,bJ.of F⟩) (aj _ rL (qP L _ [c] rL rL F (be.mpr (aj c hm rL)) (by rw[aa];lia) ?_)));calc(dw _ (us.erase c) rL (J.dY O) (by rw[ux];show au) ?_ j);have:=(kX (a:=c) (l:=us)).length_le;lia
  .cases j
 .intro σ I z;let⟨Z,us,rfl,J,F,Mh,j⟩:=z;rw[aa,aa,mh]at j;cases j;show(aj _ rL (q L I J O F))
structure R5 (K:W.Frag)(CR:Addr)(c:Ut):Prop where
 Dz:W.exmOne K (.ref c.Dz) (.ref CR)=some true
 DG:W.exmOne K (.ref c.DG) (.ref CR)=some true
 gap:W.exmOne K (.ref c.gap) (.ref CR)=some true
 DK:W.exmOne K (.ref c.DK) (.ref CR)=some true
 DN:W.exmOne K (.ref c.DN) (.ref CR)=some true
 nw:W.exmOne K (.ref c.nw) (.ref CR)=some true
def R5.of {CR:Addr}{c:Ut}(R:R5 K CR c){H:Hp}{cls:Value}{dd:Option Addr}{v:Vd}(h:VdX c H cls dd v):W.exmOne K cls (.ref CR)=some true:=by
 cases v with
 | ok=>show h.elim
 | Dz i j=>let⟨rfl,_⟩:=h;show R.Dz
 | DG=>let⟨rfl,_⟩:=h;show R.DG
 | gap i j=>let⟨rfl,_⟩:=h;show R.gap
 | DK=>let⟨rfl,_⟩:=h;show R.DK
 | DN t=>let⟨rfl,_⟩:=h;show R.DN
 | nw l=>let⟨rfl,_⟩:=h;show R.nw
def acB (C CB:Addr):Sp:=λvs H Q _=>∃(b k kd t:Addr) (ws:AB) (bU:List Nat) (as:List Addr) (ts:List cg) (r w:Nat) (aF aO:AB) (bi bj:Nat),vs=[.ref b,.ref k,.str (S bU),.ref t]/\dh C H b r w aF aO bi bj/\iJ CB H k kd ws/\bU.length<=63/\H t=some (.tup (as.map V.ref))/\fV H as ts/\(∀t∈ts,inB r w t)/\0<ts.length/\ts.length<=7/\j8 (ts.map oV)=true/\
 ∀(o:Bool) H',aD H H'->(o=true->tX aF r w bi bj ws bU ts .ok)->Q (.bl o) H'
def agJ {C CB CR:Addr}{c:Ut}(D:aN K mg "_law_lets" Lj ["_law_board","_law_book","_law_rack","_law_laying_here"])(gq:mg "RackError"=some (.ref CR))(R:R5 K CR c)(Y:DefX P w K mg base "check_laying" 14 ["board","book","rack","laying"] (Ob K C CB c)):bW P w K mg base "_law_lets" 16 ["_law_board","_law_book","_law_rack","_law_laying_here"] (acB C CB):=by
 calc D.dD agq (λf bO A outer s H vs Q E O h=>?_);let⟨b,k,kd,t,ws,bU,as,ts,r,w,aF,aO,bi,bj,rfl,I,hK,F,ht,Z,J,h0,h7,Io,q⟩:=h;calc(aj _ (aB (agp rL rL qf gq (λpn xe E0 σ0 hp hx=>(aG (dF (pB Y O.mono rL hx (ak aH (ak bf (ak bG (ak bL aq)))))))) (λ_=>(aG (bC eO)))) (aG (bC eO))) ?_);refine⟨λcls dd H'=>∃v,VdX c H' cls dd v/\aD H H',?_,λa cls dd H' he na=>?_⟩
 .calc⟨rL,aj _ rL (aj _ rL (aj _ rL (aj _ rL ⟨b,k,kd,ws,bU,.ref t,r,w,aF,aO,bi,bj,rL,I,hK,F,.inr ⟨t,as,ts,rL,ht,Z,J,h0,h7,Io,λv cls dd H' G hx j=>(aj v hx j),λG H1 s1=>?_⟩⟩)))⟩;show q true H1 s1 λ_=>G
 .let⟨v,hx,j⟩:=he;show⟨R.of hx,q false _ (j.trans (aD.upd na)) λz=>by cases z⟩
def uF:Sp:=λvs H Q _=>∃(c:Int) (m:Nat),vs=[.int c,.int m]/\m<=100/\∀(p:Addr) (ds:List Int) (H':Hp),aD H H'->H p=none->H' p=some (.lst (ds.map V.int))->ds.length=m->Q (.ref p) H'
def acC (D:aN K mg "_law_stream" BR ["_law_cell","_law_many"])(J:mg "range"=none):bW P w K mg base "_law_stream" 1 ["_law_cell","_law_many"] uF:=by
 calc D.dD oh (λf bO A outer s H vs Q E Z h=>?_);let⟨c,m,rfl,hm,q⟩:=h;calc(aj _ (aB (aW (i:=2) oh.nd rL (Or.inl rL) (fW aq)) (aB (aW (i:=3) oh.nd rL (Or.inl rL) (aL cV aH aA)) (aB (cD (bV jk (aL cu aH aA) aA (bM _)) (aB (gG cE rL (vg qf J (ak bf aq)) (bQ (i:=4) oh.nd rL (Or.inl rL)) (aB (dF (gP bS dA dC jy bG (ak (aL cu bL (aL Sv aA aA)) aq))) (aG (aW (i:=3) oh.nd rL (Or.inl rL) (aL Je bL (aL Sv aA aA)))))) (aG (bC bG))) bN) (aB (aW (i:=3) oh.nd rL (Or.inl rL) (aL cu bL aA)) (aB (gG cE rL (vg qf J (ak (aL cW bf aA) aq)) (bQ (i:=4) oh.nd rL (Or.inl rL)) (aB (aW (i:=3) oh.nd rL (Or.inl rL) (aL cu (aL cW (aL cW (aL cW (aL jo bL bL) (aL jo aA bL)) (aL jo aA cP)) aA) aA)) (aG (dF (gP bS dA dC jy bG (ak (aL cW (aL jo (aL cu (aL jo bL aA) aA) aA) (aL cu bL aA)) aq)))))) (aG (bC (dR wY bG (dX aA) fO)))))))) ?_);calc⟨zsz 0,λp hp=>?_⟩;calc(aj _ rL (aY _ _ rL rL ⟨qc,qc⟩ ?_));calc(aj _ rL (dw _ _ rL rL (by show (0:Int)<2;decide) rL (aj _ rL ?_)));refine jP (λ_=>?_) (λ_=>?_)
 .calc(aj _ rL (iu _ rL p_ p_ ?_));rw[eh];refine pQ (n:=m) (lo:=0) (λi σ F=>∃(n:Int) (I:Option V) (ds:List Int),σ=[some (.int c),some (.int m),some (.ref p),some (.int n),I]/\aD H F/\F p=some (.lst (ds.map V.int))/\ds.length=i)
   (cY _ none [] rL (aD.upd hp) au rL) ?_ ?_
  .intro i σ F hi z;let⟨n,I,ds,rfl,G,j,hl⟩:=z;calc(aX _ rL (.inl ⟨rL,_,bJ.of j⟩) (aj _ rL (aY _ _ rL rL (cF qc qc qc) (aY _ _ rL rL (by show (0:Int)<10^20;decide) ?_))));calc(eG p _ _ rL rL j (by rw[aa,hl];show aM p_) ?_);calc(aj _ rL (aY _ _ rL rL (cF qc qc qc) (aY _ _ rL rL ⟨by show (0:Int)<10^20;decide,qi⟩ ?_)));show(cY _ _ (ds++[n%(10:Int)^(20:Int).toNat]) rL (G.dY hp) (by rw[au];simp) (by simp[hl]))
  .intro σ F z;let⟨n,I,ds,rfl,G,j,hl⟩:=z;show(aj _ rL (q p ds F G hp j hl))
 .calc(aj _ rL (aY _ _ rL rL (by show (0:Int)<2305843009213693951;decide) ?_));calc(aj _ rL (aK _ _ rL rL (iu _ rL p_ p_ ?_)));let Y:((m:Int)+1).toNat=m+1:=p_;rw[Y];refine pQ (n:=m+1) (lo:=0) (λi σ F=>∃(n:Int) (I:Option V) (ds:List Int),σ=[some (.int c),some (.int m),some (.ref p),some (.int n),I]/\aD H F/\F p=some (.lst (ds.map V.int))/\ds.length=i/\0<=n/\n<2305843009213693951)
   (qP _ none [] rL (aD.upd hp) au rL (du _ qc) (dP _ qc)) ?_ ?_
  .intro i σ F hi z;let⟨n,I,ds,rfl,G,j,hl,O,n1⟩:=z;calc(aj _ rL (aj _ rL (aY _ _ rL rL (.inl ⟨p_,p_⟩) (aj _ rL (aY _ _ rL rL (.inl ⟨qc,qc⟩) (aK _ _ rL rL (aj _ rL (aY _ _ rL rL (.inl ⟨qc,qc⟩) (aK _ _ rL rL (aK _ _ rL rL (aY _ _ rL rL (by show (0:Int)<2305843009213693951;decide) ?_)))))))))));calc(aX _ rL (.inl ⟨rL,_,bJ.of j⟩) ?_);calc(aj _ rL (aY _ _ rL rL (.inr ⟨qc,qc⟩) (aY _ _ rL rL (by show (0:Int)<2147483629;decide) (aY _ _ rL rL (.inr ⟨qc,qc⟩) (aj _ rL (aY _ _ rL rL (by show (0:Int)<2147483587;decide) (aK _ _ rL rL ?_)))))));calc(eG p _ _ rL rL j (by rw[aa,hl];show aM p_) ?_);show(qP _ _ (ds++[_]) rL (G.dY hp) (by rw[au];simp;rfl) (by simp[hl]) (du _ qc) (dP _ qc))
  .intro σ F z;let⟨n,I,ds,rfl,G,j,hl,O,n1⟩:=z;calc(aj _ rL (aj _ rL (aK p _ rL (bJ.of j) (λt ht=>?_))));let e:iG (ds.map V.int) (some 1) none=(ds.drop 1).map V.int:=by
    unfold iG;let e1:HT.dB (ds.map V.int).length 0 (some 1)=min 1 (ds.map V.int).length:=HT.mj _ _ 1;rw[e1,aa,hl];show List.take (m+1-min 1 (m+1)) (List.drop (min 1 (m+1)) (ds.map V.int))=_;rw[show min 1 (m+1)=1 by lia,cv (by rw[bd,aa];lia),ot]
   rw[e];show q t (ds.drop 1) _ (G.dY (G.free ht)) (G.free ht) au (by rw[bd];lia)
def acD:Sp:=λvs H Q _=>∃c:Int,vs=[.int c]/\∀ls:List Nat,aag ls->ls.length<=4->Q (.str (S ls)) H
def aaH (D:aN K mg "_law_letters" yQ ["_law_cell"])(G:mg "range"=none):bW P w K mg base "_law_letters" 1 ["_law_cell"] acD:=by
 calc D.dD sS (λf bO A outer s H vs Q E I h=>?_);let⟨c,rfl,q⟩:=h;calc(aj _ (aB (aW (i:=1) sS.nd rL (Or.inl rL) (bI AL qi)) (aB (aW (i:=2) sS.nd rL (Or.inl rL) (bI [] qi)) (aB (gG cE rL (vg qf G (ak (aL cW aA (aL cu (aL cV aH aA) aA)) aq)) (bQ (i:=3) sS.nd rL (Or.inl rL)) (aG (aW (i:=2) sS.nd rL (Or.inl rL) (aL mq bG (bh Bt bf (aL cu (aL cW (aL cV aH aA) (aL jo bL (aL cW aA (aL cu (aL cV aH aA) aA)))) aA) (λ_ _=>rfl)))))) (aG (bC bG))))) ?_);let J:=du (c/8) (show (3:Int)≠0 by decide);let O:=dP (c/8) (show (0:Int)<3 by decide);calc(aj _ rL (aY _ _ rL rL ⟨qc,qc⟩ (aY _ _ rL rL (by show (0:Int)<3;decide) (aK _ _ rL rL (iu _ rL p_ p_ ?_)))));refine pQ (lo:=0) (λi σ F=>F=H/\∃(j:Option V) (ls:List Nat),σ=[some (.int c),some (.str (S AL)),some (.str (S ls)),j]/\ls.length=i/\∀c∈ls,isLet c) ⟨rL,aK none [] rL rL (λc h=>by simp at h)⟩ ?_ ?_
 .intro i σ F hi z;let⟨rfl,j,ls,rfl,hl,ha⟩:=z;let⟨x,hx,hm⟩:=wZ (xs:=AL) (n:=26) qc qc (c/24+(0+(i:Int))*(1+c/624%8));calc(aj _ rL (aj _ rL (aj _ rL (aY _ _ rL rL ⟨qc,qc⟩ (aj _ rL (aj _ rL (aY _ _ rL rL ⟨qc,qc⟩ (aY _ _ rL rL (by show (0:Int)<8;decide) (aK _ _ rL rL (aY _ _ rL rL (.inl ⟨p_,p_⟩) (aK _ _ rL rL (aY _ _ rL rL (by show (0:Int)<26;decide) ?_))))))))))));calc(eG AL _ x rL rL qc hx (aY ls [x] rL rL ?_ ?_));.show am (aM (by show ls.length+1<=1000;lia))
  .calc⟨rL,aK _ (ls++[x]) rL (by simp[hl]) (λy hy=>?_)⟩;rcases bq.mp hy with z|z;.show ha y z
   .rw[a_.mp z];show akA x hm
 .intro σ F z;let⟨rfl,j,ls,rfl,hl,ha⟩:=z;show(aj _ rL (q ls ⟨p_,p_,ha⟩ p_))
def Vn:Sp:=λvs H Q _=>∃(c:Int) (ls:List Nat),vs=[.int c,.str (S ls)]/\aag ls/\∀(p:Addr) (ws:AB) (H':Hp),aD H H'->H p=none->H' p=some (.lst (Ts ws))->4<=ws.length->ws.length<=12->(∀l∈ws,zK l)->Q (.ref p) H'
def Oo (D:aN K mg "_law_words" Hh ["_law_cell","_law_letters_here"])(fQ:mg "range"=none)(bH:mg "len"=none)(oX:bW P w K mg base "_law_stream" 1 ["_law_cell","_law_many"] uF):bW P w K mg base "_law_words" 2 ["_law_cell","_law_letters_here"] Vn:=by
 calc D.dD nu (λf bO A outer s H vs Q E hr h=>?_);let⟨c,ls,rfl,hA,q⟩:=h;let a1:=hA.lo;let a2:=hA.hi;let d0:=du c (show (9:Int)≠0 by decide);let d1:=dP c (show (0:Int)<9 by decide);calc(aj _ (aB (aW (i:=2) nu.nd rL (Or.inl rL) (fW aq)) (aB (gG cE rL (nW (bK oX hr.mono rL (ak aH (ak (aL cW aA (aL cu aH aA)) aq)))) (bQ (i:=3) nu.nd rL (Or.inl rL)) (aB (aW (i:=4) nu.nd rL (Or.inl rL) (aL cW aA (aL cu bL aA))) (aB (gU (cD (bV jk (aL cu (aL cV bL aA) aA) aA (bM _)) (aG (aW (i:=4) nu.nd rL (Or.inl rL) (aL cW aA (aL cu (aL cV bL aA) aA)))) bN)) (aB (aW (i:=5) nu.nd rL (Or.inl rL) (bI [] qi)) (aB (aW (i:=6) nu.nd rL (Or.inl rL) (aL cV bL aA)) (aB (gG cE rL (vg qf fQ (ak cP aq)) (bQ (i:=7) nu.nd rL (Or.inl rL)) (aB (aW (i:=5) nu.nd rL (Or.inl rL) (aL mq d9 (bh Bt bf (aL cu gb (aQ dO qf bH ax (ak bf aq))) (λ_ _=>rfl)))) (aG (aW (i:=6) nu.nd rL (Or.inl rL) (aL cV gb (aQ dO qf bH ax (ak bf aq))))))) (aG (dF (gP bS dA dC jy bG (ak d9 aq)))))))))) (aG (bC bG)))) ?_);calc⟨zsz 0,λL hL=>?_⟩;let sL:aD H (upd H L (HO.lst [])):=aD.upd hL;let eL:upd H L (HO.lst []) L=some (.lst (Ts [])):=au;generalize upd H L (HO.lst [])=H0 at sL eL ⊢;calc(aj _ rL (aj _ rL (aY _ _ rL rL (by show (0:Int)<9;decide) (aK _ _ rL rL (aK c ((4+c%9).toNat) (by rw[cy p_];rfl) p_ (λp ds H1 s1 J hp hdl=>?_))))));refine(aX p rL ⟨_,bJ.of hp⟩ (mU (K:=K) (a:=p) (xs:=ds.map V.int) (λi σ I=>∃(v3 v4 Y Z O:Option V) (ws:AB),σ=[some (.int c),some (.str (S ls)),some (.ref L),v3,v4,Y,Z,O]/\(∀b o,H1 b=some o->b≠L->I b=some o)/\I L=some (.lst (Ts ws))/\ws.length=i/\∀l∈ws,zK l)
  (RQ none none none none none [] rL (λ_ _ e _=>e) (s1 _ _ eL) rL (λl h=>by cases h)) (λi σ I _ h=>?_) ?_ ?_))
 .let⟨_,_,_,_,_,_,_,kp,_⟩:=h;show bJ.of (kp _ _ hp λz=>by subst z;rw[eL]at J;cases J)
 .intro i x σ I hx z;let⟨v3,v4,Y,Z,O,ws,rfl,kp,F,G,hw⟩:=z;rw[ck]at hx;let⟨n,hn,rfl⟩:=dv.mp hx;let hi:i<ds.length:=(ah.mp hn).1;let e0:=du n (show (3:Int)≠0 by decide);let e1:=dP n (show (0:Int)<3 by decide);let f0:=du (n/24) (show (8:Int)≠0 by decide);let f1:=dP (n/24) (show (0:Int)<8 by decide);calc(aj _ rL (aY _ _ rL rL (by show (0:Int)<3;decide) (aK _ _ rL rL ?_)));refine⟨λσ H'=>H'=I/\∃m:Nat,σ=[some (.int c),some (.str (S ls)),some (.ref L),some (.int n),some (.int m),Y,Z,O]/\2<=m/\m<=9,?_,?_⟩
  .calc(aj _ rL (aY _ _ rL rL ⟨qc,qc⟩ (dw _ _ rL rL (by show (0:Int)<8;decide) rL (aj _ rL ?_))));calc jP (λ_=>?_) (λ_=>?_);.show(aj _ rL (aY _ _ rL rL ⟨qc,qc⟩ (aY _ _ rL rL (by show (0:Int)<8;decide) (aY _ _ rL rL rL (aX ((2+n/24%8).toNat) (by rw[cy p_];rfl) p_ p_)))))
   .show⟨rL,aX ((2+n%3).toNat) (by rw[cy p_];rfl) p_ p_⟩
  .intro σ H' z;let⟨rfl,m,rfl,m2,m9⟩:=z;calc(aj _ rL (aY _ _ rL rL ⟨qc,qc⟩ ?_));calc(aj _ rL (iu _ rL p_ p_ ?_));refine pQ (lo:=0) (λj σ H3=>H3=H'/\∃(kv:Option V) (l:List Nat) (r:Int),σ=[some (.int c),some (.str (S ls)),some (.ref L),some (.int n),some (.int m),some (.str (S l)),some (.int r),kv]/\l.length=j/\∀c∈l,isLet c) ⟨rL,pJ O [] _ rL rL (λc h=>by cases h)⟩ ?_ ?_
   .intro j σ H3 hj z;let⟨rfl,kv,l,r,rfl,hl,ha⟩:=z;let hz:ls.length<=sizeLine:=am (aM p_);let⟨x,hx,hm⟩:=wZ (xs:=ls) (n:=ls.length) rL p_ r;calc(aj _ rL (aj _ rL (aj _ rL (aj _ rL (aX ls rL hz (aY _ _ rL rL (by show (0:Int)<_;lia) (eG ls _ x rL rL hz hx (aY l [x] rL rL ?_ ?_))))))));.show am (aM (by show l.length+1<=1000;lia))
    .calc(aj _ rL (aj _ rL (aX ls rL hz (dw _ _ rL rL ⟨by show (0:Int)<_;lia,by show (ls.length:Int)<_;lia⟩ rL (pJ _ (l++[x]) _ rL (by simp[hl]) (λy hy=>?_))))));rcases bq.mp hy with z|z;.show ha y z
     .rw[a_.mp z];show hA.az x hm
   .intro σ H3 z;let⟨rfl,kv,l,r,rfl,hl,ha⟩:=z;calc(aX _ rL (.inl ⟨rL,_,bJ.of F⟩) (aj _ rL (eG L _ (.str (S l)) rL rL F (aM (by rw[aa];lia)) ?_)));calc(RQ _ _ _ _ _ (ws++[l]) rL (λb o e ne=>by rw[aZ ne];show kp b o e ne) (by rw[au];simp[Ts]) (by simp[G]) (λy hy=>?_));rcases bq.mp hy with z|z;.show hw y z
    .rw[a_.mp z];show⟨p_,p_,ha⟩
 .intro σ I z;let⟨v3,v4,Y,Z,O,ws,rfl,kp,F,G,hw⟩:=z;rw[aa,hdl]at G;show(aj _ rL (q L ws I (λb o e=>kp _ _ (s1 _ _ (sL _ _ e)) (bF e hL)) hL F p_ p_ hw))
def Vo:Sp:=λvs H Q _=>∃(c bl:Int) (ls:List Nat) (m:Nat),vs=[.int c,.str (S ls),.int m,.int bl]/\aag ls/\m<=100/\∀(l:List Nat) (H':Hp),aD H H'->l.length=m->(∀c∈l,oE c)->Q (.str (S l)) H'
def aem (D:aN K mg "_law_tiles" Hi ["_law_cell","_law_letters_here","_law_many","_law_blanks"])(bH:mg "len"=none)(oX:bW P w K mg base "_law_stream" 1 ["_law_cell","_law_many"] uF):bW P w K mg base "_law_tiles" 2 ["_law_cell","_law_letters_here","_law_many","_law_blanks"] Vo:=by
 calc D.dD xU (λf bO A outer s H vs Q E hr h=>?_);let⟨c,bl,ls,m,rfl,Z,hm,q⟩:=h;let a1:=Z.lo;let a2:=Z.hi;let hz:ls.length<=sizeLine:=am (aM p_);calc(aj _ (aB (aW (i:=4) xU.nd rL (Or.inl rL) (bI [] qi)) (aB (gG cE rL (nW (bK oX hr.mono rL (ak aH (ak bG aq)))) (bQ (i:=5) xU.nd rL (Or.inl rL)) (aG (cD (QW.qt (Aj (bV jk (aL cu d9 aA) aA (bM _)) (Hf (bV wu (gP bp PySem.F.slot_str_count PySem.F.type_str_count abF cP (ak (bI [63] qi) aq)) bL (bM _))))) (aG (aW (i:=4) xU.nd rL (Or.inl rL) (aL mq cP (bI [63] qi)))) (aG (aW (i:=4) xU.nd rL (Or.inl rL) (aL mq cP (bh Bt bf (aL cu (aL cV d9 aA) (aQ dO qf bH ax (ak bf aq))) (λ_ _=>rfl)))))))) (aG (bC cP)))) ?_);calc(aj _ rL (aj _ rL (aK c m rL hm (λp ds H1 s1 hp0 hp O=>?_))));refine(aX p rL ⟨_,bJ.of hp⟩ (mU (K:=K) (a:=p) (xs:=ds.map V.int) (λi σ I=>I=H1/\∃(J:Option V) (l:List Nat),σ=[some (.int c),some (.str (S ls)),some (.int m),some (.int bl),some (.str (S l)),J]/\l.length=i/\∀c∈l,oE c)
  ⟨rL,aK none [] rL rL (λc h=>by cases h)⟩ (λi σ I _ h=>by let⟨rfl,_⟩:=h;show bJ.of hp) ?_ ?_))
 .intro i x σ I hx z;let⟨rfl,J,l,rfl,hl,ht⟩:=z;rw[ck]at hx;let⟨n,hn,rfl⟩:=dv.mp hx;let hi:i<ds.length:=(ah.mp hn).1;let F:l.length+1<=sizeLine:=am (aM p_);let G:∀x,oE x->(I=I/\∃(J:Option V) (l':List Nat),[some (V.int c),some (.str (S ls)),some (.int m),some (.int bl),some (.str (S (l++[x]))),some (.int n)]=[some (.int c),some (.str (S ls)),some (.int m),some (.int bl),some (.str (S l')),J]/\l'.length=i+1/\∀c∈l',oE c):=λx hx=>⟨rL,aK _ (l++[x]) rL (by simp[hl]) (λy hy=>by
   rcases bq.mp hy with z|z;.show ht y z
   .rw[a_.mp z];show hx)⟩
  let⟨y,hy,Y⟩:=wZ (xs:=ls) (n:=ls.length) rL p_ (n/9);let j:=(show oE y from .inl (Z.az y Y))
  calc(aj _ rL (dw _ _ rL rL (by show (0:Int)<9;decide) rL (aj _ rL ?_)));refine jP (λ_=>?_) (λ_=>?_)
  .calc(aX _ rL rL (aK l [63] rL rL (λk=>(aj _ rL (aK _ _ rL rL (aj _ rL ?_))))));calc jP (λ_=>?_) (λ_=>?_);.show(aj _ rL (aY l [63] rL rL F (G 63 (.inr rL))))
   .show(aj _ rL (aj _ rL (aj _ rL (aY _ _ rL rL ⟨qc,qc⟩ (aj _ rL (aX ls rL hz (aY _ _ rL rL (by show (0:Int)<_;lia) (eG ls _ y rL rL hz hy (aY l [y] rL rL F (G y j))))))))))
  .show(aj _ rL (aj _ rL (aj _ rL (aY _ _ rL rL ⟨qc,qc⟩ (aj _ rL (aX ls rL hz (aY _ _ rL rL (by show (0:Int)<_;lia) (eG ls _ y rL rL hz hy (aY l [y] rL rL F (G y j))))))))))
 .intro σ I z;let⟨rfl,J,l,rfl,hl,ht⟩:=z;rw[aa,O]at hl;show(aj _ rL (q l I s1 hl ht))
def chunk (r k:Nat)(cs:List Nat):List (List Nat):=(List.range r).map λi=>(cs.drop (i*k)).take k
def QB {r k:Nat}{cs:List Nat}(h:cs.length=r*k):Blk r k (chunk r k cs):=by
 calc⟨by simp[chunk],λl hl=>?_⟩;let⟨i,hi,rfl⟩:=be.mp hl;let j:=gI.mp hi;let D:i*k+k<=r*k:=by have:(i+1)*k<=r*k:=nv k j;rw[oS]at this;show this
 rw[ap,bd];lia
def QD {r k:Nat}{cs:List Nat}{j:Nat->Prop}(h:∀c∈cs,j c):∀l∈chunk r k cs,∀c∈l,j c:=by intro l hl c D;let⟨i,hi,rfl⟩:=be.mp hl;show h c (eJ (c_ D))
def YM:Sp:=λvs H Q _=>∃(c:Int) (ls:List Nat),vs=[.int c,.str (S ls)]/\aag ls/\
 ∀(t pr pm pb:Addr) (r w:Nat) (aF aO:AB) (i j:Nat) (H':Hp),aD H H'->H' t=some (.tup [.ref pr,.ref pm,.ref pb])->H' pr=some (.tup (Ts aF))->H' pm=some (.tup (Ts aO))->H' pb=some (.tup [.int i,.int j])->TX r w aF aO i j->Q (.ref t) H'
def aen:List Nat:=MK++(List.replicate 8 [46]).flatten
def agK:∀c∈aen,Lr c:=by unfold Lr;decide
def aeo (cs:List Nat)(j x:Nat):(Ts (ones cs)).set j (.str (S [x]))=Ts (ones (cs.set j x)):=by simp only[Ts,ones,nc]
def mem_set {cs:List Nat}{j x:Nat}{p:Nat->Prop}(h:∀c∈cs,p c)(hx:p x):∀c∈cs.set j x,p c:=λc D=>by
 rcases fE D with e|e;.show h c e
 .rw[e];show hx
def afA {y:Nat}(h:isLet y):PyProof.Rows.up1 y=y-32:=by let h1:=h.1;let h2:=h.2;unfold PyProof.Rows.up1;rw[if_pos p_]
def agL (D:aN K mg "_law_rows" Lh ["_law_cell","_law_letters_here"])(fQ:mg "range"=none)(bH:mg "len"=none)(cQ:mg "tuple"=none)(oX:bW P w K mg base "_law_stream" 1 ["_law_cell","_law_many"] uF):bW P w K mg base "_law_rows" 2 ["_law_cell","_law_letters_here"] YM:=by
 calc D.dD j6 (λf bO A outer s H vs Q E hr h=>?_);let⟨c,ls,rfl,hA,q⟩:=h;let a1:=hA.lo;let a2:=hA.hi;let hz:ls.length<=sizeLine:=am (aM p_);calc(aj _ (aB (aW (i:=2) j6.nd rL (Or.inl rL) (aL cW aA (aL cu aH aA))) (aB (aW (i:=3) j6.nd rL (Or.inr rL) (aL cW aA (aL cu (aL cV aH aA) aA))) (aB (gU (cD (bV jk (aL cu (aL cV aH aA) aA) aA (bM _)) (aB (aW (i:=2) j6.nd rL (Or.inl rL) (aL cW aA (aL cu (aL cV aH aA) aA))) (aG (aW (i:=3) j6.nd rL (Or.inr rL) (aL cW aA (aL cu (aL cV aH aA) aA))))) bN)) (aB (aW (i:=4) j6.nd rL (Or.inl rL) (aL abl (fW (ak (bI [46] qi) aq)) (aL jo bG bL))) (aB (aW (i:=5) j6.nd rL (Or.inl rL) (fW aq)) (aB (gG cE rL (nW (bK oX hr.mono rL (ak (aL cW aH aA) (ak (aL jo bG bL) aq)))) (bQ (i:=6) j6.nd rL (Or.inl rL)) (aB (dF (gP bS dA dC jy d9 (ak (bh Bt (aL mq (bI [46,50,51,52,98,99,100] qi) (aL af4 (bI [46] qi) aA)) (aL cu (aL cV gb aA) aA) (λ_ _=>rfl)) aq))) (aG (gU (cD (QW.qt (Aj (bV jk (aL cu (aL cV aH aA) aA) aA (bM _)) (Hf (bV jk (aL cu gb aA) aA (bM _))))) (aB (aW (i:=7) j6.nd rL (Or.inl rL) (bh Bt bf (aL cu (aL cV gb aA) (aQ dO qf bH ax (ak bf aq))) (λ_ _=>rfl))) (aB (gU (cD (bV jk (aL cu (aL cV gb aA) aA) aA (bM _)) (aG (aW (i:=7) j6.nd rL (Or.inl rL) (xJ bp PySem.F.slot_str_upper PySem.F.type_str_upper abz jr))) bN)) (aG (vf jr (S_ cP (aL cu (aL cV gb aA) (aQ bY qf bH ax (ak cP aq))) set_list))))) bN))))) (aB (aW (i:=8) j6.nd rL (Or.inl rL) (cL (ak (aL cu (aL cV aH aA) bG) (ak (aL cu (aL cV aH aA) bL) aq)))) (aB (aW (i:=9) j6.nd rL (Or.inl rL) (fW aq)) (aB (gG cE rL (nW (fW (ak cP (ak d9 aq)))) (bQ (i:=10) j6.nd rL (Or.inr rL)) (aG (dF (gP bS dA dC jy lZ (ak (f9 jx qf cQ c9 (ak (jZ rL (jz.of j6.nd qh) (abA qf fQ (ak aA (ak (aQ bY qf bH ax (ak jR aq)) (ak bL aq)))) (λ_ _ _ _ _=>fH) (λ_ _ _ _ _=>(Tg K bp dq dr (Jg K) (bI [] qi) (ak (dR (adI K) pR (dX aH) (dX (aL cW aH cP))) aq)))) aq)) aq))))) (aG (bC (cL (ak (bh gH lZ aA (λ_ _=>rfl)) (ak (bh gH lZ aA (λ_ _=>rfl)) (ak lY aq))))))))))))))) ?_);calc(aj _ rL (aY _ _ rL rL (by show (0:Int)<5;decide) (aK _ _ rL rL ?_)));calc(aj _ rL (aY _ _ rL rL ⟨qc,qc⟩ (aY _ _ rL rL (by show (0:Int)<5;decide) (aK _ _ rL rL ?_))));refine⟨λσ H'=>H'=H/\∃r w:Nat,σ=[some (.int c),some (.str (S ls)),some (.int r),some (.int w),none,none,none,none,none,none,none]/\1<=r/\r<=9/\1<=w/\w<=9,?_,?_⟩
 .calc(aj _ rL (aY _ _ rL rL ⟨qc,qc⟩ (dw _ _ rL rL (by show (0:Int)<8;decide) rL (aj _ rL ?_))));refine jP (λ_=>?_) (λ_=>?_)
  .calc(aj _ rL (aY _ _ rL rL ⟨qc,qc⟩ (aY _ _ rL rL (by show (0:Int)<8;decide) (aK _ _ rL rL ?_))));calc(aj _ rL (aY _ _ rL rL ⟨qc,qc⟩ (aY _ _ rL rL (by show (0:Int)<8;decide) (aY _ _ rL rL rL (dw ((2+c/200%8).toNat) ((2+c/1600%8).toNat) ?_ p_ p_ p_ p_)))));rw[cy p_,cy p_];rfl
  .calc⟨rL,dw ((2+c%5).toNat) ((2+c/5%5).toNat) ?_ p_ p_ p_ p_⟩;rw[cy p_,cy p_];rfl
 intro σ H' z;let⟨rfl,r,w,rfl,r1,r9,w1,w9⟩:=z;let hrw:r*w<=81:=gg r9 w9;let alW:1<=r*w:=gg r1 w1;let erw:(r:Int)*(w:Int)=((r*w:Nat):Int):=by push_cast;rfl
 calc⟨zsz 1,λL0 h0=>?_⟩;calc(aj _ rL (aj _ rL (aY _ _ rL rL (.inl ⟨p_,p_⟩) (K8 L0 _ _ rL rL au (by rw[erw];lia) (by rw[erw];lia) ?_ (λL hL=>?_)))));.rw[erw,eh];show am (aM (by simp only[dE,mI];lia))
 rw[erw,eh];let sL:aD H' (upd (upd H' L0 (HO.lst [.str (S [46])])) L (HO.lst (List.replicate (r*w) [V.str (S [46])]).flatten)):=(aD.upd h0).trans (aD.upd hL);let eL:upd (upd H' L0 (HO.lst [.str (S [46])])) L (HO.lst (List.replicate (r*w) [V.str (S [46])]).flatten) L=some (.lst (Ts (ones (List.replicate (r*w) 46)))):=by rw[au];congr 2;simp[Ts,ones]
 let fL:H' L=none:=by
  cases e:H' L with| none=>rfl| some o=>rw[aD.upd h0 _ _ e]at hL;cases hL
 generalize upd (upd H' L0 (HO.lst [.str (S [46])])) L (HO.lst (List.replicate (r*w) [V.str (S [46])]).flatten)=H1 at sL eL ⊢;calc⟨zsz 0,λM hM=>?_⟩;let sM:aD H1 (upd H1 M (HO.lst [])):=aD.upd hM;let eM:upd H1 M (HO.lst []) M=some (.lst (Ts (ones []))):=au;let LM:L≠M:=bF eL hM;generalize upd H1 M (HO.lst [])=H2 at sM eM ⊢;calc(aj _ rL (aK _ _ rL rL (aj _ rL (aj _ rL (aY _ _ rL rL (.inl ⟨p_,p_⟩) (aK (c+3) (r*w) (by show [V.int (c+3),V.int ((r:Int)*(w:Int))]=_;rw[erw]) p_ (λp ds H3 s3 hp0 hp hdl=>?_)))))));let pL:p≠L:=λz=>by subst z;rw[sM _ _ eL]at hp0;cases hp0
 let pM:p≠M:=λz=>by subst z;rw[eM]at hp0;cases hp0
 refine(aX p rL ⟨_,bJ.of hp⟩ (mU (K:=K) (a:=p) (xs:=ds.map V.int) (λi σ G=>∃(v6 v7:Option V) (cs F:List Nat),σ=[some (.int c),some (.str (S ls)),some (.int r),some (.int w),some (.ref L),some (.ref M),v6,v7,none,none,none]/\(∀b o,H3 b=some o->b≠L->b≠M->G b=some o)/\G L=some (.lst (Ts (ones cs)))/\cs.length=r*w/\(∀c∈cs,Dw c)/\G M=some (.lst (Ts (ones F)))/\F.length=i/\(∀c∈F,Lr c))
  (nG none none (List.replicate (r*w) 46) [] rL (λ_ _ e _ _=>e) (s3 _ _ (sM _ _ eL)) ce (λc hc=>.inl (List.eq_of_mem_replicate hc)) (s3 _ _ eM) rL (λc h=>by cases h)) (λi σ G _ h=>?_) ?_ ?_))
 .let⟨_,_,_,_,_,kp,_⟩:=h;show bJ.of (kp _ _ hp pL pM)
 .intro i x σ G hx z;let⟨v6,v7,cs,F,rfl,kp,Av,J,YQ,Ip,O,hmk⟩:=z;rw[ck]at hx;let⟨n,hn,rfl⟩:=dv.mp hx;let hi:i<ds.length:=(ah.mp hn).1;let⟨x,hx,hxm⟩:=wZ (xs:=aen) (n:=15) qc qc (n/11);calc(aX _ rL (.inl ⟨rL,_,bJ.of Ip⟩) (Bx [46] 8 rL rL qc qc qc (aY MK _ rL rL qc (aj _ rL (aY _ _ rL rL ⟨qc,qc⟩ (aY _ _ rL rL (by show (0:Int)<15;decide) (eG aen _ x rL rL qc hx (eG M _ _ rL rL Ip (aM (by rw[aa,aa];lia)) ?_))))))));let hM5:upd G M (HO.lst (Ts (ones F)++[.str (S [x])])) M=some (.lst (Ts (ones (F++[x])))):=by rw[au];simp[Ts,ones]
  let hL5:upd G M (HO.lst (Ts (ones F)++[.str (S [x])])) L=some (.lst (Ts (ones cs))):=by rw[aZ LM];show Av
  let kp5:∀b o,H3 b=some o->b≠L->b≠M->upd G M (HO.lst (Ts (ones F)++[.str (S [x])])) b=some o:=λb o e n1 n2=>by rw[aZ n2];show kp b o e n1 n2
  generalize upd G M (HO.lst (Ts (ones F)++[.str (S [x])]))=H5 at hM5 hL5 kp5 ⊢;let ai9:∀c∈F++[x],Lr c:=λy hy=>by
   rcases bq.mp hy with z|z;.show hmk y z
   .rw[a_.mp z];show agK x hxm
  let stay:∀v7',∃(v6 v7:Option V) (cs F:List Nat),[some (V.int c),some (.str (S ls)),some (.int r),some (.int w),some (.ref L),some (.ref M),some (.int n),v7',none,none,none]=[some (.int c),some (.str (S ls)),some (.int r),some (.int w),some (.ref L),some (.ref M),v6,v7,none,none,none]/\(∀b o,H3 b=some o->b≠L->b≠M->H5 b=some o)/\H5 L=some (.lst (Ts (ones cs)))/\cs.length=r*w/\(∀c∈cs,Dw c)/\H5 M=some (.lst (Ts (ones F)))/\F.length=i+1/\(∀c∈F,Lr c):=λv7'=>(nG _ _ cs (F++[x]) rL kp5 hL5 J YQ hM5 (by simp[O]) ai9)
  calc⟨λσ Y=>∃(v6 v7:Option V) (cs F:List Nat),σ=[some (.int c),some (.str (S ls)),some (.int r),some (.int w),some (.ref L),some (.ref M),v6,v7,none,none,none]/\(∀b o,H3 b=some o->b≠L->b≠M->Y b=some o)/\Y L=some (.lst (Ts (ones cs)))/\cs.length=r*w/\(∀c∈cs,Dw c)/\Y M=some (.lst (Ts (ones F)))/\F.length=i+1/\(∀c∈F,Lr c),?_,λσ Y h=>h⟩;calc(aj _ rL (aY _ _ rL rL ⟨qc,qc⟩ (dw _ _ rL rL (by show (0:Int)<3;decide) rL (aj _ rL ?_))));refine jP (λ_=>?_) (λ_=>?_)
  .calc(aj _ rL (dw _ _ rL rL (by show (0:Int)<9;decide) rL (aj _ rL ?_)));refine jP (λ_=>?_) (λ_=>?_)
   .let⟨y,hy,hym⟩:=wZ (xs:=ls) (n:=ls.length) rL p_ (n/9);let yz:=hA.az y hym;calc(aj _ rL (aj _ rL (aY _ _ rL rL ⟨qc,qc⟩ (aj _ rL (aX ls rL hz (aY _ _ rL rL (by show (0:Int)<_;lia) (eG ls _ y rL rL hz hy ?_)))))));refine⟨λσ Y=>Y=H5/\∃u:Nat,σ=[some (V.int c),some (.str (S ls)),some (.int r),some (.int w),some (.ref L),some (.ref M),some (.int n),some (.str (S [u])),none,none,none]/\rG u,?_,?_⟩
    .calc(aj _ rL (aY _ _ rL rL ⟨qc,qc⟩ (dw _ _ rL rL (by show (0:Int)<5;decide) rL (aj _ rL ?_))));calc jP (λ_=>?_) (λ_=>⟨rL,aj y rL (abX yz)⟩);calc(aX _ rL rL ⟨[y],rL,rL,(by show 1<=1000;decide),(λc hc=>by rw[a_.mp hc];have:=yz.2;lia),rL,aj (PyProof.Rows.up1 y) rL ?_⟩);have:PyProof.Rows.up1 y=y-32:=afA yz;rw[this];show abY yz
    .intro σ Y z;let⟨rfl,u,rfl,hu⟩:=z;let hpos:(0:Int)<((r*w:Nat):Int):=p_;let b0:=du (n/100) (show ((r*w:Nat):Int)≠0 by lia);let b1:=dP (n/100) hpos;let qL:(Ts (ones cs)).length=r*w:=by rw[aa,aa,J]
     refine(aj _ rL (aj _ rL (aj _ rL (aY _ _ rL rL ⟨qc,qc⟩ (aj _ rL (aK L _ rL (.inl (bJ.of hL5)) (aY _ _ rL rL (by show (0:Int)<_;rw[qL];show hpos) (bw L _ _ ((n/100%((r*w:Nat):Int)).toNat) rL rL hL5 ?_ ?_))))))))
     .unfold Du;rw[qL,if_pos p_,if_pos p_]
     .rw[aeo];calc(nG _ _ (cs.set (n/100%((r*w:Nat):Int)).toNat u) (F++[x]) rL (λb o e n1 n2=>by rw[aZ n1];show kp5 b o e n1 n2) au (by rw[eW];show J) (mem_set YQ (.inr hu)) ?_ (by simp[O]) ai9);rw[aZ LM.symm];show hM5
   .show stay _
  .show stay _
 .intro σ G z;let⟨v6,v7,cs,F,rfl,kp,Av,J,YQ,Ip,O,hmk⟩:=z;rw[aa,hdl]at O;let sm:aD H' G:=λb o e=>kp _ _ (s3 _ _ (sM _ _ (sL _ _ e))) (bF e fL) (λz=>by subst z;rw[sL _ _ e]at hM;cases hM);calc(aj _ rL (aY _ _ rL rL ⟨qc,qc⟩ (aj _ rL (aY _ _ rL rL (by show (0:Int)<_;lia) (aj _ rL (aY _ _ rL rL ⟨qc,qc⟩ (aj _ rL (dw _ _ rL rL (by show (0:Int)<_;lia) (zsz 2) (λpb hpb=>?_)))))))));let d0:=du (c/38400) (show (r:Int)≠0 by lia);let d1:=dP (c/38400) (show (0:Int)<r by lia);let f0:=du (c/345600) (show (w:Int)≠0 by lia);let f1:=dP (c/345600) (show (0:Int)<w by lia);let sB:aD G (upd G pb (HO.tup [V.int (c/38400%r),V.int (c/345600%w)])):=aD.upd hpb;let eB:upd G pb (HO.tup [V.int (c/38400%r),V.int (c/345600%w)]) pb=some (.tup [.int ((c/38400%r).toNat:Nat),.int ((c/345600%w).toNat:Nat)]):=by
   rw[au,cy d0,cy f0]
  generalize upd G pb (HO.tup [V.int (c/38400%r),V.int (c/345600%w)])=H5 at sB eB ⊢;calc⟨zsz 0,λT hT=>?_⟩;let sT:aD H5 (upd H5 T (HO.lst [])):=aD.upd hT;let eT:upd H5 T (HO.lst []) T=some (.lst (([]:List Addr).map V.ref)):=au;let fT:H' T=none:=by
   cases e:H' T with| none=>rfl| some o=>rw[sB _ _ (sm _ _ e)]at hT;cases hT
  generalize upd H5 T (HO.lst [])=Y at sT eT ⊢;calc(aj _ rL (aX _ rL (zsz 2) (λZ hZ=>?_)));let sZ:aD Y (upd Y Z (HO.lst [V.ref L,V.ref M])):=aD.upd hZ;let eZ:upd Y Z (HO.lst [V.ref L,V.ref M]) Z=some (.lst ([L,M].map V.ref)):=au;let ZT:Z≠T:=(bF eT hZ).symm;generalize upd Y Z (HO.lst [V.ref L,V.ref M])=H7 at sZ eZ ⊢;let s47:aD G H7:=(sB.trans sT).trans sZ;let get:∀{i:Nat} {x:V},([L,M].map V.ref)[i]?=some x->∃a ds,x=.ref a/\[cs,F][i]?=some ds/\H7 a=some (.lst (Ts (ones ds)))/\ds.length=r*w:=λ{i x} h=>by
   match i,h with
   | 0,h=>cases h;show(aY L cs rL rL (s47 _ _ Av) J)
   | 1,h=>cases h;show(aY M F rL rL (s47 _ _ Ip) O)
   | i+2,h=>simp at h
  refine(aX Z rL ⟨_,bJ.of eZ⟩ (mU (K:=K) (a:=Z) (xs:=[L,M].map V.ref) (λi σ H8=>∃(v:Option V) (as:List Addr),σ=[some (.int c),some (.str (S ls)),some (.int r),some (.int w),some (.ref L),some (.ref M),v6,v7,some (.ref pb),some (.ref T),v]/\(∀b o,H7 b=some o->b≠T->H8 b=some o)/\H8 T=some (.lst (as.map V.ref))/\as.length=i/\∀k a ds,as[k]?=some a->[cs,F][k]?=some ds->H8 a=some (.tup (Ts (chunk r w ds))))
   (dw none [] rL (λ_ _ e _=>e) (sZ _ _ eT) rL (λk a ds (h:([]:List Addr)[k]?=some a) _=>by rw[List.getElem?_nil]at h;cases h)) (λi σ H8 _ h=>?_) ?_ ?_))
  .let⟨_,_,_,kp,_⟩:=h;show bJ.of (kp _ _ eZ ZT)
  .intro i x σ H8 hx z;let⟨v,as,rfl,kp8,I,hal,hch⟩:=z;let⟨a,es,rfl,hes,ha7,hel⟩:=get hx;let aT:a≠T:=yC ha7 (sZ _ _ eT) λz=>by
    injection z with z;cases es with| nil=>simp at hel;lia| cons e es=>cases z
   let ha8:=kp8 _ _ ha7 aT;let qL:(Ts (ones es)).length=r*w:=by rw[aa,aa,hel]
   let hi2:i<2:=(ah.mp hx).1;calc(aX _ rL (.inl ⟨rL,_,bJ.of I⟩) (aj _ rL (aK a _ rL (.inl (bJ.of ha8)) (aj _ rL (Bx r w (by rw[qL]) r1 r9 w1 w9 (λN hN=>?_))))));refine Wx (λi ys H9=>ys=Ts ((List.range i).map λi=>(es.drop (i*w)).take w)/\H9 N=some (.lst ys)/\aD H8 H9) (cF rL au (aD.upd hN)) ?_ ?_
   .intro k ys H9 hk z;let⟨rfl,hN9,Vp⟩:=z;let e1:(0:Int)+(k:Int)*(w:Int)=((k*w:Nat):Int):=by push_cast;lia
    let e2:(0:Int)+(k:Int)*(w:Int)+(w:Int)=((k*w+w:Nat):Int):=by push_cast;lia
    let hik:k*w+w<=r*w:=by have:(k+1)*w<=r*w:=nv w hk;rw[oS]at this;show this
    calc⟨rL,aj _ rL (aj _ rL (aj _ rL (aj _ rL (aj _ rL (aK _ _ rL rL (aj _ rL (aK a _ rL (bJ.of (Vp _ _ ha8)) (λt ht=>?_))))))))⟩;let ec:iG (Ts (ones es)) (some ((0:Int)+(k:Int)*(w:Int))) (some ((0:Int)+(k:Int)*(w:Int)+(w:Int)))=Ts (ones ((es.drop (k*w)).take w)):=by rw[e2,e1,agr p_ (by rw[qL];show hik),lv];simp only[Ts,ones,List.map_take,ot]
    let akI:((es.drop (k*w)).take w).length=w:=by rw[ap,bd];lia
    let s3:=Vp.dY (o:=HO.lst (iG (Ts (ones es)) (some ((0:Int)+(k:Int)*(w:Int))) (some ((0:Int)+(k:Int)*(w:Int)+(w:Int))))) (Vp.free ht);let nLt:N≠t:=bF hN9 ht;calc(dw t (ones ((es.drop (k*w)).take w)) rL rL (bJ.of (by rw[au,ec])) (by rw[nH,akI];lia) ?_);rw[nH];calc(cF (by rw[aZ nLt];show hN9) (by rw[aa,aa,List.length_range];show aM p_) (iW.mk hk (cF ?_ au (s3.dY hN))));rw[List.range_succ,bu];simp[Ts]
   .intro ys H9 z;let⟨rfl,hN9,Vp⟩:=z;calc(dM N _ rL (.inl ⟨bJ.of hN9,λt ht=>?_⟩));let st:aD H8 (upd H9 t (HO.tup (Ts (chunk r w es)))):=Vp.dY (Vp.free ht);let et:upd H9 t (HO.tup (Ts (chunk r w es))) t=some (.tup (Ts (chunk r w es))):=au;let hT9:=st _ _ I;let tT:t≠T:=(bF (Vp _ _ I) ht).symm;calc(eG T _ (.ref t) rL rL hT9 (aM (by rw[aa,hal];lia)) ?_);calc(dw _ (as++[t]) rL (λb o e n=>by rw[aZ n];show st _ _ (kp8 _ _ e n)) (by rw[au];simp) (by simp[hal]) (λk b ds' h1 h2=>?_));by_cases hk:k<as.length
    .rw[di hk]at h1;have:=hch k b ds' h1 h2;rw[aZ (yC this I λz=>nomatch z)];show st _ _ this
    .let hk2:=(ah.mp h1).1;rw[av]at hk2;let hk0:k=as.length:=by simp at hk2;lia
     subst hk0;rw[df (al _),kS]at h1;cases h1;rw[hal,hes]at h2;cases h2;rw[aZ tT];show et
  .intro σ H8 z;let⟨v,as,rfl,kp8,I,hal,hch⟩:=z
   match as,hal with| [pr,pm],_=>have h1:=hch 0 pr cs rL rfl;let h2:=hch 1 pm F rL rfl;calc(aj _ rL (bw T _ _ (.ref pr) rL rL (bJ.of I) (aP (j:=0) rL) (aj _ rL (bw T _ _ (.ref pm) rL rL (bJ.of I) (aP (j:=1) rL) (aX _ rL (zsz 3) (λt ht=>?_))))));let sE:aD H8 (upd H8 t (HO.tup [V.ref pr,V.ref pm,V.ref pb])):=aD.upd ht;let pbT:pb≠T:=bF eB hT;refine q t pr pm pb r w (chunk r w cs) (chunk r w F) (c/38400%r).toNat (c/345600%w).toNat _ (λb o e=>sE _ _ (kp8 _ _ (s47 _ _ (sm _ _ e)) (bF e fT))) au (sE _ _ h1) (sE _ _ h2) (sE _ _ (kp8 _ _ (sZ _ _ (sT _ _ eB)) pbT)) ⟨r1,r9,w1,w9,QB J,QB O,QD YQ,QD hmk,p_,p_⟩
structure QF where
 r:Nat
 w:Nat
 aF:List (List Nat)
 aO:List (List Nat)
 bi:Nat
 bj:Nat
 ws:List (List Nat)
 kvs:List (Key×V)
 bn:Int
 bm:Int
 size:Nat
 racks:List (List Nat)
 bag:List Nat
structure zm (C:Addr)(H:Hp)(p pw:Addr)(Z:QF):Prop where
 ex:∃b d pb pr,H p=some (.tup [.ref b,.ref pw,.ref d,.ref pb,.int Z.size,.ref pr,.str (S Z.bag)])/\dh C H b Z.r Z.w Z.aF Z.aO Z.bi Z.bj/\H d=some (.dK Z.kvs)/\H pb=some (.tup [.int Z.bn,.int Z.bm])/\H pr=some (.tup (Ts Z.racks))
 wl:H pw=some (.lst (Ts Z.ws))
structure R6 (Z:QF):Prop where
 w1:4<=Z.ws.length
 w2:Z.ws.length<=12
 wz:∀l∈Z.ws,zK l
 wd:WD Z.kvs
 wb:WB 1000000 Z.kvs
 s1:1<=Z.size
 s7:Z.size<=7
 n1:1<=Z.racks.length
 n4:Z.racks.length<=4
 r7:∀l∈Z.racks,l.length<=Z.size/\∀c∈l,oE c
 b6:Z.bag.length<=60
 bt:∀c∈Z.bag,oE c
def Vq {l:List Nat}{lo hi:Option Int}{c:Nat}(h:c∈iM l lo hi):c∈l:=eJ (c_ h)
def aep {l:List Nat}{a:Nat}{b:Int}{n:Nat}(h0:0<=b)(h:b<=a+n):(iM l (some (a:Int)) (some b)).length<=n:=by let⟨b,rfl⟩:=ja h0;unfold iM;rw[ap,bd,HT.mj,HT.mj];lia
def Vr (K:W.Frag)(C:Addr):Sp:=λvs H Q _=>∃(a:Addr) (ns:List Int),vs=[.ref a]/\bJ K H a (ns.map V.int)/\∀(p pw:Addr) (Z:QF) (H':Hp),aD H H'->H pw=none->zm C H' p pw Z->R6 Z->Q (.ref p) H'
def aer {C f0:Addr}{fK:FuncData}(D:aN K mg "_law_parts" Hj ["_law_script"])(fQ:mg "range"=none)(bH:mg "len"=none)(cQ:mg "tuple"=none)(tM:mg "min"=none)(Jo:mg "Board"=some (.ref C))(NP:Mk K C f0)(NQ:cj P w K mg base dN 5 f0 fK ["self","rows","marks","begin"] (Nz C))(NT:bT K fK ["self","rows","marks","begin"] [])(rK:bW P w K mg base "_law_cell_at" 1 ["_law_script","_law_k"] (abW K))(acE:bW P w K mg base "_law_letters" 1 ["_law_cell"] acD)(agM:bW P w K mg base "_law_words" 2 ["_law_cell","_law_letters_here"] Vn)(ai_:bW P w K mg base "_law_rows" 2 ["_law_cell","_law_letters_here"] YM)(agN:bW P w K mg base "_law_tiles" 2 ["_law_cell","_law_letters_here","_law_many","_law_blanks"] Vo):bW P w K mg base "_law_parts" 7 ["_law_script"] (Vr K C):=by
 calc D.dD gk (λf bO A outer s H vs Q E J h=>?_);let⟨a,ns,rfl,hS,q⟩:=h;let hu:=RJ J;calc(aj _ (aB (aW (i:=1) gk.nd rL (Or.inl rL) (bK acE J.mono rL (ak (bK rK J.mono rL (ak aH (ak aA aq))) aq))) (aB (aW (i:=2) gk.nd rL (Or.inl rL) (bK rK J.mono rL (ak aH (ak aA aq)))) (aB (aW (i:=3) gk.nd rL (Or.inl rL) (aL cW aA (aL cu bG aA))) (aB (aW (i:=4) gk.nd rL (Or.inl rL) (aL cW aA (aL cu (aL cV bG aA) aA))) (aB (aW (i:=5) gk.nd rL (Or.inl rL) (aL jo aA bL)) (aB (gU (cD (bV jk (aL cu (aL cV bG aA) aA) aA (bM _)) (aG (aW (i:=5) gk.nd rL (Or.inl rL) (aL cu (aL cV bG aA) aA))) bN)) (aB (gU (cD (bV jk (aL cu (aL cV bG aA) aA) aA (bM _)) (aG (aW (i:=5) gk.nd rL (Or.inl rL) (aL cu (aL cV bG aA) aA))) bN)) (aB (aW (i:=6) gk.nd rL (Or.inl rL) (bK agN J.mono rL (ak (bK rK J.mono rL (ak aH (ak aA aq))) (ak bf (ak (aL cW (aL jo cP bL) d9) (ak aA aq)))))) (aB (aW (i:=7) gk.nd rL (Or.inl rL) (fW aq)) (aB (gG cE rL (vg qf fQ (ak cP aq)) (bQ (i:=8) gk.nd rL (Or.inl rL)) (aB (aW (i:=9) gk.nd rL (Or.inl rL) (aL cV (aL cu (aL Je (bK rK J.mono rL (ak aH (ak aA aq))) (aL cW lY aA)) aA) aA)) (aG (dF (gP bS dA dC jy jr (ak (dR qD gb (dX (aL jo lY bL)) (dX (aL oZ (aL jo (aL cW lY aA) bL) (aQ (Py rL) qf tM mm (ak lZ (ak (aL oZ bL aA) aq)))))) aq)))))) (aB (gU (cD (bV jk (aL cu (aL cV bG aA) aA) aA (bM _)) (aG (vf (bI [] qi) (S_ jr (aL cu (aL cV bG aA) cP) set_list))) bN)) (aB (aW (i:=10) gk.nd rL (Or.inl rL) S6) (aB (gG cE rL (rT (dR qD bf fO (dX (aL cW aA (aL cu (aL cV bG aA) aA))))) (bQ (i:=11) gk.nd rL (Or.inl rL)) (aG (XM hu jR pR (aL cW (aL cu (aL Je bG (aL cW (aQ abr qf bH ax (ak jR aq)) aA)) aA) (aL cu (aL cV bG aA) (aL Sv aA aA))) rL))) (aB (aW (i:=12) gk.nd rL (Or.inl rL) (cL (ak (aL cW aA (aL cu (aL cV bG aA) aA)) (ak (aL cu (aL cV bG aA) aA) aq)))) (aB (vf (bK ai_ J.mono rL (ak (bK rK J.mono rL (ak aH (ak aA aq))) (ak bf aq))) (qI rL (cG (bQ (i:=13) gk.nd rL (Or.inl rL)) (cG (bQ (i:=14) gk.nd rL (Or.inl rL)) (cG (bQ (i:=15) gk.nd rL (Or.inl rL)) o9))))) (aB (aW (i:=16) gk.nd rL (Or.inl rL) (rD NP NQ J.mono rL Jo NT .nil eY (ak (qv 13) (ak (qv 14) (ak (qv 15) aq))))) (aB (aW (i:=17) gk.nd rL (Or.inl rL) (bK agM J.mono rL (ak (aL cV (bK rK J.mono rL (ak aH (ak aA aq))) aA) (ak bf aq)))) (aG (bC (cL (ak (qv 16) (ak (qv 17) (ak jR (ak qJ (ak bL (ak (f9 jx qf cQ c9 (ak jr aq)) (ak (dR qD gb (dX (aL jo cP bL)) fO) aq))))))))))))))))))))))))))) ?_);calc(aj _ rL (pJ a ns 0 rL hS (λv0=>(aj v0 rL (λls hA h4=>?_)))));let a1:=hA.lo;let hz:ls.length<=sizeLine:=am (aM p_);calc(aj _ rL (pJ a ns 1 rL hS (λc=>?_)));calc(aj _ rL (aY _ _ rL rL (by show (0:Int)<7;decide) (aK _ _ rL rL ?_)));calc(aj _ rL (aY _ _ rL rL ⟨qc,qc⟩ (aY _ _ rL rL (by show (0:Int)<4;decide) (aK _ _ rL rL ?_))));calc(aj _ rL (aY _ _ rL rL (.inl ⟨qc,qc⟩) ?_));refine⟨λσ H'=>H'=H/\∃size j few:Nat,σ=[some (.ref a),some (.str (S ls)),some (.int c),some (.int size),some (.int j),some (.int few),none,none,none,none,none,none,none,none,none,none,none,none]/\1<=size/\size<=7/\1<=j/\j<=4/\few<=60,?_,?_⟩
 .calc(aj _ rL (aY _ _ rL rL ⟨qc,qc⟩ (dw _ _ rL rL (by show (0:Int)<4;decide) rL (aj _ rL ?_))));refine jP (λ_=>?_) (λ_=>?_)
  .calc(aj _ rL (aY _ _ rL rL ⟨qc,qc⟩ (dw _ _ rL rL (by show (0:Int)<4;decide) rL (qP ((1+c%7).toNat) ((1+c/7%4).toNat) ((c/112%4).toNat) ?_ p_ p_ p_ p_ p_))));rw[cy p_,cy p_,cy p_];rfl
  .calc⟨rL,qP ((1+c%7).toNat) ((1+c/7%4).toNat) ((2*(1+c%7)).toNat) ?_ p_ p_ p_ p_ p_⟩;rw[cy p_,cy p_,cy p_];rfl
 intro σ H' z;let⟨rfl,size,j,alx,rfl,z1,z7,m1,m4,f60⟩:=z;refine⟨λσ H2=>H2=H'/\∃few:Nat,σ=[some (.ref a),some (.str (S ls)),some (.int c),some (.int size),some (.int j),some (.int few),none,none,none,none,none,none,none,none,none,none,none,none]/\few<=60,?_,?_⟩
 .calc(aj _ rL (aY _ _ rL rL ⟨qc,qc⟩ (dw _ _ rL rL (by show (0:Int)<8;decide) rL (aj _ rL ?_))));refine jP (λ_=>?_) (λ_=>?_)
  .calc(aj _ rL (aY _ _ rL rL ⟨qc,qc⟩ (dw _ _ rL rL (by show (0:Int)<60;decide) rL (aj ((c/224%60).toNat) ?_ p_))));rw[cy p_];rfl
  .show⟨rL,aj alx rL f60⟩
 intro σ H2 z;let⟨rfl,few,rfl,alX⟩:=z;let hms:j*size<=28:=gg m4 z7;let ems:(j:Int)*(size:Int)=((j*size:Nat):Int):=by push_cast;rfl
 calc(aj _ rL (pJ a ns 2 rL hS (λv2=>?_)));calc(aj _ rL (aj _ rL (aj _ rL (aY _ _ rL rL (.inl ⟨p_,p_⟩) (aj _ rL (aK _ _ rL rL (fB v2 2 ls (j*size+few) (by show [V.int v2,V.str (S ls),V.int ((j:Int)*(size:Int)+(few:Int)),V.int 2]=_;rw[ems];rfl) hA p_ (λtl H1 s1 htl htt=>?_))))))));let hzt:tl.length<=sizeLine:=am (aM p_);calc⟨zsz 0,λL hL=>?_⟩;let sL:aD H1 (upd H1 L (HO.lst [])):=aD.upd hL;let eL:upd H1 L (HO.lst []) L=some (.lst (Ts [])):=au;calc(aj _ rL (iu _ rL p_ p_ ?_));rw[eh];refine pQ (n:=j) (lo:=0) (λi σ H3=>∃(v8 v9:Option V) (F:AB),σ=[some (.ref a),some (.str (S ls)),some (.int c),some (.int size),some (.int j),some (.int few),some (.str (S tl)),some (.ref L),v8,v9,none,none,none,none,none,none,none,none]/\aD H1 H3/\H3 L=some (.lst (Ts F))/\F.length=i/\∀l∈F,l.length<=size/\∀c∈l,oE c)
  (eG none none [] rL sL eL rL (λl h=>by cases h)) ?_ ?_
 .intro i σ H3 hi z;let⟨v8,v9,F,rfl,sm,tV,I,G⟩:=z;calc(aj _ rL (pJ a ns 2 rL (sm.seq (s1.seq hS)) (λv3=>?_)));refine(aj _ rL (aK _ _ rL rL (aY _ _ rL rL ⟨by show (0:Int)<_;lia,?_⟩ (aY _ _ rL rL (by show (0:Int)<5;decide) (aY _ _ rL rL ⟨qc,qc⟩ ?_)))))
  .calc jp (Nat.log2_le_self _) ?_;show ((0:Int)+(i:Int)+2).natAbs<9000;lia
  let his:(i+1)*size<=j*size:=nv size hi;let e1:((0:Int)+(i:Int))*(size:Int)=((i*size:Nat):Int):=by push_cast;rw[Int.zero_add]
  let e2:((0:Int)+(i:Int)+1)*(size:Int)=((i*size+size:Nat):Int):=by push_cast;rw[Int.zero_add,Int.add_mul];lia
  let t0:0<=v3/((0:Int)+(i:Int)+2)%5/4:=p_;let t1:v3/((0:Int)+(i:Int)+2)%5/4<=1:=p_;calc(aX _ rL (.inl ⟨rL,_,bJ.of tV⟩) (aj _ rL (aj _ rL (aj _ rL (aY _ _ rL rL (.inl ⟨p_,p_⟩) (aj _ rL (aj _ rL (aK _ _ rL rL (aj _ rL (aY _ _ rL rL (.inl ⟨p_,p_⟩) (aj _ rL (aj _ rL (aK _ _ rL rL (dM _ _ rL (aK _ _ rL rL (aj _ rL (aX tl rL hzt ?_)))))))))))))))));rw[e1,e2];generalize v3/((0:Int)+(i:Int)+2)%5/4=dl at t0 t1 ⊢;let hmn:0<=(if (size:Int)-1<dl then (size:Int)-1 else dl)/\(if (size:Int)-1<dl then (size:Int)-1 else dl)<=(size:Int)-1:=by split <;> lia
  generalize (if (size:Int)-1<dl then (size:Int)-1 else dl)=dm at hmn ⊢;calc(eG L _ _ rL rL tV (aM (by rw[aa];lia)) ?_);calc(eG _ _ (F++[iM tl (some ((i*size:Nat):Int)) (some (((i*size+size:Nat):Int)-dm))]) rL (sm.dY hL) (by rw[au,Nv]) (by simp[I]) (λl hl=>?_));rcases bq.mp hl with z|z;.show G l z
  .rw[a_.mp z];show⟨aep p_ p_,λc hc=>htt c (Vq hc)⟩
 intro σ H3 z;let⟨v8,v9,F,rfl,sm,tV,I,G⟩:=z;refine⟨λσ H4=>∃(F:AB),σ=[some (.ref a),some (.str (S ls)),some (.int c),some (.int size),some (.int j),some (.int few),some (.str (S tl)),some (.ref L),v8,v9,none,none,none,none,none,none,none,none]/\aD H1 H4/\H4 L=some (.lst (Ts F))/\F.length=j/\∀l∈F,l.length<=size/\∀c∈l,oE c,?_,?_⟩
 .calc(aj _ rL (aY _ _ rL rL ⟨qc,qc⟩ (dw _ _ rL rL (by show (0:Int)<8;decide) rL (aj _ rL ?_))));calc jP (λ_=>?_) (λ_=>(pI F rL sm tV I G));let b0:=du (c/8072) (show (j:Int)≠0 by lia);let b1:=dP (c/8072) (show (0:Int)<j by lia);let qL:(Ts F).length=j:=by rw[aa,I]
  refine(aj _ rL (aj _ rL (aY _ _ rL rL ⟨qc,qc⟩ (aj _ rL (aY _ _ rL rL (by show (0:Int)<_;lia) (bw L _ _ ((c/8072%(j:Int)).toNat) rL rL tV ?_ ?_))))))
  .unfold Du;rw[qL,if_pos p_,if_pos p_]
  .rw[Mq];calc(pI (F.set (c/8072%(j:Int)).toNat []) rL (sm.dY hL) au (by rw[eW];show I) (λl hl=>?_));rcases fE hl with e|e;.show G l e
   .rw[e];show⟨eQ _,λc h=>by cases h⟩
 intro σ H4 z;let⟨F,rfl,Ly,Av,I,G⟩:=z;calc λd hd=>?_;let sD:aD H4 (upd H4 d (HO.dK [])):=aD.upd hd;calc(aj _ rL (aj _ rL (aY _ _ rL rL ⟨qc,qc⟩ (aY _ _ rL rL (by show (0:Int)<4;decide) (aK _ _ rL rL (aj _ rL (aX ls rL hz (aj (iM ls none (some (1+c/5%4))) rL ?_))))))));let hcl:(iM ls none (some (1+c/5%4))).length<=4:=by unfold iM;rw[ap,bd];lia
 refine Hg (λi σ H5=>∃(v11:Option V) (kvs:List (Key×V)),σ=[some (.ref a),some (.str (S ls)),some (.int c),some (.int size),some (.int j),some (.int few),some (.str (S tl)),some (.ref L),v8,v9,some (.ref d),v11,none,none,none,none,none,none]/\aD H4 H5/\H5 d=some (.dK kvs)/\WD kvs/\WB 1000000 kvs/\kvs.length<=i)
  (Bx none [] rL sD au (λkv m=>nomatch m) (λc=>⟨by show (0:Int)<=0;decide,by show (0:Int)<=1000000;decide⟩) (al _)) ?_ ?_
 .intro i x σ H5 hx z;let⟨v11,kvs,rfl,qx,Vs,hW,hB,hkl⟩:=z;let hi:=(ah.mp hx).1;let⟨c1,c2⟩:=hA.az _ (Vq (bv hx));refine(aj _ rL (aj _ rL (aK d kvs rL Vs (aK _ _ rL rL (aY _ _ rL rL ⟨by show (0:Int)<_;lia,?_⟩ (aY _ _ rL rL (by show (0:Int)<12;decide) (aj _ rL (aY _ _ rL rL ⟨qc,qc⟩ (aY _ _ rL rL (cF qc qc qc) (aY _ _ rL rL (by show (0:Int)<10^5;decide) (aK _ _ rL rL (aj _ rL (aj _ rL (aK d _ rL (Jd.k (k:=dz [x]) Vs (aM p_)) ?_))))))))))))))
  .calc jp (Nat.log2_le_self _) ?_;show ((kvs.length:Int)+3).natAbs<9000;lia
  let b0:=du (c/((kvs.length:Int)+3)) (show (12:Int)≠0 by decide);let b1:=dP (c/((kvs.length:Int)+3)) (show (0:Int)<12 by decide);let b2:=du (c/1000003) (show (10:Int)^(5:Int).toNat≠0 by decide);let b3:=dP (c/1000003) (show (0:Int)<(10:Int)^(5:Int).toNat by decide);let b4:(10:Int)^(5:Int).toNat=100000:=by decide
  rw[b4]at b2 b3;refine(Bx _ _ rL (qx.dY hd) au (hW.put _ c1 c2) (hB.put ?_ ?_) (bE (zF _ _ _) p_))
  .show (0:Int)<=c/((kvs.length:Int)+3)%12+c/1000003%(10:Int)^(5:Int).toNat;rw[b4];lia
  .show c/((kvs.length:Int)+3)%12+c/1000003%(10:Int)^(5:Int).toNat<=1000000;rw[b4];lia
 intro σ H5 z;let⟨v11,kvs,rfl,qx,Vs,hW,hB,hkl⟩:=z;calc(aj _ rL (aY _ _ rL rL ⟨qc,qc⟩ (aY _ _ rL rL (by show (0:Int)<7;decide) (aK _ _ rL rL (aj _ rL (aY _ _ rL rL ⟨qc,qc⟩ (dw _ _ rL rL (by show (0:Int)<60;decide) (zsz 2) (λpb hpb=>?_))))))));let sB:aD H5 (upd H5 pb (HO.tup [V.int (1+c/11%7),V.int (c/13%60)])):=aD.upd hpb;let eB:upd H5 pb (HO.tup [V.int (1+c/11%7),V.int (c/13%60)]) pb=some (.tup [V.int (1+c/11%7),V.int (c/13%60)]):=au;generalize upd H5 pb (HO.tup [V.int (1+c/11%7),V.int (c/13%60)])=H6 at sB eB ⊢;let s16:aD H1 H6:=(Ly.trans qx).trans sB;let DP:aD H2 H6:=s1.trans s16;calc(aj _ rL (pJ a ns 3 rL (DP.seq hS) (λv4=>?_)));calc(aj _ rL (aK v4 ls rL hA (λt pr pm pbg r w aF aO bi bj H7 s7 ht hpr Y aaI hBr=>?_)));calc(aY t _ rL (aU.of ht) rL (dM _ _ rL (dM _ _ rL (aK _ _ rL rL ?_))));calc(aj _ rL (aj _ rL (aj _ rL (λb dxb O Z nb3=>?_))));calc⟨b,dxb,pr,pm,pbg,r,w,aF,aO,bi,bj,rL,au,?_,?_,?_,hBr,λH8 k8 e8=>⟨rL,?_⟩⟩;.rw[aZ (bF hpr O),aZ (bF hpr Z)];show hpr
 .rw[aZ (bF Y O),aZ (bF Y Z)];show Y
 .rw[aZ (bF aaI O),aZ (bF aaI Z)];show aaI
 let s8:aD H7 H8:=λx o h=>k8 x o (by rw[aZ (bF h O),aZ (bF h Z)];show h) (bF h O);let BA:dh C H8 b r w aF aO bi bj:=⟨(fB dxb pr pm pbg e8 (s8 _ _ hpr) (s8 _ _ Y) (s8 _ _ aaI)),hBr⟩
 let YS:aD H2 H8:=(DP.trans s7).trans s8;calc(aj _ rL (pJ a ns 0 rL (YS.seq hS) (λv5=>?_)));calc(aY _ _ rL rL ⟨qc,qc⟩ (aj _ rL (aK _ ls rL hA (λpw ws H9 s9 fpw YT hw4 aly hwz=>?_))));let s69:aD H6 H9:=(s7.trans s8).trans s9;let hL9:=s69 _ _ (sB _ _ (qx _ _ Av));calc(aj _ rL (aj _ rL (aj _ rL (aj _ rL (aj _ rL (aj _ rL (dM L _ rL (.inl ⟨bJ.of hL9,λQH aes=>?_⟩))))))));let sR:aD H9 (upd H9 QH (HO.tup (Ts F))):=aD.upd aes;let eR:upd H9 QH (HO.tup (Ts F)) QH=some (.tup (Ts F)):=au;generalize upd H9 QH (HO.tup (Ts F))=HA at sR eR ⊢;calc(aj _ rL (aj _ rL (aj _ rL (aY _ _ rL rL (.inl ⟨p_,p_⟩) (aj _ rL (iu tl rL hzt (zsz 7) (λp hp=>?_)))))));let eP:upd HA p (HO.tup [V.ref b,V.ref pw,V.ref d,V.ref pb,V.int size,V.ref QH,V.str (S (iM tl (some ((j:Int)*(size:Int))) none))]) p=some (.tup [.ref b,.ref pw,.ref d,.ref pb,.int size,.ref QH,.str (S (tl.drop (j*size)))]):=by rw[au,ems,k_]
 let sP:=aD.upd hp (o:=HO.tup [V.ref b,V.ref pw,V.ref d,V.ref pb,V.int size,V.ref QH,V.str (S (iM tl (some ((j:Int)*(size:Int))) none))]);let s9P:=sR.trans sP;let s6P:=s69.trans s9P;calc q p pw ⟨r,w,aF,aO,bi,bj,ws,kvs,1+c/11%7,c/13%60,size,F,tl.drop (j*size)⟩ _ (DP.trans s6P) ?_ ⟨(bw b d pb QH eP ((BA.mv s9).mv s9P) (s6P _ _ (sB _ _ Vs)) (s6P _ _ eB) (sP _ _ eR)),s9P _ _ YT⟩ ⟨hw4,aly,hwz,hW,hB,z1,z7,by show 1<=F.length;lia,by show F.length<=4;lia,G,by show (tl.drop _).length<=60;rw[bd];lia,λc hc=>htt c (eJ hc)⟩;cases e:H2 pw with| none=>rfl| some o=>rw[YS _ _ e]at fpw;cases fpw
structure nP (C:Addr)(H:Hp)(p:Addr)(z:Std)(dn ps:Nat)(ov:Bool):Prop where
 ex:∃b pr pp,H p=some (.tup [.ref b,.ref pr,.str (S z.bag),.ref pp,.int dn,.int ps,.bl ov])/\dh C H b z.r z.w z.aF z.aO z.bi z.bj/\H pr=some (.tup (Ts z.racks))/\H pp=some (.tup (z.jB.map V.int))
def beg (Z:QF):Std:=⟨Z.r,Z.w,Z.aF,Z.aO,Z.bi,Z.bj,Z.racks.map d7,Z.bag,List.replicate Z.racks.length 0⟩
def YW (C:Addr):Sp:=λvs H Q _=>∃(p pw:Addr) (Z:QF),vs=[.ref p]/\zm C H p pw Z/\R6 Z/\∀j H',aD H H'->nP C H' j (beg Z) 0 0 false->Q (.ref j) H'
def aeu {C:Addr}(D:aN K mg "_law_begun" Hl ["_law_parts_here"])(cQ:mg "tuple"=none)(iR:mg "sorted"=none)(bH:mg "len"=none):bW P w K mg base "_law_begun" 1 ["_law_parts_here"] (YW C):=by
 calc D.dD Ji (λf bO A outer s H vs Q E hr h=>?_);let⟨p,pw,Z,rfl,A0,O,q⟩:=h;let⟨b,d,pb,pr,hp,hB,hd,hpb,hpr⟩:=A0.ex;let n1:=O.n1;let n4:=O.n4;let z7:=O.s7;calc(aj _ (aB (aW (i:=1) Ji.nd rL (Or.inl rL) (f9 jx qf cQ c9 (ak (jZ rL (jz.of Ji.nd qh) (iI (bh bD aH aA (λ_ _=>rfl))) (λ_ _ _ _ _=>fH) (λ_ _ _ _ _=>(Tg K bp dq dr (Jg K) (bI [] qi) (ak (aQ (vN rL) qf iR fN (ak aH aq)) aq)))) aq))) (aG (bC (cL (ak (bh bD aH aA (λ_ _=>rfl)) (ak bf (ak (bh bD aH aA (λ_ _=>rfl)) (ak (aL X7 (cL (ak aA aq)) (aQ bY qf bH ax (ak bf aq))) (ak aA (ak aA (ak eO aq))))))))))) ?_);refine(aj _ rL (bw p _ _ (.ref pr) rL rL (aU.of hp) (aP (j:=5) rL) (aX pr rL ⟨_,aU.of hpr⟩ (λL hL=>rm (xs:=Ts Z.racks) (λi ys F=>ys=Ts ((Z.racks.take i).map d7)/\F L=some (.lst ys)/\aD H F) (cF rL au (aD.upd hL)) (λi ys F _ h=>aU.of (h.2.2 _ _ hpr)) ?_ ?_))))
 .intro i x ys F hi z;let⟨rfl,Mv,sm⟩:=z;let⟨l,hl,rfl⟩:=xV hi;let G:i<(Ts Z.racks).length:=(ah.mp hi).1;let hir:i<Z.racks.length:=by rw[aa]at G;show G
  let hl7:=(O.r7 l (bv hl)).1;calc⟨rL,aj _ rL (aX l rL p_ (λp2 us hp2 pm pw=>?_))⟩;calc(dw p2 (us.map λc=>[c]) rL rL (bJ.of au) ?_ ?_);.rw[nH,pm.length_eq];lia
  .rw[yc (pm.map λc=>[c]) pw];let I:=aD.upd hp2 (o:=HO.lst (Ts (us.map λc=>[c])));calc(cF (I _ _ Mv) ?_ (iW.mk G (cF ?_ au ((sm.trans I).dY hL))));.rw[aa,aa,ap];show aM p_
   .rw[take_snoc hl];simp only[Ts,bu];rfl
 .intro ys F z;let⟨rfl,Mv,sm⟩:=z;rw[aa,cz]at Mv;calc(dM L _ rL (.inl ⟨bJ.of Mv,λtp ht=>?_⟩));let I:aD F (upd F tp (.tup (Ts (Z.racks.map d7)))):=aD.upd ht;let YJ:upd F tp (.tup (Ts (Z.racks.map d7))) tp=some (.tup (Ts (Z.racks.map d7))):=au;generalize upd F tp (HO.tup (Ts (Z.racks.map d7)))=H8 at I YJ ⊢;let YS:=sm.trans I;calc(aj _ rL (bw p _ _ (.ref b) rL rL (aU.of (YS _ _ hp)) (aP (j:=0) rL) (aj _ rL (aj _ rL (gW p _ _ (.str (S Z.bag)) rL rL (aU.of (YS _ _ hp)) (aP (j:=6) rL) (zsz 1) (λJ e0=>?_))))));let s9:aD H8 (upd H8 J (HO.tup [V.int 0])):=aD.upd e0;let Y:upd H8 J (HO.tup [V.int 0]) J=some (.tup [V.int 0]):=au;generalize upd H8 J (HO.tup [V.int 0])=H9 at s9 Y ⊢;calc(aj _ rL (aK tp _ rL (.inr (aU.of (s9 _ _ YJ))) ⟨J,_,Z.racks.length,rL,by rw[aa,aa],Y,qa,n1,p_,by show 1<=100;decide,λpp HA sA hpp=>?_⟩));let zO:HA pp=some (.tup ((List.replicate Z.racks.length (0:Int)).map V.int)):=by rw[hpp];simp
  let s0A:=(YS.trans s9).trans sA;calc⟨zsz 7,λp' hp'=>?_⟩;let sP:=aD.upd hp' (o:=HO.tup [V.ref b,V.ref tp,V.str (S Z.bag),V.ref pp,V.int 0,V.int 0,V.bl false]);show q p' _ (s0A.trans sP) ⟨b,tp,pp,au,(hB.mv s0A).mv sP,sP _ _ (sA _ _ (s9 _ _ YJ)),sP _ _ zO⟩
def Oq (a b:Nat×Nat)(l:List (Nat×Nat)):j8 (a::b::l)=(ltQ (a,b)&&j8 (b::l)):=rfl
theorem QJ {c:Nat×Nat}:∀{cs:List (Nat×Nat)},j8 cs=true->(∀d∈cs,ltQ (d,c)=true)->j8 (cs++[c])=true
 | [],_,_=>rfl
 | [a],_,h=>by show j8 (a::c::[])=true;rw[Oq,h a cq];rfl
 | a::b::l,h1,h2=>by rw[Oq,cp]at h1;show j8 (a::b::(l++[c]))=true;rw[Oq,h1.1,mf];show QJ (cs:=b::l) h1.2 λd hd=>h2 d (bz _ hd)
def Vt {r w:Nat}{aF:AB}(hb:Blk r w aF)(r1:1<=r){i:Int}(h0:-1<=i)(h1:i<r):∃l,rO (Ts aF) i=some (.str (S l))/\l.length=w:=by
 by_cases hn:0<=i
 .let⟨k,rfl⟩:=ja hn;let D:k<aF.length:=by rw[hb.len];lia
  show(aj (aF[k]) (aP (nJ (ac D))) (hb.sU _ (aS D)))
 .let e:i=-1:=p_;subst e;let j:aF≠[]:=λe=>by subst e;have:=hb.len;simp at this;lia
  calc(aj (aF.getLast j) ?_ (hb.sU _ (List.getLast_mem j)));let e:=gT j;let e2:Ts aF=Ts aF.dropLast++[.str (S (aF.getLast j))]:=by
   conv=>lhs;rw[<-e]
   simp only[Ts,bu,cw,ph]
  rw[e2];show Jb _ _
def acF:Sp:=λvs H Q _=>∃(pr pl:Addr) (bU word:List Nat) (i0 j wy:Int) (r w:Nat) (aF:AB),vs=[.ref pr,.str (S word),.ref pl,.str (S bU)]/\H pr=some (.tup (Ts aF))/\Blk r w aF/\1<=r/\r<=9/\w<=9/\zK word/\H pl=some (.tup [.int i0,.int j,.int wy])/\-1<=i0/\0<=j/\(wy=0\/wy=1)/\bU.length<=63/\
 ∀(t:Addr) (as:List Addr) (H':Hp),aD H H'->H' t=some (.tup (as.map V.ref))->as.length<=9->(0<=i0->∃ts,fV H' as ts/\(∀t∈ts,inB r w t)/\j8 (ts.map oV)=true)->Q (.ref t) H'
def Vu (D:aN K mg "_law_candidate" uV ["_law_rows_here","_law_word","_law_place","_law_rack"])(bH:mg "len"=none)(i_:mg "list"=none)(cQ:mg "tuple"=none)(pP:mg "int"=none):bW P w K mg base "_law_candidate" 1 ["_law_rows_here","_law_word","_law_place","_law_rack"] acF:=by
 calc D.dD iy (λf bO A outer s H vs Q E hr h=>?_);let⟨pr,pl,bU,word,i0,j0,wy,r,w,aF,rfl,hpr,hb,r1,r9,w9,hW,hpl,i1,j1,T7,h63,q⟩:=h;let⟨wo1,wo2,wo3⟩:=hW;let hrl:(Ts aF).length=r:=by rw[aa,hb.len]
 let G:∀H2,aD H H2->∀t,H2 t=none->Q (.ref t) (upd H2 t (.tup [])):=λH2 s2 t ht=>q t [] _ (s2.trans (aD.upd ht)) au (eQ _) λ_=>(aX [] ⟨λa h=>(by cases h),rL⟩ (λt h=>(by cases h)) rL)
 calc(aj _ (aB (vf bG (qI rL (cG (bQ (i:=4) iy.nd rL (Or.inl rL)) (cG (bQ (i:=5) iy.nd rL (Or.inl rL)) (cG (bQ (i:=6) iy.nd rL (Or.inl rL)) o9))))) (aB (aW (i:=7) iy.nd rL (Or.inl rL) (f9 (oM rL) qf i_ ft (ak bL aq))) (aB (aW (i:=8) iy.nd rL (Or.inl rL) (fW aq)) (aB (gG cE rL (rT bf) (bQ (i:=9) iy.nd rL (Or.inl rL)) (aB (cD (QW.qt (jY (bV G8 cP (aQ bY qf bH ax (ak aH aq)) (bM _)) (jQ (bV G8 d9 (aQ dO qf bH ax (ak (bh bD aH aA (λ_ _=>rfl)) aq)) (bM _))))) (aG (bC (cL aq))) bN) (aB (gU (cD (bV jq (bh Bt (bh bD aH cP (λ_ _=>rfl)) d9 (λ_ _=>rfl)) (bI [46] qi) (bM _)) (aB (aW (i:=10) iy.nd rL (Or.inl rL) lZ) (aB (gU (cD (bV xH jR jr rL) (aG (aW (i:=10) iy.nd rL (Or.inl rL) (bI [63] qi))) bN)) (aB (cD (bV xH jR jr rL) (aG (bC (cL aq))) bN) (aB (dF (gP bS iN iO yF jr (ak jR aq))) (aG (dF (gP bS dA dC jy lY (ak (cL (ak cP (ak d9 (ak (bh gH (fW (ak lZ (ak (xJ bp PySem.F.slot_str_upper PySem.F.type_str_upper abz lZ) aq))) (f9 Pz qf pP ko (ak (d8 jq jR (bI [63] qi) (bM _)) aq)) (λ_ _=>rfl)) aq)))) aq)))))))) bN)) (aB (aW (i:=4) iy.nd rL (Or.inl rL) (aL cW cP gb)) (aG (aW (i:=5) iy.nd rL (Or.inl rL) (aL oZ (aL cW d9 aA) gb))))))) (aG (bC (f9 jx qf cQ c9 (ak lY aq)))))))) ?_);calc(aj _ rL (aY pl _ rL (aU.of hpl) rL (dM _ _ rL (dM _ _ rL (aK _ _ rL rL ?_)))));calc(aj _ rL (aX bU rL p_ (λL hL=>?_)));let sL:aD H (upd H L (HO.lst (Ts (bU.map λc=>[c])))):=aD.upd hL;let eL:upd H L (HO.lst (Ts (bU.map λc=>[c]))) L=some (.lst (Ts (bU.map λc=>[c]))):=au;generalize upd H L (HO.lst (Ts (bU.map λc=>[c])))=H1 at sL eL ⊢;calc⟨zsz 0,λM hM=>?_⟩;let sM:aD H1 (upd H1 M (HO.lst [])):=aD.upd hM;let eM:upd H1 M (HO.lst []) M=some (.lst (([]:List Addr).map V.ref)):=au;let LM:L≠M:=bF eL hM;let fM:H M=none:=by
  cases e:H M with| none=>rfl| some o=>rw[sL _ _ e]at hM;cases hM
 generalize upd H1 M (HO.lst [])=H2 at sM eM ⊢;let fj:=sL.trans sM;let eL2:=sM _ _ eL;calc(aj _ rL (aj word rL ?_));refine Hg (λn σ Z=>∃(v9 I:Option V) (j cc:Int) (us:List Nat) (as:List Addr),σ=[some (.ref pr),some (.str (S word)),some (.ref pl),some (.str (S bU)),some (.int j),some (.int cc),some (.int wy),some (.ref L),some (.ref M),v9,I]/\aD H Z/\Z L=some (.lst (Ts (us.map λc=>[c])))/\us.length<=63/\Z M=some (.lst (as.map V.ref))/\as.length<=n/\-1<=j/\0<=cc/\(0<=i0->0<=j/\∃ts,fV Z as ts/\(∀t∈ts,inB r w t)/\j8 (ts.map oV)=true/\∀t∈ts,((t.1:Int)<j\/((t.1:Int)=j/\(t.2.1:Int)<cc))))
  ⟨none,none,i0,j0,bU,[],rL,fj,eL2,h63,eM,eQ _,i1,j1,λh=>⟨h,iu [] ⟨λa h=>(by cases h),rL⟩ (λt h=>(by cases h)) rL (λt h=>(by cases h))⟩⟩ ?_ ?_
 .intro n c σ Z hc z;let⟨v9,I,j,cc,us,as,rfl,sm,tV,Mh,Im,hal,rr1,cc1,Y⟩:=z;let hn:n<word.length:=(ah.mp hc).1;let J:isLet c:=wo3 c (bv hc);let Vb:=sm _ _ hpr;calc(aj _ rL (aj _ rL (aK pr _ rL (.inr (aU.of Vb)) (aK _ _ rL rL (aj _ rL ?_)))));calc jP (λ_=>⟨zsz 0,λt ht=>G Z sm t ht⟩) (λhnr=>?_);let hnr:=hV (ly.mpr hnr);rw[hrl]at hnr;let⟨l0,e0,w0⟩:=Vt hb r1 (i:=0) p_ p_;let hz0:l0.length<=sizeLine:=am (aM p_);calc(aj _ rL (aj _ rL (bw pr _ _ (.str (S l0)) rL rL (aU.of Vb) e0 (aX l0 rL hz0 (aK _ _ rL rL (aj _ rL ?_))))));calc jP (λ_=>⟨zsz 0,λt ht=>G Z sm t ht⟩) (λhnc=>?_);let hnc:=hV (ly.mpr hnc);rw[w0]at hnc;let⟨l,el,wl⟩:=Vt hb r1 (i:=j) rr1 p_;let za:l.length<=sizeLine:=am (aM p_);let⟨k,rfl⟩:=ja cc1;let hk:k<l.length:=p_;refine⟨λσ F=>∃(v9 I:Option V) (us:List Nat) (as:List Addr),σ=[some (.ref pr),some (.str (S word)),some (.ref pl),some (.str (S bU)),some (.int j),some (.int k),some (.int wy),some (.ref L),some (.ref M),v9,I]/\aD H F/\F L=some (.lst (Ts (us.map λc=>[c])))/\us.length<=63/\F M=some (.lst (as.map V.ref))/\as.length<=n+1/\(0<=i0->0<=j/\∃ts,fV F as ts/\(∀t∈ts,inB r w t)/\j8 (ts.map oV)=true/\∀t∈ts,((t.1:Int)<j\/((t.1:Int)=j/\(t.2.1:Int)<=k))),?_,?_⟩
  .calc(aj _ rL (aj _ rL (bw pr _ _ (.str (S l)) rL rL (aU.of Vb) el (aj _ rL (eG l _ (l[k]) rL rL za (aP (ac hk)) (aK [l[k]] [46] rL rL (aj _ rL ?_)))))));refine jP (λ_=>?_) (λ_=>⟨_,_,us,as,rL,sm,tV,Mh,Im,p_,λh=>?_⟩)
   .calc(aj _ rL ?_);refine⟨λσ F=>F=Z/\∃x:Nat,σ=[some (.ref pr),some (.str (S word)),some (.ref pl),some (.str (S bU)),some (.int j),some (.int k),some (.int wy),some (.ref L),some (.ref M),some (.str (S [c])),some (.str (S [x]))]/\(x=c\/x=63),?_,?_⟩
    .calc(aj _ rL (aj _ rL (dw L _ rL (.inl (bJ.of tV)) rL (N8 _) (aj _ rL ?_))));show jP (λ_=>⟨rL,aj 63 rL (.inr rL)⟩) (λ_=>⟨rL,aj c rL (.inl rL)⟩)
    intro σ F z;let⟨rfl,x,rfl,hxc⟩:=z;calc(aj _ rL (aj _ rL (dw L _ rL (.inl (bJ.of tV)) rL (N8 _) (aj _ rL ?_))));calc jP (λ_=>⟨zsz 0,λt ht=>G F sm t ht⟩) (λfJ=>?_);let fJ:x∈us:=by rw[show (if true then !inV (V.str (S [x])) (Ts (us.map λc=>[c])) else inV (V.str (S [x])) (Ts (us.map λc=>[c])))=!inV (V.str (S [x])) (Ts (us.map λc=>[c])) from rL,acf]at fJ;simpa using fJ
    calc(aX _ rL (.inl ⟨rL,_,bJ.of tV⟩) (aj _ rL (qP L _ [x] rL rL tV (be.mpr (aj x fJ rL)) (by rw[aa];lia) ?_)));rw[ux];let s5:aD H (upd F L (HO.lst (Ts ((us.erase x).map λc=>[c])))):=sm.dY hL;let eL5:upd F L (HO.lst (Ts ((us.erase x).map λc=>[c]))) L=some (.lst (Ts ((us.erase x).map λc=>[c]))):=au;let eM5:upd F L (HO.lst (Ts ((us.erase x).map λc=>[c]))) M=some (.lst (as.map V.ref)):=by rw[aZ LM.symm];show Im
    let T5:∀a xs,F a=some (.tup xs)->upd F L (HO.lst (Ts ((us.erase x).map λc=>[c]))) a=some (.tup xs):=λa xs e=>by rw[aZ (yC e tV λz=>nomatch z)];show e
    generalize upd F L (HO.lst (Ts ((us.erase x).map λc=>[c])))=H5 at s5 eL5 eM5 T5 ⊢;calc(aX _ rL (.inl ⟨rL,_,bJ.of eM5⟩) (aj _ rL (aj _ rL (aj _ rL (aX _ rL rL ⟨[c],rL,rL,(by show 1<=1000;decide),(λd hd=>by rw[a_.mp hd];have:=J.2;lia),zsz 2,λN hN=>?_⟩)))));let s6:aD H5 (upd H5 N (HO.lst [V.str (S [c]),V.str (S ([c].map PyProof.Rows.up1))])):=aD.upd hN;let eN:upd H5 N (HO.lst [V.str (S [c]),V.str (S ([c].map PyProof.Rows.up1))]) N=some (.lst [V.str (S [c]),V.str (S [PyProof.Rows.up1 c])]):=au;generalize upd H5 N (HO.lst [V.str (S [c]),V.str (S ([c].map PyProof.Rows.up1))])=H6 at s6 eN ⊢;obtain⟨y,hy,ysg⟩:∃y,rO [V.str (S [c]),V.str (S [PyProof.Rows.up1 c])] (if decide ([x]=[63])=true then 1 else 0)=some (.str (S [y]))/\rG y:=by
     by_cases e:x=63
     .calc(aj (PyProof.Rows.up1 c) ?_ ?_);.rw[ai (by rw[e]),if_pos rfl];rfl
      .have:PyProof.Rows.up1 c=c-32:=afA J;rw[this];show abY J
     .calc(aj c ?_ (abX J));rw[ag (by simpa using e),if_neg qc];rfl
    calc(aj _ rL (aK [x] [63] rL rL (.inr (aj _ rL (gW N _ _ (.str (S [y])) rL rL (bJ.of eN) hy (zsz 3) (λT hT=>?_))))));let s7:aD H6 (upd H6 T (HO.tup [V.int j,V.int k,V.str (S [y])])):=aD.upd hT;let eT:upd H6 T (HO.tup [V.int j,V.int k,V.str (S [y])]) T=some (.tup [V.int j,V.int k,V.str (S [y])]):=au;generalize upd H6 T (HO.tup [V.int j,V.int k,V.str (S [y])])=H7 at s7 eT ⊢;let O:=s6.trans s7;let eM7:=O _ _ eM5;calc(eG M _ (.ref T) rL rL eM7 (aM (by rw[aa];lia)) ?_);calc⟨_,_,us.erase x,as++[T],rL,(s5.trans O).dY fM,?_,?_,?_,?_,λh=>?_⟩;.rw[aZ LM];show O _ _ eL5
    .have:=(kX (a:=x) (l:=us)).length_le;lia
    .rw[au];simp
    .rw[av];show gN hal
    .let⟨h0,ts,t1,t2,t3,t4⟩:=Y h;let⟨i,rfl⟩:=ja h0;let kT:∀a xs,H7 a=some (.tup xs)->upd H7 M (HO.lst (as.map V.ref++[V.ref T])) a=some (.tup xs):=λa xs e=>by rw[aZ (yC e eM7 λz=>nomatch z)];show e
     refine⟨h0,iu (ts++[(i,k,y)]) (((t1.Lw λa xs e=>kT a xs (O _ _ (T5 a xs e)))).snoc (kT _ _ eT)) (λt ht=>?_) ?_ (λt ht=>?_)⟩
     .rcases bq.mp ht with z|z;.show t2 t z
      .rw[a_.mp z];show(cF (by show i<r;lia) (by show k<w;lia) ysg)
     .rw[bu];calc QJ t3 λd hd=>?_;let⟨t,ht,rfl⟩:=be.mp hd;let b1:=(t2 t ht).1;let b2:=(t2 t ht).2.1;let b3:=t4 t ht;show decide (t.1*1000+t.2.1<i*1000+k)=true;show ai p_
     .rcases bq.mp ht with z|z;.have:=t4 t z;lia
      .rw[a_.mp z];show .inr ⟨rL,pE _⟩
   .let⟨h0,ts,t1,t2,t3,t4⟩:=Y h;show⟨h0,iu ts t1 t2 t3 (λt ht=>by have:=t4 t ht;lia)⟩
  .intro σ F z;let⟨v9,I,us,as,rfl,Ly,Av,alz,Ip,alA,alB⟩:=z;calc(aj _ rL (aj _ rL (aK _ _ rL rL ?_)));calc(aj _ rL (aK _ _ rL rL (aj _ rL (aK _ _ rL rL ?_))));calc⟨_,_,j+wy,(k:Int)+1-wy,us,as,rL,Ly,Av,alz,Ip,alA,p_,p_,λh=>?_⟩;let⟨h0,ts,t1,t2,t3,t4⟩:=alB h;show⟨p_,iu ts t1 t2 t3 (λt ht=>by have:=t4 t ht;lia)⟩
 .intro σ Z z;let⟨v9,I,j,cc,us,as,rfl,sm,tV,Mh,Im,hal,rr1,cc1,Y⟩:=z;calc(aj _ rL (dM M _ rL (.inl ⟨bJ.of Im,λt ht=>?_⟩)));let st:=aD.upd ht (o:=HO.tup (as.map V.ref));calc q t as _ (sm.trans st) au p_ λh=>?_;let⟨h0,ts,t1,t2,t3,t4⟩:=Y h;show(aX ts (t1.mv st) t2 t3)
def dT (t:cg):Dt:=.tup [.int t.1,.int t.2.1,.str [t.2.2]]
theorem dZ.Mw {H:Hp}:∀{as:List Addr},(∀a∈as,xX H a (tO H a))->(∀a∈as,(tO H a).2.2<128)->dZ K H 2 ((as.map (tO H)).map dT) (as.map V.ref)
 | [],_,_=>.nil
 | a::as,h1,h2=>.cons (.tup (aU.of (h1 a cq)) (.cons (.int _) (.cons (.int _) (.cons (.str _ λc j=>by rw[a_.mp j];show h2 a cq) .nil)))) (dZ.Mw (λb hb=>h1 b (bz _ hb)) λb hb=>h2 b (bz _ hb))
def jC.Mw {H:Hp}{t:Addr}{as:List Addr}{ts:List cg}(h:H t=some (.tup (as.map V.ref)))(j:fV H as ts)(hs:∀t∈ts,rG t.2.2):jC K H 3 (.tup (ts.map dT)) (.ref t):=by let e:=j.eq;subst e;show .tup (aU.of h) (dZ.Mw j.at_ λa ha=>(hs _ (be.mpr (aj a ha rL))).lt)
theorem acG:∀{cs l:List Nat} {left:AB},Ay (l.map λc=>[c]) cs=.inr left->∃j,qy l cs=some j
 | [],l,left,_=>⟨l,rL⟩
 | c::cs,l,left,h=>by
  unfold Ay at h;unfold qy;by_cases hm:iH c∈l
  .rw[if_pos (be.mpr (aj _ hm rL)),ux]at h;rw[if_pos hm];show acG h
  .rw[if_neg (λz=>by let⟨d,hd,e⟩:=be.mp z;cases e;show hm hd)]at h;cases h
def akJ {aF:AB}{r w bi bj:Nat}{ws:AB}{bU:List Nat}{ts:List cg}(h:tX aF r w bi bj ws bU ts .ok):∃l,qy bU (ts.map (·.2.2))=some l:=by
 cases h with| ok h1 h2 h3 h4 h5 h=>let⟨l,hl⟩:=h5;show acG hl
def aev {aF:AB}{ts:List cg}{bs ws:AB}(h:∀x,x∈bs↔x∈ws):Ir aF bs ts=Ir aF ws ts:=by
 let e:Ju bs=Ju ws:=funext λq=>by unfold Ju;rw[decide_eq_decide.mpr (h (Uq q))]
 unfold Ir;rw[e]
def aew {aF:AB}{r w bi bj:Nat}{bs ws:AB}{bU:List Nat}{ts:List cg}(e:∀x,x∈bs↔x∈ws)(h:tX aF r w bi bj bs bU ts .ok):tX aF r w bi bj ws bU ts .ok:=by
 cases h with| ok h1 h2 h3 h4 h5 h=>show .ok h1 h2 h3 h4 h5 (by rw[<-aev e];show h)
structure aaK (aF:AB)(r w bi bj:Nat)(ws:AB)(bU:List Nat)(ts:List cg):Prop where
 yg:∀t∈ts,inB r w t
 h0:0<ts.length
 h7:ts.length<=7
 ri:j8 (ts.map oV)=true
 vd:tX aF r w bi bj ws bU ts .ok
def acH (C CB:Addr):Sp:=λvs H Q _=>∃(b k kd pw:Addr) (bs ws:AB) (bU:List Nat) (c:Int) (r w:Nat) (aF aO:AB) (bi bj:Nat),vs=[.ref b,.ref k,.ref pw,.str (S bU),.int c]/\dh C H b r w aF aO bi bj/\iJ CB H k kd bs/\H pw=some (.lst (Ts ws))/\1<=ws.length/\(∀l∈ws,zK l)/\bU.length<=63/\
 ∀(t:Addr) (as:List Addr) (ts:List cg) (H':Hp),aD H H'->H' t=some (.tup (as.map V.ref))->fV H' as ts->(ts=[]\/aaK aF r w bi bj bs bU ts)->Q (.ref t) H'
open Classical in
def acI {C CB f1:Addr}{dH:FuncData}(D:aN K mg "_law_laying" BW ["_law_board","_law_book","_law_words_here","_law_rack","_law_cell"])(bH:mg "len"=none)(tM:mg "min"=none)(F:iz K C)(tD:Meth K C "is_free" f1)(tE:cj P w K mg base dN 1 f1 dH ["self"] (T3 C))(tG:bT K dH ["self"] [])(oX:bW P w K mg base "_law_stream" 1 ["_law_cell","_law_many"] uF)(Xi:bW P w K mg base "_law_candidate" 1 ["_law_rows_here","_law_word","_law_place","_law_rack"] acF)(aja:bW P w K mg base "_law_lets" 16 ["_law_board","_law_book","_law_rack","_law_laying_here"] (acB C CB)):bW P w K mg base "_law_laying" 17 ["_law_board","_law_book","_law_words_here","_law_rack","_law_cell"] (acH C CB):=by
 calc D.dD vp (λf bO A outer s H vs Q E hr h=>?_);let⟨b,k,kd,pw,bs,ws,bU,c,r,w,aF,aO,bi,bj,rfl,BA,BK,YT,w1,hwz,h63,q⟩:=h;obtain⟨⟨Z,pr,pm,pb,hb,J,hpm,hpb⟩,B⟩:=BA;let BA:dh C H b r w aF aO bi bj:=⟨(fB Z pr pm pb hb J hpm hpb),B⟩
 let r1:=B.r1;let r9:=B.r9;let ww1:=B.w1;let w9:=B.w9;let hrl:(Ts aF).length=r:=by rw[aa,B.br.len]
 let⟨l0,e0,w0⟩:=Vt B.br r1 (i:=0) p_ p_;let hz0:l0.length<=sizeLine:=am (aM p_);calc(aj _ (aB (gG cE rL (nW (bK oX hr.mono rL (ak cP (ak aA aq)))) (bQ (i:=5) vp.nd rL (Or.inl rL)) (aB (aW (i:=6) vp.nd rL (Or.inl rL) (cL (ak (aL cu (aL cV d9 aA) (aQ bY qf bH ax (ak (bZ aH rL) aq))) (ak (aL cu (aL cV d9 aA) (aQ dO qf bH ax (ak (bh bD (bZ aH rL) aA (λ_ _=>rfl)) aq))) (ak (aL cu (aL cV d9 aA) aA) aq))))) (aB (gU (cD (cZ (gR aH F.cl tD tE hr.mono tG .nil eY)) (aG (aW (i:=6) vp.nd rL (Or.inl rL) (cL (ak (aL oZ (bh bD (bZ aH rL) aA (λ_ _=>rfl)) (aL jo (aL cu (aL cV d9 aA) aA) (aL cu d9 aA))) (ak (bh bD (bZ aH rL) aA (λ_ _=>rfl)) (ak (aL cu (aL cV d9 aA) aA) aq)))))) bN)) (aB (aW (i:=7) vp.nd rL (Or.inl rL) (bK Xi hr.mono rL (ak (bZ aH rL) (ak (bh gH bG (aL cu (aL cV d9 aA) (aQ bY qf bH ax (ak bG aq))) (λ_ _=>rfl)) (ak gb (ak bL aq)))))) (aG (cD (QW.qt (Aj (bV G8 (aQ (abT rL) qf tM mm (ak gb aq)) aA (bM _)) (Aj (bV (Ei hr.units) jr (cL aq) (bM _)) (Aj (bV wu (aQ bY qf bH ax (ak jr aq)) aA (bM _)) (Hf (cZ (bK aja hr.mono rL (ak aH (ak bf (ak bL (ak jr aq))))))))))) (aG (bC jr)) bN)))))) (aG (bC (cL aq)))) ?_);calc(aj _ rL (aK c 24 rL qc (λp ds H1 s1 hp0 hp hdl=>?_)));refine(aX p rL ⟨_,bJ.of hp⟩ (mU (K:=K) (a:=p) (xs:=ds.map V.int) (λi σ O=>∃(v5 v6 v7:Option V),σ=[some (.ref b),some (.ref k),some (.ref pw),some (.str (S bU)),some (.int c),v5,v6,v7]/\aD H1 O)
  (K7 none none none rL (aD.refl _)) (λi σ O _ h=>?_) ?_ ?_))
 .let⟨_,_,_,_,sm⟩:=h;show bJ.of (sm _ _ hp)
 .intro i x σ O hx z;let⟨v5,v6,v7,rfl,sm⟩:=z;rw[ck]at hx;let⟨n,hn,rfl⟩:=dv.mp hx;let s2:=s1.trans sm;let d0:=du (n/64) (show (r:Int)≠0 by lia);let d1:=du (n/640) (show (w:Int)≠0 by lia);let d2:n/6400%2=0\/n/6400%2=1:=p_;calc(aj _ rL (aY _ _ rL rL ⟨qc,qc⟩ (aj _ rL (cT b C Z _ _ rL (s2 _ _ hb) F.cl F.nr rL (aK pr _ rL (.inr (aU.of (s2 _ _ J))) (aY _ _ rL rL (by show (0:Int)<_;rw[hrl];lia) (aj _ rL (aY _ _ rL rL ⟨qc,qc⟩ (aj _ rL (cT b C Z _ _ rL (s2 _ _ hb) F.cl F.nr rL (bw pr _ _ (.str (S l0)) rL rL (aU.of (s2 _ _ J)) e0 (aX l0 rL hz0 (aY _ _ rL rL (by show (0:Int)<_;rw[w0];lia) (aj _ rL (aY _ _ rL rL ⟨qc,qc⟩ (dw _ _ rL rL (by show (0:Int)<2;decide) (zsz 3) (λpl hpl=>?_)))))))))))))))));rw[hrl,w0];let sP:aD O (upd O pl (HO.tup [V.int (n/64%r),V.int (n/640%w),V.int (n/6400%2)])):=aD.upd hpl;let eP:upd O pl (HO.tup [V.int (n/64%r),V.int (n/640%w),V.int (n/6400%2)]) pl=some (.tup [V.int (n/64%r),V.int (n/640%w),V.int (n/6400%2)]):=au;generalize upd O pl (HO.tup [V.int (n/64%r),V.int (n/640%w),V.int (n/6400%2)])=H3 at sP eP ⊢;let s3:=s2.trans sP;refine⟨λσ H4=>∃(pl:Addr) (i0 j0 wy:Int),σ=[some (.ref b),some (.ref k),some (.ref pw),some (.str (S bU)),some (.int c),some (.int n),some (.ref pl),v7]/\aD H3 H4/\H4 pl=some (.tup [.int i0,.int j0,.int wy])/\-1<=i0/\0<=j0/\(wy=0\/wy=1),?_,?_⟩
  .calc(aj _ rL (cY b Z _ rL (s3 _ _ hb) rL ⟨b,r,w,aF,aO,bi,bj,rL,BA.mv s3,λH4 s4=>(aj _ rL ?_)⟩));let I:=s3.trans s4;calc jP (λ_=>?_) (λ_=>(gW pl _ _ _ rL s4 (s4 _ _ eP) p_ d1 d2));let d3:n%2=0\/n%2=1:=p_;calc(aj _ rL (cT b C Z _ _ rL (I _ _ hb) F.cl F.nb rL (bw pb _ _ (.int bi) rL rL (aU.of (I _ _ hpb)) (aP (j:=0) rL) (aj _ rL (aY _ _ rL rL ⟨qc,qc⟩ (aY _ _ rL rL (by show (0:Int)<2;decide) (aj _ rL (aY _ _ rL rL (by show (0:Int)<2;decide) (aY _ _ rL rL (.inl ⟨p_,p_⟩) (aK _ _ rL rL (aj _ rL (cT b C Z _ _ rL (I _ _ hb) F.cl F.nb rL (bw pb _ _ (.int bj) rL rL (aU.of (I _ _ hpb)) (aP (j:=1) rL) (aj _ rL (aY _ _ rL rL ⟨qc,qc⟩ (dw _ _ rL rL (by show (0:Int)<2;decide) (zsz 3) (λpl2 alC=>?_)))))))))))))))));calc(gW pl2 _ _ _ rL (s4.trans (aD.upd alC)) au ?_ p_ d2);show -1<=(bi:Int)-n/6400%2*(n%2)
   rcases d2 with e|e <;> rw[e] <;> lia
  intro σ H4 z;let⟨pl,i0,j0,wy,rfl,s4,ajb,i1,j1,T7⟩:=z;let I:=s3.trans s4;let⟨wv,hwv,hwm⟩:=wZ (xs:=Ts ws) (n:=ws.length) (by rw[aa]) w1 (n/12800);let⟨wd,hwd,rfl⟩:=be.mp hwm;let hwl:(Ts ws).length=ws.length:=aa _;calc(aj _ rL (cT b C Z _ _ rL (I _ _ hb) F.cl F.nr rL (aj _ rL (aj _ rL (aY _ _ rL rL ⟨qc,qc⟩ (aj _ rL (aK pw _ rL (.inl (bJ.of (I _ _ YT))) (aY _ _ rL rL (by show (0:Int)<_;rw[hwl];lia) (bw pw _ _ (.str (S wd)) rL rL (bJ.of (I _ _ YT)) (by rw[hwl];show hwv) (aj _ rL (aj _ rL ⟨pr,pl,bU,wd,i0,j0,wy,r,w,aF,rL,I _ _ J,B.br,r1,r9,w9,hwz wd hwd,ajb,i1,j1,T7,h63,λt as H5 s5 ht hal hts=>?_⟩)))))))))));let Az:=I.trans s5;let s15:aD H1 H5:=((sm.trans sP).trans s4).trans s5;calc(aj _ rL (aY pl [i0,j0,wy] rL (aU.of (s5 _ _ ajb)) (by show 0<3;decide) (λm hm hle=>(aK _ _ rL rL (aj _ rL ?_)))));calc jP (λhge=>?_) (λ_=>(K7 _ _ _ rL s15));let hi0:0<=i0:=by let h1:=hle i0 cq;let h2:=ej hge;show Int.le_trans h2 h1
  let⟨ts,hL,fJ,Io⟩:=hts hi0;let dI:as.length=ts.length:=by rw[<-hL.eq,aa]
  calc(aX _ rL (zsz 0) (λe he=>?_));let G:aD H5 (upd H5 e (HO.tup [])):=aD.upd he;let e6:upd H5 e (HO.tup []) e=some (.tup []):=au;generalize upd H5 e (HO.tup [])=H6 at G e6 ⊢;let DP:=Az.trans G;let Y:=s15.trans G;calc(cY 3 (.tup (ts.map dT)) (.tup []) qc (jC.Mw (G _ _ ht) (hL.mv G) (λt h=>(fJ t h).2.2)) (.tup (aU.of e6) .nil) (aj _ rL ?_));calc jP (λhne=>?_) (λ_=>(K7 _ _ _ rL Y));let h0:0<ts.length:=by
   rcases kU ts.length with z|z
   .have:ts=[]:=gv.mp z;subst this;simp at hne
   .show z
  calc(aj _ rL (aK t _ rL (.inr (aU.of (G _ _ ht))) (aK _ _ rL rL (aj _ rL ?_))));calc jP (λh8=>?_) (λ_=>(K7 _ _ _ rL Y));let h7:ts.length<=7:=by have:=ej h8;rw[aa]at this;lia
  calc(aj _ rL (aj _ rL (aj _ rL (aj _ rL ⟨b,k,kd,t,bs,bU,as,ts,r,w,aF,aO,bi,bj,rL,BA.mv DP,BK.mv DP,h63,G _ _ ht,hL.mv G,fJ,h0,h7,Io,λo H7 s7 ho=>(aj _ rL ?_)⟩))));calc jP (λhb=>?_) (λ_=>(K7 _ _ _ rL (Y.trans s7)));show(aj _ rL (q t as ts H7 (DP.trans s7) (s7 _ _ (G _ _ ht)) ((hL.mv G).mv s7) (.inr ⟨fJ,h0,h7,Io,ho hb⟩)))
 .intro σ O z;let⟨v5,v6,v7,rfl,sm⟩:=z;calc⟨zsz 0,λt ht=>?_⟩;show q t [] [] _ ((s1.trans sm).trans (aD.upd ht)) au ⟨λa h=>(by cases h),rL⟩ (.inl rL)
theorem YX:∀{l m bU:List Nat},bU.Perm (l++m)->∃j,yh bU l=some j
 | [],m,bU,_=>⟨bU,rL⟩
 | c::l,m,bU,h=>by let D:c∈bU:=h.mem_iff.mpr qa;unfold yh;rw[if_pos D];let h2:=h.erase c;rw[o0,List.erase_cons_head]at h2;show YX h2
def cJ (z:Std)(dn:Nat):List Nat:=z.racks.getD (dn%z.racks.length) []
def acJ (z:Std)(dn:Nat)(bs:AB):cO->Prop
 | .lay ts=>aaK z.aF z.r z.w z.bi z.bj bs (cJ z dn) ts
 | .swap l=>l≠[]/\l.length<=7/\(∀c∈l,oE c)/\(∃m,qy (cJ z dn) l=some m)/\l.length<=z.bag.length
 | .pass=>True
def Jz {z:Std}{dn:Nat}(h:dn%z.racks.length<z.racks.length):cJ z dn=z.racks[dn%z.racks.length]:=by unfold cJ;rw[ay,ac h];rfl
def YZ (C CB:Addr):Sp:=λvs H Q _=>∃(pn k kd pw:Addr) (bs ws:AB) (c:Int) (z:Std) (dn ps:Nat) (ov:Bool),vs=[.ref pn,.ref k,.ref pw,.int c]/\nP C H pn z dn ps ov/\jN z/\iJ CB H k kd bs/\H pw=some (.lst (Ts ws))/\1<=ws.length/\(∀l∈ws,zK l)/\
 ∀(p:Addr) (d:cO) (H':Hp),aD H H'->vB H' p d->acJ z dn bs d->Q (.ref p) H'
open Classical in
def agO {C CB:Addr}(D:aN K mg "_law_deed" Lk ["_law_now","_law_book","_law_words_here","_law_cell"])(bH:mg "len"=none)(tM:mg "min"=none)(oX:bW P w K mg base "_law_stream" 1 ["_law_cell","_law_many"] uF)(aex:bW P w K mg base "_law_laying" 17 ["_law_board","_law_book","_law_words_here","_law_rack","_law_cell"] (acH C CB)):bW P w K mg base "_law_deed" 18 ["_law_now","_law_book","_law_words_here","_law_cell"] (YZ C CB):=by
 calc D.dD j7 (λf bO A outer s H vs Q E hr h=>?_);let⟨pn,k,kd,pw,bs,ws,c,z,dn,ps,ov,rfl,NA,Z,BK,YT,w1,hwz,q⟩:=h;let⟨b,pr,pp,hn,hB,hpr,hpp⟩:=NA.ex;let n1:=Z.n1;let hrl:(Ts z.racks).length=z.racks.length:=aa _;let O:dn%z.racks.length<z.racks.length:=Nat.mod_lt _ n1;let QK:=Jz O;let⟨k7,kt⟩:=Z.r7 _ (aS O);rw[<-QK]at k7 kt;let hz:(cJ z dn).length<=sizeLine:=am (aM p_);let b6:=Z.b6;let Y4:z.bag.length<=sizeLine:=am (aM p_);calc(aj _ (aB (gU (vf aH (qI rL (cG (bQ (i:=4) j7.nd rL (Or.inl rL)) (cG (bQ (i:=5) j7.nd rL (Or.inl rL)) (cG (bQ (i:=6) j7.nd rL (Or.inl rL)) (cG (bQ (i:=7) j7.nd rL (Or.inl rL)) (cG (bQ (i:=8) j7.nd rL (Or.inl rL)) (cG (bQ (i:=9) j7.nd rL (Or.inl rL)) (cG (bQ (i:=10) j7.nd rL (Or.inl rL)) o9)))))))))) (aB (aW (i:=11) j7.nd rL (Or.inl rL) (bK oX hr.mono rL (ak bL (ak aA aq)))) (aB (gU (aW (i:=12) j7.nd rL (Or.inl rL) (bh bD d9 (aL cu lY (aQ bY qf bH ax (ak d9 aq))) (λ_ _=>rfl)))) (aB (aW (i:=13) j7.nd rL (Or.inl rL) (cL aq)) (aB (gU (cD (bV aj9 (aL cu (bh gH pR aA (λ_ _=>rfl)) aA) aA (bM _)) (aG (aW (i:=13) j7.nd rL (Or.inl rL) (bK aex hr.mono rL (ak cP (ak bf (ak bG (ak qJ (ak (bh gH pR aA (λ_ _=>rfl)) aq)))))))) bN)) (aB (cD (bV (Ei hr.units) (qv 13) (cL aq) (bM _)) (aG (bC (cL (ak (bI [108,97,121] qi) (ak (qv 13) aq))))) bN) (aB (aW (i:=14) j7.nd rL (Or.inl rL) (aL cW aA (aL cu (bh gH pR aA (λ_ _=>rfl)) aA))) (aB (cD (QW.qt (jY (bV jk (aL cu (bh gH pR aA (λ_ _=>rfl)) aA) aA (bM _)) (jQ (bV wu (aQ (Py rL) qf tM mm (ak (aQ dO qf bH ax (ak qJ aq)) (ak (aQ dO qf bH ax (ak gb aq)) aq))) (qv 14) (bM _))))) (aG (bC (cL (ak (bI [112,97,115,115] qi) aq)))) bN) (aB (aW (i:=15) j7.nd rL (Or.inl rL) (aL cu (aL cV (bh gH pR aA (λ_ _=>rfl)) aA) (aQ dO qf bH ax (ak qJ aq)))) (aG (bC (cL (ak (bI [115,119,97,112] qi) (ak (dR qD (aL mq (dR qD qJ (dX (qv 15)) fO) (dR qD qJ fO (dX (qv 15)))) fO (dX (qv 14))) aq)))))))))))))) ?_);calc(aj (λσ H1=>H=H1/\σ=[some (.ref pn),some (.ref k),some (.ref pw),some (.int c),some (.ref b),some (.ref pr),some (.str (S z.bag)),some (.ref pp),some (.int dn),some (.int ps),some (.bl ov),none,none,none,none,none]) (aj _ rL (aY pn _ rL (aU.of hn) rL (dM _ _ rL (dM _ _ rL (dM _ _ rL (dM _ _ rL (dM _ _ rL (dM _ _ rL (aY _ _ rL rL rL rL))))))))) ?_);rintro σ H1 ⟨eH,rfl⟩;subst eH;refine(aj _ rL (aK c 3 rL qc (λJ ds H1 s1 hp0 hp hdl=>?_)))
 match ds,hdl with
 | [x,y,u],_=>
  let emod:(dn:Int)%((Ts z.racks).length:Int)=((dn%z.racks.length:Nat):Int):=by rw[hrl];lia
  calc(aj (λσ H2=>H1=H2/\σ=[some (.ref pn),some (.ref k),some (.ref pw),some (.int c),some (.ref b),some (.ref pr),some (.str (S z.bag)),some (.ref pp),some (.int dn),some (.int ps),some (.bl ov),some (.ref J),some (.str (S (cJ z dn))),none,none,none]) (aj _ rL (aj _ rL (aj _ rL (aK pr _ rL (.inr (aU.of (s1 _ _ hpr))) (aY _ _ rL rL (by show (0:Int)<_;rw[hrl];lia) (gW pr _ _ (.str (S (cJ z dn))) rL rL (aU.of (s1 _ _ hpr)) (by rw[emod,QK];show aP (nJ (ac O))) rL rL)))))) ?_);rintro σ H2 ⟨eH,rfl⟩;subst eH;calc⟨zsz 0,λe he=>?_⟩;let s2:aD H1 (upd H1 e (HO.tup [])):=aD.upd he;let e2:upd H1 e (HO.tup []) e=some (.tup (([]:List Addr).map V.ref)):=au;generalize upd H1 e (HO.tup [])=H2 at s2 e2 ⊢;let fj:=s1.trans s2;let I:=s2 _ _ hp;refine⟨λσ G=>∃(t:Addr) (as:List Addr) (ts:List cg),σ=[some (.ref pn),some (.ref k),some (.ref pw),some (.int c),some (.ref b),some (.ref pr),some (.str (S z.bag)),some (.ref pp),some (.int dn),some (.int ps),some (.bl ov),some (.ref J),some (.str (S (cJ z dn))),some (.ref t),none,none]/\aD H2 G/\G t=some (.tup (as.map V.ref))/\fV G as ts/\(ts=[]\/aaK z.aF z.r z.w z.bi z.bj bs (cJ z dn) ts),?_,?_⟩
  .calc(aj _ rL (bw J _ _ (.int x) rL rL (bJ.of I) (aP (j:=0) rL) (aY _ _ rL rL (by show (0:Int)<8;decide) (aK _ _ rL rL (aj _ rL ?_)))));calc jP (λ_=>?_) (λ_=>(eG e [] [] rL (aD.refl _) e2 ⟨λa h=>(by cases h),rL⟩ (.inl rL)));show(aj _ rL (aj _ rL (aj _ rL (aj _ rL (aj _ rL (bw J _ _ (.int y) rL rL (bJ.of I) (aP (j:=1) rL) ⟨b,k,kd,pw,bs,ws,cJ z dn,y,z.r,z.w,z.aF,z.aO,z.bi,z.bj,rL,hB.mv fj,BK.mv fj,fj _ _ YT,w1,hwz,p_,λt as ts G s3 ht hL ho=>(eG t as ts rL s3 ht hL ho)⟩))))))
  intro σ G z;let⟨t,as,ts,rfl,s3,ht,hL,ho⟩:=z;let fX:=fj.trans s3;let hp3:=s3 _ _ I;calc(aX _ rL (zsz 0) (λe' he'=>?_));let Y:aD G (upd G e' (HO.tup [])):=aD.upd he';let e4:upd G e' (HO.tup []) e'=some (.tup []):=au;generalize upd G e' (HO.tup [])=H4 at Y e4 ⊢;let iB:=fX.trans Y;let hp4:=Y _ _ hp3;let hsg:∀t∈ts,rG t.2.2:=by
   rcases ho with h|h;.subst h;intro t h;cases h
   .show λt ht=>(h.yg t ht).2.2
  calc(cY 3 (.tup (ts.map dT)) (.tup []) qc (jC.Mw (Y _ _ ht) (hL.mv Y) hsg) (.tup (aU.of e4) .nil) (aj _ rL ?_));refine jP (λhne=>?_) (λ_=>?_)
  .rcases ho with h|h;.subst h;simp at hne
   calc(aX _ rL (zsz 2) (λp hp=>?_));let sp:=aD.upd hp (o:=HO.tup [V.str (S [108,97,121]),V.ref t]);show q p (.lay ts) _ (iB.trans sp) (aK t as au (sp _ _ (Y _ _ ht)) ((hL.mv Y).mv sp)) h
  calc(aj _ rL (bw J _ _ (.int u) rL rL (bJ.of hp4) (aP (j:=2) rL) (aY _ _ rL rL (by show (0:Int)<7;decide) (aK _ _ rL rL ?_))));let pass:1<=sizeLine/\∀p,H4 p=none->Q (.ref p) (upd H4 p (HO.tup [V.str (S [112,97,115,115])])):=⟨zsz 1,λp hp=>q p .pass _ (iB.trans (aD.upd hp)) au True.intro⟩
  calc(aj _ rL (bw J _ _ (.int x) rL rL (bJ.of hp4) (aP (j:=0) rL) (dw _ _ rL rL (by show (0:Int)<8;decide) rL (aj _ rL ?_))));calc jP (λ_=>pass) (λ_=>?_);calc(aj _ rL (aX (cJ z dn) rL hz (aj _ rL (aX z.bag rL Y4 (dM _ _ rL (aj _ rL (aK _ _ rL rL (aj _ rL ?_))))))));calc jP (λ_=>pass) (λhm=>?_);let hm:=hV (ly.mpr hm);obtain⟨F,afB⟩:∃F:Nat,1+u%7=(F:Int):=⟨(1+u%7).toNat,p_⟩
  let m1:1<=F:=p_;let m7:F<=7:=p_;let mr:F<=(cJ z dn).length/\F<=z.bag.length:=by let hm:¬((if (z.bag.length:Int)<((cJ z dn).length:Int) then (z.bag.length:Int) else ((cJ z dn).length:Int))<1+u%7):=hm;rw[afB]at hm;split at hm <;> lia
  let hpos:(0:Int)<((cJ z dn).length:Int):=p_;obtain⟨B,hBy⟩:∃B:Nat,u/7%((cJ z dn).length:Int)=(B:Int):=⟨(u/7%((cJ z dn).length:Int)).toNat,by have:=du (u/7) (show ((cJ z dn).length:Int)≠0 by lia);lia⟩
  calc(aj _ rL (bw J _ _ (.int u) rL rL (bJ.of hp4) (aP (j:=2) rL) (aY _ _ rL rL ⟨qc,qc⟩ (aj _ rL (aX (cJ z dn) rL hz (aY _ _ rL rL hpos ?_))))));calc(aj _ rL (aj _ rL (aj _ rL (aX (cJ z dn) rL hz (aj _ rL (aj _ rL (aj _ rL (aX (cJ z dn) rL hz (aY _ _ rL rL ?_ (aj _ rL (aj _ rL (iu _ rL ?_ (zsz 2) (λp hp=>?_)))))))))))));.rw[hBy,k_,pC,bd,ap];show am (aM p_)
  .rw[hBy,k_,pC,av,bd,ap];show am (aM p_)
  let ec:iM (iM (cJ z dn) (some (u/7%((cJ z dn).length:Int))) none++iM (cJ z dn) none (some (u/7%((cJ z dn).length:Int)))) none (some (1+u%7))=((cJ z dn).drop B++(cJ z dn).take B).take F:=by rw[hBy,k_,pC,afB,pC]
  let pe:(cJ z dn).Perm (((cJ z dn).drop B++(cJ z dn).take B).take F++((cJ z dn).drop B++(cJ z dn).take B).drop F):=by rw[kq];calc List.Perm.trans ?_ List.perm_append_comm;rw[kq]
  let⟨m,hrm⟩:=YX pe;let dI:(((cJ z dn).drop B++(cJ z dn).take B).take F).length=F:=by rw[ap,av,bd,ap];lia
  let htl:∀c∈((cJ z dn).drop B++(cJ z dn).take B).take F,oE c:=λc hc=>kt c (by
   rcases bq.mp (c_ hc) with z|z;.show eJ z
   .show c_ z)
  let sp:=aD.upd hp (o:=HO.tup [V.str (S [115,119,97,112]),V.str (S (iM (iM (cJ z dn) (some (u/7%((cJ z dn).length:Int))) none++iM (cJ z dn) none (some (u/7%((cJ z dn).length:Int)))) none (some (1+u%7))))]);refine q p (.swap (((cJ z dn).drop B++(cJ z dn).take B).take F)) _ (iB.trans sp) ?_ ⟨λz=>?_,p_,htl,⟨m,?_⟩,p_⟩
  .show upd H4 p _ p=_;rw[au,<-ec];rfl
  .rw[z]at dI;simp at dI;lia
  .rw[<-R4,YK htl];show hrm
def Y5 (ps:Nat):cO->Nat
 | .pass=>ps+1
 | _=>0
noncomputable def ovN (z z':Std)(ps dn:Nat):cO->Bool
 | .pass=>decide (2*z.racks.length<=ps+1)
 | .swap _=>false
 | .lay _=>decide (cJ z' dn=[])&&decide (z'.bag=[])
def QM {d:cO}:d.name=fu↔d=.pass:=by
 cases d with| lay ts=>show⟨λh=>absurd h (show ¬iT=fu by decide),λh=>nomatch h⟩| swap l=>show⟨λh=>absurd h (show ¬gC=fu by decide),λh=>nomatch h⟩| pass=>show⟨λ_=>rfl,λ_=>rfl⟩
def agP {c:Nat}(h:rG c):rO [V.str (S [c]),V.str (S [63])] (if (!decide ([PyProof.Rows.lo1 c]=[c]))=true then 1 else 0)=some (.str (S [iH c])):=by
 unfold rG E_ EY Il at h;simp at h;unfold iH PyProof.Rows.lo1;by_cases j:65<=c/\c<=90
 .rw[if_pos j,if_pos j];have:¬[c+32]=[c]:=λz=>by simp at z
  rw[ag this];rfl
 .rw[if_neg j,if_neg j,ai rfl];rfl
def akK (n k:Nat):(if (n:Int)-(k:Int) > 0 then (n:Int)-(k:Int) else 0)=((n-k:Nat):Int):=by split <;> lia
def Vv (C:Addr):Sp:=λvs H Q _=>∃(pn p pw pd:Addr) (z z':Std) (dn ps:Nat) (ov:Bool) (Z:QF) (G:Gm) (d:cO) (pt:Int),vs=[.ref pn,.ref p,.ref pd]/\nP C H pn z dn ps ov/\jN z/\zm C H p pw Z/\R6 Z/\vB H pd d/\G.done.length=dn/\G.kvs=Z.kvs/\G.bn=Z.bn/\G.bm=Z.bm/\G.size=Z.size/\Does G z d pt z'/\
 ∀(t j:Addr) (H':Hp),aD H H'->H' t=some (.tup [.int pt,.ref j])->nP C H' j z' (dn+1) (Y5 ps d) (ovN z z' ps dn d)->Q (.ref t) H'
def Mx {c:Nat}(h:oE c):c<128:=by
 rcases h with e|e;.have:=e.2;lia
 .lia
open Classical in
def agQ {C f1:Addr}{dH:FuncData}(D:aN K mg "_law_next" Lp ["_law_now","_law_parts_here","_law_deed_here"])(bH:mg "len"=none)(i_:mg "list"=none)(iR:mg "sorted"=none)(pP:mg "int"=none)(zf:mg "max"=none)(cM:iz K C)(lQ:Meth K C "laid" f1)(lR:cj P w K mg base dN 8 f1 dH ["self","laying"] (Fd C))(lU:bT K dH ["self","laying"] [])(agR:bW P w K mg base "_law_taken" 1 ["_law_rack","_law_tiles_here"] YL)(aey:bW P w K mg base "_law_taken" 1 ["_law_rack","_law_tiles_here"] Vm)(zT:bW P w K mg base "points_of" 11 ["board","worths","bonus","laying"] (aaB C)):bW P w K mg base "_law_next" 12 ["_law_now","_law_parts_here","_law_deed_here"] (Vv C):=by
 calc D.dD h_ (λf bO A outer s H vs Q E hr h=>?_);let⟨pn,p,pw,pd,z,z',dn,ps,ov,Z,G,d,pt,rfl,NA,Zk,PA,PO,hd,hdn,ek,en,em,ez,hdo,q⟩:=h;let⟨b,pr,pp,hn,hB,I,hpp⟩:=NA.ex;let⟨b0,dk,pb,prr,hp,hB0,hdk,hpb,alY⟩:=PA.ex;let⟨nxs,hnm⟩:=YF hd;let n1:=Zk.n1;let n4:=Zk.n4;let Y:(Ts z.racks).length=z.racks.length:=aa _;let F:dn%z.racks.length<z.racks.length:=Nat.mod_lt _ n1;let QK:=Jz F;let⟨k7,kt⟩:=Zk.r7 _ (aS F);rw[<-QK]at k7 kt;let b6:=Zk.b6;let Y4:z.bag.length<=sizeLine:=am (aM p_);let J:jO G z=dn%z.racks.length:=by unfold jO;rw[hdn]
 let emod:(dn:Int)%((Ts z.racks).length:Int)=((dn%z.racks.length:Nat):Int):=by rw[Y];lia
 let eat:rO (Ts z.racks) ((dn:Int)%((Ts z.racks).length:Int))=some (.str (S (cJ z dn))):=by rw[emod,QK];show aP (nJ (ac F))
 calc(aj _ (aB (gU (vf aH (qI rL (cG (bQ (i:=3) h_.nd rL (Or.inl rL)) (cG (bQ (i:=4) h_.nd rL (Or.inl rL)) (cG (bQ (i:=5) h_.nd rL (Or.inl rL)) (cG (bQ (i:=6) h_.nd rL (Or.inl rL)) (cG (bQ (i:=7) h_.nd rL (Or.inl rL)) (cG (bQ (i:=8) h_.nd rL (Or.inl rL)) (cG (bQ (i:=9) h_.nd rL (Or.inl rL)) o9)))))))))) (aB (gU (aW (i:=10) h_.nd rL (Or.inl rL) (aL cu jr (aQ bY qf bH ax (ak cP aq))))) (aB (aW (i:=11) h_.nd rL (Or.inl rL) aA) (aB (cD (bV jq (bh bD bG aA (λ_ _=>rfl)) (bI [112,97,115,115] qi) (bM _)) (aG (bC (cL (ak aA (ak (cL (ak bL (ak cP (ak d9 (ak gb (ak (aL cW jr aA) (ak (aL cW lY aA) (ak (d8 G8 (aL cW lY aA) (aL jo aA (aQ bY qf bH ax (ak cP aq))) (bM _)) aq)))))))) aq))))) bN) (aB (gU (cD (bV jq (bh bD bG aA (λ_ _=>rfl)) (bI [115,119,97,112] qi) (bM _)) (aB (aW (i:=12) h_.nd rL (Or.inl rL) (aL SQ (bK agR hr.mono rL (ak (bh bD cP jR (λ_ _=>rfl)) (ak (bh bD bG aA (λ_ _=>rfl)) aq))) (f9 (oM rL) qf i_ ft (ak (dR qD d9 fO (dX (aQ dO qf bH ax (ak (bh bD bG aA (λ_ _=>rfl)) aq)))) aq)))) (aG (aW (i:=5) h_.nd rL (Or.inl rL) (aL mq (dR qD d9 (dX (aQ dO qf bH ax (ak (bh bD bG aA (λ_ _=>rfl)) aq))) fO) (gP bp dq dr rC (bI [] qi) (ak (aQ (vN rL) qf iR fN (ak (bh bD bG aA (λ_ _=>rfl)) aq)) aq)))))) (aB (aW (i:=11) h_.nd rL (Or.inl rL) (bK zT hr.mono rL (ak bL (ak (bh bD bf aA (λ_ _=>rfl)) (ak (bh bD bf aA (λ_ _=>rfl)) (ak (bh bD bG aA (λ_ _=>rfl)) aq)))))) (aB (aW (i:=12) h_.nd rL (Or.inl rL) (bK aey hr.mono rL (ak (bh bD cP jR (λ_ _=>rfl)) (ak (mY (ns:=["_law_row","_law_column","_law_sign"]) rL (jX.of ["_law_now","_law_parts_here","_law_deed_here","_law_board","_law_racks","_law_bag","_law_sums","_law_done","_law_passed_here","_law_over_here","_law_here","_law_points","_law_left","_law_drawn"] [] qh) (iI (bh bD bG aA (λ_ _=>rfl))) (λ_ _ _ _ _=>(qg K rL (show (["_law_row","_law_column","_law_sign","_law_now","_law_parts_here","_law_deed_here","_law_board","_law_racks","_law_bag","_law_sums","_law_done","_law_passed_here","_law_over_here","_law_here","_law_points","_law_left","_law_drawn"]:List Str).Nodup by decide +kernel) rL rL rL qf qf qf)) (λ_ _ _ _ _=>fH) (λ_ _ _ _ _=>(bh (adH K) (fW (ak bG (ak (bI [63] qi) aq))) (f9 Pz qf pP ko (ak (d8 KC (agl K bp l_ ma S8 bG) bG (bM _)) aq)) (λ_ _=>rfl)))) aq)))) (aB (gU (aW (i:=13) h_.nd rL (Or.inl rL) (dR qD d9 fO (dX (aQ (Px rL) qf zf PyProof.Rows.boot_max (ak aA (ak (aL oZ (bh bD bf aA (λ_ _=>rfl)) (aQ bY qf bH ax (ak qJ aq))) aq))))))) (aB (aW (i:=12) h_.nd rL (Or.inl rL) (aL SQ qJ (f9 (oM rL) qf i_ ft (ak (qv 13) aq)))) (aB (aW (i:=5) h_.nd rL (Or.inl rL) (dR qD d9 (dX (aQ dO qf bH ax (ak (qv 13) aq))) fO)) (aG (aW (i:=3) h_.nd rL (Or.inl rL) (nY bL cM.cl lQ lR hr.mono lU .nil eY (ak (bh bD bG aA (λ_ _=>rfl)) aq))))))))))) (aB (aW (i:=4) h_.nd rL (Or.inl rL) (aL w6 (aL w6 (dR xq cP fO (dX jR)) (cL (ak (gP bp dq dr rC (bI [] qi) (ak (aQ Ej qf iR fN (ak qJ aq)) aq)) aq))) (dR xq cP (dX (aL cW jR aA)) fO))) (aB (aW (i:=6) h_.nd rL (Or.inl rL) (aL w6 (aL w6 (dR xq gb fO (dX jR)) (cL (ak (aL cW (bh bD gb jR (λ_ _=>rfl)) pR) aq))) (dR xq gb (dX (aL cW jR aA)) fO))) (aG (bC (cL (ak pR (ak (cL (ak bL (ak cP (ak d9 (ak gb (ak (aL cW jr aA) (ak aA (ak (jA (d8 jq (bh bD bG aA (λ_ _=>rfl)) (bI [108,97,121] qi) (bM _)) (jA (d8 (vh hr.units) qJ (fW aq) (bM _)) (ji (d8 jq d9 (bI [] qi) (bM _))))) aq)))))))) aq)))))))))))) ?_);calc(aj (λσ H1=>H=H1/\σ=[some (.ref pn),some (.ref p),some (.ref pd),some (.ref b),some (.ref pr),some (.str (S z.bag)),some (.ref pp),some (.int dn),some (.int ps),some (.bl ov),none,none,none,none]) (aj _ rL (aY pn _ rL (aU.of hn) rL (dM _ _ rL (dM _ _ rL (dM _ _ rL (dM _ _ rL (dM _ _ rL (dM _ _ rL (aY _ _ rL rL rL rL))))))))) ?_);rintro σ H1 ⟨eH,rfl⟩;subst eH;calc(aj (λσ H2=>H=H2/\σ=[some (.ref pn),some (.ref p),some (.ref pd),some (.ref b),some (.ref pr),some (.str (S z.bag)),some (.ref pp),some (.int dn),some (.int ps),some (.bl ov),some (.int ((dn:Int)%((Ts z.racks).length:Int))),none,none,none]) (aj _ rL (aj _ rL (aK pr _ rL (.inr (aU.of I)) (dw _ _ rL rL (by show (0:Int)<_;rw[Y];lia) rL rL)))) ?_);rintro σ H2 ⟨eH,rfl⟩;subst eH;calc(aj _ rL (bw pd _ _ (.str (S d.name)) rL rL (aU.of hnm) (aP (j:=0) rL) (aK d.name fu rL rL (aj _ rL ?_))));by_cases O:d=.pass
 .subst O;rw[ai (show cO.name .pass=fu from rL)];cases hdo;let eo:decide ((ps:Int)+1>=2*((Ts z.racks).length:Int))=decide (2*z.racks.length<=ps+1):=Hs (by rw[Y];lia);calc cA (aj _ rL (aj _ rL (aj _ rL (aj _ rL (aj _ rL (aK _ _ rL rL (aj _ rL (aK _ _ rL rL (aj _ rL (aK _ _ rL rL (aj _ rL (aK pr _ rL (.inr (aU.of I)) (aY _ _ rL rL (.inl ⟨qc,qc⟩) (aY _ _ rL rL (zsz 7) (λp' hp'=>⟨zsz 2,λt ht=>?_⟩)))))))))))))));let s1:=aD.upd hp' (o:=HO.tup [V.ref b,V.ref pr,V.str (S z.bag),V.ref pp,V.int ((dn:Int)+1),V.int ((ps:Int)+1),V.bl (decide ((ps:Int)+1>=2*((Ts z.racks).length:Int)))]);let s2:=aD.upd ht (o:=HO.tup [V.int 0,V.ref p']);calc q t p' _ (s1.trans s2) au ⟨b,pr,pp,s2 _ _ ?_,(hB.mv s1).mv s2,s2 _ _ (s1 _ _ I),s2 _ _ (s1 _ _ hpp)⟩;calc au.trans ?_;show some (HO.tup [V.ref b,V.ref pr,V.str (S z.bag),V.ref pp,V.int ((dn:Int)+1),V.int ((ps:Int)+1),V.bl (decide ((ps:Int)+1>=2*((Ts z.racks).length:Int)))])=_;rw[eo];rfl
 rw[ag λe=>O (QM.mp e)];refine bR ⟨λσ H5=>∃(b' N:Addr) (us:List Nat) (v13:Option V),σ=[some (.ref pn),some (.ref p),some (.ref pd),some (.ref b'),some (.ref pr),some (.str (S z'.bag)),some (.ref pp),some (.int dn),some (.int ps),some (.bl ov),some (.int ((dn:Int)%((Ts z.racks).length:Int))),some (.int pt),some (.ref N),v13]/\aD H H5/\dh C H5 b' z'.r z'.w z'.aF z'.aO z'.bi z'.bj/\H5 N=some (.lst (Ts (us.map λc=>[c])))/\us.length<=60/\(∀c∈us,c<128)/\z'.racks=z.racks.set (dn%z.racks.length) (d7 us)/\z'.jB=z.jB.set (dn%z.racks.length) (z.jB.getD (dn%z.racks.length) 0+pt),?_,?_⟩
 .calc(aj _ rL (bw pd _ _ (.str (S d.name)) rL rL (aU.of hnm) (aP (j:=0) rL) (aK d.name gC rL rL (aj _ rL ?_))));cases hdo with
  | @swap l m ne h7 tl lf hb=>
   rw[ai (show cO.name (.swap l)=gC from rL)];let hd:H pd=some (.tup [.str (S gC),.str (S l)]):=hd;let za:l.length<=sizeLine:=am (aM p_);rw[J]at lf;let hrm:yh (cJ z dn) l=some m:=by rw[<-YK tl,R4];show lf
   let hml:=Vl hrm;calc cA (aj _ rL (aj _ rL (bw pr _ _ (.str (S (cJ z dn))) rL rL (aU.of I) eat (aj _ rL (bw pd _ _ (.str (S l)) rL rL (aU.of hd) (aP (j:=1) rL) (eG (cJ z dn) l m rL p_ p_ hrm (λLf H1 s1 fLf hLf=>?_)))))));calc(aj _ rL (aj _ rL (bw pd _ _ (.str (S l)) rL rL (aU.of (s1 _ _ hd)) (aP (j:=1) rL) (aX l rL za (aj _ rL (aX z.bag rL Y4 (aX (z.bag.take l.length) (by rw[pC]) (by rw[ap];lia) (λM hM=>?_))))))));let s2:=aD.upd hM (o:=HO.lst (Ts ((z.bag.take l.length).map λc=>[c])));let e2:upd H1 M (HO.lst (Ts ((z.bag.take l.length).map λc=>[c]))) M=some (.lst (Ts ((z.bag.take l.length).map λc=>[c]))):=au;generalize upd H1 M (HO.lst (Ts ((z.bag.take l.length).map λc=>[c])))=H2 at s2 e2 ⊢;calc(gW Lf M _ _ rL rL (s2 _ _ hLf) e2 ?_ (λN hN=>?_));.rw[aa,aa,aa,aa,ap];show am (aM p_)
   let s3:=aD.upd hN (o:=HO.lst (Ts (m.map λc=>[c])++Ts ((z.bag.take l.length).map λc=>[c])));let e3:upd H2 N (HO.lst (Ts (m.map λc=>[c])++Ts ((z.bag.take l.length).map λc=>[c]))) N=some (.lst (Ts ((m++z.bag.take l.length).map λc=>[c]))):=by rw[au];simp[Ts]
   generalize upd H2 N (HO.lst (Ts (m.map λc=>[c])++Ts ((z.bag.take l.length).map λc=>[c])))=H3 at s3 e3 ⊢;let fX:=(s1.trans s2).trans s3;calc(aj _ rL (aj _ rL (bw pd _ _ (.str (S l)) rL rL (aU.of (fX _ _ hd)) (aP (j:=1) rL) (aX l rL za (aj _ rL (iu z.bag rL Y4 rL (aj _ rL (bw pd _ _ (.str (S l)) rL rL (aU.of (fX _ _ hd)) (aP (j:=1) rL) (aX l rL p_ (λp2 us hp2 pm pw2=>?_))))))))));let s4:=aD.upd hp2 (o:=HO.lst (Ts (us.map λc=>[c])));calc(dw p2 (us.map λc=>[c]) rL rL (bJ.of au) ?_ ?_);.rw[nH,pm.length_eq];lia
   rw[yc (pm.map λc=>[c]) pw2];calc(aY _ (d7 l) rL rL ?_ ?_);.rw[k_,bd,jK];show am (aM p_)
   calc(nG b N (m++z.bag.take l.length) none ?_ (fX.trans s4) ((hB.mv fX).mv s4) (s4 _ _ e3) ?_ (λc hc=>?_) ?_ ?_);.rw[k_];rfl
   .rw[av,ap];lia
   .rcases bq.mp hc with y|y;.show Mx (kt c (Ba lf c y))
    .show Mx (Zk.bt c (c_ y))
   .show z.racks.set _ _=_;rw[J,acr (List.Perm.append (kI m) (List.Perm.refl _))]
   .show z.jB=_;rw[Int.add_zero];let hip:dn%z.racks.length<z.jB.length:=by rw[Zk.pl];show F
    rw[ay,ac hip,Option.getD_some,List.set_getElem_self]
  | @lay ts l yg h0 h7 ri vd lf=>
   rw[ag (show ¬cO.name (.lay ts)=gC from (show ¬iT=gC by decide))];let⟨t,as,hd,ht,hL⟩:=hd;let hl1:=Oa hB.ok.w9 yg h0 ri (YD vd);let hal:=hL.len;rw[J]at lf;calc bR (aj _ rL (aj _ rL (bw p _ _ (.ref dk) rL rL (aU.of hp) (aP (j:=2) rL) (aj _ rL (bw p _ _ (.ref pb) rL rL (aU.of hp) (aP (j:=3) rL) (aj _ rL (bw pd _ _ (.ref t) rL rL (aU.of hd) (aP (j:=1) rL) ⟨b,dk,pb,t,Z.kvs,Z.bn,Z.bm,as,ts,z.r,z.w,z.aF,z.aO,z.bi,z.bj,rL,hB,Rd.of hdk,PO.wd,PO.wb,hpb,ht,hL,yg,h0,h7,hl1,λH1 s1=>?_⟩)))))));refine(aj _ rL (aj _ rL (bw pr _ _ (.str (S (cJ z dn))) rL rL (aU.of (s1 _ _ I)) eat (aj _ rL (bw pd _ _ (.ref t) rL rL (aU.of (s1 _ _ hd)) (aP (j:=1) rL) (aX t rL ⟨_,aU.of (s1 _ _ ht)⟩ (λN hN=>kY (K:=K) (KT:=K) (a:=t) (f:=j4 [] 0) (tt:=mW) (xs:=as.map V.ref) (λn ys H6=>ys=Ts (ones ((ts.take n).map λt=>iH t.2.2))/\H6 N=some (.lst ys)/\aD H1 H6)
    (cF rL au (aD.upd hN)) (λn ys H6 _ h=>aU.of (h.2.2 _ _ (s1 _ _ ht))) ?_ ?_)))))))
   .intro n x ys H6 hx z;let⟨rfl,tW,rJ⟩:=z;let hn':n<as.length:=by have:=(ah.mp hx).1;simpa using this
    let hnt:n<ts.length:=p_;rw[ck,ac hn']at hx;let hx:V.ref as[n]=x:=bo hx;let⟨_,ent⟩:=jV (hL.mv (s1.trans rJ)) hnt;let hsg:=(yg _ (aS hnt)).2.2;calc wF hx.symm (aU.of ent) ?_;calc(aX _ rL (zsz 2) (λM hM=>?_));let s7:=aD.upd hM (o:=HO.lst [V.str (S [ts[n].2.2]),V.str (S [63])]);calc(aX _ rL rL (pI [ts[n].2.2] rL rL (by show 1<=1000;decide) (λc hc=>by rw[a_.mp hc];show hsg.lt) (aj _ rL (aK [PyProof.Rows.lo1 ts[n].2.2] [ts[n].2.2] rL rL (.inr (aj _ rL ⟨M,_,_,.str (S [iH ts[n].2.2]),rL,rL,bJ.of au,agP hsg,s7 _ _ tW,?_,iW.mk (by rw[aa];show hn') (cF ?_ au ((rJ.trans s7).dY hN))⟩))))));.rw[aa,aa,aa,ap];show aM p_
    .rw[show ts.take (n+1)=ts.take n++[ts[n]] by rw[de,ac hnt];rfl];simp only[Ts,ones,bu];rfl
   intro ys H6 z;let⟨rfl,tW,rJ⟩:=z;rw[aa,hal,cz]at tW;let hrm:yh (cJ z dn) (ts.map λt=>iH t.2.2)=some l:=by rw[show (ts.map λt=>iH t.2.2)=(ts.map (·.2.2)).map iH by rw[fR];rfl,R4];show lf
   let hll:=Vl hrm;let DP:=s1.trans rJ;calc(gW (cJ z dn) (ts.map (λt=>iH t.2.2)) l N rL tW p_ (by rw[aa];lia) hrm (λLf H7 s7 fLf hLf=>?_));let Fl:=DP.trans s7;let hLl:(Ts (l.map λc=>[c])).length=l.length:=by rw[aa,aa]
   let alD:iM z.bag none (some (if (Z.size:Int)-((Ts (l.map λc=>[c])).length:Int) > 0 then (Z.size:Int)-((Ts (l.map λc=>[c])).length:Int) else 0))=z.bag.take (Z.size-l.length):=by rw[hLl,akK,pC]
   calc(aj (λσ H8=>H7=H8/\σ=[some (.ref pn),some (.ref p),some (.ref pd),some (.ref b),some (.ref pr),some (.str (S z.bag)),some (.ref pp),some (.int dn),some (.int ps),some (.bl ov),some (.int ((dn:Int)%((Ts z.racks).length:Int))),some (.int (aaA z.aF z.aO Z.kvs ts Z.bn Z.bm)),some (.ref Lf),some (.str (S (z.bag.take (Z.size-l.length))))]) (aj _ rL (aj _ rL (bw p _ _ (.int Z.size) rL rL (aU.of (Fl _ _ hp)) (aP (j:=4) rL) (aj _ rL (aK Lf _ rL (.inl (bJ.of hLf)) (aK _ _ rL rL (dM _ _ rL (aj _ rL (iu z.bag rL Y4 rL (by rw[<-alD];rfl)))))))))) ?_);rintro σ H7' ⟨eH,rfl⟩;subst eH;let htk:(z.bag.take (Z.size-l.length)).length<=7:=by rw[ap];have:=PO.s7;lia
   calc(aj _ rL (aj _ rL (aX (z.bag.take (Z.size-l.length)) rL p_ (λM hM=>?_))));let s8:=aD.upd hM (o:=HO.lst (Ts ((z.bag.take (Z.size-l.length)).map λc=>[c])));let e8:upd H7 M (HO.lst (Ts ((z.bag.take (Z.size-l.length)).map λc=>[c]))) M=some (.lst (Ts ((z.bag.take (Z.size-l.length)).map λc=>[c]))):=au;generalize upd H7 M (HO.lst (Ts ((z.bag.take (Z.size-l.length)).map λc=>[c])))=H8 at s8 e8 ⊢;calc(gW Lf M _ _ rL rL (s8 _ _ hLf) e8 ?_ (λN2 hN2=>?_));.rw[aa,aa,aa,aa];show am (aM p_)
   let s9:=aD.upd hN2 (o:=HO.lst (Ts (l.map λc=>[c])++Ts ((z.bag.take (Z.size-l.length)).map λc=>[c])));let e9:upd H8 N2 (HO.lst (Ts (l.map λc=>[c])++Ts ((z.bag.take (Z.size-l.length)).map λc=>[c]))) N2=some (.lst (Ts ((l++z.bag.take (Z.size-l.length)).map λc=>[c]))):=by rw[au];simp[Ts]
   generalize upd H8 N2 (HO.lst (Ts (l.map λc=>[c])++Ts ((z.bag.take (Z.size-l.length)).map λc=>[c])))=H9 at s9 e9 ⊢;let Y6:=(Fl.trans s8).trans s9;let⟨bx,_,_,_,hbx,_⟩:=(hB.mv Y6).ex;calc(aj _ rL (aj _ rL (aX (z.bag.take (Z.size-l.length)) rL (am (aM p_)) (aj _ rL (aX z.bag rL Y4 ?_)))));calc(aj _ rL (cY b bx _ rL hbx rL (aj _ rL (bw pd _ _ (.ref t) rL rL (aU.of (Y6 _ _ hd)) (aP (j:=1) rL) (Eo b t as ts z.r z.w z.aF z.aO z.bi z.bj rL (hB.mv Y6) (Y6 _ _ ht) (hL.mv Y6) yg (λb' HA sA hb'=>?_))))));let alE:iM z.bag (some ((z.bag.take (Z.size-l.length)).length:Int)) none=z.bag.drop (Z.size-l.length):=by
    rw[k_,ap];by_cases hh:Z.size-l.length<=z.bag.length;.rw[fA hh]
    .rw[ku p_,g9 (al _),g9 p_]
   refine(nG b' N2 (l++z.bag.take (Z.size-l.length)) (some (.str (S (z.bag.take (Z.size-l.length))))) ?_ (Y6.trans sA) hb' (sA _ _ e9) ?_ (λc hc=>?_) ?_ ?_)
   .rw[alE,ek,en,em];show _=[_,_,_,_,_,some (V.str (S (z.bag.drop (G.size-(d7 l).length)))),_,_,_,_,_,_,_,_]
    rw[jK,ez];rfl
   .rw[av];lia
   .rcases bq.mp hc with y|y;.show Mx (kt c (Ba lf c y))
    .show Mx (Zk.bt c (c_ y))
   .show z.racks.set _ (d7 (d7 l++z.bag.take (G.size-(d7 l).length)))=_;rw[J,jK,ez,acr (List.Perm.append (kI l) (List.Perm.refl _))]
   .show z.jB.set _ _=_;rw[J]
  | pass=>show absurd rL O
 .intro σ H5 z;let⟨b',N,us,v13,rfl,s5,hb5,yV,Mh,akL,ajc,alF⟩:=z;rw[emod];let ajd:=s5 _ _ I;calc(aj _ rL (aj _ rL (aj _ rL (aK pr _ rL ajd (λp1 H6 s6 h6=>?_)))));let hi:dn%z.racks.length<(Ts z.racks).length:=by rw[Y];show F
  rw[show iG (Ts z.racks) none (some ((dn%z.racks.length:Nat):Int))=(Ts z.racks).take (dn%z.racks.length) from Oe p_]at h6;calc⟨rL,aj _ rL (aY N (us.map λc=>[c]) rL (bJ.of (s6 _ _ yV)) (by rw[aa];lia) (λq2 vD hq2 pm pw2=>?_))⟩;let s7:=aD.upd hq2 (o:=HO.lst (Ts vD));calc(dw q2 vD rL rL (bJ.of au) ?_ ?_);.rw[yc pm pw2,jK];lia
  rw[yc pm pw2];generalize upd H6 q2 (HO.lst (Ts vD))=H7 at s7 ⊢;calc⟨zsz 1,λp2 n2=>?_⟩;let e8:upd H7 p2 (HO.tup [V.str (S (d7 us))]) p2=some (.tup [V.str (S (d7 us))]):=au;let s8:aD H7 (upd H7 p2 (HO.tup [V.str (S (d7 us))])):=aD.upd n2;generalize upd H7 p2 (HO.tup [V.str (S (d7 us))])=H8 at e8 s8 ⊢;let s68:=s7.trans s8;calc(nG p1 p2 _ _ rL rL (aU.of (s68 _ _ h6)) (aU.of e8) ?_ (λ_=>e8) (λy=>absurd y qa) (λp3 H9 s9 h9=>?_));.rw[ap];show am (aM (by simp;lia))
  let s59:=(s6.trans s68).trans s9;calc(aj _ rL (aj _ rL (aK _ _ rL rL (aj _ rL (aK pr _ rL (s59 _ _ ajd) (λp4 HA sA hA=>?_))))));rw[show iG (Ts z.racks) (some (((dn%z.racks.length:Nat):Int)+1)) none=(Ts z.racks).drop (dn%z.racks.length+1) from Fo (a:=dn%z.racks.length+1) p_]at hA;calc(nG p3 p4 _ _ rL rL (aU.of (sA _ _ h9)) (aU.of hA) ?_ (λy=>by simp at y) (λ_ _=>sA _ _ h9) (λFq HB sB Jy=>?_));.rw[av,ap,bd,Y];show am (aM (by simp;lia))
  let aes:HB Fq=some (.tup (Ts z'.racks)):=by rw[Jy,ajc,<-Mq,iE,if_pos hi];simp
  let s5B:=(s59.trans sA).trans sB;let aez:=s5B _ _ (s5 _ _ hpp);let hpl:(z.jB.map V.int).length=z.racks.length:=by rw[aa,Zk.pl]
  let hip:dn%z.racks.length<(z.jB.map V.int).length:=by rw[hpl];show F
  let aje:dn%z.racks.length<z.jB.length:=by rw[Zk.pl];show F
  calc(aj _ rL (aj _ rL (aj _ rL (aK pp _ rL aez (λr1 HC sC hC=>?_)))));rw[show iG (z.jB.map V.int) none (some ((dn%z.racks.length:Nat):Int))=(z.jB.map V.int).take (dn%z.racks.length) from Oe p_]at hC;calc(aj _ rL (aj _ rL (bw pp _ _ (.int z.jB[dn%z.racks.length]) rL rL (aU.of (sC _ _ aez)) (aP (by rw[ck,ac aje];rfl)) (aj _ rL (aY _ _ rL rL (zsz 1) (λr2 nr2=>?_))))));let eD:upd HC r2 (HO.tup [V.int (z.jB[dn%z.racks.length]+pt)]) r2=some (.tup [V.int (z.jB[dn%z.racks.length]+pt)]):=au;let sD:aD HC (upd HC r2 (HO.tup [V.int (z.jB[dn%z.racks.length]+pt)])):=aD.upd nr2;generalize upd HC r2 (HO.tup [V.int (z.jB[dn%z.racks.length]+pt)])=HD at eD sD ⊢;calc(nG r1 r2 _ _ rL rL (aU.of (sD _ _ hC)) (aU.of eD) ?_ (λ_=>eD) (λy=>absurd y qa) (λr3 HE sE hE=>?_));.rw[ap];show am (aM (by simp;lia))
  let sBE:=(sC.trans sD).trans sE;calc(aj _ rL (aj _ rL (aK _ _ rL rL (aj _ rL (aK pp _ rL (sBE _ _ aez) (λr4 HF sF hF=>?_))))));rw[show iG (z.jB.map V.int) (some (((dn%z.racks.length:Nat):Int)+1)) none=(z.jB.map V.int).drop (dn%z.racks.length+1) from Fo (a:=dn%z.racks.length+1) p_]at hF;calc(nG r3 r4 _ _ rL rL (aU.of (sF _ _ hE)) (aU.of hF) ?_ (λy=>by simp at y) (λ_ _=>sF _ _ hE) (λMr HG sG zO=>?_));.rw[av,ap,bd,hpl];show am (aM (by simp;lia))
  let U8:z.jB.getD (dn%z.racks.length) 0=z.jB[dn%z.racks.length]:=by rw[ay,ac aje];rfl
  let Fw:HG Mr=some (.tup (z'.jB.map V.int)):=by rw[zO,alF,U8,<-U7,iE,if_pos hip];simp
  let sBG:=(sBE.trans sF).trans sG;let s5G:=s5B.trans sBG;let s0G:=s5.trans s5G;let fin:∀(HI:Hp) (o:Bool),aD HG HI->o=ovN z z' ps dn d->7<=sizeLine/\∀p',HI p'=none->2<=sizeLine/\∀t,upd HI p' (HO.tup [V.ref b',V.ref Fq,V.str (S z'.bag),V.ref Mr,V.int ((dn:Int)+1),V.int 0,V.bl o]) t=none->Q (.ref t) (upd (upd HI p' (HO.tup [V.ref b',V.ref Fq,V.str (S z'.bag),V.ref Mr,V.int ((dn:Int)+1),V.int 0,V.bl o])) t (HO.tup [V.int pt,V.ref p'])):=by
   rintro HI o sI rfl;calc⟨zsz 7,λp' hp'=>⟨zsz 2,λt ht=>?_⟩⟩;let t1:=aD.upd hp' (o:=HO.tup [V.ref b',V.ref Fq,V.str (S z'.bag),V.ref Mr,V.int ((dn:Int)+1),V.int 0,V.bl (ovN z z' ps dn d)]);let t2:=aD.upd ht (o:=HO.tup [V.int pt,V.ref p']);let e0:Y5 ps d=0:=by
    cases d with| lay _=>rfl| swap _=>rfl| pass=>show absurd rL O
   calc q t p' _ (((s0G.trans sI).trans t1).trans t2) au ⟨b',Fq,Mr,?_,((((hb5.mv s5G).mv sI).mv t1).mv t2),t2 _ _ (t1 _ _ (sI _ _ (sBG _ _ aes))),t2 _ _ (t1 _ _ (sI _ _ Fw))⟩;rw[e0];show t2 _ _ au
  calc(aj _ rL (aj _ rL (aj _ rL (aj _ rL (aj _ rL (aj _ rL (aK _ _ rL rL (aj _ rL (bw pd _ _ (.str (S d.name)) rL rL (aU.of (s0G _ _ hnm)) (aP (j:=0) rL) (aK d.name iT rL rL (aj _ rL ?_)))))))))));let ajf:cJ z' dn=d7 us:=by unfold cJ;rw[ajc,eW,ay,jI F];rfl
  cases d with
  | pass=>show absurd rL O
  | swap l=>rw[ag (show ¬cO.name (.swap l)=iT from (show ¬gC=iT by decide))];show bR (fin HG false (aD.refl _) rL)
  | lay ts=>
   rw[ai (show cO.name (.lay ts)=iT from rL)];calc cA (aX _ rL (zsz 0) (λEe hEe=>?_));let sH:=aD.upd hEe (o:=HO.lst []);let eH:upd HG Ee (HO.lst []) Ee=some (.lst []):=au;generalize upd HG Ee (HO.lst [])=HH at sH eH ⊢;refine(cY 2 (.lst ((us.map λc=>[c]).map Dt.str)) (.lst []) qc (.lst (bJ.of (sH _ _ (s5G _ _ yV))) (dZ.tL λl hl=>?_)) (.lst (bJ.of eH) .nil) (aj _ rL ?_))
   .let⟨c,hc,rfl⟩:=be.mp hl;show λc' h'=>by rw[a_.mp h'];show akL c hc
   by_cases hue:us=[]
   .subst hue;rw[ai (show Dt.lst (List.map Dt.str (List.map (λc=>[c]) []))=Dt.lst [] from rL)];calc cA (aj _ rL (aK z'.bag [] rL rL ?_));calc fin HH _ sH ?_;show _=(decide (cJ z' dn=[])&&decide (z'.bag=[]))
    rw[ajf,ai (show d7 []=[] from gv.mp (jK [])),mf]
   .rw[ag (λy=>hue (by injection y with y;simpa using y))];calc bR (fin HH false sH ?_);show _=(decide (cJ z' dn=[])&&decide (z'.bag=[]))
    rw[ajf,ag (λy=>hue (by have:=jK us;rw[y]at this;show gv.mp this.symm)),nB]
def akM {c:Nat}(h:Dw c):c<128:=by
 rcases h with e|e;.lia
 .show e.lt
def akN {c:Nat}(h:Lr c):c<128:=(show ∀c∈MK,c<128 by decide) c h
def brD (aF aO:AB)(i j:Nat):Dt:=.tup [.tup (aF.map Dt.str),.tup (aO.map Dt.str),.tup [.int i,.int j]]
def jC.brd {H:Hp}{t pr pm pb:Addr}{r w:Nat}{aF aO:AB}{i j:Nat}(ht:H t=some (.tup [.ref pr,.ref pm,.ref pb]))(h1:H pr=some (.tup (Ts aF)))(h2:H pm=some (.tup (Ts aO)))(h3:H pb=some (.tup [.int i,.int j]))(B:TX r w aF aO i j):jC K H 3 (brD aF aO i j) (.ref t):=.tup (aU.of ht) (.cons (.tup (aU.of h1) (dZ.tL λl hl c D=>akM (B.cr l hl c D))) (.cons (.tup (aU.of h2) (dZ.tL λl hl c D=>akN (B.cm l hl c D))) (.cons (.tup (aU.of h3) (.cons (.int _) (.cons (.int _) .nil))) .nil)))
theorem dZ.ints {H:Hp}:∀{is:List Int},dZ K H 1 (is.map Dt.int) (is.map V.int)
 | []=>.nil
 | _::_=>.cons (.int _) dZ.ints
def JB (C CS CB CG:Addr):Sp:=λvs H Q _=>∃(g pn ps pd:Addr) (G:Gm) (zs:List Std) (z:Std) (k:Nat),vs=[.ref g,.ref pn]/\eV C CS CB CG H g ps pd G/\G.sts=zs++[z]/\jN z/\(∀l∈G.done,∀c∈l,c<128)/\G.done.length<=500/\nP C H pn z G.done.length k (gZ G z)/\∀H',aD H H'->Q (.bl true) H'
open Classical in
def acK {C CS CB CG f1 f2 f3 f4 f5 f6:Addr}{dH fd2 oF wg Mz MF:FuncData}(D:aN K mg "_law_stands" BX ["_law_game","_law_now"])(bH:mg "len"=none)(bA:mg "isinstance"=none)(mK:mg "bool"=none)(j:iz K C)(Y:mL K CG)(JC:Meth K CG "board_now" f1)(JD:cj P w K mg base dN 1 f1 dH ["self"] (tK C CS CB CG (acw C)))(JF:bT K dH ["self"] [])(lV:Meth K CG "racks_now" f2)(lW:cj P w K mg base dN 1 f2 fd2 ["self"] (tK C CS CB CG Ms))(lX:bT K fd2 ["self"] [])(uy:Meth K CG "bag_now" f3)(uz:cj P w K mg base dN 1 f3 oF ["self"] (tK C CS CB CG aeh))(uD:bT K oF ["self"] [])(HW:Meth K CG "points_now" f4)(HY:cj P w K mg base dN 1 f4 wg ["self"] (tK C CS CB CG ai6))(H_:bT K wg ["self"] [])(lu:Meth K CG "is_over" f5)(lB:cj P w K mg base dN 4 f5 Mz ["self"] (Mt C CS CB CG))(lC:bT K Mz ["self"] [])(zP:Meth K CG "turn" f6)(zQ:cj P w K mg base dN 2 f6 MF ["self"] (Ol C CS CB CG))(zR:bT K MF ["self"] []):bW P w K mg base "_law_stands" 5 ["_law_game","_law_now"] (JB C CS CB CG):=by
 calc D.dD mJ (λf bO A outer s H vs Q E I h=>?_);let⟨g,pn,ps,pd,G,zs,z,k,rfl,A0,hz,Z,O,h5,NA,q⟩:=h;let⟨dx,_,_,_,_,hg,_⟩:=A0.ex;obtain⟨b,pr,pp,hn,⟨⟨bx,br,bm,bb,hb,hbr,hbm,hbb⟩,B⟩,hpr,hpp⟩:=NA.ex;let n1:=Z.n1;let hrl:(Ts z.racks).length=z.racks.length:=aa _;calc(aj _ (aB (gU (vf bf (qI rL (cG (bQ (i:=2) mJ.nd rL (Or.inl rL)) (cG (bQ (i:=3) mJ.nd rL (Or.inl rL)) (cG (bQ (i:=4) mJ.nd rL (Or.inl rL)) (cG (bQ (i:=5) mJ.nd rL (Or.inl rL)) (cG (bQ (i:=6) mJ.nd rL (Or.inl rL)) (cG (bQ (i:=7) mJ.nd rL (Or.inl rL)) (cG (bQ (i:=8) mJ.nd rL (Or.inl rL)) o9)))))))))) (aB (aW (i:=9) mJ.nd rL (Or.inl rL) (gR aH Y.cl JC JD I.mono JF .nil eY)) (aB (cD (bV (Ei I.units) (cL (ak (bZ lZ rL) (ak (bZ lZ rL) (ak (bZ lZ rL) aq)))) (cL (ak (bZ bG rL) (ak (bZ bG rL) (ak (bZ bG rL) aq)))) (bM _)) (aG (bC eO)) bN) (aB (cD (QW.qt (jY (bV (Ei I.units) (gR aH Y.cl lV lW I.mono lX .nil eY) bL (bM _)) (jY (bV KC (gR aH Y.cl uy uz I.mono uD .nil eY) cP (bM _)) (jQ (bV (Ei I.units) (gR aH Y.cl HW HY I.mono H_ .nil eY) d9 (bM _)))))) (aG (bC eO)) bN) (aB (cD (QW.qt (jY (dW (cZ (aQ fU qf bA aE (ak (gR aH Y.cl lu lB I.mono lC .nil eY) (ak (jj (v:=.ty "bool") qf mK j3 rL) aq))))) (jQ (bV Br (gR aH Y.cl lu lB I.mono lC .nil eY) lY (bM _))))) (aG (bC eO)) bN) (aG (bC (d8 jk (gR aH Y.cl zP zQ I.mono zR .nil eY) (aL cu gb (aQ bY qf bH ax (ak bL aq))) (bM _))))))))) ?_);calc(aj (λσ H1=>H=H1/\σ=[some (.ref g),some (.ref pn),some (.ref b),some (.ref pr),some (.str (S z.bag)),some (.ref pp),some (.int G.done.length),some (.int k),some (.bl (gZ G z)),none]) (aj _ rL (aY pn _ rL (aU.of hn) rL (dM _ _ rL (dM _ _ rL (dM _ _ rL (dM _ _ rL (dM _ _ rL (dM _ _ rL (aY _ _ rL rL rL rL))))))))) ?_);rintro σ H1 ⟨eH,rfl⟩;subst eH;calc(aj _ rL (cY g dx _ rL hg rL (BL g ps pd G zs z rL A0 hz (λb2 hb2=>?_))));obtain⟨⟨cx,cr,cm,cb,hc,YQ,hcm,hcb⟩,B2⟩:=hb2;calc(aj _ rL (cT b2 C cx _ _ rL hc j.cl j.nr rL (aj _ rL (cT b2 C cx _ _ rL hc j.cl j.nm rL (aj _ rL (wH b2 C cx _ _ rL hc j.cl j.nb rL (zsz 3) (λt1 ht1=>?_)))))));let s1:=aD.upd ht1 (o:=HO.tup [V.ref cr,V.ref cm,V.ref cb]);let e1:upd H t1 (HO.tup [V.ref cr,V.ref cm,V.ref cb]) t1=some (.tup [V.ref cr,V.ref cm,V.ref cb]):=au;generalize upd H t1 (HO.tup [V.ref cr,V.ref cm,V.ref cb])=H1 at s1 e1 ⊢;let hb1:=s1 _ _ hb;calc(aj _ rL (cT b C bx _ _ rL hb1 j.cl j.nr rL (aj _ rL (cT b C bx _ _ rL hb1 j.cl j.nm rL (aj _ rL (wH b C bx _ _ rL hb1 j.cl j.nb rL (zsz 3) (λt2 Qo=>?_)))))));let s2:=aD.upd Qo (o:=HO.tup [V.ref br,V.ref bm,V.ref bb]);let e2:upd H1 t2 (HO.tup [V.ref br,V.ref bm,V.ref bb]) t2=some (.tup [V.ref br,V.ref bm,V.ref bb]):=au;generalize upd H1 t2 (HO.tup [V.ref br,V.ref bm,V.ref bb])=H2 at s2 e2 ⊢;let F:=s1.trans s2;calc(cY 3 (brD z.aF z.aO z.bi z.bj) (brD z.aF z.aO z.bi z.bj) qc (jC.brd (s2 _ _ e1) (F _ _ YQ) (F _ _ hcm) (F _ _ hcb) B2) (jC.brd e2 (F _ _ hbr) (F _ _ hbm) (F _ _ hbb) B) (aj _ rL ?_));rw[ai rfl];let A2:=A0.mv F;let J:=F _ _ hg;calc bR (aj _ rL (cY g dx _ rL J rL (BL g ps pd G zs z rL A2 hz (λq1 hq1=>?_))));let ajg:∀l∈z.racks,∀c∈l,c<128:=λl hl c hc=>Mx ((Z.r7 l hl).2 c hc);calc(aj _ rL (cY 2 (.tup (z.racks.map Dt.str)) (.tup (z.racks.map Dt.str)) qc (.tup (aU.of hq1) (dZ.tL ajg)) (.tup (aU.of (F _ _ hpr)) (dZ.tL ajg)) (aj _ rL ?_)));rw[ai rfl];calc bR (aj _ rL (cY g dx _ rL J rL (BL g ps pd G zs z rL A2 hz (aj _ rL (aK z.bag z.bag rL rL (aj _ rL ?_))))));rw[ai rfl];calc bR (aj _ rL (cY g dx _ rL J rL (BL g ps pd G zs z rL A2 hz (λq2 hq2=>?_))));calc(aj _ rL (cY 2 (.tup (z.jB.map Dt.int)) (.tup (z.jB.map Dt.int)) qc (.tup (aU.of hq2) dZ.ints) (.tup (aU.of (F _ _ hpp)) dZ.ints) (aj _ rL ?_)));rw[ai rfl];calc bR (aj _ rL (cY g dx _ rL J rL (pK g ps pd G zs z rL A2 hz Z O h5 (λH3 s3=>?_))));let fX:=F.trans s3;calc(fB _ _ _ true rL (.bl _) qh (aj true rL (bR (aj _ rL (cY g dx _ rL (fX _ _ hg) rL (pK g ps pd G zs z rL (A0.mv fX) hz Z O h5 (λH4 s4=>?_)))))));let iB:=fX.trans s4;calc(aX _ rL rL (aj _ rL ?_));rw[ai rfl];calc bR (aj _ rL (cY g dx _ rL (iB _ _ hg) rL (RQ g ps pd G zs z rL (A0.mv iB) hz Z (aj _ rL (aj _ rL (aK pr _ rL (.inr (aU.of (iB _ _ hpr))) (dw _ _ rL rL (by show (0:Int)<_;rw[hrl];lia) rL ?_)))))));let e:((G.done.length%z.racks.length:Nat):Int)=(G.done.length:Int)%((Ts z.racks).length:Int):=by rw[hrl];lia
 let fin:=q H4 iB;rw[<-ai (congrArg V.int e)]at fin;show fin
def dG (G:Gm)(zs:List Std)(ds:List cO):Gm:={G with sts:=zs,done:=ds.map cO.name}
inductive Path (G:Gm) (z0:Std):List cO->List Std->Prop
 | nil:Path G z0 [] [z0]
 | snoc {ds:List cO} {zs:List Std} {z z':Std} {d:cO} {pt:Int} (h:Path G z0 ds (zs++[z])) (ov:gZ (dG G [] ds) z=false) (dd:Does (dG G [] ds) z d pt z'):Path G z0 (ds++[d]) (zs++[z]++[z'])
def Does.sts {G:Gm}{a b:List Std}{ds:List cO}{z z':Std}{d:cO}{pt:Int}(h:Does (dG G a ds) z d pt z'):Does (dG G b ds) z d pt z':=by
 cases h with| lay h1 h2 h3 h4 h5 h6=>show Does.lay (G:=dG G b ds) h1 h2 h3 h4 h5 h6| swap h1 h2 h3 h4 h5=>show Does.swap (G:=dG G b ds) h1 h2 h3 h4 h5| pass=>show .pass
def Path.len {G:Gm}{z0:Std}{ds:List cO}{zs:List Std}(h:Path G z0 ds zs):zs.length=ds.length+1:=by
 induction h with| nil=>rfl| snoc h ov dd ih=>rw[av,ih,av];rfl
def Does.racks {G:Gm}{z z':Std}{d:cO}{pt:Int}(h:Does G z d pt z'):z'.racks.length=z.racks.length:=by
 cases h with| lay=>show eW| swap=>show eW| pass=>rfl
def Y7 {z:Std}{l m:List Nat}{i:Nat}(Z:jN z)(hl:l.length<=7)(hm:∀c∈l,oE c):∀k∈z.racks.set i l,k.length<=7/\∀c∈k,oE c:=λk j=>by
 rcases fE j with e|e;.show Z.r7 k e
 .rw[e];show⟨hl,hm⟩
def Y8 {z:Std}(Z:jN z){i:Nat}:(z.racks.getD i []).length<=7/\∀c∈z.racks.getD i [],oE c:=by
 rw[ay];cases e:z.racks[i]? with| none=>show⟨eQ _,λc h=>by cases h⟩| some l=>show Z.r7 l (bv e)
def Does.ok {G:Gm}{z z':Std}{d:cO}{pt:Int}(h:Does G z d pt z')(Z:jN z)(hs:G.size<=7):jN z':=by
 let F:=h.racks;cases h with
 | @lay ts l yg h0 h7 ri vd lf=>
  let⟨k7,J⟩:=Y8 Z (i:=jO G z);let I:=A_ lf;let j:=Ba lf;calc⟨by rw[F];show Z.n1,by rw[F];show Z.n4,Y7 (m:=[]) Z ?_ λc D=>?_,?_,λc D=>Z.bt c (eJ D),?_⟩;.rw[jK,av,jK,ap];lia
  .rcases bq.mp ((kI _).mem_iff.mp D) with y|y;.show J c (j c ((kI _).mem_iff.mp y))
   .show Z.bt c (c_ y)
  .show (z.bag.drop _).length<=60;have:=Z.b6;rw[bd];lia
  .show (z.jB.set _ _).length=(z.racks.set _ _).length;rw[eW,eW];show Z.pl
 | @swap l m ne h7 tl lf hb=>
  let⟨k7,J⟩:=Y8 Z (i:=jO G z);let I:=A_ lf;let j:=Ba lf;calc⟨by rw[F];show Z.n1,by rw[F];show Z.n4,Y7 (m:=[]) Z ?_ λc D=>?_,?_,λc D=>?_,?_⟩;.rw[jK,av,jK,ap];lia
  .rcases bq.mp ((kI _).mem_iff.mp D) with y|y;.show J c (j c ((kI _).mem_iff.mp y))
   .show Z.bt c (c_ y)
  .show (z.bag.drop _++d7 _).length<=60;have:=Z.b6;rw[av,bd,jK];lia
  .rcases bq.mp D with y|y;.show Z.bt c (eJ y)
   .show tl c ((kI _).mem_iff.mp y)
  .show z.jB.length=(z.racks.set _ _).length;rw[eW];show Z.pl
 | pass=>show Z
def Path.ok {G:Gm}{z0:Std}{ds:List cO}{zs:List Std}(h:Path G z0 ds zs)(Z:jN z0)(hs:G.size<=7):∀z∈zs,jN z:=by
 induction h with
 | nil=>intro z h;rw[a_.mp h];show Z
 | snoc h ov dd ih=>
  intro y hy;rcases bq.mp hy with e|e;.show ih y e
  .rw[a_.mp e];show dd.ok (ih _ qa) hs
def tp (ds:List cO):Nat:=ds.foldl Y5 0
def Bh (ds:List cO)(d:cO):tp (ds++[d])=Y5 (tp ds) d:=by unfold tp;rw[List.foldl_append];rfl
def aeA {α:Type}{ns:List α}{m:Nat}{x:α}:ns.drop (ns.length-m)=List.replicate m x↔List.replicate m x <:+ ns:=by
 constructor
 .intro h;rw[<-h];show List.drop_suffix _ _
 .intro h;have:=List.suffix_iff_eq_drop.mp h;rw[ce]at this;show this.symm
theorem acL:∀(n:Nat) (ds:List cO) (m:Nat),ds.length=n->(List.replicate m fu <:+ ds.map cO.name↔m<=tp ds)
 | 0,ds,m,hn=>by
  have:ds=[]:=gv.mp hn;subst this;show _ <:+ []↔m<=0;rw[List.suffix_nil];constructor;.intro h;have:=congrArg List.length h;simp at this;lia
  .intro h;rw[Nat.le_zero.mp h];rfl
 | n+1,ds,m,hn=>by
  let j:ds≠[]:=λe=>by subst e;simp at hn
  let e:=gT j;let hl:ds.dropLast.length=n:=by rw[mE,hn];rfl
  generalize ds.dropLast=es at e hl;generalize ds.getLast j=d at e;subst e;rw[bu,Bh];show _ <:+ es.map cO.name++[d.name]↔_;rw[List.suffix_concat_iff];cases m with
  | zero=>show⟨λ_=>eQ _,λ_=>.inl rL⟩
  | succ m=>
   let D:=acL n es m hl;constructor
   .rintro(h|⟨t,h1,h2⟩);.simp at h
    .rw[gt]at h1;let⟨h3,h4⟩:=List.append_inj' h1 rfl;injection h4 with h4;let hd:=QM.mp h4.symm;subst hd;rw[<-h3]at h2;show m+1<=tp es+1;show gN (D.mp h2)
   .intro h;cases d with| pass=>show .inr (aj _ gt (D.mpr (Nat.le_of_succ_le_succ h)))| lay ts=>show absurd h (Nat.not_succ_le_zero _)| swap l=>show absurd h (Nat.not_succ_le_zero _)
def acM {α:Type}(l:List α)(x:α):(l++[x]).drop ((l++[x]).length-1)=[x]:=by rw[av,mi,Nat.add_sub_cancel,List.drop_left]
def aeB {G:Gm}{z:Std}(h:1<=z.racks.length):gZ (dG G [] []) z=false:=by
 unfold gZ;rw[ag,ag];.rfl
 .intro e;show absurd e (by show ¬([]:AB)=_;simp)
 .intro e;have:=congrArg List.length e;rw[ce]at this;let j:(dG G [] []).done=[]:=rfl;rw[j]at this;simp at this;lia
def Fx {G:Gm}{z z':Std}{ds:List cO}{d:cO}{pt:Int}(h:Does (dG G [] ds) z d pt z')(h1:1<=z.racks.length):gZ (dG G [] (ds++[d])) z'=ovN z z' (tp ds) ds.length d:=by
 let I:=h.racks;let j:(dG G [] (ds++[d])).done=ds.map cO.name++[d.name]:=bu;let F:decide ((ds.map cO.name++[d.name]).drop ((ds.map cO.name++[d.name]).length-2*z'.racks.length)=List.replicate (2*z'.racks.length) fu)=decide (2*z.racks.length<=Y5 (tp ds) d):=by calc Hs (aeA.trans ?_);rw[I,<-Bh,<-acL _ (ds++[d]) _ rL,bu];rfl
 unfold gZ;rw[j,F,acM];cases d with
 | pass=>rw[ag (show ¬[cO.name .pass]=[iT] by decide),nB,Bool.or_false];cases h;rfl
 | swap l=>rw[ag (show ¬[cO.name (.swap l)]=[iT] from (show ¬[gC]=[iT] by decide)),nB,Bool.or_false];show ag (by show ¬_<=0;lia)
 | lay ts=>
  rw[ai (show [cO.name (.lay ts)]=[iT] from rL),mf,ag (show ¬2*z.racks.length<=Y5 (tp ds) (.lay ts) by show ¬_<=0;lia),Bool.false_or];show _=(decide (cJ z' ds.length=[])&&decide (z'.bag=[]))
  let D:zj (dG G [] (ds++[.lay ts])) z'=ds.length%z'.racks.length:=by unfold zj;rw[j,av,aa,mi,show ((ds.length+1:Nat):Int)-1=(ds.length:Int) by lia];lia
  rw[D,Bool.and_comm];rfl
def acN {G:Gm}{z:Std}{bs:AB}{ds:List cO}{d:cO}(h:acJ z ds.length bs d)(hb:∀x,x∈bs↔x∈G.ws):∃pt z',Does (dG G [] ds) z d pt z':=by
 let j:jO (dG G [] ds) z=ds.length%z.racks.length:=by show (ds.map cO.name).length%_=_;rw[aa]
 cases d with
 | lay ts=>let⟨l,hl⟩:=akJ h.vd;show⟨_,_,.lay (G:=dG G [] ds) h.yg h.h0 h.h7 h.ri (by rw[j];show aew hb h.vd) (l:=l) (by rw[j];show hl)⟩
 | swap l=>obtain⟨h1,h2,h3,⟨m,hm⟩,h5⟩:=h;show⟨_,_,.swap (G:=dG G [] ds) h1 h2 h3 (m:=m) (by rw[j];show hm) h5⟩
 | pass=>show⟨_,_,.pass⟩
def Kl (H H':Hp):Prop:=∀a o,H a=some o->(∀xs,o≠HO.lst xs)->H' a=some o
def Kl.of {H H':Hp}(s:aD H H'):Kl H H':=λa o h _=>s a o h
def Kl.trans {H H1 j:Hp}(s:Kl H H1)(t:Kl H1 j):Kl H j:=λa o h n=>t a o (s a o h n) n
def vC.kl {ps pd:Addr}{H H':Hp}{xs ys:List V}(s:vC ps pd H H')(h1:H ps=some (.lst xs))(h2:H pd=some (.lst ys)):Kl H H':=λa o h n=>s a o h (kO h1 h n) (kO h2 h n)
def Kl.up {H:Hp}{L:Addr}{xs ys:List V}(h:H L=some (.lst xs)):Kl H (upd H L (.lst ys)):=λa o e n=>by rw[aZ (kO h e n)];show e
def dh.kl {C:Addr}{H H':Hp}{p:Addr}{r w:Nat}{aF aO:AB}{i j:Nat}(B:dh C H p r w aF aO i j)(k:Kl H H'):dh C H' p r w aF aO i j:=by obtain⟨⟨dx,pr,pm,pb,a,b,c,d⟩,o⟩:=B;show⟨(fB dx pr pm pb (k _ _ a (λ_ z=>nomatch z)) (k _ _ b (λ_ z=>nomatch z)) (k _ _ c (λ_ z=>nomatch z)) (k _ _ d (λ_ z=>nomatch z))),o⟩
def iJ.kl {C:Addr}{H H':Hp}{p d:Addr}{ws:AB}(B:iJ C H p d ws)(k:Kl H H'):iJ C H' p d ws:=⟨let ⟨dx,e⟩:=B.ob;⟨dx,k _ _ e (λ_ z=>nomatch z)⟩,k _ _ B.dc (λ_ z=>nomatch z),B.nd,B.az⟩
def nP.kl {C:Addr}{H H':Hp}{p:Addr}{z:Std}{dn ps:Nat}{ov:Bool}(A:nP C H p z dn ps ov)(k:Kl H H'):nP C H' p z dn ps ov:=by let⟨b,pr,pp,h1,h2,h3,h4⟩:=A.ex;show⟨b,pr,pp,k _ _ h1 (λ_ z=>nomatch z),h2.kl k,k _ _ h3 (λ_ z=>nomatch z),k _ _ h4 (λ_ z=>nomatch z)⟩
theorem vB.kl {H H':Hp}{p:Addr}(k:Kl H H'):∀{d:cO},vB H p d->vB H' p d
 | .lay _,⟨t,as,h1,h2,h3⟩=>(aK t as (k _ _ h1 (λ_ z=>nomatch z)) (k _ _ h2 (λ_ z=>nomatch z)) (h3.Lw λa xs e=>k _ _ e (λ_ z=>nomatch z)))
 | .swap _,h=>k _ _ h (λ_ z=>nomatch z)
 | .pass,h=>k _ _ h (λ_ z=>nomatch z)
def zm.kl {C:Addr}{H H':Hp}{p pw:Addr}{Z:QF}(A:zm C H p pw Z)(k:Kl H H')(h:H' pw=some (.lst (Ts Z.ws))):zm C H' p pw Z:=by let⟨b,d,pb,pr,h1,h2,h3,h4,h5⟩:=A.ex;show⟨(bw b d pb pr (k _ _ h1 (λ_ z=>nomatch z)) (h2.kl k) (k _ _ h3 (λ_ z=>nomatch z)) (k _ _ h4 (λ_ z=>nomatch z)) (k _ _ h5 (λ_ z=>nomatch z))),h⟩
def ig.kl {C CS:Addr}{H H':Hp}{p:Addr}{z:Std}(A:ig C CS H p z)(k:Kl H H'):ig C CS H' p z:=by let⟨dx,b,pr,pp,h1,h2,h3,h4⟩:=A.ex;show⟨dx,b,pr,pp,k _ _ h1 (λ_ z=>nomatch z),h2.kl k,k _ _ h3 (λ_ z=>nomatch z),k _ _ h4 (λ_ z=>nomatch z)⟩
def eV.kl {C CS CB CG:Addr}{H H':Hp}{g ps pd:Addr}{G:Gm}(A:eV C CS CB CG H g ps pd G)(k:Kl H H')(h1:H' ps=H ps)(h2:H' pd=H pd):eV C CS CB CG H' g ps pd G:=by obtain⟨⟨dx,j,kd,d,pb,a1,a2,a3,a4⟩,⟨as,a5,a6⟩,a7⟩:=A;show⟨(K9 dx j kd d pb (k _ _ a1 (λ_ z=>nomatch z)) (a2.kl k) (k _ _ a3 (λ_ z=>nomatch z)) (k _ _ a4 (λ_ z=>nomatch z))),(aj as (h1.trans a5) ⟨a6.len,λi a z e1 e2=>(a6.at_ i a z e1 e2).kl k⟩),h2.trans a7⟩
def Y9 {G:Gm}{zs:List Std}{ds:List cO}{z:Std}{d:cO}:{dG G zs ds with sts:=(dG G zs ds).sts++[z],done:=(dG G zs ds).done++[d.name]}=dG G (zs++[z]) (ds++[d]):=by unfold dG;simp
structure MJ (G:Gm):Prop where
 wd:WD G.kvs
 wb:WB 1000000 G.kvs
 sz:G.size<=7
def Bj {ds:List cO}:∀l∈ds.map cO.name,∀c∈l,c<128:=λl hl c j=>by let⟨d,_,rfl⟩:=be.mp hl;show aei d c j
def MJ.ok {G:Gm}(F:MJ G){zs:List Std}{ds:List cO}(h1:ds.length<=100)(h2:zs.length<=101):ai7 (dG G zs ds):=⟨Bj,by show (ds.map cO.name).length<=400;rw[aa];lia,by show zs.length<=500;lia,F.wd,F.wb,F.sz⟩
def Ci (H:Hp)(p:Addr):Prop:=(∃v,H p=some (.tup [.str (S iT),v]))\/(∃l,H p=some (.tup [.str (S gC),.str (S l)])/\l≠[]/\l.length<=63/\∀c∈l,oE c)\/H p=some (.tup [.str (S fu)])
def Ci.mv {H H':Hp}{p:Addr}(h:Ci H p)(s:aD H H'):Ci H' p:=by
 rcases h with⟨v,h⟩|⟨l,h,r⟩|h;.show .inl ⟨v,s _ _ h⟩
 .show .inr (.inl (aj l (s _ _ h) r))
 .show .inr (.inr (s _ _ h))
def Y_:Sp:=λvs H Q _=>∃p:Addr,vs=[.ref p]/\Ci H p/\∀H',aD H H'->Q (.bl true) H'
open Classical in
def Xj (D:aN K mg "is_deed" vo ["thing"])(O:mg "isinstance"=none)(J:mg "tuple"=none)(Y:mg "len"=none)(I:bW P w K mg base "are_tiles" 1 ["thing"] Oh):bW P w K mg base "is_deed" 2 ["thing"] Y_:=by
 calc D.dD Ld (λf bO A outer s H vs Q E G h=>?_);let⟨p,rfl,hd,q⟩:=h;calc(aj _ (aB (cD (dW (cZ (aQ fU qf O aE (ak aH (ak (jj (v:=.ty "tuple") qf J c9 rL) aq))))) (aG (bC eO)) bN) (aB (cD (bV jk (aQ bY qf Y ax (ak aH aq)) aA (bM _)) (aG (bC (KD (d8 jq (bh bD aH aA (λ_ _=>rfl)) (bI [108,97,121] qi) (bM _)) (ji (jA (d8 jq (bh bD aH aA (λ_ _=>rfl)) (bI [115,119,97,112] qi) (bM _)) (ji (bK I G.mono rL (ak (bh bD aH aA (λ_ _=>rfl)) aq)))))))) bN) (aG (bC (d8 (vh G.units) aH (cL (ak (bI [112,97,115,115] qi) aq)) (bM _)))))) ?_);rcases hd with⟨v,h1⟩|⟨l,h1,g1,g2,g3⟩|h1
 .calc(aj _ rL (fB _ _ _ true rL (.tup h1) qh (aj true rL (bR ?_))));calc(aj _ rL (aY p _ rL (.inr (aU.of h1)) rL (aj true qa (cA ?_))));calc(aj _ rL (bw p _ _ (.str (S iT)) rL rL (aU.of h1) (aP (j:=0) rL) (aK iT iT rL rL (aj true (by rw[ai rfl]) (cA ?_)))));show q H (aD.refl _)
 .calc(aj _ rL (fB _ _ _ true rL (.tup h1) qh (aj true rL (bR ?_))));calc(aj _ rL (aY p _ rL (.inr (aU.of h1)) rL (aj true qa (cA ?_))));calc(aj _ rL (bw p _ _ (.str (S gC)) rL rL (aU.of h1) (aP (j:=0) rL) (aK gC iT rL rL (aj false (by rw[ag qc]) (bR ?_)))));calc(aj _ rL (bw p _ _ (.str (S gC)) rL rL (aU.of h1) (aP (j:=0) rL) (aK gC gC rL rL (aj true (by rw[ai rfl]) (cA ?_)))));show(aj _ rL (bw p _ _ (.str (S l)) rL rL (aU.of h1) (aP (j:=1) rL) (pI l rL g1 g2 g3 q)))
 .calc(aj _ rL (fB _ _ _ true rL (.tup h1) qh (aj true rL (bR ?_))));calc(aj _ rL (aY p _ rL (.inr (aU.of h1)) rL (aj false qa (bR ?_))));calc(aX _ rL (zsz 1) (λZ hZ=>?_));let F:aD H (upd H Z (HO.tup [.str (S fu)])):=aD.upd hZ;calc(cY 1 (.tup [.str fu]) (.tup [.str fu]) qc (.tup (aU.of (F _ _ h1)) (.cons (.str _ qc) .nil)) (.tup (aU.of au) (.cons (.str _ qc) .nil)) ?_);rw[ai rfl];show q _ F
def Vw (C CS CB CG CO:Addr):Sp:=λvs H _ E=>∃(g p ps pd:Addr) (G:Gm) (zs:List Std) (z:Std),vs=[.ref g,.ref p]/\eV C CS CB CG H g ps pd G/\G.sts=zs++[z]/\jN z/\(∀l∈G.done,∀c∈l,c<128)/\G.done.length<=500/\gZ G z=true/\Ci H p/\∀H',aD H H'->E (.ref CO) none H'
def aaL {C CS CB CG CO f f1:Addr}{fd dH:FuncData}(F:fG K "do" "Game.do" n_ f fd)(cU:mL K CG)(Y:mg "Over"=some (.ref CO))(j:W.excIn K CO jl "ValueError.__new__"=true)(lu:Meth K CG "is_over" f1)(lB:cj P w K mg base dN 4 f1 dH ["self"] (Mt C CS CB CG))(lC:bT K dH ["self"] [])(O:bW P w K mg base "is_deed" 2 ["thing"] Y_):cj P w K mg base (qw P w) 6 f fd ["self","deed"] (Vw C CS CB CG CO):=by
 refine F.xO mH (λvs H Q E h=>?_) (λbO A outer s H vs Q E J h=>?_)
 .let⟨g,p,ps,pd,G,zs,z,rfl,_⟩:=h;rfl
 .let⟨g,p,ps,pd,G,zs,z,rfl,I,hz,Z,low,h5,D,hd,q⟩:=h;let⟨dx,_,_,_,_,hg,_⟩:=I.ex;calc(aj _ (aB (cD (dW (cZ (bK O J.mono rL (ak bf aq)))) mC bN) (aB (cD (cZ (gR aH cU.cl lu lB J.mono lC .nil eY)) (aG (xP o_ rL rL qf Y j (ak (bI [116,104,101,32,103,97,109,101,32,105,115,32,111,118,101,114] qi) aq))) bN) mC)) ?_);calc(aj _ rL (aX p rL hd (λH1 s1=>(aj true rL (bR ?_)))));calc(aj _ rL (cY g dx _ rL (s1 _ _ hg) rL (pK g ps pd G zs z rL (I.mv s1) hz Z low h5 (λH2 s2=>(aj _ rL ?_)))));rw[D];show cA ⟨zsz 1,q H2 (s1.trans s2)⟩
def Vx (C CS CB CG CN:Addr):Sp:=λvs H _ E=>∃(g ps pd:Addr) (G:Gm),vs=[.ref g]/\eV C CS CB CG H g ps pd G/\G.done=[]/\∀H',aD H H'->E (.ref CN) none H'
open Classical in
def aaM {C CS CB CG CN f:Addr}{fd:FuncData}(F:fG K "back" "Game.back" kZ f fd)(T:mL K CG)(vG:mg "NoBack"=some (.ref CN))(D:W.excIn K CN jl "ValueError.__new__"=true):cj P w K mg base (qw P w) 1 f fd ["self"] (Vx C CS CB CG CN):=by
 refine F.xO Ew (λvs H Q E h=>?_) (λbO A outer s H vs Q E O h=>?_)
 .let⟨g,ps,pd,G,rfl,_⟩:=h;rfl
 .let⟨g,ps,pd,G,rfl,J,hd,q⟩:=h;let⟨dx,k,kd,dd,pb,h1,h2,h3,h4⟩:=J.ex;let h7:=J.dn;rw[hd]at h7;calc(aj _ (aB (cD (bV (vh O.units) (bZ aH rL) (fW aq) (bM _)) (aG (xP o_ rL rL qf vG D (ak (bI [110,111,116,104,105,110,103,32,119,97,115,32,100,111,110,101] qi) aq))) bN) mC) ?_);calc(aj _ rL (wH g CG dx _ _ rL h1 T.cl T.nd rL (zsz 0) (λZ Y=>?_)));let j:aD H (upd H Z (HO.lst [])):=aD.upd Y;let I:upd H Z (HO.lst []) Z=some (.lst []):=au;generalize upd H Z (HO.lst [])=H1 at j I ⊢;calc(cY 2 (.lst []) (.lst []) qc (.lst (bJ.of (j _ _ h7)) .nil) (.lst (bJ.of I) .nil) (aj _ rL ?_));rw[ai rfl];show cA ⟨zsz 1,q H1 j⟩
structure Ov (K:W.Frag)(CO CR CN CD CL CK CT:Addr):Prop where
 is:yG K CO
 rk:W.exmOne K (.ref CO) (.ref CR)=some true
 own:W.kitOne K (.ref CO) (.ref CO)=some true
 val:W.kitOne K (.ref CO) (.type "ValueError")=some true
 nb:W.kitOne K (.ref CO) (.ref CN)=some false
 nd:W.kitOne K (.ref CO) (.ref CD)=some false
 nl:W.kitOne K (.ref CO) (.ref CL)=some false
 lk:W.kitOne K (.ref CO) (.ref CK)=some false
 tf:W.kitOne K (.ref CO) (.ref CT)=some false
structure Nb (K:W.Frag)(CN CR CO CD:Addr):Prop where
 is:yG K CN
 rk:W.exmOne K (.ref CN) (.ref CR)=some true
 own:W.kitOne K (.ref CN) (.ref CN)=some true
 val:W.kitOne K (.ref CN) (.type "ValueError")=some true
 ov:W.kitOne K (.ref CN) (.ref CO)=some false
 nd:W.kitOne K (.ref CN) (.ref CD)=some false
def Za (C CS CB CG:Addr):Sp:=λvs H Q _=>∃(g p ps pd:Addr) (G:Gm) (zs:List Std) (z:Std),vs=[.ref g,.ref p]/\eV C CS CB CG H g ps pd G/\G.sts=zs++[z]/\jN z/\(∀l∈G.done,∀c∈l,c<128)/\G.done.length<=500/\gZ G z=true/\Ci H p/\∀H',aD H H'->Q (.bl true) H'
def acO {C CS CB CG CO CR CN CD CL CK CT f1:Addr}{dH:FuncData}(D:aN K mg "_law_over" Lq ["_law_game","_law_deed_here"])(F:mg "isinstance"=none)(jW:mg "ValueError"=none)(cU:mL K CG)(gq:mg "RackError"=some (.ref CR))(Bk:mg "Over"=some (.ref CO))(vG:mg "NoBack"=some (.ref CN))(Fy:mg "NoDeed"=some (.ref CD))(zM:mg "NoLaying"=some (.ref CL))(Ce:mg "Lacking"=some (.ref CK))(acP:mg "TooFew"=some (.ref CT))(R:Ov K CO CR CN CD CL CK CT)(vH:Meth K CG "do" f1)(vI:cj P w K mg base (qw P w) 6 f1 dH ["self","deed"] (Vw C CS CB CG CO))(vJ:bT K dH ["self","deed"] []):bW P w K mg base "_law_over" 8 ["_law_game","_law_deed_here"] (Za C CS CB CG):=by calc D.dD Am (λf bO A outer s H vs Q E hr h=>?_);let⟨g,p,ps,pd,G,zs,z,rfl,A0,hz,Z,low,h5,hov,hd,q⟩:=h;let⟨dx,_,_,_,_,hg,_⟩:=A0.ex;calc(aj _ (aB (aW (i:=2) Am.nd rL (Or.inl rL) (fW aq)) (aB (abH rL rL qf gq Am.nd (i:=3) rL qf (λpn xe E0 σ0 hp hx=>(aG (dF (adW aH cU.cl vH vI hr.mono vJ hx (ak bf aq))))) (λ_=>(aB (aW (i:=2) Am.nd rL (Or.inl rL) (fW (ak (aQ (gO K) qf F aE (ak bL (ak (lq (v:=.ref _) qf Bk rL) aq))) (ak (aQ (gO K) qf F aE (ak bL (ak (jj (v:=.ty "ValueError") qf jW yH rL) aq))) (ak (aQ (gO K) qf F aE (ak bL (ak (lq (v:=.ref _) qf vG rL) aq))) (ak (aQ (gO K) qf F aE (ak bL (ak (lq (v:=.ref _) qf Fy rL) aq))) aq)))))) (aG (aW (i:=2) Am.nd rL (Or.inl rL) (aL SQ bG (fW (ak (aQ (gO K) qf F aE (ak bL (ak (lq (v:=.ref _) qf zM rL) aq))) (ak (aQ (gO K) qf F aE (ak bL (ak (lq (v:=.ref _) qf Ce rL) aq))) (ak (aQ (gO K) qf F aE (ak bL (ak (lq (v:=.ref _) qf acP rL) aq))) aq)))))))))) (aG (bC (d8 (abL hr.Sw) bG (fW (ak eO (ak eO (ak eO (ak eO (ak eO (ak eO (ak eO aq)))))))) (bM _)))))) ?_);calc⟨zsz 0,λL0 h0=>?_⟩;let O:aD H (upd H L0 (HO.lst [])):=aD.upd h0;generalize upd H L0 (HO.lst [])=H0 at O ⊢;calc(aj (λcls dd H'=>cls=.ref CO/\dd=none/\aD H0 H') ⟨rL,aj _ rL (cY g dx _ rL (O _ _ hg) rL (aj _ rL ⟨g,p,ps,pd,G,zs,z,rL,A0.mv O,hz,Z,low,h5,hov,hd.mv O,λH' s'=>(cF rL rL s')⟩))⟩ ?_);intro a cls dd H' z na;let⟨rfl,rfl,s3⟩:=z;calc⟨R.rk,?_⟩;let s4:aD H' (upd H' a (HO.ext (rW a (.ref CO) none))):=aD.upd na;let ha:upd H' a (HO.ext (rW a (.ref CO) none)) a=some (.ext (rW a (.ref CO) none)):=au;let sH:=(O.trans s3).trans s4;generalize upd H' a (HO.ext (rW a (.ref CO) none))=H4 at s4 ha sH ⊢;calc(aj _ rL (pK a CO (.ref CO) (.ref CO) none true rL (.inl (aj CO rL rL)) ha True.intro R.is R.own (aj _ rL (pK a CO (.ty "ValueError") (.type "ValueError") none true rL (.inr (aj _ rL rL)) ha True.intro R.is R.val (aj _ rL (pK a CO (.ref CN) (.ref CN) none false rL (.inl (aj CN rL rL)) ha True.intro R.is R.nb (aj _ rL ⟨a,CO,.ref CD,.ref CD,none,false,rL,.inl (aj CD rL rL),ha,True.intro,R.is,R.nd,zsz 4,λI hL1=>?_⟩)))))));let k5:aD H4 (upd H4 I (HO.lst [.bl true,.bl true,.bl false,.bl false])):=aD.upd hL1;let e1:upd H4 I (HO.lst [.bl true,.bl true,.bl false,.bl false]) I=some (.lst [.bl true,.bl true,.bl false,.bl false]):=au;let j:=k5 _ _ ha;generalize upd H4 I (HO.lst [.bl true,.bl true,.bl false,.bl false])=H5 at k5 e1 j ⊢;calc(aj _ rL (aj _ rL (pK a CO (.ref CL) (.ref CL) none false rL (.inl (aj CL rL rL)) j True.intro R.is R.nl (aj _ rL (pK a CO (.ref CK) (.ref CK) none false rL (.inl (aj CK rL rL)) j True.intro R.is R.lk (aj _ rL ⟨a,CO,.ref CT,.ref CT,none,false,rL,.inl (aj CT rL rL),j,True.intro,R.is,R.tf,zsz 3,λJ hM1=>?_⟩))))));let j1:aD H5 (upd H5 J (HO.lst [V.bl false,V.bl false,V.bl false])):=aD.upd hM1;let f1:upd H5 J (HO.lst [V.bl false,V.bl false,V.bl false]) J=some (.lst [V.bl false,V.bl false,V.bl false]):=au;generalize upd H5 J (HO.lst [V.bl false,V.bl false,V.bl false])=H6 at j1 f1 ⊢;calc(gW I J _ _ rL rL (j1 _ _ e1) f1 (by show 4+3<=sizeLine;decide) (λY tV=>?_));let i1:=aD.upd (o:=HO.lst ([V.bl true,V.bl true,V.bl false,V.bl false]++[V.bl false,V.bl false,V.bl false])) tV;let e3:upd H6 Y (HO.lst ([V.bl true,V.bl true,V.bl false,V.bl false]++[V.bl false,V.bl false,V.bl false])) Y=some (.lst ([true,true,false,false,false,false,false].map V.bl)):=au;generalize upd H6 Y (HO.lst ([V.bl true,V.bl true,V.bl false,V.bl false]++[V.bl false,V.bl false,V.bl false]))=H7 at i1 e3 ⊢;calc(aX _ rL (zsz 7) (λN1 hN1=>?_));let i2:=aD.upd (o:=HO.lst ([true,true,false,false,false,false,false].map V.bl)) hN1;show(eG Y N1 [true,true,false,false,false,false,false] rL rL (bJ.of (i2 _ _ e3)) (bJ.of au) (q _ ((((sH.trans k5).trans j1).trans i1).trans i2)))
def QV (C CS CB CG:Addr):Sp:=λvs H Q _=>∃(g ps pd:Addr) (G:Gm),vs=[.ref g]/\eV C CS CB CG H g ps pd G/\G.done=[]/\∀H',aD H H'->Q (.bl true) H'
def Vy {C CS CB CG CO CR CN CD f1:Addr}{dH:FuncData}(D:aN K mg "_law_no_back" yR ["_law_game"])(F:mg "isinstance"=none)(jW:mg "ValueError"=none)(cU:mL K CG)(gq:mg "RackError"=some (.ref CR))(Bk:mg "Over"=some (.ref CO))(vG:mg "NoBack"=some (.ref CN))(Fy:mg "NoDeed"=some (.ref CD))(R:Nb K CN CR CO CD)(zU:Meth K CG "back" f1)(zV:cj P w K mg base (qw P w) 1 f1 dH ["self"] (Vx C CS CB CG CN))(zW:bT K dH ["self"] []):bW P w K mg base "_law_no_back" 3 ["_law_game"] (QV C CS CB CG):=by calc D.dD wR (λf bO A outer s H vs Q E hr h=>?_);let⟨g,ps,pd,G,rfl,Z,hd,q⟩:=h;let⟨dx,_,_,_,_,hg,_⟩:=Z.ex;calc(aj _ (aB (aW (i:=1) wR.nd rL (Or.inl rL) (fW aq)) (aB (abH rL rL qf gq wR.nd (i:=2) rL qf (λpn xe E0 σ0 hp hx=>(aG (dF (abV aH cU.cl zU zV hr.mono zW hx)))) (λ_=>(aG (aW (i:=1) wR.nd rL (Or.inl rL) (fW (ak (aQ (gO K) qf F aE (ak bG (ak (lq (v:=.ref _) qf vG rL) aq))) (ak (aQ (gO K) qf F aE (ak bG (ak (jj (v:=.ty "ValueError") qf jW yH rL) aq))) (ak (aQ (gO K) qf F aE (ak bG (ak (lq (v:=.ref _) qf Bk rL) aq))) (ak (aQ (gO K) qf F aE (ak bG (ak (lq (v:=.ref _) qf Fy rL) aq))) aq))))))))) (aG (bC (d8 (abL hr.Sw) bf (fW (ak eO (ak eO (ak eO (ak eO aq))))) (bM _)))))) ?_);calc⟨zsz 0,λL0 h0=>?_⟩;let j:aD H (upd H L0 (HO.lst [])):=aD.upd h0;generalize upd H L0 (HO.lst [])=H0 at j ⊢;calc(aj (λcls dd H'=>cls=.ref CN/\dd=none/\aD H0 H') ⟨rL,aj _ rL (cY g dx _ rL (j _ _ hg) rL (fB g ps pd G rL (Z.mv j) hd (λH' s'=>(cF rL rL s'))))⟩ ?_);intro a cls dd H' z na;let⟨rfl,rfl,s3⟩:=z;calc⟨R.rk,?_⟩;let Y:aD H' (upd H' a (HO.ext (rW a (.ref CN) none))):=aD.upd na;let ha:upd H' a (HO.ext (rW a (.ref CN) none)) a=some (.ext (rW a (.ref CN) none)):=au;let sH:=(j.trans s3).trans Y;generalize upd H' a (HO.ext (rW a (.ref CN) none))=H4 at Y ha sH ⊢;calc(aj _ rL (pK a CN (.ref CN) (.ref CN) none true rL (.inl (aj CN rL rL)) ha True.intro R.is R.own (aj _ rL (pK a CN (.ty "ValueError") (.type "ValueError") none true rL (.inr (aj _ rL rL)) ha True.intro R.is R.val (aj _ rL (pK a CN (.ref CO) (.ref CO) none false rL (.inl (aj CO rL rL)) ha True.intro R.is R.ov (aj _ rL ⟨a,CN,.ref CD,.ref CD,none,false,rL,.inl (aj CD rL rL),ha,True.intro,R.is,R.nd,zsz 4,λI J=>?_⟩)))))));let k5:aD H4 (upd H4 I (HO.lst ([true,true,false,false].map V.bl))):=aD.upd J;let e1:upd H4 I (HO.lst ([true,true,false,false].map V.bl)) I=some (.lst ([true,true,false,false].map V.bl)):=au;calc(aX _ rL (zsz 4) (λN1 O=>?_));let i2:=aD.upd (o:=HO.lst ([true,true,false,false].map V.bl)) O;show(eG I N1 [true,true,false,false] rL rL (bJ.of (i2 _ _ e1)) (bJ.of au) (q _ ((sH.trans k5).trans i2)))
def Ot (C CS CB CG:Addr):Sp:=λvs H Q _=>∃(g pn ps pd:Addr) (G:Gm) (zs:List Std) (z:Std) (k:Nat),vs=[.ref g,.ref pn]/\eV C CS CB CG H g ps pd G/\G.sts=zs++[z]/\jN z/\(∀l∈G.done,∀c∈l,c<128)/\G.done.length<=500/\gZ G z=true/\nP C H pn z G.done.length k (gZ G z)/\∀H',aD H H'->Q (.bl true) H'
def aeD {C CS CB CG:Addr}(D:aN K mg "_law_ended" Ho ["_law_game","_law_now"])(bH:mg "len"=none)(aji:bW P w K mg base "_law_over" 8 ["_law_game","_law_deed_here"] (Za C CS CB CG))(Cj:bW P w K mg base "_law_stands" 5 ["_law_game","_law_now"] (JB C CS CB CG)):bW P w K mg base "_law_ended" 9 ["_law_game","_law_now"] (Ot C CS CB CG):=by
 calc D.dD Jj (λf bO A outer s H vs Q E hr h=>?_);let⟨g,pn,ps,pd,G,zs,z,k,rfl,A0,hz,Z,low,Vs,hov,NA,q⟩:=h;let⟨b,pr,pp,hn,hB,hpr,hpp⟩:=NA.ex;let n1:=Z.n1;let hrl:(Ts z.racks).length=z.racks.length:=aa _;let Y:G.done.length%z.racks.length<z.racks.length:=Nat.mod_lt _ n1;let QK:=Jz Y;let⟨k7,kt⟩:=Z.r7 _ (aS Y);rw[<-QK]at k7 kt;let emod:(G.done.length:Int)%((Ts z.racks).length:Int)=((G.done.length%z.racks.length:Nat):Int):=by rw[hrl];lia
 let eat:rO (Ts z.racks) ((G.done.length:Int)%((Ts z.racks).length:Int))=some (.str (S (cJ z G.done.length))):=by rw[emod,QK];show aP (nJ (ac Y))
 let ta:oE 97:=.inl ⟨qc,qc⟩;calc(aj _ (aB (aW (i:=2) Jj.nd rL (Or.inl rL) (bh bD (bh bD bf aA (λ_ _=>rfl)) (aL cu (bh bD bf aA (λ_ _=>rfl)) (aQ bY qf bH ax (ak (bh bD bf aA (λ_ _=>rfl)) aq))) (λ_ _=>rfl))) (aB (gG cE rL (nW (fW (ak (cL (ak (bI [112,97,115,115] qi) aq)) (ak (cL (ak (bI [115,119,97,112] qi) (ak (bI [97] qi) aq))) (ak (cL (ak (bI [115,119,97,112] qi) (ak (aL mq bG (bI [97] qi)) aq))) (ak (cL (ak (bI [108,97,121] qi) (ak (cL (ak (cL (ak aA (ak aA (ak (bI [97] qi) aq)))) aq)) aq))) (ak (cL (ak (bI [108,97,121] qi) (ak abw aq))) aq))))))) (bQ (i:=3) Jj.nd rL (Or.inl rL)) (aG (cD (QW.qt (jY (dW (cZ (bK aji hr.mono rL (ak aH (ak bL aq))))) (jQ (dW (cZ (bK Cj hr.mono rL (ak aH (ak bf aq)))))))) (aG (bC eO)) bN))) (aG (bC eO)))) ?_);calc(aj _ rL (bw pn _ _ (.ref pr) rL rL (aU.of hn) (aP (j:=1) rL) (aj _ rL (bw pn _ _ (.int G.done.length) rL rL (aU.of hn) (aP (j:=4) rL) (aj _ rL (bw pn _ _ (.ref pr) rL rL (aU.of hn) (aP (j:=1) rL) (aK pr _ rL (.inr (aU.of hpr)) (aY _ _ rL rL (by show (0:Int)<_;rw[hrl];lia) (bw pr _ _ (.str (S (cJ z G.done.length))) rL rL (aU.of hpr) eat ?_)))))))));calc⟨zsz 1,λp1 h1=>?_⟩;let ajj:=aD.upd h1 (o:=HO.tup [V.str (S [112,97,115,115])]);let ajk:upd H p1 (HO.tup [V.str (S [112,97,115,115])]) p1=some (.tup [V.str (S [112,97,115,115])]):=au;generalize upd H p1 (HO.tup [V.str (S [112,97,115,115])])=H1 at ajj ajk ⊢;calc⟨zsz 2,λp2 h2=>?_⟩;let ajl:=aD.upd h2 (o:=HO.tup [V.str (S [115,119,97,112]),V.str (S [97])]);let ajm:upd H1 p2 (HO.tup [V.str (S [115,119,97,112]),V.str (S [97])]) p2=some (.tup [V.str (S [115,119,97,112]),V.str (S [97])]):=au;generalize upd H1 p2 (HO.tup [V.str (S [115,119,97,112]),V.str (S [97])])=F at ajl ajm ⊢;calc(aj _ rL (dw (cJ z G.done.length) [97] rL rL (am (aM (by show (cJ z G.done.length).length+1<=1000;lia))) (zsz 2) (λp3 h3=>?_)));let ajn:=aD.upd h3 (o:=HO.tup [V.str (S [115,119,97,112]),V.str (S (cJ z G.done.length++[97]))]);let ajo:upd F p3 (HO.tup [V.str (S [115,119,97,112]),V.str (S (cJ z G.done.length++[97]))]) p3=some (.tup [V.str (S [115,119,97,112]),V.str (S (cJ z G.done.length++[97]))]):=au;generalize upd F p3 (HO.tup [V.str (S [115,119,97,112]),V.str (S (cJ z G.done.length++[97]))])=H3 at ajn ajo ⊢;calc⟨zsz 3,λJ g1=>?_⟩;let ajp:=aD.upd g1 (o:=HO.tup [V.int 0,V.int 0,V.str (S [97])]);let alG:upd H3 J (HO.tup [V.int 0,V.int 0,V.str (S [97])]) J=some (.tup [V.int 0,V.int 0,V.str (S [97])]):=au;generalize upd H3 J (HO.tup [V.int 0,V.int 0,V.str (S [97])])=H4 at ajp alG ⊢;calc⟨zsz 1,λt2 g2=>?_⟩;let ajq:=aD.upd g2 (o:=HO.tup [V.ref J]);let alH:upd H4 t2 (HO.tup [V.ref J]) t2=some (.tup [V.ref J]):=au;generalize upd H4 t2 (HO.tup [V.ref J])=H5 at ajq alH ⊢;calc⟨zsz 2,λp4 h4=>?_⟩;let ajr:=aD.upd h4 (o:=HO.tup [V.str (S [108,97,121]),V.ref t2]);let ajs:upd H5 p4 (HO.tup [V.str (S [108,97,121]),V.ref t2]) p4=some (.tup [V.str (S [108,97,121]),V.ref t2]):=au;generalize upd H5 p4 (HO.tup [V.str (S [108,97,121]),V.ref t2])=H6 at ajr ajs ⊢;calc⟨zsz 2,λp5 h5=>?_⟩;let ajt:=aD.upd h5 (o:=HO.tup [V.str (S [108,97,121]),V.non]);let aju:upd H6 p5 (HO.tup [V.str (S [108,97,121]),V.non]) p5=some (.tup [V.str (S [108,97,121]),V.non]):=au;generalize upd H6 p5 (HO.tup [V.str (S [108,97,121]),V.non])=H7 at ajt aju ⊢;calc⟨zsz 5,λL hL=>?_⟩;let s_L:=aD.upd hL (o:=HO.lst [V.ref p1,V.ref p2,V.ref p3,V.ref p4,V.ref p5]);let O:upd H7 L (HO.lst [V.ref p1,V.ref p2,V.ref p3,V.ref p4,V.ref p5]) L=some (.lst [V.ref p1,V.ref p2,V.ref p3,V.ref p4,V.ref p5]):=au;generalize upd H7 L (HO.lst [V.ref p1,V.ref p2,V.ref p3,V.ref p4,V.ref p5])=HX at s_L O ⊢;let s5L:=s_L;let s4L:=ajt.trans s5L;let s3L:=((ajp.trans ajq).trans ajr).trans s4L;let s2L:=ajn.trans s3L;let s1L:=ajl.trans s2L;let s0L:=ajj.trans s1L;let d1:=s1L _ _ ajk;let d2:=s2L _ _ ajm;let d3:=s3L _ _ ajo;let d4:=s4L _ _ ajs;let d5:=s5L _ _ aju;calc(aX L rL ⟨_,bJ.of O⟩ ?_);let get:∀{i:Nat} {x:V},([p1,p2,p3,p4,p5].map V.ref)[i]?=some x->∃p,x=.ref p/\Ci HX p:=λ{i x} h=>by
  match i,h with
  | 0,h=>cases h;show(aj p1 rL (.inr (.inr d1)))
  | 1,h=>cases h;show(aj p2 rL (.inr (.inl (iu [97] d2 qa (by show 1<=63;decide) (λc hc=>by rw[a_.mp hc];show ta)))))
  | 2,h=>
   cases h;calc(aj p3 rL (.inr (.inl (iu (cJ z G.done.length++[97]) d3 qa (by rw[av];show _+1<=63;lia) (λc hc=>?_)))));rcases bq.mp hc with y|y;.show kt c y
   .rw[a_.mp y];show ta
  | 3,h=>cases h;show(aj p4 rL (.inl ⟨_,d4⟩))
  | 4,h=>cases h;show(aj p5 rL (.inl ⟨_,d5⟩))
  | i+5,h=>simp at h
 refine mU (K:=K) (a:=L) (xs:=[p1,p2,p3,p4,p5].map V.ref) (λi σ F=>∃v3:Option V,σ=[some (.ref g),some (.ref pn),some (.str (S (cJ z G.done.length))),v3]/\aD HX F) (aj none rL (aD.refl _)) (λi σ F _ h=>?_) ?_ ?_
 .let⟨_,_,I⟩:=h;show bJ.of (I _ _ O)
 .intro i x σ F hx z;let⟨v3,rfl,I⟩:=z;let⟨p,rfl,hd⟩:=get hx;let fj:=s0L.trans I;refine(aj _ rL (aj _ rL ⟨g,p,ps,pd,G,zs,z,rL,A0.mv fj,hz,Z,low,Vs,hov,hd.mv I,λH3 s3=>(aj _ rL (bR (aj _ rL (aj _ rL ⟨g,pn,ps,pd,G,zs,z,k,rL,(A0.mv fj).mv s3,hz,Z,low,Vs,NA.kl (Kl.of (fj.trans s3)),λH4 s4=>(aj _ rL (bR (aj _ rL ((I.trans s3).trans s4))))⟩))))⟩))
 .intro σ F z;let⟨v3,rfl,I⟩:=z;show q F (s0L.trans I)
def agS {α β:Type}{l:List α}{m:List β}{x:β}(h:l.length=(m++[x]).length):∃k y,l=k++[y]/\k.length=m.length:=by
 let hl:l.length=m.length+1:=by rw[h];simp
 let j:l≠[]:=λe=>by subst e;simp at hl
 show(dM l.dropLast (l.getLast j) ((gT j).symm) (by rw[mE,hl];rfl))
abbrev rp (j:Nat):List cO:=List.replicate j cO.pass
def Bl (ds:List cO)(j:Nat):ds++rp (j+1)=ds++rp j++[.pass]:=by rw[show rp (j+1)=rp j++[.pass] from gt,oy]
def Zb (zs:List Std)(z:Std)(j:Nat):zs++List.replicate (j+1) z=zs++List.replicate j z++[z]:=by rw[gt,oy]
theorem afC (ds:List cO):∀j,tp (ds++rp j)=tp ds+j
 | 0=>by rw[show rp 0=[] from rL,dL];rfl
 | j+1=>by rw[Bl,Bh,afC ds j];rfl
def yj (ds:List cO)(j:Nat):(ds++rp j).length=ds.length+j:=by rw[av,ce]
def agT {G:Gm}{z:Std}{ds:List cO}{j:Nat}(h1:1<=z.racks.length)(h:gZ (dG G [] (ds++rp j)) z=false):j<2*z.racks.length:=by
 cases j with| zero=>lia| succ j=>rw[Bl,Fx .pass h1]at h;let h:=hV h;rw[afC]at h;lia
def Vz (C CS CB CG:Addr):Sp:=λvs H Q _=>∃(g p pw pn ps pd:Addr) (G:Gm) (Z:QF) (ds:List cO) (zs:List Std) (z:Std),vs=[.ref g,.ref p,.ref pn]/\eV C CS CB CG H g ps pd (dG G (zs++[z]) ds)/\jN z/\MJ G/\G.kvs=Z.kvs/\G.bn=Z.bn/\G.bm=Z.bm/\G.size=Z.size/\zm C H p pw Z/\R6 Z/\nP C H pn z ds.length (tp ds) (gZ (dG G [] ds) z)/\ds.length<=70/\zs.length=ds.length/\pw≠ps/\pw≠pd/\∀H',vC ps pd H H'->eV C CS CB CG H' g ps pd (dG G (zs++[z]) ds)->Q (.bl true) H'
structure VB (C CS CB CG:Addr)(H0 H:Hp)(g ps pd L:Addr)(G:Gm)(ds:List cO)(zs:List Std)(z:Std)(j:Nat)(ns:List Addr):Prop where
 kp:∀a o,H0 a=some o->a≠ps->a≠pd->H a=some o
 ga:eV C CS CB CG H g ps pd (dG G (zs++List.replicate j z++[z]) (ds++rp j))
 ls:H L=some (.lst (ns.map V.ref))
 len:ns.length=j+1
 at_:∀(i:Nat) (a:Addr),ns[i]?=some a->nP C H a z (ds.length+i) (tp (ds++rp i)) (gZ (dG G [] (ds++rp i)) z)
def VB.last {C CS CB CG:Addr}{H0 H:Hp}{g ps pd L:Addr}{G:Gm}{ds:List cO}{zs:List Std}{z:Std}{j:Nat}{ns:List Addr}(I:VB C CS CB CG H0 H g ps pd L G ds zs z j ns):∃D a,ns=D++[a]/\D.length=j/\nP C H a z (ds.length+j) (tp (ds++rp j)) (gZ (dG G [] (ds++rp j)) z):=by let⟨D,a,rfl,hl⟩:=agS (l:=ns) (m:=List.replicate j cO.pass) (x:=cO.pass) (by rw[I.len];simp);rw[ce]at hl;show(aK D a rL hl (I.at_ j a (by rw[df p_,hl,kS];rfl)))
def Ou (H:Hp)(L:Addr):Nat:=match H L with| some (.lst xs)=>xs.length| _=>0
def Zd {H:Hp}{L:Addr}{xs:List V}(h:H L=some (.lst xs)):Ou H L=xs.length:=by unfold Ou;rw[h]
def acQ {C CS CB CG f1 f2:Addr}{dH fd2:FuncData}(D:aN K mg "_law_passed" BZ ["_law_game","_law_parts_here","_law_now"])(bH:mg "len"=none)(fQ:mg "range"=none)(bA:mg "isinstance"=none)(mK:mg "bool"=none)(cU:mL K CG)(vH:Meth K CG "do" f1)(vI:cj P w K mg base dN 16 f1 dH ["self","deed"] (aej C CS CB CG))(vJ:bT K dH ["self","deed"] [])(zU:Meth K CG "back" f2)(zV:cj P w K mg base dN 1 f2 fd2 ["self"] (acy C CS CB CG))(zW:bT K fd2 ["self"] [])(VD:bW P w K mg base "_law_next" 12 ["_law_now","_law_parts_here","_law_deed_here"] (Vv C))(Cj:bW P w K mg base "_law_stands" 5 ["_law_game","_law_now"] (JB C CS CB CG))(Ow:bW P w K mg base "_law_ended" 9 ["_law_game","_law_now"] (Ot C CS CB CG)):bW P w K mg base "_law_passed" 17 ["_law_game","_law_parts_here","_law_now"] (Vz C CS CB CG):=by
 calc D.dD yS (λf bO A outer s H vs Q E hr h=>?_);let⟨g,p,pw,pn,ps,pd,G,Z,ds,zs,z,rfl,A0,wj,GF,ek,en,em,ez,PA,PO,NA0,h70,za,w1,w2,q⟩:=h;let n1:=wj.n1;let n4:=wj.n4;calc(aj _ (aB (aW (i:=3) yS.nd rL (Or.inl rL) (fW (ak bG aq))) (aB (adD cE (dW (cZ (bh bD (bh gH bL (oJ lF aA) (λ_ _=>rfl)) aA (λ_ _=>rfl)))) (aB (aW (i:=4) yS.nd rL (Or.inl rL) (nY aH cU.cl vH vI hr.mono vJ .nil eY (ak (cL (ak (bI [112,97,115,115] qi) aq)) aq))) (aB (dF (gP bS dA dC jy bL (ak (bh bD (bK VD hr.mono rL (ak (bh gH bL (oJ lF aA) (λ_ _=>rfl)) (ak bf (ak (cL (ak (bI [112,97,115,115] qi) aq)) aq)))) aA (λ_ _=>rfl)) aq))) (aG (cD (QW.qt (jY (bV Br cP aA (bM _)) (jY (cZ (aQ fU qf bA aE (ak cP (ak (jj (v:=.ty "bool") qf mK j3 rL) aq)))) (jQ (dW (cZ (bK Cj hr.mono rL (ak aH (ak (bh gH bL (oJ lF aA) (λ_ _=>rfl)) aq))))))))) (aG (bC eO)) bN))))) (aB (cD (dW (cZ (bK Ow hr.mono rL (ak aH (ak (bh gH bL (oJ lF aA) (λ_ _=>rfl)) aq))))) (aG (bC eO)) bN) (aB (gG cE rL (abU qf fQ (ak (aL oZ (aQ bY qf bH ax (ak bL aq)) aA) (ak (oJ lF aA) (ak (oJ lF aA) aq)))) (bQ (i:=5) yS.nd rL (Or.inl rL)) (aG (cD (QW.qt (jY (bV afL (gR aH cU.cl zU zV hr.mono zW .nil eY) abw (bM _)) (jQ (dW (cZ (bK Cj hr.mono rL (ak aH (ak (bh gH bL d9 (λ_ _=>rfl)) aq)))))))) (aG (bC eO)) bN))) (aG (bC eO)))))) ?_);calc(aX _ rL (zsz 1) (λL hL=>?_));let sL:=aD.upd hL (o:=HO.lst [V.ref pn]);let eL:upd H L (HO.lst [V.ref pn]) L=some (.lst ([pn].map V.ref)):=au;generalize upd H L (HO.lst [V.ref pn])=H0 at sL eL ⊢;let A1:=A0.mv sL;let⟨_,ajv,_⟩:=A0.st;let lp:L≠ps:=(bF ajv hL).symm;let ld:L≠pd:=(bF A0.dn hL).symm;let I0:VB C CS CB CG H H0 g ps pd L G ds zs z 0 [pn]:=by
  calc⟨λa o h _ _=>sL a o h,?_,eL,rL,λi a h=>?_⟩;.rw[show List.replicate 0 z=[] from rL,show rp 0=[] from rL,dL,dL];show A1
  .cases i with
   | zero=>cases h;rw[show rp 0=[] from rL,dL];show NA0.kl (Kl.of sL)
   | succ i=>simp at h
 refine ade (λσ O=>∃(v4:Option V) (j:Nat) (ns:List Addr),σ=[some (.ref g),some (.ref p),some (.ref pn),some (.ref L),v4,none]/\VB C CS CB CG H O g ps pd L G ds zs z j ns/\j<=2*z.racks.length) (λ_ O=>2*z.racks.length+1-Ou O L) (pJ none 0 [pn] rL I0 (eQ _)) ?_ ?_
 .intro σ O z;let⟨v4,j,ns,rfl,I,hj⟩:=z;let⟨F,an,rfl,hml,NA⟩:=I.last;let⟨_,_,_,hn2,_⟩:=NA.ex;let hle:Ou O L=j+1:=by rw[Zd I.ls,aa,I.len]
  let VF:(dG G (zs++List.replicate j z++[z]) (ds++rp j)).done.length=ds.length+j:=by show ((ds++rp j).map cO.name).length=_;rw[aa,yj]
  calc(aj _ rL (aj _ rL (bw L _ _ (.ref an) rL rL (bJ.of I.ls) oW (bw an _ _ (.bl (gZ (dG G [] (ds++rp j)) z)) rL rL (aU.of hn2) (aP (j:=6) rL) (aj _ rL ?_)))));cases hov:gZ (dG G [] (ds++rp j)) z with
  | false=>
   let hj2:=agT n1 hov;let kl2:Kl H O:=λa o h m=>I.kp a o h (kO ajv h m) (kO A0.dn h m);let PA2:=PA.kl kl2 (I.kp _ _ PA.wl w1 w2);let⟨gx,_,_,_,_,hg2,_⟩:=I.ga.ex;calc cA (aj _ rL (eG g gx _ rL hg2 rL (zsz 1) (λe he=>?_)));let se:=aD.upd he (o:=HO.tup [V.str (S [112,97,115,115])]);let ee:upd O e (HO.tup [V.str (S [112,97,115,115])]) e=some (.tup [V.str (S fu)]):=au;generalize upd O e (HO.tup [V.str (S [112,97,115,115])])=H3 at se ee ⊢;let A3:=I.ga.mv se;let⟨_,aeE,_⟩:=A3.st;calc(K4 g e ps pd (dG G (zs++List.replicate j z++[z]) (ds++rp j)) (zs++List.replicate j z) z z (.pass) 0 rL A3 rL wj (GF.ok (by rw[yj];lia) (by rw[av,av,ce];show zs.length+j+1<=101;lia)) ee hov (.pass) (λHC kC AC=>?_));rw[Y9 (d:=.pass)]at AC;let klC:=kC.kl aeE A3.dn;let l1:=kC _ _ (se _ _ I.ls) lp ld;let ajw:=kC _ _ (se _ _ (I.kp _ _ PA.wl w1 w2)) w1 w2;let PAC:=PA2.kl ((Kl.of se).trans klC) ajw;calc(aX _ rL (.inl ⟨rL,_,bJ.of l1⟩) (aj _ rL (aj _ rL (bw L _ _ (.ref an) rL rL (bJ.of l1) oW (aX _ rL (zsz 1) (λe2 he2=>?_))))));let Ze:=aD.upd he2 (o:=HO.tup [V.str (S [112,97,115,115])]);let ee2:upd HC e2 (HO.tup [V.str (S [112,97,115,115])]) e2=some (.tup [V.str (S fu)]):=au;generalize upd HC e2 (HO.tup [V.str (S [112,97,115,115])])=HD at Ze ee2 ⊢;let alI:(dG G [] (ds++rp j)).done.length=ds.length+j:=by show ((ds++rp j).map cO.name).length=_;rw[aa,yj]
   calc⟨an,p,pw,e2,z,z,ds.length+j,tp (ds++rp j),_,Z,dG G [] (ds++rp j),.pass,0,rL,NA.kl (((Kl.of se).trans klC).trans (Kl.of Ze)),wj,PAC.kl (Kl.of Ze) (Ze _ _ ajw),PO,ee2,alI,ek,en,em,ez,.pass,λt J HE sE ht NA'=>(bw t _ _ (.ref J) rL rL (aU.of ht) (aP (j:=1) rL) (eG L _ (.ref J) rL rL (sE _ _ (Ze _ _ l1)) (aM (by rw[aa,I.len];lia)) ?_))⟩;let sCE:=Ze.trans sE;let lE:=sCE _ _ l1;rw[show (F++[an]).map V.ref++[.ref J]=(F++[an]++[J]).map V.ref by simp];let Zf:Kl HE (upd HE L (.lst ((F++[an]++[J]).map V.ref))):=Kl.up lE;let alJ:=((((Kl.of se).trans klC).trans (Kl.of sCE)).trans Zf)
   let NAn:nP C (upd HE L (.lst ((F++[an]++[J]).map V.ref))) J z (ds.length+(j+1)) (tp (ds++rp (j+1))) (gZ (dG G [] (ds++rp (j+1))) z):=by rw[Bl,Bh,Fx .pass n1,yj];show NA'.kl Zf
   let Y:VB C CS CB CG H (upd HE L (.lst ((F++[an]++[J]).map V.ref))) g ps pd L G ds zs z (j+1) (F++[an]++[J]):=by
    refine⟨λa o h m1 m2=>?_,?_,au,by rw[av,I.len];rfl,λi b hb=>?_⟩
    .rw[aZ (bF h hL)];show sCE _ _ (kC _ _ (se _ _ (I.kp a o h m1 m2)) m1 m2)
    .rw[Zb,Bl];show(AC.mv sCE).kl Zf (aZ lp.symm) (aZ ld.symm)
    .by_cases hi:i<(F++[an]).length
     .rw[di hi]at hb;show(I.at_ i b hb).kl alJ
     .let hi2:=(ah.mp hb).1;rw[av]at hi2;let e0:i=j+1:=by have:=I.len;simp only[dE,mI]at hi2;lia
      subst e0;rw[df (by rw[I.len];show al _),I.len,kS]at hb;cases hb;show NAn
   generalize upd HE L (.lst ((F++[an]++[J]).map V.ref))=HF at NAn Y ⊢;let ajx:(dG G (zs++List.replicate (j+1) z++[z]) (ds++rp (j+1))).done.length=ds.length+(j+1):=by show ((ds++rp (j+1)).map cO.name).length=_;rw[aa,yj]
   calc(aX _ rL rL (aj _ rL ?_));rw[ai rfl];calc bR (aj _ rL (fB _ _ _ false rL (.int _) qh (aj false rL (bR (aj _ rL (aj _ rL (aj _ rL (bw L _ _ (.ref J) rL rL (bJ.of Y.ls) oW ⟨g,J,ps,pd,dG G (zs++List.replicate (j+1) z++[z]) (ds++rp (j+1)),zs++List.replicate (j+1) z,z,tp (ds++rp (j+1)),rL,Y.ga,rL,wj,Bj,by rw[ajx];lia,by rw[ajx];show NAn,λHG sG=>(aj _ rL (bR ?_))⟩))))))));calc⟨(pJ _ (j+1) _ rL ⟨λa o h m1 m2=>sG _ _ (Y.kp a o h m1 m2),Y.ga.mv sG,sG _ _ Y.ls,Y.len,λi a h=>(Y.at_ i a h).kl (Kl.of sG)⟩ p_),?_⟩;show 2*z.racks.length+1-Ou HG L<2*z.racks.length+1-Ou O L;rw[hle,Zd (sG _ _ Y.ls),aa,Y.len];lia
  | true=>
   calc bR (aj _ rL (aj _ rL (aj _ rL (bw L _ _ (.ref an) rL rL (bJ.of I.ls) oW ⟨g,an,ps,pd,dG G (zs++List.replicate j z++[z]) (ds++rp j),zs++List.replicate j z,z,tp (ds++rp j),rL,I.ga,rL,wj,Bj,by rw[VF];lia,hov,by rw[VF];show NA,λH3 s3=>(aj _ rL (bR ?_))⟩))));let l3:=s3 _ _ I.ls;let hLl:((F++[an]).map V.ref).length=j+1:=by rw[aa,I.len]
   calc(aj _ rL (aK L _ rL (.inl (bJ.of l3)) (aK _ _ rL rL (aj _ rL (aj _ rL (aX j (by rw[hLl];show [V.int _,_,_]++[]=_;rw[show (((j+1:Nat):Int)-2)=(j:Int)-1 by lia];rfl) p_ ?_))))));refine Z8 (λi σ H9=>∃v5:Option V,σ=[some (.ref g),some (.ref p),some (.ref pn),some (.ref L),v4,v5]/\vC ps pd H3 H9/\eV C CS CB CG H9 g ps pd (dG G (zs++List.replicate (j-i) z++[z]) (ds++rp (j-i))))
    (aX none rL (λa o h _ _=>h) (I.ga.mv s3)) ?_ ?_
   .intro i σ H9 hi z;let⟨v5,rfl,kp,A9⟩:=z;obtain⟨t,ht⟩:∃t,j-i=t+1:=⟨j-i-1,p_⟩
    rw[ht]at A9;let⟨gy,_,_,_,_,hg9,_⟩:=A9.ex;let hdn:(dG G (zs++List.replicate (t+1) z++[z]) (ds++rp (t+1))).done=(ds++rp t).map cO.name++[cO.pass.name]:=by show (ds++rp (t+1)).map cO.name=_;rw[Bl,bu];rfl
    calc(aj _ rL (cY g gy _ rL hg9 rL ⟨g,ps,pd,_,zs++List.replicate (t+1) z,z,(ds++rp t).map cO.name,cO.pass.name,rL,A9,rL,hdn,Bj,(by show ((ds++rp (t+1)).map cO.name).length<=500;rw[aa,yj];lia),λHA kA AA=>?_⟩));let AA:eV C CS CB CG HA g ps pd (dG G (zs++List.replicate t z++[z]) (ds++rp t)):=by rw[<-Zb];show AA
    calc⟨rL,aj _ rL ?_⟩;rw[ai rfl];let k8A:vC ps pd H3 HA:=λa o h n1 n2=>kA _ _ (kp a o h n1 n2) n1 n2;let hlA:=k8A _ _ l3 lp ld;let tn:t<(F++[an]).length:=by rw[I.len];lia
    let⟨_,aeE,_⟩:=(I.ga.mv s3).st;let NAt:=((I.at_ t _ (ac tn)).kl (Kl.of s3)).kl (k8A.kl aeE (I.ga.mv s3).dn);let hglt:(dG G (zs++List.replicate t z++[z]) (ds++rp t)).done.length=ds.length+t:=by show ((ds++rp t).map cO.name).length=_;rw[aa,yj]
    refine bR (aj _ rL (aj _ rL (aj _ rL (bw L _ _ (.ref (F++[an])[t]) rL rL (bJ.of hlA) ?_ ⟨g,(F++[an])[t],ps,pd,dG G (zs++List.replicate t z++[z]) (ds++rp t),zs++List.replicate t z,z,tp (ds++rp t),rL,AA,rL,wj,Bj,by rw[hglt];lia,by rw[hglt];show NAt,λHB sB=>(aj _ rL (bR ?_))⟩))))
    .rw[show ((j:Int)-1+(i:Int)*(-1))=(t:Int) by lia];show aP (by rw[ck,ac tn];rfl)
    .calc(aX _ rL (λa o h n1 n2=>sB _ _ (k8A a o h n1 n2)) ?_);rw[show j-(i+1)=t by lia];show AA.mv sB
   .intro σ H9 z;let⟨v5,rfl,kp,A9⟩:=z;rw[kS,show List.replicate 0 z=[] from rL,show rp 0=[] from rL,dL,dL]at A9;show q H9 (λa o h m1 m2=>kp _ _ (s3 _ _ (I.kp a o h m1 m2)) m1 m2) A9
 .intro σ O Q1 Q2 hQ z;let⟨a1,a2,a3,a4,a5,a6,a7,a8,a9,b1,b2,b3,b4,b5,b6,b7,b8,b9,c1,c2,c3,c4,h⟩:=z;show(aj a1 a2 (aj a3 a4 (bw a5 a6 a7 a8 a9 b1 b2 b3 (bw b4 b5 b6 b7 b8 b9 c1 c2 (aj c3 c4 (hQ _ _ h))))))
def ajy {C CS CB CG f f0 f1 f3:Addr}{fd fK dH oF:FuncData}(F:fG K "law" "law" RW f fd)(cU:mL K CG)(Om:mg "Book"=some (.ref CB))(Vc:Mk K CB f0)(Ve:cj P w K mg base dN 3 f0 fK ["self","words"] (Uo K CB))(Vf:bT K fK ["self","words"] [])(agU:mg "Game"=some (.ref CG))(ajz:Mk K CG f1)(ajA:cj P w K mg base dN 7 f1 dH ["self","board","book","worths","bonus","size","racks","bag"] (YG C CS CB CG))(ajB:bT K dH ["self","board","book","worths","bonus","size","racks","bag"] [])(vH:Meth K CG "do" f3)(vI:cj P w K mg base dN 16 f3 oF ["self","deed"] (aej C CS CB CG))(vJ:bT K oF ["self","deed"] [])(agV:bW P w K mg base "_law_parts" 7 ["_law_script"] (Vr K C))(agW:bW P w K mg base "_law_begun" 1 ["_law_parts_here"] (YW C))(ajC:bW P w K mg base "_law_deed" 18 ["_law_now","_law_book","_law_words_here","_law_cell"] (YZ C CB))(VD:bW P w K mg base "_law_next" 12 ["_law_now","_law_parts_here","_law_deed_here"] (Vv C))(QX:bW P w K mg base "_law_no_back" 3 ["_law_game"] (QV C CS CB CG))(Ow:bW P w K mg base "_law_ended" 9 ["_law_game","_law_now"] (Ot C CS CB CG))(JG:bW P w K mg base "_law_passed" 17 ["_law_game","_law_parts_here","_law_now"] (Vz C CS CB CG)):cj P w K mg base dN 20 f fd ["_law_script"] (RM K):=by
 calc F.dD vq (λbO A outer s H vs Q E D h=>?_);let⟨a,cells,rfl,hS,h63,q⟩:=h;calc(aj _ (aB (aW (i:=1) vq.nd rL (Or.inl rL) (bK agV D.mono rL (ak aH aq))) (aB (aW (i:=2) vq.nd rL (Or.inl rL) (rD Vc Ve D.mono rL Om Vf .nil eY (ak (bh bD bf aA (λ_ _=>rfl)) aq))) (aB (aW (i:=3) vq.nd rL (Or.inl rL) (rD ajz ajA D.mono rL agU ajB .nil eY (ak (bh bD bf aA (λ_ _=>rfl)) (ak bG (ak (bh bD bf aA (λ_ _=>rfl)) (ak (bh bD bf aA (λ_ _=>rfl)) (ak (bh bD bf aA (λ_ _=>rfl)) (ak (bh bD bf aA (λ_ _=>rfl)) (ak (bh bD bf aA (λ_ _=>rfl)) aq))))))))) (aB (aW (i:=4) vq.nd rL (Or.inl rL) (bK agW D.mono rL (ak bf aq))) (aB (cD (QW.qt (jY (dW (cZ (bK QX D.mono rL (ak bL aq)))) (jY (dW (cZ (bK JG D.mono rL (ak bL (ak bf (ak cP aq)))))) (jQ (dW (cZ (bK QX D.mono rL (ak bL aq)))))))) (aG (bC eO)) bN) (aB (gG cE rL (nW (dR wY aH (dX aA) (dX aA))) (bQ (i:=5) vq.nd rL (Or.inl rL)) (aG (gU (cD (dW (cZ (bh bD cP aA (λ_ _=>rfl)))) (aB (aW (i:=6) vq.nd rL (Or.inl rL) (bK ajC D.mono rL (ak cP (ak bG (ak (bh bD bf aA (λ_ _=>rfl)) (ak d9 aq)))))) (aB (dF (nY bL cU.cl vH vI D.mono vJ .nil eY (ak gb aq))) (aG (aW (i:=4) vq.nd rL (Or.inl rL) (bh bD (bK VD D.mono rL (ak cP (ak bf (ak gb aq)))) aA (λ_ _=>rfl)))))) bN)))) (aB (cD (cZ (bh bD cP aA (λ_ _=>rfl))) (aG (bC (bK Ow D.mono rL (ak bL (ak cP aq))))) bN) (aG (bC (jA (bK JG D.mono rL (ak bL (ak bf (ak cP aq)))) (ji (bK JG D.mono rL (ak bL (ak bf (ak cP aq))))))))))))))) ?_);calc(aj _ rL (aK a cells rL hS (λpp pw Z H1 s1 fpw PA PO=>?_)));let⟨b0,dk,pbn,prk,hpp,hB0,hdk,alK,alL⟩:=PA.ex;let w2:=PO.w2;calc(aj _ rL (bw pp _ _ (.ref pw) rL rL (aU.of hpp) (aP (j:=1) rL) (λk kx nk1 nk2 nk3=>?_)));let sK:aD H1 (upd (upd H1 kx (HO.own k)) k (HO.ins CB kx [])):=λx o h=>by rw[aZ (bF h nk1),aZ (bF h nk2)];show h
 calc(gW k kx pw Z.ws rL au (.inl (bJ.of (sK _ _ PA.wl))) PO.wz p_ (λkd bs H2 fkd BK hbs T8 kp2=>⟨rL,?_⟩));let s2:aD H1 H2:=λx o h=>kp2 x o (sK x o h) (bF h nk1);let Fw:=s2 _ _ hpp;calc(aj _ rL (bw pp _ _ (.ref b0) rL rL (aU.of Fw) (aP (j:=0) rL) (aj _ rL (aj _ rL (bw pp _ _ (.ref dk) rL rL (aU.of Fw) (aP (j:=2) rL) (aj _ rL (bw pp _ _ (.ref pbn) rL rL (aU.of Fw) (aP (j:=3) rL) (aj _ rL (bw pp _ _ (.int Z.size) rL rL (aU.of Fw) (aP (j:=4) rL) (aj _ rL (bw pp _ _ (.ref prk) rL rL (aU.of Fw) (aP (j:=5) rL) (aj _ rL (bw pp _ _ (.str (S Z.bag)) rL rL (aU.of Fw) (aP (j:=6) rL) (λg gx ng1 ng2 ng3=>?_))))))))))))));let sG:aD H2 (upd (upd H2 gx (HO.own g)) g (HO.ins CG gx [])):=λx o h=>by rw[aZ (bF h ng1),aZ (bF h ng2)];show h
 let Y:=s2.trans sG;calc⟨g,gx,b0,k,kd,dk,pbn,prk,bs,Z.kvs,Z.bn,Z.bm,Z.size,Z.r,Z.w,Z.aF,Z.aO,Z.bi,Z.bj,Z.racks,Z.bag,rL,au,hB0.mv Y,BK.mv sG,p_,Y _ _ hdk,Y _ _ alK,Y _ _ alL,PO.n1,PO.n4,(λl hl=>by have:=(PO.r7 l hl).1;have:=PO.s7;lia),λps pd vD H3 kp3 hm fps fpd A3=>⟨rL,?_⟩⟩;let s3:aD H2 H3:=λx o h=>kp3 x o (sG x o h) (bF h ng1);let A3:eV C CS CB CG H3 g ps pd (dG ⟨[],[],vD,Z.kvs,Z.bn,Z.bm,Z.size⟩ ([]++[beg Z]) []):=A3;let GF:MJ ⟨[],[],vD,Z.kvs,Z.bn,Z.bm,Z.size⟩:=⟨PO.wd,PO.wb,PO.s7⟩
 obtain⟨G,ek,en,em,ez,ew,A3,GF⟩:∃G:Gm,G.kvs=Z.kvs/\G.bn=Z.bn/\G.bm=Z.bm/\G.size=Z.size/\G.ws=vD/\eV C CS CB CG H3 g ps pd (dG G ([]++[beg Z]) [])/\MJ G:=⟨_,rL,rL,rL,rL,rL,A3,GF⟩
 let hbw:∀x,x∈bs↔x∈G.ws:=λx=>by rw[ew];show(hm x).symm
 let Z0:jN (beg Z):=by let z7:=PO.s7;calc⟨by show 1<=(Z.racks.map d7).length;rw[aa];show PO.n1,by show (Z.racks.map d7).length<=4;rw[aa];show PO.n4,λl hl=>?_,PO.b6,PO.bt,by show (List.replicate _ _).length=(Z.racks.map d7).length;rw[aa,ce]⟩;let⟨m,hm,rfl⟩:=be.mp hl;let⟨h1,h2⟩:=PO.r7 m hm;show⟨by rw[jK];lia,λc hc=>h2 c ((kI m).mem_iff.mp hc)⟩
 let Qy:=s2.trans s3;let PA3:zm C H3 pp pw Z:=PA.kl (Kl.of Qy) (Qy _ _ PA.wl);let wl2:=s2 _ _ PA.wl;let QZ:pw≠ps:=bF (sG _ _ wl2) fps;let Q0:pw≠pd:=bF (sG _ _ wl2) fpd;let ov0:=aeB (G:=G) Z0.n1;calc(aj _ rL (cY pp pw Z rL PA3 PO (λbn H4 s4 NA0=>?_)));let A4:=A3.mv s4;let PA4:=PA3.kl (Kl.of s4) (s4 _ _ PA3.wl);calc(aj _ rL (fB g ps pd _ rL A4 rL (λH5 s5=>(aj _ rL (bR ?_)))));let A5:=A4.mv s5;let PA5:=PA4.kl (Kl.of s5) (s5 _ _ PA4.wl);let NA5:nP C H5 bn (beg Z) 0 (tp []) (gZ (dG G [] []) (beg Z)):=by rw[ov0];show NA0.kl (Kl.of s5)
 calc(aj _ rL (aj _ rL (aj _ rL ⟨g,pp,pw,bn,ps,pd,G,Z,[],[],beg Z,rL,A5,Z0,GF,ek,en,em,ez,PA5,PO,NA5,by show 0<=70;decide,rL,QZ,Q0,λH6 k6 A6=>(aj _ rL (bR ?_))⟩)));let⟨_,alM,_⟩:=A5.st;let kl6:=k6.kl alM A5.dn;calc(aj _ rL (fB g ps pd _ rL A6 rL (λH7 s7=>(aj _ rL (bR ?_)))));let A7:=A6.mv s7;let ajD:=s7 _ _ (k6 _ _ PA5.wl QZ Q0);let aeF:=kl6.trans (Kl.of s7);let PA7:=PA5.kl aeF ajD;let NA7:=NA5.kl aeF;let s35:=s4.trans s5;let BK7:iJ CB H7 k kd bs:=((BK.mv s3).mv s35).kl aeF;let Fl:aD H H7:=λx o h=>s7 _ _ (k6 _ _ (s35 _ _ (s3 _ _ (s2 _ _ (s1 _ _ h)))) (bF (sG _ _ (s2 _ _ (s1 _ _ h))) fps) (bF (sG _ _ (s2 _ _ (s1 _ _ h))) fpd));calc(aj _ rL (aj _ rL (aj _ rL (aK a _ rL (Fl.seq hS) (λZc hZc=>?_)))));let s8:=aD.upd hZc (o:=HO.lst (iG (cells.map V.int) (some 4) (some 12)));let e8:upd H7 Zc (HO.lst (iG (cells.map V.int) (some 4) (some 12))) Zc=some (.lst (iG (cells.map V.int) (some 4) (some 12))):=au;let zn1:Zc≠ps:=by let⟨_,h,_⟩:=A7.st;show(bF h hZc).symm
 let zn2:Zc≠pd:=(bF A7.dn hZc).symm;generalize upd H7 Zc (HO.lst (iG (cells.map V.int) (some 4) (some 12)))=HC at s8 e8 ⊢;let AC:=A7.mv s8;let PC:=PA7.kl (Kl.of s8) (s8 _ _ ajD);let BKC:=BK7.mv s8;let⟨_,ajE,_⟩:=AC.st;let hcl:(iG (cells.map V.int) (some 4) (some 12)).length<=63:=by unfold iG;rw[ap,bd,aa];lia
 refine(aX Zc rL ⟨_,bJ.of e8⟩ (mU (K:=K) (a:=Zc) (xs:=iG (cells.map V.int) (some 4) (some 12)) (λi σ HD=>∃(v5 v6:Option V) (n:Addr) (ds:List cO) (zs:List Std) (z:Std),σ=[some (.ref a),some (.ref pp),some (.ref k),some (.ref g),some (.ref n),v5,v6]/\vC ps pd HC HD/\eV C CS CB CG HD g ps pd (dG G (zs++[z]) ds)/\Path G (beg Z) ds (zs++[z])/\nP C HD n z ds.length (tp ds) (gZ (dG G [] ds) z)/\ds.length<=i)
  ⟨none,none,bn,[],[],beg Z,rL,λ_ _ h _ _=>h,AC,.nil,NA7.kl (Kl.of s8),al _⟩ (λi σ HD _ h=>?_) ?_ ?_))
 .let⟨_,_,_,_,_,_,_,kp,_⟩:=h;show bJ.of (kp _ _ e8 zn1 zn2)
 .intro i x σ HD hx z;let⟨v5,v6,n,ds,zs,z,rfl,kp,AD,PH,I,hdi⟩:=z;let hic:=(ah.mp hx).1;let⟨c,_,rfl⟩:=be.mp (eJ (c_ (bv hx)));let za:=PH.len;let wj:jN z:=PH.ok Z0 GF.sz z qa;let⟨_,_,_,hnD,_⟩:=I.ex;let J:=kp.kl ajE AC.dn;let Ox:=kp _ _ PC.wl QZ Q0;let PD:=PC.kl J Ox;let⟨_,_,_,_,alN,_⟩:=PD.ex;calc⟨λσ HE=>∃(v5 v6:Option V) (n:Addr) (ds:List cO) (zs:List Std) (z:Std),σ=[some (.ref a),some (.ref pp),some (.ref k),some (.ref g),some (.ref n),v5,v6]/\vC ps pd HC HE/\eV C CS CB CG HE g ps pd (dG G (zs++[z]) ds)/\Path G (beg Z) ds (zs++[z])/\nP C HE n z ds.length (tp ds) (gZ (dG G [] ds) z)/\ds.length<=i+1,?_,λσ HE h=>h⟩;calc(aj _ rL (bw n _ _ (.bl (gZ (dG G [] ds) z)) rL rL (aU.of hnD) (aP (j:=6) rL) (aj _ rL ?_)));cases O:gZ (dG G [] ds) z with
  | true=>show bR ⟨_,_,n,ds,zs,z,rL,kp,AD,PH,I,p_⟩
  | false=>
   calc cA (aj _ rL (aj _ rL (aj _ rL (bw pp _ _ (.ref pw) rL rL (aU.of alN) (aP (j:=1) rL) (aj _ rL ⟨n,k,kd,pw,bs,Z.ws,c,z,ds.length,tp ds,_,rL,I,wj,BKC.kl J,Ox,by have:=PO.w1;lia,PO.wz,λe d HE sE hd hok=>?_⟩)))));let⟨pt,z',dd⟩:=acN (G:=G) hok hbw;let VF:(dG G [] ds).done.length=ds.length:=aa _;let AE:=AD.mv sE;let⟨gz,_,_,_,_,hgE,_⟩:=AE.ex;let⟨_,alO,_⟩:=AE.st;calc(aj _ rL (cY g gz _ rL hgE rL (aj _ rL (K4 g e ps pd (dG G (zs++[z]) ds) zs z z' d pt rL AE rL wj (GF.ok p_ p_) hd O dd.sts (λHG kG AG=>?_)))));rw[Y9]at AG;let klG:=kG.kl alO AE.dn;let alP:=kG _ _ (sE _ _ Ox) QZ Q0;calc(aj _ rL (aj _ rL (aj _ rL ⟨n,pp,pw,e,z,z',ds.length,tp ds,_,Z,dG G [] ds,d,pt,rL,I.kl ((Kl.of sE).trans klG),wj,PD.kl ((Kl.of sE).trans klG) alP,PO,hd.kl klG,VF,ek,en,em,ez,dd,λt n' HF sF ht NA'=>(bw t _ _ (.ref n') rL rL (aU.of ht) (aP (j:=1) rL) ?_)⟩)));calc⟨_,_,n',ds++[d],zs++[z],z',rL,λa o h m1 m2=>sF _ _ (kG _ _ (sE _ _ (kp a o h m1 m2)) m1 m2),AG.mv sF,.snoc PH O dd,?_,?_⟩;.rw[Bh,Fx dd wj.n1,av];show NA'
   .rw[av];show gN hdi
 .intro σ HD z;let⟨v5,v6,n,ds,zs,z,rfl,kp,AD,PH,I,hdi⟩:=z;let wj:jN z:=PH.ok Z0 GF.sz z qa;let za:=PH.len;rw[av]at za;let za:zs.length=ds.length:=Nat.succ.inj za;let⟨_,_,_,hnD,_⟩:=I.ex;let VF:(dG G (zs++[z]) ds).done.length=ds.length:=aa _;let J:=kp.kl ajE AC.dn;let Ox:=kp _ _ PC.wl QZ Q0;let PD:=PC.kl J Ox;calc(aj _ rL (bw n _ _ (.bl (gZ (dG G [] ds) z)) rL rL (aU.of hnD) (aP (j:=6) rL) (aj _ rL ?_)));cases O:gZ (dG G [] ds) z with| true=>show cA (aj _ rL (aj _ rL ⟨g,n,ps,pd,dG G (zs++[z]) ds,zs,z,tp ds,rL,AD,rL,wj,Bj,by rw[VF];lia,O,by rw[VF];show I,λHE _=>q HE⟩))| false=>calc bR (aj _ rL (aj _ rL (aj _ rL ⟨g,pp,pw,n,ps,pd,G,Z,ds,zs,z,rL,AD,wj,GF,ek,en,em,ez,PD,PO,I,p_,za,QZ,Q0,λHE kE AE=>(aj _ rL (cA ?_))⟩)));let⟨_,alQ,_⟩:=AD.st;let Zf:=kE.kl alQ AD.dn;show(aj _ rL (aj _ rL (aj _ rL ⟨g,pp,pw,n,ps,pd,G,Z,ds,zs,z,rL,AE,wj,GF,ek,en,em,ez,PD.kl Zf (kE _ _ Ox QZ Q0),PO,I.kl Zf,p_,za,QZ,Q0,λHF _ _=>q HF⟩)))
end
end My
end
namespace My
open PySem L2
section
variable {P:Program}{w:World}{K:W.Frag}{mg:Str->Option Value}{base:Heap}
abbrev agX (K:W.Frag)(C:Addr):=mL K C
abbrev aeG (K:W.Frag)(C:Addr):=tH K C
def akO {h:Heap}{x:Str}{l:List Nat}{t:Tok}(X:K.In h)(G:h.Ns mainGlobals mg)(b:W.nsIn K mainGlobals x=some (some (.str (S l) t)))(n:t≠0):∃t,t≠0/\mg x=some (.str (S l) t):=⟨t,n,cf X G b⟩
def acR {h:Heap}(X:K.In h)(G:h.Ns mainGlobals mg){x:Str}{a:Addr}{c1 c2 c3:Nat}{i1 i2 i3:Int}{O Y Z D F I:Tok}{ep:Nat}(b:W.nsIn K mainGlobals x=some (some (.ref a)))(l:K.lookup a=some ⟨.type "dict",none,.dict #[⟨hashStr w (S [c1]),.str (S [c1]) O,.int i1 D⟩,⟨hashStr w (S [c2]),.str (S [c2]) Y,.int i2 F⟩,⟨hashStr w (S [c3]),.str (S [c3]) Z,.int i3 I⟩] ep,#[]⟩)(z:(a==sysModules)=false)(n:([c1,c2,c3]:List Nat).Nodup):∃a,mg x=some (.ref a)/\∀P:Program,KDict P w K a [(dz [c1],.int i1),(dz [c2],.int i2),(dz [c3],.int i3)]:=by
 calc⟨a,cf X G b,λP=>⟨z,_,[(dz [c1],.int i1 D),(dz [c2],.int i2 F),(dz [c3],.int i3 I)],l,?_,?_⟩⟩;.show .cons ⟨rL,⟨_,rL⟩⟩ (.cons ⟨rL,⟨_,rL⟩⟩ (.cons ⟨rL,⟨_,rL⟩⟩ .nil))
 .refine⟨_,_,⟨rL,rL,rL⟩,rL,?_,?_,?_⟩
  .intro e j;let j:e∈[(⟨hashStr w (S [c1]),.str (S [c1]) O,.int i1 D⟩:DictEntry),⟨hashStr w (S [c2]),.str (S [c2]) Y,.int i2 F⟩,⟨hashStr w (S [c3]),.str (S [c3]) Z,.int i3 I⟩]:=by simpa using j
   rcases bX.mp j with rfl|j;.show⟨dz [c1],mQ _ _ _ _,rL⟩
   rcases bX.mp j with rfl|j;.show⟨dz [c2],mQ _ _ _ _,rL⟩
   rcases bX.mp j with rfl|j;.show⟨dz [c3],mQ _ _ _ _,rL⟩
   .cases j
  .show .cons (mQ _ _ _ _) rL (.cons (mQ _ _ _ _) rL (.cons (mQ _ _ _ _) rL .nil))
  .let e:([(dz [c1],Value.int i1 D),(dz [c2],Value.int i2 F),(dz [c3],Value.int i3 I)]:List (Key×Value)).map (·.1)=([c1,c2,c3]:List Nat).map (λc=>dz [c]):=rfl;rw[e];calc List.Pairwise.map _ (λa b J q=>J ?_) n;have:=yE (lI q);simpa using this
structure Ck (K:W.Frag)(mg:Str->Option Value)(C f0 f1 f2 f3 f4:Addr)(fK dH fd2 oF wg:FuncData):Prop where
 T:iz K C
 vZ:mg "Board"=some (.ref C)
 M:Mk K C f0
 F0:fG K "__init__" "Board.__init__" lJ f0 fK
 b0:bT K fK ["self","rows","marks","begin"] []
 F1:fG K "at" "Board.at" oO f1 dH
 b1:bT K dH ["self","row","column"] []
 m1:Meth K C "at" f1
 F2:fG K "is_free" "Board.is_free" ju f2 fd2
 b2:bT K fd2 ["self"] []
 m2:Meth K C "is_free" f2
 F3:fG K "run" "Board.run" mZ f3 oF
 b3:bT K oF ["self","row","column","way"] []
 m3:Meth K C "run" f3
 F4:fG K "laid" "Board.laid" lK f4 wg
 b4:bT K wg ["self","laying"] []
 m4:Meth K C "laid" f4
def aeH {h:Heap}{C f0 f1 f2 f3 f4:Addr}(X:K.In h)(G:h.Ns mainGlobals mg){VG VH I an1 od2 an2 od3 an3 od4 an4:Option Addr}{Qm J sl2 KR sl4:Array (Option Value)}{VJ VL VN VP Fz VR F kV1 dc1 pm1 Q5 O oc2 kV2 dc2 pm2 Q6 D oc3 kV3 dc3 Y Q7 ct3 oc4 kV4 Z pm4 j ct4:Value}(aC:W.nsIn K mainGlobals "Board"=some (some (.ref C)))(a0:W.findIn K (.ref C) "__init__"=some (some (.ref f0)))(i0:W.isFn K (.ref f0)=true)(l0:K.lookup f0=some ⟨VJ,VG,.func (W.fnOf "__init__" "Board.__init__" (dJ lJ) (cX lJ) (aJ lJ) .none VL VN VP VH Fz VR),Qm⟩)(c0:W.codeIn K Fz "Board.__init__"=true)(k0:W.keepIn K (.ref f0)=true)(a1:W.findIn K (.ref C) "at"=some (some (.ref f1)))(i1:W.isFn K (.ref f1)=true)(l1:K.lookup f1=some ⟨F,I,.func (W.fnOf "at" "Board.at" (dJ oO) (cX oO) (aJ oO) .none kV1 dc1 pm1 an1 Q5 O),J⟩)(c1:W.codeIn K Q5 "Board.at"=true)(k1:W.keepIn K (.ref f1)=true)(a2:W.findIn K (.ref C) "is_free"=some (some (.ref f2)))(i2:W.isFn K (.ref f2)=true)(l2:K.lookup f2=some ⟨oc2,od2,.func (W.fnOf "is_free" "Board.is_free" (dJ ju) (cX ju) (aJ ju) .none kV2 dc2 pm2 an2 Q6 D),sl2⟩)(c2:W.codeIn K Q6 "Board.is_free"=true)(k2:W.keepIn K (.ref f2)=true)(a3:W.findIn K (.ref C) "run"=some (some (.ref f3)))(i3:W.isFn K (.ref f3)=true)(l3:K.lookup f3=some ⟨oc3,od3,.func (W.fnOf "run" "Board.run" (dJ mZ) (cX mZ) (aJ mZ) .none kV3 dc3 Y an3 Q7 ct3),KR⟩)(c3:W.codeIn K Q7 "Board.run"=true)(k3:W.keepIn K (.ref f3)=true)(a4:W.findIn K (.ref C) "laid"=some (some (.ref f4)))(i4:W.isFn K (.ref f4)=true)(l4:K.lookup f4=some ⟨oc4,od4,.func (W.fnOf "laid" "Board.laid" (dJ lK) (cX lK) (aJ lK) .none kV4 Z pm4 an4 j ct4),sl4⟩)(c4:W.codeIn K j "Board.laid"=true)(k4:W.keepIn K (.ref f4)=true)(pg:W.plainGet K C Str.empty=true)(hd:W.hasDictIn K C=true)(po:W.plainOver K C=true)(sa:W.findIn K (.ref C) "__setattr__"=some (some (.builtin "object.__setattr__")))(mk:W.makesIn K C=true)(kc:W.keepIn K (.ref C)=true)(yp:W.findIn K (.ref C) "rows"=some none)(FJ:W.findIn K (.ref C) "marks"=some none)(FN:W.findIn K (.ref C) "begin"=some none):∃C f0 f1 f2 f3 f4 fK dH fd2 oF wg,Ck K mg C f0 f1 f2 f3 f4 fK dH fd2 oF wg:=by let F0:=gF (st:=lJ) l0 c0 k0;let F1:=gF (st:=oO) l1 c1 k1;let F2:=gF (st:=ju) l2 c2 k2;let F3:=gF (st:=mZ) l3 c3 k3;let F4:=gF (st:=lK) l4 c4 k4;show⟨C,f0,f1,f2,f3,f4,_,_,_,_,_,⟨⟨pg,hd,po,sa⟩,yp,FJ,FN⟩,cf X G aC,⟨mk,a0,i0,kc⟩,F0,F0.binds (ps:=["self","rows","marks","begin"]) (λ_ _ _ _ _ _ us hl=>L2.e4 (λ_ _ _ _=>rfl) us hl),F1,F1.binds (ps:=["self","row","column"]) (λ_ _ _ _ _ _ us hl=>L2.e3 (λ_ _ _=>rfl) us hl),⟨a1,i1,k1⟩,F2,F2.binds (ps:=["self"]) (λ_ _ _ _ _ _ us hl=>L2.e1 (λ_=>rfl) us hl),⟨a2,i2,k2⟩,F3,F3.binds (ps:=["self","row","column","way"]) (λ_ _ _ _ _ _ us hl=>L2.e4 (λ_ _ _ _=>rfl) us hl),⟨a3,i3,k3⟩,F4,F4.binds (ps:=["self","laying"]) (λ_ _ _ _ _ _ us hl=>L2.e2 (λ_ _=>rfl) us hl),⟨a4,i4,k4⟩⟩
structure FP (K:W.Frag)(mg:Str->Option Value)(C f0 f1 f2 f3:Addr)(fK dH fd2 oF:FuncData):Prop where
 T:uw K C
 vZ:mg "Book"=some (.ref C)
 M:Mk K C f0
 F0:fG K "__init__" "Book.__init__" nj f0 fK
 b0:bT K fK ["self","words"] []
 F1:fG K "has" "Book.has" oU f1 dH
 b1:bT K dH ["self","text"] []
 m1:Meth K C "has" f1
 F2:fG K "words" "Book.words" lN f2 fd2
 b2:bT K fd2 ["self"] []
 m2:Meth K C "words" f2
 F3:fG K "twin" "Book.twin" nq f3 oF
 b3:bT K oF ["self"] []
 m3:Meth K C "twin" f3
def agY {h:Heap}{C f0 f1 f2 f3:Addr}(X:K.In h)(G:h.Ns mainGlobals mg){VG VH F an1 od2 an2 od3 an3:Option Addr}{Qm I sl2 KR:Array (Option Value)}{VJ VL VN VP Fz VR D kV1 dc1 Z Q5 J oc2 kV2 dc2 Y Q6 j oc3 kV3 dc3 O Q7 ct3:Value}(aC:W.nsIn K mainGlobals "Book"=some (some (.ref C)))(a0:W.findIn K (.ref C) "__init__"=some (some (.ref f0)))(i0:W.isFn K (.ref f0)=true)(l0:K.lookup f0=some ⟨VJ,VG,.func (W.fnOf "__init__" "Book.__init__" (dJ nj) (cX nj) (aJ nj) .none VL VN VP VH Fz VR),Qm⟩)(c0:W.codeIn K Fz "Book.__init__"=true)(k0:W.keepIn K (.ref f0)=true)(a1:W.findIn K (.ref C) "has"=some (some (.ref f1)))(i1:W.isFn K (.ref f1)=true)(l1:K.lookup f1=some ⟨D,F,.func (W.fnOf "has" "Book.has" (dJ oU) (cX oU) (aJ oU) .none kV1 dc1 Z an1 Q5 J),I⟩)(c1:W.codeIn K Q5 "Book.has"=true)(k1:W.keepIn K (.ref f1)=true)(a2:W.findIn K (.ref C) "words"=some (some (.ref f2)))(i2:W.isFn K (.ref f2)=true)(l2:K.lookup f2=some ⟨oc2,od2,.func (W.fnOf "words" "Book.words" (dJ lN) (cX lN) (aJ lN) .none kV2 dc2 Y an2 Q6 j),sl2⟩)(c2:W.codeIn K Q6 "Book.words"=true)(k2:W.keepIn K (.ref f2)=true)(a3:W.findIn K (.ref C) "twin"=some (some (.ref f3)))(i3:W.isFn K (.ref f3)=true)(l3:K.lookup f3=some ⟨oc3,od3,.func (W.fnOf "twin" "Book.twin" (dJ nq) (cX nq) (aJ nq) .none kV3 dc3 O an3 Q7 ct3),KR⟩)(c3:W.codeIn K Q7 "Book.twin"=true)(k3:W.keepIn K (.ref f3)=true)(pg:W.plainGet K C Str.empty=true)(hd:W.hasDictIn K C=true)(po:W.plainOver K C=true)(sa:W.findIn K (.ref C) "__setattr__"=some (some (.builtin "object.__setattr__")))(mk:W.makesIn K C=true)(kc:W.keepIn K (.ref C)=true)(yp:W.findIn K (.ref C) "held"=some none):∃C f0 f1 f2 f3 fK dH fd2 oF,FP K mg C f0 f1 f2 f3 fK dH fd2 oF:=by let F0:=gF (st:=nj) l0 c0 k0;let F1:=gF (st:=oU) l1 c1 k1;let F2:=gF (st:=lN) l2 c2 k2;let F3:=gF (st:=nq) l3 c3 k3;show⟨C,f0,f1,f2,f3,_,_,_,_,⟨⟨pg,hd,po,sa⟩,yp⟩,cf X G aC,⟨mk,a0,i0,kc⟩,F0,F0.binds (ps:=["self","words"]) (λ_ _ _ _ _ _ us hl=>L2.e2 (λ_ _=>rfl) us hl),F1,F1.binds (ps:=["self","text"]) (λ_ _ _ _ _ _ us hl=>L2.e2 (λ_ _=>rfl) us hl),⟨a1,i1,k1⟩,F2,F2.binds (ps:=["self"]) (λ_ _ _ _ _ _ us hl=>L2.e1 (λ_=>rfl) us hl),⟨a2,i2,k2⟩,F3,F3.binds (ps:=["self"]) (λ_ _ _ _ _ _ us hl=>L2.e1 (λ_=>rfl) us hl),⟨a3,i3,k3⟩⟩
structure Cm (K:W.Frag)(mg:Str->Option Value)(C f0:Addr)(fK:FuncData):Prop where
 T:aeG K C
 vZ:mg "Stand"=some (.ref C)
 M:Mk K C f0
 F0:fG K "__init__" "Stand.__init__" lM f0 fK
 b0:bT K fK ["self","board","racks","bag","points"] []
def aeI {h:Heap}{C f0:Addr}(X:K.In h)(G:h.Ns mainGlobals mg){I J:Option Addr}{Qm:Array (Option Value)}{Z O D j F Y:Value}(aC:W.nsIn K mainGlobals "Stand"=some (some (.ref C)))(a0:W.findIn K (.ref C) "__init__"=some (some (.ref f0)))(i0:W.isFn K (.ref f0)=true)(l0:K.lookup f0=some ⟨Z,I,.func (W.fnOf "__init__" "Stand.__init__" (dJ lM) (cX lM) (aJ lM) .none O D j J F Y),Qm⟩)(c0:W.codeIn K F "Stand.__init__"=true)(k0:W.keepIn K (.ref f0)=true)(pg:W.plainGet K C Str.empty=true)(hd:W.hasDictIn K C=true)(po:W.plainOver K C=true)(sa:W.findIn K (.ref C) "__setattr__"=some (some (.builtin "object.__setattr__")))(mk:W.makesIn K C=true)(kc:W.keepIn K (.ref C)=true)(yp:W.findIn K (.ref C) "board"=some none)(FJ:W.findIn K (.ref C) "racks"=some none)(FN:W.findIn K (.ref C) "bag"=some none)(V0:W.findIn K (.ref C) "points"=some none):∃C f0 fK,Cm K mg C f0 fK:=by let F0:=gF (st:=lM) l0 c0 k0;show⟨C,f0,_,⟨⟨pg,hd,po,sa⟩,yp,FJ,FN,V0⟩,cf X G aC,⟨mk,a0,i0,kc⟩,F0,F0.binds (ps:=["self","board","racks","bag","points"]) (λ_ _ _ _ _ _ us hl=>L2.e5 (λ_ _ _ _ _=>rfl) us hl)⟩
structure FQ (K:W.Frag)(mg:Str->Option Value)(C f0 f1 f2 f3 f4 f5 f6 f7 f8:Addr)(fK dH fd2 oF wg Mz MF Zg Zh:FuncData):Prop where
 T:agX K C
 vZ:mg "Game"=some (.ref C)
 M:Mk K C f0
 F0:fG K "__init__" "Game.__init__" m_ f0 fK
 b0:bT K fK ["self","board","book","worths","bonus","size","racks","bag"] []
 F1:fG K "do" "Game.do" n_ f1 dH
 b1:bT K dH ["self","deed"] []
 m1:Meth K C "do" f1
 F2:fG K "back" "Game.back" kZ f2 fd2
 b2:bT K fd2 ["self"] []
 m2:Meth K C "back" f2
 F3:fG K "board_now" "Game.board_now" je f3 oF
 b3:bT K oF ["self"] []
 m3:Meth K C "board_now" f3
 F4:fG K "racks_now" "Game.racks_now" jf f4 wg
 b4:bT K wg ["self"] []
 m4:Meth K C "racks_now" f4
 F5:fG K "bag_now" "Game.bag_now" jG f5 Mz
 b5:bT K Mz ["self"] []
 m5:Meth K C "bag_now" f5
 F6:fG K "points_now" "Game.points_now" iQ f6 MF
 b6:bT K MF ["self"] []
 m6:Meth K C "points_now" f6
 F7:fG K "turn" "Game.turn" ni f7 Zg
 b7:bT K Zg ["self"] []
 m7:Meth K C "turn" f7
 F8:fG K "is_over" "Game.is_over" jH f8 Zh
 b8:bT K Zh ["self"] []
 m8:Meth K C "is_over" f8
def agZ {h:Heap}{C f0 f1 f2 f3 f4 f5 f6 f7 f8:Addr}(X:K.In h)(G:h.Ns mainGlobals mg){VG VH od1 an1 od2 an2 od3 an3 od4 an4 od5 an5 od6 an6 od7 an7 od8 an8:Option Addr}{Qm sl1 sl2 KR sl4 sl5 sl6 sl7 sl8:Array (Option Value)}{VJ VL VN VP Fz VR Z kV1 dc1 pm1 Q5 ct1 oc2 kV2 dc2 pm2 Q6 Y oc3 kV3 dc3 pm3 Q7 ct3 oc4 kV4 dc4 pm4 F ct4 oc5 kV5 dc5 pm5 D ct5 oc6 kV6 dc6 pm6 j ct6 oc7 kV7 dc7 pm7 J ct7 oc8 O dc8 pm8 I ct8:Value}(aC:W.nsIn K mainGlobals "Game"=some (some (.ref C)))(a0:W.findIn K (.ref C) "__init__"=some (some (.ref f0)))(i0:W.isFn K (.ref f0)=true)(l0:K.lookup f0=some ⟨VJ,VG,.func (W.fnOf "__init__" "Game.__init__" (dJ m_) (cX m_) (aJ m_) .none VL VN VP VH Fz VR),Qm⟩)(c0:W.codeIn K Fz "Game.__init__"=true)(k0:W.keepIn K (.ref f0)=true)(a1:W.findIn K (.ref C) "do"=some (some (.ref f1)))(i1:W.isFn K (.ref f1)=true)(l1:K.lookup f1=some ⟨Z,od1,.func (W.fnOf "do" "Game.do" (dJ n_) (cX n_) (aJ n_) .none kV1 dc1 pm1 an1 Q5 ct1),sl1⟩)(c1:W.codeIn K Q5 "Game.do"=true)(k1:W.keepIn K (.ref f1)=true)(a2:W.findIn K (.ref C) "back"=some (some (.ref f2)))(i2:W.isFn K (.ref f2)=true)(l2:K.lookup f2=some ⟨oc2,od2,.func (W.fnOf "back" "Game.back" (dJ kZ) (cX kZ) (aJ kZ) .none kV2 dc2 pm2 an2 Q6 Y),sl2⟩)(c2:W.codeIn K Q6 "Game.back"=true)(k2:W.keepIn K (.ref f2)=true)(a3:W.findIn K (.ref C) "board_now"=some (some (.ref f3)))(i3:W.isFn K (.ref f3)=true)(l3:K.lookup f3=some ⟨oc3,od3,.func (W.fnOf "board_now" "Game.board_now" (dJ je) (cX je) (aJ je) .none kV3 dc3 pm3 an3 Q7 ct3),KR⟩)(c3:W.codeIn K Q7 "Game.board_now"=true)(k3:W.keepIn K (.ref f3)=true)(a4:W.findIn K (.ref C) "racks_now"=some (some (.ref f4)))(i4:W.isFn K (.ref f4)=true)(l4:K.lookup f4=some ⟨oc4,od4,.func (W.fnOf "racks_now" "Game.racks_now" (dJ jf) (cX jf) (aJ jf) .none kV4 dc4 pm4 an4 F ct4),sl4⟩)(c4:W.codeIn K F "Game.racks_now"=true)(k4:W.keepIn K (.ref f4)=true)(a5:W.findIn K (.ref C) "bag_now"=some (some (.ref f5)))(i5:W.isFn K (.ref f5)=true)(l5:K.lookup f5=some ⟨oc5,od5,.func (W.fnOf "bag_now" "Game.bag_now" (dJ jG) (cX jG) (aJ jG) .none kV5 dc5 pm5 an5 D ct5),sl5⟩)(c5:W.codeIn K D "Game.bag_now"=true)(k5:W.keepIn K (.ref f5)=true)(a6:W.findIn K (.ref C) "points_now"=some (some (.ref f6)))(i6:W.isFn K (.ref f6)=true)(l6:K.lookup f6=some ⟨oc6,od6,.func (W.fnOf "points_now" "Game.points_now" (dJ iQ) (cX iQ) (aJ iQ) .none kV6 dc6 pm6 an6 j ct6),sl6⟩)(c6:W.codeIn K j "Game.points_now"=true)(k6:W.keepIn K (.ref f6)=true)(a7:W.findIn K (.ref C) "turn"=some (some (.ref f7)))(i7:W.isFn K (.ref f7)=true)(l7:K.lookup f7=some ⟨oc7,od7,.func (W.fnOf "turn" "Game.turn" (dJ ni) (cX ni) (aJ ni) .none kV7 dc7 pm7 an7 J ct7),sl7⟩)(c7:W.codeIn K J "Game.turn"=true)(k7:W.keepIn K (.ref f7)=true)(a8:W.findIn K (.ref C) "is_over"=some (some (.ref f8)))(i8:W.isFn K (.ref f8)=true)(l8:K.lookup f8=some ⟨oc8,od8,.func (W.fnOf "is_over" "Game.is_over" (dJ jH) (cX jH) (aJ jH) .none O dc8 pm8 an8 I ct8),sl8⟩)(c8:W.codeIn K I "Game.is_over"=true)(k8:W.keepIn K (.ref f8)=true)(pg:W.plainGet K C Str.empty=true)(hd:W.hasDictIn K C=true)(po:W.plainOver K C=true)(sa:W.findIn K (.ref C) "__setattr__"=some (some (.builtin "object.__setattr__")))(mk:W.makesIn K C=true)(kc:W.keepIn K (.ref C)=true)(yp:W.findIn K (.ref C) "book"=some none)(FJ:W.findIn K (.ref C) "worths"=some none)(FN:W.findIn K (.ref C) "bonus"=some none)(V0:W.findIn K (.ref C) "size"=some none)(nf4:W.findIn K (.ref C) "stands"=some none)(nf5:W.findIn K (.ref C) "done"=some none):∃C f0 f1 f2 f3 f4 f5 f6 f7 f8 fK dH fd2 oF wg Mz MF Zg Zh,FQ K mg C f0 f1 f2 f3 f4 f5 f6 f7 f8 fK dH fd2 oF wg Mz MF Zg Zh:=by let F0:=gF (st:=m_) l0 c0 k0;let F1:=gF (st:=n_) l1 c1 k1;let F2:=gF (st:=kZ) l2 c2 k2;let F3:=gF (st:=je) l3 c3 k3;let F4:=gF (st:=jf) l4 c4 k4;let F5:=gF (st:=jG) l5 c5 k5;let F6:=gF (st:=iQ) l6 c6 k6;let F7:=gF (st:=ni) l7 c7 k7;let F8:=gF (st:=jH) l8 c8 k8;show⟨C,f0,f1,f2,f3,f4,f5,f6,f7,f8,_,_,_,_,_,_,_,_,_,⟨⟨pg,hd,po,sa⟩,yp,FJ,FN,V0,nf4,nf5⟩,cf X G aC,⟨mk,a0,i0,kc⟩,F0,F0.binds (ps:=["self","board","book","worths","bonus","size","racks","bag"]) (λ_ _ _ _ _ _ us hl=>L2.e8 (λ_ _ _ _ _ _ _ _=>rfl) us hl),F1,F1.binds (ps:=["self","deed"]) (λ_ _ _ _ _ _ us hl=>L2.e2 (λ_ _=>rfl) us hl),⟨a1,i1,k1⟩,F2,F2.binds (ps:=["self"]) (λ_ _ _ _ _ _ us hl=>L2.e1 (λ_=>rfl) us hl),⟨a2,i2,k2⟩,F3,F3.binds (ps:=["self"]) (λ_ _ _ _ _ _ us hl=>L2.e1 (λ_=>rfl) us hl),⟨a3,i3,k3⟩,F4,F4.binds (ps:=["self"]) (λ_ _ _ _ _ _ us hl=>L2.e1 (λ_=>rfl) us hl),⟨a4,i4,k4⟩,F5,F5.binds (ps:=["self"]) (λ_ _ _ _ _ _ us hl=>L2.e1 (λ_=>rfl) us hl),⟨a5,i5,k5⟩,F6,F6.binds (ps:=["self"]) (λ_ _ _ _ _ _ us hl=>L2.e1 (λ_=>rfl) us hl),⟨a6,i6,k6⟩,F7,F7.binds (ps:=["self"]) (λ_ _ _ _ _ _ us hl=>L2.e1 (λ_=>rfl) us hl),⟨a7,i7,k7⟩,F8,F8.binds (ps:=["self"]) (λ_ _ _ _ _ _ us hl=>L2.e1 (λ_=>rfl) us hl),⟨a8,i8,k8⟩⟩
structure aeJ (K:W.Frag)(mg:Str->Option Value)(dj d_ iC g_ jL cB dU CR jw nQ gQ iU:Addr)(qb vK mO oG:FuncData):Prop where
 Cp:mg "NoLaying"=some (.ref dj)
 alS:mg "Taken"=some (.ref d_)
 acS:mg "Crooked"=some (.ref iC)
 alT:mg "Gap"=some (.ref g_)
 ag0:mg "Apart"=some (.ref jL)
 Q8:mg "Lacking"=some (.ref cB)
 alR:mg "NoWord"=some (.ref dU)
 mR:mg "RackError"=some (.ref CR)
 I:InitOf K CR
 tQ:W.excIn K dj jl "ValueError.__new__"=true
 vL:W.excIn K iC jl "ValueError.__new__"=true
 Bm:W.excIn K jL jl "ValueError.__new__"=true
 Ht:qF K mg "Taken" d_ jw ["row","column"]
 Hu:fG K "__init__" "Taken.__init__" lH jw qb
 N6:bT K qb ["self","row","column"] []
 R7:qF K mg "Gap" g_ nQ ["row","column"]
 R8:fG K "__init__" "Gap.__init__" oN nQ vK
 aap:bT K vK ["self","row","column"] []
 zp:qF K mg "Lacking" cB gQ ["tile"]
 zq:fG K "__init__" "Lacking.__init__" jD gQ mO
 Fg:bT K mO ["self","tile"] []
 Cq:qF K mg "NoWord" dU iU ["word"]
 Cr:fG K "__init__" "NoWord.__init__" kj iU oG
 Cg:bT K oG ["self","word"] []
 M:R5 K CR ⟨dj,d_,iC,g_,jL,cB,dU⟩
def ag1 {h:Heap}{dj d_ iC g_ jL cB dU CR jw nQ gQ iU:Addr}(X:K.In h)(G:h.Ns mainGlobals mg){aeK aeL ajF ajG aaN aaO acT Y:Option Addr}{I ajH aaP O:Array (Option Value)}{aeN aeO aeP aeQ V1 aeR ajI ajJ J ajL D ajM aaQ aaR F aaT MN aaU acX Z acZ ac0 Q9 ac1:Value}(oY:W.nsIn K mainGlobals "NoLaying"=some (some (.ref dj)))(Hv:W.nsIn K mainGlobals "Taken"=some (some (.ref d_)))(FT:W.nsIn K mainGlobals "Crooked"=some (some (.ref iC)))(R9:W.nsIn K mainGlobals "Gap"=some (some (.ref g_)))(Oz:W.nsIn K mainGlobals "Apart"=some (some (.ref jL)))(oH:W.nsIn K mainGlobals "Lacking"=some (some (.ref cB)))(Cu:W.nsIn K mainGlobals "NoWord"=some (some (.ref dU)))(aR:W.nsIn K mainGlobals "RackError"=some (some (.ref CR)))(tQ:W.excIn K dj jl "ValueError.__new__"=true)(vL:W.excIn K iC jl "ValueError.__new__"=true)(Bm:W.excIn K jL jl "ValueError.__new__"=true)(OD:W.exmOne K (.ref d_) (.ref CR)=some true)(FW:W.exmOne K (.ref iC) (.ref CR)=some true)(aaV:W.exmOne K (.ref g_) (.ref CR)=some true)(OJ:W.exmOne K (.ref jL) (.ref CR)=some true)(FZ:W.exmOne K (.ref cB) (.ref CR)=some true)(JH:W.exmOne K (.ref dU) (.ref CR)=some true)(V2:W.findIn K (.ref d_) "__init__"=some (some (.ref jw)))(JK:W.isFn K (.ref jw)=true)(JL:K.lookup jw=some ⟨aeN,aeK,.func (W.fnOf "__init__" "Taken.__init__" (dJ lH) (cX lH) (aJ lH) .none aeO aeP aeQ aeL V1 aeR),I⟩)(JM:W.codeIn K V1 "Taken.__init__"=true)(JN:W.keepIn K (.ref jw)=true)(Ga:yI K d_ jw=true)(JQ:W.keepIn K (.ref d_)=true)(JR:((W.clsIn K d_).any λcd=>cd.hasDict&&uf cd.mro)=true)(JT:W.findIn K (.ref d_) "__setattr__"=some (some (.builtin "object.__setattr__")))(JV:W.hasDictIn K d_=true)(zX:W.findIn K (.ref d_) "row"=some none)(uH:W.findIn K (.ref d_) "column"=some none)(ac2:W.findIn K (.ref g_) "__init__"=some (some (.ref nQ)))(V3:W.isFn K (.ref nQ)=true)(V4:K.lookup nQ=some ⟨ajI,ajF,.func (W.fnOf "__init__" "Gap.__init__" (dJ oN) (cX oN) (aJ oN) .none ajJ J ajL ajG D ajM),ajH⟩)(V5:W.codeIn K D "Gap.__init__"=true)(V6:W.keepIn K (.ref nQ)=true)(O1:yI K g_ nQ=true)(V7:W.keepIn K (.ref g_)=true)(V8:((W.clsIn K g_).any λcd=>cd.hasDict&&uf cd.mro)=true)(V9:W.findIn K (.ref g_) "__setattr__"=some (some (.builtin "object.__setattr__")))(V_:W.hasDictIn K g_=true)(Gb:W.findIn K (.ref g_) "row"=some none)(yq:W.findIn K (.ref g_) "column"=some none)(MP:W.findIn K (.ref cB) "__init__"=some (some (.ref gQ)))(Cv:W.isFn K (.ref gQ)=true)(Cw:K.lookup gQ=some ⟨aaQ,aaN,.func (W.fnOf "__init__" "Lacking.__init__" (dJ jD) (cX jD) (aJ jD) .none aaR F aaT aaO MN aaU),aaP⟩)(Cy:W.codeIn K MN "Lacking.__init__"=true)(Cz:W.keepIn K (.ref gQ)=true)(zY:yI K cB gQ=true)(CJ:W.keepIn K (.ref cB)=true)(CP:((W.clsIn K cB).any λcd=>cd.hasDict&&uf cd.mro)=true)(CQ:W.findIn K (.ref cB) "__setattr__"=some (some (.builtin "object.__setattr__")))(CV:W.hasDictIn K cB=true)(uI:W.findIn K (.ref cB) "tile"=some none)(Q_:W.findIn K (.ref dU) "__init__"=some (some (.ref iU)))(Gd:W.isFn K (.ref iU)=true)(Ge:K.lookup iU=some ⟨acX,acT,.func (W.fnOf "__init__" "NoWord.__init__" (dJ kj) (cX kj) (aJ kj) .none Z acZ ac0 Y Q9 ac1),O⟩)(Gf:W.codeIn K Q9 "NoWord.__init__"=true)(Gg:W.keepIn K (.ref iU)=true)(CZ:yI K dU iU=true)(Gh:W.keepIn K (.ref dU)=true)(Gi:((W.clsIn K dU).any λcd=>cd.hasDict&&uf cd.mro)=true)(Gj:W.findIn K (.ref dU) "__setattr__"=some (some (.builtin "object.__setattr__")))(Gk:W.hasDictIn K dU=true)(vO:W.findIn K (.ref dU) "word"=some none)(hn:W.specialIn K (.builtin "object.__class__") "__get__"=some (some (.builtin "getset_descriptor.__get__")))(ht:W.takesIn K (.builtin "object.__class__")=some true)(JW:(W.clsIn K d_).isSome=true)(JX:W.findIn K (.ref d_) "__getattribute__"=some (some (.builtin "BaseException.__getattribute__")))(JZ:W.findIn K (.ref d_) "__getattr__"=some none)(J0:W.findIn K (.ref d_) "__class__"=some (some (.builtin "object.__class__")))(C_:W.mroIn K d_ (.type "object")=some true)(J1:W.mroIn K d_ (.type "BaseException")=some true)(Wa:(W.clsIn K g_).isSome=true)(Wb:W.findIn K (.ref g_) "__getattribute__"=some (some (.builtin "BaseException.__getattribute__")))(Wc:W.findIn K (.ref g_) "__getattr__"=some none)(Wd:W.findIn K (.ref g_) "__class__"=some (some (.builtin "object.__class__")))(M4:W.mroIn K g_ (.type "object")=some true)(Wf:W.mroIn K g_ (.type "BaseException")=some true)(Dc:(W.clsIn K cB).isSome=true)(Dd:W.findIn K (.ref cB) "__getattribute__"=some (some (.builtin "BaseException.__getattribute__")))(Df:W.findIn K (.ref cB) "__getattr__"=some none)(Dg:W.findIn K (.ref cB) "__class__"=some (some (.builtin "object.__class__")))(wW:W.mroIn K cB (.type "object")=some true)(Dh:W.mroIn K cB (.type "BaseException")=some true)(Gn:(W.clsIn K dU).isSome=true)(Gp:W.findIn K (.ref dU) "__getattribute__"=some (some (.builtin "BaseException.__getattribute__")))(Gq:W.findIn K (.ref dU) "__getattr__"=some none)(Gr:W.findIn K (.ref dU) "__class__"=some (some (.builtin "object.__class__")))(zu:W.mroIn K dU (.type "object")=some true)(Gs:W.mroIn K dU (.type "BaseException")=some true)(g2:W.specialIn K (.ref CR) "__getattribute__"=some (some (.builtin "type.__getattribute__")))(rd:W.readsIn K CR (.type "type")=true)(fc:W.findCls K (.ref CR) (.type "type") "__init__"=some (.val (.builtin "ValueError.__init__")))
  : ∃dj d_ iC g_ jL cB dU CR jw nQ gQ iU qb vK mO oG,aeJ K mg dj d_ iC g_ jL cB dU CR jw nQ gQ iU qb vK mO oG:=by
 let Hu:=gF (st:=lH) JL JM JN;let R8:=gF (st:=oN) V4 V5 V6;let zq:=gF (st:=jD) Cw Cy Cz;let Cr:=gF (st:=kj) Ge Gf Gg;let Ht:qF K mg "Taken" d_ jw ["row","column"]:=⟨cf X G Hv,⟨Ga,JK,JQ⟩,⟨JR,C_,JT⟩,⟨JW,JX,JZ,J0,hn,ht,C_,J1⟩,JV,λg j=>by
  rcases bX.mp j with z|z;.rw[z];show zX
  .rw[a_.mp z];show uH⟩
 let R7:qF K mg "Gap" g_ nQ ["row","column"]:=⟨cf X G R9,⟨O1,V3,V7⟩,⟨V8,M4,V9⟩,⟨Wa,Wb,Wc,Wd,hn,ht,M4,Wf⟩,V_,λg j=>by
  rcases bX.mp j with z|z;.rw[z];show Gb
  .rw[a_.mp z];show yq⟩
 let zp:qF K mg "Lacking" cB gQ ["tile"]:=⟨cf X G oH,⟨zY,Cv,CJ⟩,⟨CP,wW,CQ⟩,⟨Dc,Dd,Df,Dg,hn,ht,wW,Dh⟩,CV,λg j=>by rw[a_.mp j];show uI⟩
 let Cq:qF K mg "NoWord" dU iU ["word"]:=⟨cf X G Cu,⟨CZ,Gd,Gh⟩,⟨Gi,zu,Gj⟩,⟨Gn,Gp,Gq,Gr,hn,ht,zu,Gs⟩,Gk,λg j=>by rw[a_.mp j];show vO⟩
 show⟨dj,d_,iC,g_,jL,cB,dU,CR,jw,nQ,gQ,iU,_,_,_,_,⟨cf X G oY,cf X G Hv,cf X G FT,cf X G R9,cf X G Oz,cf X G oH,cf X G Cu,cf X G aR,⟨g2,rd,fc⟩,tQ,vL,Bm,Ht,Hu,Hu.binds (ps:=["self","row","column"]) (λ_ _ _ _ _ _ us hl=>L2.e3 (λ_ _ _=>rfl) us hl),R7,R8,R8.binds (ps:=["self","row","column"]) (λ_ _ _ _ _ _ us hl=>L2.e3 (λ_ _ _=>rfl) us hl),zp,zq,zq.binds (ps:=["self","tile"]) (λ_ _ _ _ _ _ us hl=>L2.e2 (λ_ _=>rfl) us hl),Cq,Cr,Cr.binds (ps:=["self","word"]) (λ_ _ _ _ _ _ us hl=>L2.e2 (λ_ _=>rfl) us hl),⟨OD,FW,aaV,OJ,FZ,JH⟩⟩⟩
structure aeS (K:W.Frag)(mg:Str->Option Value)(fY eE kJ nD dj cB CR:Addr):Prop where
 Wg:mg "Over"=some (.ref fY)
 J2:mg "NoBack"=some (.ref eE)
 Wh:mg "NoDeed"=some (.ref kJ)
 aeT:mg "TooFew"=some (.ref nD)
 Cp:mg "NoLaying"=some (.ref dj)
 Q8:mg "Lacking"=some (.ref cB)
 mR:mg "RackError"=some (.ref CR)
 Gu:W.excIn K fY jl "ValueError.__new__"=true
 yr:W.excIn K eE jl "ValueError.__new__"=true
 O:Ov K fY CR eE kJ dj cB nD
 N:Nb K eE CR fY kJ
def ag2 {h:Heap}{fY eE kJ nD dj cB CR:Addr}(X:K.In h)(G:h.Ns mainGlobals mg)(Wi:W.nsIn K mainGlobals "Over"=some (some (.ref fY)))(J3:W.nsIn K mainGlobals "NoBack"=some (some (.ref eE)))(J4:W.nsIn K mainGlobals "NoDeed"=some (some (.ref kJ)))(J5:W.nsIn K mainGlobals "TooFew"=some (some (.ref nD)))(oY:W.nsIn K mainGlobals "NoLaying"=some (some (.ref dj)))(oH:W.nsIn K mainGlobals "Lacking"=some (some (.ref cB)))(aR:W.nsIn K mainGlobals "RackError"=some (some (.ref CR)))(hn:W.specialIn K (.builtin "object.__class__") "__get__"=some (some (.builtin "getset_descriptor.__get__")))(ht:W.takesIn K (.builtin "object.__class__")=some true)(Gu:W.excIn K fY jl "ValueError.__new__"=true)(Wj:W.exmOne K (.ref fY) (.ref CR)=some true)(O2:(W.clsIn K fY).isSome=true)(O4:W.findIn K (.ref fY) "__getattribute__"=some (some (.builtin "BaseException.__getattribute__")))(O5:W.findIn K (.ref fY) "__getattr__"=some none)(O6:W.findIn K (.ref fY) "__class__"=some (some (.builtin "object.__class__")))(O7:W.mroIn K fY (.type "object")=some true)(O8:W.mroIn K fY (.type "BaseException")=some true)(Wk:W.kitOne K (.ref fY) (.ref fY)=some true)(Wm:W.kitOne K (.ref fY) (.type "ValueError")=some true)(yr:W.excIn K eE jl "ValueError.__new__"=true)(J6:W.exmOne K (.ref eE) (.ref CR)=some true)(Gv:(W.clsIn K eE).isSome=true)(Gw:W.findIn K (.ref eE) "__getattribute__"=some (some (.builtin "BaseException.__getattribute__")))(Gx:W.findIn K (.ref eE) "__getattr__"=some none)(Gy:W.findIn K (.ref eE) "__class__"=some (some (.builtin "object.__class__")))(Gz:W.mroIn K eE (.type "object")=some true)(GC:W.mroIn K eE (.type "BaseException")=some true)(J7:W.kitOne K (.ref eE) (.ref eE)=some true)(J8:W.kitOne K (.ref eE) (.type "ValueError")=some true)(J9:W.kitOne K (.ref fY) (.ref eE)=some false)(J_:W.kitOne K (.ref fY) (.ref kJ)=some false)(Di:W.kitOne K (.ref fY) (.ref dj)=some false)(GD:W.kitOne K (.ref fY) (.ref cB)=some false)(Ka:W.kitOne K (.ref fY) (.ref nD)=some false)(Wn:W.kitOne K (.ref eE) (.ref fY)=some false)(Kc:W.kitOne K (.ref eE) (.ref kJ)=some false)
  : ∃fY eE kJ nD dj cB CR,aeS K mg fY eE kJ nD dj cB CR:=
 ⟨fY,eE,kJ,nD,dj,cB,CR,cf X G Wi,cf X G J3,cf X G J4,cf X G J5,cf X G oY,cf X G oH,cf X G aR,Gu,yr,⟨⟨O2,O4,O5,O6,hn,ht,O7,O8⟩,Wj,Wk,Wm,J9,J_,Di,GD,Ka⟩,⟨⟨Gv,Gw,Gx,Gy,hn,ht,Gz,GC⟩,J6,J7,J8,Wn,Kc⟩⟩
theorem ag3 (D:mg "len"=none)(fQ:mg "range"=none)(J:mg "tuple"=none)(i_:mg "list"=none)(Fv:mg "dict"=none)(iR:mg "sorted"=none)(Z:mg "isinstance"=none)(mK:mg "bool"=none)(pP:mg "int"=none)(wU:mg "str"=none)(gA:mg "all"=none)(zc:mg "any"=none)(LQ:mg "zip"=none)(tM:mg "min"=none)(zf:mg "max"=none)(Ml:mg "sum"=none)(qN:mg "enumerate"=none)(jW:mg "ValueError"=none)(gY:∃t,mg "FREE"=some (.str (S [46]) t))(Aw:∃t,mg "MARKS"=some (.str (S MK) t))(Aq:∃t,mg "MOST"=some (.int 9 t))(pY:∃t,mg "MOST_TILES"=some (.int 7 t))(wX:aN K mg "is_whole" rY ["thing"])(GJ:aN K mg "is_sign" yJ ["thing"])(zZ:aN K mg "letter_of" uM ["sign"])(GP:aN K mg "tile_of" yK ["sign"])(GQ:aN K mg "left_of" yL ["rack","signs"])(Dj:aN K mg "is_block" wJ ["thing"])(Dk:aN K mg "are_rows" wK ["thing"])(z9:aN K mg "are_marks" uO ["thing"])(tR:aN K mg "is_cell_of" pW ["rows","row","column"])(vP:aN K mg "is_begin_of" qQ ["rows","thing"])(Dl:aN K mg "is_board" wL ["rows","marks","begin"])(vQ:aN K mg "column_text" qR ["rows","column"])(z_:aN K mg "is_triple" uP ["board","thing"])(Aa:aN K mg "is_laying" uQ ["board","thing"])(Dm:aN K mg "cells_of" wM ["laying"])(uY:aN K mg "is_across" qK ["laying"])(GR:aN K mg "is_down" yM ["laying"])(qe:aN K mg "is_next_to_taken" mF ["board","row","column"])(Kd:aN K mg "formed" BP ["board","laying"])(yt:aN K mg "check_free" rZ ["board","laying"])(rB:aN K mg "check_straight" oR ["laying"])(yu:aN K mg "check_gaps" su ["board","laying"])(uJ:aN K mg "check_joined" qm ["board","laying"])(vR:aN K mg "check_words" qW ["board","book","laying"])(uK:aN K mg "check_laying" qp ["board","book","rack","laying"])(Dn:aN K mg "worth_of" wN ["worths","sign"])(GX:aN K mg "cell_in" yN ["word","place"])(vU:aN K mg "word_points" qX ["board","worths","laying","word"])(Dp:aN K mg "bonus_of" wO ["bonus","laying"])(Ab:aN K mg "points_of" uR ["board","worths","bonus","laying"])(vV:aN K mg "left_behind" qY ["rack","laying"])(Ac:aN K mg "are_tiles" uT ["thing"])(zx:aN K mg "is_deed" vo ["thing"])(Dq:aN K mg "in_order" wQ ["tiles"])(Ad:aN K mg "exchanged" uU ["things","place","thing"])(tU:aN K mg "behind_laying" pN ["stand","turn","size","laying","points"])(vW:aN K mg "behind_swap" qZ ["stand","turn","tiles"])(GZ:aN K mg "is_word" yO ["text"])(yw:aN K mg "check_word" sO ["text"])(G3:aN K mg "_law_cell_at" yP ["_law_script","_law_k"])(Ke:aN K mg "_law_stream" BR ["_law_cell","_law_many"])(G4:aN K mg "_law_letters" yQ ["_law_cell"])(O9:aN K mg "_law_words" Hh ["_law_cell","_law_letters_here"])(Wo:aN K mg "_law_rows" Lh ["_law_cell","_law_letters_here"])(O_:aN K mg "_law_tiles" Hi ["_law_cell","_law_letters_here","_law_many","_law_blanks"])(Pa:aN K mg "_law_parts" Hj ["_law_script"])(Pb:aN K mg "_law_begun" Hl ["_law_parts_here"])(Ae:aN K mg "_law_candidate" uV ["_law_rows_here","_law_word","_law_place","_law_rack"])(Wq:aN K mg "_law_lets" Lj ["_law_board","_law_book","_law_rack","_law_laying_here"])(Kf:aN K mg "_law_laying" BW ["_law_board","_law_book","_law_words_here","_law_rack","_law_cell"])(Ws:aN K mg "_law_deed" Lk ["_law_now","_law_book","_law_words_here","_law_cell"])(Hw:aN K mg "_law_taken" Al ["_law_rack","_law_tiles_here"])(Wt:aN K mg "_law_next" Lp ["_law_now","_law_parts_here","_law_deed_here"])(Kg:aN K mg "_law_stands" BX ["_law_game","_law_now"])(Wu:aN K mg "_law_over" Lq ["_law_game","_law_deed_here"])(G5:aN K mg "_law_no_back" yR ["_law_game"])(Pg:aN K mg "_law_ended" Ho ["_law_game","_law_now"])(Kh:aN K mg "_law_passed" BZ ["_law_game","_law_parts_here","_law_now"]){pG ag4 ag5 ag6 ag7 ag8:Addr}{aeU aeV aeW aeX aeY:FuncData}(I:Ck K mg pG ag4 ag5 ag6 ag7 ag8 aeU aeV aeW aeX aeY){yx ajN ajO ajP ajQ:Addr}{ag9 aha ahb ahc:FuncData}(G:FP K mg yx ajN ajO ajP ajQ ag9 aha ahb ahc){Ph ahd:Addr}{aeZ:FuncData}(Y:Cm K mg Ph ahd aeZ){ajR ajS ajT ajU ajV ajW ajX ajY ajZ aj0:Addr}{ahe ahf ahg ahh ahi ahj ahk ahl ahm:FuncData}(j:FQ K mg ajR ajS ajT ajU ajV ajW ajX ajY ajZ aj0 ahe ahf ahg ahh ahi ahj ahk ahl ahm){gl gw:Addr}{tb:Tok}(kl:mg "LETTER_MARKS"=some (.ref gl)/\∀P:Program,KDict P w K gl Yu)(kw:mg "WORD_MARKS"=some (.ref gw)/\∀P:Program,KDict P w K gw Yv)(zb:tb≠0/\mg "BLANK"=some (.str (S [63]) tb)){dj d_ iC g_ jL cB dU CR jw nQ gQ iU:Addr}{qb vK mO oG:FuncData}(R:aeJ K mg dj d_ iC g_ jL cB dU CR jw nQ gQ iU qb vK mO oG)
{aj1 ae0 ae1 ae2 aaW ac3:Addr} {CS:Addr} (O:aeS K mg aj1 ae0 ae1 ae2 aaW ac3 CS)
  {f:Addr} {fd:FuncData} (F:fG K "law" "law" RW f fd):cj P w K mg base dN 20 f fd ["_law_script"] (RM K):=by
 let p1:=aaf (P:=P) (w:=w) (base:=base) GJ D wU Z;let p2:=WY (P:=P) (w:=w) (base:=base) wX pP mK Z;let p3:=W0 (P:=P) (w:=w) (base:=base) Dj D J wU gA Z Aq;let p4:=W2 Dk gA gY p3 p1;let p5:=TY z9 gA Aw p3;let p6:=Ri tR D p2;let p7:=Ny vP D J Z p6;let p8:=W3 Dl D p4 p5 p7;let p9:=NK (P:=P) (w:=w) (base:=base) vQ;let g0:=Rk I.F0 I.T p8;let g1:=akB I.F1 I.T gY p6;let g2:=aal (P:=P) (w:=w) (base:=base) I.F2 I.T gA gY;let g3:=aiR I.F3 I.T D gY p9;let g4:=agt I.F4 I.T i_ J I.vZ I.M g0 I.b0;let w1:=aaq (P:=P) (w:=w) (base:=base) GZ D gA;let w2:=Rr yw w1;let k0:=agB G.F0 G.T w2;let k1:=aiW (P:=P) (w:=w) (mg:=mg) (base:=base) G.F1 G.T;let k2:=aed (P:=P) (w:=w) (base:=base) G.F2 G.T iR J;let k3:=agI G.F3 G.T G.vZ G.M k0 G.b0 G.m2 k2 G.b2;let x4:=T6 (P:=P) (w:=w) (base:=base) uY gA;let x5:=ab7 Kd D J I.T I.m4 g4 I.b4 I.m3 g3 I.b3 x4;let y1:=T9 (P:=P) (w:=w) (base:=base) wX pP mK Z;let y2:=NZ tR D y1;let y3:=T_ z_ D J Z I.T y2 p1;let y4:=W8 (P:=P) (w:=w) (base:=base) Dm;let y5:=Ub Aa D J Z gA LQ pY y3 y4;let e1:=agv (P:=P) (w:=w) (base:=base) R.Hu R.mR R.I R.Ht;let e2:=aiT (P:=P) (w:=w) (base:=base) R.R8 R.mR R.I R.R7;let e3:=aas (P:=P) (w:=w) (base:=base) R.zq R.mR R.I R.zp;let e4:=acj (P:=P) (w:=w) (base:=base) R.Cr R.mR R.I R.Cq;let z1:=Rn (P:=P) (w:=w) (base:=base) uY gA;let z2:=aan (P:=P) (w:=w) (base:=base) GR gA;let z3:=Ro qe zc gY I.T I.m1 g1 I.b1;let z4:=Ud (P:=P) (w:=w) (base:=base) zZ;let z5:=aar (P:=P) (w:=w) (base:=base) GP;let q1:=Rp yt gY I.T I.m1 g1 I.b1 R.Ht e1 R.N6;let q2:=HS rB R.acS R.vL z1 z2;let q3:=Rq yu fQ gY I.T I.m1 g1 I.b1 I.m4 g4 I.b4 R.R7 e2 R.aap;let q4:=Mf uJ zc I.T I.m2 g2 I.b2 R.ag0 R.Bm y4 z3;let q5:=aat GQ i_ iR R.zp e3 R.Fg z5;let q6:=N_ vR G.T G.m1 k1 G.b1 R.Cq e4 R.Cg x5 z4;let q7:=Mj (c:=⟨dj,d_,iC,g_,jL,cB,dU⟩) uK R.Cp R.tQ y5 q1 q2 q3 q4 q5 q6;let t1:=aay (P:=P) (w:=w) (base:=base) GX;let t2:=Xc (P:=P) (w:=w) (base:=base) Dn;let t3:=acp vU qN I.T kl.1 kw.1 (kl.2 P) (kw.2 P) y4 t1 t2;let t4:=Xd (P:=P) (w:=w) (base:=base) Dp D;let t5:=UJ Ab Ml x5 t3 t4;let u1:=Xe (P:=P) (w:=w) (base:=base) Dq iR;let u2:=U3 (P:=P) (w:=w) (base:=base) Ad;let u3:=Og vV q5;let u4:=U6 (P:=P) (w:=w) (base:=base) Ac Z wU gA ⟨tb,zb.2⟩;let u5:=aaE zx Z J D u4;let s0:=Rv (P:=P) (w:=w) (mg:=mg) (base:=base) Y.F0 Y.T;let u6:=Jx tU zf D I.T Y.T Y.vZ Y.M s0 Y.b0 I.m4 g4 I.b4 u3 u1 u2;let u7:=Oj (C:=pG) vW D ⟨tb,zb⟩ Y.T Y.vZ Y.M s0 Y.b0 q5 u1 u2;let a3:=U9 (P:=P) (w:=w) (mg:=mg) (base:=base) (C:=pG) (CB:=yx) j.F3 j.T Y.T;let a4:=U_ (P:=P) (w:=w) (mg:=mg) (base:=base) (C:=pG) (CB:=yx) j.F4 j.T Y.T;let a5:=aaF (P:=P) (w:=w) (mg:=mg) (base:=base) (C:=pG) (CB:=yx) j.F5 j.T Y.T;let a6:=Rx (P:=P) (w:=w) (mg:=mg) (base:=base) (C:=pG) (CB:=yx) j.F6 j.T Y.T;let a7:=agG j.F7 j.T D j.m4 a4 j.b4;let a8:=aaG j.F8 j.T D j.m4 a4 j.b4 j.m5 a5 j.b5;let a2:=agH (P:=P) (w:=w) (mg:=mg) (base:=base) (C:=pG) (CS:=Ph) (CB:=yx) j.F2 j.T;let a1:=akH j.F1 j.T Y.T j.m8 a8 j.b8 j.m7 a7 j.b7 u5 q7 t5 u6 u7;let a0:=Vj (C:=pG) j.F0 j.T G.T Fv J D G.m3 k3 G.b3 Y.vZ Y.M s0 Y.b0 u1;let l1:=ael (P:=P) (w:=w) (base:=base) Hw i_;let l2:=acA (P:=P) (w:=w) (base:=base) Hw i_;let l3:=agJ Wq R.mR R.M q7;let l4:=acC (P:=P) (w:=w) (base:=base) Ke fQ;let l5:=aaH (P:=P) (w:=w) (base:=base) G4 fQ;let l6:=Oo O9 fQ D l4;let l7:=aem O_ D l4;let l8:=agL Wo fQ D J l4;let c1:=aah (P:=P) (w:=w) (base:=base) G3 D;let l9:=aer Pa fQ D J tM I.vZ I.M g0 I.b0 c1 l5 l6 l8 l7;let la:=aeu (P:=P) (w:=w) (base:=base) (C:=pG) Pb J iR D;let lb:=Vu (P:=P) (w:=w) (base:=base) Ae D i_ J pP;let lc:=acI Kf D tM I.T I.m2 g2 I.b2 l4 lb l3;let ld:=agO Ws D tM l4 lc;let le:=agQ Wt D i_ iR pP zf I.T I.m4 g4 I.b4 l1 l2 t5;let lf:=acK Kg D Z mK I.T j.T j.m3 a3 j.b3 j.m4 a4 j.b4 j.m5 a5 j.b5 j.m6 a6 j.b6 j.m8 a8 j.b8 j.m7 a7 j.b7;let uG:=Xj zx Z J D u4;let o1:=aaL j.F1 j.T O.Wg O.Gu j.m8 a8 j.b8 uG;let o2:=aaM (P:=P) (w:=w) (mg:=mg) (base:=base) (C:=pG) (CS:=Ph) (CB:=yx) j.F2 j.T O.J2 O.yr;let o3:=acO Wu Z jW j.T O.mR O.Wg O.J2 O.Wh O.Cp O.Q8 O.aeT O.O j.m1 o1 j.b1;let o4:=Vy G5 Z jW j.T O.mR O.Wg O.J2 O.Wh O.N j.m2 o2 j.b2;let o5:=aeD Pg D o3 lf;let o6:=acQ Kh D fQ Z mK j.T j.m1 a1 j.b1 j.m2 a2 j.b2 le lf o5;show ajy F j.T G.vZ G.M k0 G.b0 j.vZ j.M a0 j.b0 j.m1 a1 j.b1 l9 la ld le o4 o5 o6
end
end My
namespace PySem.W.Fast
abbrev U:=True
def tw17394464033042538449:=U
def tw10388341215118518466:=U
def tw7035927439661116547:=U
def tw11341665608496094074:=U
def tw11971052306858039351:=U
def tw15451630831422084161:=U
def tw16334238589521184083:=U
def tw757295717854056295:=U
def tw15814604685760540420:=U
def tw1614655092338840710:=U
def tw2415056006022569807:=U
def tw10640433662077490040:=U
def tw9535598721464609932:=U
def tw5252185484635787418:=U
def tw3237293686431948453:=U
def tw8214658946539648503:=U
def tw15219230413496440880:=U
def tw9097580761889071227:=U
def tw18268535954905257528:=U
def tw17780975670671801315:=U
def tw8702375687774789187:=U
def tw15345554999833045737:=U
def tw13490679013994947620:=U
def tw3049617671504288485:=U
def tw11932776480269098037:=U
def tw1145338636964134386:=U
def tw3564498733476212877:=U
def tw1150185053612050732:=U
def tw11136888102550536243:=U
def tw17353294775529621309:=U
def tw2824414095515461403:=U
def tw5807026596333789421:=U
def tw7807499998926496205:=U
def tw590264819575846172:=U
def tw5349131762272412954:=U
def tw5716351461945737335:=U
def tw15317105311208418152:=U
def tw17377549996816266390:=U
def tw1338024698748310804:=U
def tw1812486675861297633:=U
def tw18251426097266292623:=U
def tw3179675713819999316:=U
def tw1811074802602428551:=U
def tw575778095639782818:=U
def tw16829418826109341065:=U
def tw5009031518574340744:=U
def tw12157732973512462846:=U
def tw11437557572005823348:=U
def tw15082978248553841109:=U
def tw5817224442415394767:=U
def tw3584843651822207228:=U
def tw78209694444463978:=U
def tw13286657526291072864:=U
def tw8774274507920324170:=U
def tw14328706340904855584:=U
def tw7730986886821192431:=U
def tw10677609651375539533:=U
def tw4906900774924058577:=U
def tw797120716636679421:=U
def tw4964657024607746587:=U
def tw15980092994997060876:=U
def tw754028393044701581:=U
def tw15910696162183075155:=U
def tw13751655482662530246:=U
def tw7107584618215717706:=U
def tw15710205716894171816:=U
def tw16150103916671406009:=U
def tw8419126879938431749:=U
def tw16878783678256149013:=U
def tw11907925546102631355:=U
def tw3550184591343388038:=U
def tw7450376857162275854:=U
def tw5539844856062150095:=U
def tw8720670183743653363:=U
def tw11722248499949620752:=U
def tw241468026176659863:=U
def tw13390125764033722063:=U
def tw9753331859720228709:=U
def tw10043393141253317847:=U
def tw16751842503520423947:=U
def tw13268701923783601995:=U
def tw12418061421703602244:=U
def tw16533257007910908770:=U
def tw12186862779020193627:=U
def tw9840582351429074705:=U
def tw872575614554351327:=U
def tw3491407774381489431:=U
def tw1977916381643257136:=U
def tw15852810237692351749:=U
def tw6757144463492710280:=U
def tw10779221761902820997:=U
def tw16278692188047931627:=U
def tw5698003479784589672:=U
def tw8412799403078627246:=U
def tw12786924108272293598:=U
def tw10395573179417144036:=U
def tw15395730668793689398:=U
def tw14201164882776594570:=U
def tw7714977748515243904:=U
def tw7358549337020896979:=U
def tw17409419619801944430:=U
def tw17054358359114961651:=U
def tw6482992599030916755:=U
def tw11970161245720021299:=U
def tw3216762633030143137:=U
def tw16308682206034503754:=U
def tw1825051532061435063:=U
def tw12242044663517720782:=U
def tw10518871144917049819:=U
def tw17875574882349519992:=U
def tw1006935167098622439:=U
def tw4977624018307313425:=U
def tw11850744725989627878:=U
def tw6642697119469731573:=U
def tw11877304800087496273:=U
def tw6008151017140097269:=U
def tw5566436873135278015:=U
def tw16634222408852877035:=U
def tw10272606547190850320:=U
def tw630251121851199186:=U
def tw4344463535011176557:=U
def tw7996691487229198842:=U
def tw17941599749358527631:=U
def tw6205210256076592892:=U
def tw16541236505045530982:=U
def tw14087831879040476288:=U
def tw1198051783081275911:=U
def tw10932698280971590196:=U
def tw8805330704208222929:=U
def tw2310042943322452768:=U
def tw8588450706359913307:=U
def tw207161998360496513:=U
def tw7326999916503755041:=U
def tw13618747566121252912:=U
def tw5619391660915549186:=U
def tw4434624910141001080:=U
def tw12370280511635058290:=U
def tw12428703520281885442:=U
def tw17977668986428582786:=U
def tw12955683020583972755:=U
def tw2711412333459288333:=U
def tw12642864534242408302:=U
def tw2821043139066000439:=U
def tw15349307203479784018:=U
def tw9337975843686675686:=U
def tw2128979245256809530:=U
def tw11213985127350858758:=U
def tw15971133905982818498:=U
def tw11262886834905596176:=U
def tw2551517663148987606:=U
def tw2988956143933785930:=U
def tw3960739514249205511:=U
def tw2756870729220240126:=U
def tw17268128673521169628:=U
def tw16023076318749969511:=U
def tw14131736682476326156:=U
def tw17976283288189492033:=U
def tw9122710099032466105:=U
def tw12569441930469144226:=U
def tw15555474916291756849:=U
def tw9995552943928037719:=U
def tw5709858295154399012:=U
def tw4618723014117184754:=U
def tw2699298428954665012:=U
def tw1665029810345074223:=U
def tw12636908868312157238:=U
def tw11173662048039248179:=U
def tw9800622011162023260:=U
def tw1271601951819927366:=U
def tw3050207558701965500:=U
def tw11257468339275547454:=U
def tw10732767840283260870:=U
def tw6386085822673414453:=U
def tw5634452328403170049:=U
def tw3752625966378729311:=U
def tw15293578394227758554:=U
def tw13887825720000599602:=U
def tw945907568978943188:=U
def tw17869717488388772727:=U
def tw7403818050528134006:=U
def tw12238033209956536920:=U
def tw14424268534751145542:=U
def tw12456727796603727534:=U
def tw2456020750994258403:=U
def tw8016000560154535567:=U
def tw16968307952755468332:=U
def tw8284942882879358768:=U
def tw11993849411241507455:=U
def tw10356433568473503499:=U
def tw11777196776699776054:=U
def tw5843431131549783717:=U
def tw7767481548359904994:=U
def tw2496738680474926827:=U
def tw9130636518572448578:=U
def tw10096099921140328577:=U
def tw12857789201549760045:=U
def tw290158412461295333:=U
def tw4785144292196920745:=U
def tw15056785975128822748:=U
def tw16403480713455843432:=U
def tw11786918166141507937:=U
def tw13462024858753457034:=U
def tw5041298561598736634:=U
def tw2157003049595010292:=U
def tw16097833725454509867:=U
def tw6353196335232793711:=U
def tw7516961546371661760:=U
def tw8885653572816869966:=U
def tw6222778533478504727:=U
def tw17592173685413686645:=U
def tw7598434173943322410:=U
def tw2821330480358738652:=U
def tw8291007993771862213:=U
def tw7580746459984641421:=U
def tw13018588810716168598:=U
def tw14054749531749368046:=U
def tw882810286304948093:=U
def tw9191466130697142266:=U
def tw12244872125926563957:=U
def tw160106877970452809:=U
def tw1692257624479529181:=U
def tw8773108292258246260:=U
def tw11338631329364246744:=U
def tw12866422233034541405:=U
def tw15565265101562673960:=U
def tw2594538149823218072:=U
def tw18001945620806264077:=U
def tw5702016350438669474:=U
def tw15096648989204403686:=U
def tw13447827567004881604:=U
def tw2595246763576258251:=U
def tw12463344370421153515:=U
def tw7626995670570487405:=U
def tw9249300206656435156:=U
def tw2196054291137906847:=U
def tw8593111658979687129:=U
def tw16296757230004626315:=U
def tw3178018437759202129:=U
def tw6798378123279256281:=U
def tw1596053925288866862:=U
def tw13787052965833428688:=U
def tw6097504827067788980:=U
def tw7545934455389745517:=U
def tw6476004666384224960:=U
def tw1814344476708395773:=U
def tw9197008478299298146:=U
def tw4583862553002865756:=U
def tw11050495076013156752:=U
def tw6699257901140778366:=U
def tw11649159012695068587:=U
def tw5820077940857184608:=U
def tw7575660647321605754:=U
def tw7162989778012549173:=U
def tw1779446726110612112:=U
def tw9990813871603421438:=U
def tw14624353526793662518:=U
def tw2863354684250768:=U
def tw16010404456537032967:=U
def tw7557076998167308114:=U
def tw8106116646743399441:=U
def tw17920670792658449345:=U
def tw8346150042311506011:=U
def tw3359917334618868983:=U
def tw8241175392015413695:=U
def tw8020126705821230592:=U
def tw17297122960651546450:=U
def tw10632806418344568086:=U
def tw12074142603939994649:=U
def tw6427943756980918981:=U
def tw1394160625203266426:=U
def tw17419389500699312646:=U
def tw11532321745694843851:=U
def tw9067811646703185832:=U
def tw121927101342893022:=U
def tw1810846812694924816:=U
def tw16475646765529444549:=U
def tw11514420810127574775:=U
def tw15591468696481107442:=U
def tw7237741100216260484:=U
def tw5919821634066463998:=U
def tw16710618161123139052:=U
def tw16523274979343173318:=U
def tw17069549244992437276:=U
def tw15438836442460628513:=U
def tw708214036359490297:=U
def tw960982394290735966:=U
def tw3364391509459990862:=U
def tw2424383375949220655:=U
def tw12450880487464243169:=U
def tw2431541484818062204:=U
def tw14394970823483558415:=U
def tw5966925172208712492:=U
def tw34855454029863937:=U
def tw42614969434992570:=U
def tw11194966241176744436:=U
def tw9790750299693410642:=U
def tw11056270785619342305:=U
def tw8752674407767508175:=U
def tw4491925432383047082:=U
def tw15389792968322393950:=U
def tw13293446752671718551:=U
def tw16810464925413275602:=U
def tw5490413324114491788:=U
def tw15029492172944167216:=U
def tw17178378033737675424:=U
def tw7106507413326587460:=U
def tw3742162848668476974:=U
def tw11758085790169285820:=U
def tw9510557168347375219:=U
def tw14455436113748764470:=U
def tw16001551620814918252:=U
def tw14773756485695350414:=U
def tw6633463707516938161:=U
def tw13651259623160488503:=U
def tw17982959275002953475:=U
def tw7668650517612706374:=U
def tw4275074199461946405:=U
def tw812404542055490338:=U
def tw14282862173655813575:=U
def tw12228339131736291921:=U
def tw16604328813942251209:=U
def tw14562007247292040223:=U
def tw8395663517519268793:=U
def tw13475035322886568153:=U
def tw13350639357399417073:=U
def tw2374448904436867706:=U
def tw16654730970489541305:=U
def tw16094467658951151765:=U
def tw5693343541298663044:=U
def tw337368944414823387:=U
def tw7575854750748586653:=U
def tw11835361674008108571:=U
def tw6306764608200523899:=U
def tw18314279940239563208:=U
def tw12436637922539414845:=U
def tw2169972109627889788:=U
def tw3230897295944149871:=U
def tw10986858669190975560:=U
def tw5609960141211489726:=U
def tw7747906357954611459:=U
def tw14450720626488770823:=U
def tw7535893370560747219:=U
def tw9742104162433437691:=U
def tw14693444752540098737:=U
def tw14370832068372292619:=U
def tw7552576976980969071:=U
def tw6009649233464716845:=U
def tw5864346390863172033:=U
def tw7001141969059922054:=U
def tw6605573122772770018:=U
def tw8719918025377639888:=U
def tw6833819924145369362:=U
def tw15692509614461333311:=U
def tw17380490558535378194:=U
def tw11698964087698704173:=U
def tw7846556154267263336:=U
def tw14899183676562281888:=U
def tw9276167994251368695:=U
def tw13880175185096766431:=U
def tw6708975369062099415:=U
def tw3537928540831813687:=U
def tw8001225886182179849:=U
def tw15539350658442531303:=U
def tw15452351474811604308:=U
def tw9394137820749005704:=U
def tw7162971024531846218:=U
def tw13433123123290069827:=U
def tw17398422417757691267:=U
def tw11646526297377855535:=U
def tw8935119365808276850:=U
def tw14391563605685971015:=U
def tw9272631546447051107:=U
def tw16044668420709739496:=U
def tw6312234059764461687:=U
def tw12040100010601281366:=U
def tw6056753321336773377:=U
def tw5072575498345425863:=U
def tw11140498095673944371:=U
def tw3527696981919845859:=U
def tw7274863846777164623:=U
def tw1938110485267814310:=U
def tw420055991190225832:=U
def tw512556090440584262:=U
def tw2703712454336032427:=U
def tw10076926264818953225:=U
def tw2030073640975765107:=U
def tw11739143130136226313:=U
def tw16418973468997874984:=U
def tw5851680512624453986:=U
def tw5830903849638560221:=U
def tw16945445229521080290:=U
def tw5915791494320912860:=U
def tw11013241685895545776:=U
def tw1851616390115332313:=U
def tw15681536557018659041:=U
def tw441701526351019312:=U
def tw16048535471473540116:=U
def tw1511478390231079409:=U
def tw16597487944033533781:=U
def tw8160979528465821686:=U
def tw6166815601467751754:=U
def tw16424708233186225001:=U
def tw4599766220739082752:=U
def tw5381179305062435188:=U
def tw5383990213440161602:=U
def tw13569356803391101078:=U
def tw604911886570262321:=U
def tw14252668665085156995:=U
def tw17780018955696023080:=U
def tw17925388204706778490:=U
def tw2184164670420578135:=U
def tw7751649899735109612:=U
def tw3259956831664183636:=U
def tw17026062230413780547:=U
def tw14111300879526860432:=U
def tw12615478527492481359:=U
def tw8877028351351614170:=U
def tw14645540991849462983:=U
def tw17715221573791264033:=U
def tw4123421454800819388:=U
def tw6204548089514534355:=U
def tw11592797742771466517:=U
def tw11512875458741821086:=U
def tw14967722614634461704:=U
def tw7454392999911878323:=U
def tw14502381834700866085:=U
def tw5204373216318594325:=U
def tw6439363339326256981:=U
def tw14125063155032516399:=U
def tw13564970167069487985:=U
def tw1136933266694532341:=U
def tw12782504693529955083:=U
def tw17076490843583823221:=U
def tw10766251033697130411:=U
def tw17042622577956107642:=U
def tw15882833860519604638:=U
def tw624562718659882456:=U
def tw781982397130993473:=U
def tw2525192039095149536:=U
def tw13170568652251907980:=U
def tw8866398443513391244:=U
def tw17300735402976895675:=U
def tw10696729244666556119:=U
def tw9130425862610495650:=U
def tw12862783562301513801:=U
def tw3026545766241350721:=U
def tw1740167541932428135:=U
def tw4168426080362089154:=U
def tw661843848185373786:=U
def tw14813466857319403824:=U
def tw12998432121776248654:=U
def tw1783292028039376073:=U
def tw12957050270358145771:=U
def tw5557959327469203441:=U
def tw10276491089319359223:=U
def tw8742767426676660543:=U
def tw7979406358449926384:=U
def tw4965748863764783221:=U
def tw15137803733525722079:=U
def tw13507836658471035165:=U
def tw14427746834816653628:=U
def tw7850152757168853683:=U
def tw14773356510369794209:=U
def tw4089939107393699805:=U
def tw16697487227861372975:=U
def tw3999108814011088117:=U
def tw9058120896119548928:=U
def tw13598697121871057305:=U
def tw4639192769611943519:=U
def tw9971458421791242410:=U
def tw16792721638254958048:=U
def tw5297745133266590038:=U
def tw8375360977243919763:=U
def tw14123135863275558657:=U
def tw3139976024945408066:=U
def tw12619247027258861840:=U
def tw13133414989217763365:=U
def tw11243206191940774966:=U
def tw5461184872206203716:=U
def tw13792207611354116886:=U
def tw15052621882332476586:=U
def tw18323495262948331249:=U
def tw13332986759174105263:=U
def tw6930997938763169064:=U
def tw8973649442706139140:=U
def tw5054273881115553636:=U
def tw4947090269554198318:=U
def tw7905066039490843735:=U
def tw12763198961280617586:=U
def tw16273625691349425201:=U
def tw12800892326421143438:=U
def tw4877616958786884907:=U
def tw2639057246699118849:=U
def tw6022167397797595141:=U
def tw4776595103836127669:=U
def tw8995049138735600044:=U
def tw1778313576769763692:=U
def tw1831517370094107318:=U
def tw5347733476629378741:=U
def tw13793895091579418924:=U
def tw16581724820800270088:=U
def tw14546074943738000836:=U
def tw512179044033126359:=U
def tw3659817191549095695:=U
def tw17048163739546419489:=U
def tw4861810172280675894:=U
def tw8738744479668640976:=U
def tw14916084722925002434:=U
def tw9200712005289875128:=U
def tw16704242214667148391:=U
def tw8423269579793053913:=U
def tw14390142049349853801:=U
def tw191370476313169338:=U
def tw863649715507887595:=U
def tw4976650885352159625:=U
def tw1193349222689398775:=U
def tw15638317475245653476:=U
def tw14795355612731848012:=U
def tw5283912565679769687:=U
def tw16202457989896345730:=U
def tw10948187300291072392:=U
def tw11541747527963308791:=U
def tw18183917488642857368:=U
def tw4793562618872585811:=U
def tw14991253146859929412:=U
def tw15321981424319589042:=U
def tw3721024008868586637:=U
def tw11935034321907818460:=U
def tw4563410171969597719:=U
def tw6115735295289483942:=U
def tw830677965013273238:=U
def tw6668665284299099403:=U
def tw7631838741475885169:=U
def tw6879633402459214129:=U
def tw17361024882288488943:=U
def tw13337953580744370417:=U
def tw16620294106664134751:=U
def tw3611925859722373870:=U
def tw11304184249800013888:=U
def tw14936587578052309192:=U
def tw2910384053284592472:=U
def tw16250689355891390679:=U
def tw14753881652390860185:=U
def tw10435787132920054708:=U
def tw2482346934954275098:=U
def tw17681954323684956588:=U
def tw4937067154899096003:=U
def tw13756154669447542856:=U
def tw820146206752183919:=U
def tw10442630613138783902:=U
def tw7723253105886442843:=U
def tw18026979417304400744:=U
def tw12775455862275615901:=U
def tw18406828595274733911:=U
def tw8556152363005098094:=U
def tw10718937647292127778:=U
def tw17962908408055394431:=U
def tw12229699654075137181:=U
def tw15031410399426190976:=U
def tw17619931131332491489:=U
def tw10648488888395376312:=U
def tw5688644789083864364:=U
def tw6865196282095841407:=U
def tw4860165768170893432:=U
def tw15983551196921397615:=U
def tw3163134238643371213:=U
def tw2462157801586588414:=U
def tw5849651831578829378:=U
def tw7338483852376163788:=U
def tw2727150061979315569:=U
def tw9081604081563695793:=U
def tw2663977535033925341:=U
def tw12354184081519520107:=U
def tw9991926728149900788:=U
def tw8337315558830614731:=U
def tw13643742814860033884:=U
def tw17298125438217398048:=U
def tw3973993122485325147:=U
def tw16824483260505361769:=U
def tw9614825744622322175:=U
def tw3487038555547839445:=U
def tw5688636212096025679:=U
def tw7591951706846366135:=U
def tw9651498096562687302:=U
def tw7470211513506197210:=U
def tw12970230047811008754:=U
def tw14470867673726282292:=U
def tw1915855653534886793:=U
def tw3838147716457757193:=U
def tw9195032570179011100:=U
def tw11230933135264307604:=U
def tw3425063510945350135:=U
def tw4173734799413377264:=U
def tw16946521251390459063:=U
def tw6707699086212355264:=U
def tw3550672004239920854:=U
def tw15074505683933408455:=U
def tw3164080090408847549:=U
def tw16071719002419161536:=U
def tw14952304431471355904:=U
def tw10399724504137737209:=U
def tw9374317876273968890:=U
def tw17749519078862580385:=U
def tw3396050666020880594:=U
def tw4234370881359224050:=U
def tw562336412283447676:=U
def tw1638094991531079222:=U
def tw12592616244021936584:=U
def tw9041262654781365939:=U
def tw16486843382955339462:=U
def tw450866224038078161:=U
def tw4642131526996079390:=U
def tw581796907378601686:=U
def tw4011238962737578505:=U
def tw4342585217049698725:=U
def tw10041372183329121521:=U
def tw14331189053996917014:=U
def tw17896287705499282466:=U
def tw1272459963339626872:=U
def tw11378902066790119553:=U
def tw18116202755404971303:=U
def tw17242267266810809800:=U
def tw18149183253478845964:=U
def tw4944458381815974844:=U
def tw15532800994291564612:=U
def tw4760442153462183357:=U
def tw11466739046236245235:=U
def tw2234482540720128661:=U
def tw8280499573825949607:=U
def tw12013411108410872346:=U
def tw4779499906367495582:=U
def tw3765435112986367226:=U
def tw18444562236261666380:=U
def tw14085799979314709296:=U
def tw1335119005524005668:=U
def tw12948876951506924483:=U
def tw12605140599832451123:=U
def tw4482424264482957653:=U
def tw17552410234675735741:=U
def tw14359282204451471202:=U
def tw4069714010095070761:=U
def tw7936899269760710814:=U
def tw9319896473671751250:=U
def tw7910095201082259951:=U
def tw5583612566272384894:=U
def tw11638857990106257613:=U
def tw9108483229488309983:=U
def tw4248043939846157584:=U
def tw18030553859531403036:=U
def tw10919565860941947117:=U
def tw17985053502123498305:=U
def tw14327309428594382799:=U
def tw11273629350138252135:=U
def tw16311158376952487904:=U
def tw16658570907518924598:=U
def tw17338148592515695361:=U
def tw14927684750867383890:=U
def tw13498155384160721340:=U
def tw18290335882938322624:=U
def tw2915605119772389255:=U
def tw1696057703710553038:=U
def tw7604310229706776021:=U
def tw2775523881575838553:=U
def tw17437225532538052099:=U
def tw16732241288212886123:=U
def tw471417928304218179:=U
def tw12446517279031332164:=U
def tw1912547293285210327:=U
def tw5644305414159484366:=U
def tw2236541656018443670:=U
def tw6093134881708198219:=U
def tw6112913135369679616:=U
def tw3167419412634657217:=U
def tw9332377344655375184:=U
def tw4009196575292647863:=U
def tw13441504498668649695:=U
def tw17894467941301733274:=U
def tw17186617072501644317:=U
def tw11984499858437738496:=U
def tw7559380335896051336:=U
def tw3576832367713505791:=U
def tw18108717520700655808:=U
def tw1896711217679935027:=U
def tw10496842153318266830:=U
def tw2608263933048644066:=U
def tw7881210906950931751:=U
def tw13022323755773339707:=U
def tw846742863658758067:=U
def tw726665843511283928:=U
def tw4369818345874109578:=U
def tw11397702458752611915:=U
def tw6132117138767266061:=U
def tw11426034210328906149:=U
def tw1073140161126139887:=U
def tw1921760762433816578:=U
def tw12858873101078789778:=U
def tw3318036769232654900:=U
def tw7572583200961182873:=U
def tw4318398647610689483:=U
def tw5248971271540647779:=U
def tw1137804680511148222:=U
def tw4491283214729337643:=U
def tw4715599372733349227:=U
def tw17963634471556322089:=U
def tw17762948104450630522:=U
def tw15660762653949361578:=U
def tw3775075494521464708:=U
def tw12986013577418481398:=U
def tw5400593422507558239:=U
def tw7667871093731788820:=U
def tw7499849172355970632:=U
def tw110408191732963454:=U
def tw6101432397798864909:=U
def tw18340357054286057173:=U
def tw18237002407798876660:=U
def tw302962402032833102:=U
def tw8674220203293152227:=U
def tw9296076431217800679:=U
def tw15908794792640324733:=U
def tw571443276272685699:=U
def tw13816321068040724063:=U
def tw13211502175363949129:=U
def tw11834300575666546982:=U
def tw15769001422408800126:=U
def tw5040571996403747650:=U
def tw13906084547494865549:=U
def tw10634350649844623234:=U
def tw4004447691655919523:=U
def tw4126130062280932979:=U
def tw667641543272520009:=U
def tw12459691298314223961:=U
def tw1010191095838284535:=U
def tw16491572766889469977:=U
def tw18383175119027891590:=U
def tw492288164332635738:=U
def tw174690055227605635:=U
def tw2847215748261431538:=U
def tw7765772298174691305:=U
def tw8100636637315325433:=U
def tw1340334793207286434:=U
def tw7906812685169582961:=U
def tw9533970374753077396:=U
def tw16539983142942310092:=U
def tw598184949685556971:=U
def tw32822352802350306:=U
def tw1651207451028281974:=U
def tw470882556224557165:=U
def tw14357897618867365338:=U
def tw8100622417377810594:=U
def tw16962298857897813230:=U
def tw1403434389171390710:=U
def tw4380593387987598887:=U
def tw5540254131806321138:=U
def tw3074999233933178934:=U
def tw3208428315828955784:=U
def tw732756228627906236:=U
def tw6714420666949666012:=U
def tw2863859056401229074:=U
def tw15341735319883871031:=U
def tw3502999184499807797:=U
def tw4812121081013426411:=U
def tw12635602644662522537:=U
def tw13089217625476687622:=U
def tw9882717088540007879:=U
def tw3167973429246612396:=U
def tw11335558280644994556:=U
def tw12599878168291457819:=U
def tw13397644299514233961:=U
def tw8354126771747269991:=U
def tw11385158530509938364:=U
def tw8402288228012745472:=U
def tw1156983257784319367:=U
def tw15540097495141214078:=U
def tw2023602309774034570:=U
def tw16342413719751926227:=U
def tw9916959783048886773:=U
def tw2135737380537696643:=U
def tw7658887094170073297:=U
def tw15279033224199294489:=U
def tw11329697267568098229:=U
def tw7819817463331017066:=U
def tw4553210597987844145:=U
def tw6464181038324209869:=U
def tw16084530102087879440:=U
def tw10564316687575835335:=U
def tw11592345517333383930:=U
end PySem.W.Fast
open PySem PySem.W PyProof.Rows
def L2.dK {K:W.Frag}{h:Heap}{mg:Str->Option Value}{name:Str}{st:Stmt}{ps:List Str}{f:Addr}{oc:Value}{od an:Option Addr}{osl:Array (Option Value)}{kV doc pm bO ct:Value}(X:K.In h)(G:h.Ns mainGlobals mg)(a:W.nsIn K mainGlobals name=some (some (.ref f)):=by k_is)(l:K.lookup f=some ⟨oc,od,.func (W.fnOf name name (L2.dJ st) (L2.cX st) (L2.aJ st) .none kV doc pm an bO ct),osl⟩:=by k_is)(c:W.codeIn K bO name=true:=by k_is)(k:W.keepIn K (.ref f)=true:=by k_is)(hb:∀(kV doc pm:Value) (an:Option Addr) (bO ct:Value) (us:List Value),us.length=ps.length->bindArgs (W.fnOf name name (L2.dJ st) (L2.cX st) (L2.aJ st) .none kV doc pm an bO ct) ⟨us,[]⟩=pure (ps.zip us):=by intro _ _ _ _ _ _ us hl;first|show(L2.e1 (λ_=>rfl) us hl)|show(L2.e2 (λ_ _=>rfl) us hl)|show(L2.e3 (λ_ _ _=>rfl) us hl)|show(L2.e4 (λ_ _ _ _=>rfl) us hl)|show(L2.e5 (λ_ _ _ _ _=>rfl) us hl)):L2.aN (L2.KOf X) mg name st ps:=L2.adC X G a l c k hb
set_option maxRecDepth 100000 in
set_option maxHeartbeats 0 in
theorem PySem.Challenge.cw_letterrack_k62_games_that_are_over_holds : PySem.Challenge.rw_letterrack_k62_games_that_are_over.Holds := by
 w_on;o_law;k_head;(case hw=>w_witness2)
 k_fill
 refine L2.af5 (x:="_law_script") (l:=PySem.Challenge.rw_letterrack_k62_games_that_are_over) rfl rfl (λw h Y=>W.kIn_of Y) ?F
 case F=>
  intro w mg fa h KX G hmg;have bH:mg "len"=none:=by
   refine' cS KX G ?z
   (case z=>k_is)
  have fQ:mg "range"=none:=by
   refine' cS KX G ?z
   (case z=>k_is)
  have cQ:mg "tuple"=none:=by
   refine' cS KX G ?z
   (case z=>k_is)
  have i_:mg "list"=none:=by
   refine' cS KX G ?z
   (case z=>k_is)
  have Fv:mg "dict"=none:=by
   refine' cS KX G ?z
   (case z=>k_is)
  have iR:mg "sorted"=none:=by
   refine' cS KX G ?z
   (case z=>k_is)
  have bA:mg "isinstance"=none:=by
   refine' cS KX G ?z
   (case z=>k_is)
  have mK:mg "bool"=none:=by
   refine' cS KX G ?z
   (case z=>k_is)
  have pP:mg "int"=none:=by
   refine' cS KX G ?z
   (case z=>k_is)
  have wU:mg "str"=none:=by
   refine' cS KX G ?z
   (case z=>k_is)
  have gA:mg "all"=none:=by
   refine' cS KX G ?z
   (case z=>k_is)
  have zc:mg "any"=none:=by
   refine' cS KX G ?z
   (case z=>k_is)
  have LQ:mg "zip"=none:=by
   refine' cS KX G ?z
   (case z=>k_is)
  have tM:mg "min"=none:=by
   refine' cS KX G ?z
   (case z=>k_is)
  have zf:mg "max"=none:=by
   refine' cS KX G ?z
   (case z=>k_is)
  have Ml:mg "sum"=none:=by
   refine' cS KX G ?z
   (case z=>k_is)
  have qN:mg "enumerate"=none:=by
   refine' cS KX G ?z
   (case z=>k_is)
  have jW:mg "ValueError"=none:=by
   refine' cS KX G ?z
   (case z=>k_is)
  have gY:∃t,mg "FREE"=some (.str (L2.S [46]) t):=by
   refine' L2.Tc KX G ?z
   (case z=>k_is)
  have Aw:∃t,mg "MARKS"=some (.str (L2.S My.MK) t):=by
   refine' L2.Tc KX G ?z
   (case z=>k_is)
  have Aq:∃t,mg "MOST"=some (.int 9 t):=by
   refine' L2.Td KX G ?z
   (case z=>k_is)
  have pY:∃t,mg "MOST_TILES"=some (.int 7 t):=by
   refine' L2.Td KX G ?z
   (case z=>k_is)
  have wX:L2.aN (L2.KOf KX) mg "is_whole" My.rY ["thing"]:=L2.dK KX G;have GJ:L2.aN (L2.KOf KX) mg "is_sign" My.yJ ["thing"]:=L2.dK KX G;have zZ:L2.aN (L2.KOf KX) mg "letter_of" My.uM ["sign"]:=L2.dK KX G;have GP:L2.aN (L2.KOf KX) mg "tile_of" My.yK ["sign"]:=L2.dK KX G;have GQ:L2.aN (L2.KOf KX) mg "left_of" My.yL ["rack","signs"]:=L2.dK KX G;have Dj:L2.aN (L2.KOf KX) mg "is_block" My.wJ ["thing"]:=L2.dK KX G;have Dk:L2.aN (L2.KOf KX) mg "are_rows" My.wK ["thing"]:=L2.dK KX G;have z9:L2.aN (L2.KOf KX) mg "are_marks" My.uO ["thing"]:=L2.dK KX G;have tR:L2.aN (L2.KOf KX) mg "is_cell_of" My.pW ["rows","row","column"]:=L2.dK KX G;have vP:L2.aN (L2.KOf KX) mg "is_begin_of" My.qQ ["rows","thing"]:=L2.dK KX G;have Dl:L2.aN (L2.KOf KX) mg "is_board" My.wL ["rows","marks","begin"]:=L2.dK KX G;have vQ:L2.aN (L2.KOf KX) mg "column_text" My.qR ["rows","column"]:=L2.dK KX G;have z_:L2.aN (L2.KOf KX) mg "is_triple" My.uP ["board","thing"]:=L2.dK KX G;have Aa:L2.aN (L2.KOf KX) mg "is_laying" My.uQ ["board","thing"]:=L2.dK KX G;have Dm:L2.aN (L2.KOf KX) mg "cells_of" My.wM ["laying"]:=L2.dK KX G;have uY:L2.aN (L2.KOf KX) mg "is_across" My.qK ["laying"]:=L2.dK KX G;have GR:L2.aN (L2.KOf KX) mg "is_down" My.yM ["laying"]:=L2.dK KX G;have qe:L2.aN (L2.KOf KX) mg "is_next_to_taken" My.mF ["board","row","column"]:=L2.dK KX G;have Kd:L2.aN (L2.KOf KX) mg "formed" My.BP ["board","laying"]:=L2.dK KX G;have yt:L2.aN (L2.KOf KX) mg "check_free" My.rZ ["board","laying"]:=L2.dK KX G;have rB:L2.aN (L2.KOf KX) mg "check_straight" My.oR ["laying"]:=L2.dK KX G;have yu:L2.aN (L2.KOf KX) mg "check_gaps" My.su ["board","laying"]:=L2.dK KX G;have uJ:L2.aN (L2.KOf KX) mg "check_joined" My.qm ["board","laying"]:=L2.dK KX G;have vR:L2.aN (L2.KOf KX) mg "check_words" My.qW ["board","book","laying"]:=L2.dK KX G;have uK:L2.aN (L2.KOf KX) mg "check_laying" My.qp ["board","book","rack","laying"]:=L2.dK KX G;have Dn:L2.aN (L2.KOf KX) mg "worth_of" My.wN ["worths","sign"]:=L2.dK KX G;have GX:L2.aN (L2.KOf KX) mg "cell_in" My.yN ["word","place"]:=L2.dK KX G;have vU:L2.aN (L2.KOf KX) mg "word_points" My.qX ["board","worths","laying","word"]:=L2.dK KX G;have Dp:L2.aN (L2.KOf KX) mg "bonus_of" My.wO ["bonus","laying"]:=L2.dK KX G;have Ab:L2.aN (L2.KOf KX) mg "points_of" My.uR ["board","worths","bonus","laying"]:=L2.dK KX G;have vV:L2.aN (L2.KOf KX) mg "left_behind" My.qY ["rack","laying"]:=L2.dK KX G;have Ac:L2.aN (L2.KOf KX) mg "are_tiles" My.uT ["thing"]:=L2.dK KX G;have zx:L2.aN (L2.KOf KX) mg "is_deed" My.vo ["thing"]:=L2.dK KX G;have Dq:L2.aN (L2.KOf KX) mg "in_order" My.wQ ["tiles"]:=L2.dK KX G;have Ad:L2.aN (L2.KOf KX) mg "exchanged" My.uU ["things","place","thing"]:=L2.dK KX G;have tU:L2.aN (L2.KOf KX) mg "behind_laying" My.pN ["stand","turn","size","laying","points"]:=L2.dK KX G;have vW:L2.aN (L2.KOf KX) mg "behind_swap" My.qZ ["stand","turn","tiles"]:=L2.dK KX G;have GZ:L2.aN (L2.KOf KX) mg "is_word" My.yO ["text"]:=L2.dK KX G;have yw:L2.aN (L2.KOf KX) mg "check_word" My.sO ["text"]:=L2.dK KX G;have G3:L2.aN (L2.KOf KX) mg "_law_cell_at" My.yP ["_law_script","_law_k"]:=L2.dK KX G;have Ke:L2.aN (L2.KOf KX) mg "_law_stream" My.BR ["_law_cell","_law_many"]:=L2.dK KX G;have G4:L2.aN (L2.KOf KX) mg "_law_letters" My.yQ ["_law_cell"]:=L2.dK KX G;have O9:L2.aN (L2.KOf KX) mg "_law_words" My.Hh ["_law_cell","_law_letters_here"]:=L2.dK KX G;have Wo:L2.aN (L2.KOf KX) mg "_law_rows" My.Lh ["_law_cell","_law_letters_here"]:=L2.dK KX G;have O_:L2.aN (L2.KOf KX) mg "_law_tiles" My.Hi ["_law_cell","_law_letters_here","_law_many","_law_blanks"]:=L2.dK KX G;have Pa:L2.aN (L2.KOf KX) mg "_law_parts" My.Hj ["_law_script"]:=L2.dK KX G;have Pb:L2.aN (L2.KOf KX) mg "_law_begun" My.Hl ["_law_parts_here"]:=L2.dK KX G;have Ae:L2.aN (L2.KOf KX) mg "_law_candidate" My.uV ["_law_rows_here","_law_word","_law_place","_law_rack"]:=L2.dK KX G;have Wq:L2.aN (L2.KOf KX) mg "_law_lets" My.Lj ["_law_board","_law_book","_law_rack","_law_laying_here"]:=L2.dK KX G;have Kf:L2.aN (L2.KOf KX) mg "_law_laying" My.BW ["_law_board","_law_book","_law_words_here","_law_rack","_law_cell"]:=L2.dK KX G;have Ws:L2.aN (L2.KOf KX) mg "_law_deed" My.Lk ["_law_now","_law_book","_law_words_here","_law_cell"]:=L2.dK KX G;have Hw:L2.aN (L2.KOf KX) mg "_law_taken" My.Al ["_law_rack","_law_tiles_here"]:=L2.dK KX G;have Wt:L2.aN (L2.KOf KX) mg "_law_next" My.Lp ["_law_now","_law_parts_here","_law_deed_here"]:=L2.dK KX G;have Kg:L2.aN (L2.KOf KX) mg "_law_stands" My.BX ["_law_game","_law_now"]:=L2.dK KX G;have Wu:L2.aN (L2.KOf KX) mg "_law_over" My.Lq ["_law_game","_law_deed_here"]:=L2.dK KX G;have G5:L2.aN (L2.KOf KX) mg "_law_no_back" My.yR ["_law_game"]:=L2.dK KX G;have Pg:L2.aN (L2.KOf KX) mg "_law_ended" My.Ho ["_law_game","_law_now"]:=L2.dK KX G;have Kh:L2.aN (L2.KOf KX) mg "_law_passed" My.BZ ["_law_game","_law_parts_here","_law_now"]:=L2.dK KX G;have ac4:∃C f0 f1 f2 f3 f4 fK dH fd2 oF wg,My.Ck (L2.KOf KX) mg C f0 f1 f2 f3 f4 fK dH fd2 oF wg:=by
   dsimp only[L2.KOf];refine' My.aeH KX G ?aC ?a0 ?i0 ?l0 ?c0 ?k0 ?a1 ?i1 ?l1 ?c1 ?k1 ?a2 ?i2 ?l2 ?c2 ?k2 ?a3 ?i3 ?l3 ?c3 ?k3 ?a4 ?i4 ?l4 ?c4 ?k4 ?pg ?hd ?po ?sa ?mk ?kc ?yp ?FJ ?FN
   (case aC=>k_is)
   (case a0=>k_is)
   (case i0=>k_is)
   (case l0=>k_is)
   (case c0=>k_is)
   (case k0=>k_is)
   (case a1=>k_is)
   (case i1=>k_is)
   (case l1=>k_is)
   (case c1=>k_is)
   (case k1=>k_is)
   (case a2=>k_is)
   (case i2=>k_is)
   (case l2=>k_is)
   (case c2=>k_is)
   (case k2=>k_is)
   (case a3=>k_is)
   (case i3=>k_is)
   (case l3=>k_is)
   (case c3=>k_is)
   (case k3=>k_is)
   (case a4=>k_is)
   (case i4=>k_is)
   (case l4=>k_is)
   (case c4=>k_is)
   (case k4=>k_is)
   (case pg=>k_is)
   (case hd=>k_is)
   (case po=>k_is)
   (case sa=>k_is)
   (case mk=>k_is)
   (case kc=>k_is)
   (case yp=>k_is)
   (case FJ=>k_is)
   (case FN=>k_is)
  obtain⟨_,_,_,_,_,_,_,_,_,_,_,ae3⟩:=ac4;have ae4:∃C f0 f1 f2 f3 fK dH fd2 oF,My.FP (L2.KOf KX) mg C f0 f1 f2 f3 fK dH fd2 oF:=by
   dsimp only[L2.KOf];refine' My.agY KX G ?aC ?a0 ?i0 ?l0 ?c0 ?k0 ?a1 ?i1 ?l1 ?c1 ?k1 ?a2 ?i2 ?l2 ?c2 ?k2 ?a3 ?i3 ?l3 ?c3 ?k3 ?pg ?hd ?po ?sa ?mk ?kc ?yp
   (case aC=>k_is)
   (case a0=>k_is)
   (case i0=>k_is)
   (case l0=>k_is)
   (case c0=>k_is)
   (case k0=>k_is)
   (case a1=>k_is)
   (case i1=>k_is)
   (case l1=>k_is)
   (case c1=>k_is)
   (case k1=>k_is)
   (case a2=>k_is)
   (case i2=>k_is)
   (case l2=>k_is)
   (case c2=>k_is)
   (case k2=>k_is)
   (case a3=>k_is)
   (case i3=>k_is)
   (case l3=>k_is)
   (case c3=>k_is)
   (case k3=>k_is)
   (case pg=>k_is)
   (case hd=>k_is)
   (case po=>k_is)
   (case sa=>k_is)
   (case mk=>k_is)
   (case kc=>k_is)
   (case yp=>k_is)
  obtain⟨_,_,_,_,_,_,_,_,_,ahn⟩:=ae4;have ac5:∃C f0 fK,My.Cm (L2.KOf KX) mg C f0 fK:=by
   dsimp only[L2.KOf];refine' My.aeI KX G ?aC ?a0 ?i0 ?l0 ?c0 ?k0 ?pg ?hd ?po ?sa ?mk ?kc ?yp ?FJ ?FN ?V0
   (case aC=>k_is)
   (case a0=>k_is)
   (case i0=>k_is)
   (case l0=>k_is)
   (case c0=>k_is)
   (case k0=>k_is)
   (case pg=>k_is)
   (case hd=>k_is)
   (case po=>k_is)
   (case sa=>k_is)
   (case mk=>k_is)
   (case kc=>k_is)
   (case yp=>k_is)
   (case FJ=>k_is)
   (case FN=>k_is)
   (case V0=>k_is)
  obtain⟨_,_,_,ae5⟩:=ac5;have ae6:∃C f0 f1 f2 f3 f4 f5 f6 f7 f8 fK dH fd2 oF wg Mz MF Zg Zh,My.FQ (L2.KOf KX) mg C f0 f1 f2 f3 f4 f5 f6 f7 f8 fK dH fd2 oF wg Mz MF Zg Zh:=by
   dsimp only[L2.KOf];refine' My.agZ KX G ?aC ?a0 ?i0 ?l0 ?c0 ?k0 ?a1 ?i1 ?l1 ?c1 ?k1 ?a2 ?i2 ?l2 ?c2 ?k2 ?a3 ?i3 ?l3 ?c3 ?k3 ?a4 ?i4 ?l4 ?c4 ?k4 ?a5 ?i5 ?l5 ?c5 ?k5 ?a6 ?i6 ?l6 ?c6 ?k6 ?a7 ?i7 ?l7 ?c7 ?k7 ?a8 ?i8 ?l8 ?c8 ?k8 ?pg ?hd ?po ?sa ?mk ?kc ?yp ?FJ ?FN ?V0 ?nf4 ?nf5
   (case aC=>k_is)
   (case a0=>k_is)
   (case i0=>k_is)
   (case l0=>k_is)
   (case c0=>k_is)
   (case k0=>k_is)
   (case a1=>k_is)
   (case i1=>k_is)
   (case l1=>k_is)
   (case c1=>k_is)
   (case k1=>k_is)
   (case a2=>k_is)
   (case i2=>k_is)
   (case l2=>k_is)
   (case c2=>k_is)
   (case k2=>k_is)
   (case a3=>k_is)
   (case i3=>k_is)
   (case l3=>k_is)
   (case c3=>k_is)
   (case k3=>k_is)
   (case a4=>k_is)
   (case i4=>k_is)
   (case l4=>k_is)
   (case c4=>k_is)
   (case k4=>k_is)
   (case a5=>k_is)
   (case i5=>k_is)
   (case l5=>k_is)
   (case c5=>k_is)
   (case k5=>k_is)
   (case a6=>k_is)
   (case i6=>k_is)
   (case l6=>k_is)
   (case c6=>k_is)
   (case k6=>k_is)
   (case a7=>k_is)
   (case i7=>k_is)
   (case l7=>k_is)
   (case c7=>k_is)
   (case k7=>k_is)
   (case a8=>k_is)
   (case i8=>k_is)
   (case l8=>k_is)
   (case c8=>k_is)
   (case k8=>k_is)
   (case pg=>k_is)
   (case hd=>k_is)
   (case po=>k_is)
   (case sa=>k_is)
   (case mk=>k_is)
   (case kc=>k_is)
   (case yp=>k_is)
   (case FJ=>k_is)
   (case FN=>k_is)
   (case V0=>k_is)
   (case nf4=>k_is)
   (case nf5=>k_is)
  obtain⟨_,_,_,_,_,_,_,_,_,_,_,_,_,_,_,_,_,_,_,aho⟩:=ae6;have xkl:∃a,mg "LETTER_MARKS"=some (.ref a)/\∀P:Program,L2.KDict P w (L2.KOf KX) a My.Yu:=by
   try dsimp only[L2.KOf]
   refine' My.acR KX G ?b ?l ?z ?n
   (case b=>k_is)
   (case l=>k_is)
   (case z=>rfl)
   (case n=>decide)
  obtain⟨_,kl⟩:=xkl;have xkw:∃a,mg "WORD_MARKS"=some (.ref a)/\∀P:Program,L2.KDict P w (L2.KOf KX) a My.Yv:=by
   try dsimp only[L2.KOf]
   refine' My.acR KX G ?b ?l ?z ?n
   (case b=>k_is)
   (case l=>k_is)
   (case z=>rfl)
   (case n=>decide)
  obtain⟨_,kw⟩:=xkw;have xzb:∃t:Tok,t≠0/\mg "BLANK"=some (.str (L2.S [63]) t):=by
   try dsimp only[L2.KOf]
   refine' My.akO KX G ?b ?n
   (case b=>k_is)
   (case n=>decide)
  obtain⟨_,zb⟩:=xzb;have xer:∃dj d_ iC g_ jL cB dU CR jw nQ gQ iU qb vK mO oG,My.aeJ (L2.KOf KX) mg dj d_ iC g_ jL cB dU CR jw nQ gQ iU qb vK mO oG:=by
   try dsimp only[L2.KOf]
   refine' My.ag1 KX G ?oY ?Hv ?FT ?R9 ?Oz ?oH ?Cu ?aR ?tQ ?vL ?Bm ?OD ?FW ?aaV ?OJ ?FZ ?JH ?V2 ?JK ?JL ?JM ?JN ?Ga ?JQ ?JR ?JT ?JV ?zX ?uH ?ac2 ?V3 ?V4 ?V5 ?V6 ?O1 ?V7 ?V8 ?V9 ?V_ ?Gb ?yq ?MP ?Cv ?Cw ?Cy ?Cz ?zY ?CJ ?CP ?CQ ?CV ?uI ?Q_ ?Gd ?Ge ?Gf ?Gg ?CZ ?Gh ?Gi ?Gj ?Gk ?vO ?hn ?ht ?JW ?JX ?JZ ?J0 ?C_ ?J1 ?Wa ?Wb ?Wc ?Wd ?M4 ?Wf ?Dc ?Dd ?Df ?Dg ?wW ?Dh ?Gn ?Gp ?Gq ?Gr ?zu ?Gs ?g2 ?rd ?fc
   (case oY=>k_is)
   (case Hv=>k_is)
   (case FT=>k_is)
   (case R9=>k_is)
   (case Oz=>k_is)
   (case oH=>k_is)
   (case Cu=>k_is)
   (case aR=>k_is)
   (case tQ=>k_exc)
   (case vL=>k_exc)
   (case Bm=>k_exc)
   (case OD=>kernel_rfl)
   (case FW=>kernel_rfl)
   (case aaV=>kernel_rfl)
   (case OJ=>kernel_rfl)
   (case FZ=>kernel_rfl)
   (case JH=>kernel_rfl)
   (case V2=>k_is)
   (case JK=>k_is)
   (case JL=>k_is)
   (case JM=>k_is)
   (case JN=>k_is)
   (case Ga=>kernel_rfl)
   (case JQ=>k_is)
   (case JR=>kernel_rfl)
   (case JT=>k_is)
   (case JV=>k_is)
   (case zX=>k_is)
   (case uH=>k_is)
   (case ac2=>k_is)
   (case V3=>k_is)
   (case V4=>k_is)
   (case V5=>k_is)
   (case V6=>k_is)
   (case O1=>kernel_rfl)
   (case V7=>k_is)
   (case V8=>kernel_rfl)
   (case V9=>k_is)
   (case V_=>k_is)
   (case Gb=>k_is)
   (case yq=>k_is)
   (case MP=>k_is)
   (case Cv=>k_is)
   (case Cw=>k_is)
   (case Cy=>k_is)
   (case Cz=>k_is)
   (case zY=>kernel_rfl)
   (case CJ=>k_is)
   (case CP=>kernel_rfl)
   (case CQ=>k_is)
   (case CV=>k_is)
   (case uI=>k_is)
   (case Q_=>k_is)
   (case Gd=>k_is)
   (case Ge=>k_is)
   (case Gf=>k_is)
   (case Gg=>k_is)
   (case CZ=>kernel_rfl)
   (case Gh=>k_is)
   (case Gi=>kernel_rfl)
   (case Gj=>k_is)
   (case Gk=>k_is)
   (case vO=>k_is)
   (case hn=>k_is)
   (case ht=>k_is)
   (case JW=>kernel_rfl)
   (case JX=>k_is)
   (case JZ=>k_is)
   (case J0=>k_is)
   (case C_=>k_is)
   (case J1=>k_is)
   (case Wa=>kernel_rfl)
   (case Wb=>k_is)
   (case Wc=>k_is)
   (case Wd=>k_is)
   (case M4=>k_is)
   (case Wf=>k_is)
   (case Dc=>kernel_rfl)
   (case Dd=>k_is)
   (case Df=>k_is)
   (case Dg=>k_is)
   (case wW=>k_is)
   (case Dh=>k_is)
   (case Gn=>kernel_rfl)
   (case Gp=>k_is)
   (case Gq=>k_is)
   (case Gr=>k_is)
   (case zu=>k_is)
   (case Gs=>k_is)
   (case g2=>k_is)
   (case rd=>k_is)
   (case fc=>k_is)
  obtain⟨_,_,_,_,_,_,_,_,_,_,_,_,_,_,_,_,er⟩:=xer;have xeo:∃fY eE kJ nD dj cB CR,My.aeS (L2.KOf KX) mg fY eE kJ nD dj cB CR:=by
   try dsimp only[L2.KOf]
   refine' My.ag2 KX G ?Wi ?J3 ?J4 ?J5 ?oY ?oH ?aR ?hn ?ht ?Gu ?Wj ?O2 ?O4 ?O5 ?O6 ?O7 ?O8 ?Wk ?Wm ?yr ?J6 ?Gv ?Gw ?Gx ?Gy ?Gz ?GC ?J7 ?J8 ?J9 ?J_ ?Di ?GD ?Ka ?Wn ?Kc
   (case Wi=>k_is)
   (case J3=>k_is)
   (case J4=>k_is)
   (case J5=>k_is)
   (case oY=>k_is)
   (case oH=>k_is)
   (case aR=>k_is)
   (case hn=>k_is)
   (case ht=>k_is)
   (case Gu=>k_exc)
   (case Wj=>kernel_rfl)
   (case O2=>kernel_rfl)
   (case O4=>k_is)
   (case O5=>k_is)
   (case O6=>k_is)
   (case O7=>k_is)
   (case O8=>k_is)
   (case Wk=>kernel_rfl)
   (case Wm=>kernel_rfl)
   (case yr=>k_exc)
   (case J6=>kernel_rfl)
   (case Gv=>kernel_rfl)
   (case Gw=>k_is)
   (case Gx=>k_is)
   (case Gy=>k_is)
   (case Gz=>k_is)
   (case GC=>k_is)
   (case J7=>kernel_rfl)
   (case J8=>kernel_rfl)
   (case J9=>kernel_rfl)
   (case J_=>kernel_rfl)
   (case Di=>kernel_rfl)
   (case GD=>kernel_rfl)
   (case Ka=>kernel_rfl)
   (case Wn=>kernel_rfl)
   (case Kc=>kernel_rfl)
  obtain⟨_,_,_,_,_,_,_,eo⟩:=xeo;have lw:∃fd:FuncData,L2.fG (L2.KOf KX) "law" "law" My.RW fa fd/\∀(s:Shared) (v:Value),BindsTo s fd ⟨[v],[]⟩ [("_law_script",v)]:=by
   dsimp only[L2.KOf];refine' L2.aip KX G hmg ?a ?l ?c ?k ?b
   case a|l|c|k=>k_is
   (case b=>exact λ_ _ _ _ _ _ _=>rfl)
  obtain⟨fd,F,hb⟩:=lw;exact⟨fd,hb,λbase _ _=>My.ag3 bH fQ cQ i_ Fv iR bA mK pP wU gA zc LQ tM zf Ml qN jW gY Aw Aq pY wX GJ zZ GP GQ Dj Dk z9 tR vP Dl vQ z_ Aa Dm uY GR qe Kd yt rB yu uJ vR uK Dn GX vU Dp Ab vV Ac zx Dq Ad tU vW GZ yw G3 Ke G4 O9 Wo O_ Pa Pb Ae Wq Kf Ws Hw Wt Kg Wu G5 Pg Kh ae3 ahn ae5 aho kl kw zb er eo F⟩
